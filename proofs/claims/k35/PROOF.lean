import PyProof.Rows.All
import Wide.All
import OpenK.AllK
import Wide.FinOn
import Lean
import PyProof.EqAt
import PyProof.EqKinds
import PyProof.TupleCall
import PyProof.NeKinds
import PySem.Challenge.RW_standstill_k35_spread_walked
set_option Elab.async false
set_option hygiene false
def Zz.tp:Nat->List String->Array Lean.Term->Lean.MacroM (Array Lean.Term×List String)
|0,_,_=>Lean.Macro.throwUnsupported
|_,[],a=>pure (a,[])
|n+1,x::l,a=>do
 if x=")" then return(a,l)
 if x="(" then
  let(b,l)<-tp n l #[]
  return<-tp n l (a.push (Lean.Syntax.mkApp b[0]! (b.extract 1 b.size)))
 if x=".ok" then
  let t:=a.back!
  return<-tp n l (a.pop.push (<-`(($t).ok)))
 tp n l (a.push (<-match x with|"?"=>`(?_)|"_"=>`(_)|"!"=>`(by assumption)|"1"=>`(@1)|"%"=>`(hr.mono (by decide))|"rfl"=>`(rfl)|_=>if x.front='\'' then pure (Lean.Syntax.mkStrLit (x.drop 1).toString)else pure (Lean.mkIdent x.toName)))
def Zz.tm(s:String):Lean.MacroM Lean.Term:=do
 let(b,_)<-Zz.tp 99 (s.splitOn " ") #[]
 return Lean.Syntax.mkApp b[0]! (b.extract 1 b.size)
def Zz.fs(s:String):Lean.MacroM (Array (Lean.TSyntax ``Lean.Parser.Tactic.tacticSeq)):=(s.splitOn "|").toArray.mapM fun x=>do
 let t<-Zz.tm x
 `(Lean.Parser.Tactic.tacticSeq|refine $t)
def Zz.gr(j:String)(a:Array (Lean.TSyntax ``Lean.Parser.Tactic.tacticSeq)):Lean.MacroM (Lean.TSyntax ``Lean.Parser.Tactic.tacticSeq):=do
 let j<-Zz.tm j
 `(Lean.Parser.Tactic.tacticSeq|(with_reducible show $j);first $[|$a]*)
set_option hygiene true
def Zz.st(s:Lean.Syntax):=s.rewriteBottomUp fun s=>
 if s.getKind==``Lean.Parser.Term.tuple then
  let a:=s[1].getArgs
  if a.size>0&&a[2]!.getArgs.size%2==1 then .node .none ``Lean.Parser.Term.anonymousCtor #[.atom .none "⟨",.node .none `null (#[a[0]!,a[1]!]++a[2]!.getArgs),.atom .none "⟩"] else s
 else if s.getKind==``Lean.Parser.Tactic.show then .node .none ``Lean.Parser.Tactic.refine #[.atom .none "refine",s[1]]
 else s.setInfo .none
def Zz.rc:Nat->Lean.Term->Lean.MacroM (Lean.TSyntax `rcasesPat)
|0,_=>Lean.Macro.throwUnsupported
|n+1,t=>do
 let b:=match t with|`(($a,$b,*))=>#[a]++b.getElems|`(⟨$b,*⟩)=>b.getElems|_=>#[]
 if b.size>0 then
  let l<-b.mapM fun x=>do let y<-rc n x;`(Lean.Parser.Tactic.rcasesPatLo|$y:rcasesPat)
  return<-`(rcasesPat|⟨$l,*⟩)
 match t with|`($i:ident)=>`(rcasesPat|$i:ident)|_=>`(rcasesPat|_)
set_option genSizeOf false
set_option linter.all false
set_option compiler.extract_closed false
set_option bootstrap.genMatcherCode false
local macro_rules
|`(def $d:declId $b* :$t $v:declVal)=>do return Zz.st (<-if t.raw.isIdent||t.raw.isOfKind `Lean.Parser.Term.prop||[`Option,`List].contains t.raw[0].getId then `(noncomputable def $d $b* :$t $v:declVal)else `(theorem $d $b* :$t $v:declVal))
|`(nonrec def $d:declId $s:optDeclSig $v:declVal)=>do return Zz.st (<-`(@[reducible] noncomputable def $d $s:optDeclSig $v:declVal))
|`(abbrev $d:declId $s:optDeclSig $v:declVal)=>do return Zz.st (<-`(noncomputable def $d $s:optDeclSig $v:declVal))
|`(def $d:declId $v:declVal)=>do return Zz.st (<-`(noncomputable def $d $v:declVal))
local macro_rules
|`(tactic|have $p:term:=$e)=>do let q<-Zz.rc 9 p;`(tactic|obtain $q:rcasesPat:=$e)
|`(tactic|show%$s $e)=>if s.getHeadInfo matches .original .. then `(tactic|refine $e)else Lean.Macro.throwUnsupported
local macro_rules
|`((%$s $a,$b,*))=>if b.elemsAndSeps.size%2=1&&s.getHeadInfo matches .original .. then `(⟨$a,$b,*⟩)else Lean.Macro.throwUnsupported
set_option maxRecDepth 100000
open Array renaming length_toList->iy,getElem?_eq_getElem->lc,getElem?_toList->oJ,getD->oK,toList_push->vn
open Bool renaming false->ae,true->ab,false_ne_true->bD,and_eq_true->bV,or_eq_true->iZ,noConfusion->jq,eq_iff_iff->j5,and_false->oM,true_and->oN,or_true->oO,and_true->rh,not_not->rj
open False renaming elim->gL
open ForInStep renaming yield->mY
open Int renaming toNat_natCast->dA,emod_lt_of_pos->e9,emod_nonneg->dU,lt_of_le_of_lt->vo,lt_of_lt_of_le->vp,mul_le_mul_of_nonneg_left->BX
open List renaming mem_cons_self->aB,getD_eq_getElem?_getD->bM,mem_cons_of_mem->be,getElem?_eq_some_iff->cA,length_map->aH,getElem?_eq_getElem->cI,length_append->bf,getElem?_map->bN,getElem?_eq_none->dB,mem_append_right->cV,map_append->bn,mem_cons->aW,range->bw,mem_of_getElem?->cW,mem_map->aO,not_mem_nil->bO,append_nil->bB,mem_singleton->cB,mem_append->bI,length_range->cq,length_singleton->dN,getElem?_cons_succ->gM,mem_append_left->dO,length_cons->cr,nodup_cons->bW,append_assoc->cX,getElem?_set_self->i0,mem_filter->cQ,map_cons->bP,zip_cons_cons->eP,getElem?_append_left->j6,foldl_append->eQ,getElem?_append_right->lg,nodup_append->fM,getElem?_set_ne->j7,getElem?_of_mem->j8,foldl_cons->d6,mem_range->dW,length_filter_le->jt,nodup_nil->fc,getElem?_range->mZ,getElem_mem->lh,length_set->g7,length_take->i4,replicate->lq,any_cons->gj,length_drop->j9,ext_getElem?->lr,zipWith->m3,lookup_cons->ls,getElem?_replicate->vq,length_eq_zero_iff->rk,filterMap_cons->oP,zipWith_cons_cons->rm,all_map->oQ,any_map->oR,map_nil->iz,pairwise_cons->oS,set_cons_succ->oT,length_replicate->rn,map_set->i5,filter_sublist->rp,all_cons->lu,set_cons_zero->rq,filter_append->rA,filter_cons_of_pos->vt
open List.Nodup renaming sublist->vv
open List.Pairwise renaming map->vw,sublist->BY
open List.Perm renaming append_left->vz,refl->rB,cons->vA
open List.cons renaming inj->ka
open Nat renaming le_refl->aP,lt_succ_self->cR,ne_of_lt->bT,lt_of_lt_of_le->eR,le_trans->cJ,zero_le->cK,le_of_lt->eS,lt_irrefl->gN,not_lt_zero->iA,lt_succ_of_lt->ju,lt_of_le_of_lt->m4,zero_add->jw,le_succ->jx,le_of_ble_eq_true->rC,lt_trans->m5,le_of_not_lt->rE,ne_of_gt->oU,succ_pos->oV,min_self->rF,le_add_right->vB
open Ne renaming symm->fN
open Option renaming some->aa,none->ac,bind_some->aw,isSome_iff_exists->rG,map_some->vC
open Option.some renaming inj->cS
open Or renaming inr->bC,inl->b8
open Prod.mk renaming inj->oW
open PyProof.Rows renaming callWith_type1->oX,callWith_builtin1->rH,firstMet->d7,IntsAre->fh,envOfC->fO,AllBare->jy,boot_sum->lw,boot_any->lx
open PySem renaming wpAny_bind->ap,Shared->ah,wpAny_pure->aI,starEach->aR,sizeLine->aT,mainGlobals->b9,sizeLine_eq->df,compareOp->cu,Program->bX,wpAny_Call_Name_kw->jz,wpAny_newObj_type->jA,FuncData->dg,wpAny_mono->fj,foldedSetIterable->kc,sysModules->gO,backTo->cv,wpAny_truthy_bool->ly,swapsWith->fP,codeAny_builtin->ke,bootBuiltins->i6,wpAny_holding->jB,wpAny_call_entry->lz,assignEach->g8,binaryOp->fm,rawInt->cT,wpAny_setField_rec->m6,Around->b7,wpAny_passesOwn->lA,keywordEach->i7,behindInMarks->kf,NameKind->fQ,mem_of_lookup->oY,wpAny_setState_of->m7,wpAny_setEntries_of->oZ,intKind->fq,holding->fu,attributeBase->lB,wpAny_loadPart'->rJ,tupleKind_room_in1->o7,wpAny_callSpecial?_slot->rK,getMethod->i8,scanBound->i9,plainId_quiet->m8,sliceBounds->lC,codeAny_mono->m9,backToKw->ja,standAt->g9,codeAny->hE,wpAny_pyIter_list->rL,wpAny_rule->lD,pickOrder->iB,Spec->SF,wpAny_execs_nil->rM,builtinLookup_eq_fast->vE,callWith->kg,wpAny_fieldsOf->rN,firstArgMember->rO,Paired->gP,pyNext->iC,SetTable->c3,relayAll->lE,wpAny_attempt->rP
open PySem.Around renaming in1_units->rQ
open PySem.Builtin.Int renaming intBits->rR
open PySem.Builtin.List renaming listExtendWith->BZ,listTooLong->B0,listSameRef->B1
open PySem.Calls renaming spliced_cons->jb,callWith_builtin->rS,evalArgs_plain->vF,spliced_nil->vG
open PySem.F renaming plainAttrs_list->iD,slot_list_append->rT,type_list_append->rU,called_set->kh,slot_list_clear->vH,type_list_clear->vI,slot_dict_get->vJ,slot_dict_setdefault->B2
open PySem.Heap renaming get?_push_of_some->bG,get?_push_size->cY,lt_size->bx,size_push->iE,SameBut->gn,get?_update_other->rV,get?_update_self->rW
open PySem.Heap.SameBut renaming update->o8
open PySem.NameKind renaming free->fw,cell->lF
open PySem.Obj renaming mapSeq->jc
open PySem.Paired renaming length->nc
open PySem.PassesOwn renaming never->dX
open PySem.SeqAt renaming EqAt->ca
open PySem.SeqAt.EqAt renaming int_str->vK,str_int->vL,same->vM
open PySem.SetTable renaming below->cb,grown->nh
open PySem.SetTable.below renaming go->rX
open PySem.Str renaming empty->nj,ofString->rY
open PySem.Value renaming ref->fR,bool->hJ,none->lG,type->lH
open PySem.W renaming Frag->aU,findIn->cw,mg_none_of->fS,kia_one->iF,nsIn->dC,plainGet->jC,hasDictIn->ki,emptyDict->kj,keepIn->iG,plainOver->lI,instObj->km,makesIn->lJ
open Sum renaming inl->fT,inr->jd
open Sum.inl renaming inj->rZ
open True renaming intro->hU
nonrec abbrev LB0:=List Bool
nonrec abbrev LI0:=List Int
nonrec abbrev LII:=List (Int×Int)
nonrec abbrev LOB:=List (Option Bool)
nonrec abbrev PRS:=PySem.Value->PySem.Shared->Prop
nonrec abbrev MGT:=PySem.Str->Option PySem.Value
nonrec abbrev PNS:=List (PySem.Addr×PySem.Obj)
nonrec abbrev LN:=List Nat
nonrec abbrev L2N:=List LN
nonrec abbrev LSt:=List PySem.Str
nonrec abbrev LVa:=List PySem.Value
nonrec abbrev LAd:=List PySem.Addr
nonrec abbrev LEx:=List PySem.Expr
def Za(_:True:=by rfl)(_:True:=by decide)(_:True:=by intro _;rfl)(_:True:=by first |exact b8 rfl |exact bC (b8 rfl) |exact bC (bC rfl))(_:True:=by first |exact b8 rfl |exact bC rfl)(_:True:=by first |exact .inl rfl |exact .inr rfl)(_:True:=by first |exact .inl rfl |exact .inr rfl |assumption)(_:True:=by first |rfl |exact glc rfl)(_:True:=by exact λ_ _=>rfl)(_:True:=by exact rC rfl)(_:True:=by first |exact nobehind _ (by decide) (by decide) |rfl)(_:True:=by walk_at "bd")(_:True:=by decide +kernel)(_:True:=by first |exact Cm _ |rfl):=0
namespace Za
end Za
open Za renaming _auto_1->Zb,_auto_2->Zc,_auto_3->Zd,_auto_4->Ze,_auto_5->Zf,_auto_6->Zg,_auto_7->Zh,_auto_8->Zi,_auto_9->Zj,_auto_10->Zk,_auto_11->Zl,_auto_12->Zm,_auto_13->Zn,_auto_14->Zo
namespace L2
open List
open PySem PySem.Spec PyProof.Rows
nonrec def Key:=Sum Int Str
abbrev ko:Key->Value->Bool
 |.inl k,v=>Value.isInt k v
 |.inr x,v=>Value.isStrOf x v
abbrev B3(w:World):Key->Int
 |.inl k=>hashInt k
 |.inr x=>hashStr w x
def iH:∀{k:Key} {v:Value},ko k v=ab->(∃i t,k=fT i/\v=Value.int i t)\/(∃x t,k=jd x/\v=Value.str x t)
 |.inl i,v,h=>by
  have(t,e):=Value.isInt_shape h
  show .inl (i,t,rfl,e)
 |.inr x,v,h=>by
  have(t,e):=Value.isStrOf_shape h;show .inr (x,t,rfl,e)
def B4(i:Int)(t:Tok):ko (.inl i) (.int i t)=ab:=by simp[ko,Value.isInt]
def B5(x:Str)(t:Tok):ko (.inr x) (.str x t)=ab:=by simp[ko,Value.isStrOf]
def r6(a b:Int):decide ((fT a:Key)=fT b)=(a==b):=by grind
def B6(a b:Str):decide ((jd a:Key)=jd b)=decide (a=b):=by grind
def vN(a:Int)(b:Str):decide ((fT a:Key)=jd b)=ae:=decide_eq_false (λq=>nomatch q)
def vO(a:Str)(b:Int):decide ((jd a:Key)=fT b)=ae:=decide_eq_false (λq=>nomatch q)
abbrev ku(prog:bX)(w:World):PySem.KeyKind prog w Key where
 is:=ko
 hash:=B3 w
 inj:=λv a b ha hb=>by
  rcases iH ha with⟨i,t,rfl,rfl⟩ |⟨x,t,rfl,rfl⟩
  .rcases iH hb with⟨j,u,rfl,e⟩ |⟨y,u,rfl,e⟩
   .injection e with e1 _;rw[e1]
   .show nomatch e
  .rcases iH hb with⟨j,u,rfl,e⟩ |⟨y,u,rfl,e⟩
   .show nomatch e
   .injection e with e1 _;rw[e1]
 byValue:=λk v h=>by
  rcases iH h with⟨i,t,rfl,rfl⟩ |⟨x,t,rfl,rfl⟩ <;> rfl
 pyHash:=λhv h=>by
  rcases iH hv with⟨i,t,rfl,rfl⟩ |⟨x,t,rfl,rfl⟩
  .show wpAny_pyHash_int h
  .show wpAny_pyHash_str h
 eqBool:=λhu hv h=>by
  rcases iH hu with⟨i,t,rfl,rfl⟩ |⟨x,t,rfl,rfl⟩
  .rcases iH hv with⟨j,u,rfl,rfl⟩ |⟨y,u,rfl,rfl⟩
   .rw[r6]at h;show wpAny_eqBool_int h
   .rw[vN]at h;show vK i t y u _ _ _ _ h
  .rcases iH hv with⟨j,u,rfl,rfl⟩ |⟨y,u,rfl,rfl⟩
   .rw[vO]at h;show vL x t j u _ _ _ _ h
   .rw[B6]at h;show wpAny_eqBool_str h
 «strs»:=λk x t v h=>by
  rcases iH h with⟨i,u,rfl,e⟩ |⟨y,u,rfl,e⟩
  .show nomatch e
  .injection e with e1 _
   subst e1
   cases v <;> rfl
def Hw(prog:bX)(w:World)(i:Int)(t:Tok):(ku prog w).is (.inl i) (.int i t)=ab:=B4 i t
def Hx(prog:bX)(w:World)(x:Str)(t:Tok):(ku prog w).is (.inr x) (.str x t)=ab:=B5 x t
inductive V where
 |non |bl (b:Bool) |int (i:Int) |str (x:Str) |byt (b:Array UInt8) |flt (b:UInt64) |ref (a:Addr) |ty (n:String)
 deriving DecidableEq
nonrec abbrev LVv:=List V
abbrev aC:V->Value->Prop
 |.non,u=>u=lG
 |.bl b,u=>u=hJ b
 |.int i,u=>∃t,u=Value.int i t
 |.str x,u=>∃t,u=Value.str x t
 |.byt b,u=>∃t,u=Value.bytes b t
 |.flt b,u=>∃t,u=Value.float b t
 |.ref a,u=>u=fR a
 |.ty n,u=>u=lH n
nonrec abbrev aJ:LVv->LVa->Prop:=gP aC
variable{B:LVv}{us:LVa}
def aJ.length(r:aJ B us):B.length=us.length:=nc r
def aJ.get:∀{B:LVv} {us:LVa} {i:Nat} {x:V},aJ B us->B[i]?=aa x->∃u,us[i]?=aa u/\aC x u
 | _,_,_,_,.nil,e=>by simp at e
 | _,_,0,_,.cons r _,e=>by simp at e;subst e;show(_,rfl,r)
 | _,_,i+1,x,.cons _ t,e=>by
  have(u,a,b):=aJ.get t (by simpa using e);show(u,by simpa using a,b)
def aJ.set{x:V}{u:Value}(r:aC x u):∀{B:LVv} {us:LVa} (i:Nat),aJ B us->aJ (B.set i x) (us.set i u)
 | _,_,_,.nil=>.nil
 | _,_,0,.cons _ t=>.cons r t
 | _,_,i+1,.cons q t=>.cons q (aJ.set r i t)
def aJ.append:∀{B a:LVv} {us ws:LVa},aJ B us->aJ a ws->aJ (B++a) (us++ws)
 | _,_,_,_,.nil,s=>s
 | _,_,_,_,.cons r t,s=>.cons r (aJ.append t s)
def aJ.take:∀{B:LVv} {us:LVa} (n:Nat),aJ B us->aJ (B.take n) (us.take n)
 | _,_,0,_=>.nil
 | _,_,_+1,.nil=>.nil
 | _,_,n+1,.cons r t=>.cons r (aJ.take n t)
def aJ.drop:∀{B:LVv} {us:LVa} (n:Nat),aJ B us->aJ (B.drop n) (us.drop n)
 | _,_,0,r=>r
 | _,_,_+1,.nil=>.nil
 | _,_,n+1,.cons _ t=>aJ.drop n t
abbrev d8:Option V->Option Value->Prop
 |some v,aa u=>aC v u
 |none,ac=>True
 | _,_=>False
abbrev KV{a:Type}:List (a×V)->List (a×Value)->Prop:=gP λ(p:a×V) (q:a×Value)=>p.1=q.1/\aC p.2 q.2
abbrev kV:Key->V
 |.inl i=>.int i
 |.inr x=>.str x
abbrev kR:Key->V->Prop
 |.inl i,v=>v=.int i\/∃b:Bool,v=.bl b/\i=cond b 1 0
 |.inr x,v=>v=.str x
abbrev vP:Key->Value->Bool
 |.inl k,.bool b=>decide (k=cond b 1 0)
 |k,v=>ko k v
def lK{k:Key}{v:Value}(h:vP k v=ab):(∃i t,k=.inl i/\v=.int i t)\/(∃b:Bool,k=.inl (cond b 1 0)/\v=.bool b)\/(∃x t,k=.inr x/\v=.str x t):=by
 unfold vP at h;split at h
 .rename_i a b;show .inr (.inl (b,by rw[of_decide_eq_true h],rfl))
 .rcases iH h with q |q
  .show .inl q
  .show .inr (.inr q)
def Hy(a b:Bool):decide ((fT (cond a 1 0):Key)=fT (cond b 1 0))=(a==b):=by cases a <;> cases b <;> decide
def Hz(a:Bool)(j:Int):decide ((fT (cond a 1 0):Key)=fT j)=((if a then 1 else 0)==j):=by rw[r6];cases a <;> rfl
def HA(j:Int)(a:Bool):decide ((fT j:Key)=fT (cond a 1 0))=(j==(if a then 1 else 0)):=by rw[r6];cases a <;> rfl
variable{prog:bX}{w:World}{A:b7}{S5:PRS}
def HB{s:ah}{b:Bool}{Q:Int->ah->Prop}(h:Q (hashInt (cond b 1 0)) {s with toks:=s.toks+1}):wpAny (model prog w) A (pyHash (.bool b)) Q S5 s:=by
 show W.pyHash_slot (T:="bool") rfl PySem.F.slot_bool_hash PySem.entry_int_hash (PySem.args_int_hash _) (beq_builtin_none _) (.inl rfl) ?_;cases b
 .show(show wpAny _ _ (do ret (<- mkInt 0)) _ _ s from ap (wpAny_mkInt (aI (_,_,rfl,h))))
 .show(show wpAny _ _ (do ret (<- mkInt 1)) _ _ s from ap (wpAny_mkInt (aI (_,_,rfl,h))))
abbrev lL(prog:bX)(w:World):PySem.KeyKind prog w Key where
 is:=vP
 hash:=B3 w
 inj:=λv a b ha hb=>by
  rcases lK ha with⟨i,t,rfl,rfl⟩ |⟨c,rfl,rfl⟩ |⟨x,t,rfl,rfl⟩ <;> rcases lK hb with⟨j,u,rfl,e⟩ |⟨d,rfl,e⟩ |⟨y,u,rfl,e⟩ <;> cases e <;> rfl
 byValue:=λk v h=>by
  rcases lK h with⟨i,t,rfl,rfl⟩ |⟨c,rfl,rfl⟩ |⟨x,t,rfl,rfl⟩ <;> rfl
 pyHash:=λhv h=>by
  rcases lK hv with⟨i,t,rfl,rfl⟩ |⟨c,rfl,rfl⟩ |⟨x,t,rfl,rfl⟩
  .show wpAny_pyHash_int h
  .show HB h
  .show wpAny_pyHash_str h
 eqBool:=λhu hv h=>by
  rcases lK hu with⟨i,t,rfl,rfl⟩ |⟨c,rfl,rfl⟩ |⟨x,t,rfl,rfl⟩ <;> rcases lK hv with⟨j,u,rfl,rfl⟩ |⟨d,rfl,rfl⟩ |⟨y,u,rfl,rfl⟩
  .rw[r6]at h;show ca.int_int _ _ _ _ _ _ _ _ h
  .rw[HA]at h;show ca.int_bool _ _ _ _ _ _ _ h
  .rw[vN]at h;show vK _ _ _ _ _ _ _ _ h
  .rw[Hz]at h;show ca.bool_int _ _ _ _ _ _ _ h
  .rw[Hy]at h;show ca.bool_bool _ _ _ _ _ _ h
  .rw[vN]at h;show ca.bool_str _ _ _ _ _ _ _ h
  .rw[vO]at h;show vL _ _ _ _ _ _ _ _ h
  .rw[vO]at h;show ca.str_bool _ _ _ _ _ _ _ h
  .rw[B6]at h;show wpAny_eqBool_str h
 «strs»:=λk x t v h=>by
  rcases lK h with⟨i,u,rfl,e⟩ |⟨c,rfl,e⟩ |⟨y,u,rfl,e⟩
  .show nomatch e
  .show nomatch e
  .injection e with e1 _
   subst e1
   cases v <;> rfl
variable{P:bX}{v:V}
def HC{k:Key}{u:Value}(q:kR k v)(r:aC v u):(lL P w).is k u=ab:=by
 cases k with
 |inl i=>
  rcases q with rfl |⟨b,rfl,rfl⟩
  .have(t,e):=(show ∃t,u=Value.int i t from r);subst e;show B4 i t
  .cases (show u=hJ b from r);cases b <;> rfl
 |inr x=>cases (show v=V.str x from q);have(t,e):=(show ∃t,u=Value.str x t from r);subst e;show B5 x t
nonrec abbrev KRs:List Key->LVv->Prop:=gP kR
def B7{P:bX}{w:World}:∀{ks:List Key} {vs:LVv} {us:LVa},KRs ks vs->aJ vs us->ItemsAre (lL P w) ks us
 | _,_,_,.nil,r=>by cases r;show .nil
 | _,_,_,.cons q t,r=>by
  cases r with
  |cons h t'=>show .cons (HC q h) (B7 t t')
inductive HO where
 |lst (B:LVv)
 |tup (B:LVv)
 |dK (kvs:List (Key×V)) |dT (kvs:List (List Key×V))
 |set (S:Int->Bool) (n:Nat)
 |ins (S4 dx:Addr) (fs:List (Str×V))
 |own (x:Addr)
 |xd (fs:List (Str×V))
 |met (f x:Addr)
 |rng (lo hi:Int)
 |frz (o:Obj) (u:HO)
 |tbl (ps:Array Value)
 |ext (φ:Heap->Prop)
nonrec def Hp:=Addr->Option HO
def eT(H:Hp)(b:Addr)(k:List Key):Prop:=∃vs,H b=aa (.tup vs)/\KRs k vs
variable{H H':Hp}{b:Addr}
def eT.up{k:List Key}(h:eT H b k)(a:∀b B,H b=aa (.tup B)->H' b=aa (.tup B)):eT H' b k:=let (vs,e,q):=h;(vs,a _ _ e,q)
def upd(H:Hp)(a:Addr)(o:HO):Hp:=λb=>if b=a then aa o else H b
variable{a:Addr}
def a9{o:HO}:upd H a o a=aa o:=by unfold upd;rw[if_pos rfl]
def aK{o:HO}(h:b≠a):upd H a o b=H b:=by unfold upd;rw[if_neg h]
def B8{o u:HO}(h:H a=aa o)(h':H b=aa u)(d:o≠u):a≠b:=by grind
def eU{o:HO}(h:H a=aa o)(h':H b=ac):a≠b:=by
 intro e;subst e;rw[h]at h';cases h'
section
variable(P:bX)(w:World)
abbrev dD(H:Hp)(h:Heap)(a:Addr):HO->Prop
 |.lst B=>B.length<=aT/\∃(L:LVa) (n:Nat),aJ B L/\h.get? a=aa {cls:=.type "list",data:=.seq L.toArray n}
 |.tup B=>B.length<=aT/\∃L:LVa,aJ B L/\IsTup h a L.toArray
 |.dK kvs=>kvs.length<=aT/\(a==gO)=ae/\∃vs,KV kvs vs/\h.DictOf (ku P w) a vs
 |.dT kvs=>kvs.length<=aT/\(a==gO)=ae/\∃B:List (List Key×Addr×Value),
   gP (λ(p:List Key×V) (q:List Key×Addr×Value)=>p.1=q.1/\eT H q.2.1 p.1/\aC p.2 q.2.2) kvs B /\
   ∃o es d,h.get? a=aa o/\o.ExactDict/\o.data=.dict es d/\es.toList=B.map (entryOfKey (tupleKind (lL P w)))/\(B.map (·.1)).Nodup
 |.set S n=>h.SetOf (fq P w) a S n
 |.ins S4 dx fs=>H dx=aa (.own a)/\fs.length<=1000/\dx≠a/\h.get? a=aa (km S4 dx) /\
   ∃mA,h.Ns1 dx mA/\(∀f,d8 (fs.lookup f) (mA f))/\PySem.Within mA (fs.map (·.1))
 |.own _=>∃o,h.get? a=aa o
 |.xd fs=>∃mA,h.Ns1 a mA/\∀f,d8 (fs.lookup f) (mA f)
 |.rng lo hi=>∃t u v,h.get? a=aa {cls:=.type "range",data:=.fields #[.int lo t,.int hi u,.int 1 v]}
 |.frz o u=>h.get? a=aa o/\dD H h a u
 |.tbl ps=>h.get? a=aa {cls:=.none,data:=.fields ps}
 |.met f x=>h.get? a=aa (W.methodObj (.ref f) (.ref x))
 |.ext φ=>φ h/\(∃o,h.get? a=aa o)/\∀b c:Heap,φ b->(∀o,b.get? a=aa o->c.get? a=aa o)->φ c
def HOk(H:Hp)(h:Heap):Prop:=∀a o,H a=aa o->dD P w H h a o
end
variable{h:Heap}
def dD.lt{o:HO}(x:dD P w H h a o):a<h.objs.size:=by
 cases o with
 |lst B=>have(_,_,_,_,e):=x;show bx e
 |tup B=>have(_,_,_,p):=x;show p.lt
 |dK kvs=>have(_,_,_,_,o,_,_,e,_):=x;show bx e
 |dT kvs=>have(_,_,_,_,o,_,_,e,_):=x;show bx e
 |set S n=>have(o,_,_,_,e,_):=x;show bx e
 |ins S4 dx fs=>have(_,_,_,e,_):=x;show bx e
 |own y=>have(_,e):=x;show bx e
 |xd fs=>have(_,(_,_,_,e,_),_):=x;show bx e
 |rng lo hi=>have(_,_,_,e):=x;show bx e
 |frz b u=>have(e,_):=x;show bx e
 |tbl ps=>show bx (x)
 |met f y=>show bx (x)
 |ext φ=>have(_,(_,e),_):=x;show bx e
def gP.mapP{e g:Type}{F G:e->g->Prop}:∀{c:List e} {d:List g},gP F c d->(∀a b,F a b->G a b)->gP G c d
 | _,_,.nil,_=>.nil
 | _,_,.cons r t,f=>.cons (f _ _ r) (gP.mapP t f)
variable{h':Heap}
section
variable{o:HO}
def dD.stay(x:dD P w H h a o)(k:∀b u,(b=a\/H b=aa (.own a))->h.get? b=aa u->h'.get? b=aa u)
 (l:∀b,H b=aa (.own a)->H' b=aa (.own a))(m:∀b B,H b=aa (.tup B)->H' b=aa (.tup B)):dD P w H' h' a o:=by
 induction o with
 |lst B=>have(z,L,n,r,e):=x;show(z,L,n,r,k _ _ (.inl rfl) e)
 |tup B=>have(z,L,r,g,e,c):=x;show(z,L,r,g,k _ _ (.inl rfl) e,c)
 |dK kvs=>have(z,y,vs,r,g,es,i,e,c):=x;show(z,y,vs,r,g,es,i,k _ _ (.inl rfl) e,c)
 |dT kvs=>
  have(z,y,B,r,g,es,i,e,c):=x
  show(z,y,B,gP.mapP r λp q z=>(z.1,z.2.1.up m,z.2.2),g,es,i,k _ _ (.inl rfl) e,c)
 |set S n=>have(g,es,i,t,e,c):=x;show(g,es,i,t,k _ _ (.inl rfl) e,c)
 |ins S4 dx fs=>
  have(d,z,ne,e,mA,(od,es,i,j,c),r):=x
  show(l _ d,z,ne,k _ _ (.inl rfl) e,mA,(od,es,i,k _ _ (.inr d) j,c),r)
 |own y=>have(g,e):=x;show(g,k _ _ (.inl rfl) e)
 |xd fs=>have(mA,(od,es,i,e,c),r):=x;show(mA,(od,es,i,k _ _ (.inl rfl) e,c),r)
 |rng lo hi=>have(t,u,v,e):=x;show(t,u,v,k _ _ (.inl rfl) e)
 |frz g u A=>have(e,q):=x;show(k _ _ (.inl rfl) e,A q)
 |tbl ps=>
  have e:=x
  show k a _ (.inl rfl) e
 |met f y=>
  have e:=x
  show k a _ (.inl rfl) e
 |ext φ=>have(p,(o,e),st):=x;show(st _ _ p λo q=>k _ _ (.inl rfl) q,(o,k _ _ (.inl rfl) e),st)
end
def HOk.lt{o:HO}(x:HOk P w H h)(e:H a=aa o):a<h.objs.size:=(x a o e).lt
def HOk.fresh(x:HOk P w H h)(e:h.objs.size<=a):H a=ac:=by
 cases q:H a with
 |none=>rfl
 |some u=>show absurd (eR (x.lt q) e) (gN _)
def HOk.kept(x:HOk P w H h)(k:∀b u,h.get? b=aa u->h'.get? b=aa u):HOk P w H h':=λa o e=>
 (x a o e).stay (λb u _ q=>k b u q) (λ_ q=>q) λ_ _ q=>q
def HOk.laid{o:HO}(x:HOk P w H h)(k:∀b u,h.get? b=aa u->h'.get? b=aa u)(f:h.objs.size<=a)(new:dD P w (upd H a o) h' a o):HOk P w (upd H a o) h':=λb u e=>by
 have hn:=x.fresh f
 by_cases d:b=a
 .subst d;rw[a9]at e;cases e;show new
 .rw[aK d]at e;show(x b u e).stay (λc v _ q=>k c v q) (λc q=>by rw[aK (eU q hn)];show q) λc B q=>by rw[aK (eU q hn)];show q
def Rd(H:Hp)(a:Addr)(u:HO):Prop:=H a=aa u\/∃o,H a=aa (.frz o u)
def Rd.ok{u:HO}(r:Rd H a u)(x:HOk P w H h):dD P w H h a u:=by
 rcases r with r |⟨o,r⟩
 .show x a u r
 .have(_,q):=x a _ r;show q
abbrev Mut:Option HO->Prop
 |some (.lst _)=>True
 |some (.dK _)=>True
 |some (.dT _)=>True
 |some (.set _ _)=>True
 |some (.ins _ _ _)=>True
 |some (.ext _)=>True
 | _=>False
variable{x e:Addr}{o':HO}
def HOk.write(ok:HOk P w H h)(f:Mut (H x))(n:e=x\/H e=aa (.own x))(k:∀b u,b≠e->h.get? b=aa u->h'.get? b=aa u)(i:∃u,h'.get? e=aa u)
 (new:dD P w (upd H x o') h' x o'):HOk P w (upd H x o') h':=λb u q=>by
 have a:∀c y,H c=aa (.own y)->c≠x:=λc y r z=>by subst z;rw[r]at f;show f
 have d:∀c B,H c=aa (.tup B)->c≠x:=λc B r z=>by subst z;rw[r]at f;show f
 by_cases j:b=x
 .subst j;rw[a9]at q;grind
 .rw[aK j]at q
  by_cases g:b=e
  .have l:H b=aa (.own x):=by
    grind
   rw[q]at l;cases l;have(v,hv):=i;show(v,by rw[g];show hv)
  .show(ok b u q).stay (λc v m r=>k c v ?_ r) (λc r=>by rw[aK (a c b r)];show r) λc B r=>by rw[aK (d c B r)];show r
   grind
structure Un(fs ex:LAd)(H H':Hp)(h h':Heap):Prop where
 keep:∀b o,h.get? b=aa o->H b=ac->b∉fs->b∉ex->h'.get? b=aa o
 slot:∀b o,h.get? b=aa o->H b=ac->b∈fs->b∉ex->∃sl,h'.get? b=aa {o with slots:=sl}
 free:∀b o,h.get? b=aa o->H b=ac->b∉ex->H' b=ac
 there:∀b o,h.get? b=aa o->b∉ex->∃o',h'.get? b=aa o'
 tups:∀b B,H b=aa (.tup B)->H' b=aa (.tup B)
 frzs:∀b o u,H b=aa (.frz o u)->H' b=aa (.frz o u)
 tbls:∀b ps,H b=aa (.tbl ps)->∃more,H' b=aa (.tbl (ps++more))
variable{ex:LAd}{H1:Hp}{h1:Heap}
def Un.any{fs:LAd}(u:Un fs ex H H1 h h1){a:Obj}(q:h.get? b=aa a)(n:H b=ac)(d:b∉ex):∃sl,h1.get? b=aa {a with slots:=sl}:=by
 by_cases c:b∈fs
 .show u.slot b a q n c d
 .show(a.slots,u.keep b a q n c d)
variable{H2:Hp}{h2:Heap}
def Un.trans{fs:LAd}(a:Un fs ex H H1 h h1)(b:Un fs ex H1 H2 h1 h2):Un fs ex H H2 h h2 where
 keep:=λc ob q n hc hx=>b.keep c ob (a.keep c ob q n hc hx) (a.free c ob q n hx) hc hx
 slot:=λc ob q n hc hx=>by
  have(sl,e1):=a.slot c ob q n hc hx;have(sl',e2):=b.slot c _ e1 (a.free c ob q n hx) hc hx;show(sl',e2)
 free:=λc ob q n hx=>by
  have(o',e1):=a.there c ob q hx;show b.free c o' e1 (a.free c ob q n hx) hx
 there:=λc ob q hx=>by
  have(o',e1):=a.there c ob q hx;show b.there c o' e1 hx
 tups:=λc B q=>b.tups c B (a.tups c B q)
 frzs:=λc ob B q=>b.frzs c ob B (a.frzs c ob B q)
 tbls:=λc ps q=>by
  have(m1,e1):=a.tbls c ps q;have(m2,e2):=b.tbls c _ e1;show(m1++m2,by rw[e2,Array.append_assoc])
def Un.kept{fs:LAd}(k:∀b u,h.get? b=aa u->h'.get? b=aa u):Un fs ex H H h h':=
 (λb a q _ _ _=>k b a q,λb a q _ _ _=>(a.slots,k b a q),λ_ _ _ n _=>n,λb a q _=>(a,k b a q),λ_ _ q=>q,λ_ _ _ q=>q,λ_ ps q=>(#[],by rw[q];simp))
def Un.refl{fs:LAd}:Un fs ex H H h h:=Un.kept λ_ _ q=>q
def Un.laid{fs:LAd}{o:HO}(k:∀b u,h.get? b=aa u->h'.get? b=aa u)(hp:h.objs.size<=a)(hn:H a=ac):Un fs ex H (upd H a o) h h' where
 keep:=λb u q _ _ _=>k b u q
 slot:=λb u q _ _ _=>(u.slots,k b u q)
 free:=λb u q n _=>by rw[aK (bT (eR (bx q) hp))];show n
 there:=λb u q _=>(u,k b u q)
 tups:=λb B q=>by rw[aK (eU q hn)];show q
 frzs:=λb u B q=>by rw[aK (eU q hn)];show q
 tbls:=λb ps q=>(#[],by rw[aK (eU q hn),q];simp)
def Un.write{fs:LAd}{o:HO}(a:Mut (H x))(g:e=x\/H e=aa (.own x))(k:∀b u,b≠e->h.get? b=aa u->h'.get? b=aa u)(d:∃u,h'.get? e=aa u):Un fs ex H (upd H x o) h h':=by
 have f:∀b,H b=ac->b≠x:=λb n z=>by subst z;rw[n]at a;show a
 have c:∀b,H b=ac->b≠e:=λb n z=>by
  grind
 have hm:∀b u,H b=aa u->¬Mut (aa u)->b≠x:=λb u q nm z=>by subst z;rw[q]at a;show nm a
 show(λb u q n _ _=>k b u (c b n) q,λb u q n _ _=>(u.slots,k b u (c b n) q),λb u q n _=>by rw[aK (f b n)];show n,λb u q _=>?_,
  λb B q=>by rw[aK (hm b _ q λz=>z)];show q,λb u B q=>by rw[aK (hm b _ q λz=>z)];show q,λb ps q=>(#[],by rw[aK (hm b _ q λz=>z),q];simp))
 grind
def trk(h:Heap)(H:Hp):LAd:=(bw h.objs.size).filter λa=>(H a).isSome
def nr(h:Heap)(H:Hp):Heap:=W.hideAll h (trk h H)
def HD(h:Heap)(H:Hp):(nr h H).objs.size=h.objs.size:=W.hideAll_size _ _
def HE{o:Obj}(e:h.get? b=aa o)(n:H b=ac):(nr h H).get? b=aa o:=
 W.hideAll_get _ e λhm=>by
  have q:=(cQ.mp hm).2
  grind
def HF{o:Obj}(e:(nr h H).get? b=aa o):h.get? b=aa o/\H b=ac:=by
 have a:=W.of_hideAll _ e;show(a,?_)
 cases q:H b with
 |none=>rfl
 |some x=>
  have hm:b∈trk h H:=cQ.mpr (dW.mpr (bx a),by simp[q]);have z:(nr h H).get? b=ac:=W.hideAll_none _ hm
  grind
def HG(g h:Heap)(S3:Addr):PNS:=(bw h.objs.size).filterMap λa=>if a=S3\/(g.get? a).isSome=ab then ac else (h.get? a).map λo=>(a,o,)
def rest(g h:Heap)(S3 d:Addr):PNS:=(HG g h S3).filter λp=>decide (p.1≠d)
structure Mod(K:aU)(mg:MGT)(base:Heap):Prop where
 kin:K.In base
 glob:base.Ns b9 mg
 blt:∃mb,base.Ns builtinsNs mb/\∀x:Str,x ≠ "__name__" -> mb x=i6 x
 nolimit:base.NoLimit
set_option genInjectivity false in
structure Cx where
 prog:bX
 w:World
 K:aU
 mg:Str->Option Value
 base:Heap
 A:b7
 N:LSt
 s₀:ah
 H₀:Hp
 env:Env
 outer:List Env
 stack:List Env
 ex:LAd
 fn:Str->Bool
 calm:Bool
 pn:PNS
 xe:Value->ah->Prop
nonrec abbrev NDb(x:Str):=(x==("__debug__":Str))=ae
nonrec abbrev NCd(x:Str):=(x==("__classdict__":Str))=ae
nonrec abbrev StE(X:Cx)(e:Expr)(es:LEx):=aR (e::es) X.env=(ae,eval e X.env,)::aR es X.env
nonrec abbrev BkE(X:Cx)(pos:Pos)(es:LEx):=(cv pos (aR es X.env)).any (·.1)=ae
nonrec abbrev LcF(X:Cx)(x:Str):=X.fn x=ab\/X.env.scope.names.lookup x=aa .local
def frs(l:List Env):LAd:=l.filterMap (·.frame)
nonrec def Cx.fs(X:Cx):LAd:=frs X.outer
def Vis(sc:Scope)(x:Str):Prop:=sc.names.lookup x=aa .local\/sc.names.lookup x=aa .cell\/sc.names.lookup x=aa .free
def Loc(sc:Scope)(x:Str):Prop:=sc.names.lookup x=aa .local\/sc.names.lookup x=aa .cell
def HH(env:Env)(h:Heap)(m:MGT)(x:Str)(u:Value):Prop:=
 (env.kindOf x=aa .local/\m x=aa u)\/((env.kindOf x=aa .cell\/env.kindOf x=aa .free)/\∃c,env.cells.lookup x=aa c/\h.IsCell c (aa u))
structure Cx.Ok(X:Cx):Prop where
 mod:Mod X.K X.mg X.base
 kind:X.env.scope.kind=.function
 glob:X.env.globals=b9
 blt:X.env.builtins=builtinsNs
 above:X.s₀.heap.objs.size<=X.env.locals
 inj:∀x y c,X.env.cells.lookup x=aa c->X.env.cells.lookup y=aa c->x=y
 has:∀x,(X.env.kindOf x=aa .cell\/X.env.kindOf x=aa .free)->∃c,X.env.cells.lookup x=aa c
 cab:∀x c,X.fn x=ab->X.env.cells.lookup x=aa c->X.s₀.heap.objs.size<=c
 hd:X.calm=ab->X.A.handled=ac
 frames:X.A.frames=aa X.stack
 stk:X.stack=X.outer\/(X.stack=X.env::X.outer/\X.env.frame=aa X.env.locals)
 exf:∀b∈X.ex,b≠X.env.locals/\∀x c,X.env.cells.lookup x=aa c->c≠b
 bs:∀b o,X.base.get? b=aa o->X.s₀.heap.get? b=aa o/\X.H₀ b=ac
 bsz:X.base.objs.size<=X.s₀.heap.objs.size
 noex:∀b o,X.base.get? b=aa o->b∉X.ex
 exfs:∀b∈X.ex,b∉X.fs
 funs:X.s₀.heap.FunFrames X.base X.outer
 frf:∀b∈X.fs,X.H₀ b=ac
structure Inv(X:Cx)(M:PNS)(J:List (Option V))(H:Hp)(s:ah):Prop where
 ok:X.Ok
 os:s.os=X.s₀.os
 bare:jy s.gens
 base:Un X.fs X.ex X.H₀ H X.s₀.heap s.heap
 loc:∃m,s.heap.Ns X.env.locals m/\∀(i:Nat) (x:Str) (v:V),X.N[i]?=aa x->J[i]?=aa (aa v)->Vis X.env.scope x->∃u,aC v u/\HH X.env s.heap m x u
 cell:∀x c,X.env.cells.lookup x=aa c->∃v,s.heap.IsCell c v
 free:H X.env.locals=ac
 freeC:∀x c,X.env.cells.lookup x=aa c->H c=ac
 pin:∀p∈X.pn++M,s.heap.get? p.1=aa p.2/\H p.1=ac/\p.1≠X.env.locals/\p.1∉X.fs/\∀v,p.2.data≠.cell v
 hok:HOk X.prog X.w H s.heap
 len:J.length=X.N.length
variable{X:Cx}
def Cx.Ok.nofr(ok:X.Ok){o:Obj}(e:X.base.get? b=aa o):b∉X.fs:=λa=>by
 have:=(ok.funs.mem a).1
 grind
variable{M:PNS}{J:List (Option V)}
def Inv.bs{s:ah}(I:Inv X M J H s):∀b o,X.base.get? b=aa o->s.heap.get? b=aa o/\H b=ac:=λb o e=>
 (I.base.keep b o (I.ok.bs b o e).1 (I.ok.bs b o e).2 (I.ok.nofr e) (I.ok.noex b o e),I.base.free b o (I.ok.bs b o e).1 (I.ok.bs b o e).2 (I.ok.noex b o e))
def Inv.bk{s:ah}(I:Inv X M J H s):∀b o,X.base.get? b=aa o->s.heap.get? b=aa o:=λb o e=>(I.bs b o e).1
def Inv.mod{s:ah}(I:Inv X M J H s):Mod X.K X.mg X.base:=I.ok.mod
def Inv.kIn{s:ah}(I:Inv X M J H s):X.K.In s.heap:=I.ok.mod.kin.keeps I.bk
def Inv.lt{s:ah}(I:Inv X M J H s):X.env.locals<s.heap.objs.size:=let (_,hn,_):=I.loc;hn.lt
def Inv.sz{s:ah}(I:Inv X M J H s):X.s₀.heap.objs.size<=s.heap.objs.size:=cJ I.ok.above (eS I.lt)
def Inv.nofs{s:ah}(I:Inv X M J H s)(h:s.heap.objs.size<=a):a∉X.fs:=λb=>by
 have(_,o,c,_):=I.ok.funs.mem b;show absurd (eR (bx c) (cJ I.sz h)) (gN _)
def Inv.cne{s:ah}(I:Inv X M J H s):∀x c,X.env.cells.lookup x=aa c->c≠X.env.locals:=λx c e z=>by
 have(v,o,f,hd):=I.cell x c e;have(m,(o',es,d,b,a,_),_):=I.loc
 grind
def Inv.funs{s:ah}(I:Inv X M J H s):s.heap.FunFrames X.base X.outer:=by
 have all:∀l,(∀b∈frs l,b∈X.fs)->X.s₀.heap.FunFrames X.base l->s.heap.FunFrames X.base l:=by
  intro l
  induction l with
  |nil=>intro _ _;trivial
  |cons env r m=>
   intro f h;have(g,(S3,o,d,hn,i,hd),j):=h;have a:=f S3 (by unfold frs;rw[oP,d];show aB);have(sl,e):=I.base.slot S3 o i (I.ok.frf S3 a) a λz=>I.ok.exfs S3 z a;show(g,(S3,_,d,hn,e,hd),m (λb c=>f b (by unfold frs;rw[oP,d];show be _ c)) j)
 show all X.outer (λ_ c=>c) I.ok.funs
def Inv.stack{s:ah}(I:Inv X M J H s):s.heap.FunFrames X.base X.stack:=by
 rcases I.ok.stk with e |⟨e,hf⟩
 .rw[e];show I.funs
 .rw[e];have(m,hn,_):=I.loc;show .cons (by rw[I.ok.kind];decide) hf hn (Heap.get?_none_of_le (cJ I.ok.bsz I.ok.above)) I.funs
def Inv.stkSub{s:ah}(I:Inv X M J H s):∀b∈frs X.stack,b∈X.env.locals::X.fs:=λb a=>by
 rcases I.ok.stk with e |⟨e,hf⟩
 .rw[e]at a;show be _ a
 .rw[e]at a;unfold frs at a;rw[oP,hf]at a;show a
def Inv.stkFree{s:ah}(I:Inv X M J H s):∀b∈frs X.stack,H b=ac:=λb a=>by
 rcases aW.mp (I.stkSub b a)with e |a
 .rw[e];show I.free
 .have(_,o,c,_):=I.ok.funs.mem a;show I.base.free b o c (I.ok.frf b a) λz=>I.ok.exfs b z a
variable{g':Array GenState}{t':Nat}{d':Drawn}{ch:LAd}
section
variable{s:ah}
def Inv.step(I:Inv X M J H s)
 (g:∀b∈ch,(b∈X.ex\/X.s₀.heap.objs.size<=b)/\b≠X.env.locals/\(∀x c,X.env.cells.lookup x=aa c->c≠b)/\∀p∈X.pn++M,p.1≠b)
 (keep:∀b o,b≠X.env.locals->b∉X.fs->b∉ch->s.heap.get? b=aa o->H b=ac->h'.get? b=aa o)
 (slot:∀b o,b≠X.env.locals->b∈X.fs->b∉ch->s.heap.get? b=aa o->H b=ac->∃sl,h'.get? b=aa {o with slots:=sl})(free:∀b o,b∉ch->s.heap.get? b=aa o->H b=ac->H' b=ac)
 (there:∀b o,b∉ch->s.heap.get? b=aa o->∃o',h'.get? b=aa o')
 (tups:∀b B,H b=aa (.tup B)->H' b=aa (.tup B))(frzs:∀b o u,H b=aa (.frz o u)->H' b=aa (.frz o u))(tbls:∀b ps,H b=aa (.tbl ps)->∃more,H' b=aa (.tbl (ps++more)))
 (ns:∀m,s.heap.Ns X.env.locals m->h'.Ns X.env.locals m)(hok:HOk X.prog X.w H' h')(Y:jy g'):
  Inv X M J H' {s with heap:=h',gens:=g',drawn:=d',toks:=t'}:=by
 have G:∀b o,X.s₀.heap.get? b=aa o->b≠X.env.locals:=λb o e=>bT (eR (bx e) I.ok.above)
 have y:∀b o,X.s₀.heap.get? b=aa o->b∉X.ex->b∉ch:=λb o e a A=>by
  rcases(g b A).1 with z |z
  .show a z
  .show absurd (eR (bx e) z) (gN _)
 have f:∀x c,X.env.cells.lookup x=aa c->∀v,s.heap.IsCell c v->h'.IsCell c v:=λx c e v q_=>by
  have(o,C,hd):=q_;have h:=λz=>(g c z).2.2.1 x c e rfl
  by_cases N:c∈X.fs
  .have(sl,q):=slot c o (I.cne x c e) N h C (I.freeC x c e);show(_,q,hd)
  .show(o,keep c o (I.cne x c e) N h C (I.freeC x c e),hd)
 show(I.ok,I.os,Y,(λb o e n A a=>(keep b o (G b o e) A (y b o e a) (I.base.keep b o e n A a) (I.base.free b o e n a)),λb o e n A a=>?_,λb o e n a=>?_,λb o e a=>?_,λb B e=>tups b B (I.base.tups b B e),λb o B e=>frzs b o B (I.base.frzs b o B e),λb ps e=>?_),?_,λx c e=>?_,?_,λx c e=>?_,λp Q=>?_,hok,I.len)
 .have(sl,j):=I.base.slot b o e n A a;have(L,E):=slot b _ (G b o e) A (y b o e a) j (I.base.free b o e n a);show(L,E)
 .have(o',j):=I.base.there b o e a;show free b o' (y b o e a) j (I.base.free b o e n a)
 .have(o',j):=I.base.there b o e a;show there b o' (y b o e a) j
 .have(m1,j):=I.base.tbls b ps e;have(m2,E):=tbls b _ j;show(m1++m2,by rw[E,Array.append_assoc])
 .have(m,hn,hl):=I.loc;show(m,ns m hn,λi x v j E U=>?_);have(u,r,l):=hl i x v j E U;show(u,r,?_)
  rcases l with l |⟨k,c,e,z⟩
  .show .inl l
  .show .inr (k,c,e,f x c e _ z)
 .have(v,z):=I.cell x c e;show(v,f x c e v z)
 .have(m,(o,_,_,C,_),_):=I.loc;show free _ o (λz=>(g _ z).2.1 rfl) C I.free
 .have(v,o,C,hd):=I.cell x c e;show free c o (λz=>(g c z).2.2.1 x c e rfl) C (I.freeC x c e)
 .have(e,n,ne,T,d):=I.pin p Q;have h:=λz=>(g p.1 z).2.2.2 p Q rfl;show(keep p.1 p.2 ne T h e n,free p.1 p.2 h e n,ne,T,d)
end
section
variable{s:ah}
def Inv.un(I:Inv X M J H s)(u:Un X.fs [] H H' s.heap h')(hok:HOk X.prog X.w H' h'):Inv X M J H' {s with heap:=h',toks:=t'}:=by
 have(m,(o,es,i,f,r),_):=id I.loc;have(sl,g):=u.any f I.free (by simp)
 show I.step (ch:=[]) (λ_ z=>nomatch z) (λb o _ d _ e n=>u.keep b o e n d (by simp)) (λb o _ d _ e n=>u.slot b o e n d (by simp)) (λb o _ e n=>u.free b o e n (by simp)) (λb o _ e=>u.there b o e (by simp)) u.tups u.frzs u.tbls (λj hm=>by
  have(o',es',c,a,h):=hm;rw[f]at a;cases a;show(_,es',c,g,h)) hok I.bare
end
section
variable{s:ah}
def Inv.call(I:Inv X M J H s)(u:Un (frs X.stack) ch H H' s.heap h')(hok:HOk X.prog X.w H' h')(l:jy g')
 (d:∀b∈ch,(b∈X.ex\/X.s₀.heap.objs.size<=b)/\b≠X.env.locals/\(∀x c,X.env.cells.lookup x=aa c->c≠b)/\∀p∈X.pn++M,p.1≠b):
  Inv X M J H' {s with heap:=h',gens:=g',drawn:=d',toks:=t'}:=by
 have(m,(o,es,v,i,r),_):=id I.loc;have(sl,h):=u.any i I.free λz=>(d _ z).2.1 rfl
 show I.step d (λb o h j a e n=>u.keep b o e n (λz=>(aW.mp (I.stkSub b z)).elim h j) a) (λb o _ _ a e n=>u.any e n a) (λb o a e n=>u.free b o e n a) (λb o a e=>u.there b o e a) u.tups u.frzs u.tbls (λy hm=>by
  have(o',es',g,f,q):=hm;rw[i]at f;cases f;show(_,es',g,h,q)) hok l
end
variable{it:Addr}
section
variable{s:ah}
def Inv.turned(I:Inv X M J H s)(k:∀b o,b≠it->s.heap.get? b=aa o->h'.get? b=aa o)(hn:H it=ac)(f:it≠X.env.locals)
 (h1:it∈X.ex\/X.s₀.heap.objs.size<=it)(h2:∀x c,X.env.cells.lookup x=aa c->c≠it)(h:∀p∈X.pn++M,p.1≠it):Inv X M J H {s with heap:=h',toks:=t'}:=by
 have d:∀b u,H b=aa u->b≠it:=λb u e z=>by rw[z,hn]at e;nomatch e
 show I.step (ch:=[it]) (λb i=>?_) (λb o _ _ a e _=>k b o (λz=>a (by simp[z])) e) (λb o _ _ a e _=>(o.slots,k b o (λz=>a (by simp[z])) e)) (λ_ _ _ _ n=>n)
  (λb o a e=>(o,k b o (λz=>a (by simp[z])) e)) (λ_ _ e=>e) (λ_ _ _ e=>e) (λb ps e=>(#[],by rw[e];simp)) (λm hm=>?_) (λb u e=>?_) I.bare
 .have e:b=it:=by simpa using i
  subst e;show(h1,f,h2,h)
 .have(o,es,g,j,r):=hm;show(o,es,g,k _ o (fN f) j,r)
 .show(I.hok b u e).stay (λc v a q=>k c v ?_ q) (λ_ q=>q) λ_ _ q=>q
  rcases a with z |z
  .rw[z];show d b u e
  .show d c _ z
end
section
variable{s:ah}
def Inv.tok(I:Inv X M J H s)(t:Nat):Inv X M J H {s with toks:=t}:=I.un Un.refl I.hok
end
section
variable{s:ah}
def Inv.kept(I:Inv X M J H s)(k:∀b u,s.heap.get? b=aa u->h'.get? b=aa u):Inv X M J H {s with heap:=h',toks:=t'}:=I.un (Un.kept k) (I.hok.kept k)
end
section
variable{s:ah}
def Inv.laid{o:HO}(I:Inv X M J H s)(k:∀b u,s.heap.get? b=aa u->h'.get? b=aa u)(c:s.heap.objs.size<=a)(new:dD X.prog X.w (upd H a o) h' a o):
  Inv X M J (upd H a o) {s with heap:=h',toks:=t'}:=I.un (Un.laid k c (I.hok.fresh c)) (I.hok.laid k c new)
end
section
variable{s:ah}
def Inv.write{o:HO}(I:Inv X M J H s)(d:Mut (H x))(c:e=x\/H e=aa (.own x))(k:∀b u,b≠e->s.heap.get? b=aa u->h'.get? b=aa u)(a:∃u,h'.get? e=aa u)
 (new:dD X.prog X.w (upd H x o) h' x o):Inv X M J (upd H x o) {s with heap:=h',toks:=t'}:=I.un (Un.write d c k a) (I.hok.write d c k a new)
end
def Inv.pins_of{s:ah}{a:PNS}(I:Inv X M J H s)(h:∀p∈a,s.heap.get? p.1=aa p.2/\H p.1=ac/\p.1≠X.env.locals/\p.1∉X.fs/\∀v,p.2.data≠.cell v):Inv X a J H s:=
 (I.ok,I.os,I.bare,I.base,I.loc,I.cell,I.free,I.freeC,λp b=>(bI.mp b).elim (λz=>I.pin p (dO _ z)) (h p),I.hok,I.len)
variable{N:LSt}{i:Nat}{x:Str}
def B9(e:N.Nodup){j:Nat}(a:N[i]?=aa x)(b:N[j]?=aa x):i=j:=by
 have(h1,c):=cA.mp a;have(h2,d):=cA.mp b;show(List.getElem_inj e).mp (c.trans d.symm)
variable{S0:Model}{u:Value}{Q:Unit->ah->Prop}
section
variable{s:ah}
def Ca(I:Inv X M J H s)(hN:X.N.Nodup)(hi:X.N[i]?=aa x)(B:Loc X.env.scope x)(r:aC v u)
 (h:∀s',Inv X M (J.set i (aa v)) H s'->(∃a,gn a s.heap s'.heap/\(a=X.env.locals\/X.env.cells.lookup x=aa a))->Q () s')(hf:autoParam (LcF X x) Zh):wpAny S0 A (storeName X.env x u) Q S5 s:=by
 have(m,hn,hl):=id I.loc;have hcls:(X.env.scope.kind==.class || (X.env.scope.kind==.module && X.env.locals != X.env.globals))=ae:=by rw[I.ok.kind];rfl
 have G:i<J.length:=by rw[I.len];show(cA.mp hi).1
 have cne:=I.cne
 have l:∀{a:Addr} {h':Heap},(∃o,s.heap.get? a=aa o/\H a=ac)->gn a s.heap h'->HOk X.prog X.w H h':=λ{a h'} ha f b ob e=>by
  have(_,_,hfree):=ha;show(I.hok b ob e).stay (λc w' C q=>(f.2 c ?_).trans q) (λ_ q=>q) λ_ _ q=>q
  grind
 rcases B with hk |hk
 .show wpAny_storeName_local hk hn (λh' hn' f=>?_) hcls;have(oL,_,_,hoL,_):=id hn;show h _ (I.ok,I.os,I.bare,(λb o e n L B=>((f.2 b (bT (eR (bx e) I.ok.above))).trans (I.base.keep b o e n L B)),λb o e n L B=>?_,I.base.free,λb o e B=>?_,I.base.tups,I.base.frzs,I.base.tbls),(_,hn',λj y v' g E e3=>?_),λy c e=>?_,I.free,I.freeC,λp hp=>?_,l (oL,hoL,I.free) f,by simpa using I.len) (_,f,.inl rfl)
  .have(sl,g):=I.base.slot b o e n L B;show(sl,(f.2 b (bT (eR (bx e) I.ok.above))).trans g)
  .have(o',g):=I.base.there b o e B;show(o',(f.2 b (bT (eR (bx e) I.ok.above))).trans g)
  .by_cases U:j=i
   .subst U;rw[hi]at g;cases g;rw[i0 G]at E;cases E;show(u,r,.inl (hk,by simp))
   .rw[j7 (fN U)]at E;have(u',r',q):=hl j y v' g E e3;show(u',r',?_)
    rcases q with⟨k,e⟩ |⟨k,c,e,z⟩
    .show .inl (k,?_);have:y≠x:=λe=>U (B9 hN g (e▸hi))
     grind
    .show .inr (k,c,e,z.sameBut f (cne y c e))
  .have(w',z):=I.cell y c e;show(w',z.sameBut f (cne y c e))
  .have(e,n,ne,nf,d):=I.pin p hp;show((f.2 p.1 ne).trans e,n,ne,nf,d)
 .have T:X.fn x=ab:=by
   grind
  have(c,C):=I.ok.has x (.inl hk);have(w',z):=I.cell x c C;show wpAny_storeName_cell I.ok.kind hk C z (λh' Y f=>?_);have(oc,hoc,hocd):=id z
  show h {s with heap:=h'} (I.ok,I.os,I.bare,(λb o e n L B=>((f.2 b (bT (eR (bx e) (I.ok.cab x c T C)))).trans (I.base.keep b o e n L B)),λb o e n L B=>?_,I.base.free,λb o e B=>?_,I.base.tups,I.base.frzs,I.base.tbls),(m,hn.sameBut f (fN (cne x c C)),λj y v' g E e3=>?_),λy c' e=>?_,I.free,I.freeC,λp hp=>?_,l (oc,hoc,I.freeC x c C) f,by simpa using I.len) (c,f,.inr C)
  .have(sl,g):=I.base.slot b o e n L B;show(sl,(f.2 b (bT (eR (bx e) (I.ok.cab x c T C)))).trans g)
  .have(o',g):=I.base.there b o e B;show(o',(f.2 b (bT (eR (bx e) (I.ok.cab x c T C)))).trans g)
  .by_cases U:j=i
   .subst U;rw[hi]at g;cases g;rw[i0 G]at E;cases E;show(u,r,.inr (.inl hk,c,C,Y))
   .rw[j7 (fN U)]at E;have(u',r',q):=hl j y v' g E e3;show(u',r',?_)
    rcases q with q |⟨k,c',e,z'⟩
    .show .inl q
    .show .inr (k,c',e,z'.sameBut f ?_);rintro rfl;show U (B9 hN g (I.ok.inj _ _ _ e C▸hi))
  .by_cases hcc:c'=c
   .subst hcc;show(_,Y)
   .have(w2,z2):=I.cell y c' e;show(w2,z2.sameBut f hcc)
  .have(e,n,ne,nf,d):=I.pin p hp;show((f.2 p.1 ?_).trans e,n,ne,nf,d);intro q;rw[q,hoc]at e;show d w' (by rw[<- (cS e)];show hocd)
end
def vQ{s:ah}(I:Inv X M J H s)(b:X.N.Nodup)(hi:X.N[i]?=aa x)(d:Loc X.env.scope x)(r:aC v u)
 (h:∀s',Inv X M (J.set i (aa v)) H s'->Q () s')(c:autoParam (LcF X x) Zh):wpAny S0 A (storeName X.env x u) Q S5 s:=
 Ca I b hi d r (λs' a _=>h s' a) c
variable{s':ah}
def Inv.call'{s:ah}(I:Inv X M J H s)(e:s'.os=s.os)(u:Un (frs X.stack) ch H H' s.heap s'.heap)(hok:HOk X.prog X.w H' s'.heap)(d:jy s'.gens)
 (a:∀b∈ch,(b∈X.ex\/X.s₀.heap.objs.size<=b)/\b≠X.env.locals/\(∀x c,X.env.cells.lookup x=aa c->c≠b)/\∀p∈X.pn++M,p.1≠b):Inv X M J H' s':=by
 have(h',g',d',t',o'):=s';subst e;show I.call u hok d a
nonrec def XK:=Value->Option Addr->Hp->Prop
nonrec def St:=List (Option V)
nonrec def VK:=V->Hp->Prop
nonrec def TE:=St->Hp->VK->Prop
nonrec def TT:=St->Hp->(Bool->Hp->Prop)->Prop
nonrec def TA:=St->Hp->(LVv->Hp->Prop)->Prop
structure iI where
 nx:St->Hp->Prop
 rt:VK
 bk:St->Hp->Prop:=λ_ _=>False
 ct:St->Hp->Prop:=λ_ _=>False
nonrec def TS:=iI->St->Hp->Prop
def EP(X:Cx)(M:PNS)(J:St)(Q:VK)(u:Value)(s':ah):Prop:=∃v H',Inv X M J H' s'/\aC v u/\Q v H'
def TP(X:Cx)(M:PNS)(J:St)(Q:Bool->Hp->Prop)(b:Bool)(s':ah):Prop:=∃H',Inv X M J H' s'/\Q b H'
def AP(X:Cx)(M:PNS)(J:St)(Q:LVv->Hp->Prop)(us:LVa)(s':ah):Prop:=∃vs H',Inv X M J H' s'/\aJ vs us/\Q vs H'
def SP(X:Cx)(M:PNS)(D:iI)(f:Flow)(s':ah):Prop:=
 match f with
 |.next=>∃σ' H',Inv X M σ' H' s'/\D.nx σ' H'
 |.brk=>∃σ' H',Inv X M σ' H' s'/\D.bk σ' H'
 |.cont=>∃σ' H',Inv X M σ' H' s'/\D.ct σ' H'
 |.ret u=>∃v σ' H',Inv X M σ' H' s'/\aC v u/\D.rt v H'
def PE(X:Cx)(e:Expr)(t:TE):Prop:=
 ∀(M:PNS) (s:ah) (J:St) (H:Hp) (Q:VK),Inv X M J H s->t J H Q->wpAny (model X.prog X.w) X.A (eval e X.env) (EP X M J Q) X.xe s
def PT(X:Cx)(e:Expr)(t:TT):Prop:=
 ∀(M:PNS) (s:ah) (J:St) (H:Hp) (Q:Bool->Hp->Prop),Inv X M J H s->t J H Q->wpAny (model X.prog X.w) X.A (isTrue e X.env (eval e X.env)) (TP X M J Q) X.xe s
def PW(X:Cx)(e:Expr)(t:TT):Prop:=
 ∀(a:Sem Value) (M:PNS) (s:ah) (J:St) (H:Hp) (Q:Bool->Hp->Prop),Inv X M J H s->t J H Q->wpAny (model X.prog X.w) X.A (isTrue e X.env a) (TP X M J Q) X.xe s
variable{e:Expr}
def PW.pt{t:TT}(h:PW X e t):PT X e t:=h _
def PA(X:Cx)(es:LEx)(t:TA):Prop:=
 ∀(pos:Pos) (M:PNS) (s:ah) (J:St) (H:Hp) (Q:LVv->Hp->Prop),Inv X M J H s->t J H Q->wpAny (model X.prog X.w) X.A (spliced (cv pos (aR es X.env))) (AP X M J Q) X.xe s
def PS(X:Cx)(st:Stmt)(t:TS):Prop:=
 ∀(M:PNS) (s:ah) (J:St) (H:Hp) (D:iI),Inv X M J H s->t D J H->wpAny (model X.prog X.w) X.A (exec st X.env) (SP X M D) X.xe s
def PSs(X:Cx)(st:List Stmt)(t:TS):Prop:=
 ∀(M:PNS) (s:ah) (J:St) (H:Hp) (D:iI),Inv X M J H s->t D J H->wpAny (model X.prog X.w) X.A (execs st X.env) (SP X M D) X.xe s
def thn{c:Type}{t:Sem c}{Q b:c->ah->Prop}{s:ah}(h:wpAny S0 A t Q S5 s)(d:∀a s,Q a s->b a s):wpAny S0 A t b S5 s:=fj h d λ_ _ x=>x
def cL(i:Nat):TE:=λJ H Q=>∃v,J[i]?=aa (aa v)/\Q v H
def tC(v:V):TE:=λ_ H Q=>Q v H
variable{pos:Pos}
def nt(j:X.N[i]?=aa x)(hv:Vis X.env.scope x)(hd:autoParam (NDb x) Zc)(f:autoParam (NCd x) Zc):PE X (.Name x pos) (cL i):=by
 intro M s J H Q I h;have(v,e,h):=h;have(m,hn,n):=I.loc;have(u,r,l):=n i x v j e hv;have b:EP X M J Q u s:=(v,H,I,r,h)
 rcases l with⟨d,hm⟩ |⟨d,c,g,a⟩
 .show wpAny_Name (wpAny_loadName_local I.ok.kind d hn hm b) hd
 .rcases d with d |d
  .show wpAny_Name (wpAny_loadName_cell I.ok.kind d g a b) hd
  .show wpAny_Name (wpAny_loadName_free I.ok.kind d g a b f) hd
def vR{i j pos}:PE X (.Constant (.int i) j pos) (tC (.int i)):=λ_ _ _ H _ I h=>wpAny_Constant_int (.int i,H,I.tok _,(_,rfl),h)
def HI{b j pos}:PE X (.Constant (.bool b) j pos) (tC (.bl b)):=λ_ _ _ H _ I h=>Constant_bool (.bl b,H,I,rfl,h)
def HJ{j pos}:PE X (.Constant .none j pos) (tC .non):=λ_ _ _ H _ I h=>Constant_none (.non,H,I,rfl,h)
def HK{x j pos}:PE X (.Constant (.str x) j pos) (tC (.str x)):=λ_ _ _ H _ I h=>Calls.Constant_str (.str x,H,I.tok _,(_,rfl),h)
def Gl(X:Cx)(x:Str):Prop:=X.env.kindOf x=aa .globalImplicit
variable{J:St}
def Cb{s:ah}{Q:PRS}(I:Inv X M J H s)(a:Gl X x)(hm:X.mg x=aa u)(h:Q u s)
 (hd:autoParam (NDb x) Zc):wpAny (model X.prog X.w) X.A (eval (.Name x pos) X.env) Q S5 s:=
 Calls.Name_function_global I.ok.kind a (Calls.loadGlobal_global (by rw[I.ok.glob];show I.mod.glob.keeps I.bk) hm h) hd
def je{s:ah}{Q:PRS}(I:Inv X M J H s)(a:Gl X x)(hm:X.mg x=ac)(hv:i6 x=aa u)(h:Q u s)
 (hn:autoParam (x ≠ "__name__") Zc)(hd:autoParam (NDb x) Zc):wpAny (model X.prog X.w) X.A (eval (.Name x pos) X.env) Q S5 s:=by
 have(mb,h1,h2):=I.mod.blt;show Calls.Name_function_global I.ok.kind a (Calls.loadGlobal_builtin (by rw[I.ok.glob];show I.mod.glob.keeps I.bk) hm (by rw[I.ok.blt];show h1.keeps I.bk) ((h2 x hn).trans hv) h) hd
def HL(a:Gl X x)(hm:X.mg x=ac)(hv:i6 x=aa u)(r:aC v u)(hn:autoParam (x ≠ "__name__") Zc)(hd:autoParam (NDb x) Zc):PE X (.Name x pos) (tC v):=
 λ_ _ _ H _ I h=>je I a hm hv (v,H,I,r,h) hn hd
abbrev t2I(a b:TE)(k:Int->Int->Hp->Prop):St->Hp->Prop:=λJ H=>a J H λx H1=>b J H1 λy H2=>∃i j,x=.int i/\y=.int j/\k i j H2
def gq(a b:TE):TE:=λJ H Q=>t2I a b (λi j H2=>Q (.int (i+j)) H2) J H
def PC(X:Cx)(op:CmpOp)(a b:Expr)(t:TE):Prop:=
 ∀(M:PNS) (s:ah) (J:St) (H:Hp) (Q:VK),Inv X M J H s->t J H Q ->
  wpAny (model X.prog X.w) X.A (eval a X.env) (λv c=>wpAny (model X.prog X.w) X.A (eval b X.env) (λu d=>wpAny (model X.prog X.w) X.A (cu op v u) (EP X M J Q) X.xe d) X.xe c) X.xe s
variable{a b:Expr}
def HM{op:CmpOp}{t:TE}(h:PC X op a b t)(h1:autoParam (kf op b=ae) Zl):PE X (.Compare a [op] [b] pos) t:=λM s J H Q I c=>wpAny_Compare1 (h M s J H Q I c) h1
def HN(t u:TT):TT:=λJ H Q=>t J H λc H1=>if c=ab then u J H1 Q else Q ae H1
def tOr(t u:TT):TT:=λJ H Q=>t J H λc H1=>if c=ab then Q ab H1 else u J H1 Q
def HP(t:TT):TT:=λJ H Q=>t J H λc H1=>Q (!c) H1
variable{tA:TT}
def HQ(ha:PT X a tA):PW X (.BoolOp .And [a] pos) tA:=by
 intro b M s J H Q I h;show isTrue_and (thn (ha M s J H Q I h) λc s1 e=>?_)
 cases c with
 |true=>show isTrue_and_nil e
 |false=>show e
def HR(ha:PT X a tA):PW X (.BoolOp .Or [a] pos) tA:=by
 intro b M s J H Q I h;show isTrue_or (thn (ha M s J H Q I h) λc s1 e=>?_)
 cases c with
 |false=>show isTrue_or_nil e
 |true=>show e
variable{tB':TT}
def HS{rest:LEx}(ha:PT X a tA)(f:PW X (.BoolOp .And (b::rest) pos) tB'):PW X (.BoolOp .And (a::b::rest) pos) (HN tA tB'):=by
 intro i M s J H Q I h;show isTrue_and (thn (ha M s J H _ I h) λc s1 g=>?_);have(H1,d,e):=g
 cases c with
 |true=>show f i M s1 J H1 Q d e
 |false=>show(H1,d,e)
def HU{rest:LEx}(ha:PT X a tA)(f:PW X (.BoolOp .Or (b::rest) pos) tB'):PW X (.BoolOp .Or (a::b::rest) pos) (tOr tA tB'):=by
 intro i M s J H Q I h;show isTrue_or (thn (ha M s J H _ I h) λc s1 g=>?_);have(H1,d,e):=g
 cases c with
 |true=>show(H1,d,e)
 |false=>show f i M s1 J H1 Q d e
def HV(ha:PT X a tA):PT X (.UnaryOp .Not a pos) (HP tA):=by
 intro M s J H Q I h;show isTrue_not (ha M s J H _ I h)
def HW(a b:TE):TE:=λJ H Q=>a J H λx H1=>∃c,x=.bl c/\if c=ab then b J H1 Q else Q (.bl ae) H1
def HX(a b:TE):TE:=λJ H Q=>a J H λx H1=>∃c,x=.bl c/\if c=ab then Q (.bl ab) H1 else b J H1 Q
def HY(a:TE):TE:=λJ H Q=>a J H λx H1=>∃c,x=.bl c/\Q (.bl (!c)) H1
def HZ{op}{t:TE}(h:PE X a t):PE X (.BoolOp op [a] pos) t:=λM s J H Q I b=>BoolOp_one (h M s J H Q I b)
variable{ta tb:TE}
def H9{rest:LEx}(ha:PE X a ta)(f:PE X (.BoolOp .And (b::rest) pos) tb):PE X (.BoolOp .And (a::b::rest) pos) (HW ta tb):=by
 intro M s J H Q I h;show BoolOp_and (thn (ha M s J H _ I h) λv s1 g=>?_);have(x,H1,e,i,d):=g;have(c,rfl,d):=d;subst i;show ly ?_
 cases c with
 |true=>show f M s1 J H1 Q e d
 |false=>show(.bl ae,H1,e,rfl,d)
def Ia{rest:LEx}(ha:PE X a ta)(f:PE X (.BoolOp .Or (b::rest) pos) tb):PE X (.BoolOp .Or (a::b::rest) pos) (HX ta tb):=by
 intro M s J H Q I h;show BoolOp_or (thn (ha M s J H _ I h) λv s1 g=>?_);have(x,H1,e,i,d):=g;have(c,rfl,d):=d;subst i;show ly ?_
 cases c with
 |false=>show f M s1 J H1 Q e d
 |true=>show(.bl ab,H1,e,rfl,d)
def Ib(ha:PE X a ta):PE X (.UnaryOp .Not a pos) (HY ta):=by
 intro M s J H Q I h;show UnaryOp_ (thn (ha M s J H _ I h) λv s1 e=>?_);have(x,H1,d,f,b):=e;have(c,rfl,b):=b;subst f;show not_of (ly (.bl (!c),H1,d,rfl,b))
def tIf(t:TT)(ta tb:TE):TE:=λJ H Q=>t J H λc H1=>if c=ab then ta J H1 Q else tb J H1 Q
variable{c:Expr}
def Cc(i:PT X c tA)(ha:PE X a ta)(g:PE X b tb):PE X (.IfExp c a b pos) (tIf tA ta tb):=by
 intro M s J H Q I h;show wpAny_IfExp (thn (i M s J H _ I h) λd s1 j=>?_);have(H1,e,f):=j
 cases d with
 |true=>show ha M s1 J H1 Q e f
 |false=>show g M s1 J H1 Q e f
def SqL(K:aU)(H:Hp)(a:Addr)(B:LVv):Prop:=
 Rd H a (.lst B) \/
  ∃(o:Obj) (L:Array Value) (n:Nat),K.lookup a=aa o/\o.cls=.type "list" /\ o.dict=ac/\o.data=.seq L n/\L.size<=aT/\aJ B L.toList
def SqT(K:aU)(H:Hp)(a:Addr)(B:LVv):Prop:=
 Rd H a (.tup B) \/
  ∃(o:Obj) (L:Array Value) (n:Nat),K.lookup a=aa o/\o.cls=.type "tuple" /\ o.data=.seq L n/\L.size<=aT/\aJ B L.toList
abbrev Ic:Value->Option V
 |.none=>aa .non
 |.bool b=>aa (.bl b)
 |.int i _=>aa (.int i)
 |.str x _=>aa (.str x)
 |.bytes b _=>aa (.byt b)
 |.float b _=>aa (.flt b)
 |.ref a=>aa (.ref a)
 |.type n=>aa (.ty n)
 | _=>ac
def aC.abs{x:V}(r:aC x u):Ic u=aa x:=by
 cases x with
 |non=>subst r;rfl
 |bl _=>subst r;rfl
 |int _=>have(t,rfl):=r;rfl
 |str _=>have(t,rfl):=r;rfl
 |byt _=>have(t,rfl):=r;rfl
 |flt _=>have(t,rfl):=r;rfl
 |ref _=>subst r;rfl
 |ty _=>subst r;rfl
variable{y:V}
def aC.inj{x:V}(r:aC x u)(q:aC y u):x=y:=cS (r.abs.symm.trans q.abs)
def aJ.inj:∀{B a:LVv} {us:LVa},aJ B us->aJ a us->B=a
 | _,_,_,.nil,.nil=>rfl
 | _,_,_,.cons r t,.cons r' t'=>by rw[r.inj r',aJ.inj t t']
variable{a:Addr}{K:aU}
def SqL.of(h:H a=aa (.lst B)):SqL K H a B:=.inl (.inl h)
def SqT.of(h:H a=aa (.tup B)):SqT K H a B:=.inl (.inl h)
def Inv.list{s:ah}(I:Inv X M J H s)(h:SqL X.K H a B):∃L:LVa,aJ B L/\PlainL s.heap a L.toArray/\B.length<=aT:=by
 rcases h with h |⟨o,L,n,hk,hc,hd,hs,hz,r⟩
 .have(z,L,n,r,e):=h.ok I.hok;show(L,r,(_,n,e,rfl,rfl,rfl),z)
 .show(L.toList,r,(o,n,I.kIn a o hk,hc,hd,by simpa using hs),?_);have e:=r.length
  grind
def Inv.tuple{s:ah}(I:Inv X M J H s)(h:SqT X.K H a B):∃L:LVa,aJ B L/\IsTup s.heap a L.toArray/\B.length<=aT:=by
 rcases h with h |⟨o,L,n,hk,hc,hs,hz,r⟩
 .have(z,L,r,p):=h.ok I.hok;show(L,r,p,z)
 .show(L.toList,r,(o,I.kIn a o hk,hc,n,by simpa using hs),?_);have e:=r.length;simp only[iy]at e
  lia
variable{ys:LVv}
def Inv.list_inj{s:ah}(I:Inv X M J H s)(h:SqL X.K H a B)(h':SqL X.K H a ys):B=ys:=by
 have(L,r,(o,n,e,_,_,d),_):=I.list h;have(b,f,(o',g,c,_,_,d'),_):=I.list h';rw[e]at c;cases c;rw[d]at d'
 injection d' with d1 _
 have:L=b:=by simpa using congrArg Array.toList d1
 subst this;show r.inj f
def Inv.tuple_inj{s:ah}(I:Inv X M J H s)(h:SqT X.K H a B)(h':SqT X.K H a ys):B=ys:=by
 have(L,r,(o,e,_,n,d),_):=I.tuple h;have(b,f,(o',c,_,g,d'),_):=I.tuple h';rw[e]at c;cases c;rw[d]at d'
 injection d' with d1 _
 have:L=b:=by simpa using congrArg Array.toList d1
 subst this;show r.inj f
nonrec def Cx.wish(X:Cx)(S5:PRS):Cx:={X with xe:=S5}
nonrec def Cx.nox(X:Cx):Cx:=X.wish λ_ _=>False
def Cx.Ok.wish(ok:X.Ok)(S5:PRS):(X.wish S5).Ok:=
 (ok.mod,ok.kind,ok.glob,ok.blt,ok.above,ok.inj,ok.has,ok.cab,ok.hd,ok.frames,ok.stk,ok.exf,ok.bs,ok.bsz,ok.noex,ok.exfs,ok.funs,ok.frf)
def Cx.Ok.unwish(ok:(X.wish S5).Ok):X.Ok:=
 (ok.mod,ok.kind,ok.glob,ok.blt,ok.above,ok.inj,ok.has,ok.cab,ok.hd,ok.frames,ok.stk,ok.exf,ok.bs,ok.bsz,ok.noex,ok.exfs,ok.funs,ok.frf)
def Inv.wish{s:ah}(I:Inv X M J H s)(S5:PRS):Inv (X.wish S5) M J H s:=(I.ok.wish S5,I.os,I.bare,I.base,I.loc,I.cell,I.free,I.freeC,I.pin,I.hok,I.len)
def Inv.unwish{s:ah}(I:Inv (X.wish S5) M J H s):Inv X M J H s:=(I.ok.unwish,I.os,I.bare,I.base,I.loc,I.cell,I.free,I.freeC,I.pin,I.hok,I.len)
def SP.unwish{D:iI}{f:Flow}(h:SP (X.wish S5) M D f s'):SP X M D f s':=by
 cases f with
 |next=>have(σ',H',I,q):=h;show(σ',H',I.unwish,q)
 |brk=>have(σ',H',I,q):=h;show(σ',H',I.unwish,q)
 |cont=>have(σ',H',I,q):=h;show(σ',H',I.unwish,q)
 |ret u=>have(v,σ',H',I,r,q):=h;show(v,σ',H',I.unwish,r,q)
def PSs.nox{st:List Stmt}{t:TS}(h:PSs X.nox st t):PSs X st t:=λM s J H D I a=>
 fj (h M s J H D (I.wish _) a) (λ_ _ q=>q.unwish) λ_ _ z=>gL z
def Ie:TS:=λD J H=>D.nx J H
def Ig(t u:TS):TS:=λD J H=>t {D with nx:=u D} J H
def Cd:PSs X [] Ie:=λ_ _ J H _ I h=>rM (J,H,I,h)
variable{st:Stmt}{u:TS}
def r9{rest:List Stmt}{t:TS}(h1:PS X st t)(h2:PSs X rest u):PSs X (st::rest) (Ig t u):=by
 intro M s J H D I h
 show wpAny_execs_cons (thn (h1 M s J H {D with nx:=u D} I h) λf s1 q=>?_)
 cases f with
 |next=>
  have(σ',H',a,q):=q
  show h2 M s1 σ' H' D a q
 |ret v=>show q
 |brk=>show q
 |cont=>show q
def Ce{t:TS}(h1:PS X st t):PSs X [st] t:=by
 intro M s J H D I h;show wpAny_execs_cons (thn (h1 M s J H D I h) λf s1 q=>?_)
 cases f with
 |next=>show rM q
 |ret v=>show q
 |brk=>show q
 |cont=>show q
def Inv.quiet{s:ah}(I:Inv X M J H s):interactive X.env=ae:=by simp[interactive,I.ok.kind]
def jD(te:TE):TS:=λD J H=>te J H λ_ H1=>D.nx J H1
variable{te:TE}
def iJ(b:PE X e te)(c:autoParam (fP e ac pos.line X.env=pure ae) Zb):PS X (.Expr e pos) (jD te):=by
 intro M s J H D I h;show wpAny_Expr_any (thn (b M s J H _ I h) λv s1 (x,H1,a,f,d)=>(J,H1,a,d)) I.quiet c
def Ih(te:TE):TS:=λD J H=>te J H D.rt
def o9(b:PE X e te):PS X (.Return (aa e) pos) (Ih te):=by
 intro M s J H D I h;show wpAny_Return_some (thn (b M s J H _ I h) λv s1 (x,H1,a,d,c)=>(x,J,H1,a,d,c))
def Ii(c:TT)(t u:TS):TS:=λD J H=>c J H λb H1=>if b=ab then t D J H1 else u D J H1
variable{tc:TT}
def Ij{t:TS}{a b:List Stmt}(i:PT X c tc)(ha:PSs X a t)(g:PSs X b u):PS X (.If c a b pos) (Ii tc t u):=by
 intro M s J H D I h;show wpAny_If (thn (i M s J H _ I h) λd s1 j=>?_);have(H1,e,f):=j
 cases d with
 |true=>show ha M s1 J H1 D e f
 |false=>show g M s1 J H1 D e f
nonrec def TG:=V->St->Hp->(St->Hp->Prop)->Prop
nonrec def TGs:=LVv->St->Hp->(St->Hp->Prop)->Prop
def PG(X:Cx)(a:Expr)(t:TG):Prop:=
 ∀(M:PNS) (s:ah) (J:St) (H:Hp) (v:V) (u:Value) (Q:St->Hp->Prop),Inv X M J H s->aC v u->t v J H Q ->
  wpAny (model X.prog X.w) X.A (assign a X.env u) (λ_ s'=>∃σ' H',Inv X M σ' H' s'/\Q σ' H') X.xe s
def PGs(X:Cx)(ts:LEx)(t:TGs):Prop:=
 ∀(M:PNS) (s:ah) (J:St) (H:Hp) (vs:LVv) (us:LVa) (Q:St->Hp->Prop),Inv X M J H s->aJ vs us->t vs J H Q ->
  wpAny (model X.prog X.w) X.A (assignInOrder ((g8 ts X.env).map (·.2)) us) (λ_ s'=>∃σ' H',Inv X M σ' H' s'/\Q σ' H') X.xe s
nonrec def vS:=V->V->V->Hp->(Hp->Prop)->Prop
def Cf(X:Cx)(t:vS):Prop:=
 ∀(M:PNS) (s:ah) (J:St) (H:Hp) (o i v:V) (b a u:Value) (Q:Hp->Prop),Inv X M J H s->aC o b->aC i a->aC v u->t o i v H Q ->
  wpAny (model X.prog X.w) X.A (setItem b a u) (λ_ s'=>∃H',Inv X M J H' s'/\Q H') X.xe s
nonrec def TIp:=V->V->Hp->VK->Prop
def PIp(X:Cx)(op:Operator)(t:TIp):Prop:=
 ∀(M:PNS) (s:ah) (J:St) (H:Hp) (x y:V) (v u:Value) (Q:VK),Inv X M J H s->aC x v->aC y u->t x y H Q ->
  wpAny (model X.prog X.w) X.A (inplaceOp op v u) (EP X M J Q) X.xe s
def gt(i:Nat):TG:=λv J H Q=>Q (J.set i (aa v)) H
def vT(b:X.N.Nodup)(hi:X.N[i]?=aa x)(d:Loc X.env.scope x)(c:autoParam (LcF X x) Zh):PG X (.Name x pos) (gt i):=by
 intro M s J H v u Q I r h;show wpAny_assign_Name (vQ I b hi d r (λs' a=>(_,H,a,h)) c)
def Ik:TGs:=λvs J H Q=>vs=[]/\Q J H
def Il(t:TG)(u:TGs):TGs:=λvs J H Q=>∃v r,vs=v::r/\t v J H λσ' H'=>u r σ' H' Q
def Im:PGs X [] Ik:=by
 intro M s J H vs us Q I r h;have(e,h):=h;show assignInOrder_nil (J,H,I,h)
variable{es:LEx}
def Io{t:TG}{u:TGs}(h1:PG X e t)(h2:PGs X es u)
 (d:autoParam ((g8 (e::es) X.env).map (·.2)=assign e X.env::(g8 es X.env).map (·.2)) Zb):PGs X (e::es) (Il t u):=by
 intro M s J H vs us Q I r h;have(v,i,c,h):=h;subst c
 cases r with
 |cons r g=>
  rw[d];show assignInOrder_cons (thn (h1 M s J H _ _ _ I r h) λ_ s1 (a,H1,b,f)=>(h2 M s1 a H1 _ _ Q b g f))
def Ip(K:aU)(n:Nat)(t:TGs):TG:=λv J H Q=>∃a B,v=.ref a/\SqT K H a B/\B.length=n/\t B J H Q
def Iq{k:Nat}{t:TGs}{n:Nat}(i:X.calm=ab)(h:PGs X es t)
 (hn:autoParam ((g8 es X.env).length=n) Zb)(c:autoParam ((g8 es X.env).findIdx? (·.1)=ac) Zb):PG X (.Tuple es k pos) (Ip X.K n t):=by
 intro M s J H v u Q I r d;have(a,B,g,l,j,d):=d;subst g;subst r;have(L,f,m,hz):=I.tuple l;show assign_Tuple_tuple (I.ok.hd i) m (by simp[hn,<- j,f.length]) c λh' p=>?_;show h M _ J H B _ Q (I.kept λb o e=>p b o (bT (bx e)) e) (by simpa using f) d
def vU(to b:TE)(t:vS):TG:=λv J H Q=>to J H λo H1=>b J H1 λi H2=>t o i v H2 λa=>Q J a
def Cg{o i:Expr}{to d:TE}{t:vS}(l:PE X o to)(hi:PE X i d)(m:Cf X t)
 (ha:autoParam (∀ v,assign (.Subscript o i pos) X.env v=(do
   let a <- fu [v] (eval o X.env)
   let b <- fu [v,a] (eval i X.env)
   g9 pos
   fu [v,a,b] (setItem a b v)
   release [v,a,b] [])) Zd):PG X (.Subscript o i pos) (vU to d t):=by
 intro M s J H v u Q I r h;show ap (jB (thn (l M s J H _ I h) λa s1 c=>?_));have(x,H1,f,w,n):=c;show ap (jB (thn (hi M s1 J H1 _ f n) λb s2 c=>?_));have(y,H2,g,z,p):=c;show ap (wpAny_standAt (ap (jB (thn (m M s2 J H2 x y v a b u _ g w z r p) λ_ A (e,j,q)=>(wpAny_release (J,e,j,q))))))
def hV(te:TE)(g:TG):TS:=λD J H=>te J H λx H1=>g x J H1 D.nx
variable{tg:Expr}{g:TG}
def vV(b:PE X e te)(c:PG X tg g)(d:autoParam (swapsWithSole [tg] e pos.line X.env=pure ae) Zb)(f:autoParam (swappedStores [tg] e X.env=pure ac) Zb)
 (h1:autoParam ((g8 [tg] X.env).map (·.2)=[assign tg X.env]) Zb):PS X (.Assign [tg] e pos) (hV te g):=by
 intro M s J H D I h;show wpAny_Assign_stores (thn (b M s J H _ I h) λv s1 j=>?_) d f;have(x,H1,a,l,i):=j;rw[h1];show thn (c M s1 J H1 x v _ a l i) λ_ s2 q=>q
variable{c5:Pos}
def lM(c:X.N.Nodup)(hi:X.N[i]?=aa x)(j:Loc X.env.scope x)(d:PE X e te)(g:autoParam (fP e (aa (.Name x c5)) pos.line X.env=pure ae) Zb)(f:autoParam (LcF X x) Zh):
  PS X (.Assign [.Name x c5] e pos) (hV te (gt i)):=by
 intro M s J H D I h;show wpAny_Assign_Name (thn (d M s J H _ I h) λv s1 (y,H1,a,m,l)=>(vQ a c hi j m (λs2 b=>(_,H1,b,l)) f)) g
def Ir(i:Nat)(te:TE)(a:TIp):TS:=λD J H=>∃x,J[i]?=aa (aa x)/\te J H λy H1=>a x y H1 λz H2=>D.nx (J.set i (aa z)) H2
variable{op:Operator}
def Iu{n:TIp}(E:X.N.Nodup)(hi:X.N[i]?=aa x)(g:Loc X.env.scope x)(L:PE X e te)(U:PIp X op n)(Q:autoParam (LcF X x) Zh):
  PS X (.AugAssign (.Name x c5) op e pos) (Ir i te n):=by
 intro M s J H D I h;have(v,C,h):=h;have(m,hn,T):=I.loc
 have j:Vis X.env.scope x:=by rcases g with k |k;show .inl k;show .inr (.inl k)
 have(u,r,l):=T i x v hi C j;show wpAny_AugAssign_Name ?_
 have go:wpAny (model X.prog X.w) X.A (eval e X.env) (λw d=>wpAny (model X.prog X.w) X.A (inplaceOp op u w) (λr f=>wpAny (model X.prog X.w) X.A (storeName X.env x r) (λ_=>SP X M D .next) X.xe f) X.xe d) X.xe s:=by
  show thn (L M s J H _ I h) λw s1 q_=>?_;have(y,H1,p,r1,Y):=q_;show thn (U M s1 J H1 v y u w _ p r r1 Y) λz s2 (zv,H2,q,r2,q2)=>(vQ q E hi g r2 (λs3 B=>(_,H2,B,q2)) Q)
 rcases l with⟨a,hm⟩ |⟨a,c,G,b⟩
 .show wpAny_loadName_local I.ok.kind a hn hm go
 .rcases a with a |a
  .show wpAny_loadName_cell I.ok.kind a G b go
  .rcases g with k |k
   .have:X.env.scope.names.lookup x=aa .free:=a;rw[k]at this;nomatch this
   .have:X.env.scope.names.lookup x=aa .free:=a;rw[k]at this;nomatch this
def ipI(f:Int->Int->Int):TIp:=λx y H Q=>∃i j,x=.int i/\y=.int j/\Q (.int (f i j)) H
def Iv:PIp X .Add (ipI λi j=>i+j):=by
 intro M s J H x y v u Q I c d h;have(i,j,a,b,q):=h;subst a;subst b;have(t,rfl):=c;have(t',rfl):=d;show iadd_int (.int _,H,I.tok _,(_,rfl),q)
def Iw(c:TT)(tb:TS):TS:=λD J H=>∃W:Nat->St->Hp->Prop,(∃m,W m J H)/\∀m J H,W m J H ->
 c J H λb H1=>if b=ab then ∃N:St->Hp->Prop,(∀σ' H',N σ' H'->∃a,a<m/\W a σ' H')/\tb {D with nx:=N,ct:=N,bk:=D.nx} J H1 else D.nx J H1
variable{body:List Stmt}
def Ix{tb:TS}(x:PassesOwn (model X.prog X.w) X.A X.env X.xe)(B:PT X c tc)(z:PSs X body tb):PS X (.While c body [] pos) (Iw tc tb):=by
 intro M s J H D I h;have(W,(C,G),g):=h;show wpAny_While (codeAny_whileLoop (λn s'=>∃σ' H',Inv X M σ' H' s'/\W n σ' H') ?_ C (J,H,I,G));rintro n s1 ⟨d,H1,y,L⟩;show lA x (thn (B M s1 d H1 _ y (g n d H1 L)) λb s2 E=>?_);have(H2,r,i):=E
 cases b with
 |true=>
  have(N,u,i):=i;show lA x (thn (z M s2 d H2 _ r i) λf Q j=>?_)
  cases f with
  |next=>
   have(a,e,l,p):=j;have(m,hm,q):=u a e p
   show(m,hm,a,e,l,q)
  |cont=>
   have(a,e,l,p):=j;have(m,hm,q):=u a e p
   show(m,hm,a,e,l,q)
  |brk=>show j
  |ret v=>show j
 |false=>
  show rM (d,H2,r,i)
structure It where
 go:Nat->Hp->Prop
 yld:Nat->Hp->V->Hp->Prop
 stop:Nat->Hp->Prop
def gQ(X:Cx)(M:PNS)(H:Hp)(b:Addr):Prop:=
 H b=ac/\b≠X.env.locals/\b∉X.fs/\(b∈X.ex\/X.s₀.heap.objs.size<=b)/\(∀x c,X.env.cells.lookup x=aa c->c≠b)/\∀p∈X.pn++M,p.1≠b
def Inv.fpOk{s:ah}{b:Addr}(I:Inv X M J H s)(a:s.heap.objs.size<=b)(hn:H' b=ac):gQ X M H' b:=by
 show(hn,oU (eR I.lt a),I.nofs a,.inr (cJ I.sz a),λx c e z=>?_,λp d z=>(absurd (eR (bx (I.pin p d).1) (by rw[z];show a)) (gN _)));have(v,q):=I.cell x c e;show absurd (eR q.lt (by rw[z];show a)) (gN _)
structure kz(P:bX)(w:World)(K:aU)(tg:Expr)(S2:It)(fp:LAd)(it:Addr)(tn:Nat->Heap->Prop):Prop where
 mem:it∈fp
 obj:∀i h,tn i h->∀b∈fp,∃o,h.get? b=aa o/\∀v,o.data≠.cell v
 keep:∀i h h',tn i h->(∀b∈fp,∀o,h.get? b=aa o->h'.get? b=aa o)->tn i h'
 item:∀(X:Cx),X.prog=P->X.w=w->X.K=K->X.calm=ab->∀(i:Nat) (M:PNS) (s:ah) (J:St) (H:Hp) (S5:PRS),Inv X M J H s->(∀b∈fp,gQ X M H b)->tn i s.heap->S2.go i H ->
  wpAny (model P w) X.A (iC (.ref it)) (λr s1=>∃ u,r=aa u /\
   wpAny (model P w) X.A (letOwnedTupleGo tg (.ref it) u) (λ_ s2=>∃x H',Inv X M J H' s2/\aC x u/\S2.yld i H x H'/\tn (i+1) s2.heap/\∀b∈fp,H' b=ac) S5 s1) S5 s
 done:∀(X:Cx),X.prog=P->X.w=w->X.K=K->X.calm=ab->∀(i:Nat) (M:PNS) (s:ah) (J:St) (H:Hp) (S5:PRS),Inv X M J H s->(∀b∈fp,gQ X M H b)->tn i s.heap->S2.stop i H ->
  wpAny (model P w) X.A (iC (.ref it)) (λr s1=>r=ac/\Inv X M J H s1) S5 s
 self:∀(A:b7) (i:Nat) (s:ah) (Q:PRS) (S5:PRS),tn i s.heap->Q (.ref it) s->wpAny (model P w) A (pyIter (.ref it)) Q S5 s
nonrec def TI:=St->Hp->(It->Hp->Prop)->Prop
def PIE(X:Cx)(M:PNS)(J:St)(tg:Expr)(R:It->Hp->Prop)(a:Value)(s2:ah):Prop:=
 ∃(it:Addr) (fp:LAd) (tn:Nat->Heap->Prop) (S2:It) (H':Hp),a=.ref it/\Inv X M J H' s2/\kz X.prog X.w X.K tg S2 fp it tn/\tn 0 s2.heap/\(∀b∈fp,gQ X M H' b)/\R S2 H'
def PI(X:Cx)(tg iter:Expr)(a:TI):Prop:=
 ∀(M:PNS) (s:ah) (J:St) (H:Hp) (R:It->Hp->Prop),Inv X M J H s->a J H R ->
  wpAny (model X.prog X.w) X.A (eval iter X.env) (λv s1=>wpAny (model X.prog X.w) X.A (pyIter v) (PIE X M J tg R) X.xe s1) X.xe s
variable{u:Value}
def vW{s:ah}{o:Obj}{n:String}{vs:Array Value}(c:s.heap.get? it = aa o)(b:o.cls = .type n)(hd:o.data = .fields vs)
   (hn:["enumerate", "zip", "dict_itemiterator", "dict_reverseitemiterator", "odict_iterator", "itertools.zip_longest", "itertools.pairwise"].contains n = ae)(a:Q () s):wpAny S0 A (letOwnedTupleGo tg (.ref it) u) Q S5 s:= by
  cases tg <;> first
    |show aI a
    | (cases u <;> first
        |show aI a
        | (show ap (wpAny_load c ?_)
           rw[b, hd];change wpAny S0 A (if _ = ab then _ else _) Q S5 s;rw[if_neg (by intro h;rw[hn, Bool.false_and]at h;nomatch h)];show aI a))
def Itl(K:aU)(a:Addr):It:=
 (λi H=>∃B x,SqL K H a B/\B[i]?=aa x,λi H x H'=>H'=H/\∀B,SqL K H a B->B[i]?=aa x,λi H=>∃B,SqL K H a B/\B.length<=i)
def Itt(K:aU)(a:Addr):It:=
 (λi H=>∃B x,SqT K H a B/\B[i]?=aa x,λi H x H'=>H'=H/\∀B,SqT K H a B->B[i]?=aa x,λi H=>∃B,SqT K H a B/\B.length<=i)
def Itr(lo:Int)(n:Nat):It:=(λi _=>i<n,λi H x H'=>H'=H/\x=.int (lo+i),λi _=>n<=i)
def Iy(a it:Addr):kz P w K tg (Itl K a) [it] it (λi h=>h.IsListIter it a i) where
 mem:=by simp
 obj:=λi h st b hb=>by
  have e:b=it:=by simpa using hb
  subst e;have(o,e,c,d):=st;show⟨o,e,λv z=>by rw[d]at z;nomatch z⟩
 keep:=λi h h' st k=>st.at λo e=>k it (by simp) o e
 item:=by
  intro X hP hw hK hc i M s J H S5 I hf st hg;subst hP hw hK;have(B,x,hq,hx):=hg;have(L,rv,p,hz):=I.list hq;have(u,hu,ru):=rv.get hx;have(f0,f1,f2,f3,f4,f5):=hf it (by simp);show wpAny_pyNext_list_item st p.isList (by simpa using hu) λh' ez sb=>?_;have(o,e,c,d):=id ez;show(u,rfl,vW e c d (rfl) (x,H,(I.turned (λb o hb e=>(sb.2 b hb).trans e) f0 f1 f3 f4 f5),ru,(rfl,λys hy=>by rw[I.list_inj hy hq];show hx),ez,λb hb=>(hf b hb).1))
 done:=by
  intro X hP hw hK hc i M s J H S5 I hf st hg;subst hP hw hK;have(B,hq,hx):=hg;have(L,rv,p,hz):=I.list hq;have(f0,f1,f2,f3,f4,f5):=hf it (by simp);have hl:=rv.length;show wpAny_pyNext_list_end (I.ok.hd hc) st p.isList (by simp;lia) λh' eb=>(rfl,I.turned (λb o hb e=>eb b o hb e) f0 f1 f3 f4 f5)
 self:=λ_ _ _ _ _ st h=>wpAny_pyIter_listiter st h
def Iz(a it:Addr):kz P w K tg (Itt K a) [it] it (λi h=>h.IsTupleIter it a i) where
 mem:=by simp
 obj:=λi h st b hb=>by
  have e:b=it:=by simpa using hb
  subst e;have(o,e,c,d):=st;show⟨o,e,λv z=>by rw[d]at z;nomatch z⟩
 keep:=λi h h' st k=>st.at λo e=>k it (by simp) o e
 item:=by
  intro X hP hw hK hc i M s J H S5 I hf st hg;subst hP hw hK;have(B,x,hq,hx):=hg;have(L,rv,p,hz):=I.tuple hq;have(u,hu,ru):=rv.get hx;have(f0,f1,f2,f3,f4,f5):=hf it (by simp);show wpAny_pyNext_tuple_item st (p) (by simpa using hu) λh' ez sb=>?_;have(o,e,c,d):=id ez;show(u,rfl,vW e c d (rfl) (x,H,(I.turned (λb o hb e=>(sb.2 b hb).trans e) f0 f1 f3 f4 f5),ru,(rfl,λys hy=>by rw[I.tuple_inj hy hq];show hx),ez,λb hb=>(hf b hb).1))
 done:=by
  intro X hP hw hK hc i M s J H S5 I hf st hg;subst hP hw hK;have(B,hq,hx):=hg;have(L,rv,p,hz):=I.tuple hq;have(f0,f1,f2,f3,f4,f5):=hf it (by simp);have hl:=rv.length;show wpAny_pyNext_tuple_end (I.ok.hd hc) st (p) (by simp;lia) λh' eb=>(rfl,I.turned (λb o hb e=>eb b o hb e) f0 f1 f3 f4 f5)
 self:=λ_ _ _ _ _ st h=>wpAny_pyIter_tupleiter st h
def IA(it:Addr)(lo:Int)(n:Nat):kz P w K tg (Itr lo n) [it] it (λi h=>IsRangeIter h it (lo+(i:Nat)*1) ((n:Int)-(i:Nat)) 1) where
 mem:=by simp
 obj:=λi h st b hb=>by
  have e:b=it:=by simpa using hb
  subst e
  show⟨_,st,λv z=>by
   nomatch z⟩
 keep:=λi h h' st k=>k it (by simp) _ st
 item:=by
  intro X hP hw hK hc i M s J H S5 I hf st hg;have(f0,f1,f2,f3,f4,f5):=hf it (by simp);show(Walks.range (I.ok.hd hc) it lo 1 n).item i s _ _ hg st λv h' tk hv ez kk=>?_;have(t,rfl):=hv
  have I1:Inv X M J H {s with heap:=h',toks:=tk}:=I.turned (λb o hb e=>kk b o (by simpa using hb) e) f0 f1 f3 f4 f5
  show(_,rfl,vW ez rfl rfl (rfl) (.int _,H,I1,(t,?_),(rfl,rfl),ez,λb hb=>(hf b hb).1));rw[Int.mul_one]
 done:=by
  intro X hP hw hK hc i M s J H S5 I hf st hg;have(f0,f1,f2,f3,f4,f5):=hf it (by simp);show wpAny_pyNext_range_end (I.ok.hd hc) st (by have:n<=i:=hg;lia) λh' eb=>(rfl,I.turned (λb o hb e=>eb b o hb e) f0 f1 f3 f4 f5)
 self:=λ_ _ _ _ _ st h=>wpAny_pyIter_rangeiter st h
def vX(K:aU)(b:TE):TI:=λJ H R=>b J H λx H1=>∃a,x=.ref a/\(∃B,SqL K H1 a B)/\R (Itl K a) H1
def IB(K:aU)(b:TE):TI:=λJ H R=>b J H λx H1=>∃a,x=.ref a/\(∃B,SqT K H1 a B)/\R (Itt K a) H1
variable{l:Expr}{tl:TE}
def vY(f:PE X l tl):PI X tg l (vX X.K tl):=by
 intro M s J H R I h;show thn (f M s J H _ I h) λv s1 j=>?_;have(x,H1,c,m,i):=j;have(a,e,(B,g),q):=i;subst e;subst m;have(L,n,p,hz):=c.list g;show rL p.isList ?_;show(s1.heap.objs.size,_,_,_,H1,rfl,c.kept λb o e=>bG _ e,Iy a _,(_,cY _ rfl,rfl,rfl),λb d=>?_,q);have e:b=s1.heap.objs.size:=by simpa using d
 subst e;show c.fpOk (aP _) (c.hok.fresh (aP _))
def IC(f:PE X l tl):PI X tg l (IB X.K tl):=by
 intro M s J H R I h;show thn (f M s J H _ I h) λv s1 j=>?_;have(x,H1,c,m,i):=j;have(a,e,(B,g),q):=i;subst e;subst m;have(L,n,p,hz):=c.tuple g;show wpAny_pyIter_tuple (p) ?_;show(s1.heap.objs.size,_,_,_,H1,rfl,c.kept λb o e=>bG _ e,Iz a _,(_,cY _ rfl,rfl,rfl),λb d=>?_,q);have e:b=s1.heap.objs.size:=by simpa using d
 subst e;show c.fpOk (aP _) (c.hok.fresh (aP _))
def ID{s:ah}{R:It->Hp->Prop}{lo hi:Int}{t u v:Tok}{c:Nat}(I:Inv X M J H s)(h1:-(2 ^ 62)<=lo)(h2:lo<2 ^ 62)(g:-(2 ^ 62)<=hi)(h:hi<2 ^ 62)
 (q:R (Itr lo (hi-lo).toNat) H):wpAny (model X.prog X.w) X.A (pyIter (.ref s.heap.objs.size)) (PIE X M J tg R) S5 {s with heap:=s.heap.push {cls:=.type "range",data:=.fields #[.int lo t,.int hi u,.int 1 v]},toks:=c}:=by
 show wpAny_pyIter_range (IsRange.new ..) (small_one h1 h2 g h) ?_
 have a:Inv X M J H {s with heap:=s.heap.push {cls:=.type "range",data:=.fields #[.int lo t,.int hi u,.int 1 v]},toks:=c}:=I.kept λb o e=>bG _ e
 show((s.heap.push {cls:=.type "range",data:=.fields #[.int lo t,.int hi u,.int 1 v]}).objs.size,_,_,_,H,rfl,
  a.kept λb o e=>bG _ e,IA _ lo (hi-lo).toNat,?_,λb i=>?_,q)
 .have d:lo+((0:Nat):Int)*1=lo:=by simp
  have f:(((hi-lo).toNat:Nat):Int)-((0:Nat):Int)=Builtin.Range.rangeSize lo hi 1:=by rw[rangeSize_one];split <;> lia
  rw[d,f];show cY _ rfl
 .have e:b=(s.heap.push {cls:=.type "range",data:=.fields #[.int lo t,.int hi u,.int 1 v]}).objs.size:=by simpa using i
  subst e;show a.fpOk (aP _) (a.hok.fresh (aP _))
def IE(ta:TA):TI:=λJ H R=>ta J H λvs H1=>∃j:Int,vs=[.int j]/\-(2 ^ 62)<=j/\j<2 ^ 62/\R (Itr 0 j.toNat) H1
variable{a:Expr}
def IF{ta:TA}{p:Pos}(d:Gl X "range")(hm:X.mg "range"=ac)(ha:PA X [a] ta)(f:autoParam (aR [a] X.env=[(ae,eval a X.env,)]) Zb):PI X tg (.Call (.Name "range" p) [a] [] pos) (IE ta):=by
 intro M s J H R I h;show Call_ (je I d hm boot_range (oX (thn (ha pos M s J H _ I h) λus s1 (vs,H1,c,i,b)=>?_) f rfl));have(j,e,b,g,q):=b;subst e
 cases i with
 |cons r l=>
  cases l;have(t,rfl):=r;show call_range_1 (ID c (by lia) (by lia) b g (by simpa using q))
def vZ(c:TI)(g:TG)(tb:TS):TS:=λD J H=>c J H λS2 H1=>∃W:Nat->Nat->St->Hp->Prop,(∃m,W 0 m J H1)/\∀i m J H,W i m J H ->
 (S2.stop i H/\D.nx J H)\/(S2.go i H/\∃N:St->Hp->Prop,(∀σ' H',N σ' H'->∃b,b<m/\W (i+1) b σ' H')/\∀x H',S2.yld i H x H'->g x J H' λa H2=>tb {D with nx:=N,ct:=N,bk:=D.nx} a H2)
def sd(fp:LAd)(h:Heap):PNS:=fp.filterMap λb=>(h.get? b).map λo=>(b,o,)
variable{fp:LAd}
def se{b:Addr}{o:Obj}(a:b∈fp)(e:h.get? b=aa o):(b,o,)∈sd fp h:=mem_filterMap.mpr (b,a,by rw[e];rfl)
def IG{p:Addr×Obj}(a:p∈sd fp h):p.1∈fp/\h.get? p.1=aa p.2:=by
 have(b,c,e):=mem_filterMap.mp a
 cases q:h.get? b with
 |none=>rw[q]at e;nomatch e
 |some o=>
  grind
def Inv.pinned{s:ah}(I:Inv X M J H s)(c:∀b∈fp,gQ X M H b)(g:∀b∈fp,∃o,s.heap.get? b=aa o/\∀v,o.data≠.cell v):Inv X (M++sd fp s.heap) J H s:=
 I.pins_of λp d=>(bI.mp d).elim (λz=>I.pin p (cV _ z)) λz=>by
  have(a,e):=IG z;have(f,f1,f2,_):=c p.1 a
  grind
def Inv.unpinned{b:PNS}{s:ah}(I:Inv X (M++b) J H s):Inv X M J H s:=I.pins_of λp a=>I.pin p (cV _ (dO _ a))
variable{iter:Expr}{wi:TI}
def Ch{tb:TS}(C:PassesOwn (model X.prog X.w) X.A X.env X.xe)(hc:X.calm=ab)(hi:PI X tg iter wi)(hg:PG X tg g)(l:PSs X body tb)
 (hs:autoParam (∀x,kc iter X.env x=pure x) Zd):PS X (.For tg iter body [] pos) (vZ wi g tb):=by
 intro M s J H D I h;show wpAny_For (thn (hi M s J H _ I h) λv s1 h1=>thn h1 λitv s2 h2=>?_) hs;have(it,fp,tn,S2,H2,e,I2,T,st2,f2,W,(m0,w0),Q):=h2;subst e;have p:∀{H':Hp},(∀b∈fp,H' b=ac)->∀b∈fp,gQ X M H' b:=λhn b l=>(hn b l,(f2 b l).2);show codeAny_forLoop_any (λn s'=>∃i σ' H',Inv X M σ' H' s'/\tn i s'.heap/\(∀b∈fp,H' b=ac)/\W i n σ' H') ?_ m0 (0,J,H2,I2,st2,λb l=>(f2 b l).1,w0);rintro n s3 ⟨i,q,U,I3,L,B,w3⟩
 rcases Q i n q U w3 with⟨stop,qn⟩ |⟨go,N,hN,step⟩
 .show lA C (thn (T.done X rfl rfl rfl hc i M s3 q U X.xe I3 (p B) L stop) λr s4 (hr,I4)=>?_);subst hr;show rM (q,U,I4,qn)
 .show lA C (thn (T.item X rfl rfl rfl hc i M s3 q U X.xe I3 (p B) L go) λr s4 G=>?_);have(u,hr,h4):=G;subst hr;show lA C (thn h4 λ_ s5 G=>?_);have(x,H5,I5,r5,y5,z,Y):=G;show lA C (thn (hg _ s5 q H5 x u _ (I5.pinned (p Y) (T.obj _ _ z)) r5 (step x H5 y5)) λ_ s6 G=>?_);have(σ6,H6,I6,q6):=G;show lA C (thn (l _ s6 σ6 H6 _ I6 q6) λf s7 y=>?_)
  have again:∀{a:St} {c:Hp},Inv X _ a c s7->N a c->∃m,m<n/\∃i σ' H',Inv X M σ' H' s7/\tn i s7.heap/\(∀b∈fp,H' b=ac)/\W i m σ' H':=λ{a c} j E=>by
   have(m',hm,w7):=hN a c E;show(m',hm,i+1,a,c,j.unpinned,T.keep _ _ _ z λb l o e=>(j.pin _ (cV _ (cV _ (se l e)))).1,λb l=>?_,w7);have(o,e,d):=T.obj _ _ z b l;show(j.pin _ (cV _ (cV _ (se l e)))).2.1
  cases f with
  |next=>have(a,c,j,E):=y;show again j E
  |cont=>have(a,c,j,E):=y;show again j E
  |brk=>have(a,c,j,y):=y;show(a,c,j.unpinned,y)
  |ret v=>have(x7,a,c,j,r7,y):=y;show(x7,a,c,j.unpinned,r7,y)
nonrec def R2:=V->V->Hp->VK->Prop
def OpR(X:Cx)(f:Value->Value->Sem Value)(r:R2):Prop:=
 ∀(M:PNS) (s:ah) (J:St) (H:Hp) (x y:V) (v u:Value) (Q:VK),Inv X M J H s->aC x v->aC y u->r x y H Q ->
  wpAny (model X.prog X.w) X.A (f v u) (EP X M J Q) X.xe s
def gR(X:Cx)(f:Value)(r:LVv->Hp->VK->Prop):Prop:=
 ∀(M:PNS) (s:ah) (J:St) (H:Hp) (B:LVv) (us:LVa) (Q:VK),Inv X M J H s->aJ B us->r B H Q ->
  wpAny (model X.prog X.w) X.A (call f us) (EP X M J Q) X.xe s
def IH(X:Cx)(r:V->Hp->(Bool->Hp->Prop)->Prop):Prop:=
 ∀(M:PNS) (s:ah) (J:St) (H:Hp) (x:V) (v:Value) (Q:Bool->Hp->Prop),Inv X M J H s->aC x v->r x H Q ->
  wpAny (model X.prog X.w) X.A (truthy v) (TP X M J Q) X.xe s
def tOp(r:R2)(ta tb:TE):TE:=λJ H Q=>ta J H λx H1=>tb J H1 λy H2=>r x y H2 Q
def rI(S4:Int->Int->Prop)(g:Int->Int->V):R2:=λx y H Q=>∃i j,x=.int i/\y=.int j/\S4 i j/\Q (g i j) H
def rI0(g:Int->Int->V):R2:=λx y H Q=>∃i j,x=.int i/\y=.int j/\Q (g i j) H
variable{f:Value->Value->Sem Value}
def v8(ha:PE X a ta)(i:PE X b tb){s:ah}{R:V->V->Hp->Prop}(I:Inv X M J H s)
 (h:ta J H λx H1=>tb J H1 λy H2=>R x y H2){Q:PRS}
 (j:∀v u s2 x y H2,Inv X M J H2 s2->aC x v->aC y u->R x y H2->wpAny (model X.prog X.w) X.A (f v u) Q X.xe s2):
  wpAny (model X.prog X.w) X.A (eval a X.env) (λv c=>wpAny (model X.prog X.w) X.A (eval b X.env) (λu d=>wpAny (model X.prog X.w) X.A (f v u) Q X.xe d) X.xe c) X.xe s:=by
 show thn (ha M s J H _ I h) λv s1 n=>?_;have(x,H1,e,p,l):=n;show thn (i M s1 J H1 _ e l) λu s2 (y,H2,g,q,m)=>(j v u s2 x y H2 g p q m)
variable{r:R2}
def Ci(e:OpR X (fm op) r)(ha:PE X a ta)(d:PE X b tb):PE X (.BinOp a op b pos) (tOp r ta tb):=by
 intro M s J H Q I h;show wpAny_BinOp (v8 ha d I h λv u s2 x y H2 c f g q=>e M s2 J H2 x y v u Q c f g q)
def opI{S4:Int->Int->Prop}{g:Int->Int->Int}
 (rule:∀(i j:Int) (t u:Tok) (s:ah) (Q:PRS) (S5:PRS),S4 i j->Q (.int (g i j) s.toks) {s with toks:=s.toks+1}->wpAny (model X.prog X.w) X.A (f (.int i t) (.int j u)) Q S5 s):
  OpR X f (rI S4 λi j=>.int (g i j)):=by
 intro M s J H x y v u Q I b c h;have(i,j,rfl,rfl,a,q):=h;have(t,rfl):=b;have(t',rfl):=c;show rule i j t t' s _ _ a (.int _,H,I.tok _,(_,rfl),q)
def Cj{g:Int->Int->Int}
 (rule:∀(i j:Int) (t u:Tok) (s:ah) (Q:PRS) (S5:PRS),Q (.int (g i j) s.toks) {s with toks:=s.toks+1}->wpAny (model X.prog X.w) X.A (f (.int i t) (.int j u)) Q S5 s):
  OpR X f (rI0 λi j=>.int (g i j)):=by
 intro M s J H x y v u Q I a b h;have(i,j,rfl,rfl,q):=h;have(t,rfl):=a;have(t',rfl):=b;show rule i j t t' s _ _ (.int _,H,I.tok _,(_,rfl),q)
def sg{g:Int->Int->Bool}
 (rule:∀(i j:Int) (t u:Tok) (s:ah) (Q:PRS) (S5:PRS),Q (.bool (g i j)) s->wpAny (model X.prog X.w) X.A (f (.int i t) (.int j u)) Q S5 s):
  OpR X f (rI0 λi j=>.bl (g i j)):=by
 intro M s J H x y v u Q I a b h;have(i,j,rfl,rfl,q):=h;have(t,rfl):=a;have(t',rfl):=b;show rule i j t t' s _ _ (.bl _,H,I,rfl,q)
def pb(i j:Int):Prop:=0<j/\j<1073741824
def pc(i j:Int):Prop:=0<=j/\j<=1000000/\i.natAbs<2 ^ 64
def pf(i j:Int):Prop:=(-(2 ^ 64)<i/\i<2 ^ 64)\/(-(2 ^ 64)<j/\j<2 ^ 64)
variable{j:Int}
def pf.ok{i:Int}(h:pf i j):IntMulOk i j:=by
 rcases h with⟨h1,h2⟩ |⟨h1,h2⟩
 .show .of_left (intBits_le_64 h1 h2)
 .show .of_right (intBits_le_64 h1 h2)
def II:OpR X (fm .Add) (rI0 λi j=>.int (i+j)):=Cj λ_ _ _ _ _ _ _ q=>add_int q
def IJ:OpR X (fm .Sub) (rI0 λi j=>.int (i-j)):=Cj λ_ _ _ _ _ _ _ q=>sub_int q
def IK:OpR X (fm .FloorDiv) (rI pb λi j=>.int (i / j)):=opI λi j _ _ _ _ _ a q=>by
 have h1:=a.1;have h2:=a.2;show floordiv_int (by lia) (by rw[Int.fdiv_eq_ediv_of_nonneg i (by lia)];show q) (.inl (PyProof.noPylong_small (by lia)))
def IL:OpR X (fm .Mod) (rI (λ_ j=>0<j) λi j=>.int (i % j)):=opI λi j _ _ _ _ _ a q=>by
 show mod_int' (by lia) (by rw[Int.fmod_eq_emod_of_nonneg i (by lia)];show q)
def IM:OpR X (fm .Pow) (rI pc λi j=>.int (i ^ j.toNat)):=opI λ_ _ _ _ _ _ _ a q=>pow_int_small a.1 a.2.1 a.2.2 q
abbrev v9:V->V->Bool
 |.non,.non=>ab |.non,.int _=>ab |.int _,.non=>ab |.non,.bl _=>ab |.bl _,.non=>ab |.non,.str _=>ab |.str _,.non=>ab
 |.int _,.int _=>ab |.bl _,.bl _=>ab |.str _,.str _=>ab |.byt _,.byt _=>ab
 |.int _,.str _=>ab |.str _,.int _=>ab |.bl _,.str _=>ab |.str _,.bl _=>ab
 | _,_=>ae
def rEq:R2:=λx y H Q=>v9 x y=ab/\Q (.bl (decide (x=y))) H
def rNe:R2:=λx y H Q=>v9 x y=ab/\Q (.bl (!decide (x=y))) H
def wa{i:Int}:decide (V.int i=V.int j)=(i==j):=by
 rw[j5];simp
def ph{i j:Bool}:decide (V.bl i=V.bl j)=(i==j):=by
 rw[j5];simp
def wb{i j:Str}:decide (V.str i=V.str j)=(i==j):=by
 rw[j5];simp
def Ck{i j:Array UInt8}:decide (V.byt i=V.byt j)=(i.toList==j.toList):=by
 rw[j5];cases i;cases j;simp
def bQ{s:ah}{Q:VK}{k a:Bool}(I:Inv X M J H s)(q:Q (.bl k) H)(e:k=a):EP X M J Q (.bool a) s:=by
 subst e;show(.bl k,H,I,rfl,q)
def IN:OpR X (cu .Eq) rEq:=by
 intro M s J H x y v u Q I c a h;have(b,q):=h
 cases x with
 |non=>
  cases c
  cases y with
  |non=>subst a;show PySem.EqNone.eq_none_none (bQ I q (by rfl))
  |bl j=>subst a;show PySem.EqNone.eq_none_bool (bQ I q (by rfl))
  |int j=>have(t',rfl):=a;show PySem.EqNone.eq_none_int (bQ I q (by rfl))
  |str j=>have(t',rfl):=a;show PySem.EqNone.eq_none_str (bQ I q (by rfl))
  | _=>show absurd (b) bD
 |bl i=>
  subst c
  cases y with
  |non=>subst a;show PySem.EqNone.eq_bool_none (bQ I q (by simp))
  |bl j=>subst a;show eq_bool (bQ I q ph)
  |str j=>have(t',rfl):=a;show PySem.EqMixed.eq_bool_str (bQ I q (by simp))
  | _=>show absurd (b) bD
 |int i=>
  have(t,rfl):=c
  cases y with
  |non=>subst a;show PySem.EqNone.eq_int_none (bQ I q (by simp))
  |int j=>have(t',rfl):=a;show eq_int (bQ I q wa)
  |str j=>have(t',rfl):=a;show PySem.EqMixed.eq_int_str (bQ I q (by simp))
  | _=>show absurd (b) bD
 |str i=>
  have(t,rfl):=c
  cases y with
  |non=>subst a;show PySem.EqNone.eq_str_none (bQ I q (by simp))
  |bl j=>subst a;show PySem.EqMixed.eq_str_bool (bQ I q (by simp))
  |int j=>have(t',rfl):=a;show PySem.EqMixed.eq_str_int (bQ I q (by simp))
  |str j=>have(t',rfl):=a;show eq_str (bQ I q wb)
  | _=>show absurd (b) bD
 |byt i=>
  have(t,rfl):=c
  cases y with
  |byt j=>have(t',rfl):=a;show W.eq_bytes (bQ I q Ck)
  | _=>show absurd (b) bD
 | _=>cases y <;> show absurd (show ae=ab from b) bD
def IP:OpR X (cu .NotEq) rNe:=by
 intro M s J H x y v u Q I c a h;have(b,q):=h
 cases x with
 |non=>
  cases c
  cases y with
  |non=>subst a;show PySem.EqNone.ne_none_none (bQ I q (by rfl))
  |bl j=>subst a;show PySem.EqNone.ne_none_bool (bQ I q (by rfl))
  |int j=>have(t',rfl):=a;show PySem.EqNone.ne_none_int (bQ I q (by rfl))
  |str j=>have(t',rfl):=a;show PySem.EqNone.ne_none_str (bQ I q (by rfl))
  | _=>show absurd (b) bD
 |bl i=>
  subst c
  cases y with
  |non=>subst a;show PySem.EqNone.ne_bool_none (bQ I q (by rfl))
  |bl j=>subst a;show ne_bool (bQ I q (congrArg not ph))
  |str j=>have(t',rfl):=a;show PySem.EqMixed.ne_bool_str (bQ I q (by simp))
  | _=>show absurd (b) bD
 |int i=>
  have(t,rfl):=c
  cases y with
  |non=>subst a;show PySem.EqNone.ne_int_none (bQ I q (by simp))
  |int j=>have(t',rfl):=a;show ne_int (bQ I q (congrArg not wa))
  |str j=>have(t',rfl):=a;show PySem.EqMixed.ne_int_str (bQ I q (by simp))
  | _=>show absurd (b) bD
 |str i=>
  have(t,rfl):=c
  cases y with
  |non=>subst a;show PySem.EqNone.ne_str_none (bQ I q (by simp))
  |bl j=>subst a;show PySem.EqMixed.ne_str_bool (bQ I q (by simp))
  |int j=>have(t',rfl):=a;show PySem.EqMixed.ne_str_int (bQ I q (by simp))
  |str j=>have(t',rfl):=a;show ne_str (bQ I q (congrArg not wb))
  | _=>show absurd (b) bD
 |byt i=>
  have(t,rfl):=c
  cases y with
  |byt j=>have(t',rfl):=a;show W.ne_bytes (bQ I q (congrArg not Ck))
  | _=>show absurd (show ae=ab from b) bD
 | _=>cases y <;> show absurd (show ae=ab from b) bD
def IQ:OpR X (cu .Lt) (rI0 λi j=>.bl (decide (i<j))):=sg λ_ _ _ _ _ _ _ q=>lt_int q
def IR:OpR X (cu .LtE) (rI0 λi j=>.bl (decide (i<=j))):=sg λ_ _ _ _ _ _ _ q=>le_int q
def IS:OpR X (cu .Gt) (rI0 λi j=>.bl (decide (j<i))):=sg λ_ _ _ _ _ _ _ q=>gt_int q
def IT:OpR X (cu .GtE) (rI0 λi j=>.bl (decide (j<=i))):=sg λ_ _ _ _ _ _ _ q=>ge_int q
def IU:OpR X (cu .Is) (λx y H Q=>y=.non/\Q (.bl (decide (x=.non))) H):=by
 intro M s J H x y v u Q I a b h;have(rfl,q):=h;subst b;show is_none_gen (bQ I q ?_)
 cases x <;> first
  |(subst a;rfl)
  |(have(t,rfl):=a;rfl)
def IV:OpR X (cu .IsNot) (λx y H Q=>y=.non/\Q (.bl (!decide (x=.non))) H):=by
 intro M s J H x y v u Q I a b h;have(rfl,q):=h;subst b;show isnot_none_gen (bQ I q ?_)
 cases x <;> first
  |(subst a;rfl)
  |(have(t,rfl):=a;rfl)
variable{op:CmpOp}
def Cm(b:Expr)(h:autoParam (op≠.In) Zc)(h2:autoParam (op≠.NotIn) Zc):kf op b=ae:=by
 have a:(op==CmpOp.In)=ae:=by grind
 have c:(op==CmpOp.NotIn)=ae:=by grind
 cases b <;> simp[kf,a,c]
def IW(e:OpR X (cu op) r)(ha:PE X a ta)(d:PE X b tb)(hm:kf op b=ae):PE X (.Compare a [op] [b] pos) (tOp r ta tb):=by
 intro M s J H Q I h;show wpAny_Compare1 (v8 ha d I h λv u s2 x y H2 c f g q=>e M s2 J H2 x y v u Q c f g q) hm
def IX(t:TE):TT:=λJ H Q=>t J H λx H'=>∃k,x=.bl k/\Q k H'
def IY(l:OpR X (cu op) r)(ha:PE X a ta)(j:PE X b tb)(hm:kf op b=ae):PT X (.Compare a [op] [b] pos) (IX (tOp r ta tb)):=by
 intro M s J H Q I h
 show wpAny_isTrue_Compare1 (thn (ha M s J H _ I h) λv s1 (x,H1,f,q,m)=>thn (j M s1 J H1 _ f m) λu s2 (y,H2,g,w,n) =>
  thn (l M s2 J H2 x y v u _ g q w n) λc B (z,d,i,A,k,e,p)=>?_) hm
 subst e;subst A;show ly (d,i,p)
def wc(K:aU)(x:V)(H:Hp)(k:Bool):Prop:=
 match x with
 |.non=>k=ae
 |.bl b=>k=b
 |.int i=>k=(i != 0)
 |.str y=>y.length<=aT/\k=((y.length:Int) != 0)
 |.byt y=>y.size<=aT/\k=((y.size:Int) != 0)
 |.ref p=>(∃B,SqL K H p B/\k=!B.isEmpty)\/(∃B,SqT K H p B/\k=!B.isEmpty)\/∃kvs,H p=aa (.dK kvs)/\k=!kvs.isEmpty
 | _=>False
def IZ{a:Type}{kvs:List (a×V)}{vs:List (a×Value)}(r:KV kvs vs):(!vs.isEmpty)=!kvs.isEmpty:=by
 cases r <;> rfl
variable{L:LVa}
def Cn(r:aJ B L):(!L.toArray.isEmpty)=!B.isEmpty:=by
 cases r <;> simp
def pi:(aT:Nat)<2 ^ 63:=by rw[df];decide
def I0:IH X (λx H Q=>∃k,wc X.K x H k/\Q k H):=by
 intro M s J H x v Q I d h;have(k,e,q):=h;have n:=df
 cases x with
 |non=>
  subst d;have a:=e;subst a
  show truthy_none (H,I,q)
 |bl b=>
  subst d;have a:=e;subst a
  show ly (H,I,q)
 |int i=>
  have(t,rfl):=d;have a:=e;subst a
  show PySem.P.truthy_int (H,I,q)
 |str y=>
  have(t,rfl):=d;obtain⟨l,a⟩:y.length<=aT/\k=_:=e;subst a
  show PySem.P.truthy_str (by lia) (H,I.tok _,q)
 |byt y=>
  have(t,rfl):=d;obtain⟨l,a⟩:y.size<=aT/\k=_:=e;subst a
  show W.truthy_bytes (by lia) (H,I.tok _,q)
 |ref p=>
  subst d;have a:=e
  rcases a with⟨B,f,a⟩ |⟨B,f,a⟩ |⟨kvs,f,a⟩
  .subst a;have(L,r,g,hz):=I.list f;have c:=r.length;show wpAny_truthy_list g.isList (by simp only[size_toArray];lia) (H,I.tok _,by rw[Cn r];show q)
  .subst a;have(L,r,g,hz):=I.tuple f;have c:=r.length;show truthy_tuple g (by simp only[size_toArray];lia) (H,I.tok _,by rw[Cn r];show q)
  .subst a;obtain⟨hz,j,vs,r,m⟩:kvs.length<=aT/\(p==gO)=ae/\∃vs,KV kvs vs/\s.heap.DictOf (ku X.prog X.w) p vs:=I.hok p _ f;have c:=nc r
   show wpAny_truthy_dict j m (by lia) (H,I.tok _,by rw[IZ r];show q)
 | _=>show(show False from e).elim
def Ja(ha:PE X a ta)(d:∀b,isTrue a X.env b=(do let v <- b;g9 a.pos;fu [v] (truthy v))):
  PT X a (λJ H Q=>ta J H λx H'=>∃k,wc X.K x H' k/\Q k H'):=by
 intro M s J H Q I h;show isTrue_plain (thn (ha M s J H _ I h) λv s1 (x,H1,c,f,e)=>I0 M s1 J H1 x v Q c f e) (d _)
def Jb:OpR X (fm .Add) (λx y H Q=>∃i j,x=.str i/\y=.str j/\i.length+j.length<=aT/\Q (.str (i++j)) H):=by
 intro M s J H x y v u Q I a b h;have(i,j,rfl,rfl,hz,q):=h;have(t,rfl):=a;have(t',rfl):=b;show add_str (λt' c=>(.str _,H,I.tok _,(_,rfl),q)) hz
def Jc:OpR X (inplaceOp .Add) (λx y H Q=>∃i j,x=.str i/\y=.str j/\i.length+j.length<=aT/\Q (.str (i++j)) H):=by
 intro M s J H x y v u Q I a b h;have(i,j,rfl,rfl,hz,q):=h;have(t,rfl):=a;have(t',rfl):=b;show iadd_str (λt' c=>(.str _,H,I.tok _,(_,rfl),q)) hz
def lN{x:V}(r:aJ [x] us):∃u,us=[u]/\aC x u:=by
 cases r with
 |cons a b=>cases b;show(_,rfl,a)
def Jd{x:V}(r:aJ [x,y] us):∃u a,us=[u,a]/\aC x u/\aC y a:=by
 cases r with
 |cons b c=>
  cases c with
  |cons d e=>cases e;show(_,_,rfl,b,d)
structure lO(h:Heap)(x dx S4:Addr)(mA:MGT):Prop where
 obj:h.get? x=aa (km S4 dx)
 ns:h.Ns1 dx mA
 ne:dx≠x
variable{mA:MGT}
def Je{dx:Addr}(n:h.Ns1 dx mA):∃od,h.get? dx=aa od/\∀name,W.lookIn name od=aa (mA name):=by
 have(o,es,g,d,hd,c,_,hm):=n;show(o,d,λname=>?_);have e:=hm name;unfold nsFind findBy at e;rw[<- Array.find?_toList]at e;unfold W.lookIn;rw[hd];dsimp only;split
 .grind
 .rename_i q;rw[q]at e
  have a:es.toList.any (·.refKey)=ae:=by
   rw[any_eq_false];intro y f;have(z,t,b):=c y (Array.mem_toList_iff.mp f);simp[DictEntry.refKey,b]
  grind
def lO.look{x dx S4:Addr}(I:lO h x dx S4 mA):∃od,W.InstAt h x (km S4 dx) S4 (aa od)/\∀name,W.lookIn name od=aa (mA name):=
 let (od,ho,hl):=Je I.ns
 (od,(I.obj,rfl,rfl,ho),hl)
variable{x S4:Addr}{name:Str}{v:Value}
section
variable{s:ah}{dx:Addr}
def Jf{a:Bool}{Q:PRS}(X:K.In s.heap)(I:lO s.heap x dx S4 mA)(c:jC K S4 name=ab)(d:ki K S4=ab)
 (ha:cw K (.ref S4) name=aa ac)(hv:mA name=aa v)(b:W.handedIn v=ab)(h:Q v {s with toks:=s.toks+1}):
  wpAny (model prog w) A (getAttr (.ref x) name a) Q S5 s:=by
 have(od,S2,e):=I.look;show W.get_value X S2 (W.plainGet_of c).1 (W.findObj_own d ha rfl (by rw[e,hv])) b h
end
variable{f:Addr}{pl:Sem Bool}
def Jg{s:ah}{dx:Addr}{Q:Value×LVa->ah->Prop}(X:K.In s.heap)(I:lO s.heap x dx S4 mA)(a:jC K S4 name=ab)
 (b:cw K (.ref S4) name=aa (aa (.ref f)))(d:W.isFn K (.ref f)=ab)(hv:mA name=ac)(h:Q (.ref f,[.ref x],) s):
  wpAny (model prog w) A (i8 (.ref x) name pl) Q S5 s:=by
 have(od,S2,c):=I.look;show W.method_fn X S2 (W.plainGet_of a).1 (W.plainGet_of a).2 b (beq_iff_eq.mp d) (by change(W.lookIn name od).map (·.isSome)=aa ae;rw[c,hv];rfl) h
section
variable{s:ah}{dx:Addr}
def Jh{ns:LSt}(X:K.In s.heap)(I:lO s.heap x dx S4 mA)
 (n:cw K (.ref S4) "__setattr__"=aa (aa (.builtin "object.__setattr__")))(m:lI K S4=ab)(q:W.takerIn K S4 name=aa ac)(l:ki K S4=ab)
 (r:PySem.Within mA ns)(p:ns.length<=aT)
 (h:∀h',lO h' x dx S4 (λy=>if y=name then aa v else mA y)->gn dx s.heap h'->Q () {s with heap:=h',toks:=s.toks+2}):
  wpAny (model prog w) A (setAttr (.ref x) name v) Q S5 s:=by
 have(od,S2,z):=I.look;show W.set_plain X S2 n (W.osa_open X S2 m q λb=>?_);have(u,j,e):=W.any_some l;show ap (aI (ap (ap (wpAny_loadPart I.obj (ap (W.Looks.here (W.looks_clsIn X j) ?_))))));rw[e];show aI (ap (aI (ap ?_)));show wpAny_nsSet1 I.ns λh' a c=>?_;have(B,i,g,f,hdD,d):=a.count (PySem.Within.cons name v r);show ap (wpAny_lookBehind f (by rw[hdD];show pastItsLine_dict (cJ d (by rw[cr];lia))) (aI (h _ ((c.2 _ (fN I.ne)).trans I.obj,a,I.ne) c)))
end
variable{R:Result->ah->Prop}{kw:List (Str×Value)}
section
variable{s:ah}
def Ji{vs:LVa}(X:K.In s.heap)(hm:lJ K S4=ab)
 (hi:cw K (.ref S4) "__init__"=aa (aa (.ref f)))(a:W.typeIn K (.ref f)=aa (.type "function"))
 (h:hE (model prog w) (A.under (.builtin "type.__call__" (.ref S4::vs,kw))) (.call (.ref f) (.ref (s.heap.objs.size + 1)::vs,kw)) (W.InitBack (s.heap.objs.size + 1) R)
   {s with heap:=(s.heap.push kj).push (km S4 s.heap.objs.size)}):
  hE (model prog w) A (.call (.ref S4) (vs,kw)) R s:=by
 show W.make_core (W.makes_of X hm) (W.looks_findIn X hi) (λself=>W.bind_fn X self a) (.inl rfl) h
end
abbrev dh(f:Str)(v:V):List (Str×V)->List (Str×V)
 | []=>[(f,v,)]
 |(g,x,)::r=>if g=f then (g,v,)::r else (g,x,)::dh f v r
def Co(f g:Str)(v:V):∀fs:List (Str×V),(dh f v fs).lookup g=if g=f then aa v else fs.lookup g
 | []=>by
  change List.lookup g [_]=_
  grind
 |(k,x,)::r=>by
  rw[show dh f v _=(if k=f then _::r else _::dh f v r)from rfl]
  by_cases b:k=f
  .grind
  .rw[if_neg b]
   by_cases h:g=k
   .grind
   .have a:=beq_eq_false_iff_ne.mpr h;simp only[List.lookup,a];show(Co f g v r)
def we(f:Str)(v:V):∀fs:List (Str×V),f∈(dh f v fs).map (·.1)/\∀g,g∈fs.map (·.1)->g∈(dh f v fs).map (·.1)
 | []=>(by simp[dh],λg h=>by simp at h)
 |(k,x,)::r=>by
  have(a,b):=we f v r;rw[show dh f v _=(if k=f then _::r else _::dh f v r)from rfl]
  grind
def Cp(f:Str)(v:V):∀fs:List (Str×V),(dh f v fs).length<=fs.length+1
 | []=>by simp[dh]
 |(k,x,)::r=>by
  have a:=Cp f v r;rw[show dh f v _=(if k=f then _::r else _::dh f v r)from rfl]
  grind
variable{v:V}
def d8.some_of{o:Option Value}(r:d8 (aa v) o):∃u,o=aa u/\aC v u:=by
 cases o with
 |none=>show(r).elim
 |some u=>show(u,rfl,r)
def d8.none_of{o:Option Value}(r:d8 ac o):o=ac:=by
 cases o with
 |none=>rfl
 |some u=>show(r).elim
def Jj(r:aC v u):W.handedIn u=ab:=by
 cases v with
 |non=>cases (r);rfl
 |bl b=>cases (r);rfl
 |int i=>have(t,e):=(r);subst e;rfl
 |str x=>have(t,e):=(r);subst e;rfl
 |byt b=>have(t,e):=(r);subst e;rfl
 |flt b=>have(t,e):=(r);subst e;rfl
 |ref a=>cases (r);rfl
 |ty n=>cases (r);rfl
variable{a:Addr}{fs:List (Str×V)}
def sh{dx:Addr}(hok:HOk P w H h)(e:H a=aa (.ins S4 dx fs)):∃mA,lO h a dx S4 mA/\(∀f,d8 (fs.lookup f) (mA f))/\PySem.Within mA (fs.map (·.1))/\fs.length<=1000/\H dx=aa (.own a):=by
 have(d,z,ne,b,mA,n,r,q):=(hok a _ e);show(mA,(b,n,ne),r,q,z,d)
structure Cls(K:aU)(S4:Addr):Prop where
 pg:jC K S4 nj=ab
 hd:ki K S4=ab
 po:lI K S4=ab
 sa:cw K (.ref S4) "__setattr__"=aa (aa (.builtin "object.__setattr__"))
def Cls.get(c:Cls K S4)(f:Str):jC K S4 f=ab:=c.pg
def c4(K:aU)(S4:Addr)(f:Str):Prop:=cw K (.ref S4) f=aa ac
variable{f:Str}
def c4.taker(n:c4 K S4 f):W.takerIn K S4 f=aa ac:=by
 unfold W.takerIn;rw[show cw K _ f=aa ac from n];rfl
structure pq(K:aU)(S4:Addr)(m:Str)(f:Addr):Prop where
 at_:cw K (.ref S4) m=aa (aa (.ref f))
 fn:W.isFn K (.ref f)=ab
 kp:iG K (.ref f)=ab
def Jk{s:ah}{dx:Addr}{b:Bool}{Q:PRS}(I:Inv X M J H s)(e:H a=aa (.ins S4 dx fs))(c:Cls X.K S4)(n:c4 X.K S4 f)(l:fs.lookup f=aa v)
 (h:∀u s',Inv X M J H s'->aC v u->Q u s'):wpAny (model X.prog X.w) A (getAttr (.ref a) f b) Q S5 s:=by
 have(mA,O,r,_,_,_):=sh I.hok e;have(u,d,ru):=d8.some_of (by rw[<- l];show r f);show Jf I.kIn O (c.get f) c.hd n d (Jj ru) (h u _ (I.tok _) ru)
variable{m:Str}
def Cq{s:ah}{dx:Addr}{g:Addr}{Q:Value×LVa->ah->Prop}(I:Inv X M J H s)(e:H a=aa (.ins S4 dx fs))(c:Cls X.K S4)(k:pq X.K S4 m g)(l:fs.lookup m=ac)
 (h:Q (.ref g,[.ref a],) s):wpAny (model X.prog X.w) A (i8 (.ref a) m pl) Q S5 s:=by
 have(mA,O,r,_,_,_):=sh I.hok e;show Jg I.kIn O (c.get m) k.at_ k.fn (d8.none_of (by rw[<- l];show r m)) h
def Jl{s:ah}{dx:Addr}(I:Inv X M J H s)(e:H a=aa (.ins S4 dx fs))(c:Cls X.K S4)(n:c4 X.K S4 f)(v:fs.length<1000)(m:aC y u)
 (h:∀s',Inv X M J (upd H a (.ins S4 dx (dh f y fs))) s'->Q () s'):wpAny (model X.prog X.w) A (setAttr (.ref a) f u) Q S5 s:=by
 have(mA,O,r,wi,_,i):=sh I.hok e;have hz:(fs.map (·.1)).length<=aT:=by rw[aH,df];lia
 show Jh I.kIn O c.sa c.po n.taker c.hd wi hz λh' d p=>h _ ?_;have hd:∃o,h'.get? dx=aa o:=let (o,_,_,e',_):=d.ns;(o,e');show I.write (by rw[e];show hU) (.inr i) (λb q j z=>(p.2 b j).trans z) hd ?_;show(by rw[aK O.ne];show i,?_,O.ne,d.obj,_,d.ns,λg=>?_,λg l=>?_)
 .have:=Cp f y fs;lia
 .change d8 _ _;rw[Co]
  by_cases q:g=f
  .rw[if_pos q,if_pos q];show m
  .grind
 .by_cases q:g=f
  .rw[q];show(we f y fs).1
  .show(we f y fs).2 g (wi g λz=>l ?_)
   grind
section
variable{s:ah}
def Inv.made(I:Inv X M J H s):Inv X M J (upd (upd H s.heap.objs.size (.own (s.heap.objs.size+1))) (s.heap.objs.size+1) (.ins S4 s.heap.objs.size []))
  {s with heap:=(s.heap.push kj).push (km S4 s.heap.objs.size)}:=by
 have a:(s.heap.push kj).get? s.heap.objs.size=aa kj:=cY s.heap rfl
 have c:((s.heap.push kj).push (km S4 s.heap.objs.size)).get? (s.heap.objs.size+1)=aa (km S4 s.heap.objs.size):=by
  have:=cY (s.heap.push kj) (o:=km S4 s.heap.objs.size) rfl
  simp_all
 have d:(s.heap.push kj).Ns s.heap.objs.size _:=(kj,#[],_,a,rfl,(λe f=>absurd f (by simp)),λ_=>rfl);show(I.laid (o:=.own _) (t':=s.toks) (λb u q=>bG _ q) (aP _) (_,a)).laid (λb u q=>bG _ q) (Nat.le_of_eq (iE _ _)) ?_;have ne:s.heap.objs.size≠s.heap.objs.size+1:=bT (cR _);show(by rw[aK ne,a9],cK _,ne,c,λ_=>ac,(Heap.Ns1.of_empty d).at λo q=>bG _ q,λ_=>hU,λy g=>absurd rfl g)
end
variable{env:Env}
def Jm{s:ah}{Q:PRS}(b:lB e f env (eval e env)=eval e env)
 (h:wpAny (model prog w) A (eval e env) (λo a=>wpAny (model prog w) A (getAttr o f ab) Q S5 a) S5 s):wpAny (model prog w) A (eval (.Attribute e f pos) env) Q S5 s:=
 Attribute_any_ h (by rw[arm_eval_Attribute,b])
def Jn(K:aU)(ta:TE)(f:Str):TE:=λJ H Q=>ta J H λx H1=>∃a S4 dx fs v,x=.ref a/\H1 a=aa (.ins S4 dx fs)/\Cls K S4/\c4 K S4 f/\fs.lookup f=aa v/\Q v H1
def Cr(K:aU)(ta b:TE)(f:Str):TS:=λD J H=>b J H λy H1=>ta J H1 λx H2=>∃a S4 dx fs,x=.ref a/\H2 a=aa (.ins S4 dx fs)/\Cls K S4/\c4 K S4 f/\fs.length<1000 /\
 D.nx J (upd H2 a (.ins S4 dx (dh f y fs)))
def Cs(j:PE X e ta)(i:lB e f X.env (eval e X.env)=eval e X.env):PE X (.Attribute e f pos) (Jn X.K ta f):=by
 intro M s J H Q I h;show Jm i (thn (j M s J H _ I h) λu s1 m=>?_);have(x,H1,b,p,a,S4,dx,fs,v,ex,g,c,n,l,q):=m;subst ex;obtain rfl:u=fR a:=p;show Jk b g c n l λr s2 d ru=>(v,H1,d,ru,q)
variable{value:Expr}{tv:TE}
def wf{o:Expr}(ha:PE X o ta)(hv:PE X value tv)(i:fP value (aa (.Attribute o f c5)) pos.line X.env=pure ae):PS X (.Assign [.Attribute o f c5] value pos) (Cr X.K ta tv f):=by
 intro M s J H D I h;show plainObj_wpAny_Assign_Attribute (thn (hv M s J H _ I h) λu s1 (y,H1,b,v,q)=>thn (ha M s1 J H1 _ b q) λj s2 p=>?_) i;have(x,H2,d,r,a,S4,dx,fs,ex,g,c,n,l,m):=p;subst ex;obtain rfl:j=fR a:=r;show Jl d g c n l v λw e=>(J,_,e,m)
inductive gx(K:aU)(H:Hp):V->Value->Prop where
 |non:gx K H .non (.type "NoneType")
 |bl (x:Bool):gx K H (.bl x) (.type "bool")
 |int (i:Int):gx K H (.int i) (.type "int")
 |str (x:Str):gx K H (.str x) (.type "str")
 |flt (x:UInt64):gx K H (.flt x) (.type "float")
 |lst {a:Addr} {B:LVv} (e:H a=aa (.lst B)):gx K H (.ref a) (.type "list")
 |frz {a:Addr} {o:Obj} {B:LVv} (e:H a=aa (.frz o (.lst B))):gx K H (.ref a) (.type "list")
 |tup {a:Addr} {B:LVv} (e:H a=aa (.tup B)):gx K H (.ref a) (.type "tuple")
 |dK {a:Addr} {kvs:List (Key×V)} (e:H a=aa (.dK kvs)):gx K H (.ref a) (.type "dict")
 |dT {a:Addr} {kvs:List (List Key×V)} (e:H a=aa (.dT kvs)):gx K H (.ref a) (.type "dict")
 |ins {a S4 dx:Addr} {fs:List (Str×V)} (e:H a=aa (.ins S4 dx fs)) (cl:Cls K S4) (ha:cw K (.ref S4) "__class__"=aa (aa (.builtin "object.__class__")))
   (hn:W.specialIn K (.builtin "object.__class__") "__get__"=aa (aa (.builtin "getset_descriptor.__get__"))) (htk:W.takesIn K (.builtin "object.__class__")=aa ab)
   (hm:W.mroIn K S4 (.type "object")=aa ab):gx K H (.ref a) (.ref S4)
variable{Q:PRS}{c:Value}{b:Bool}
section
variable{s:ah}
def Jo{x:V}{u t:Value}(I:Inv X M J H s)(f:aC x u)(ty:gx X.K H x t)(e:W.kitOne X.K t c=aa b)(h:∀j,Q (.bool b) {s with toks:=j}):
  wpAny (model X.prog X.w) A (call (.builtin "isinstance") [u,c]) Q S5 s:=by
 cases ty with
 |non=>cases (f);show iF W.kitx_none I.kIn hU e (λz=>nomatch z) h
 |bl y=>cases (f);show iF W.kitx_bool I.kIn hU e (λz=>nomatch z) h
 |int i=>have(t,q):=(f);subst q;show iF W.kitx_int I.kIn hU e (λz=>nomatch z) h
 |str y=>have(t,q):=(f);subst q;show iF W.kitx_str I.kIn hU e (λz=>nomatch z) h
 |flt y=>have(t,q):=(f);subst q;show iF W.kitx_float I.kIn hU e (λz=>nomatch z) h
 | @lst a B d=>
  cases (f);have(_,_,n,_,h1):=(I.hok a _ d)
  show iF W.kitx_list I.kIn (_,h1,rfl) e (λz=>nomatch z) h
 | @frz a l B d=>
  cases (f);have(_,_,_,n,_,h1):=(I.hok a _ d)
  show iF W.kitx_list I.kIn (_,h1,rfl) e (λz=>nomatch z) h
 | @tup a B d=>
  cases (f);have(_,_,_,p):=(I.hok a _ d);have(o,h1,h2,_):=p
  show iF W.kitx_tuple I.kIn (o,h1,h2) e (λz=>nomatch z) h
 | @dK a kvs d=>
  cases (f);have(_,_,vs,_,p):=(I.hok a _ d);have(o,es,g,h1,h2,_):=p
  show iF W.kitx_dict I.kIn (o,h1,h2.1) e (λz=>nomatch z) h
 | @dT a kvs d=>
  cases (f);have(_,_,B,_,o,es,g,h1,h2,_):=(I.hok a _ d)
  show iF W.kitx_dict I.kIn (o,h1,h2.1) e (λz=>nomatch z) h
 | @ins a S4 dx fs d cl ha hn htk hm=>
  cases (f);have(mA,O,_):=sh I.hok d;have(od,S2,_):=O.look;show iF (W.kitx_own (cl.get _) cl.hd ha hn htk hm) I.kIn S2 e (λz=>nomatch z) h
end
structure bo(k:Nat)(A:b7):Prop where
 hd:A.handled=ac
 dp:A.depth+3*k+5<recursionLimit
 un:A.units+16*k+200<cLine
def bo.mono{j k:Nat}(r:bo k A)(h:j<=k):bo j A:=(r.hd,by have:=r.dp;lia,by have:=r.un;lia)
def bo.deeper{k:Nat}(r:bo (k+1) A)(env:Env):bo k (A.deeper env):=
 (r.hd,by have:=r.dp;change A.depth+1+3*k+5<_;lia,by have:=r.un;change A.units+3+16*k+200<_;lia)
def Jp:(A.under (.builtin "type.__call__" (.ref S4::us,kw))).depth=A.depth+1:=by
 first |rfl |simp[b7.under]
def Js:(A.under (.builtin "type.__call__" (.ref S4::us,kw))).units=A.units+1:=by
 first |rfl |simp[b7.under]
def bo.make{k:Nat}(r:bo (k+1) A)(S4:Addr)(us:LVa)(kw:List (Str×Value)):bo k (A.under (.builtin "type.__call__" (.ref S4::us,kw))):=
 (r.hd,by have:=r.dp;rw[Jp];lia,by have:=r.un;rw[Js];lia)
def bo.depth{k:Nat}(r:bo k A):A.depth<recursionLimit:=by have:=r.dp;lia
def bo.units{k:Nat}(r:bo k A):A.units+64<cLine:=by have:=r.un;lia
def iK:TA:=λ_ H Q=>Q [] H
def kA(ta:TE)(tr:TA):TA:=λJ H Q=>ta J H λx H1=>tr J H1 λB H2=>Q (x::B) H2
def dk:PA X [] iK:=λ_ _ _ _ H Q I h=>vG ([],H,I,.nil,h)
def dE{t:TA}(ha:PE X e te)(c:PA X es t)(d:autoParam (StE X e es) Zb):PA X (e::es) (kA te t):=by
 intro pos M s J H Q I h;rw[d];show jb (thn (ha M s J H _ I h) λu s1 (x,H1,a,i,f)=>(thn (c pos M s1 J H1 _ a f) λus s2 (B,H2,b,j,g)=>(x::B,H2,b,.cons i j,g)))
def Jt(t:TA):TE:=λJ H Q=>t J H λB H1=>B.length<=aT/\∀p,H1 p=ac->Q (.ref p) (upd H1 p (.tup B))
def wg(t:TA):TE:=λJ H Q=>t J H λB H1=>B.length<=aT/\∀p,H1 p=ac->Q (.ref p) (upd H1 p (.lst B))
def wj{t:TA}{x1}(h:PA X es t):PE X (.Tuple es x1 pos) (Jt t):=by
 intro M s J H Q I c;show wpAny_Tuple_spliced (thn (h pos M s J H _ I c) λus s1 (B,H1,a,r,z,q)=>(by rw[<- r.length];show z,?_));show(.ref s1.heap.objs.size,upd H1 s1.heap.objs.size _,a.laid (λb u e=>bG _ e) (aP _) ?_,rfl,q _ (a.hok.fresh (aP _)));show(z,us,r,(_,cY _ rfl,rfl,_,rfl))
def px{t:TA}(h:PA X es t):PE X (.List es pos) (wg t):=by
 intro M s J H Q I c;show wpAny_List_spliced (thn (h pos M s J H _ I c) λus s1 (B,H1,a,r,z,q)=>(by rw[<- r.length];show z,?_));show(.ref s1.heap.objs.size,upd H1 s1.heap.objs.size _,a.laid (λb u e=>bG _ e) (aP _) ?_,rfl,q _ (a.hok.fresh (aP _)));show(z,us,0,r,cY _ rfl)
nonrec def Sp:=LVv->Hp->VK->XK->Prop
nonrec def CXT:=List Env->Hp->ah->XK->PRS
structure lP(P:bX)(w:World)(K:aU)(mg:MGT)(base:Heap)(A:b7)(outer:List Env)(s:ah)(H:Hp):Prop where
 frames:A.frames=aa outer
 mod:Mod K mg base
 bs:∀b o,base.get? b=aa o->s.heap.get? b=aa o/\H b=ac
 bsz:base.objs.size<=s.heap.objs.size
 funs:s.heap.FunFrames base outer
 frf:∀b∈frs outer,H b=ac
 hok:HOk P w H s.heap
 bare:jy s.gens
def CE(outer:List Env)(P:bX)(w:World)(H:Hp)(s:ah)(Q:VK)(u:Value)(s':ah):Prop:=
 ∃v H',s'.os=s.os/\jy s'.gens/\Un (frs outer) [] H H' s.heap s'.heap/\HOk P w H' s'.heap/\aC v u/\Q v H'
def CR(CX:CXT)(outer:List Env)(P:bX)(w:World)(H:Hp)(s:ah)(Q:VK)(S5:XK)(r:Result)(s':ah):Prop:=
 match r with
 |.ok (.ret u)=>CE outer P w H s Q u s'
 |.ok _=>False
 |.error e=>CX outer H s S5 e s'
structure cM(P:bX)(w:World)(K:aU)(mg:MGT)(base:Heap)(CX:CXT)(k:Nat)(f:Addr)(fd:dg)(ps:LSt)(sp:Sp):Prop where
 len:∀vs H Q S5,sp vs H Q S5->vs.length=ps.length
 run:∀(A:b7) (outer:List Env) (s:ah) (H:Hp) (args:Args) (us:LVa) (vs:LVv) (Q:VK) (S5:XK),bo k A->lP P w K mg base A outer s H->BindsTo s fd args (ps.zip us)->aJ vs us->sp vs H Q S5 ->
  hE (model P w) A (.call (.ref f) args) (CR CX outer P w H s Q S5) s
variable{mg:MGT}{base:Heap}{CX:CXT}{f:Addr}{fd:dg}{ps:LSt}{sp:Sp}
def cM.imp{k:Nat}{a:Sp}(F:cM P w K mg base CX k f fd ps sp)
 (h:∀vs H Q S5,a vs H Q S5->sp vs H Q S5):cM P w K mg base CX k f fd ps a:=
 (λvs H Q S5 q=>F.len vs H Q S5 (h _ _ _ _ q),λA outer s H args us vs Q S5 d c b hv e=>F.run A outer s H args us vs Q S5 d c b hv (h _ _ _ _ e))
variable{outer:List Env}
def lP.make{s:ah}(e:lP P w K mg base A outer s H)(S4:Addr)(us:LVa)(kw:List (Str×Value)):
  lP P w K mg base (A.under (.builtin "type.__call__" (.ref S4::us,kw))) outer s H:=⟨by first |show e.frames |(simpa[b7.under]using e.frames),e.mod,e.bs,e.bsz,e.funs,e.frf,e.hok,e.bare⟩
def Inv.env0{s:ah}(I:Inv X M J H s):lP X.prog X.w X.K X.mg X.base X.A X.stack s H:=
 (I.ok.frames,I.ok.mod,I.bs,cJ I.ok.bsz I.sz,I.stack,I.stkFree,I.hok,I.bare)
variable{Q:VK}
def Inv.after{s:ah}(I:Inv X M J H s)(h:CE X.stack X.prog X.w H s Q u s'):EP X M J Q u s':=by
 have(v,H',os,bare,un,hok,r,q):=h;have(c,g,d,t,a):=s';obtain rfl:a=s.os:=os;show(v,H',I.call un hok bare (λb z=>absurd z (by simp)),r,q)
def Ju(sp:Sp)(a:LVv)(S5:XK)(t:TA):TE:=λJ H Q=>t J H λvs H1=>sp (vs++a) H1 Q S5
def si(S4:Addr)(m:Str)(sp:Sp)(b:LVv)(S5:XK)(ta:TE)(t:TA):TE:=λJ H Q=>ta J H λx H1=>∃a dx fs,x=.ref a/\H1 a=aa (.ins S4 dx fs)/\fs.lookup m=ac /\
 t J H1 λvs H2=>sp (x::(vs++b)) H2 Q S5
def Ct(S4:Addr)(sp:Sp)(a:LVv)(S5:XK)(t:TA):TE:=λJ H Q=>t J H λvs H1=>∀x dx,H1 x=ac->H1 dx=ac->dx≠x ->
 sp (.ref x::(vs++a)) (upd (upd H1 dx (.own x)) x (.ins S4 dx [])) (λv H2=>v=.non/\Q (.ref x) H2) S5
def fU(K:aU)(fd:dg)(ps:LSt)(E:LVa):Prop:=
 ∀(s:ah) (us:LVa),K.In s.heap->(us++E).length=ps.length->BindsTo s fd (us,[]) (ps.zip (us++E))
def fU.all(h:∀us:LVa,us.length=ps.length->bindArgs fd (us,[])=pure (ps.zip us)):fU K fd ps []:=λs us _ a=>by
 rw[bB]at a ⊢;show .of_eq (h us a)
def lQ(CX:CXT)(X:Cx)(S5:XK):Prop:=∀(M:PNS) (J:St) (H:Hp) (s:ah) (e:Value) (s':ah),Inv X M J H s->CX X.stack H s S5 e s'->X.xe e s'
variable{eq vs:LVv}{E:LVa}{S5:XK}
def wm{k:Nat}{s:ah}(F:cM X.prog X.w X.K X.mg X.base CX k f fd ps sp)(i:bo k X.A)(d:fU X.K fd ps E)(hd:aJ eq E)(j:lQ CX X S5)
 (I:Inv X M J H s)(r:aJ vs us)(h:sp (vs++eq) H Q S5):wpAny (model X.prog X.w) X.A (call (.ref f) us) (EP X M J Q) X.xe s:=by
 have b:=r.append hd;have g:(us++E).length=ps.length:=by rw[<- b.length];show F.len _ _ _ _ h
 show wpAny_call (m9 (F.run X.A X.stack s H (us,[]) _ _ Q S5 i I.env0 (d s us I.kIn g) b h) λr s' a=>?_)
 cases r with
 |error e=>show j M J H s e s' I a
 |ok c=>
  cases c with
  |ret u=>show I.after a
  |next=>show gL a
  |brk=>show gL a
  |cont=>show gL a
variable{x:Str}{p:Pos}
def nu{k:Nat}{t:TA}(F:cM X.prog X.w X.K X.mg X.base CX k f fd ps sp)(l:bo k X.A)(i:Gl X x)(hm:X.mg x=aa (.ref f))(j:iG X.K (.ref f)=ab)(d:fU X.K fd ps E)(hd:aJ eq E)(m:lQ CX X S5)
 (ha:PA X (e::es) t)(a:autoParam (NDb x) Zc)(g:autoParam (StE X e es) Zb)(b:autoParam (BkE X pos es) Zb):
  PE X (.Call (.Name x p) (e::es) [] pos) (Ju sp eq S5 t):=by
 intro M s J H Q I h;show jz (Cb I i hm ?_ a);show W.callWith_K I.ok.mod.kin j (thn (ha pos M s J H _ I h) λus s1 (vs,H1,c,r,q)=>(c.kIn,(wm F l d hd m c r q))) g b
variable{apos:Pos}
def wn{k:Nat}{o:Expr}{t:TA}(p:PE X o ta)(c:Cls X.K S4)(hm:pq X.K S4 m f)(F:cM X.prog X.w X.K X.mg X.base CX k f fd ps sp)(v:bo k X.A)(n:fU X.K fd ps E)(hd:aJ eq E)(z:lQ CX X S5)(ha:PA X (e::es) t)
 (d:autoParam (StE X e es) Zb)(b:autoParam (BkE X pos es) Zb)
 (y:autoParam (eval (.Call (.Attribute o m apos) (e::es) [] pos) X.env=(do
   let ov <- eval o X.env
   g9 apos.atName
   let (f,first,) <- fu [ov] (i8 ov m pl)
   kg pos f first (cv pos (aR (e::es) X.env)) (ja pos (i7 [] X.env)))) Zb):
  PE X (.Call (.Attribute o m apos) (e::es) [] pos) (si S4 m sp eq S5 ta t):=by
 intro M s J H Q I h;show W.methodCall_KW (thn (p M s J H _ I h) λu s1 C=>?_) y;have(x,H1,g,G,a,dx,fs,ex,j,l,q):=C;subst ex;obtain rfl:u=fR a:=G;show Cq g j c hm l ?_;show W.callWith_K I.ok.mod.kin hm.kp (thn (ha pos M s1 J H1 _ g q) λus s2 (vs,H2,i,r,B)=>(i.kIn,(wm (vs:=.ref a::vs) F v n hd z i (.cons rfl r) B))) d b
def wq{k:Nat}{o:Expr}(g:PE X o ta)(c:Cls X.K S4)(hm:pq X.K S4 m f)(F:cM X.prog X.w X.K X.mg X.base CX k f fd ps sp)(i:bo k X.A)(e:fU X.K fd ps E)(hd:aJ eq E)(n:lQ CX X S5)
 (j:autoParam (eval (.Call (.Attribute o m apos) [] [] pos) X.env=(do
   let ov <- eval o X.env
   g9 apos.atName
   let (f,first,) <- fu [ov] (i8 ov m pl)
   kg pos f first (cv pos (aR [] X.env)) (ja pos (i7 [] X.env)))) Zb):
  PE X (.Call (.Attribute o m apos) [] [] pos) (si S4 m sp eq S5 ta iK):=by
 intro M s J H Q I h;show W.methodCall_KW (thn (g M s J H _ I h) λu s1 p=>?_) j;have(x,H1,b,r,a,dx,fs,ex,d,l,q):=p;subst ex;obtain rfl:u=fR a:=r;show Cq b d c hm l (W.callWith_K0 b.kIn hm.kp (wm (vs:=[.ref a]) F i e hd n b (.cons rfl .nil) q))
structure Mk(K:aU)(S4 f:Addr):Prop where
 makes:lJ K S4=ab
 init:cw K (.ref S4) "__init__"=aa (aa (.ref f))
 fn:W.isFn K (.ref f)=ab
 kp:iG K (.ref S4)=ab
def Jv{k:Nat}{s:ah}(S0:Mk X.K S4 f)(F:cM X.prog X.w X.K X.mg X.base CX k f fd ps sp)(n:bo (k+1) X.A)(l:fU X.K fd ps E)(hd:aJ eq E)
 (p:lQ CX X S5)(I:Inv X M J H s)(r:aJ vs us)
 (h:∀x dx,H x=ac->H dx=ac->dx≠x->sp (.ref x::(vs++eq)) (upd (upd H dx (.own x)) x (.ins S4 dx [])) (λv H2=>v=.non/\Q (.ref x) H2) S5):
  wpAny (model X.prog X.w) X.A (call (.ref S4) us) (EP X M J Q) X.xe s:=by
 have c:=h _ s.heap.objs.size (I.hok.fresh (jx _)) (I.hok.fresh (aP _)) (bT (cR _));have b:=Inv.made (S4:=S4) I;have d:aJ (V.ref _::_) (fR (s.heap.objs.size+1)::_):=.cons rfl (r.append hd)
 have m:(fR (s.heap.objs.size+1)::us++E).length=ps.length:=by
  have e:=d.length;rw[F.len _ _ _ _ c]at e;show e.symm
 show wpAny_call (Ji I.kIn S0.makes S0.init (beq_iff_eq.mp S0.fn) (m9 (F.run _ X.stack _ _ (fR _::us,[]) _ _ _ S5 (n.make S4 us [])
  (b.env0.make S4 us []) (l _ _ b.kIn m) d c) λr s' a=>?_))
 cases r with
 |error e=>show p M J _ _ e s' b a
 |ok j=>
  cases j with
  |ret u=>
   have(v,H',g,y,i,q):=b.after a;subst i
   show(y,(V.ref _,H',g,rfl,q))
  |next=>show gL a
  |brk=>show gL a
  |cont=>show gL a
def Cu{k:Nat}{t:TA}(S0:Mk X.K S4 f)(F:cM X.prog X.w X.K X.mg X.base CX k f fd ps sp)(j:bo (k+1) X.A)(i:Gl X x)(hm:X.mg x=aa (.ref S4))(d:fU X.K fd ps E)(hd:aJ eq E)(l:lQ CX X S5)
 (ha:PA X (e::es) t)(a:autoParam (NDb x) Zc)(g:autoParam (StE X e es) Zb)(b:autoParam (BkE X pos es) Zb):
  PE X (.Call (.Name x p) (e::es) [] pos) (Ct S4 sp eq S5 t):=by
 intro M s J H Q I h;show jz (Cb I i hm ?_ a);show W.callWith_K I.ok.mod.kin S0.kp (thn (ha pos M s J H _ I h) λus s1 (vs,H1,c,r,q)=>(c.kIn,(Jv S0 F j d hd l c r q))) g b
structure aF(N P:LSt)(sc:Scope):Prop where
 kind:sc.kind=.function
 co:sc.isCoroutine=ae
 gen:sc.isGenerator=ae
 nd:N.Nodup
 pre:N.take P.length=P
 par:∀x∈P,sc.names.lookup x=aa .local\/sc.names.lookup x=aa .cell
 nofree:∀y∈sc.names,y.2≠.free
def Cv{kindOf:Str->Option fQ}{x:Str}:∀{binds:List (Str×Value)} {m:MGT},(∀v,(x,v,)∉binds)->bindL kindOf binds m x=m x
 | [],_,_=>rfl
 |(n,v,)::r,m,h=>by
  unfold bindL;rw[Cv λw a=>h w (be _ a)];split
  .grind
  .rfl
def Cw{kindOf:Str->Option fQ}{x:Str}:∀{binds:List (Str×Value)} {m:MGT},(∀v,(x,v,)∉binds)->bindC kindOf binds m x=m x
 | [],_,_=>rfl
 |(n,v,)::r,m,h=>by
  unfold bindC;rw[Cw λw a=>h w (be _ a)];split
  .rfl
  .grind
def Cy{kindOf:Str->Option fQ}{x:Str}{v:Value}:∀{P:LSt} {vs:LVa} {i:Nat} {m:MGT},P.Nodup->P[i]?=aa x->vs[i]?=aa v->kindOf x=aa .local ->
  bindL kindOf (P.zip vs) m x=aa v
 | [],_,_,_,_,h,_,_=>by simp at h
 | _::_,[],_,_,_,_,h,_=>by simp at h
 |p::P,w::vs,0,m,nd,h1,h2,hk=>by
  simp at h1 h2;subst h1;subst h2;change bindL kindOf (_::P.zip vs) m p=_;dsimp only[bindL];rw[Cv λv hv=>(bW.mp nd).1 (of_mem_zip hv).1,if_pos hk]
  simp
 |p::P,w::vs,i+1,m,nd,h1,h2,hk=>by
  change bindL kindOf (_::P.zip vs) m x=_;show Cy (bW.mp nd).2 (by simpa using h1) (by simpa using h2) hk
def Cz{kindOf:Str->Option fQ}{x:Str}{v:Value}:∀{P:LSt} {vs:LVa} {i:Nat} {m:MGT},P.Nodup->P[i]?=aa x->vs[i]?=aa v->kindOf x≠aa .local ->
  bindC kindOf (P.zip vs) m x=aa v
 | [],_,_,_,_,h,_,_=>by simp at h
 | _::_,[],_,_,_,_,h,_=>by simp at h
 |p::P,w::vs,0,m,nd,h1,h2,hk=>by
  simp at h1 h2;subst h1;subst h2;change bindC kindOf (_::P.zip vs) m p=_;dsimp only[bindC];rw[Cw λv hv=>(bW.mp nd).1 (of_mem_zip hv).1,if_neg hk]
  simp
 |p::P,w::vs,i+1,m,nd,h1,h2,hk=>by
  change bindC kindOf (_::P.zip vs) m x=_;show Cz (bW.mp nd).2 (by simpa using h1) (by simpa using h2) hk
def start(N:LSt)(vs:LVv):St:=vs.map aa++lq (N.length-vs.length) ac
abbrev hX(CX:CXT)(P:bX)(w:World)(K:aU)(mg:MGT)(base:Heap)(N:LSt)(qual:Str)(scope:Scope)(f:Addr)(cd:Value)(A:b7)(outer:List Env)(s:ah)(H:Hp)(S5:XK):Cx where
 prog:=P
 w:=w
 K:=K
 mg:=mg
 base:=base
 A:=A.deeper (fO qual scope s.heap.objs.size f cd)
 N:=N
 s₀:=s
 H₀:=H
 env:=fO qual scope s.heap.objs.size f cd
 outer:=outer
 stack:=fO qual scope s.heap.objs.size f cd::outer
 ex:=[]
 calm:=ab
 fn:=λ_=>ab
 pn:=[]
 xe:=λe s'=>wpAny (model P w) (A.deeper (fO qual scope s.heap.objs.size f cd)) (leaving (fO qual scope s.heap.objs.size f cd) e) (λ_ s''=>CX outer H s S5 e s'') (λe' s''=>CX outer H s S5 e' s'') s'
variable{n:Nat}
def CA{sc:Scope}(h:sc.names.lookup x=aa .cell):∃c,(cellsFrom n sc.names []).lookup x=aa c:=by
 show rG.mp (W.cellsFrom_some sc.names n [] (.inl h))
variable{qual:Str}{scope:Scope}
def Jw{m:Value}{s s1:ah}
 (S:aF N ps scope)(hd:A.handled=ac)(e0:lP P w K mg base A outer s H)(I:vs.length=ps.length)(r:aJ vs us)
 (x:InCallC s s.heap.objs.size (bindL (fO qual scope s.heap.objs.size f m).kindOf (ps.zip us) λ_=>ac) (cellsFrom (s.heap.objs.size+1) scope.names []) (bindC (fO qual scope s.heap.objs.size f m).kindOf (ps.zip us) λ_=>ac) s1):
  Inv (hX CX P w K mg base N qual scope f m A outer s H S5) [] (start N vs) H s1:=by
 have C:ps.length<=N.length:=by have:=congrArg List.length S.pre;rw[i4]at this;lia
 have(h1,J,rfl,n):=x.done;have g:∀b:Addr,b∉(hX CX P w K mg base N qual scope f m A outer s H S5).ex:=λb z=>absurd (show b∈([]:LAd)from z) (by simp)
 show((e0.mod,S.kind,rfl,rfl,aP _,λy z c h1 h2=>?_,λy d=>?_,λy c _ h=>?_,λ_=>hd,b7.frames_deeper e0.frames,.inr (rfl,rfl),λb z=>absurd z (g b),e0.bs,e0.bsz,λb _ _=>g b,λb z=>absurd z (g b),e0.funs,e0.frf),
  rfl,e0.bare,Un.kept n,(_,x.toInCall.ns,λi y v h1 h2 G=>?_),λy c h=>(_,x.cell y c h),e0.hok.fresh (aP _),λy c h=>?_,λp j=>absurd (show p∈([]:List _)from j) (by simp),e0.hok.kept n,?_)
 .show name_of_addr x.apart (oY h1) (oY h2)
 .have d:=d
  rcases d with d |d
  .show CA d
  .show absurd rfl (S.nofree _ (oY d))
 .show eS (x.above y c (oY h))
 .have hi:i<vs.length:=by
   unfold start at h2
   by_cases hi:i<vs.length
   .show hi
   .rw[lg (by simpa using hi)]at h2;rw[vq]at h2
    split at h2 <;> nomatch h2
  have ha:vs[i]?=aa v:=by
   unfold start at h2;rw[j6 (by simpa using hi),bN]at h2
   cases e:vs[i]? with
   |none=>rw[e]at h2;nomatch h2
   |some a=>rw[e]at h2;cases h2;rfl
  have(u,B,E):=r.get ha
  have j:ps[i]?=aa y:=by
   rw[<- S.pre,List.getElem?_take_of_lt (by lia)];show h1
  have l:ps.Nodup:=by rw[<- S.pre];show S.nd.sublist (take_sublist _ _)
  show(u,E,?_)
  rcases S.par y (cW j)with k |k
  .show .inl (k,Cy l j B k)
  .have(c,e):=CA k;show .inr (.inl k,c,e,?_);have q:=x.cell y c e;rw[Cz l j B (by change scope.names.lookup y≠_;rw[k];decide)]at q;show q
 .show e0.hok.fresh (eS (x.above y c (oY h)))
 .unfold start;change _=N.length;rw[bf,aH,rn]
  lia
variable{an od:Option Addr}{osl:Array (Option Value)}
def Jx{k:Nat}{params:Arguments}{p kV doc pm cdv ct oc:Value}
  (L:K.lookup f=aa (oc,od,.func (W.fnOf name qual params body scope p kV doc pm an cdv ct),osl))(i:W.codeIn K cdv qual=ab)(S:aF N ps scope)
 (len:∀vs H Q S5,sp vs H Q S5->vs.length=ps.length)
 (a:∀ (A:b7) (outer:List Env) (s:ah) (H:Hp) (vs:LVv) (Q:VK) (S5:XK),bo k (A.deeper (fO qual scope s.heap.objs.size f cdv))->sp vs H Q S5 ->
   ∃t,PSs (hX CX P w K mg base N qual scope f cdv A outer s H S5) body t/\t {nx:=λ_ H'=>Q .non H',rt:=Q} (start N vs) H):
  cM P w K mg base CX (k+1) f (W.fnOf name qual params body scope p kV doc pm an cdv ct) ps sp:=by
 show(len,λA outer s H args us vs Q S5 j e0 B r h=>?_);have m:=e0.mod.kin.keeps λb o e=>(e0.bs b o e).1
 have c:∀y∈ps.zip us,scope.names.lookup y.1=aa .local\/(scope.names.lookup y.1=aa .cell/\((cellsFrom (s.heap.objs.size+1) scope.names []).lookup y.1).isSome=ab):=λ(n,v) J=>by
  rcases S.par n (of_mem_zip J).1 with q |q
  .show .inl q
  .show .inr (q,W.cellsFrom_some _ _ _ (.inl q))
 show codeAny_call_function j.depth (m _ _ L) rfl S.co S.gen rfl (W.codeRec_of m i) (B _ _ _ _ ?_);show wpAny_newFunctionEnv_cells S.kind c λenv C s1 x=>?_;subst C;show((e0.mod.nolimit.keeps λb o e=>(e0.bs b o e).1).keeps x.toInCall.keep,codeAny_func ?_);have(t,G,E):=a A outer s H vs Q S5 (j.deeper _) h;have I:Inv (hX CX P w K mg base N qual scope f cdv A outer s H S5) [] _ H s1:=Jw S j.hd e0 (len _ _ _ _ h) r x;show fj (G [] s1 _ H _ I E) (λz s' d=>?_) λe s' d=>d
 have g:∀{σ':St} {H':Hp} {v:V} {u:Value},Inv (hX CX P w K mg base N qual scope f cdv A outer s H S5) [] σ' H' s'->aC v u->Q v H'->CE outer P w H s Q u s':=
  λ{σ' H' v u} S2 l q=>(v,H',S2.os,S2.bare,S2.base,S2.hok,l,q)
 cases z with
 |ret u=>
  have(v,σ',H',S2,l,q):=d
  show g S2 l q
 |next=>
  have(σ',H',S2,q):=d
  show g (v:=V.non) S2 rfl q
 |brk=>
  have(_,_,_,q):=d
  show gL q
 |cont=>
  have(_,_,_,q):=d;show gL q
def tCB(r:LVv->Hp->VK->Prop)(t:TA):TE:=λJ H Q=>t J H λvs H1=>r vs H1 Q
variable{r:LVv->Hp->VK->Prop}
def wu{t:TA}{id:String}(d:gR X (.builtin id) r)(g:Gl X x)(hm:X.mg x=ac)(hv:i6 x=aa (.builtin id))(ha:PA X (e::es) t)(hn:autoParam (x ≠ "__name__") Zc)(a:autoParam (NDb x) Zc)
 (f:autoParam (StE X e es) Zb)(b:autoParam (BkE X pos es) Zb):PE X (.Call (.Name x p) (e::es) [] pos) (tCB r t):=by
 intro M s J H Q I h;show jz (je I g hm hv (rH (thn (ha pos M s J H _ I h) λus s1 (vs,H1,c,j,i)=>d M s1 J H1 vs us Q c j i) f b) hn a)
variable{T:String}
def Jy{t:TA}(d:gR X (.type T) r)(g:Gl X x)(hm:X.mg x=ac)(hv:i6 x=aa (.type T))(ha:PA X (e::es) t)(hn:autoParam (x ≠ "__name__") Zc)(a:autoParam (NDb x) Zc)
 (f:autoParam (StE X e es) Zb)(b:autoParam (BkE X pos es) Zb):PE X (.Call (.Name x p) (e::es) [] pos) (tCB r t):=by
 intro M s J H Q I h;show jz (je I g hm hv (oX (thn (ha pos M s J H _ I h) λus s1 (vs,H1,c,j,i)=>d M s1 J H1 vs us Q c j i) f b) hn a)
end L2
namespace HT
open List
open PySem PyProof.Rows
open PySem.SeqAt
open PySem.AutoSeq1 (wpAny_loadPart')
open PySem.MeetsSeq PySem.MeetsSeq2 PySem.MeetsSeq3
abbrev sIx(n d:Nat):Option Int->Nat
 |none=>d
 |some v=>if v<0 then (v+(n:Int)).toNat else min v.toNat n
def sIx_nat(n d k:Nat):sIx n d (aa (k:Int))=min k n:=by rfl
end HT
namespace L2
open List
open PySem PySem.Spec PyProof.Rows
nonrec def TO:=St->Hp->(Option Int->Hp->Prop)->Prop
def PO(X:Cx)(e:Option Expr)(t:TO):Prop:=
 ∀(M:PNS) (s:ah) (J:St) (H:Hp) (Q:Option Int->Hp->Prop),Inv X M J H s->t J H Q ->
  wpAny (model X.prog X.w) X.A (evalPart e X.env) (λu s'=>∃o H',Inv X M J H' s'/\IsPart u o/\Q o H') X.xe s
def Jz:TO:=λ_ H Q=>Q ac H
def JA(t:TE):TO:=λJ H Q=>t J H λx a=>∃i,x=.int i/\Q (aa i) a
variable{ns:LI0}
def JB:∀{us:LVa},aJ (ns.map V.int) us->fh us ns:=by
 induction ns with
 |nil=>intro us r;rw[iz]at r;cases r;show .nil
 |cons n ns a=>
  intro us r
  cases r with
  |cons b c=>
   have(t,e):=b;subst e;show .cons n t (a c)
variable{X:Cx}
def JC:PO X ac Jz:=by
 intro M s J H Q I h;show aI (ac,H,I,.none,h)
variable{e:Expr}{te:TE}
def JD(h:PE X e te):PO X (aa e) (JA te):=by
 intro M s J H Q I c;show thn (h M s J H _ I c) λu s1 f=>?_;have(x,a,b,g,d):=f;have(i,rfl,q):=d;have(t,rfl):=g;show(aa i,a,b,.int i t,q)
variable{lo hi:Option Expr}
def SlR(X:Cx)(r:V->Option Int->Option Int->Hp->VK->Prop):Prop:=
 ∀(M:PNS) (s:ah) (J:St) (H:Hp) (x:V) (v vl a:Value) (lo hi:Option Int) (sl:Addr) (Q:VK),Inv X M J H s->aC x v->s.heap.IsSliceOf sl vl a .none->IsPart vl lo->IsPart a hi->r x lo hi H Q ->
  ∃T id,typeLookup (.type T) "__getitem__"=pure (aa (.builtin id))/\s.TypeIs v T/\wpAny (model X.prog X.w) X.A (getItem v (.ref sl)) (EP X M J Q) X.xe s
def tSl(r:V->Option Int->Option Int->Hp->VK->Prop)(te:TE)(e d:TO):TE:=λJ H Q=>te J H λx a=>e J a λl b=>d J b λu c=>r x l u c Q
variable{tl th:TO}{pos p2:Pos}
def JE{r:V->Option Int->Option Int->Hp->VK->Prop}(B:SlR X r)(y:PE X e te)(A:PO X lo tl)(E:PO X hi th):PE X (.Subscript e (.Slice lo hi ac p2) pos) (tSl r te tl th):=by
 intro M s J H Q I h;show Subscript_ (thn (y M s J H _ I h) λv s1 c=>?_);have(x,g,j,r1,N):=c;show wpAny_Slice (thn (A M s1 J g _ j N) λvl s2 (l,i,m,G,U)=>thn (E M s2 J i _ m U) λd a c=>?_);have(u,f,n,L,Y):=c;show aI ?_
 have p:Inv X M J f {a with heap:=a.heap.push {cls:=.type "slice",data:=.fields #[vl,d,.none]}}:=n.kept λb ob q=>bG _ q
 have(T,id,w,C,z):=B M {a with heap:=a.heap.push {cls:=.type "slice",data:=.fields #[vl,d,.none]}} J f x v vl d l u a.heap.objs.size Q p r1 (Heap.IsSliceOf.new ..) G L Y
 show tail_any C w z (by with_unfolding_all rfl)
def py(B:LVv)(lo hi:Option Int):LVv:=(B.drop (HT.sIx B.length 0 lo)).take (HT.sIx B.length B.length hi-HT.sIx B.length 0 lo)
def JF(B:LVv)(lo hi:Option Int):(py B lo hi).length<=B.length:=by
 unfold py;rw[i4,j9]
 lia
def ixN(n:Nat)(i:Int):Option Nat:=if 0<=i then (if i<n then aa i.toNat else ac) else if -(n:Int)<=i then aa (i+n).toNat else ac
def atI{a:Type}(B:List a)(i:Int):Option a:=(ixN B.length i).bind λj=>B[j]?
variable{n j:Nat}{i:Int}
def CB(h:ixN n i=aa j):seqIndex? i n=aa j/\j<n/\-(n:Int)<=i/\i<n:=by
 unfold ixN at h
 by_cases b:0<=i
 .rw[if_pos b]at h
  by_cases a:i<n
  .rw[if_pos a]at h;have e:=cS h;show(by rw[seqIndex_of b a,e],by lia,by lia,a)
  .rw[if_neg a]at h;nomatch h
 .rw[if_neg b]at h
  by_cases a:-n<=i
  .rw[if_pos a]at h;have e:=cS h;show(by rw[seqIndex_neg (by lia) a,e],by lia,a,by lia)
  .rw[if_neg a]at h;nomatch h
def CC{a:Type}{B:List a}{v:a}(h:atI B i=aa v):∃j,seqIndex? i B.length=aa j/\B[j]?=aa v/\j<B.length/\-(B.length:Int)<=i/\i<B.length:=by
 unfold atI at h
 cases e:ixN B.length i with
 |none=>rw[e]at h;nomatch h
 |some j=>
  rw[e]at h;have(b,c,d,f):=CB e;show(j,b,h,c,d,f)
def JG{a:Type}{B:List a}{v:a}(h:B[j]?=aa v):atI B (j:Int)=aa v:=by
 have b:=(cA.mp h).1
 have e:ixN B.length j=aa j:=by
  unfold ixN;rw[if_pos (by lia),if_pos (by lia)];simp
 unfold atI;rw[e];show h
def sj(b:Expr):Prop:=∀o i,subscripted b ae o i=operate [o,i] (getItem o i)
def IxR(X:Cx)(r:R2):Prop:=
 ∀(value a:Expr) (M:PNS) (s:ah) (J:St) (H:Hp) (x y:V) (v u:Value) (Q:VK),Inv X M J H s->aC x v->aC y u->r x y H Q ->
  subscripted a ae v u=operate [v,u] (getItem v u)->wpAny (model X.prog X.w) X.A (subscriptTail value a v u) (EP X M J Q) X.xe s
def MtR(X:Cx)(id:String)(r:V->LVv->Hp->VK->Prop):Prop:=
 ∀(M:PNS) (s:ah) (J:St) (H:Hp) (x:V) (B:LVv) (v:Value) (us:LVa) (Q:VK),Inv X M J H s->aC x v->aJ B us->r x B H Q ->
  wpAny (model X.prog X.w) X.A (call (.builtin id) (v::us)) (EP X M J Q) X.xe s
variable{r r':R2}
def IxR.or(h:IxR X r)(h':IxR X r'):IxR X (λx y H Q=>r x y H Q\/r' x y H Q):=by
 intro value a M s J H x y v u Q I c d q b
 rcases q with q |q
 .show h value a M s J H x y v u Q I c d q b
 .show h' value a M s J H x y v u Q I c d q b
variable{a b:Expr}{ta tb:TE}
def sm(f:IxR X r)(ha:PE X a ta)(e:PE X b tb)(g:sj b):PE X (.Subscript a b pos) (tOp r ta tb):=by
 intro M s J H Q I h;show Subscript_ (v8 ha e I h λv u s2 x y c d i j q=>f a b M s2 J c x y v u Q d i j q (g _ _))
def CD(K:aU):R2:=λx y H Q=>∃p B i v,x=.ref p/\y=.int i/\SqL K H p B/\atI B i=aa v/\Q v H
def CF(K:aU):R2:=λx y H Q=>∃p B i v,x=.ref p/\y=.int i/\SqT K H p B/\atI B i=aa v/\Q v H
def sn:IxR X (CD X.K):=by
 intro value f M s J H x y v u Q I T U h m;have(p,B,i,z,rfl,rfl,N,E,q):=h;subst T;have(t,rfl):=U;have(L,r,d,hz):=I.list N;have(j,b,n,Y,A,C):=CC E;have(w,g,e):=r.get n;have G:=r.length;have hn:=pi;have a:EP X M J Q w s:=(z,H,I,e,q)
 by_cases l:0<=i
 .have c:i.toNat=j:=by
   rw[seqIndex_of l C]at b;show cS b
  show item_listR d.isList l (by lia) (by rw[c];simpa using g) a m
 .have c:(i+L.toArray.size).toNat=j:=by
   rw[seqIndex_neg (by lia) A]at b;rw[size_toArray,<- G];show cS b
  show subscriptTail_builtinR d.isList.typeIs slot_list_getitem.lookup
   (wpAny_getItem_list_neg d.isList (by lia) (by rw[size_toArray] <;> lia) (by lia) (by rw[c];simpa using g) (rfl,a)) m
def sr:IxR X (CF X.K):=by
 intro value c M s J H x y v u Q I A C h n;have(p,B,i,z,rfl,rfl,m,l,q):=h;subst A;have(t,rfl):=C;have(L,r,d,hz):=I.tuple m;have(j,f,g,E,G,N):=CC l;have(w,e,b):=r.get g;have hn:=pi;have a:EP X M J Q w s:=(z,H,I,b,q)
 show subscriptTail_builtinR d.typeIs slot_tuple_getitem.lookup
  (getItem_tuple d (by lia) (by lia) (by rw[size_toArray,<- r.length];show f) (by simpa using e) (rfl,a)) n
def JH(L:LVa)(n j:Nat)(u:Value):jc (·.setIfInBounds j u) {cls:=.type "list",data:=.seq L.toArray n}={cls:=.type "list",data:=.seq (L.set j u).toArray n}:=by
 simp[jc]
variable{M:PNS}{J:St}{H:Hp}{p:Addr}{B:LVv}
def Inv.lst{s:ah}(I:Inv X M J H s)(h:H p=aa (.lst B)):
  ∃(L:LVa) (n:Nat),aJ B L/\s.heap.get? p=aa {cls:=.type "list",data:=.seq L.toArray n}/\B.length<=aT:=by
 have(z,L,n,r,e):=I.hok p _ h;show(L,n,r,e,z)
variable{ys:LVv}{L eh:LVa}{n':Nat}
def Inv.lstUpd{s:ah}{f:Obj->Obj}(I:Inv X M J H s)(h:H p=aa (.lst B))
 (d:s.heap.get? p=aa {cls:=.type "list",data:=.seq L.toArray n})(a:f {cls:=.type "list",data:=.seq L.toArray n}={cls:=.type "list",data:=.seq eh.toArray n'})(r:aJ ys eh)(hz:ys.length<=aT)(t:Nat):
  Inv X M J (upd H p (.lst ys)) {s with heap:=s.heap.update p f,toks:=t}:=by
 have e:(s.heap.update p f).get? p=aa {cls:=.type "list",data:=.seq eh.toArray n'}:=by
  rw[rW f d (by rw[a] <;> rfl),a]
 show I.write (by rw[h];trivial) (.inl rfl) (λb u c q=>(rV _ _ (fN c)).trans q) (_,e) (hz,eh,n',r,e)
abbrev ww:V->V->V->Hp->(Hp->Prop)->Prop:=λo i v H Q=>∃p B k j,o=.ref p/\i=.int k/\H p=aa (.lst B)/\ixN B.length k=aa j/\Q (upd H p (.lst (B.set j v)))
def CG:Cf X ww:=by
 intro M s J H o i v E C u Q I y x z h;have(p,B,k,j,rfl,rfl,m,w,q):=h;subst y;have(t,rfl):=x;have(L,n,r,d,hz):=I.lst m;have(a,A,g,l):=CB w;have c:=r.length;have hn:=pi
 have e:Inv X M J _ {s with heap:=s.heap.update p _}:=
  I.lstUpd m d (JH L n j u) (r.set z j) (by rw[g7];show hz) s.toks
 by_cases f:0<=k
 .have b:k.toNat=j:=by
   rw[seqIndex_of f l]at a;show cS a
  show W.ki_setAt d f (by lia) (by rw[size_toArray,<- c];show l) (by rw[b];show(_,e,q))
 .have b:(k+L.toArray.size).toNat=j:=by
   rw[seqIndex_neg (by lia) g]at a;rw[size_toArray,<- c];show cS a
  show W.ki_setBack d (by lia) (by rw[size_toArray,<- c];show g) (by lia) (by rw[b];show(_,e,q))
def JI(lo hi:Option Int)(n:Nat):(lC lo hi ac n).1=((HT.sIx n 0 lo:Nat):Int)/\(lC lo hi ac n).2.1=((HT.sIx n n hi:Nat):Int)/\(lC lo hi ac n).2.2=1:=by
 show(?_,?_,rfl)
 .cases lo with
  |none=>simp[lC,HT.sIx]
  |some i=>
   simp only[lC,HT.sIx,Option.getD_none]
   grind
 .cases hi with
  |none=>simp[lC,HT.sIx]
  |some i=>
   simp only[lC,HT.sIx,Option.getD_none]
   grind
def JJ(L:LVa)(lo hi:Option Int):slicePick L.toArray lo hi ac=((L.drop (HT.sIx L.length 0 lo)).take (HT.sIx L.length L.length hi-HT.sIx L.length 0 lo)).toArray:=by
 have(a,b,c):=JI lo hi L.toArray.size;unfold slicePick;rw[a,b,c]
 simp only[sliceRange_one,pick_run] <;> rfl
abbrev JK(K:aU):V->Option Int->Option Int->Hp->VK->Prop:=λx lo hi H Q=>∃a B,x=.ref a/\SqL K H a B/\∀p,H p=ac->Q (.ref p) (upd H p (.lst (py B lo hi)))
def JL:SlR X (JK X.K):=by
 intro M s J H x v vl m lo hi sl Q I j e g i h;have(a,B,rfl,f,q):=h;subst j;have(L,r,d,hz):=I.list f;have c:=r.length;show("list",_,slot_list_getitem.lookup,d.isList.typeIs,?_);show wpAny_getItem_list_slice d.isList e g i .none (by simp) ?_ (by grind);rw[JJ,<- c];show(.ref s.heap.objs.size,_,I.laid (λb l q=>bG _ q) (aP _) ?_,rfl,q _ (I.hok.fresh (aP _)));show(cJ (JF B lo hi) hz,_,0,(r.drop _).take _,cY _ rfl)
abbrev fA:V->Bool
 |.non=>ab
 |.bl _=>ab
 |.int _=>ab
 |.str _=>ab
 | _=>ae
abbrev eqV:V->V->Bool
 |.non,.non=>ab
 |.bl a,.bl b=>a==b
 |.bl a,.int b=>(if a then 1 else 0)==b
 |.int a,.bl b=>a==(if b then 1 else 0)
 |.int a,.int b=>a==b
 |.str a,.str b=>a==b
 | _,_=>ae
variable{A:b7}{y x:V}{u v:Value}
def CH{s:ah}(e:aC y u)(c:aC x v)(f:fA y=ab)(d:fA x=ab):ca A s u v (eqV y x):=by
 cases y with
 |non=>
  cases e
  cases x with
  |non=>subst c;show vM _
  |bl b=>subst c;show ca.none_bool b
  |int b=>have(t,rfl):=c;show ca.none_int b t
  |str b=>have(t,rfl):=c;show ca.none_str b t
  | _=>show absurd (d) bD
 |bl a=>
  subst e
  cases x with
  |non=>subst c;show ca.bool_none a
  |bl b=>subst c;show ca.bool_bool a b
  |int b=>have(t,rfl):=c;show ca.bool_int a b t
  |str b=>have(t,rfl):=c;show ca.bool_str a b t
  | _=>show absurd (d) bD
 |int a=>
  have(t',rfl):=e
  cases x with
  |non=>subst c;show ca.int_none a t'
  |bl b=>subst c;show ca.int_bool a t' b
  |int b=>have(t,rfl):=c;show ca.int_int a t' b t
  |str b=>have(t,rfl):=c;show vK a t' b t
  | _=>show absurd (d) bD
 |str a=>
  have(t',rfl):=e
  cases x with
  |non=>subst c;show ca.str_none a t'
  |bl b=>subst c;show ca.str_bool a t' b
  |int b=>have(t,rfl):=c;show vL a t' b t
  |str b=>have(t,rfl):=c;show ca.str_str a t' b t
  | _=>show absurd (d) bD
 | _=>show absurd (f) bD
def eqU(x:V)(u:Value):Bool:=match u with
 |.none=>eqV .non x
 |.bool b=>eqV (.bl b) x
 |.int i _=>eqV (.int i) x
 |.str z _=>eqV (.str z) x
 | _=>ae
def CI(r:aC y u)(f:fA y=ab):eqU x u=eqV y x:=by
 cases y with
 |non=>subst r;rfl
 |bl b=>subst r;rfl
 |int i=>have(t,rfl):=r;rfl
 |str z=>have(t,rfl):=r;rfl
 | _=>show absurd (f) bD
def pA{x:V}:∀{B:LVv} {us:LVa},aJ B us->B.all fA=ab->us.any (eqU x)=B.any λy=>eqV y x
 | _,_,.nil,_=>rfl
 |y::B,u::us,.cons r t,f=>by
  rw[lu,bV]at f;rw[gj,gj,CI r f.1,pA t f.2]
def pE{A:b7}{s:ah}{x:V}{v:Value}(c:aC x v)(b:fA x=ab):∀{B:LVv} {us:LVa},aJ B us->B.all fA=ab->∀u∈us,ca A s u v (eqU x u)
 | _,_,.nil,_=>λu a=>by nomatch a
 |y::B,u::us,.cons r t,f=>λd a=>by
  simp only[lu,bV]at f
  rcases aW.mp a with rfl |a
  .rw[CI r f.1];show CH r c f.1 b
  .show pE c b t f.2 d a
def inV(x:V)(B:LVv):Bool:=B.any λy=>eqV y x
def rIn(K:aU)(neg:Bool):R2:=λx y H Q=>∃p B,y=.ref p/\(SqL K H p B\/SqT K H p B)/\fA x=ab/\B.all fA=ab/\Q (.bl (if neg then !inV x B else inV x B)) H
def JM:OpR X (cu .In) (rIn X.K ae):=by
 intro M s J H x y v u Q I e f h;have(p,B,rfl,a,d,fs,q):=h;subst f
 rcases a with a |a
 .have(L,r,c,hz):=I.list a;show SeqAt.in_listAt _ c.isList (λw b=>pE e d r fs w (by simpa using b)) (.bl _,H,I,rfl,?_);rw[show L.toArray.any _=L.any (eqU x) by simp,pA r fs];show q
 .have(L,r,c,hz):=I.tuple a;show SeqAt.in_tupleAt _ c (λw b=>pE e d r fs w (by simpa using b)) (.bl _,H,I,rfl,?_);rw[show L.toArray.any _=L.any (eqU x) by simp,pA r fs];show q
def JN:OpR X (cu .NotIn) (rIn X.K ab):=by
 intro M s J H x y v u Q I e f h;have(p,B,rfl,a,d,fs,q):=h;subst f
 rcases a with a |a
 .have(L,r,c,hz):=I.list a;show SeqAt.notIn_listAt _ c.isList (λw b=>pE e d r fs w (by simpa using b)) (.bl _,H,I,rfl,?_);rw[show L.toArray.any _=L.any (eqU x) by simp,pA r fs];show q
 .have(L,r,c,hz):=I.tuple a;show SeqAt.notIn_tupleAt _ c (λw b=>pE e d r fs w (by simpa using b)) (.bl _,H,I,rfl,?_);rw[show L.toArray.any _=L.any (eqU x) by simp,pA r fs];show q
def JO:gR X (.builtin "len") (λB H Q=>∃p ys,B=[.ref p]/\(SqL X.K H p ys\/SqT X.K H p ys)/\Q (.int ys.length) H):=by
 intro M s J H B us Q I r h;have(p,ys,rfl,b,q):=h;have(u,rfl,d):=lN r;subst d;have hn:=pi
 rcases b with b |b
 .have(L,r',c,hz):=I.list b;have a:=r'.length;show Calls.call_len_list c.isList (by grind) (.int ys.length,H,I.tok _,(s.toks+1,by rw[size_toArray,a]),q)
 .have(L,r',c,hz):=I.tuple b;have a:=r'.length;show len_tuple c (by grind) (.int ys.length,H,I.tok _,(s.toks+1,by rw[size_toArray,a]),q)
def JP:gR X (.builtin "len") (λB H Q=>∃z,B=[.str z]/\z.length<=aT/\Q (.int z.length) H):=by
 intro M s J H B us Q I r h;have(z,rfl,hz,q):=h;have(u,rfl,t,rfl):=lN r;have hn:=pi;show len_str (by lia) (.int z.length,H,I.tok _,(_,rfl),q)
def JQ:gR X (.type "list") (λB H Q=>∃p ys,B=[.ref p]/\(SqL X.K H p ys\/SqT X.K H p ys)/\∀l,H l=ac->Q (.ref l) (upd H l (.lst ys))):=by
 intro M s J H B us Q I r h;have(p,ys,rfl,d,q):=h;have(u,rfl,j):=lN r;subst j
 have b:∀L,aJ ys L->ys.length<=aT->∀h' a,_ ->
   h'.get? s.heap.objs.size=aa {cls:=.type "list",dict:=ac,data:=.seq L.toArray a,slots:=#[]}->EP X M J Q _ {s with heap:=h'}:=λL r' hz h' a kp e=>
  (.ref s.heap.objs.size,_,I.laid kp (aP _) (show dD X.prog X.w _ h' _ (.lst ys)from(hz,L,a,r',e)),rfl,q _ (I.hok.fresh (aP _)))
 rcases d with d |d
 .have(L,r',i,hz):=I.list d;have c:=r'.length;have(o,g,f,n,hd):=i.isList;show call_list_seq p (.inl rfl) g f hd (λh' a kp e=>b L r' hz h' a kp e) (by grind)
 .have(L,r',i,hz):=I.tuple d;have c:=r'.length;have(o,g,f,n,hd):=i;show call_list_seq p (.inr rfl) g f hd (λh' a kp e=>b L r' hz h' a kp e) (by grind)
def tyV(K:aU)(T:String)(x:V)(H:Hp):Prop:=match x with
 |.str _=>T="str"
 |.int _=>T="int"
 |.ref p=>(T="list" /\ ∃B,SqL K H p B)\/(T="tuple" /\ ∃o,K.lookup p=aa o/\o.cls=.type "tuple" /\ o.dict=ac) \/
   (T="dict" /\ ((∃kvs,H p=aa (.dK kvs))\/∃kvs,H p=aa (.dT kvs)))\/(T="set" /\ ∃S n,H p=aa (.set S n))
 | _=>False
variable{T:String}
def CJ{s:ah}(I:Inv X M J H s)(r:aC x v)(ty:tyV X.K T x H):
  s.TypeIs v T/\∀a,v=.ref a->∃f,s.heap.get? a=aa f/\f.dict=ac:=by
 cases x with
 |str z=>
  have(t,rfl):=r;cases (ty)
  show⟨typeIs_str s z t,λ_ e=>nomatch e⟩
 |int i=>
  have(t,rfl):=r;cases (ty)
  show⟨typeIs_int s i t,λ_ e=>nomatch e⟩
 |ref p=>
  subst r
  rcases ty with⟨rfl,B,j⟩ |⟨rfl,o,b,h,hd⟩ |⟨rfl,b⟩ |⟨rfl,S,n,b⟩
  .have(L,_,g,_):=I.list j;show(g.isList.typeIs,λa e=>?_);cases e;have(o,n,e,c,hd,_):=g;show(o,e,hd)
  .show((o,I.kIn p o b,h),λa e=>?_);cases e;show(o,I.kIn _ o b,hd)
  .have z:∃o,s.heap.get? p=aa o/\o.ExactDict:=by
    rcases b with⟨kvs,b⟩ |⟨kvs,b⟩
    .have(_,_,_,_,o,_,_,e,ex,_):=I.hok p _ b;show(o,e,ex)
    .have(_,_,_,_,o,_,_,e,ex,_):=I.hok p _ b;show(o,e,ex)
   have(o,e,ex):=z;show((o,e,ex.1),λa d=>?_);cases d;show(o,e,ex.2.1)
  .have(o,_,_,_,e,ex,_):=I.hok p _ b;show((o,e,ex.1),λa d=>?_);cases d
   show(o,e,ex.2.1)
 | _=>show gL ty
def wx(K:aU)(T:String)(r:V->LVv->Hp->VK->Prop)(to:TE):TE:=λJ H Q=>to J H λx a=>tyV K T x a/\r x [] a Q
def tBM(K:aU)(T:String)(r:V->LVv->Hp->VK->Prop)(to:TE)(t:TA):TE:=λJ H Q=>to J H λx a=>tyV K T x a/\t J a λB b=>r x B b Q
variable{name:Str}{apos cpos:Pos}{r:V->LVv->Hp->VK->Prop}
def wy{o:Expr}{to:TE}{id:String}(pa:PlainAttrs T)(slot:Slot T name id)(c:typeOf (.builtin id)=pure (.type "method_descriptor"))(hm:MtR X id r)(j:PE X o to)
 (a:autoParam (lB o name X.env (eval o X.env)=eval o X.env) Zb)(b:autoParam ((apos.endLine==cpos.line)=ab) Zb):PE X (.Call (.Attribute o name apos) [] [] cpos) (wx X.K T r to):=by
 intro M s J H Q I h;show wpAny_Call_method0_late a b (thn (j M s J H _ I h) λv s1 m=>?_);have(x,f,d,e,ty,l):=m;have(g,i):=CJ d e ty;show(T,id,pa,slot,c,g,i,rS rfl (PySem.evalArgs_none (hm M s1 J f x [] v [] Q d e .nil l)))
variable{es:LEx}
def kB{o:Expr}{to:TE}{t:TA}{id:String}(pa:PlainAttrs T)(slot:Slot T name id)(f:typeOf (.builtin id)=pure (.type "method_descriptor"))(hm:MtR X id r)(u:PE X o to)(ha:PA X (e::es) t)
 (b:autoParam (lB o name X.env (eval o X.env)=eval o X.env) Zb)
 (d:autoParam (((cv cpos (aR (e::es) X.env)).all (λx=>!x.1) && (ja cpos (i7 [] X.env)).all (λx=>x.1.isSome)
   && decide ((e::es).length+([]:List Keyword).length+(if ([]:List Keyword).isEmpty then 0 else 1)<30))=ab) Zb)
 (c:autoParam ((apos.endLine==cpos.line)=ab) Zb)(w:autoParam (StE X e es) Zb)(a:autoParam ((cv cpos (aR es X.env)).any (·.1)=ae) Zb):
  PE X (.Call (.Attribute o name apos) (e::es) [] cpos) (tBM X.K T r to t):=by
 intro M s J H Q I h;show wpAny_Call_method_late b d c rfl (thn (u M s J H _ I h) λv s1 A=>?_);have(x,l,g,j,ty,y):=A;have(p,q):=CJ g j ty;show(T,id,pa,slot,f,p,q,?_);have i:=ha cpos M s1 J l _ g y;rw[w]at i ⊢
 show rS (by change(ae || (cv cpos _).any (·.1))=ae;rw[a] <;> rfl) (vF (thn i λus s2 (vs,m,n,B,z)=>hm M s2 J m x vs v us Q n j B z))
def MtM(X:Cx)(id:String)(r:V->LVv->Hp->VK->Prop):Prop:=
 ∀(M:PNS) (s:ah) (J:St) (H:Hp) (x:V) (B:LVv) (v:Value) (us:LVa) (Q:VK),Inv X M J H s->aC x v->aJ B us->r x B H Q ->
  wpAny (model X.prog X.w) X.A (call (.builtin id) (v::us)) (EP X M J Q) X.xe s
def aJ.one:∀{x:V} {us:LVa},aJ [x] us->∃u,us=[u]/\aC x u:=λh=>by
 cases h with
 |cons r h=>
  cases h;show(_,rfl,r)
def aJ.zero:∀{us:LVa},aJ [] us->us=[]
 | _,.nil=>rfl
def aJ.eraseIdx:∀{B:LVv} {us:LVa} (i:Nat),aJ B us->aJ (B.eraseIdx i) (us.eraseIdx i)
 | _,_,_,.nil=>.nil
 | _,_,0,.cons _ t=>t
 | _,_,i+1,.cons r t=>.cons r (aJ.eraseIdx i t)
def wz{a:Type}:∀(l:List a) (i:Nat),(l.eraseIdx i).length<=l.length
 | [],_=>aP _
 | _::_,0=>jx _
 | _::r,i+1=>Nat.succ_le_succ (wz r i)
variable{l:Addr}{t':Nat}
section
variable{s:ah}
def Inv.lset{f:Array Value->Array Value}(I:Inv X M J H s)(a:H l=aa (.lst B))
 (e:s.heap.get? l=aa {cls:=.type "list",data:=.seq L.toArray n})(c:f L.toArray=eh.toArray)(hv:aJ ys eh)(hz:ys.length<=aT):
  Inv X M J (upd H l (.lst ys)) {s with heap:=s.heap.update l (jc f),toks:=t'}:=by
 have q:=PySem.IsL.update e f;rw[c]at q;show I.write (by rw[a];show trivial) (.inl rfl) (λg u b d=>(rV s.heap _ (fN b)).trans d) (_,q) (hz,eh,_,hv,q)
end
section
variable{s:ah}
def Inv.lnew(I:Inv X M J H s)(hv:aJ ys L)(hz:ys.length<=aT):
  Inv X M J (upd H s.heap.objs.size (.lst ys)) {s with heap:=s.heap.push {cls:=.type "list",data:=.seq L.toArray},toks:=t'}:=
 I.laid (λ_ _ q=>bG _ q) (aP _) (hz,L,0,hv,cY _ rfl)
end
def Inv.fresh{s:ah}(I:Inv X M J H s):H s.heap.objs.size=ac:=I.hok.fresh (aP _)
def Inv.lstM{s:ah}(I:Inv X M J H s)(a:H l=aa (.lst B)):B.length<=aT/\∃(L:LVa) (n:Nat),aJ B L/\B.length=L.length/\s.heap.get? l=aa {cls:=.type "list",data:=.seq L.toArray n}:=by
 have(z,L,n,r,e):=I.hok l _ a;show(z,L,n,r,r.length,e)
def JR(h:n<=aT):B0 n=ae:=by
 show decide_eq_false (by lia)
abbrev ss:V->LVv->Hp->VK->Prop:=λx vs H Q=>∃l B y,x=.ref l/\vs=[y]/\H l=aa (.lst B)/\B.length<aT/\Q .non (upd H l (.lst (B++[y])))
def su:MtM X "list.append" ss:=by
 intro M s J H x vs v us Q I c b h;have(l,B,y,rfl,rfl,a,hz,q):=h;subst c;have(u,rfl,ru):=b.one;have(z,L,n,r,d,e):=I.lstM a;show call_meets F.slot_list_append (_,e,rfl) F.entry_list_append (F.args_list_append_2 _ _) (PySem.list_append l L.toArray n u (by rw[size_toArray];lia)) (e,?_);show(.non,_,I.lset a e (by simp) (r.append (.cons ru .nil)) ?_,rfl,q);rw[bf,dN]
 lia
abbrev wA:V->LVv->Hp->VK->Prop:=λx vs H Q=>∃l b B a,x=.ref l/\vs=[.ref b]/\H l=aa (.lst B)/\H b=aa (.lst a)/\B.length+a.length<=aT/\Q .non (upd H l (.lst (B++a)))
def CK:MtM X "list.extend" wA:=by
 intro M s J H x vs v us Q I y w h;have(l,b,B,E,rfl,rfl,f,i,hz,q):=h;subst y;have(u,rfl,ru):=w.one;subst ru;have(z,L,n,r,A,e):=I.lstM f;have(C,a,m,p,j,g):=I.lstM i;have d:L.toArray.size+a.toArray.size<=aT:=by grind
 have c:¬(!L.toArray.isEmpty && B0 (L.toArray.size+a.toArray.size))=ab:=by
  rw[JR d,oM]
  grind
 show call_meets F.slot_list_extend (_,e,rfl) F.entry_list_extend (F.args_list_extend_2 _ _)
  (AutoSeq1.list_extend_list_list_0 l L.toArray n b a.toArray m c (by grind) (by lia)) (e,g,?_)
 show(.non,_,I.lset f e (by simp) (r.append p) ?_,rfl,q)
 grind
abbrev CL:V->LVv->Hp->VK->Prop:=λx vs H Q=>∃l B i k y,x=.ref l/\vs=[.int i]/\H l=aa (.lst B)/\-(2 ^ 63)<=i/\i<2 ^ 63/\seqIndex? i B.length=aa k/\B[k]?=aa y/\Q y (upd H l (.lst (B.eraseIdx k)))
def JS:MtM X "list.pop" CL:=by
 intro M s J H x vs v us Q I A p h;have(l,B,i,k,y,rfl,rfl,b,c,d,f,m,q):=h;subst A;have(u,rfl,ru):=p.one;have(t,rfl):=ru;have(z,L,n,r,g,e):=I.lstM b;have(w,j,a):=r.get m
 show call_meets F.slot_list_pop (_,e,rfl) F.entry_list_pop (F.args_list_pop_2 _ _)
  (MeetsSeq.list_pop_at l L.toArray n i t k w (fitsIndex_both c d) (by rw[size_toArray,<- g];show f) (by rw[<- oJ];show j) (by rw[size_toArray];lia)) (e,?_)
 show(y,_,I.lset b e ?_ (r.eraseIdx k) ?_,a,q)
 .change L.toArray.eraseIdxIfInBounds k=(L.eraseIdx k).toArray;rw[eraseIdxIfInBounds_toArray]
 .have:=wz B k
  lia
abbrev wB:V->LVv->Hp->VK->Prop:=λx vs H Q=>∃l B,x=.ref l/\vs=[]/\H l=aa (.lst B)/\Q .non (upd H l (.lst []))
def wC:MtM X "list.clear" wB:=by
 intro M s J H x vs v us Q I d c h;have(l,B,rfl,rfl,b,q):=h;subst d;have a:=c.zero;subst a;have(z,L,n,r,f,e):=I.lstM b;show call_meets F.slot_list_clear (_,e,rfl) F.entry_list_clear (F.args_list_clear_1 _) (AutoSeq1.list_clear_list_0 l L.toArray n (by grind)) (e,(.non,_,I.lset b e rfl .nil (cK _),rfl,q))
def JT:R2:=λx y H Q=>∃l b B a,x=.ref l/\y=.ref b/\H l=aa (.lst B)/\H b=aa (.lst a)/\B.length+a.length<=aT/\∀p,H p=ac->Q (.ref p) (upd H p (.lst (B++a)))
def CM:OpR X (fm .Add) JT:=by
 intro M s J H x y v u Q I m p h;have(l,b,B,E,rfl,rfl,g,f,hz,q):=h;subst m;subst p;have(z,L,n,r,w,e):=I.lstM g;have(C,a,A,j,i,c):=I.lstM f;show PySem.P.add_list e c ?_ (by grind);have d:L.toArray++a.toArray=(L++a).toArray:=by simp
 rw[d];show(.ref _,_,I.lnew (r.append j) (by grind),rfl,q _ I.fresh)
end L2
namespace Att
open List
open PySem PySem.W PySem.Calls PyProof.Rows
variable{P:Params}{h:Heap}
def JU:∀(ns:LI0) (vs:LVa),WellAll P h vs (ns.map WData.int)->fh vs ns:=by
 intro ns
 induction ns with
 |nil=>
  intro vs w;cases w
  show .nil
 |cons n ns c=>
  intro vs w
  cases w with
  |cons a b=>
   cases a;show .cons _ _ (c _ b)
variable{l:OpenLaw}{n:Nat}{vals:LVa}
def JV(hn:l.most=aa n){args:List WData}
 (b:l.row.toRowW.claim.pre args=ab)(g:WellAll P h vals args):
  ∃a vs ns,vals=[fR a]/\args=[WData.list (ns.map WData.int)]/\h.get? a=aa {cls:=.type "list",data:=.seq vs.toArray}/\fh vs ns/\ns.length<=n:=by
 have(d,r,rfl,i,j):=hasAllW_cons ((pre_splitW b).1);obtain rfl:=hasAllW_nil j;have(B,rfl,m):=hasW_list i;have(ns,rfl):=items_int m
 have e:ns.length<=n:=by
  have f:(WTm.not (.lt (.lit (.int n)) (.len (.arg 0)))).holds [] {args:=[.list (ns.map .int)]}=ab:=by
   have f:=(holds_andW ((pre_splitW b).2)).1;rw[hn]at f;show f
  have v:=condW_of f (w_not (w_lt w_lit (w_len_list (w_arg rfl))))
  grind
 cases g with
 |cons q u=>
  cases u
  cases q with
  |list p c=>show(_,_,ns,rfl,rfl,p,JU ns _ c,e)
def JW(l:OpenLaw)(args:List WData):l.row.toRowW.claim.post args (.bool ab) args=ab:=
 postW_of
  (show WShape.has [] _ .bool=ab by first |rfl |decide |simp[WShape.has])
  (w_eq_bool (w_res rfl) w_lit) rfl
variable{q:bX}{d2:LSt}{XP:MGT->Heap->Prop}{YP:World->Heap->Prop}{d:DefRec}
def attach_call
 (hn:l.most=aa n)(p:d.params.defaults=[])
 (call:∀ (w:World) (s₀ b:ah) (mg mb:MGT) (e:Addr) (o:Obj) (pm j doc:Value) (a:Addr) (vs:LVa) (ns:LI0),
   Ground q d2 [] XP w s₀ mg mb b.heap->YP w b.heap ->
   b.heap.get? e=aa o->o.data=.func (docDef d.name d.params d.body d.scope pm j doc)->b.heap.CodeRec j d.name->mg d.name=aa (.ref e) ->
   b.heap.get? a=aa {cls:=.type "list",data:=.seq vs.toArray}->fh vs ns->ns.length<=n->b.gens=#[] ->
   hE (model l.prog w) callerA (.call (.ref e) ([.ref a],[])) (λr s'=>r=.ok (.ret (.bool ab))/\OldK b.heap s'.heap/\s'.os=b.os/\jy s'.gens) b):
  WalkO q d2 XP YP l.row.toRowW d [] (λf vs=>PySem.call f vs):=by
 intro w s₀ b mg mb G Y e o pm j doc z kV I hd m x u E args vals M i y L v H;obtain rfl:z=.none:=Dflts.none x p;obtain rfl:kV=.none:=Dflts.noKw x;have(a,vs,ns,rfl,rfl,h,c,g):=JV hn i v;show enter_call (m9 (call w s₀ b mg mb e o pm j doc a vs ns G Y I (fd_plain hd) m u h c g E) λr s' J=>?_);have(rfl,A,B,C):=J;show(.inl (.bool ab,.bool ab,[],rfl,λ_=>rfl,.bool ab,JW l _,λ_=>(List.Pairwise.nil,λ_ hm=>(nomatch hm))),A,B,C)
end Att
namespace L2
open List
open PySem PySem.Spec PyProof.Rows
def CN:∀{vs:LVa} {ns:LI0},fh vs ns->aJ (ns.map V.int) vs
 | _,_,.nil=>.nil
 | _,_,.cons n t h=>.cons (t,rfl) (CN h)
def sw(H:Hp):Prop:=∀b,H b=ac\/∃o B,H b=aa (.frz o (.lst B))
variable{P:bX}{w:World}{K:aU}{mg:MGT}{a:Addr}{fd:dg}{x:Str}{ns:LI0}
def JX{mb:MGT}{CX:CXT}{k:Nat}{G:Addr}{sp:Sp}{c:ah}{vs:LVa}
 (T:K.In c.heap)(A:c.heap.Ns b9 mg)(l:c.heap.Ns builtinsNs mb)(J:∀x:Str,x ≠ "__name__" -> mb x=i6 x)(y:c.heap.NoLimit)(hg:c.gens=#[])
 (ha:c.heap.get? a=aa {cls:=.type "list",data:=.seq vs.toArray})(hi:fh vs ns)(hl:ns.length<=aT)(hr:bo k callerA)
 (F:∀base:Heap,K.In base->base.Ns b9 mg->cM P w K mg base CX k G fd [x] sp)(j:∀(s:ah) (u:Value),BindsTo s fd ([u],[]) [(x,u,)])
 (M:∀H:Hp,sw H->SqL K H a (ns.map V.int)->sp [.ref a] H (λv _=>v=.bl ab) λ_ _ _=>False)
 (I:∀H e s',CX [] H c (λ_ _ _=>False) e s'->False):
  hE (model P w) callerA (.call (.ref G) ([.ref a],[])) (λr s'=>r=.ok (.ret (.bool ab))/\OldK c.heap s'.heap/\s'.os=c.os/\jy s'.gens) c:=by
 have rv:=CN hi
 have i:∀H:Hp,sw H->SqL K H a (ns.map V.int)->HOk P w H c.heap->(∀b,H b≠ac->b=a)->(H a≠ac->K.lookup a=ac) ->
   hE (model P w) callerA (.call (.ref G) ([.ref a],[])) (λr s'=>r=.ok (.ret (.bool ab))/\OldK c.heap s'.heap/\s'.os=c.os/\jy s'.gens) c:=by
  intro H U hS hok hA hK;have f:∀{b:Addr} {o:Obj},c.heap.get? b=aa o->H b=ac->(nr c.heap H).get? b=aa o:=λe n=>HE e n
  have N:∀{b:Addr} {o:Obj} {es:Array DictEntry} {E:Nat},c.heap.get? b=aa o->o.data=.dict es E->H b=ac:=λ{b o es E} e d=>by
   grind
  have g:∀{b:Addr} {m:MGT},c.heap.Ns b m->(nr c.heap H).Ns b m:=λ{b m} (o,es,E,e,d,r)=>(o,es,E,f e (N e d),d,r)
  have p:=λb o e=>f (T b o e) (by
   cases q:H b with
   |none=>rfl
   |some u=>
    have Y:=hA b (by grind);subst Y;rw[hK (by grind)]at e;nomatch e)
  have hM:Mod K mg _:=(p,g A,(mb,g l,J),let (mc,h1,h2):=y;(mc,g h1,h2));have e0:lP P w K mg _ callerA [] c H:=(rfl,hM,λb o e=>HF e,Nat.le_of_eq (HD _ _),trivial,λb l=>absurd (show b∈([]:LAd)from l) (by simp),hok,.of_eq hg);show m9 ((F _ p (g A)).run callerA [] c H ([.ref a],[]) _ [.ref a] _ _ hr e0 (j c _) (.cons rfl .nil) (M H U hS)) λr s' h=>?_
  cases r with
  |error e=>show(I H e s' h).elim
  |ok fl=>
   cases fl with
   |next=>show gL h
   |brk=>show gL h
   |cont=>show gL h
   |ret u=>
    have(v,H',os,bare,un,C,r',q):=h;subst q;obtain rfl:u=hJ ab:=r';show(rfl,OldK.of_keep λb o e=>?_,os,bare)
    cases q:H b with
    |none=>show un.keep b o e q (by intro z;show absurd (show b∈([]:LAd)from z) (by simp)) (by simp)
    |some u=>
     rcases U b with z |⟨ob,B,z⟩
     .grind
     .have z2:=un.frzs b ob _ z;have(e1,_):=hok b _ z;have(e2,_):=C b _ z2
      grind
 cases L:K.lookup a with
 |some o=>
  have e:=T a o L;rw[ha]at e;cases e
  show i _ (λ_=>.inl rfl) (.inr (_,vs.toArray,_,L,rfl,rfl,rfl,by rw[size_toArray,hi.length];grind)) (λb u z=>by have Q:_=aa u:=z;nomatch Q) (λb z=>absurd rfl z) λz=>absurd rfl z
 |none=>
  show i (λb=>if b=a then aa _ else ac) (λb=>?_) (.inl (.inr ({cls:=.type "list",data:=.seq vs.toArray},if_pos rfl))) (λb u z=>?_) (λb z=>?_) λ_=>L
  .grind
  .by_cases l:b=a
   .have Q:=(if_pos l).symm.trans z;cases Q;subst l;show(ha,by rw[aH];show hl,vs,_,rv,ha)
   .grind
  .grind
variable{h:Heap}
nonrec def KOf(_:K.In h):aU:=K
variable{l:W.OpenLaw}{q:bX}{d2:LSt}{XP:MGT->Heap->Prop}{YP:World->Heap->Prop}{d:DefRec}
def JY{n k:Nat}{K:Params->aU}{CX:World->CXT}{sp:World->Sp}
 (hn:l.most=aa n)(A:n<=aT)(y:d.params.defaults=[])(U:bo k callerA)
 (L:∀(w:World) (h:Heap),YP w h->(K w.params).In h)
 (F:∀ (w:World) (mg:MGT) (p:Addr) (h:Heap),(K w.params).In h->h.Ns b9 mg->mg d.name=aa (.ref p) ->
   ∃fd:dg,(∀(s:ah) (u:Value),BindsTo s fd ([u],[]) [(x,u,)]) /\
    ∀base:Heap,(K w.params).In base->base.Ns b9 mg->cM l.prog w (K w.params) mg base (CX w) k p fd [x] (sp w))
 (B:∀(w:World) (H:Hp) (a:Addr) (ns:LI0),ns.length<=n->sw H->SqL (K w.params) H a (ns.map V.int)->sp w [.ref a] H (λv _=>v=.bl ab) λ_ _ _=>False)
 (r:∀(w:World) (H:Hp) (s:ah) (e:Value) (s':ah),CX w [] H s (λ_ _ _=>False) e s'->False):
  W.WalkO q d2 XP YP l.row.toRowW d [] (λf vs=>PySem.call f vs):=by
 show Att.attach_call hn y λw s₀ m mg mb p o pm cd doc a vs ns G Y ho hd N z j i c Q=>?_;have C:=L w _ Y;have(fd,M,E):=F w mg p _ C G.T.g z;show JX C G.T.g G.T.b G.T.builtins G.T.nolimit Q j i (cJ c A) U E M (λH I J=>B w H a ns c I J) λH e s'=>r w H m e s'
variable{CX:CXT}
def walk_ofK{n k:Nat}{K:Params->aU}{sp:aU->Sp}
 (hn:l.most=aa n)(g:n<=aT)(c:d.params.defaults=[])(z:bo k callerA)
 (y:∀(w:World) (h:Heap),YP w h->(K w.params).In h)
 (F:∀ (w:World) (mg:MGT) (j:Addr) (h:Heap),(K w.params).In h->h.Ns b9 mg->mg d.name=aa (.ref j) ->
   ∃fd:dg,(∀(s:ah) (u:Value),BindsTo s fd ([u],[]) [(x,u,)]) /\
    ∀base:Heap,(K w.params).In base->base.Ns b9 mg->cM l.prog w (K w.params) mg base CX k j fd [x] (sp (K w.params)))
 (i:∀(K:aU) (H:Hp) (a:Addr) (ns:LI0),ns.length<=n->sw H->SqL K H a (ns.map V.int)->sp K [.ref a] H (λv _=>v=.bl ab) λ_ _ _=>False)
 (b:∀(H:Hp) (s:ah) (e:Value) (s':ah),CX [] H s (λ_ _ _=>False) e s'->False):
  W.WalkO q d2 XP YP l.row.toRowW d [] (λf vs=>PySem.call f vs):=
 JY hn g c z y F (λw H a ns m p r=>i _ H a ns m p r) λ_ H s e s'=>b H s e s'
def bR(s:Stmt)(j:Nat):Stmt:=match s with
 |.ClassDef _ _ _ body _ _ _ _ _ _ _=>body.getD j (.Pass (0,0,0,0))
 | _=>.Pass (0,0,0,0)
def pG(s:Stmt):Arguments:=match s with
 |.FunctionDef _ a _ _ _ _ _ _ _ _=>a
 | _=>{posonlyargs:=[],args:=[],vararg:=ac,kwonlyargs:=[],kw_defaults:=[],kwarg:=ac,defaults:=[]}
def hZ(s:Stmt):List Stmt:=match s with
 |.FunctionDef _ _ b _ _ _ _ _ _ _=>b
 | _=>[]
def az(s:Stmt):Scope:=match s with
 |.FunctionDef _ _ _ _ _ _ sc _ _ _=>sc
 | _=>{kind:=.function,names:=[],isGenerator:=ae,isCoroutine:=ae}
nonrec abbrev CX0:CXT:=λ_ _ _ _ _ _=>False
nonrec abbrev E0:XK:=λ_ _ _=>False
variable{X:Cx}
def gy:lQ CX0 X E0:=λ_ _ _ _ _ _ _ h=>h.elim
structure Fun(K:aU)(x qual:Str)(st:Stmt)(f:Addr)(fd:dg):Prop where
 ex:∃(oc:Value) (od:Option Addr) (kV doc pm:Value) (an:Option Addr) (cdv ct:Value) (osl:Array (Option Value)),
  fd=W.fnOf x qual (pG st) (hZ st) (az st) .none kV doc pm an cdv ct/\K.lookup f=aa (oc,od,.func fd,osl)/\W.codeIn K cdv qual=ab
 kp:iG K (.ref f)=ab
variable{base:Heap}{qual:Str}{st:Stmt}{f:Addr}{N ps:LSt}{sp:Sp}
def Fun.ok{k:Nat}(F:Fun K x qual st f fd)(S:aF N ps (az st))(len:∀vs H Q S5,sp vs H Q S5->vs.length=ps.length)
 (a:∀ (cdv:Value) (A:b7) (outer:List Env) (s:ah) (H:Hp) (vs:LVv) (Q:VK) (S5:XK),bo k (A.deeper (fO qual (az st) s.heap.objs.size f cdv))->sp vs H Q S5 ->
   ∃t,PSs (hX CX0 P w K mg base N qual (az st) f cdv A outer s H S5).nox (hZ st) t/\t {nx:=λ_ H'=>Q .non H',rt:=Q} (start N vs) H):cM P w K mg base CX0 (k+1) f fd ps sp:=by
 have(oc,od,kV,doc,pm,an,cdv,ct,osl,rfl,e,b):=F.ex;show Jx e b S len λA outer s H vs Q S5 d c=>?_;have(t,h,q):=a cdv A outer s H vs Q S5 d c;show(t,h.nox,q)
def Fun.binds(F:Fun K x qual st f fd)
 (h:∀(kV doc pm:Value) (an:Option Addr) (cdv ct:Value) (us:LVa),us.length=ps.length->bindArgs (W.fnOf x qual (pG st) (hZ st) (az st) .none kV doc pm an cdv ct) (us,[])=pure (ps.zip us)):fU K fd ps []:=by
 have(oc,od,kV,doc,pm,an,cdv,ct,osl,rfl,b,a):=F.ex;show .all (h kV doc pm an cdv ct)
def fun_mk{oc:Value}{od an:Option Addr}{osl:Array (Option Value)}{kV doc pm cdv ct:Value}(l:K.lookup f=aa (oc,od,.func (W.fnOf x qual (pG st) (hZ st) (az st) .none kV doc pm an cdv ct),osl))
 (c:W.codeIn K cdv qual=ab)(k:iG K (.ref f)=ab):Fun K x qual st f (W.fnOf x qual (pG st) (hZ st) (az st) .none kV doc pm an cdv ct):=((oc,od,kV,doc,pm,an,cdv,ct,osl,rfl,l,c),k)
structure Df(K:aU)(mg:MGT)(x:Str)(st:Stmt)(ps:LSt)(e:Addr×dg):Prop where
 F:Fun K x x st e.1 e.2
 b:fU K e.2 ps []
 g:mg x=aa (.ref e.1)
structure Dm(K:aU)(S4:Addr)(x q:Str)(st:Stmt)(ps:LSt)(e:Addr×dg):Prop where
 F:Fun K x q st e.1 e.2
 b:fU K e.2 ps []
 m:pq K S4 x e.1
structure Pk(P:bX)(w:World)(K:aU)(mg:MGT)(base:Heap)(CX:CXT)(k:Nat)(x:Str)(e:Addr×dg)(ps:LSt)(sp:Sp):Prop where
 ok:cM P w K mg base CX k e.1 e.2 ps sp
 g:mg x=aa (.ref e.1)
 kp:iG K (.ref e.1)=ab
 b:fU K e.2 ps []
structure Pm(P:bX)(w:World)(K:aU)(mg:MGT)(base:Heap)(CX:CXT)(k:Nat)(S4:Addr)(x:Str)(e:Addr×dg)(ps:LSt)(sp:Sp):Prop where
 ok:cM P w K mg base CX k e.1 e.2 ps sp
 c:Cls K S4
 m:pq K S4 x e.1
 b:fU K e.2 ps []
variable{e:Addr×dg}
def Df.pk{k:Nat}(S5:Df K mg x st ps e)(o:cM P w K mg base CX k e.1 e.2 ps sp):Pk P w K mg base CX k x e ps sp:=(o,S5.g,S5.F.kp,S5.b)
variable{q:Str}{S4:Addr}
def Dm.pk{k:Nat}(S5:Dm K S4 x q st ps e)(c:Cls K S4)(o:cM P w K mg base CX k e.1 e.2 ps sp):Pm P w K mg base CX k S4 x e ps sp:=(o,c,S5.m,S5.b)
structure Dq(K:aU)(x:Str)(st:Stmt)(f:Addr)(fd:dg):Prop where
 a:dC K b9 x=aa (aa (.ref f))
 F:Fun K x x st f fd
structure Dp(K:aU)(S4:Addr)(x q:Str)(st:Stmt)(f:Addr)(fd:dg):Prop where
 a:cw K (.ref S4) x=aa (aa (.ref f))
 i:W.isFn K (.ref f)=ab
 F:Fun K x q st f fd
nonrec abbrev wD(x q:Str)(st:Stmt)(ps:LSt):Prop:=∀(kV doc pm:Value) (an:Option Addr) (cdv ct:Value) (us:LVa),us.length=ps.length->bindArgs (W.fnOf x q (pG st) (hZ st) (az st) .none kV doc pm an cdv ct) (us,[])=pure (ps.zip us)
def Dq.mk2(d:Dq K x st f fd)(X:K.In h)(G:h.Ns b9 mg)(b:autoParam (wD x x st ps) Zm):Df K mg x st ps (f,fd,):=(d.F,d.F.binds b,W.mg_of X G d.a)
def Dp.mk2(d:Dp K S4 x q st f fd)(b:autoParam (wD x q st ps) Zm):Dm K S4 x q st ps (f,fd,):=(d.F,d.F.binds b,(d.a,d.i,d.F.kp))
def Dq.bt{p:Str}(d:Dq K x st f fd)(b:wD x x st [p])(s:ah)(v:Value):BindsTo s fd ([v],[]) [(p,v,)]:=by
 have(oc,od,kV,doc,pm,an,cdv,ct,osl,rfl,c,a):=d.F.ex;show .of_eq (b kV doc pm an cdv ct [v] rfl)
variable{n:Nat}
def sy(h:n<=1000):n<aT:=m4 h (by decide)
variable{pos:Pos}
def pv(i:Nat)(b:autoParam (X.N[i]?=aa x) Zb)(hv:autoParam (Vis X.env.scope x) Ze)(hd:autoParam (NDb x) Zc)
 (a:autoParam (NCd x) Zc):PE X (.Name x pos) (cL i):=nt b hv hd a
def aq(H H':Hp):Prop:=∀b o,H b=aa o->H' b=aa o
def aq.refl(H:Hp):aq H H:=λ_ _ h=>h
variable{H H1 H2:Hp}
def aq.trans(a:aq H H1)(b:aq H1 H2):aq H H2:=λc o h=>b c o (a c o h)
variable{H':Hp}{l:Addr}
def aq.free(e:aq H H')(h:H' l=Option.none):H l=Option.none:=by
 cases q:H l with
 |none=>rfl
 |some o=>
  rw[e l o q]at h
  nomatch h
def aq.seq{B:LVv}(e:aq H H')(h:SqL K H a B):SqL K H' a B:=by
 rcases h with(h |⟨o,h⟩) |h
 .show .inl (.inl (e _ _ h))
 .show .inl (.inr (o,e _ _ h))
 .show .inr h
section
variable{κ:Type}[DecidableEq κ]
def cC(kvs:List (κ×V))(k:κ):Option V:=(kvs.find? λa=>decide (a.1=k)).map (·.2)
abbrev dn(kvs:List (κ×V))(k:κ)(v:V):List (κ×V):=
 if (kvs.any λa=>decide (a.1=k))=ab then kvs.map (λa=>if a.1=k then (a.1,v,) else a) else kvs++[(k,v,)]
def pH{p:κ×V}{r:List (κ×V)}{k:κ}(e:p.1=k):cC (p::r) k=aa p.2:=by simp[cC,find?_cons,e]
def nv{p:κ×V}{r:List (κ×V)}{k:κ}(e:¬p.1=k):cC (p::r) k=cC r k:=by simp[cC,find?_cons,e]
def sA(k:κ):∀kvs:List (κ×V),(kvs.any λa=>decide (a.1=k))=(cC kvs k).isSome
 | []=>rfl
 |p::r=>by
  rw[gj]
  by_cases e:p.1=k
  .simp only[pH e,decide_eq_true e,Bool.true_or,Option.isSome_some]
  .rw[nv e,decide_eq_false e,Bool.false_or];show sA k r
def wE(kvs:List (κ×V))(k:κ)(v:V):(dn kvs k v).length<=kvs.length+1:=by
 unfold dn;split
 .rw[aH];lia
 .simp only[bf,cr,length_nil];lia
def d8.isSome_eq{o:Option V}{u:Option Value}(r:d8 o u):o.isSome=u.isSome:=by
 cases o with
 |none=>cases u with
  |none=>rfl
  |some _=>show(r).elim
 |some _=>cases u with
  |none=>show(r).elim
  |some _=>rfl
def d8.getD{o:Option V}{u:Option Value}{d:V}{d':Value}(r:d8 o u)(a:aC d d'):aC (o.getD d) (u.getD d'):=by
 cases o with
 |none=>cases u with
  |none=>show a
  |some _=>show(r).elim
 |some _=>cases u with
  |none=>show(r).elim
  |some _=>show r
def KV.val{kvs:List (κ×V)}{vs:List (κ×Value)}(r:KV kvs vs)(k:κ):d8 (cC kvs k) (valueAt vs k):=by
 induction r with
 |nil=>show hU
 | @cons p q ps c h t g=>
  have(d,f):=h
  by_cases e:p.1=k
  .have a:=d.symm.trans e;have b:valueAt (q::c) k=aa q.2:=by simp[valueAt,a]
   rw[pH e,b];show f
  .have a:¬q.1=k:=λz=>e (d.trans z);have b:valueAt (q::c) k=valueAt c k:=by simp[valueAt,a]
   rw[nv e,b];show g
def KV.any{kvs:List (κ×V)}{vs:List (κ×Value)}(r:KV kvs vs)(k:κ):(kvs.any λa=>decide (a.1=k))=vs.any λa=>decide (a.1=k):=by
 induction r with
 |nil=>rfl
 |cons h t b=>simp only[gj,gj,b,h.1]
def KV.repl{kvs:List (κ×V)}{vs:List (κ×Value)}(r:KV kvs vs)(k:κ){y:V}{u:Value}(f:aC y u):
  KV (kvs.map λa=>if a.1=k then (a.1,y,) else a) (vs.map λa=>if a.1=k then (a.1,u,) else a):=by
 induction r with
 |nil=>show .nil
 | @cons p q ps g h t d=>
  rw[bP,bP];show .cons ?_ d;have(b,c):=h
  by_cases e:p.1=k
  .rw[if_pos e,if_pos (b.symm.trans e)];show(b,f)
  .rw[if_neg e,if_neg (λz=>e (b.trans z))];show(b,c)
def KV.put{kvs:List (κ×V)}{vs:List (κ×Value)}(r:KV kvs vs)(k:κ){y:V}{u:Value}(a:aC y u):KV (dn kvs k y) (stored vs k u):=by
 unfold dn stored;rw[r.any k]
 by_cases e:(vs.any λb=>decide (b.1=k))=ab
 .rw[if_pos e,if_pos e];show r.repl k a
 .rw[if_neg e,if_neg e];show gP.snoc r (rfl,a)
def KV.length{kvs:List (κ×V)}{vs:List (κ×Value)}(r:KV kvs vs):kvs.length=vs.length:=nc r
end
variable{u:Value}
def sC{k:Key}(r:aC (kV k) u):(ku P w).is k u=ab:=by
 cases k with
 |inl i=>have(t,e):=(r);subst e;show Hw P w i t
 |inr x=>have(t,e):=(r);subst e;show Hx P w x t
nonrec abbrev KT(H:Hp):List (List Key×V)->List (List Key×Addr×Value)->Prop:=gP λp q=>p.1=q.1/\eT H q.2.1 p.1/\aC p.2 q.2.2
variable{kvs:List (List Key×V)}{B:List (List Key×Addr×Value)}
def KT.val(r:KT H kvs B)(k:List Key):d8 (cC kvs k) ((atKey B k).map (·.2)):=by
 induction r with
 |nil=>show hU
 | @cons p q ps c h t g=>
  have(d,_,f):=h
  by_cases e:p.1=k
  .have a:=d.symm.trans e;have b:atKey (q::c) k=aa q.2:=by simp[atKey,a]
   rw[pH e,b];show f
  .have a:¬q.1=k:=λz=>e (d.trans z);have b:atKey (q::c) k=atKey c k:=by simp[atKey,a]
   rw[nv e,b];show g
variable{y:V}
def KT.repl(r:KT H kvs B)(k:List Key)(g:aC y u):
  KT H (kvs.map λb=>if b.1=k then (b.1,y,) else b) (B.map (putAt k u)):=by
 induction r with
 |nil=>show .nil
 | @cons p q ps i h t f=>
  rw[bP,bP];show .cons ?_ f;have(a,c,d):=h;unfold putAt
  by_cases e:p.1=k
  .rw[if_pos e,if_pos (a.symm.trans e)];show(a,c,g)
  .rw[if_neg e,if_neg (λz=>e (a.trans z))];show(a,c,d)
variable{b:Addr}
def KT.put(r:KT H kvs B)(k:List Key)(c:eT H b k)(a:aC y u):
  KT H (dn kvs k y) (storedH B k b u):=by
 have e:(kvs.any λd=>decide (d.1=k))=(atKey B k).isSome:=by
  rw[sA,(r.val k).isSome_eq,Option.isSome_map]
 unfold dn storedH;rw[e]
 by_cases q:(atKey B k).isSome=ab
 .rw[if_pos q,if_pos q];show r.repl k a
 .rw[if_neg q,if_neg q];show gP.snoc r (rfl,c,a)
def KT.keeps(r:KT H kvs B)(c:∀b a,H b=aa (.tup a)->H' b=aa (.tup a)):KT H' kvs B:=
 gP.mapP r λ_ _ z=>(z.1,z.2.1.up c,z.2.2)
def CO{u:HO}(ok:HOk P w H h)(e:Rd H a u):dD P w H h a u:=e.ok ok
def nz{kvs:List (Key×V)}(ok:HOk P w H h)(e:Rd H a (.dK kvs)):kvs.length<=aT/\(a==gO)=ae/\∃vs,KV kvs vs/\h.DictOf (ku P w) a vs:=
 show dD P w H h a (.dK kvs)from CO ok e
def CP{kvs:List (Key×V)}(ok:HOk P w H h)(e:H a=aa (.dK kvs)):kvs.length<=aT/\(a==gO)=ae/\∃vs,KV kvs vs/\h.DictOf (ku P w) a vs:=nz ok (.inl e)
variable{ks:List Key}
def nA(ok:HOk P w H h)(e:eT H a ks):(tupleKind (lL P w)).is h ks a:=by
 have(vs,e,f):=e;have(_,L,r,o,b,c,n,d):=(show dD P w H h a (.tup vs)from ok a _ e);show(o,L.toArray,n,b,c,d,by simpa using B7 f r)
def nB(ok:HOk P w H h)(e:Rd H a (.dT kvs)):kvs.length<=aT/\(a==gO)=ae /\
  ∃B,KT H kvs B/\h.DictOfH (tupleKind (lL P w)) a B:=by
 have(z,y,B,r,o,es,d,f,g,i,j,n):=(CO ok e);show(z,y,B,r,o,es,d,f,g,i,j,λx b=>?_,n)
 have all:∀{l:List _} {m:List _},KT H l m->∀x∈m,(tupleKind (lL P w)).is h x.1 x.2.1:=by
  intro l m q
  induction q with
  |nil=>intro x b;show nomatch b
  | @cons p q ps v c t u=>
   intro x b
   rcases aW.mp b with e |b
   .subst e;show nA ok (by rw[<- c.1];show c.2.1)
   .show u x b
 show all r x b
def CQ(ok:HOk P w H h)(e:H a=aa (.dT kvs)):kvs.length<=aT/\(a==gO)=ae /\
  ∃B,KT H kvs B/\h.DictOfH (tupleKind (lL P w)) a B:=nB ok (.inl e)
def fV(H:Hp)(a:Addr)(y:V)(r:Option V):Prop:=
 (∃kvs k,Rd H a (.dK kvs)/\y=kV k/\r=cC kvs k)\/∃kvs k b,Rd H a (.dT kvs)/\y=.ref b/\eT H b k/\r=cC kvs k
def kC(H:Hp)(a:Addr)(y v:V)(H':Hp):Prop:=
 (∃kvs k,H a=aa (.dK kvs)/\y=kV k/\kvs.length<aT/\H'=upd H a (.dK (dn kvs k v))) \/
 ∃kvs k b,H a=aa (.dT kvs)/\y=.ref b/\eT H b k/\kvs.length<aT/\H'=upd H a (.dT (dn kvs k v))
def fV.k{kvs:List (Key×V)}{k:Key}(e:H a=aa (.dK kvs)):fV H a (kV k) (cC kvs k):=.inl (kvs,k,.inl e,rfl,rfl)
def fV.t{k:List Key}(e:H a=aa (.dT kvs))(c:eT H b k):fV H a (.ref b) (cC kvs k):=.inr (kvs,k,b,.inl e,rfl,c,rfl)
variable{v:V}
def kC.k{kvs:List (Key×V)}{k:Key}(e:H a=aa (.dK kvs))(b:kvs.length<aT):kC H a (kV k) v (upd H a (.dK (dn kvs k v))):=.inl (kvs,k,e,rfl,b,rfl)
def kC.t{k:List Key}(e:H a=aa (.dT kvs))(c:eT H b k)(d:kvs.length<aT):
  kC H a (.ref b) v (upd H a (.dT (dn kvs k v))):=.inr (kvs,k,b,e,rfl,c,d,rfl)
variable{M:PNS}{J:St}
def Inv.big{s:ah}(I:Inv X M J H s):gO<s.heap.objs.size:=by
 show m5 (by decide) ((I.mod.glob.keeps I.bk).lt)
variable{A:b7}{S5 Q:PRS}
def JZ{s:ah}(C:A.units+1<cLine)(I:Inv X M J H s)(g:fV H a y (aa v))(q:aC y u)(h:∀f s',Inv X M J H s'->aC v f->Q f s'):
  wpAny (model X.prog X.w) A (getItem (.ref a) u) Q S5 s:=by
 rcases g with⟨kvs,k,e,j,l⟩ |⟨kvs,k,b,e,j,r,l⟩
 .subst j;have(z,hd,vs,c,i):=nz I.hok e;have(f,n,d):=d8.some_of (by rw[l];show c.val k);show wpAny_getItem_of (sC q) i.mapOf n (h f _ (I.tok _) d)
 .subst j;cases (q);have(z,hd,B,c,i):=nB I.hok e;have(f,n,d):=d8.some_of (by rw[l];show c.val k);have(p,x,m):=Option.map_eq_some_iff.mp n;show wpAny_getItem_heap (o7 C) (nA I.hok r) i x ?_;rw[m];show h f _ (I.tok _) d
def J0{s:ah}{o:Option V}(m:A.units+1<cLine)(I:Inv X M J H s)(g:fV H a y o)(i:aC y u)(h:∀s',Inv X M J H s'->Q (.bool o.isSome) s'):
  wpAny (model X.prog X.w) A (cu .In u (.ref a)) Q S5 s:=by
 rcases g with⟨kvs,k,e,f,l⟩ |⟨kvs,k,b,e,f,j,l⟩
 .subst f;have(z,hd,vs,c,d):=nz I.hok e;show wpAny_in_of (sC i) hd d.mapOf ?_;rw[<- (c.val k).isSome_eq,<- l];show h _ (I.tok _)
 .subst f;cases (i);have(z,hd,B,c,d):=nB I.hok e;show wpAny_in_heap (o7 m) (nA I.hok j) hd d ?_;have q:=(c.val k).isSome_eq;rw[Option.isSome_map]at q;rw[<- q,<- l];show h _ (I.tok _)
variable{h':Heap}{t':Nat}
section
variable{s:ah}
def wF{c:HO}(I:Inv X M J H s)(g:Mut (H a))(f:gn a s.heap h')(e:∃q,h'.get? a=aa q)(new:dD X.prog X.w (upd H a c) h' a c):
  Inv X M J (upd H a c) {s with heap:=h',toks:=t'}:=
 I.write g (.inl rfl) (λb q d z=>(f.2 b d).trans z) e new
end
def J1{kvs:List (Key×V)}{vs:List (Key×Value)}(z:kvs.length<=aT)(hd:(a==gO)=ae)(b:KV kvs vs)(c:h'.DictOf (ku P w) a vs):
  dD P w H' h' a (.dK kvs):=(z,hd,vs,b,c)
variable{r:Value}
def J2{s:ah}{Q:Unit->ah->Prop}(hu:A.units+1<cLine)(I:Inv X M J H s)(g:kC H a y v H')(L:aC y u)(G:aC v r)(h:∀s',Inv X M J H' s'->Q () s'):
  wpAny (model X.prog X.w) A (setItem (.ref a) u r) Q S5 s:=by
 rcases g with⟨kvs,k,e,n,l,m⟩ |⟨kvs,k,b,e,n,C,l,m⟩
 .subst n m;have(z,hd,vs,d,j):=CP I.hok e;have hz:vs.length<=aT:=by rw[<- d.length];show z
  have p:(dn kvs k v).length<=aT:=by have:=wE kvs k v;lia
  show wpAny_setItem_pairs (sC L) j λh' f x=>h _ ?_;have he:∃q,h'.get? a=aa q:=let (q,_,_,i,_):=f;(q,i);show wF I (by rw[e];show hU) x he (J1 p hd (d.put k G) f)
 .subst n m;cases (L);have(z,hd,B,d,j):=CQ I.hok e;have hz:B.length<=aT:=by rw[<- nc d];show z
  have p:(dn kvs k v).length<=aT:=by have:=wE kvs k v;lia
  show wpAny_setItem_heap (o7 hu) (nA I.hok C) j λh' f x=>h _ ?_;have(q,es,N,i,T,U,Y,_,h5):=f;show wF I (by rw[e];show hU) x (q,i) (p,hd,_,(d.put k C G).keeps λc ys E=>?_,q,es,N,i,T,U,Y,h5);rw[aK (B8 E e (λz=>nomatch z))];show E
def sD(i:Expr):Prop:=∀b a,subscripted i ae b a=operate [b,a] (getItem b a)
variable{prog:bX}{env:Env}{value:Expr}
def J3{s:ah}{a:Expr}{T id:String}
 (m:typeLookup (.type T) "__getitem__"=pure (aa (.builtin id)))(n:sD a)
 (h:wpAny (model prog w) A (eval value env) (λo d=>wpAny (model prog w) A (eval a env) (λi b=>b.TypeIs o T/\wpAny (model prog w) A (getItem o i) Q S5 b) S5 d) S5 s):
  wpAny (model prog w) A (eval (.Subscript value a pos) env) Q S5 s:=by
 show Subscript_ (fj h (λo d g=>fj g (λi b c=>?_) λ_ _ x=>x) λ_ _ x=>x);have(l,c):=c;show ap ?_;show ap (wpAny_specialOf l m ?_)
 have f:wpAny (model prog w) A (subscripted a ae o i) (λr e=>wpAny (model prog w) A (letTemporaryGo value o r >>= λ_=>pure r) Q S5 e) S5 b:=by
  rw[n o i];show wpAny_operating (fj c (λr e j=>ap (wpAny_letTemporaryGo (aI j))) λ_ _ x=>x)
 first
  |show aI (ap f)
  |show ap _
  |show ap f
def J4{s:ah}{o:Option V}(I:Inv X M J H s)(g:fV H a y o):s.TypeIs (.ref a) "dict":=by
 rcases g with⟨kvs,k,e,_,_⟩ |⟨kvs,k,b,e,_,_,_⟩
 .have(_,_,vs,_,c):=nz I.hok e;show c.typeIs
 .have(_,_,B,_,c):=nB I.hok e;show c.typeIs
def J5(b ty:TE):TE:=λJ H Q=>b J H λx H1=>ty J H1 λy H2=>∃a v,x=.ref a/\fV H2 a y (aa v)/\Q v H2
def J6(ty b:TE):TE:=λJ H Q=>ty J H λy H1=>b J H1 λx H2=>∃a o,x=.ref a/\fV H2 a y o/\Q (.bl o.isSome) H2
def wG(d ty e:TE):TS:=λD J H=>e J H λv H1=>d J H1 λx H2=>ty J H2 λy c=>∃a b,x=.ref a/\kC c a y v b/\D.nx J b
variable{i:Expr}{td ty:TE}
def CS{o:Expr}(l:X.A.units+1<cLine)(f:PE X o td)(hi:PE X i ty)(j:sD i):PE X (.Subscript o i pos) (J5 td ty):=by
 intro M s J H Q I h;show J3 PySem.F.slot_dict_getitem.lookup j (thn (f M s J H _ I h) λu s1 (x,H1,d,q,m)=>thn (hi M s1 J H1 _ d m) λw s2 p=>?_);have(y,H2,c,r,a,v,ex,g,n):=p;subst ex;obtain rfl:u=fR a:=q;show(J4 c g,JZ l c g r λB z e b=>(v,H2,e,b,n))
def J7{o:Expr}(f:X.A.units+1<cLine)(hi:PE X i ty)(e:PE X o td):PC X .In i o (J6 ty td):=by
 intro M s J H Q I h;show thn (hi M s J H _ I h) λr s1 (y,H1,b,q,l)=>thn (e M s1 J H1 _ b l) λu s2 n=>?_;have(x,H2,c,p,a,j,ex,g,m):=n;subst ex;obtain rfl:u=fR a:=p;show J0 f c g q λv d=>(.bl j.isSome,H2,d,rfl,m)
variable{c5:Pos}{tv:TE}
def CT{o:Expr}(m:X.A.units+1<cLine)(j:PE X o td)(hi:PE X i ty)(hv:PE X value tv)(l:fP value (aa (.Subscript o i c5)) pos.line X.env=pure ae):
  PS X (.Assign [.Subscript o i c5] value pos) (wG td ty tv):=by
 intro M s J H D I h;show wpAny_Assign_Subscript (thn (hv M s J H _ I h) λr s1 (v,H1,c,z,n)=>thn (j M s1 J H1 _ c n) λu s2 (x,H2,d,B,p)=>thn (hi M s2 J H2 _ d p) λG L w=>?_) l;have(y,E,e,C,a,b,ex,g,q):=w;subst ex;obtain rfl:u=fR a:=B;show J2 m e g C z λN f=>(J,b,f,q)
def J8(h:Heap)(a:gO<h.objs.size):dD P w H (h.push {cls:=.type "dict",data:=.dict #[]}) h.objs.size (.dK []):=
 (cK _,beq_eq_false_iff_ne.mpr (fN (bT a)),[],.nil,Heap.DictOf.new h)
def J9(h:Heap)(a:gO<h.objs.size):dD P w H (h.push {cls:=.type "dict",data:=.dict #[]}) h.objs.size (.dT []):=
 (cK _,beq_eq_false_iff_ne.mpr (fN (bT a)),[],.nil,_,#[],0,cY _ rfl,(rfl,rfl,rfl),rfl,rfl,fc)
def CU:TE:=λ_ H Q=>∀p,H p=ac->Q (.ref p) (upd H p (.dK []))
def Ka:TE:=λ_ H Q=>∀p,H p=ac->Q (.ref p) (upd H p (.dT []))
def Kb:PE X (.Dict [] [] pos) CU:=λM s J H Q I h=>
 wpAny_Dict_empty (.ref s.heap.objs.size,_,I.laid (λ_ _ q=>bG _ q) (aP _) (J8 s.heap I.big),rfl,h _ (I.hok.fresh (aP _)))
def Kc:PE X (.Dict [] [] pos) Ka:=λM s J H Q I h=>
 wpAny_Dict_empty (.ref s.heap.objs.size,_,I.laid (λ_ _ q=>bG _ q) (aP _) (J9 s.heap I.big),rfl,h _ (I.hok.fresh (aP _)))
structure M2(X:Cx)(o:Expr)(m:Str)(apos:Pos)(e f:Expr)(cpos:Pos):Prop where
 base:lB o m X.env (eval o X.env)=eval o X.env
 few : ((cv cpos (aR [e,f] X.env)).all (λx=>!x.1) && (ja cpos (i7 [] X.env)).all (λx=>x.1.isSome)
  && decide (([e,f]:LEx).length+([]:List Keyword).length+(if ([]:List Keyword).isEmpty then 0 else 1)<30))=ab
 line:(apos.endLine==cpos.line)=ab
 trees:cv cpos (aR [e,f] X.env)=[(ae,eval e X.env,),(ae,eval f X.env,)]
def IsD(H:Hp)(a:Addr):Prop:=(∃kvs,Rd H a (.dK kvs))\/∃kvs,Rd H a (.dT kvs)
def CV{s:ah}(I:Inv X M J H s)(d:IsD H a):
  s.TypeIs (.ref a) "dict" /\ (∀b,fR a=.ref b->∃c,s.heap.get? b=aa c/\c.dict=ac)/\(a==gO)=ae:=by
 rcases d with⟨kvs,e⟩ |⟨kvs,e⟩
 .have(_,hd,vs,_,f):=nz I.hok e;show(f.typeIs,λb q=>?_,hd);cases q;have(c,_,_,g,h,_):=f;show(c,g,h.2.1)
 .have(_,hd,B,_,f):=nB I.hok e;show(f.typeIs,λb q=>?_,hd);cases q;have(c,_,_,g,h,_):=f;show(c,g,h.2.1)
variable{d:V}
def Kd{s:ah}{o:Option V}(q:A.units+1<cLine)(I:Inv X M J H s)(g:fV H a y o)(m:aC y u)(j:aC d r)(h:∀n s',Inv X M J H s'->aC (o.getD d) n->Q n s'):
  wpAny (model X.prog X.w) A (call (.builtin "dict.get") [.ref a,u,r]) Q S5 s:=by
 rcases g with⟨kvs,k,e,i,l⟩ |⟨kvs,k,b,e,i,p,l⟩
 .subst i;have(z,hd,vs,c,f):=nz I.hok e;show call_meetsIn vJ f.typeIs PySem.F.entry_dict_get (PySem.F.args_dict_get_3 _ _ _) (meets_dict_get_default _ a (sC m) hd r) (_,f.mapOf,h _ _ (I.tok _) ?_);rw[l];show(c.val k).getD j
 .subst i;cases (m);have(z,hd,B,c,f):=nB I.hok e;show call_meetsIn vJ f.typeIs PySem.F.entry_dict_get (PySem.F.args_dict_get_3 _ _ _) (meetsH_dict_get_default _ a b hd r) (o7 q,k,B,nA I.hok p,f,h _ _ (I.tok _) ?_);rw[l];show(c.val k).getD j
def Ke(td ty c:TE):TE:=λJ H Q=>td J H λx H1=>∃a,x=.ref a/\IsD H1 a/\ty J H1 λy H2=>c J H2 λz b=>∃o,fV b a y o/\Q (o.getD z) b
variable{e f:Expr}{apos cpos:Pos}{tx:TE}
def CW{o:Expr}(v:X.A.units+1<cLine)(r:PE X o td)(p:PE X e ty)(q:PE X f tx)(m:M2 X o "get" apos e f cpos):PE X (.Call (.Attribute o "get" apos) [e,f] [] cpos) (Ke td ty tx):=by
 intro M s J H Q I h;show wpAny_Call_method m.base m.few m.line PySem.F.plainAttrs_dict vJ PySem.F.type_dict_get (thn (r M s J H _ I h) λu s1 E=>?_);have(x,H1,c,G,a,ex,d,w):=E;subst ex;obtain rfl:u=fR a:=G;have(t1,T,_):=CV c d;show(t1,T,?_);rw[m.trees]
 show rS rfl (vF (jb (thn (p M s1 J H1 _ c w) λY s2 (y,H2,j,L,B) =>
  jb (thn (q M s2 J H2 _ j B) λU s3 (z,i,l,N,ov,g,C)=>vG ?_))))
 show Kd v l g L N λw' s4 n b=>(_,i,n,b,C)
section
variable{κ:Type}[DecidableEq κ]
end
end L2
set_option maxHeartbeats 4000000
namespace L2
open List
open PySem
def wH{env:Env}(f:(Str×fQ)->List (Str×Addr)->Sem (ForInStep (List (Str×Addr))))
 (i:∀n k r,k≠fw->f (n,k,) r=pure (.yield r))
 (j:∀n r c,env.cells.lookup n=aa c->f (n,.free,) r=pure (.yield ((n,c,)::r))):
  ∀(l:List (Str×fQ)) (a:List (Str×Addr)),(∀x∈l,x.2=.free->∃c,env.cells.lookup x.1=aa c) ->
   (∀x c,a.lookup x=aa c->env.cells.lookup x=aa c) ->
   ∃cl,forIn l a f=(pure cl:Sem _)/\(∀x c,cl.lookup x=aa c->env.cells.lookup x=aa c) /\
    (∀x,((∃c,a.lookup x=aa c)\/(x,fw,)∈l)->∃c,cl.lookup x=aa c)
 | [],a,_,ha=>(a,rfl,ha,λx d=>d.elim id (λz=>nomatch z))
 |(n,k,)::l,a,hl,ha=>by
  have b:=λx d=>hl x (be _ d)
  by_cases v:k=.free
  .subst v;have(c,q):=hl _ aB rfl;have u:=q
   have h:∀x g,((n,c,)::a).lookup x=aa g->env.cells.lookup x=aa g:=λx g d=>by
    grind
   have(cl,e,m,p):=wH f i j l _ b h
   grind
  .have(cl,e,m,p):=wH f i j l a b ha
   grind
variable{scope:Scope}{env:Env}
def CY(h:∀x∈scope.names,x.2=.free->∃c,env.cells.lookup x.1=aa c):
  ∃cl,closureFor scope env=pure cl/\(∀x c,cl.lookup x=aa c->env.cells.lookup x=aa c)/\(∀x,(x,fw,)∈scope.names->∃c,cl.lookup x=aa c):=by
 have (cl,e,b,d):=wH (λx r=>(match x with
   |(name,kind)=>if (kind==fw)=ab then (do let a <- cellOf env name;pure (mY ((name,a,)::r))) else (pure (mY r):Sem _)))
  (λn k r g=>by
   have:(k==fw)=ae:=by simpa using g
   simp only[this,Bool.false_eq_true,if_false])
  (λn r c f=>by
   simp only[beq_self_eq_true,if_true,cellOf,f,pure_bind])
  scope.names [] h (λx c z=>by nomatch z)
 show(cl,?_,b,λx i=>d x (.inr i));show(congrArg _ ?_).trans ((congrArg (λt=>t >>= pure) e).trans (pure_bind _ _));rfl
nonrec abbrev E00:Value->ah->Prop:=λ_ _=>False
variable{prog:bX}{w:World}{A:b7}{R:Result->ah->Prop}{d0 iter:Expr}{dV:LEx}{pos:Pos}
section
variable{s:ah}
def Kf{a:Expr}{it q:Value}(I:Nat->ah->Prop)
 (B:∀ n s,I n s->wpAny (model prog w) A (iC it) (λr b=>match r with
   |none=>R (.ok .next) b
   | some v=>wpAny (model prog w) A (letOwnedTupleGo a it v) (λ_ d=>wpAny (model prog w) A (assign a env v) (λ_ i =>
     wpAny (model prog w) A (forIn dV ab λc r=>if r=ab then do let ok <- isTrue c env (eval c env); pure (mY ok) else pure (mY r)) (λok e =>
      if ok=ab then wpAny (model prog w) A (eval d0 env) (λx j =>
       wpAny (model prog w) A (call (.builtin "list.append") [q,x]) (λ_ l=>∃m,m<n/\I m l) (notedBy (model prog w) A env λx s'=>R (.error x) s') j) (notedBy (model prog w) A env λx s'=>R (.error x) s') e
      else ∃m,m<n/\I m e) (notedBy (model prog w) A env λx s'=>R (.error x) s') i) (notedBy (model prog w) A env λx s'=>R (.error x) s') d) (notedBy (model prog w) A env λx s'=>R (.error x) s') b) (notedBy (model prog w) A env λx s'=>R (.error x) s') s)
 (n:Nat)(h:I n s):
  hE (model prog w) A (.compLoop (.ListComp d0 [(a,iter,dV,0)] scope pos) 0 it q env) R s:=by
 show codeAny_loop rfl I (λn s C=>?_) n h;show wpAny_noted ?_;show ap (wpAny_standAt (ap (fj (B n s C) (λr b f=>?_) λ_ _ h'=>h')))
 cases r with
 |none=>show aI f
 |some v=>
  show ap (fj f (λ_ d p=>?_) λ_ _ h'=>h');show ap (fj p (λ_ i u=>ap (fj u (λok e g=>?_) λ_ _ h'=>h')) λ_ _ h'=>h')
  cases ok with
  |false=>show aI (rfl,g)
  |true=>
   show ap (ap (fj g (λx j y=>ap (fj y (λ_ l z=>aI (aI (rfl,z))) λ_ _ h'=>h')) λ_ _ h'=>h'))
end
open PySem.Spec PyProof.Rows
nonrec def Cx.comp(X:Cx)(scope:Scope)(Nc:LSt)(cl:List (Str×Addr))(S4:Addr)(ex:LAd)(b:ah)(a:Hp):Cx:=
 {X with N:=Nc,s₀:=b,H₀:=a,env:=compEnvC scope cl S4 X.env,outer:=X.stack,ex:=ex,fn:=λ_=>ae,pn:=[],xe:=E00}
def wI{env:Env}:∀{names:List (Str×fQ)} {x:Str},names.lookup x=aa .free ->
  (names.map λ(n,k,)=>if (k==fw && env.scope.kind==.function && env.kindOf n==aa .cell) then (n,lF,) else (n,k,)).lookup x=aa .cell \/
  (names.map λ(n,k,)=>if (k==fw && env.scope.kind==.function && env.kindOf n==aa .cell) then (n,lF,) else (n,k,)).lookup x=aa .free
 | [],_,h=>by simp at h
 |(n,k,)::r,x,h=>by
  have a:=@wI env r x
  grind
def wJ{env:Env}{a:fQ}(b:a=.cell\/a=.free):∀{names:List (Str×fQ)} {x:Str},
  (names.map λ(n,k,)=>if (k==fw && env.scope.kind==.function && env.kindOf n==aa .cell) then (n,lF,) else (n,k,)).lookup x=aa a ->
  (x,fw,)∈names\/(x,lF,)∈names
 | [],_,h=>by simp at h
 |(n,k,)::r,x,h=>by
  have h':List.lookup x ((if _=ab then _ else _)::_)=aa a:=h
  cases c:x==n with
  |true=>
   have e:=eq_of_beq c;subst e;split at h'
   .rename_i d
    have g:k=.free:=by
     rw[bV,bV]at d;show eq_of_beq d.1.1
    subst g;show .inl aB
   .simp only[ls,c]at h';have e:=cS h';subst e
    rcases b with z |z
    .subst z;show .inr aB
    .subst z;show .inl aB
  |false=>
   have f:(r.map λ(n,k,)=>if (k==fw && env.scope.kind==.function && env.kindOf n==aa .cell) then (n,lF,) else (n,k,)).lookup x=aa a:=by
    split at h' <;> (rw[ls,c]at h';show h')
   rcases(@wJ env a b r x) f with z |z
   .show .inl (be _ z)
   .show .inr (be _ z)
def kE(scope:Scope)(outer:List (Str×fQ))(N Nc:LSt)(k:Nat)(js:LN):Bool:=
 scope.names.all (λx=>(x.2 != .free || outer.lookup x.1==aa .cell || outer.lookup x.1==aa .free) && x.2 != .cell && (x.2 != .local || scope.names.lookup x.1==aa .local)) &&
 scope.kind==.function && Nc.length==k+js.length &&
 (bw js.length).all (λi=>match Nc[k + i]?,js[i]? with
  |some x,aa j=>N[j]?==aa x && scope.names.lookup x==aa .free
  | _,_=>ae)
structure nC(scope:Scope)(outer:List (Str×fQ))(N Nc:LSt)(k:Nat)(js:LN):Prop where
 free:∀x∈scope.names,x.2=.free->outer.lookup x.1=aa .cell\/outer.lookup x.1=aa .free
 nocell:∀x∈scope.names,x.2≠.cell
 loc:∀x∈scope.names,x.2=.local->scope.names.lookup x.1=aa .local
 kind:scope.kind=.function
 len:Nc.length=k+js.length
 at':∀i j,js[i]?=aa j->∃x,Nc[k+i]?=aa x/\N[j]?=aa x/\scope.names.lookup x=aa .free
variable{N Nc:LSt}{k:Nat}{js:LN}
def nC.of{outer:List (Str×fQ)}(h:kE scope outer N Nc k js=ab):nC scope outer N Nc k js:=by
 unfold kE at h;rw[bV,bV,bV]at h;have(((b,d),f),c):=h;rw[all_eq_true]at b c;show(λx a e=>?_,λx a e=>?_,λx a e=>?_,eq_of_beq d,eq_of_beq f,λi j e=>?_)
 .have:=b x a;simp only[bV,iZ,bne_iff_ne,beq_iff_eq]at this
  rcases this.1.1 with(z |z) |z
  .show absurd e z
  .show .inl z
  .show .inr z
 .have:=b x a;simp only[bV,bne_iff_ne]at this;show this.1.2 e
 .have:=b x a;simp only[bV,iZ,bne_iff_ne,beq_iff_eq]at this
  rcases this.2 with z |z
  .show absurd e z
  .show z
 .have hi:=(cA.mp e).1;have:=c i (dW.mpr hi);rw[e]at this
  cases q:Nc[k+i]? with
  |none=>simp only[q]at this;nomatch this
  |some x=>
   rw[q]at this;simp only[bV,beq_iff_eq]at this;show(x,rfl,this.1,this.2)
def iL(k:Nat)(js:LN)(J:St):St:=lq k ac++js.map λj=>(J[j]?).getD ac
def PTs(X:Cx)(dV:LEx)(t:TT):Prop:=
 ∀(M:PNS) (s:ah) (J:St) (H:Hp) (Q:Bool->Hp->Prop),Inv X M J H s->t J H Q ->
  wpAny (model X.prog X.w) X.A (forIn dV ab λc r=>if r=ab then do let ok <- isTrue c X.env (eval c X.env);pure (mY ok) else pure (mY r)) (TP X M J Q) X.xe s
def Kg:TT:=λ_ H Q=>Q ab H
variable{X:Cx}
def Kh:PTs X [] Kg:=λ_ _ _ H _ I h=>wpAny_tests_nil (H,I,h)
def Ki{c:Expr}{t:TT}(h:PT X c t):PTs X [c] t:=λM s J H Q I q=>wpAny_tests_one (h M s J H Q I q)
def wK(S2:It)(g:TG)(tt:TT)(te:TE)(h:St)(j:Hp)(Q:VK):Prop:=
 ∃W:Nat->Nat->LVv->St->Hp->Prop,(∃m,W 0 m [] h j)/\∀i m c σ' H',W i m c σ' H' ->
  (S2.stop i H'/\c.length<=aT/\∀D,j D=ac->H' D=ac->Q (.ref D) (upd H' D (.lst c))) \/
  (S2.go i H'/\c.length<=aT/\∃ N : LVv->St->Hp->Prop,(∀ e f d,N e f d->∃ n,n < m/\W (i + 1) n e f d) /\
   ∀x d,S2.yld i H' x d->g x σ' d λa p=>tt a p λb l=>if b=ab then te a l λy q=>N (c++[y]) a q else N c a l)
def nE(k:Nat)(js:LN)(b:TI)(g:TG)(tt:TT)(te:TE):TE:=λJ H Q=>b J H λS2 a=>wK S2 g tt te (iL k js J) a Q
nonrec def Cx.to(X:Cx)(pn:PNS)(xe:PRS):Cx:={X with pn:=pn,xe:=xe}
variable{Y:Cx}{xe:PRS}{M:PNS}{J:St}{H:Hp}
def CZ{s:ah}(I:Inv Y M J H s):Inv {Y with xe:=xe} M J H s:=
 ((I.ok.mod,I.ok.kind,I.ok.glob,I.ok.blt,I.ok.above,I.ok.inj,I.ok.has,I.ok.cab,I.ok.hd,I.ok.frames,I.ok.stk,I.ok.exf,I.ok.bs,I.ok.bsz,I.ok.noex,I.ok.exfs,I.ok.funs,I.ok.frf),I.os,I.bare,I.base,I.loc,I.cell,I.free,I.freeC,I.pin,I.hok,I.len)
def C0{s:ah}(I:Inv {Y with xe:=xe} M J H s):Inv Y M J H s:=
 ((I.ok.mod,I.ok.kind,I.ok.glob,I.ok.blt,I.ok.above,I.ok.inj,I.ok.has,I.ok.cab,I.ok.hd,I.ok.frames,I.ok.stk,I.ok.exf,I.ok.bs,I.ok.bsz,I.ok.noex,I.ok.exfs,I.ok.funs,I.ok.frf),I.os,I.bare,I.base,I.loc,I.cell,I.free,I.freeC,I.pin,I.hok,I.len)
variable{e:Expr}{t:TE}
def PE.to0(h:PE {Y with pn:=[],xe:=E00} e t):PE {Y with pn:=[],xe:=xe} e t:=λM s J H Q I q=>
 fj (h M s J H Q (C0 I) q) (λu s' (v,H',a,r,b)=>(v,H',CZ a,r,b)) λ_ _ z=>z.elim
nonrec def jf(us:LVa)(n:Nat):Obj:={cls:=.type "list",data:=.seq us.toArray n}
variable{tg:Expr}{g:TG}{tt:TT}{te:TE}{H2:Hp}{s2:ah}{it:Addr}{fp:LAd}{tn:Nat->Heap->Prop}{S2:It}{cl:List (Str×Addr)}{Q:VK}{RR:Value->Addr->Result->ah->Prop}{S5:PRS}
def Kj{PX:Cx->Prop}
 (hc:X.calm=ab)(ck:nC scope X.env.scope.names X.N Nc k js)
 (hg:∀cl S4 ex H G,PG (X.comp scope Nc cl S4 ex H G) tg g)(ht:∀cl S4 ex H G,PTs (X.comp scope Nc cl S4 ex H G) dV tt)(he:∀cl S4 ex H G xe,PX ((X.comp scope Nc cl S4 ex H G).to [] xe)->PE ((X.comp scope Nc cl S4 ex H G).to [] xe) d0 te)
 (a1:∀x c,cl.lookup x=aa c->X.env.cells.lookup x=aa c)(a2:∀x,(x,fw,)∈scope.names->∃c,cl.lookup x=aa c)
 (E:Inv X M J H2 s2)(T:kz X.prog X.w X.K tg S2 fp it tn)(st2:tn 0 s2.heap)(f2:∀b∈fp,gQ X M H2 b)(hW:wK S2 g tt te (iL k js J) H2 Q)
 (hRR:∀(D S4:Addr) (s':ah) (H':Hp),Inv X M J H' s'->(∃m,s'.heap.Ns S4 m)->gQ X M H' S4->Q (.ref D) H'->RR (.ref D) S4 (.ok .next) s')
 (hPX:∀D S4,s2.heap.objs.size=D->D<S4->(∀b∈frs X.stack,b<D)->PX ((X.comp scope Nc cl S4 fp s2 H2).to [] (notedBy (model X.prog X.w) X.A (compEnvC scope cl S4 X.env) λx s'=>RR (.ref D) S4 (.error x) s'))):
  wpAny (model X.prog X.w) X.A (newList []) (λacc s₃=>wpAny (model X.prog X.w) X.A (newFunctionEnv scope X.env.globals cl [] X.env.qual ac .none (aa X.env)) (λcenv s₄ =>
   hE (model X.prog X.w) X.A (.compStart (.ListComp d0 [(tg,iter,dV,0)] scope pos) 0 (.ref it) acc {cenv with scope:=relabel scope X.env}) (RR acc cenv.locals) s₄) S5 s₃) S5 s2:=by
 have(W,(m0,w0),turn):=hW;show jA (wpAny_newFunctionEnv ck.nocell (by intro y hy;simp at hy) (λh₁ C h=>?_) ck.kind);dsimp only at C h ⊢;generalize hP:s2.heap.push {cls:=.type "list",dict:=ac,data:=.seq ([]:LVa).toArray}=P at C h ⊢;generalize hD:s2.heap.objs.size=D at hP C h ⊢;have hCs:P.objs.size=D+1:=by rw[<- hP,iE,hD]
 generalize hC:P.objs.size=S4 at hCs C h ⊢;have U:D<S4:=by rw[hCs];show cR _
 have hDC:D≠S4:=bT U;have below:∀b o,s2.heap.get? b=aa o->b<D:=λb o e=>hD▸bx e
 have old:∀b o,s2.heap.get? b=aa o->h₁.get? b=aa o:=λb o e=>by
  have f:=below b o e;show h.extBut b o (bT (m5 f U)) (bG _ (hP▸bG _ e))
 have hDo:h₁.get? D=aa (jf [] 0):=h.extBut _ _ hDC (bG _ (by rw[<- hP,<- hD];show cY _ rfl));have Hn:∀b,D<=b->H2 b=ac:=λb f=>E.hok.fresh (by lia);have fpo:∀b∈fp,b<D:=λb f=>by have(o,e,_):=T.obj 0 _ st2 b f;show below b o e
 have clo:∀x c,cl.lookup x=aa c->c<D:=λx c e=>by
  have(v,o,ho,_):=E.cell x c (a1 x c e);show below c o ho
 have stko:∀b∈frs X.stack,b<D:=λb f=>by
  have(_,o,ho,_):=E.stack.mem f;show below b o ho
 let Y:Cx:=X.comp scope Nc cl S4 fp s2 H2
 have yk:Y.Ok:=by
  show(E.ok.mod,ck.kind,E.ok.glob,E.ok.blt,?_,?_,?_,?_,E.ok.hd,E.ok.frames,.inl rfl,?_,E.bs,?_,?_,?_,E.stack,E.stkFree)
  .change s2.heap.objs.size<=S4;lia
  .show λx y c h1 h2=>E.ok.inj x y c (a1 x c h1) (a1 y c h2)
  .intro x hx
   have:(x,fw,)∈scope.names\/(x,lF,)∈scope.names:=by
    rcases hx with hx |hx
    .show wJ (.inl rfl) hx
    .show wJ (.inr rfl) hx
   rcases this with z |z
   .show a2 x z
   .show absurd rfl (ck.nocell _ z)
  .show λx c z=>nomatch z
  .intro b f;show(?_,λx c e=>?_)
   .show bT (m5 (fpo b f) U)
   .show(f2 b f).2.2.2.2.1 x c (a1 x c e)
  .show cJ E.ok.bsz E.sz
  .intro b o e f
   rcases(f2 b f).2.2.2.1 with z |z
   .show E.ok.noex b o e z
   .show absurd (eR (bx e) (cJ E.ok.bsz z)) (gN _)
  .intro b f z
   rcases aW.mp (E.stkSub b z)with e |e
   .show(f2 b f).2.1 e
   .show(f2 b f).2.2.1 e
 have I4:Inv Y [(D,jf [] 0,)] (iL k js J) H2 {s2 with heap:=h₁,toks:=s2.toks+([]:List (Str×Value)).length}:=by
  show(yk,rfl,E.bare,Un.kept old,(_,C,λi x v e1 I e3=>?_),λx c e=>?_,Hn S4 (by lia),λx c e=>E.freeC x c (a1 x c e),λp L=>?_,E.hok.kept old,?_)
  .have e1:Nc[i]?=aa x:=e1;unfold iL at I
   have hik:k<=i:=by
    rcases Nat.lt_or_ge i k with z |z
    .rw[j6 (by simpa using z),vq]at I;simp[z]at I
    .show z
   rw[lg (by simpa using hik),bN]at I;simp only[rn]at I
   cases q:js[i-k]? with
   |none=>rw[q]at I;cases I
   |some j=>
    rw[q]at I;have(x',q1,q2,q3):=ck.at' _ _ q;rw[show k+(i-k)=i by lia,e1]at q1;cases q1;have I:(J[j]?).getD ac=aa v:=cS I
    have e2':J[j]?=aa (aa v):=by
     cases z:J[j]? with
     |none=>rw[z]at I;nomatch I
     |some y=>rw[z]at I;rw[show y=aa v from I]
    have hmem:(x,fw,)∈scope.names:=by
     have:∀l:List (Str×fQ),l.lookup x=aa .free->(x,fw,)∈l:=by
      intro l
      induction l with
      |nil=>intro z;nomatch z
      |cons a l ih=>
       intro z;have(n,kk):=a;simp only[ls]at z
       cases f:x==n with
       |true=>
        rw[f]at z;cases z
        rw[eq_of_beq f];show aB
       |false=>rw[f]at z;show be _ (ih z)
     show this _ q3
    have hout:X.env.kindOf x=aa .cell\/X.env.kindOf x=aa .free:=ck.free _ hmem rfl;have(m,hn,hl):=E.loc
    have vis:Vis X.env.scope x:=by
     rcases hout with z |z
     .show .inr (.inl z)
     .show .inr (.inr z)
    have(u,r,l):=hl j x v q2 e2' vis;show(u,r,.inr (wI q3,?_))
    rcases l with⟨z,_⟩ |⟨_,c,hcl,hcell⟩
    .rcases hout with y |y <;> (rw[y]at z;nomatch z)
    .have(c',hc'):=a2 x hmem;have:=a1 x c' hc';rw[hcl]at this;cases this;show(c,hc',hcell.keeps old)
  .have(v,z):=E.cell x c (a1 x c e);show(v,z.keeps old)
  .have L:p∈[(D,jf [] 0,)]:=(bI.mp L).elim (λz=>nomatch (show p∈([]:PNS)from z)) id;have L:=cB.mp L;subst L;show⟨hDo,Hn D (aP _),hDC,λz=>?_,λv z=>by nomatch z⟩;show absurd (stko D z) (gN _)
  .change(iL k js J).length=Nc.length;rw[ck.len];simp[iL]
 have st1:=T.keep 0 _ _ st2 λb _ o e=>old b o e
 have fpY:∀{H':Hp} {p:PNS},(∀q∈p,q.1=D)->(∀b∈fp,H' b=ac)->∀b∈fp,gQ Y p H' b:=λ{H' p} L hn b f=>by
  show(hn b f,(yk.exf b f).1,yk.exfs b f,.inl f,λx c e=>(yk.exf b f).2 x c e,λq hq=>?_);rw[L q hq];show oU (fpo b f)
 let xe:Value->ah->Prop:=notedBy (model X.prog X.w) X.A (compEnvC scope cl S4 X.env) λx s'=>RR (.ref D) S4 (.error x) s'
 have L:=hPX D S4 hD U stko
 have loop:hE (model X.prog X.w) X.A (.compLoop (.ListComp d0 [(tg,iter,dV,0)] scope pos) 0 (.ref it) (.ref D) (compEnvC scope cl S4 X.env)) (RR (.ref D) S4) {s2 with heap:=h₁,toks:=s2.toks+([]:List (Str×Value)).length}:=by
  show Kf (λn s'=>∃i ys us nn σ' H',Inv Y [(D,jf us nn,)] σ' H' s'/\tn i s'.heap/\(∀b∈fp,H' b=ac)/\aJ ys us/\W i n ys σ' H') ?_ m0
   (0,[],[],0,iL k js J,H2,I4,st1,λb f=>(f2 b f).1,.nil,w0)
  rintro n s3 ⟨i,ys,us,nn,σ3,H3,I3,st3,fr3,rv,w3⟩
  have one:∀q∈[(D,jf us nn,)],q.1=D:=λq hq=>by
   have:q=(D,jf us nn,):=by simpa using hq
   rw[this]
  rcases turn i n ys σ3 H3 w3 with⟨stop,hz,qn⟩ |⟨go,hz,N,hN,step⟩
  .show thn (T.done Y rfl rfl rfl hc i _ s3 σ3 H3 _ I3 (fpY one fr3) st3 stop) λr s4 (hr,I5)=>?_;subst hr;have(pD,nD,_,_,_):=I5.pin (D,jf us nn,) (by simp);have bs:=I5.base;have h2D:∀b o,H2 b=aa o->b≠D:=λb o e z=>by rw[z,Hn D (aP _)]at e;nomatch e
   have I6:Inv X M J (upd H3 D (.lst ys)) s4:=by
    show E.call' (ch:=fp) I5.os (bs.keep,bs.slot,λb o e n hx=>?_,bs.there,λb B e=>?_,λb o u e=>?_,λb ps e=>?_) (λb u e=>?_) I5.bare λb f=>?_
    .rw[aK (bT (below b o e))];show bs.free b o e n hx
    .rw[aK (h2D b _ e)];show bs.tups b B e
    .rw[aK (h2D b _ e)];show bs.frzs b o u e
    .rw[aK (h2D b _ e)];show bs.tbls b ps e
    .by_cases f:b=D
     .subst f;rw[a9]at e;cases e;show(hz,us,nn,rv,pD)
     .rw[aK f]at e;show(I5.hok b u e).stay (λc v _ q=>q) (λc q=>by rw[aK (eU q nD)];show q) λc B q=>by rw[aK (eU q nD)];show q
    .have(_,f1,_,f3,f4,f5):=f2 b f;show(f3,f1,f4,f5)
   have(m,hn,_):=I5.loc;show hRR D S4 s4 _ I6 (m,hn) (E.fpOk (by lia) ?_) (qn D (Hn D (aP _)) nD);rw[aK hDC.symm];show I5.free
  .show thn (T.item Y rfl rfl rfl hc i _ s3 σ3 H3 _ I3 (fpY one fr3) st3 go) λr s4 q_=>?_;have(u,hr,h4):=q_;subst hr;show thn h4 λ_ s5 q_=>?_;have(x,H5,I5,r5,y5,st5,fr5):=q_;have I5':=I5.pinned (fpY one fr5) (T.obj _ _ st5);show fj (hg cl S4 fp s2 H2 _ s5 σ3 H5 x u _ I5' r5 (step x H5 y5)) (λ_ s6 (σ6,H6,I6,q6)=>?_) λ_ _ z=>z.elim;show fj (ht cl S4 fp s2 H2 _ s6 σ6 H6 _ I6 q6) (λb s7 (H7,I7,q7)=>?_) λ_ _ z=>z.elim
   have kp:∀{H8:Hp} {s8:ah},Inv Y ([(D,jf us nn,)]++sd fp s5.heap) σ6 H8 s8->tn (i+1) s8.heap/\(∀b∈fp,H8 b=ac):=λ{H8 s8} I8=>by
    show(T.keep _ _ _ st5 λb f o e=>(I8.pin (b,o,) (cV _ (cV _ (se f e)))).1,λb f=>?_);have(o,e,d):=T.obj _ _ st5 b f;show(I8.pin (b,o,) (cV _ (cV _ (se f e)))).2.1
   cases b with
   |false=>
    have(m',hm,w7):=hN _ _ _ q7;have(st7,fr7):=kp I7
    show(m',hm,i+1,ys,us,nn,σ6,H7,I7.unpinned,st7,fr7,rv,w7)
   |true=>
    show thn (he cl S4 fp s2 H2 xe L _ s7 σ6 H7 _ (CZ I7) q7) λuy s8 q_=>?_;have(y,H8,I8',r8,q8):=q_;have I8:=C0 I8';have(m',hm,w8):=hN _ _ _ q8;have(st8,fr8):=kp I8;have(pD,nD,pC,pF,_):=I8.pin (D,jf us nn,) (by simp);have hl:=rv.length
    show wpAny_list_append_plain (items:=us.toArray) (nn,pD) (λh' hl' sb=>?_) (by simp only[size_toArray] <;> lia)
    have(n',e'):=hl';have I8n:Inv Y [] σ6 H8 s8:=I8.pins_of (λ_ z=>nomatch z);have I9:=I8n.turned (t':=s8.toks) (it:=D) (λb o f e=>(sb.2 b f).trans e) nD pC (.inr (by change s2.heap.objs.size<=D;lia)) (λx c e=>bT (clo x c e)) (λp L=>nomatch L);show(m',hm,i+1,ys++[y],us++[uy],n',σ6,H8,I9.pins_of (λp L=>?_),?_,fr8,rv.append (.cons r8 .nil),w8)
    .have L:p=(D,jf (us++[uy]) n',):=by simpa using L
     subst L;show⟨?_,nD,pC,pF,λv z=>by nomatch z⟩;have I:=e';rw[I];simp
    .show T.keep _ _ _ st8 λb f o e=>(sb.2 b (bT (fpo b f))).trans e
 show codeAny_compStart_list loop (T.self X.A 0 _ _ _ st1 loop)
def C1
 (v:X.calm=ab)(r:nC scope X.env.scope.names X.N Nc k js)
 (z:∀cl S4 ex d a,PG (X.comp scope Nc cl S4 ex d a) tg g)(B:∀cl S4 ex d a,PTs (X.comp scope Nc cl S4 ex d a) dV tt)(y:∀cl S4 ex d a,PE (X.comp scope Nc cl S4 ex d a) d0 te)
 (p:∀x c,cl.lookup x=aa c->X.env.cells.lookup x=aa c)(q:∀x,(x,fw,)∈scope.names->∃c,cl.lookup x=aa c)
 (n:Inv X M J H2 s2)(T:kz X.prog X.w X.K tg S2 fp it tn)(l:tn 0 s2.heap)(f2:∀b∈fp,gQ X M H2 b)(u:wK S2 g tt te (iL k js J) H2 Q)
 (j:∀(D S4:Addr) (s':ah) (H':Hp),Inv X M J H' s'->(∃m,s'.heap.Ns S4 m)->gQ X M H' S4->Q (.ref D) H'->RR (.ref D) S4 (.ok .next) s'):
  wpAny (model X.prog X.w) X.A (newList []) (λf h=>wpAny (model X.prog X.w) X.A (newFunctionEnv scope X.env.globals cl [] X.env.qual ac .none (aa X.env)) (λe i =>
   hE (model X.prog X.w) X.A (.compStart (.ListComp d0 [(tg,iter,dV,0)] scope pos) 0 (.ref it) f {e with scope:=relabel scope X.env}) (RR f e.locals) i) S5 h) S5 s2:=
 Kj (PX:=λ_=>True) v r z B (λcl S4 ex d a xe _=>PE.to0 (y cl S4 ex d a)) p q n T l f2 u j λ_ _ _ _ _=>trivial
variable{wi:TI}
def Kk(k:Nat)(js:LN)(Nc:LSt)(L:X.calm=ab)(hi:PI X tg iter wi)
 (Y:∀cl S4 ex c a,PG (X.comp scope Nc cl S4 ex c a) tg g)(ht:∀cl S4 ex c a,PTs (X.comp scope Nc cl S4 ex c a) dV tt)(U:∀cl S4 ex c a,PE (X.comp scope Nc cl S4 ex c a) d0 te)
 (d:autoParam (kE scope X.env.scope.names X.N Nc k js=ab) Zb)(hs:autoParam (∀x,kc iter X.env x=pure x) Zd):
  PE X (.ListComp d0 [(tg,iter,dV,0)] scope pos) (nE k js wi g tt te):=by
 intro M s J H Q I h;have d:=nC.of d;have(cl,f,p,r):=CY λx hx e=>I.ok.has x.1 (d.free x hx e);show wpAny_comprehension_free rfl hs f d.kind d.loc (thn (hi M s J H _ I h) λv s1 B=>thn B λitv s2 C=>?_);have(it,fp,tn,S2,H2,e,n,T,j,f2,E):=C;subst e;show C1 L d Y ht U p r n T j f2 E λD S4 s' H' l (m,hn) A q=>?_;have(u,f1,_,w,y,z):=A;show(m,hn,λh' i=>(.ref D,H',l.turned (λb o G e=>(i.2 b G).trans e) u f1 w y z,rfl,q))
variable{i:Nat}{x:Str}{c5 ej:Pos}
def wL(k:Nat)(js:LN)(Nc:LSt)(hN:X.N.Nodup)(p:X.N[i]?=aa x)(w:Loc X.env.scope x)(hc:X.calm=ab)(hi:PI X tg iter wi)
 (hg:∀cl S4 ex d c,PG (X.comp scope Nc cl S4 ex d c) tg g)(ht:∀cl S4 ex d c,PTs (X.comp scope Nc cl S4 ex d c) dV tt)(he:∀cl S4 ex d c,PE (X.comp scope Nc cl S4 ex d c) d0 te)
 (u:autoParam (fP (.ListComp d0 [(tg,iter,dV,0)] scope pos) (aa (.Name x c5)) ej.line X.env=pure ab) Zb)
 (f:autoParam (kE scope X.env.scope.names X.N Nc k js=ab) Zb)(hs:autoParam (∀x,kc iter X.env x=pure x) Zd)
 (hf:autoParam (LcF X x) Zh):
  PS X (.Assign [.Name x c5] (.ListComp d0 [(tg,iter,dV,0)] scope pos) ej) (hV (nE k js wi g tt te) (gt i)):=by
 intro M s J H D I h;have f:=nC.of f;rw[exec_Assign_Name_used _ _ _ _ u];show ap (wpAny_standAt (ap ?_));have(cl,n,G,L):=CY λx w e=>I.ok.has x.1 (f.free x w e)
 show ap (fj (wpAny_comprehension_free rfl hs n f.kind f.loc
  (thn (hi M s J H _ I h) λv s1 h1=>thn h1 λitv s2 h2=>?_)) (λ_ s' hq=>aI (aI hq)) λ_ _ e=>e)
 have(it,fp,tn,S2,H2,e,E,T,y,f2,hW):=h2;subst e;show C1 hc f hg ht he G L E T y f2 hW λB S4 s' H' C (m,hn) fC q=>?_;have(Q,f1,U,Y,A,f5):=fC;show wpAny_assign_Name (Ca (v:=.ref B) C hN p w rfl (λs'' j (a,sb,ha)=>?_) hf)
 have l:S4≠a:=by
  rcases ha with z |z
  .rw[z];show f1
  .show(A x a z).symm
 show(m,hn.sameBut sb l,λh' r=>(_,H',j.turned (λb o hb e=>(r.2 b hb).trans e) Q f1 Y A f5,q))
def C2:OpR X (cu .Is) (λx y H Q=>∃b,y=.bl b/\(x=.non\/∃c,x=.bl c)/\Q (.bl (decide (x=.bl b))) H):=by
 intro M s J H x y v u Q I a e h;have(b,rfl,d,q):=h;subst e
 rcases d with rfl |⟨c,rfl⟩
 .subst a
  show wpAny_is_plain rfl (bQ I q (by cases b <;> rfl))
 .subst a
  show wpAny_is_plain rfl (bQ I q (by cases b <;> cases c <;> rfl))
def C3:OpR X (cu .IsNot) (λx y H Q=>∃b,y=.bl b/\(x=.non\/∃c,x=.bl c)/\Q (.bl (!decide (x=.bl b))) H):=by
 intro M s J H x y v u Q I a e h;have(b,rfl,d,q):=h;subst e
 rcases d with rfl |⟨c,rfl⟩
 .subst a
  show wpAny_isNot_plain rfl (bQ I q (by cases b <;> rfl))
 .subst a
  show wpAny_isNot_plain rfl (bQ I q (by cases b <;> cases c <;> rfl))
def Kl(a:X.calm=ab):gR X (.builtin "sum") (λB H Q=>∃(p:Addr) (ns:LI0),B=[.ref p]/\SqL X.K H p (ns.map V.int)/\Q (.int ns.sum) H):=by
 intro M s J H B us Q I r h;have(p,ns,rfl,c,q):=h;have(u,rfl,g):=lN r;subst g;have(L,f,d,hz):=I.list c;have hi:=JB f;have(B,e):=hi.allInts.items;show sum_intListG (I.ok.hd a) (by rw[<- e];show d.isList) λh' i t' b=>?_
 have es:preSum (numAt B) B.size=ns.sum:=by
  rw[preSum_eq,take_of_length_le (by simp),<- nums_intItems,<- e,hi.numsOf]
 rw[es];show(.int ns.sum,H,I.kept b,(_,rfl),q)
def Km:gR X (.builtin "isinstance") (λB H Q=>∃x T t b,B=[x,.ty T]/\gx X.K H x t/\W.kitOne X.K t (.type T)=aa b/\Q (.bl b) H):=by
 intro M s J H B us Q I r h;have(x,T,t,b,rfl,ty,e,q):=h;have(u,f,rfl,c,a):=Jd r;cases (a);show Jo I c ty e λd=>(.bl b,H,I.tok d,rfl,q)
variable{B:LVv}
def aJ.at'{us:LVa}{u:Value}(r:aJ B us)(e:us[i]?=aa u):∃x,B[i]?=aa x/\aC x u:=by
 have c:=r.length;have hi:i<B.length:=by have:=(cA.mp e).1;lia
 show(B[i],by simp[hi],?_);have(d,a,b):=r.get (i:=i) (x:=B[i]) (by simp[hi]);rw[e]at a;cases a;show b
def nF{env:Env}{a:fQ}(b:a≠.free):∀{names:List (Str×fQ)} {x:Str},names.lookup x=aa a ->
  (names.map λ(n,k,)=>if (k==fw && env.scope.kind==.function && env.kindOf n==aa .cell) then (n,lF,) else (n,k,)).lookup x=aa a
 | [],_,h=>by simp at h
 |(n,k,)::r,x,h=>by
  have c:=@nF env a b r x
  grind
def Kn(h:Vis scope x):Vis (relabel scope env) x:=by
 rcases h with h |h |h
 .show .inl (nF (by decide) h)
 .show .inr (.inl (nF (by decide) h))
 .rcases wI h with z |z
  .show .inr (.inl z)
  .show .inr (.inr z)
variable{S4:Addr}{ex:LAd}{dd:ah}{dm:Hp}
def pvc(i:Nat)(b:autoParam (Nc[i]?=aa x) Zb)(hv:autoParam (Vis scope x) Ze)(hd:autoParam (NDb x) Zc)
 (a:autoParam (NCd x) Zc):PE (X.comp scope Nc cl S4 ex dd dm) (.Name x pos) (cL i):=nt b (Kn hv) hd a
def pgc(i:Nat)(b:autoParam (Nc.Nodup) Zn)(hi:autoParam (Nc[i]?=aa x) Zb)(a:autoParam (scope.names.lookup x=aa .local) Zb):PG (X.comp scope Nc cl S4 ex dd dm) (.Name x pos) (gt i):=
 vT b hi (.inl (nF (by decide) a)) (.inr (nF (by decide) a))
def glc(h:scope.names.lookup x=aa .globalImplicit):Gl (X.comp scope Nc cl S4 ex dd dm) x:=nF (by decide) h
variable{p:Addr}
def bE{o:HO}(h:H p=ac):aq H (upd H p o):=λb u e=>by rw[aK (eU e h)];show e
variable{K:aU}{H':Hp}{a:Addr}
def aq.tup(e:aq H H')(h:SqT K H a B):SqT K H' a B:=by
 rcases h with(h |⟨o,h⟩) |h
 .show .inl (.inl (e _ _ h))
 .show .inl (.inr (o,e _ _ h))
 .show .inr h
def nG(p:Addr)(H H':Hp):Prop:=∀b o,H b=aa o->b≠p->H' b=aa o
def nG.refl(p:Addr)(H:Hp):nG p H H:=λ_ _ h _=>h
variable{H1:Hp}
def nG.trans(a:nG p H H1)(b:nG p H1 H2):nG p H H2:=λc o h n=>b c o (a c o h n) n
def ce(p:Option Bool->Bool)(es:LOB)(L:LII):Int:=((L.filter λz=>p (es.getD z.1.toNat ac)).map (·.2)).sum
inductive Prt where
 |inn (t:Int) |out (t:Int) |least (k:Int) (L:LII) |most (k:Int) (L:LII)
def bs(l:LB0):LOB:=l.map aa
abbrev Prt.holds(rs ws:LB0):Prt->Bool
 |.inn t=>(rs.getD t.toNat ae)
 |.out t=>!(ws.getD t.toNat ae)
 |.least k L=>decide (k<=ce (·==aa ab) (bs rs) L)
 |.most k L=>decide (ce (·==aa ab) (bs ws) L<=k)
variable{h':Heap}
section
variable{s:ah}
def Inv.turnedMany{t':Nat}{ch:LAd}(I:Inv X M J H s)(k:∀b o,b∉ch->s.heap.get? b=aa o->h'.get? b=aa o)(d:∀b∈ch,gQ X M H b):Inv X M J H {s with heap:=h',toks:=t'}:=by
 show I.step (λb j=>?_) (λb o _ _ a e _=>k b o a e) (λb o _ _ a e _=>(o.slots,k b o a e)) (λ_ _ _ _ n=>n)
  (λb o a e=>(o,k b o a e)) (λ_ _ e=>e) (λ_ _ _ e=>e) (λb ps e=>(#[],by rw[e];simp)) (λm hm=>?_) (λb u e=>?_) I.bare
 .have(_,f1,_,g,h,i):=d b j;show(g,f1,h,i)
 .have(o,es,f,l,r):=hm;show(o,es,f,k _ o (λz=>(d _ z).2.1 rfl) l,r)
 .show(I.hok b u e).stay (λc v a q=>k c v (λz=>?_) q) (λ_ q=>q) λ_ _ q=>q;have hn:=(d c z).1
  rcases a with y |y
  .rw[y,e]at hn;nomatch hn
  .rw[hn]at y;nomatch y
end
def Inv.track{s:ah}{o:HO}(I:Inv X M J H s)(f:gQ X M H p)(l:dD X.prog X.w (upd H p o) s.heap p o):Inv X M J (upd H p o) s:=by
 have(g,f1,f2,h,i,j):=f;have ne:∀b u,H b=aa u->b≠p:=λb u e=>eU e g;have one:∀b:Addr,b∉[p]->b≠p:=λb a z=>a (by rw[z];simp)
 show I.step (ch:=[p]) (λb a=>?_) (λb o _ _ d e _=>e) (λb o _ _ d e _=>(o.slots,e)) (λb o d e n=>?_)
  (λb o d e=>(o,e)) (λb B e=>?_) (λb o u e=>?_) (λb ps e=>(#[],?_)) (λm hm=>hm) (λb u e=>?_) I.bare
 .have e:b=p:=by simpa using a
  subst e;show(h,f1,i,j)
 .rw[aK (one b d)];show n
 .rw[aK (ne b _ e)];show e
 .rw[aK (ne b _ e)];show e
 .rw[aK (ne b _ e),e];rfl
 .by_cases a:b=p
  .subst a;rw[a9]at e;cases e;show l
  .rw[aK a]at e;show(I.hok b u e).stay (λc v _ q=>q) (λc q=>by rw[aK (ne c _ q)];show q) λc B q=>by rw[aK (ne c _ q)];show q
def jg(p:Int->Bool)(L:LII):Int:=((L.filter λz=>p z.1).map (·.2)).sum
def nH(p:Option Bool->Bool)(es:LOB)(L:LII):ce p es L=jg (λt=>p (es.getD t.toNat ac)) L:=rfl
def Ko(p q:Int->Bool)(L:LII):jg p (L.filter λz=>q z.1)=jg (λt=>p t && q t) L:=by
 unfold jg;rw[filter_filter]
abbrev Prt.sure(es:LOB):Prt->Bool
 |.inn t=>es.getD t.toNat ac==aa ab
 |.out t=>es.getD t.toNat ac==aa ae
 |.least k L=>decide (k<=ce (·==aa ab) es L)
 |.most k L=>decide (ce (λe=>!(e==aa ae)) es L<=k)
abbrev Prt.lost(es:LOB)(ws:LB0):Prt->Bool
 |.inn t=>(es.getD t.toNat ac==aa ae) || ws.getD t.toNat ae
 |.out t=>es.getD t.toNat ac==aa ab
 |.least k L=>decide (jg (λt=>!(es.getD t.toNat ac==aa ae) && !(ws.getD t.toNat ae)) L<k)
 |.most k L=>decide (k<ce (·==aa ab) es L)
inductive D where
 |non
 |bl (b:Bool)
 |int (i:Int)
 |str (x:Str)
 |lst (B:List D)
 |tup (B:List D)
 |kl (B:List D)
 |kt (B:List D)
 |dic (ks:List Key) (B:List D)
 |ins (c:Str) (ns:LSt) (B:List D)
 |kd (ks:List Key) (B:List D)
 |dT (ks:List (List Key)) (B:List D)
 deriving Inhabited
nonrec abbrev OD:=Option D
nonrec abbrev LD:=List D
nonrec abbrev OLD:=Option LD
set_option genInjectivity false in
structure Gc where
 K:aU
 cl:Str->Addr
mutual
def Rep(G:Gc)(H:Hp):D->V->Prop
 |.non,v=>v=.non
 |.bl b,v=>v=.bl b
 |.int i,v=>v=.int i
 |.str x,v=>v=.str x
 |.lst E,v=>∃a vs,v=.ref a/\H a=aa (.lst vs)/\ak G H E vs
 |.tup E,v=>∃a vs,v=.ref a/\H a=aa (.tup vs)/\ak G H E vs
 |.kl E,v=>∃a vs,v=.ref a/\SqL G.K H a vs/\ak G H E vs
 |.kt E,v=>∃a vs,v=.ref a/\SqT G.K H a vs/\ak G H E vs
 |.dic ks E,v=>∃a vs,v=.ref a/\H a=aa (.dK (ks.zip vs))/\ks.length=vs.length/\ak G H E vs
 |.ins c ns E,v=>∃a dx vs,v=.ref a/\H a=aa (.ins (G.cl c) dx (ns.zip vs))/\ns.length=vs.length/\ak G H E vs
 |.kd ks E,v=>∃a od vs,v=.ref a/\H a=aa (.frz od (.dK (ks.zip vs)))/\ks.length=vs.length/\ak G H E vs
 |.dT ks E,v=>∃a vs,v=.ref a/\H a=aa (.dT (ks.zip vs))/\ks.length=vs.length/\ak G H E vs
def ak(G:Gc)(H:Hp):LD->LVv->Prop
 | [],vs=>vs=[]
 |d::E,vs=>∃v r,vs=v::r/\Rep G H d v/\ak G H E r
end
mutual
theorem Rep.upM(s:aq H H'):∀(d:D) (v:V),Rep G H d v->Rep G H' d v
 |.non,_,h=>h
 |.bl _,_,h=>h
 |.int _,_,h=>h
 |.str _,_,h=>h
 |.lst E,_,h_=>by have(a,vs,e,q,r):=h_;show(a,vs,e,s _ _ q,ak.upM s E vs r)
 |.tup E,_,h_=>by have(a,vs,e,q,r):=h_;show(a,vs,e,s _ _ q,ak.upM s E vs r)
 |.kl E,_,h_=>by have(a,vs,e,q,r):=h_;show(a,vs,e,s.seq q,ak.upM s E vs r)
 |.kt E,_,h_=>by have(a,vs,e,q,r):=h_;show(a,vs,e,s.tup q,ak.upM s E vs r)
 |.dic _ E,_,h_=>by have(a,vs,e,q,l,r):=h_;show(a,vs,e,s _ _ q,l,ak.upM s E vs r)
 |.ins _ _ E,_,h_=>by have(a,dx,vs,e,q,l,r):=h_;show(a,dx,vs,e,s _ _ q,l,ak.upM s E vs r)
 |.kd _ E,_,h_=>by have(a,od,vs,e,q,l,r):=h_;show(a,od,vs,e,s _ _ q,l,ak.upM s E vs r)
 |.dT _ E,_,h_=>by have(a,vs,e,q,l,r):=h_;show(a,vs,e,s _ _ q,l,ak.upM s E vs r)
theorem ak.upM(s:aq H H'):∀(E:LD) (vs:LVv),ak G H E vs->ak G H' E vs
 | [],_,h=>h
 |d::E,_,h_=>by have(v,r,e,a,b):=h_;show(v,r,e,Rep.upM s d v a,ak.upM s E r b)
end
variable{G:Gc}{d:D}{v:V}
def Rep.up(r:Rep G H d v)(s:aq H H'):Rep G H' d v:=Rep.upM s d v r
variable{E:LD}{vs:LVv}
def ak.up(r:ak G H E vs)(s:aq H H'):ak G H' E vs:=ak.upM s E vs r
def ak.nil:ak G H [] []:=rfl
def ak.cons(h:Rep G H d v)(t:ak G H E vs):ak G H (d::E) (v::vs):=(v,vs,rfl,h,t)
def ak.length:∀{E:LD} {vs:LVv},ak G H E vs->E.length=vs.length
 | [],_,h=>by cases (h);rfl
 |d::E,_,(v,r,e,_,h)=>by subst e;simp[ak.length h]
def ak.append:∀{E es:LD} {vs us:LVv},ak G H E vs->ak G H es us->ak G H (E++es) (vs++us)
 | [],_,_,_,h,t=>by cases (h);show t
 |d::E,_,_,_,(v,r,e,h1,h2),t=>by subst e;show(v,r++_,rfl,h1,ak.append h2 t)
def ak.get:∀{E:LD} {vs:LVv} {i:Nat} {d:D},ak G H E vs->E[i]?=aa d->∃v,vs[i]?=aa v/\Rep G H d v
 | [],_,_,_,_,e=>by simp at e
 |d::E,_,0,_,(v,r,e,h1,_),e'=>by subst e;simp at e';subst e';show(v,rfl,h1)
 |d::E,_,i+1,d',q4_,e'=>by
  have(v,r,e,_,c):=q4_;subst e;have(u,a,b):=ak.get c (by simpa using e');show(u,by simpa using a,b)
def ak.get':∀{E:LD} {vs:LVv} {i:Nat} {v:V},ak G H E vs->vs[i]?=aa v->∃d,E[i]?=aa d/\Rep G H d v:=λ{E vs i v} h e=>by
 have c:=h.length;have hi:i<E.length:=by have:=(cA.mp e).1;lia
 have(u,a,b):=h.get (i:=i) (d:=E[i]) (by simp[hi]);rw[e]at a;cases a;show(E[i],by simp[hi],b)
def ak.ints:∀(ns:LI0),ak G H (ns.map D.int) (ns.map V.int)
 | []=>rfl
 |n::ns=>(_,_,rfl,rfl,ak.ints ns)
def ak.take:∀{E:LD} {vs:LVv} (n:Nat),ak G H E vs->ak G H (E.take n) (vs.take n)
 | _,_,0,_=>rfl
 | [],_,n+1,h=>by cases (h);rfl
 |d::E,_,n+1,(v,r,e,h1,h2)=>by subst e;show(v,r.take n,rfl,h1,ak.take n h2)
def ak.drop:∀{E:LD} {vs:LVv} (n:Nat),ak G H E vs->ak G H (E.drop n) (vs.drop n)
 | _,_,0,h=>h
 | [],_,n+1,h=>by cases (h);rfl
 |d::E,_,n+1,(v,r,e,h1,h2)=>by subst e;show ak.drop n h2
def ak.set:∀{E:LD} {vs:LVv} (i:Nat) {d:D} {v:V},ak G H E vs->Rep G H d v->ak G H (E.set i d) (vs.set i v)
 | [],_,_,_,_,h,_=>by cases (h);show .nil
 |e::E,_,0,_,_,(v,r,e',_,h2),q=>by subst e';show(_,r,rfl,q,h2)
 |e::E,_,i+1,_,_,(v,r,e',h1,h2),q=>by subst e';show(v,r.set i _,rfl,h1,ak.set i h2 q)
abbrev dY:HO->Bool
 |.tup _=>ab
 | _=>ae
structure Ext(Hf H C H':Hp):Prop where
 f:aq Hf C
 h:aq H H'
 s:aq C H'
 n:∀l o,H l=aa o->dY o=ae->C l=Hf l
variable{Hf:Hp}
def Ext.refl(s:aq Hf H):Ext Hf H Hf H:=(aq.refl _,aq.refl _,s,λ_ _ _ _=>rfl)
variable{cm cc:Hp}
def Ext.trans(a:Ext Hf H cm H1)(b:Ext cm H1 cc H2):Ext Hf H cc H2:=(a.f.trans b.f,a.h.trans b.h,b.s,λl o e t=>(b.n l o (a.h l o e) t).trans (a.n l o e t))
def Ext.new{o:HO}(s:aq Hf H)(h:H p=ac):Ext Hf H (upd Hf p o) (upd H p o):=
 (bE (s.free h),bE h,λb u e=>by
  by_cases a:b=p
  .subst a;rw[a9]at e ⊢;show e
  .rw[aK a]at e ⊢;show s b u e,λl u e _=>by rw[aK (eU e h)])
def Ext.tmp{o:HO}(s:aq Hf H)(h:H p=ac):Ext Hf H Hf (upd H p o):=(aq.refl _,bE h,s.trans (bE h),λ_ _ _ _=>rfl)
def Ext.grow(s:aq Hf H)(g:aq H H1):Ext Hf H Hf H1:=(aq.refl _,g,s.trans g,λ_ _ _ _=>rfl)
def Ext.fix{o:HO}(a:Ext Hf H cm H1)(hn:H p=ac)(d:cm p=ac)(g:H1 p=aa o):Ext Hf H (upd cm p o) H1:=
 (a.f.trans (bE d),a.h,λb u e=>by
  by_cases c:b=p
  .subst c;rw[a9]at e;rw[g];show e
  .rw[aK c]at e;show a.s b u e,λl u e t=>by rw[aK (eU e hn)];show a.n l u e t)
inductive O where
 |fz (d:D)
 |lst (B:List O)
 |tup (B:List O)
 |dic (ks:List Key) (B:List O)
 |ins (c:Str) (ns:LSt) (B:List O)
 |jnk (n:Nat)
 |dT (ks:List (List Key)) (B:List O)
 |at (l:Addr) (o:O)
 |any
 deriving Inhabited
mutual
def OT(G:Gc)(Hf H:Hp):O->V->LAd->Prop
 |.fz d,v,fp=>Rep G Hf d v/\fp=[]
 |.lst os,v,fp=>∃a vs fs,v=.ref a/\H a=aa (.lst vs)/\OTs G Hf H os vs fs/\fp=a::fs
 |.tup os,v,fp=>∃a vs,v=.ref a/\H a=aa (.tup vs)/\OTs G Hf H os vs fp
 |.dic ks os,v,fp=>∃a vs fs,v=.ref a/\H a=aa (.dK (ks.zip vs))/\ks.length=vs.length/\OTs G Hf H os vs fs/\fp=a::fs
 |.ins c ns os,v,fp=>∃a dx vs fs,v=.ref a/\H a=aa (.ins (G.cl c) dx (ns.zip vs))/\ns.length=vs.length/\OTs G Hf H os vs fs/\fp=a::fs
 |.jnk n,v,fp=>∃a vs,v=.ref a/\H a=aa (.lst vs)/\vs.length<=n/\fp=[a]
 |.dT ks os,v,fp=>∃a vs fs,v=.ref a/\H a=aa (.dT (ks.zip vs))/\ks.length=vs.length/\OTs G Hf H os vs fs/\fp=a::fs
 |.at l o,v,fp=>v=.ref l/\OT G Hf H o v fp
 |.any,_,fp=>fp=[]
def OTs(G:Gc)(Hf H:Hp):List O->LVv->LAd->Prop
 | [],vs,fp=>vs=[]/\fp=[]
 |o::os,vs,fp=>∃v r f1 f2,vs=v::r/\OT G Hf H o v f1/\OTs G Hf H os r f2/\fp=f1++f2
end
mutual
noncomputable def O.toD:O->D
 |.fz d=>d
 |.lst os=>.lst (O.toDs os)
 |.tup os=>.tup (O.toDs os)
 |.dic ks os=>.dic ks (O.toDs os)
 |.ins c ns os=>.ins c ns (O.toDs os)
 |.at _ o=>o.toD
 |.jnk _=>.non
 |.dT ks os=>.dT ks (O.toDs os)
 |.any=>.non
noncomputable def O.toDs:List O->LD
 | []=>[]
 |o::os=>o.toD::O.toDs os
end
mutual
noncomputable def O.kn:O->Bool
 |.fz _=>ab
 |.lst os=>O.kns os
 |.tup os=>O.kns os
 |.dic _ os=>O.kns os
 |.ins _ _ os=>O.kns os
 |.at _ o=>o.kn
 |.jnk _=>ae
 |.dT _ os=>O.kns os
 |.any=>ae
noncomputable def O.kns:List O->Bool
 | []=>ab
 |o::os=>o.kn && O.kns os
end
mutual
theorem OT.frameM(f:aq Hf C):∀(o:O) (v:V) (fp:LAd),OT G Hf H o v fp->(∀b u,H b=aa u->(dY u=ab\/b∈fp)->H' b=aa u)->OT G C H' o v fp
 |.fz d,_,_,h,_=>(h.1.up f,h.2)
 |.lst os,_,fp,h_,k=>by have(a,vs,fs,e,q,r,g):=h_;show(a,vs,fs,e,k _ _ q (.inr (by rw[g];show aB)),OTs.frameM f os vs fs r (λb u i hm=>k b u i (hm.imp_right λz=>by rw[g];show be _ z)),g)
 |.tup os,_,fp,h_,k=>by have(a,vs,e,q,r):=h_;show(a,vs,e,k _ _ q (.inl rfl),OTs.frameM f os vs fp r k)
 |.dic ks os,_,fp,h_,k=>by have(a,vs,fs,e,q,z,r,g):=h_;show(a,vs,fs,e,k _ _ q (.inr (by rw[g];show aB)),z,OTs.frameM f os vs fs r (λb u i hm=>k b u i (hm.imp_right λz=>by rw[g];show be _ z)),g)
 |.ins c ns os,_,fp,h_,k=>by have(a,dx,vs,fs,e,q,z,r,g):=h_;show(a,dx,vs,fs,e,k _ _ q (.inr (by rw[g];show aB)),z,OTs.frameM f os vs fs r (λb u i hm=>k b u i (hm.imp_right λz=>by rw[g];show be _ z)),g)
 |.jnk n,_,fp,h_,k=>by have(a,vs,e,q,z,g):=h_;show(a,vs,e,k _ _ q (.inr (by rw[g];show aB)),z,g)
 |.dT ks os,_,fp,h_,k=>by have(a,vs,fs,e,q,z,r,g):=h_;show(a,vs,fs,e,k _ _ q (.inr (by rw[g];show aB)),z,OTs.frameM f os vs fs r (λb u i hm=>k b u i (hm.imp_right λz=>by rw[g];show be _ z)),g)
 |.at _ o,v,fp,h_,k=>by have(e,r):=h_;show(e,OT.frameM f o v fp r k)
 |.any,_,_,h,_=>h
theorem OTs.frameM(f:aq Hf C):∀(os:List O) (vs:LVv) (fp:LAd),OTs G Hf H os vs fp->(∀b u,H b=aa u->(dY u=ab\/b∈fp)->H' b=aa u)->OTs G C H' os vs fp
 | [],_,_,h,_=>h
 |o::os,_,fp,h_,k=>by have(v,r,f1,f2,e,d,g,a):=h_;show(v,r,f1,f2,e,OT.frameM f o v f1 d (λb u c hm=>k b u c (hm.imp_right λz=>by rw[a];show dO _ z)),OTs.frameM f os r f2 g (λb u c hm=>k b u c (hm.imp_right λz=>by rw[a];show cV _ z)),a)
end
variable{C:Hp}
def OT.frame{o:O}(h:OT G Hf H o v fp)(f:aq Hf C)(k:∀b u,H b=aa u->(dY u=ab\/b∈fp)->H' b=aa u):OT G C H' o v fp:=OT.frameM f o v fp h k
def OT.up{o:O}(h:OT G Hf H o v fp)(f:aq Hf C)(s:aq H H'):OT G C H' o v fp:=h.frame f λb u e _=>s b u e
def sE{a b:Type}:∀{ks:List a} {vs us:List b},ks.length=vs.length->ks.length=us.length->ks.zip vs=ks.zip us->vs=us
 | [],[],[],_,_,_=>rfl
 |k::ks,v::vs,u::us,h1,h2,e=>by
  injection e with e1 e2
  injection e1 with _ e3
  rw[e3,sE (by simpa using h1) (by simpa using h2) e2]
 | [],_::_,_,h,_,_=>by cases h
 | [],[],_::_,_,h,_=>by cases h
 | _::_,[],_,h,_,_=>by cases h
 | _::_,_::_,[],_,h,_=>by cases h
mutual
theorem OT.funM:∀(o:O) (v:V) (f u:LAd),OT G Hf H o v f->OT G C H o v u->f=u
 |.fz d,_,_,_,h,h'=>h.2.trans h'.2.symm
 |.lst os,_,_,_,q4_,q5_=>by
  have(a,vs,fs,e,q,r,m):=q4_;have(x,l,g,j,i,p,b):=q5_;subst e m b;cases j;rw[q]at i;cases i
  rw[OTs.funM os vs fs g r p]
 |.tup os,_,f,u,q4_,q5_=>by
  have(a,vs,e,q,r):=q4_;have(x,l,j,i,p):=q5_;subst e;cases j;rw[q]at i;cases i
  show OTs.funM os vs f u r p
 |.dic ks os,_,_,_,q4_,q5_=>by
  have(a,vs,fs,e,q,z,r,m):=q4_;have(x,l,g,j,i,w,p,b):=q5_;subst e m b;cases j;rw[q]at i;have:=sE z w (HO.dK.inj (cS i));subst this
  rw[OTs.funM os vs fs g r p]
 |.ins c ns os,_,_,_,q4_,q5_=>by
  have(a,dx,vs,fs,e,q,z,r,m):=q4_;have(x,y,l,g,j,i,w,p,b):=q5_;subst e m b;cases j;rw[q]at i;have:=sE z w (HO.ins.inj (cS i)).2.2;subst this
  rw[OTs.funM os vs fs g r p]
 |.jnk n,_,_,_,q4_,q5_=>by
  have(a,vs,e,q,z,m):=q4_;have(x,l,j,i,w,b):=q5_;subst e m b;cases j
  rfl
 |.dT ks os,_,_,_,q4_,q5_=>by
  have(a,vs,fs,e,q,z,r,m):=q4_;have(x,l,g,j,i,w,p,b):=q5_;subst e m b;cases j;rw[q]at i;have:=sE z w (HO.dT.inj (cS i));subst this
  rw[OTs.funM os vs fs g r p]
 |.at _ o,v,f,u,h,h'=>OT.funM o v f u h.2 h'.2
 |.any,_,_,_,h,h'=>(show _=[]from h).trans (show _=[]from h').symm
theorem OTs.funM:∀(os:List O) (vs:LVv) (f i:LAd),OTs G Hf H os vs f->OTs G C H os vs i->f=i
 | [],_,_,_,h,h'=>h.2.trans h'.2.symm
 |o::os,_,_,_,q4_,q5_=>by
  have(v,r,f1,f2,e,m,n,l):=q4_;have(q,p,b,c,j,d,g,a):=q5_;subst e l a;cases j;rw[OT.funM o v f1 b m d,OTs.funM os r f2 c n g]
end
mutual
theorem OT.memM:∀(o:O) (v:V) (f:LAd),OT G Hf H o v f->∀a∈f,∃u,H a=aa u/\dY u=ae
 |.fz d,_,_,h,a,ha=>by rw[h.2]at ha;cases ha
 |.lst os,_,_,q3_,b,hb=>by
  have(a,vs,fs,e,q,r,g):=q3_;subst g
  rcases aW.mp hb with z |z
  .subst z;show(_,q,rfl)
  .show OTs.memM os vs fs r b z
 |.tup os,_,f,(a,vs,e,q,r),b,hb=>OTs.memM os vs f r b hb
 |.dic ks os,_,_,q3_,b,hb=>by
  have(a,vs,fs,e,q,z,r,g):=q3_;subst g
  rcases aW.mp hb with z |z
  .subst z;show(_,q,rfl)
  .show OTs.memM os vs fs r b z
 |.ins c ns os,_,_,q3_,b,hb=>by
  have(a,dx,vs,fs,e,q,z,r,g):=q3_;subst g
  rcases aW.mp hb with z |z
  .subst z;show(_,q,rfl)
  .show OTs.memM os vs fs r b z
 |.jnk n,_,_,q3_,b,hb=>by
  have(a,vs,e,q,z,g):=q3_;subst g;rw[cB.mp hb]
  show(_,q,rfl)
 |.dT ks os,_,_,q3_,b,hb=>by
  have(a,vs,fs,e,q,z,r,g):=q3_;subst g
  rcases aW.mp hb with z |z
  .subst z;show(_,q,rfl)
  .show OTs.memM os vs fs r b z
 |.at _ o,v,f,h,a,ha=>OT.memM o v f h.2 a ha
 |.any,_,_,h,a,ha=>by rw[show _=[]from h]at ha;cases ha
theorem OTs.memM:∀(os:List O) (vs:LVv) (f:LAd),OTs G Hf H os vs f->∀a∈f,∃u,H a=aa u/\dY u=ae
 | [],_,_,h,a,ha=>by rw[h.2]at ha;cases ha
 |o::os,_,_,q3_,a,ha=>by
  have(v,r,f1,f2,e,c,d,b):=q3_;subst b
  rcases bI.mp ha with z |z
  .show OT.memM o v f1 c a z
  .show OTs.memM os r f2 d a z
end
mutual
theorem OT.repM(s:aq Hf H):∀(o:O) (v:V) (f:LAd),o.kn=ab->OT G Hf H o v f->Rep G H o.toD v
 |.fz d,_,_,_,h=>by rw[O.toD];show h.1.up s
 |.lst os,_,_,hk,h_=>by have(a,vs,fs,e,q,r,b):=h_;rw[O.kn]at hk;rw[O.toD];show(a,vs,e,q,OTs.repM s os vs fs hk r)
 |.tup os,_,f,hk,h_=>by have(a,vs,e,q,r):=h_;rw[O.kn]at hk;rw[O.toD];show(a,vs,e,q,OTs.repM s os vs f hk r)
 |.dic ks os,_,_,hk,h_=>by have(a,vs,fs,e,q,z,r,b):=h_;rw[O.kn]at hk;rw[O.toD];show(a,vs,e,q,z,OTs.repM s os vs fs hk r)
 |.ins c ns os,_,_,hk,h_=>by have(a,dx,vs,fs,e,q,z,r,b):=h_;rw[O.kn]at hk;rw[O.toD];show(a,dx,vs,e,q,z,OTs.repM s os vs fs hk r)
 |.at _ o,v,f,hk,h=>by rw[O.kn]at hk;rw[O.toD];show OT.repM s o v f hk h.2
 |.jnk _,_,_,hk,_=>by rw[O.kn]at hk;cases hk
 |.dT ks os,_,_,hk,h_=>by have(a,vs,fs,e,q,z,r,b):=h_;rw[O.kn]at hk;rw[O.toD];show(a,vs,e,q,z,OTs.repM s os vs fs hk r)
 |.any,_,_,hk,_=>by rw[O.kn]at hk;cases hk
theorem OTs.repM(s:aq Hf H):∀(os:List O) (vs:LVv) (f:LAd),O.kns os=ab->OTs G Hf H os vs f->ak G H (O.toDs os) vs
 | [],_,_,_,h=>by rw[O.toDs];show h.1
 |o::os,_,_,hk,h_=>by
  have(v,r,f1,f2,e,a,b,c):=h_;rw[O.kns,bV]at hk;rw[O.toDs];show(v,r,e,OT.repM s o v f1 hk.1 a,OTs.repM s os r f2 hk.2 b)
end
def OT.rep{o:O}{f:LAd}(h:OT G Hf H o v f)(s:aq Hf H)(a:o.kn=ab):Rep G H o.toD v:=OT.repM s o v f a h
def OTs.fz:∀{E:LD} {vs:LVv},ak G Hf E vs->OTs G Hf H (E.map .fz) vs []
 | [],_,h=>(h,rfl)
 |d::E,_,(v,r,e,h1,h2)=>(v,r,[],[],e,(h1,rfl),OTs.fz h2,rfl)
def wM(E:LD):O.toDs (E.map .fz)=E:=by
 induction E with
 |nil=>rfl
 |cons d E a=>rw[bP,O.toDs,O.toD,a]
inductive Sl where
 |no
 |im (d:D)
 |own (B:LD)
 |ownd (ks:List Key) (B:LD)
 |obj (c:Str) (ns:LSt) (B:LD)
 |pin (l:Addr) (B:LD)
 |pind (l:Addr) (ks:List Key) (B:LD)
 |pino (l:Addr) (c:Str) (ns:LSt) (B:LD)
 |deep (o:O)
 |val (u:V)
nonrec abbrev LS:=List Sl
nonrec def nZ{a:Type}:LS->Option (List a):=λ_=>aa []
nonrec def kY:LS->Option Bool:=λ_=>aa ab
nonrec def kN:LS->OD:=λ_=>aa .non
nonrec def kI(i:Int):LS->OD:=λ_=>aa (.int i)
nonrec def kSt(x:Str):LS->OD:=λ_=>aa (.str x)
nonrec def kBl(b:Bool):LS->OD:=λ_=>aa (.bl b)
nonrec abbrev MF1:=LS->OD
nonrec abbrev MF2:=LS->OLD
nonrec abbrev MF4:=LS->Option Bool
abbrev Sl.isOwn:Sl->Bool
 |.own _=>ab
 |.ownd _ _=>ab
 |.obj _ _ _=>ab
 |.pin _ _=>ab
 |.pind _ _ _=>ab
 |.pino _ _ _ _=>ab
 | _=>ae
abbrev Sl.calm:Sl->Bool
 |.no=>ab
 |.im _=>ab
 | _=>ae
abbrev iM(G:Gc)(Hf H:Hp)(l:Addr):Sl->Prop
 |.own E=>∃vs,H l=aa (.lst vs)/\ak G Hf E vs
 |.ownd ks E=>∃vs,H l=aa (.dK (ks.zip vs))/\ks.length=vs.length/\ak G Hf E vs
 |.obj c ns E=>∃dx vs,H l=aa (.ins (G.cl c) dx (ns.zip vs))/\ns.length=vs.length/\ak G Hf E vs
 |.pin a E=>l=a/\∃vs,H l=aa (.lst vs)/\ak G Hf E vs
 |.pind a ks E=>l=a/\∃vs,H l=aa (.dK (ks.zip vs))/\ks.length=vs.length/\ak G Hf E vs
 |.pino a c ns E=>l=a/\∃dx vs,H l=aa (.ins (G.cl c) dx (ns.zip vs))/\ns.length=vs.length/\ak G Hf E vs
 | _=>False
variable{l:Addr}
def iM.there2{s:Sl}(h:iM G Hf H l s):∃o,H l=aa o/\dY o=ae:=by
 cases s with
 |own E=>have(vs,h,_):=h;show(_,h,rfl)
 |ownd ks E=>have(vs,h,_):=h;show(_,h,rfl)
 |obj c ns E=>have(dx,vs,h,_):=h;show(_,h,rfl)
 |pin a E=>have(_,vs,h,_):=h;show(_,h,rfl)
 |pind a ks E=>have(_,vs,h,_):=h;show(_,h,rfl)
 |pino a c ns E=>have(_,dx,vs,h,_):=h;show(_,h,rfl)
 | _=>show h.elim
def iM.up{s:Sl}(h:iM G Hf H l s)(f:aq Hf C)(e:∀o,H l=aa o->H' l=aa o):iM G C H' l s:=by
 cases s with
 |own E=>have(vs,h,r):=h;show(vs,e _ h,r.up f)
 |ownd ks E=>have(vs,h,z,r):=h;show(vs,e _ h,z,r.up f)
 |obj c ns E=>have(dx,vs,h,z,r):=h;show(dx,vs,e _ h,z,r.up f)
 |pin a E=>have(q,vs,h,r):=h;show(q,vs,e _ h,r.up f)
 |pind a ks E=>have(q,vs,h,z,r):=h;show(q,vs,e _ h,z,r.up f)
 |pino a c ns E=>have(q,dx,vs,h,z,r):=h;show(q,dx,vs,e _ h,z,r.up f)
 | _=>show h.elim
abbrev gz(G:Gc)(H0 Hf H:Hp)(v:Option V):Sl->Prop
 |.no=>True
 |.im d=>∃u,v=aa u/\Rep G Hf d u
 |.deep o=>∃u fp,v=aa u/\OT G Hf H o u fp/\fp.Nodup/\∀a∈fp,H0 a=ac/\Hf a=ac
 |.val u=>v=aa u
 |s=>∃l,v=aa (.ref l)/\H0 l=ac/\Hf l=ac/\iM G Hf H l s
variable{H0:Hp}
def gz.own{v:Option V}{s:Sl}(a:s.isOwn=ab)(h:gz G H0 Hf H v s):∃l,v=aa (.ref l)/\H0 l=ac/\Hf l=ac/\iM G Hf H l s:=by
 cases s <;> first |show h |cases a
def gz.ofOwn{v:Option V}{s:Sl}(a:s.isOwn=ab)(h:∃l,v=aa (.ref l)/\H0 l=ac/\Hf l=ac/\iM G Hf H l s):gz G H0 Hf H v s:=by
 cases s <;> first |show h |cases a
def Holds(G:Gc)(Hf H:Hp)(s:Sl)(v:V)(a:Addr):Prop:=match s with
 |.deep o=>∃fp,OT G Hf H o v fp/\a∈fp
 |s=>s.isOwn=ab/\v=.ref a
def Holds.own{s:Sl}(b:s.isOwn=ab):Holds G Hf H s v a↔v=.ref a:=by
 cases s <;> first |show(λh=>h.2,λh=>(rfl,h)) |nomatch b
def Holds.calm{s:Sl}(h:Holds G Hf H s v a)(b:s.calm=ab):False:=by
 cases s <;> first |show jq h.1 |nomatch b
def gz.back{s:Sl}(q:gz G H0 Hf H (aa v) s)(k:∀o fp,s=.deep o->OT G Hf H o v fp->OT G C H' o v fp)(h:Holds G C H' s v a):Holds G Hf H s v a:=by
 cases s with
 |deep o=>
  have(u,fp,e,r,_):=q;cases e;have(fp',b,ha):=h;have:=OT.funM o v fp fp' (k o fp rfl r) b;subst this
  show(fp,r,ha)
 | _=>show h
def gz.there{s:Sl}(q:gz G H0 Hf H (aa v) s)(h:Holds G Hf H s v a):∃o,H a=aa o/\dY o=ae:=by
 cases b:s.isOwn with
 |true=>
  have(l,e,_,_,c):=q.own b;cases e;cases ((Holds.own b).mp h)
  show c.there2
 |false=>
  cases s with
  |deep o=>
   have(fp,r,ha):=h
   show OT.memM o v fp r a ha
  | _=>first |show jq h.1 |nomatch b
structure au(G:Gc)(Hf0 H0 Hf H:Hp)(J:St)(U:LS):Prop where
 ext:Ext Hf0 H0 Hf H
 len:J.length=U.length
 at':∀(i:Nat) (v:Option V) (s:Sl),J[i]?=aa v->U[i]?=aa s->gz G H0 Hf H v s
 dj:∀(i j:Nat) (s t:Sl) (v w:V) (a:Addr),U[i]?=aa s->U[j]?=aa t->J[i]?=aa (aa v)->J[j]?=aa (aa w)->Holds G Hf H s v a->Holds G Hf H t w a->i=j
variable{Hf0:Hp}{U:LS}
def au.sub(h:au G Hf0 H0 Hf H J U):aq Hf H:=h.ext.s
def au.inj(h:au G Hf0 H0 Hf H J U)(i j:Nat)(s t:Sl)(l:Addr)(a:U[i]?=aa s)(b:U[j]?=aa t)(e:s.isOwn=ab)(f:t.isOwn=ab)(c:J[i]?=aa (aa (.ref l)))(d:J[j]?=aa (aa (.ref l))):i=j:=
 h.dj i j s t _ _ l a b c d ((Holds.own e).mpr rfl) ((Holds.own f).mpr rfl)
variable{ρ':LS}
def au.re{d g:Hp}(h:au G Hf0 H0 Hf H J U)(x:Ext d g C H')(n:ρ'.length=U.length)(ha:∀(i:Nat) (v:Option V) (s:Sl),J[i]?=aa v->ρ'[i]?=aa s->gz G g C H' v s)
 (hd:∀(i:Nat) (s:Sl) (v:V) (a:Addr),ρ'[i]?=aa s->J[i]?=aa (aa v)->Holds G C H' s v a->∃t,U[i]?=aa t/\Holds G Hf H t v a):au G d g C H' J ρ':=
 (x,h.len.trans n.symm,ha,λi j s t v w a b c e f p q=>by
  have(y,l,r):=hd i s v a b e p;have(t0,m,u):=hd j t w a c f q;show h.dj i j y t0 v w a l m e f r u)
def au.step(h:au G Hf0 H0 Hf H J U)(e:Ext Hf H C H'):au G Hf0 H0 C H' J U:=by
 show h.re (h.ext.trans e) rfl (λi v s a b=>?_) λi s v a b c d=>(s,b,(h.at' i _ s c b).back (λo fp _ r=>r.up e.f e.h) d);have q:=h.at' i v s a b
 cases m:s.isOwn with
 |true=>
  have(l,g,x,y,w):=q.own m;have(o,j,p):=w.there2
  show .ofOwn m (l,g,x,by rw[e.n l o j p];show y,w.up e.f λo j=>e.h _ _ j)
 |false=>
  cases s with
  |no=>trivial
  |im d=>have(u,g,r):=q;show(u,g,r.up e.f)
  |val u=>show q
  |deep o=>
   have(u,fp,g,r,n,z):=q;show(u,fp,g,r.up e.f e.h,n,λa ha=>((z a ha).1,?_));have(A,j,p):=OT.memM o u fp r a ha;rw[e.n a A j p]
   show(z a ha).2
  | _=>nomatch m
def au.slot{s:Sl}(h:au G Hf0 H0 Hf H J U)(e:U[i]?=aa s):∃v,J[i]?=aa v/\gz G H0 Hf H v s:=by
 have hi:i<J.length:=by rw[h.len];show(cA.mp e).1
 show(J[i],by simp[hi],h.at' i _ s (by simp[hi]) e)
def au.imm(h:au G Hf0 H0 Hf H J U)(e:U[i]?=aa (.im d)):∃v,J[i]?=aa (aa v)/\Rep G Hf d v:=by
 have(v,a,u,b,r):=h.slot e;subst b;show(u,a,r)
def au.ownAt{s:Sl}(c:s.isOwn=ab)(h:au G Hf0 H0 Hf H J U)(e:U[i]?=aa s):∃l,J[i]?=aa (aa (.ref l))/\H0 l=ac/\Hf l=ac/\iM G Hf H l s:=by
 have(v,a,q):=h.slot e;have(l,b,d):=q.own c;rw[b]at a;show(l,a,d)
variable{j:Nat}
def cx{b:Type}{l:List b}{x y:b}(h:(l.set i x)[j]?=aa y):(j=i/\y=x/\i<l.length)\/(j≠i/\l[j]?=aa y):=by
 by_cases a:j=i
 .subst a;left;have hi:j<l.length:=by have:=(cA.mp h).1;simpa using this
  rw[i0 hi]at h;show(rfl,(cS h).symm,hi)
 .right;rw[j7 (fN a)]at h;show(a,h)
def au.setIm(h:au G Hf0 H0 Hf H J U)(r:Rep G Hf d v):au G Hf0 H0 Hf H (J.set i (aa v)) (U.set i (.im d)):=by
 show(h.ext,by simpa using h.len,λj u s a b=>?_,λj k s t u w l a b c d' p q=>?_)
 .rcases cx b with⟨e,f,_⟩ |⟨e,b⟩
  .subst e f
   rcases cx a with⟨_,f,_⟩ |⟨e,_⟩
   .subst f;show(v,rfl,r)
   .show absurd rfl e
  .rcases cx a with⟨f,_⟩ |⟨_,a⟩
   .show absurd f e
   .show h.at' j u s a b
 .rcases cx a with⟨e,f,_⟩ |⟨e,a⟩
  .subst f;show(p.calm rfl).elim
  .rcases cx b with⟨g,f,_⟩ |⟨g,b⟩
   .subst f;show(q.calm rfl).elim
   .rcases cx c with⟨f,_⟩ |⟨_,c⟩
    .show absurd f e
    .rcases cx d' with⟨f,_⟩ |⟨_,d'⟩
     .show absurd f g
     .show h.dj j k s t u w l a b c d' p q
def au.setNo(h:au G Hf0 H0 Hf H J U):au G Hf0 H0 Hf H J (U.set i .no):=by
 show h.re h.ext (by simp) (λj u s a b=>?_) λj s v a b c d=>?_
 .rcases cx b with⟨e,f,_⟩ |⟨e,b⟩
  .subst f;trivial
  .show h.at' j u s a b
 .rcases cx b with⟨e,f,_⟩ |⟨e,b⟩
  .subst f;show(d.calm rfl).elim
  .show(s,b,d)
variable{u:V}
def au.setNew{s:Sl}(h:au G Hf0 H0 Hf H J U)(e:Ext Hf H C H')(x:gz G H0 C H' (aa u) s)(hn:∀a,Holds G C H' s u a->H a=ac):
  au G Hf0 H0 C H' (J.set i (aa u)) (U.set i s):=by
 have h':=h.step e
 have no:∀j t w a,U[j]?=aa t->J[j]?=aa _->Holds G C H' t w a->Holds G C H' s u a->False:=λj t w a b c p q=>by
  have(o,x,_):=(h.at' j _ t c b).there ((h.at' j _ t c b).back (λo fp _ r=>r.up e.f e.h) p);rw[hn a q]at x;nomatch x
 show(h'.ext,by simpa using h.len,λj w t a b=>?_,λj k t t' v w l a b c d' p q=>?_)
 .rcases cx b with⟨e,d,_⟩ |⟨e,b⟩
  .subst e d
   rcases cx a with⟨_,d,_⟩ |⟨e,_⟩
   .subst d;show x
   .show absurd rfl e
  .rcases cx a with⟨d,_⟩ |⟨_,a⟩
   .show absurd d e
   .show h'.at' j w t a b
 .rcases cx a with⟨n,y,_⟩ |⟨n,a⟩
  .rcases cx b with⟨g,m,_⟩ |⟨g,b⟩
   .rw[n,g]
   .rcases cx c with⟨_,d,_⟩ |⟨d,_⟩
    .cases d;rw[y]at p
     rcases cx d' with⟨d,_⟩ |⟨_,d'⟩
     .show absurd d g
     .show(no k t' w l b d' q p).elim
    .show absurd n d
  .rcases cx c with⟨d,_⟩ |⟨_,c⟩
   .show absurd d n
   .rcases cx b with⟨g,m,_⟩ |⟨g,b⟩
    .rcases cx d' with⟨_,d,_⟩ |⟨d,_⟩
     .cases d;rw[m]at q;show(no j t v l a c p q).elim
     .show absurd g d
    .rcases cx d' with⟨d,_⟩ |⟨_,d'⟩
     .show absurd d g
     .show h'.dj j k t t' v w l a b c d' p q
def au.setOwn{s:Sl}(b:s.isOwn=ab)(h:au G Hf0 H0 Hf H J U)(e:Ext Hf H C H')(hn:H l=ac)(c:C l=ac)(d:iM G C H' l s):
  au G Hf0 H0 C H' (J.set i (aa (.ref l))) (U.set i s):=
 h.setNew e (.ofOwn b (l,rfl,h.ext.h.free hn,c,d)) λa p=>by cases (Holds.own b).mp p;show hn
def au.chg{s s':Sl}(h:au G Hf0 H0 Hf H J U)(e:U[i]?=aa s)(el:J[i]?=aa (aa v))(k:∀b u,H b=aa u->Holds G Hf H s v b\/H' b=aa u)(ho:gz G H0 Hf H' (aa v) s')
 (hh:∀a,Holds G Hf H' s' v a->Holds G Hf H s v a\/∀(j:Nat) (t:Sl) (w:V),U[j]?=aa t->J[j]?=aa (aa w)->Holds G Hf H t w a->False):au G Hf0 H0 Hf H' J (U.set i s'):=by
 have q:=h.at' i _ s el e
 have m:∀b,Holds G Hf H s v b->H0 b=ac/\Hf b=ac:=λb p=>by
  cases hs:s.isOwn with
  |true=>
   have(l,I,h0,hf,_):=q.own hs;have A:=(Holds.own hs).mp p;cases I;cases A
   show(h0,hf)
  |false=>
   cases s with
   |deep o=>
    have(u,fp,I,r,n,z):=q;cases I;have(fp',r',ha):=p;have:=OT.funM o v fp fp' r r';subst this
    show z b ha
   | _=>first |show jq p.1 |nomatch hs
 have fr:∀j t w,j≠i->U[j]?=aa t->J[j]?=aa (aa w)->∀o fp,t=.deep o->OT G Hf H o w fp->OT G Hf H' o w fp:=λj t w hj b c o fp et r=>by
  subst et;show r.frame (aq.refl _) λx u hx hm=>?_
  rcases k x u hx with z |z
  .rcases hm with hm |hm
   .have(o',g,L):=q.there z;rw[hx]at g;cases g;rw[hm]at L
    nomatch L
   .show absurd (h.dj j i _ s w v x b e c el (fp,r,hm) z) hj
  .show z
 show((h.ext.f,λb u e=>?_,λb u e=>?_,h.ext.n),by simpa using h.len,λj u t a b=>?_,λj T t t' w w' a b c b' M p p'=>?_)
 .rcases k b u (h.ext.h b u e)with z |z
  .rw[(m b z).1]at e;nomatch e
  .show z
 .rcases k b u (h.ext.s b u e)with z |z
  .rw[(m b z).2]at e;nomatch e
  .show z
 .rcases cx b with⟨N,A,_⟩ |⟨en,b⟩
  .subst N A;rw[el]at a;cases a;show ho
  .have Y:=h.at' j u t a b
   cases Q:t.isOwn with
   |false=>
    cases t with
    |no=>trivial
    |im d=>show Y
    |val u=>show Y
    |deep o=>
     have(w,fp,I,r,n,z):=Y;subst I
     show(w,fp,rfl,fr j _ w en b a o fp rfl r,n,z)
    | _=>nomatch Q
   |true=>
    have(l2,A,e3,e4,q2):=Y.own Q;subst A;show .ofOwn Q (l2,rfl,e3,e4,q2.up (aq.refl _) λo' g=>?_)
    rcases k l2 o' g with z |z
    .show absurd (h.dj j i t s _ v l2 b e a el ((Holds.own Q).mpr rfl) z) en
    .show z
 .have B:∀j t w,_[j]?=aa t->J[j]?=aa (aa w)->Holds G Hf H' t w a->(j=i/\∀j t w,U[j]?=aa t->J[j]?=aa (aa w)->Holds G Hf H t w a->False)\/∃t0,U[j]?=aa t0/\Holds G Hf H t0 w a:=λj t w b y p=>by
   rcases cx b with⟨N,A,_⟩ |⟨en,b⟩
   .rw[A]at p;rw[N,el]at y;cases y;rw[N]
    rcases hh a p with z |z
    .show .inr (s,e,z)
    .show .inl (rfl,z)
   .show .inr (t,b,(h.at' j _ t y b).back (fr j t w en b y) p)
  rcases B j t w b b' p with⟨z1,z2⟩ |⟨t0,z1,z2⟩
  .rcases B T t' w' c M p' with⟨C,E⟩ |⟨t1,C,E⟩
   .rw[z1,C]
   .show(z2 T t1 w' C M E).elim
  .rcases B T t' w' c M p' with⟨C,E⟩ |⟨t1,C,E⟩
   .show(E j t0 w z1 b' z2).elim
   .show h.dj j T t0 t1 w w' a z1 C b' M z2 E
def au.chgX{s s':Sl}(h:au G Hf0 H0 Hf H J U)(x:Ext Hf H C H1)(e:U[i]?=aa s)(el:J[i]?=aa (aa v))(k:∀b u,H1 b=aa u->Holds G Hf H s v b\/H' b=aa u)(d:gz G H0 C H' (aa v) s')
 (l:∀a,Holds G C H' s' v a->Holds G Hf H s v a\/H a=ac):au G Hf0 H0 C H' J (U.set i s'):=by
 have up:∀b,Holds G Hf H s v b->Holds G C H1 s v b:=λb p=>by
  cases s with
  |deep o=>have(fp,r,g):=p;show(fp,r.up x.f x.h,g)
  | _=>show p
 show(h.step x).chg e el (λb u g=>(k b u g).imp_left (up b)) d λa p=>?_
 rcases l a p with z |z
 .show .inl (up a z)
 .show .inr λj t w b c q=>?_;have(o,d,_):=(h.at' j _ t c b).there ((h.at' j _ t c b).back (λo fp _ r=>r.up x.f x.h) q);rw[z]at d
  nomatch d
def au.mutd{s s':Sl}{o:HO}(d:s.isOwn=ab)(c:s'.isOwn=ab)(h:au G Hf0 H0 Hf H J U)(e:U[i]?=aa s)(el:J[i]?=aa (aa (.ref l)))(r:iM G Hf (upd H l o) l s'):
  au G Hf0 H0 Hf (upd H l o) J (U.set i s'):=by
 have(v,f,j,n,q):=h.ownAt d e;rw[el]at f;cases f;show h.chg e el (λb u m=>?_) (.ofOwn c (l,rfl,j,n,r)) λa p=>.inl ((Holds.own d).mpr ((Holds.own c).mp p))
 by_cases g:b=l
 .subst g;show .inl ((Holds.own d).mpr rfl)
 .show .inr (by rw[aK g];show m)
def au.fixd{s:Sl}{o:HO}(C:s.isOwn=ab)(h:au G Hf0 H0 Hf H J U)(e:U[i]?=aa s)(el:J[i]?=aa (aa (.ref l)))(Y:H l=aa o)(hr:Rep G (upd Hf l o) d (.ref l)):
  au G Hf0 H0 (upd Hf l o) H J (U.set i (.im d)):=by
 have(l',f,T,g,q):=h.ownAt C e;rw[el]at f;cases f;show h.re (h.ext.fix T g Y) (by simp) (λj u t a b=>?_) λj t v a b c p=>?_
 .rcases cx b with⟨e,A,_⟩ |⟨en,b⟩
  .subst e A;rw[el]at a;cases a;show(_,rfl,hr)
  .have q:=h.at' j u t a b
   cases m:t.isOwn with
   |false=>
    cases t with
    |no=>trivial
    |im d=>have(L,f,r):=q;show(L,f,r.up (bE g))
    |val L=>show q
    |deep o=>
     have(w,fp,f,r,n,z):=q;subst f;show(w,fp,rfl,r.up (bE g) (aq.refl _),n,λx E=>((z x E).1,?_));rw[aK (λy=>?_)]
     .show(z x E).2
     .subst y
      show en (h.dj j i _ s w _ x b e a el (fp,r,E) ((Holds.own C).mpr rfl))
    | _=>nomatch m
   |true=>
    have(I,M,N,Q,q2):=q.own m;subst M;show .ofOwn m (I,rfl,N,?_,q2.up (bE g) λo' B=>B);rw[aK (λz=>?_)]
    .show Q
    .subst z;show en (h.inj j i t s I b e m C a el)
 .rcases cx b with⟨_,A,_⟩ |⟨_,b⟩
  .subst A;show(p.calm rfl).elim
  .show(t,b,(h.at' j _ t c b).back (λo fp _ r=>r.up (bE g) (aq.refl _)) p)
def PE.imp{t':TE}(h:PE X e t)(i:∀J H Q,t' J H Q->t J H Q):PE X e t':=λM s J H Q I q=>h M s J H Q I (i J H Q q)
variable{t':TT}
def PT.imp{t:TT}(h:PT X e t)(i:∀J H Q,t' J H Q->t J H Q):PT X e t':=λM s J H Q I q=>h M s J H Q I (i J H Q q)
def PW.imp{t:TT}(h:PW X e t)(i:∀J H Q,t' J H Q->t J H Q):PW X e t':=λa M s J H Q I q=>h a M s J H Q I (i J H Q q)
variable{es:LEx}
def PA.imp{t t':TA}(h:PA X es t)(i:∀J H Q,t' J H Q->t J H Q):PA X es t':=λpos M s J H Q I q=>h pos M s J H Q I (i J H Q q)
def PS.imp{st:Stmt}{t t':TS}(h:PS X st t)(i:∀S5 J H,t' S5 J H->t S5 J H):PS X st t':=λM s J H S5 I q=>h M s J H S5 I (i S5 J H q)
def PSs.imp{st:List Stmt}{t t':TS}(h:PSs X st t)(i:∀S5 J H,t' S5 J H->t S5 J H):PSs X st t':=λM s J H S5 I q=>h M s J H S5 I (i S5 J H q)
def PG.imp{t t':TG}(h:PG X e t)(i:∀v J H Q,t' v J H Q->t v J H Q):PG X e t':=λM s J H v u Q I r q=>h M s J H v u Q I r (i v J H Q q)
def PGs.imp{t t':TGs}(h:PGs X es t)(i:∀v J H Q,t' v J H Q->t v J H Q):PGs X es t':=λM s J H v u Q I r q=>h M s J H v u Q I r (i v J H Q q)
def PI.imp{t t':TI}(h:PI X tg e t)(i:∀J H R,t' J H R->t J H R):PI X tg e t':=λM s J H R I q=>h M s J H R I (i J H R q)
def PTs.imp{t:TT}(h:PTs X dV t)(i:∀J H Q,t' J H Q->t J H Q):PTs X dV t':=λM s J H Q I q=>h M s J H Q I (i J H Q q)
def OpR.imp{f:Value->Value->Sem Value}{r a:R2}(h:OpR X f r)(i:∀x y H Q,a x y H Q->r x y H Q):OpR X f a:=λM s J H x y v u Q I b c q=>h M s J H x y v u Q I b c (i x y H Q q)
def gR.imp{f:Value}{r a:LVv->Hp->VK->Prop}(h:gR X f r)(i:∀B H Q,a B H Q->r B H Q):gR X f a:=λM s J H B us Q I b q=>h M s J H B us Q I b (i B H Q q)
nonrec def Gx(c:Str->Addr)(X:Cx):Gc:=(X.K,c)
inductive tD(G:Gc)(f:MF1)(J:St)(H:Hp)(Q:VK):Prop
 |mk:∀Hf0 H0 Hf U d,au G Hf0 H0 Hf H J U->f U=aa d->(∀v C H',Ext Hf H C H'->Rep G C d v->Q v H')->tD G f J H Q
inductive tDB(G:Gc)(f:MF1)(J:St)(H:Hp)(Q:VK):Prop
 |mk:∀Hf0 H0 Hf U d,au G Hf0 H0 Hf H J U->f U=aa d->(∀v C H',Ext Hf H C H'->Rep G H' d v->Q v H')->tDB G f J H Q
inductive tDC(G:Gc)(f:MF2)(J:St)(H:Hp)(Q:VK):Prop
 |mk:∀Hf0 H0 Hf U E,au G Hf0 H0 Hf H J U->f U=aa E->(∀a vs C H',Ext Hf H C H'->(SqL G.K H' a vs\/SqT G.K H' a vs)->ak G C E vs->Q (.ref a) H')->tDC G f J H Q
inductive tDO(G:Gc)(f:MF2)(J:St)(H:Hp)(Q:VK):Prop
 |mk:∀Hf0 H0 Hf U E,au G Hf0 H0 Hf H J U->f U=aa E->(∀l vs C H',Ext Hf H C H'->H l=ac->C l=ac->H' l=aa (.lst vs)->ak G C E vs->Q (.ref l) H')->tDO G f J H Q
inductive tDA(G:Gc)(f:MF2)(J:St)(H:Hp)(Q:LVv->Hp->Prop):Prop
 |mk:∀Hf0 H0 Hf U E,au G Hf0 H0 Hf H J U->f U=aa E->(∀vs C H',Ext Hf H C H'->ak G C E vs->Q vs H')->tDA G f J H Q
inductive C4(G:Gc)(f:MF2)(J:St)(H:Hp)(Q:LVv->Hp->Prop):Prop
 |mk:∀Hf0 H0 Hf U E,au G Hf0 H0 Hf H J U->f U=aa E->(∀vs C H',Ext Hf H C H'->ak G H' E vs->Q vs H')->C4 G f J H Q
inductive tDT(G:Gc)(f:MF4)(J:St)(H:Hp)(Q:Bool->Hp->Prop):Prop
 |mk:∀Hf0 H0 Hf U b,au G Hf0 H0 Hf H J U->f U=aa b->(∀C H',Ext Hf H C H'->Q b H')->tDT G f J H Q
def DE(c:Str->Addr)(X:Cx)(e:Expr)(f:MF1):Prop:=PE X e (tD (Gx c X) f)
def DB(c:Str->Addr)(X:Cx)(e:Expr)(f:MF1):Prop:=PE X e (tDB (Gx c X) f)
def DC(c:Str->Addr)(X:Cx)(e:Expr)(f:MF2):Prop:=PE X e (tDC (Gx c X) f)
def DO(c:Str->Addr)(X:Cx)(e:Expr)(f:MF2):Prop:=PE X e (tDO (Gx c X) f)
structure DA(c:Str->Addr)(X:Cx)(es:LEx)(f:MF2):Prop where
 pa:PA X es (tDA (Gx c X) f)
 len:∀U E,f U=aa E->E.length=es.length
structure DAB(c:Str->Addr)(X:Cx)(es:LEx)(f:MF2):Prop where
 pa:PA X es (C4 (Gx c X) f)
 len:∀U E,f U=aa E->E.length=es.length
def DT(c:Str->Addr)(X:Cx)(e:Expr)(f:MF4):Prop:=PT X e (tDT (Gx c X) f)
def DW(c:Str->Addr)(X:Cx)(e:Expr)(f:MF4):Prop:=PW X e (tDT (Gx c X) f)
abbrev D.scalar:D->Bool
 |.non=>ab
 |.bl _=>ab
 |.int _=>ab
 |.str _=>ab
 | _=>ae
def Rep.sc(a:d.scalar=ab)(r:Rep G H d v):Rep G H' d v:=by
 cases d <;> first |show r |cases a
abbrev ia:D->OLD
 |.lst B=>aa B
 |.tup B=>aa B
 |.kl B=>aa B
 |.kt B=>aa B
 | _=>ac
def nI(e:ia d=aa E)(r:Rep G H d v):∃a vs,v=.ref a/\(SqL G.K H a vs\/SqT G.K H a vs)/\ak G H E vs:=by
 cases d with
 |lst B=>cases e;have(a,vs,b,q,r):=r;show(a,vs,b,.inl (SqL.of q),r)
 |tup B=>cases e;have(a,vs,b,q,r):=r;show(a,vs,b,.inr (SqT.of q),r)
 |kl B=>cases e;have(a,vs,b,q,r):=r;show(a,vs,b,.inl q,r)
 |kt B=>cases e;have(a,vs,b,q,r):=r;show(a,vs,b,.inr q,r)
 | _=>nomatch e
def wN(s:aq H H')(h:SqL K H a vs\/SqT K H a vs):SqL K H' a vs\/SqT K H' a vs:=h.imp s.seq s.tup
def aE(f:MF2)(U:LS):OD:=(f U).map .lst
def bj(f:MF2)(U:LS):OD:=(f U).map .tup
def aL(f:MF1)(U:LS):OLD:=(f U).bind ia
def bp(f g:MF1)(U:LS):OD:=(f U).or (g U)
variable{c:Str->Addr}{f:MF1}
def DE.db(h:DE c X e f):DB c X e f:=PE.imp h λJ H Q b=>by
 have(Hf0,H0,Hf,U,d,st,a,k):=b;show((Hf0,H0,Hf,U,d,st,a,λv C H' x r=>k v C H' x (r.up x.s)))
def DE.dc(h:DE c X e f):DC c X e (aL f):=PE.imp h λJ H Q j=>by
 have(Hf0,H0,Hf,U,E,st,b,k):=j;unfold aL at b
 cases g:f U with
 |none=>rw[g]at b;nomatch b
 |some d=>
  rw[g]at b;show(Hf0,H0,Hf,U,d,st,g,λv C H' x r=>?_);have(a,vs,i,q,rs):=nI b r;subst i;show k a vs C H' x (wN x.s q) rs
def DO.de{f:MF2}(h:DO c X e f):DE c X e (aE f):=PE.imp h λJ H Q j=>by
 have(Hf0,H0,Hf,U,d,st,a,k):=j;unfold aE at a
 cases b:f U with
 |none=>rw[b]at a;nomatch a
 |some E=>
  rw[b]at a;have a:=cS a;subst a;show(Hf0,H0,Hf,U,E,st,b,λl vs C H' x hn g i r=>k _ _ H' (x.fix hn g i) (l,vs,rfl,a9,r.up (bE g)))
def DO.dc{f:MF2}(h:DO c X e f):DC c X e f:=PE.imp h λJ H Q d=>by
 have (Hf0,H0,Hf,U,E,st,a,k):=d;show (
 (Hf0,H0,Hf,U,E,st,a,λl vs C H' x hn g b r=>k l vs C H' x (.inl (SqL.of b)) r))
def DE.orE{g:MF1}(h:DE c X e f)(h':DE c X e g):DE c X e (bp f g):=λM s J H Q I i=>by
 have(Hf0,H0,Hf,U,d,st,a,k):=i;unfold bp at a
 cases b:f U with
 |some d'=>
  rw[b]at a;cases a
  show h M s J H Q I (Hf0,H0,Hf,U,_,st,b,k)
 |none=>
  rw[b]at a;show h' M s J H Q I (Hf0,H0,Hf,U,d,st,a,k)
def af(i:Nat)(U:LS):OD:=match U[i]? with
 |some (.im d)=>aa d
 | _=>ac
def c6(i:Nat)(U:LS):OD:=match U[i]? with
 |some (.im d)=>aa d
 |some (.own B)=>aa (.lst B)
 |some (.ownd ks B)=>aa (.dic ks B)
 |some (.deep o)=>if o.kn then aa o.toD else ac
 | _=>ac
def ai(i:Nat)(U:LS):OLD:=match U[i]? with
 |some (.im d)=>ia d
 |some (.own B)=>aa B
 | _=>ac
def C5(h:af i U=aa d):U[i]?=aa (.im d):=by
 unfold af at h
 grind
def C6(h:PE X e (cL i)):DE c X e (af i):=PE.imp h λJ H Q f=>by
 have(Hf0,H0,Hf,U,d,st,b,k):=f;have(v,a,r):=st.imm (C5 b);show(v,a,k v Hf H (Ext.refl st.sub) r)
def C7(h:PE X e (cL i)):DC c X e (ai i):=PE.imp h λJ H Q j=>by
 have(Hf0,H0,Hf,U,E,st,b,k):=j;unfold ai at b
 cases es:U[i]? with
 |none=>rw[es]at b;nomatch b
 |some s=>
  rw[es]at b
  cases s with
  |im d=>
   have(v,f,r):=st.imm es;have(a,vs,g,q,rs):=nI b r;subst g
   show(_,f,k a vs Hf H (Ext.refl st.sub) (wN st.sub q) rs)
  |own B=>
   cases b;have(l,f,_,_,vs,q,r):=st.ownAt rfl es
   show(_,f,k l vs Hf H (Ext.refl st.sub) (.inl (SqL.of q)) r)
  | _=>nomatch b
def C8(h:PE X e (cL i)):DB c X e (c6 i):=PE.imp h λJ H Q j=>by
 have(Hf0,H0,Hf,U,d,st,a,k):=j;unfold c6 at a
 cases es:U[i]? with
 |none=>simp only[es]at a;nomatch a
 |some s=>
  rw[es]at a
  cases s with
  |im d=>
   cases a;have(v,b,r):=st.imm es
   show(_,b,k v Hf H (Ext.refl st.sub) (r.up st.sub))
  |own B=>
   cases a;have(l,b,_,_,vs,q,r):=st.ownAt rfl es
   show(_,b,k _ Hf H (Ext.refl st.sub) (l,vs,rfl,q,r.up st.sub))
  |ownd ks B=>
   cases a;have(l,b,_,_,vs,q,z,r):=st.ownAt rfl es
   show(_,b,k _ Hf H (Ext.refl st.sub) (l,vs,rfl,q,z,r.up st.sub))
  |deep o=>
   replace a:(if o.kn=ab then aa o.toD else ac)=aa d:=a;split at a
   .rename_i g;cases a;have(v,b,u,fp,f,r,_):=st.slot es;subst f;show(_,b,k _ Hf H (Ext.refl st.sub) (r.rep st.sub g))
   .nomatch a
  | _=>nomatch a
def sF(h:PE X e (tC v))(r:∀G H,Rep G H d v):DE c X e (λ_=>aa d):=PE.imp h λJ H Q b=>by
 have(Hf0,H0,Hf,U,d',st,a,k):=b;cases a;show k v Hf H (Ext.refl st.sub) (r _ _)
def bY{i:Int}{j}:DE c X (.Constant (.int i) j pos) (λ_=>aa (.int i)):=sF vR λ_ _=>rfl
def Kq{i:Bool}{j}:DE c X (.Constant (.bool i) j pos) (λ_=>aa (.bl i)):=sF HI λ_ _=>rfl
def wO{j}:DE c X (.Constant .none j pos) kN:=sF HJ λ_ _=>rfl
def lR{i:Str}{j}:DE c X (.Constant (.str i) j pos) (λ_=>aa (.str i)):=sF HK λ_ _=>rfl
def dv(i:Nat)(b:autoParam (X.N[i]?=aa x) Zb)(hv:autoParam (Vis X.env.scope x) Ze)(hd:autoParam (NDb x) Zc)
 (a:autoParam (NCd x) Zc):DE c X (.Name x pos) (af i):=C6 (nt b hv hd a)
def dvC(i:Nat)(b:autoParam (X.N[i]?=aa x) Zb)(hv:autoParam (Vis X.env.scope x) Ze)(hd:autoParam (NDb x) Zc)
 (a:autoParam (NCd x) Zc):DC c X (.Name x pos) (ai i):=C7 (nt b hv hd a)
def dvB(i:Nat)(b:autoParam (X.N[i]?=aa x) Zb)(hv:autoParam (Vis X.env.scope x) Ze)(hd:autoParam (NDb x) Zc)
 (a:autoParam (NCd x) Zc):DB c X (.Name x pos) (c6 i):=C8 (nt b hv hd a)
def ag(f:MF1)(g:MF2)(U:LS):OLD:=(f U).bind λd=>(g U).map λE=>d::E
variable{g:MF2}
def kG(h:ag f g U=aa E):∃d r,f U=aa d/\g U=aa r/\E=d::r:=by
 unfold ag at h
 cases a:f U with
 |none=>rw[a]at h;nomatch h
 |some d=>
  cases b:g U with
  |none=>rw[a,b]at h;nomatch h
  |some r=>rw[a,b]at h;cases h;show(d,r,rfl,rfl,rfl)
def gA:DA c X [] nZ:=(PA.imp dk λJ H Q b=>by have(Hf0,H0,Hf,U,E,st,a,k):=b;cases a;show k [] Hf H (Ext.refl st.sub) rfl,λU E h=>by cases h;rfl)
def bz(ha:DE c X e f)(i:DA c X es g)(n:autoParam (StE X e es) Zb):DA c X (e::es) (ag f g):=by
 show(PA.imp (dE ha i.pa n) λJ H Q p=>?_,λU E h=>?_)
 .have(Hf0,H0,Hf,U,E,st,m,k):=p;have(d,r,b,a,rfl):=kG m;show(Hf0,H0,Hf,U,d,st,b,λv cm H1 j q=>(Hf0,H0,cm,U,r,st.step j,a,λvs cc H2 l u=>k _ cc H2 (j.trans l) (.cons (q.up l.f) u)))
 .have(d,r,b,a,rfl):=kG h;simp[i.len U r a]
def Kr:DAB c X [] nZ:=(PA.imp dk λJ H Q b=>by have(Hf0,H0,Hf,U,E,st,a,k):=b;cases a;show k [] Hf H (Ext.refl st.sub) rfl,λU E h=>by cases h;rfl)
def sG(ha:DB c X e f)(i:DAB c X es g)(n:autoParam (StE X e es) Zb):DAB c X (e::es) (ag f g):=by
 show(PA.imp (dE ha i.pa n) λJ H Q p=>?_,λU E h=>?_)
 .have(Hf0,H0,Hf,U,E,st,m,k):=p;have(d,r,b,a,rfl):=kG m;show(Hf0,H0,Hf,U,d,st,b,λv cm H1 j q=>(Hf0,H0,cm,U,r,st.step j,a,λvs cc H2 l u=>k _ cc H2 (j.trans l) (.cons (q.up l.h) u)))
 .have(d,r,b,a,rfl):=kG h;simp[i.len U r a]
def lS{f:MF2}(h:DA c X es f)(hz:autoParam (es.length<=1000) Zk):DO c X (.List es pos) f:=PE.imp (px h.pa) λJ H Q d=>by
 have (Hf0,H0,Hf,U,E,st,b,k):=d;show (
 (Hf0,H0,Hf,U,E,st,b,λvs C H' x r=>(by
  rw[<- r.length,h.len U E b];show eS (sy hz),λp a=>k p vs C _ (x.trans (Ext.tmp x.s a)) (x.h.free a) (x.s.free a) a9 r)))
variable{k':Nat}
def lT{f:MF2}(h:DA c X es f)(hz:autoParam (es.length<=1000) Zk):DE c X (.Tuple es k' pos) (bj f):=PE.imp (wj h.pa) λJ H Q g=>by
 have(Hf0,H0,Hf,U,d,st,a,k):=g;unfold bj at a
 cases b:f U with
 |none=>rw[b]at a;nomatch a
 |some E=>
  rw[b]at a;have a:=cS a;subst a
  show(Hf0,H0,Hf,U,E,st,b,λvs C H' x r=>(by
   rw[<- r.length,h.len U E b];show eS (sy hz),λp e=>k _ _ _ (x.trans (Ext.new x.s e)) (p,vs,rfl,a9,r.up (bE (x.s.free e)))))
def rD(G:Gc)(m:D->D->OD):R2:=λa b H Q=>∃Hf x y d,aq Hf H/\Rep G Hf x a/\Rep G Hf y b/\m x y=aa d/\∀v C H',Ext Hf H C H'->Rep G C d v->Q v H'
nonrec abbrev OpD(c:Str->Addr)(X:Cx)(f:Value->Value->Sem Value)(m:D->D->OD):Prop:=OpR X f (rD (Gx c X) m)
def m2(m:D->D->OD)(f g:MF1)(U:LS):OD:=(f U).bind λx=>(g U).bind λy=>m x y
variable{m:D->D->OD}{g:MF1}
def sH(h:m2 m f g U=aa d):∃x y,f U=aa x/\g U=aa y/\m x y=aa d:=by
 unfold m2 at h
 cases a:f U with
 |none=>rw[a]at h;nomatch h
 |some x=>
  cases b:g U with
  |none=>rw[a,b]at h;nomatch h
  |some y=>rw[a,b]at h;show(x,y,rfl,rfl,h)
variable{r:R2}
def two(q:∀x y H Q,rD (Gx c X) m x y H Q->r x y H Q)(h:tD (Gx c X) (m2 m f g) J H Q):tOp r (tD (Gx c X) f) (tD (Gx c X) g) J H Q:=by
 have(Hf0,H0,Hf,U,d,st,p,k):=h;have(x,y,j,l,n):=sH p;show(Hf0,H0,Hf,U,x,st,j,λv cm H1 e z=>(Hf0,H0,cm,U,y,st.step e,l,λu cc H2 b A=>q _ _ _ _ (cc,x,y,d,b.s,z.up b.f,A,n,λw a i C B=>k w a i ((e.trans b).trans C) B)))
def C9(q:∀x y H Q,rD (Gx c X) m x y H Q->r x y H Q)(z:∀x y d,m x y=aa d->d.scalar=ab)(h:tD (Gx c X) (m2 m f g) J H Q):tOp r (tDB (Gx c X) f) (tDB (Gx c X) g) J H Q:=by
 have(Hf0,H0,Hf,U,d,st,p,k):=h;have(x,y,l,n,b):=sH p
 show(Hf0,H0,Hf,U,x,st,l,λv cm H1 e A=>(Hf0,H0,cm,U,y,st.step e,n,λu cc H2 a B=>q _ _ _ _ (H2,x,y,d,aq.refl _,A.up a.h,B,b,λw j i E C=>
  k w cc i ((e.trans a).trans (Ext.grow a.s E.h)) (C.sc (z _ _ _ b)))))
variable{a b:Expr}
def dZ{op:Operator}(e:OpD c X (fm op) m)(ha:DE c X a f)(d:DE c X b g):DE c X (.BinOp a op b pos) (m2 m f g):=
 PE.imp (Ci e ha d) λ_ _ _ h=>two (λ_ _ _ _ h=>h) h
variable{op:CmpOp}
def iN(i:OpD c X (cu op) m)(j:∀x y d,m x y=aa d->d.scalar=ab)(ha:DB c X a f)(e:DB c X b g)(hm:autoParam (kf op b=ae) Zo):
  DE c X (.Compare a [op] [b] pos) (m2 m f g):=PE.imp (IW i ha e hm) λ_ _ _ h=>C9 (λ_ _ _ _ h=>h) j h
def mB(f:MF1)(U:LS):Option Bool:=(f U).bind λd=>match d with
 |.bl b=>aa b
 | _=>ac
def sI{b:Bool}(h:mB f U=aa b):f U=aa (.bl b):=by
 unfold mB at h
 cases e:f U with
 |none=>rw[e]at h;nomatch h
 |some d=>rw[e]at h;cases d <;> cases h;rfl
def jE(j:OpD c X (cu op) m)(l:∀x y d,m x y=aa d->d.scalar=ab)(ha:DB c X a f)(i:DB c X b g)(hm:autoParam (kf op b=ae) Zo):
  DT c X (.Compare a [op] [b] pos) (mB (m2 m f g)):=PT.imp (IY j ha i hm) λJ H Q n=>by
 have (Hf0,H0,Hf,U,b,st,e,k):=n;show (
 C9 (λ_ _ _ _ h=>h) l (Hf0,H0,Hf,U,.bl b,st,sI e,λv C H' x r=>(b,r,k C H' x)))
abbrev pI:D->Option Bool
 |.non=>aa ae
 |.bl b=>aa b
 |.int i=>aa (i != 0)
 |.str x=>if x.length<=16777216 then aa ((x.length:Int) != 0) else ac
 |.lst B=>aa (!B.isEmpty)
 |.tup B=>aa (!B.isEmpty)
 |.kl B=>aa (!B.isEmpty)
 |.kt B=>aa (!B.isEmpty)
 |.dic ks _=>aa (!ks.isEmpty)
 | _=>ac
def ak.empty(r:ak G H E vs):E.isEmpty=vs.isEmpty:=by
 cases E with
 |nil=>cases (r);rfl
 |cons d E=>have(v,a,e,_):=r;subst e;rfl
def Ks{a b:Type}{ks:List a}{vs:List b}(h:ks.length=vs.length):(ks.zip vs).isEmpty=ks.isEmpty:=by
 cases ks <;> cases vs <;> first |rfl |cases h
def Kt{b:Bool}(e:pI d=aa b)(r:Rep G H d v):wc G.K v H b:=by
 cases d with
 |non=>cases e;subst r;rfl
 |bl x=>cases e;subst r;rfl
 |int i=>cases e;subst r;rfl
 |str x=>
  subst r;replace e:(if x.length<=16777216 then aa _ else ac)=aa b:=e;split at e
  .rename_i f;cases e;show(by rw[df];show f,rfl)
  .grind
 |lst B=>cases e;have(a,vs,c,q,r):=r;subst c;show .inl (vs,SqL.of q,by rw[r.empty])
 |tup B=>cases e;have(a,vs,c,q,r):=r;subst c;show .inr (.inl (vs,SqT.of q,by rw[r.empty]))
 |kl B=>cases e;have(a,vs,c,q,r):=r;subst c;show .inl (vs,q,by rw[r.empty])
 |kt B=>cases e;have(a,vs,c,q,r):=r;subst c;show .inr (.inl (vs,q,by rw[r.empty]))
 |dic ks B=>cases e;have(a,vs,c,q,l,r):=r;subst c;show .inr (.inr (_,q,by rw[Ks l]))
 |ins _ _ _=>nomatch e
 |kd _ _=>nomatch e
 |dT _ _=>nomatch e
def bi(f:MF1)(U:LS):Option Bool:=(f U).bind pI
def iO(ha:DB c X a f)(i:autoParam (∀e,isTrue a X.env e=(do let v <- e;g9 a.pos;fu [v] (truthy v))) Zd):DT c X a (bi f):=
 PT.imp (Ja ha i) λJ H Q j=>by
  have(Hf0,H0,Hf,U,b,st,g,k):=j;unfold bi at g
  cases h:f U with
  |none=>rw[h]at g;nomatch g
  |some d=>
   rw[h]at g;show(Hf0,H0,Hf,U,d,st,h,λv C H' x r=>(b,Kt g r,k C H' x))
def d9(f g:MF4)(U:LS):Option Bool:=(f U).bind λb=>if b then g U else aa ae
def mOr(f g:MF4)(U:LS):Option Bool:=(f U).bind λb=>if b then aa ab else g U
def cN(f:MF4)(U:LS):Option Bool:=(f U).map not
variable{f:MF4}
def DW.dt(h:DW c X e f):DT c X e f:=PW.pt h
def wP(h:DT c X a f):DW c X (.BoolOp .And [a] pos) f:=HQ h
def eA(h:DT c X a f):DW c X (.BoolOp .Or [a] pos) f:=HR h
def sJ{g:MF4}{rest:LEx}(h:DT c X a f)(h':DW c X (.BoolOp .And (b::rest) pos) g):DW c X (.BoolOp .And (a::b::rest) pos) (d9 f g):=PW.imp (HS h h') λJ H Q j=>by
 have(Hf0,H0,Hf,U,b,st,d,k):=j;unfold d9 at d
 cases e:f U with
 |none=>rw[e]at d;nomatch d
 |some x=>
  rw[e]at d;show(Hf0,H0,Hf,U,x,st,e,λcm H1 i=>?_)
  cases x with
  |true=>rw[if_pos rfl];show(Hf0,H0,cm,U,b,st.step i,d,λcc H2 l=>k cc H2 (i.trans l))
  |false=>cases d;rw[if_neg bD];show k cm H1 i
def dP{g:MF4}{rest:LEx}(h:DT c X a f)(h':DW c X (.BoolOp .Or (b::rest) pos) g):DW c X (.BoolOp .Or (a::b::rest) pos) (mOr f g):=PW.imp (HU h h') λJ H Q j=>by
 have(Hf0,H0,Hf,U,b,st,d,k):=j;unfold mOr at d
 cases e:f U with
 |none=>rw[e]at d;nomatch d
 |some x=>
  rw[e]at d;show(Hf0,H0,Hf,U,x,st,e,λcm H1 i=>?_)
  cases x with
  |false=>rw[if_neg bD];show(Hf0,H0,cm,U,b,st.step i,d,λcc H2 l=>k cc H2 (i.trans l))
  |true=>cases d;rw[if_pos rfl];show k cm H1 i
def lU(h:DT c X a f):DT c X (.UnaryOp .Not a pos) (cN f):=PT.imp (HV h) λJ H Q g=>by
 have(Hf0,H0,Hf,U,b,st,d,k):=g;unfold cN at d
 cases e:f U with
 |none=>rw[e]at d;nomatch d
 |some x=>
  rw[e]at d;cases d;show(Hf0,H0,Hf,U,x,st,e,λcm H1 i=>k cm H1 i)
def eV(f g:MF1)(U:LS):OD:=(mB f U).bind λb=>if b then g U else aa (.bl ae)
def vOr(f g:MF1)(U:LS):OD:=(mB f U).bind λb=>if b then aa (.bl ab) else g U
def fB(f:MF1)(U:LS):OD:=(mB f U).map λb=>.bl (!b)
variable{f:MF1}
def wQ{op}(h:DE c X a f):DE c X (.BoolOp op [a] pos) f:=HZ h
def pJ{rest:LEx}(h:DE c X a f)(h':DE c X (.BoolOp .And (b::rest) pos) g):DE c X (.BoolOp .And (a::b::rest) pos) (eV f g):=PE.imp (H9 h h') λJ H Q l=>by
 have(Hf0,H0,Hf,U,d,st,e,k):=l;unfold eV at e
 cases i:mB f U with
 |none=>rw[i]at e;nomatch e
 |some x=>
  rw[i]at e;show(Hf0,H0,Hf,U,.bl x,st,sI i,λv cm H1 j m=>(x,m,?_))
  cases x with
  |true=>rw[if_pos rfl];show(Hf0,H0,cm,U,d,st.step j,e,λv cc H2 p n=>k v cc H2 (j.trans p) n)
  |false=>cases e;rw[if_neg bD];show k _ cm H1 j rfl
def sK{rest:LEx}(h:DE c X a f)(h':DE c X (.BoolOp .Or (b::rest) pos) g):DE c X (.BoolOp .Or (a::b::rest) pos) (vOr f g):=PE.imp (Ia h h') λJ H Q l=>by
 have(Hf0,H0,Hf,U,d,st,e,k):=l;unfold vOr at e
 cases i:mB f U with
 |none=>rw[i]at e;nomatch e
 |some x=>
  rw[i]at e;show(Hf0,H0,Hf,U,.bl x,st,sI i,λv cm H1 j m=>(x,m,?_))
  cases x with
  |false=>rw[if_neg bD];show(Hf0,H0,cm,U,d,st.step j,e,λv cc H2 p n=>k v cc H2 (j.trans p) n)
  |true=>cases e;rw[if_pos rfl];show k _ cm H1 j rfl
def jh(h:DE c X a f):DE c X (.UnaryOp .Not a pos) (fB f):=PE.imp (Ib h) λJ H Q g=>by
 have(Hf0,H0,Hf,U,d,st,b,k):=g;unfold fB at b
 cases e:mB f U with
 |none=>rw[e]at b;nomatch b
 |some x=>
  rw[e]at b;cases b;show(Hf0,H0,Hf,U,.bl x,st,sI e,λv cm H1 j i=>(x,i,k _ cm H1 j rfl))
def vIf(t:MF4)(f g:MF1)(U:LS):OD:=(t U).bind λb=>if b then f U else g U
variable{cd:Expr}
def Ku{t:MF4}(m:DT c X cd t)(ha:DE c X a f)(l:DE c X b g):DE c X (.IfExp cd a b pos) (vIf t f g):=PE.imp (Cc m ha l) λJ H Q n=>by
 have(Hf0,H0,Hf,U,d,st,e,k):=n;unfold vIf at e
 cases i:t U with
 |none=>rw[i]at e;nomatch e
 |some x=>
  rw[i]at e;show(Hf0,H0,Hf,U,x,st,i,λcm H1 h=>?_)
  cases x with
  |true=>rw[if_pos rfl];show(Hf0,H0,cm,U,d,st.step h,e,λv cc H2 j r=>k v cc H2 (h.trans j) r)
  |false=>rw[if_neg bD];show(Hf0,H0,cm,U,d,st.step h,e,λv cc H2 j r=>k v cc H2 (h.trans j) r)
noncomputable instance {i j:Int}:Decidable (pb i j):=by unfold pb;infer_instance
noncomputable instance {i j:Int}:Decidable (pc i j):=by unfold pc;infer_instance
noncomputable instance {i j:Int}:Decidable (pf i j):=by unfold pf;infer_instance
abbrev dI(S4:Int->Int->Prop)[∀i j,Decidable (S4 i j)](g:Int->Int->D):D->D->OD
 |.int i,.int j=>if S4 i j then aa (g i j) else ac
 | _,_=>ac
abbrev dI0(g:Int->Int->D):D->D->OD
 |.int i,.int j=>aa (g i j)
 | _,_=>ac
abbrev cy:D->D->OD
 |.int i,.int j=>aa (.int (i+j))
 |.str a,.str b=>if a.length+b.length<=16777216 then aa (.str (a++b)) else ac
 |.lst a,.lst b=>if a.length+b.length<=16777216 then aa (.lst (a++b)) else ac
 | _,_=>ac
nonrec def lV:D->D->OD:=dI0 λi j=>.int (i-j)
nonrec def kK:D->D->OD:=dI pb λi j=>.int (i / j)
nonrec def bu:D->D->OD:=dI (λ_ j=>0<j) λi j=>.int (i % j)
nonrec def wR:D->D->OD:=dI pc λi j=>.int (i ^ j.toNat)
nonrec def dLt:D->D->OD:=dI0 λi j=>.bl (decide (i<j))
nonrec def dLe:D->D->OD:=dI0 λi j=>.bl (decide (i<=j))
nonrec def dGt:D->D->OD:=dI0 λi j=>.bl (decide (j<i))
nonrec def dGe:D->D->OD:=dI0 λi j=>.bl (decide (j<=i))
variable{gd:Int->Int->D}
def sL{f:Value->Value->Sem Value}{S4:Int->Int->Prop}[∀i j,Decidable (S4 i j)]{g:Int->Int->V}(h:OpR X f (rI S4 g))(b:∀G H i j,Rep G H (gd i j) (g i j)):OpD c X f (dI S4 gd):=by
 rintro M s J H r w v u Q I n p ⟨Hf,x,y,d,q,l,m,e,k⟩;unfold dI at e;split at e
 .split at e
  .rename_i a;cases e;show h M s J H r w v u Q I n p (_,_,l,m,a,k _ Hf H (Ext.refl q) (b _ _ _ _))
  .nomatch e
 .nomatch e
def pK{f:Value->Value->Sem Value}{g:Int->Int->V}(h:OpR X f (rI0 g))(a:∀G H i j,Rep G H (gd i j) (g i j)):OpD c X f (dI0 gd):=by
 rintro M s J H q r v u Q I m n ⟨Hf,x,y,d,p,b,l,e,k⟩;unfold dI0 at e;split at e
 .cases e;show h M s J H q r v u Q I m n (_,_,b,l,k _ Hf H (Ext.refl p) (a _ _ _ _))
 .nomatch e
def wS:OpD c X (fm .Add) cy:=by
 rintro M s J H m n v u Q I j l ⟨Hf,x,y,d,h,f,g,e,k⟩;unfold cy at e;split at e
 .cases e;show II M s J H m n v u Q I j l (_,_,f,g,k _ Hf H (Ext.refl h) rfl)
 .split at e
  .rename_i i;cases e;show Jb M s J H m n v u Q I j l (_,_,f,g,by rw[df];show i,k _ Hf H (Ext.refl h) rfl)
  .nomatch e
 .split at e
  .rename_i i;cases e;have(a,vs,r,z,f):=f;have(b,us,w,A,g):=g
   show CM M s J H m n v u Q I j l (a,b,vs,us,r,w,h _ _ z,h _ _ A,by rw[df,<- f.length,<- g.length];show i,
    λp q=>k _ _ _ (Ext.new h q) (p,_,rfl,a9,(f.append g).up (bE (h.free q))))
  .nomatch e
 .nomatch e
def Da:OpD c X (fm .Sub) lV:=pK IJ λ_ _ _ _=>rfl
def wT:OpD c X (fm .FloorDiv) kK:=sL IK λ_ _ _ _=>rfl
def jF:OpD c X (fm .Mod) bu:=sL IL λ_ _ _ _=>rfl
def Kv:OpD c X (fm .Pow) wR:=sL IM λ_ _ _ _=>rfl
def Kw:OpD c X (cu .Lt) dLt:=pK IQ λ_ _ _ _=>rfl
def Kx:OpD c X (cu .LtE) dLe:=pK IR λ_ _ _ _=>rfl
def Ky:OpD c X (cu .Gt) dGt:=pK IS λ_ _ _ _=>rfl
def Kz:OpD c X (cu .GtE) dGe:=pK IT λ_ _ _ _=>rfl
def sM{g:Int->Int->D}(a:∀i j,(g i j).scalar=ab):∀x y d,dI0 g x y=aa d->d.scalar=ab:=by
 intro x y d e;unfold dI0 at e;split at e
 .cases e;show a _ _
 .nomatch e
def KA:∀x y d,dLt x y=aa d->d.scalar=ab:=sM λ_ _=>rfl
def KB:∀x y d,dLe x y=aa d->d.scalar=ab:=sM λ_ _=>rfl
def KC:∀x y d,dGt x y=aa d->d.scalar=ab:=sM λ_ _=>rfl
def KD:∀x y d,dGe x y=aa d->d.scalar=ab:=sM λ_ _=>rfl
def m1(m:D->OD)(f:MF1)(U:LS):OD:=(f U).bind m
abbrev Db:D->Bool
 |.non=>ab
 | _=>ae
def Dc{x:D}(r:Rep G H x v):decide (v=.non)=Db x:=by
 cases x with
 |non=>subst r;rfl
 |bl b=>subst r;rfl
 |int i=>subst r;rfl
 |str x=>subst r;rfl
 |lst _=>have(a,_,e,_):=r;subst e;rfl
 |tup _=>have(a,_,e,_):=r;subst e;rfl
 |kl _=>have(a,_,e,_):=r;subst e;rfl
 |kt _=>have(a,_,e,_):=r;subst e;rfl
 |dic _ _=>have(a,_,e,_):=r;subst e;rfl
 |ins _ _ _=>have(a,_,_,e,_):=r;subst e;rfl
 |kd _ _=>have(a,_,_,e,_):=r;subst e;rfl
 |dT _ _=>have(a,_,e,_):=r;subst e;rfl
def isD(x y:D):Option Bool:=match y with
 |.non=>aa (Db x)
 |.bl b=>match x with
  |.non=>aa ae
  |.bl a=>aa (a==b)
  | _=>ac
 | _=>ac
def dIs(x y:D):OD:=(isD x y).map .bl
def dQ(x y:D):OD:=(isD x y).map λb=>.bl (!b)
def KE:OpD c X (cu .Is) dIs:=by
 rintro M s J H m l v u Q I h i ⟨Hf,x,y,d,j,f,g,e,k⟩
 cases y with
 |non=>
  cases e
  show IU M s J H m l v u Q I h i (g,by rw[Dc f];show k _ Hf H (Ext.refl j) rfl)
 |bl b=>
  cases x with
  |non=>cases e;subst f;show C2 M s J H _ l v u Q I h i (b,g,.inl rfl,k _ Hf H (Ext.refl j) rfl)
  |bl a=>cases e;subst f;show C2 M s J H _ l v u Q I h i (b,g,.inr (a,rfl),by rw[ph];show k _ Hf H (Ext.refl j) rfl)
  | _=>nomatch e
 | _=>nomatch e
def KF:OpD c X (cu .IsNot) dQ:=by
 rintro M s J H m l v u Q I h i ⟨Hf,x,y,d,j,f,g,e,k⟩
 cases y with
 |non=>
  cases e
  show IV M s J H m l v u Q I h i (g,by rw[Dc f];show k _ Hf H (Ext.refl j) rfl)
 |bl b=>
  cases x with
  |non=>cases e;subst f;show C3 M s J H _ l v u Q I h i (b,g,.inl rfl,k _ Hf H (Ext.refl j) rfl)
  |bl a=>cases e;subst f;show C3 M s J H _ l v u Q I h i (b,g,.inr (a,rfl),by rw[ph];show k _ Hf H (Ext.refl j) rfl)
  | _=>nomatch e
 | _=>nomatch e
def lW{x:Option Bool}{g:Bool->Bool}:∀d,x.map (λb=>D.bl (g b))=aa d->d.scalar=ab:=by
 intro d e
 cases x with
 |none=>nomatch e
 |some b=>cases e;rfl
def KG:∀x y d,dIs x y=aa d->d.scalar=ab:=λ_ _ d e=>lW d e
def KH:∀x y d,dQ x y=aa d->d.scalar=ab:=λ_ _ d e=>lW d e
abbrev eqF:D->D->Bool
 |.non,.non=>ab
 |.bl a,.bl b=>a==b
 |.int a,.int b=>a==b
 |.str a,.str b=>a==b
 | _,_=>ae
abbrev cO(f:D->D->Option Bool):LD->LD->Option Bool
 | [],[]=>aa ab
 |x::B,y::ys=>(f x y).bind λb=>(cO f B ys).map λr=>b && r
 | _,_=>aa ae
abbrev wU:D->D->Bool
 |.bl _,.int _=>ab
 |.int _,.bl _=>ab
 | _,_=>ae
abbrev lX(f:D->D->Option Bool):D->D->Option Bool
 |.lst B,.lst ys=>if B.length=ys.length then cO f B ys else aa ae
 |.tup B,.tup ys=>if B.length=ys.length then cO f B ys else ac
 |x,y=>if x.scalar && y.scalar && !wU x y then aa (eqF x y) else ac
abbrev deq:Nat->D->D->Option Bool
 | 0,_,_=>ac
 |n+1,x,y=>lX (deq n) x y
def dEq(x y:D):OD:=(deq 20 x y).map .bl
def dNe(x y:D):OD:=(deq 20 x y).map λb=>.bl (!b)
def sN:∀x y d,dEq x y=aa d->d.scalar=ab:=λ_ _ d e=>lW d e
def Dd:∀x y d,dNe x y=aa d->d.scalar=ab:=λ_ _ d e=>lW d e
variable{x y:D}{B ys:LD}{b:Bool}
def sO{f:D->D->Option Bool}(h:cO f (x::B) (y::ys)=aa b):∃a c,f x y=aa a/\cO f B ys=aa c/\b=(a && c):=by
 dsimp only[cO]at h
 cases d:f x y with
 |none=>rw[d]at h;nomatch h
 |some a=>
  cases e:cO f B ys with
  |none=>rw[d,e]at h;nomatch h
  |some c=>rw[d,e]at h;cases h;show(a,c,rfl,rfl,rfl)
def lY{f:D->D->Option Bool}:∀{B ys:LD} {b:Bool},B.length=ys.length->cO f B ys=aa b->∃e:Nat->Bool,(∀j x y,B[j]?=aa x->ys[j]?=aa y->f x y=aa (e j))/\(bw B.length).all e=b
 | [],[],b,_,h=>by cases h;show(λ_=>ab,λj x y e=>by simp at e,rfl)
 |x::B,y::ys,b,hl,h=>by
  have(c,n,d,g,rfl):=sO h;have(e,i,ha):=lY (by simpa using hl) g
  show(λj=>match j with | 0=>c |j+1=>e j,λj l m ex a=>?_,?_)
  .cases j with
   |zero=>simp at ex a;subst ex a;show d
   |succ j=>show i j l m (by simpa using ex) (by simpa using a)
  .rw[cr,range_succ_eq_map,lu,oQ,<- ha]
   rfl
 | [],_::_,_,hl,_=>by cases hl
 | _::_,[],_,hl,_=>by cases hl
def sP(s:d.scalar=ab):d=.non\/(∃b,d=.bl b)\/(∃i,d=.int i)\/∃z,d=.str z:=by
 cases d with
 |non=>show .inl rfl
 |bl b=>show .inr (.inl (b,rfl))
 |int i=>show .inr (.inr (.inl (i,rfl)))
 |str z=>show .inr (.inr (.inr (z,rfl)))
 | _=>nomatch s
def sQ(c:(x.scalar && y.scalar && !wU x y)=ab)(d:Rep G H x v)(e:Rep G H y u):fA v=ab/\fA u=ab/\eqV v u=eqF x y/\v9 v u=ab/\decide (v=u)=eqF x y:=by
 rw[bV,bV]at c
 rcases sP c.1.1 with rfl |⟨a,rfl⟩ |⟨a,rfl⟩ |⟨a,rfl⟩ <;> rcases sP c.1.2 with rfl |⟨b,rfl⟩ |⟨b,rfl⟩ |⟨b,rfl⟩ <;> first
  |(cases c.2;done)
  |(subst d;subst e;show(rfl,rfl,rfl,rfl,?_);first |show ph |show wa |show wb |rfl)
variable{n:Nat}
def sR(a:¬(∃B ys,x=.lst B/\y=.lst ys)/\¬(∃B ys,x=.tup B/\y=.tup ys))(h:deq (n+1) x y=aa b):(x.scalar && y.scalar && !wU x y)=ab/\b=eqF x y:=by
 replace h:lX _ x y=aa b:=h;unfold lX at h;split at h
 .show absurd (_,_,rfl,rfl) a.1
 .show absurd (_,_,rfl,rfl) a.2
 .split at h
  .rename_i c;cases h;show(c,rfl)
  .nomatch h
def De:∀(n:Nat) {x y:D} {b:Bool} {v:V},deq n x y=aa b->Rep G H x v->Rep G H y v->b=ab:=by
 intro n
 induction n with
 |zero=>intro x y b v h;nomatch h
 |succ n M=>
  have all:∀(B ys:LD) vs b,ak G H B vs->ak G H ys vs->cO (deq n) B ys=aa b->b=ab:=by
   intro B
   induction B with
   |nil=>
    intro ys vs b d c h;cases (d);have:ys=[]:=rk.mp c.length;subst this
    cases h;rfl
   |cons x B m=>
    intro ys vs b d c h;have(v,r,e,I,J):=d;subst e
    cases ys with
    |nil=>cases (c)
    |cons y ys=>
     have(T,Q,e,j,l):=c;cases e;have(N,A,C,E,rfl):=sO h;rw[M C I j,m ys _ A J l E];rfl
  intro x y b v h d c
  by_cases u:∃B ys,x=.lst B/\y=.lst ys
  .have(B,ys,rfl,rfl):=u;have(a,vs,e,q,d):=d;have(z,p,i,g,c):=c;subst e;cases i;rw[q]at g;cases g;have f:=d.length.trans c.length.symm;replace h:(if B.length=ys.length then cO _ B ys else aa ae)=aa b:=h;rw[if_pos f]at h;show all B ys vs b d c h
  .by_cases w:∃B ys,x=.tup B/\y=.tup ys
   .have(B,ys,rfl,rfl):=w;have(a,vs,e,q,d):=d;have(z,p,i,g,c):=c;subst e;cases i;rw[q]at g;cases g;replace h:(if B.length=ys.length then cO _ B ys else ac)=aa b:=h;rw[if_pos (d.length.trans c.length.symm)]at h;show all B ys vs b d c h
   .have(L,rfl):=sR (u,w) h;have(_,_,_,_,e):=sQ L d c;rw[<- e];show decide_eq_true rfl
variable{us:LVv}
def nJ{s:ah}{L a:LVa}{e:Nat->Bool}(E:ak G H B vs)(I:ak G H ys us)(r:aJ vs L)(C:aJ us a)
 (q:∀j x y,B[j]?=aa x->ys[j]?=aa y->deq n x y=aa (e j))
 (z:∀{x y:D} {b:Bool} {v u:V} {w h:Value},deq n x y=aa b->Rep G H x v->Rep G H y u->aC v w->aC u h->ca A s w h b):
  ∀j (f:j<L.toArray.size) (g:j<a.toArray.size),ca A s L.toArray[j] a.toArray[j] (e j):=λj f g=>by
 have c:j<L.length:=by simpa using f
 have d:j<a.length:=by simpa using g
 have(v,m,J):=r.at' (i:=j) (u:=L[j]) (by simp[c]);have(u,l,ru):=C.at' (i:=j) (u:=a[j]) (by simp[d]);have(x,ex,M):=E.get' m;have(y,p,N):=I.get' l;show z (q j x y ex p) M N J ru
def wV{s:ah}(I:Inv X M J H s):∀(n:Nat) {A:b7} {x y:D} {b:Bool} {v u:V} {w z:Value},A.units+n<cLine->deq n x y=aa b->Rep (Gx c X) H x v->Rep (Gx c X) H y u->aC v w->aC u z->ca A s w z b:=by
 intro n
 induction n with
 |zero=>intro A x y b v u w z _ h;nomatch h
 |succ n ih=>
  intro A x y b v u w z hu h r1 r2 rv ru;have C:∀{x y:D} {b:Bool} {v u:V} {w z:Value},deq n x y=aa b->Rep _ H x v->Rep _ H y u->aC v w->aC u z->ca A.in1 s w z b:=λh a b c d=>ih (by rw[rQ];lia) h a b c d
  by_cases hl:∃B ys,x=.lst B/\y=.lst ys
  .have(B,ys,rfl,rfl):=hl;have(a,vs,e,q,f):=id r1;have(Q,r,T,E,g):=id r2;subst e T;cases rv;subst ru
   by_cases j:a=Q
   .subst j;have:=De _ h ((a,vs,rfl,q,f)) (a,r,rfl,E,g);subst this;show vM _
   .show ca.of_refs j ?_;have(L,G,N,hz):=I.list (SqL.of q);have(p,l,m,hz2):=I.list (SqL.of E);have l1:=G.length;have l2:=l.length;have l3:=f.length;have l4:=g.length;replace h:(if B.length=ys.length then cO _ B ys else aa ae)=aa b:=h;split at h
    .rename_i i;have(ee,U,ha):=lY i h;have:=SeqAt.RcAt.lists N.isList m.isList (by simp only[size_toArray];lia) (by lia) (nJ f g G l U C);rw[size_toArray,<- l1,<- l3,ha]at this;show this
    .rename_i i;cases h;show SeqAt.RcAt.lists_lengths N.isList m.isList (by simp only[size_toArray,bne_iff_ne];lia) (by lia)
  .by_cases ht:∃B ys,x=.tup B/\y=.tup ys
   .have(B,ys,rfl,rfl):=ht;have(a,vs,e,q,f):=id r1;have(Q,r,T,E,g):=id r2;subst e T;subst rv;subst ru
    by_cases j:a=Q
    .subst j;have:=De _ h ((a,vs,rfl,q,f)) (a,r,rfl,E,g);subst this;show vM _
    .show ca.of_refs j ?_;have(L,G,N,hz):=I.tuple (SqT.of q);have(p,l,m,hz2):=I.tuple (SqT.of E);have l1:=G.length;have l2:=l.length;have l3:=f.length;have l4:=g.length;replace h:(if B.length=ys.length then cO _ B ys else ac)=aa b:=h;split at h
     .rename_i i;have(ee,U,ha):=lY i h;have:=SeqAt.RcAt.tuples (N) (m) (by lia) (nJ f g G l U C);have Y:L.toArray.size=p.toArray.size:=by simp only[size_toArray];lia
      rw[<- Y,rF,beq_self_eq_true,rh,size_toArray,<- l1,<- l3,ha]at this;show this
     .nomatch h
   .have(hs,rfl):=sR (hl,ht) h;have(f1,f2,e,_,_):=sQ hs r1 r2;rw[<- e];show CH rv ru f1 f2
def sS(hu:X.A.units+64<cLine):OpD c X (cu .Eq) dEq:=by
 rintro M s J H v u w G Q I rv ru ⟨Hf,x,y,d,s0,r,z,e,k⟩;unfold dEq at e
 cases h:deq 20 x y with
 |none=>rw[h]at e;nomatch e
 |some b=>
  rw[h]at e;cases e;have q0:=k _ Hf H (Ext.refl s0) rfl;have n:EP X M J Q _ s:=(.bl b,H,I,rfl,q0);have r:=r.up s0;have z:=z.up s0;have p:∀{x y:D} {b:Bool} {v u:V} {w G:Value},deq 19 x y=aa b->Rep _ H x v->Rep (Gx c X) H y u->aC v w->aC u G->ca X.A.in1 s w G b:=λh a b c d=>wV I 19 (by rw[rQ];lia) h a b c d
  by_cases hl:∃B ys,x=.lst B/\y=.lst ys
  .have(B,ys,rfl,rfl):=hl;have(a,vs,e,q,i):=id r;have(a',vs',N,q',j):=id z;subst e N;cases rv;subst ru;have(L,C,E,hz):=I.list (SqL.of q);have(m,g,l,hz2):=I.list (SqL.of q');have l1:=C.length;have l2:=g.length;have l3:=i.length;have l4:=j.length;replace h:(if B.length=ys.length then cO _ B ys else aa ae)=aa b:=h;split at h
   .rename_i f;have(ee,T,ha):=lY f h;show SeqAt.eq_listAt E.isList l.isList (by simp only[size_toArray];lia) (by lia) (nJ i j C g T p) ?_;rw[size_toArray,<- l1,<- l3,ha];show n
   .rename_i f;cases h;show SeqAt.eq_list_lengthsAt E.isList l.isList (by simp only[size_toArray,bne_iff_ne];lia) (by lia) n
  .by_cases ht:∃B ys,x=.tup B/\y=.tup ys
   .have(B,ys,rfl,rfl):=ht;have(a,vs,e,q,i):=id r;have(a',vs',N,q',j):=id z;subst e N;subst rv;subst ru;have(L,C,E,hz):=I.tuple (SqT.of q);have(m,g,l,hz2):=I.tuple (SqT.of q');have l1:=C.length;have l2:=g.length;have l3:=i.length;have l4:=j.length;replace h:(if B.length=ys.length then cO _ B ys else ac)=aa b:=h;split at h
    .rename_i f;have(ee,T,ha):=lY f h;show SeqAt.eq_tupleAt (E) (l) (by lia) (nJ i j C g T p) ?_;have Y:L.toArray.size=m.toArray.size:=by simp only[size_toArray];lia
     simp only[<- Y,rF,beq_self_eq_true,rh,size_toArray,<- l1,<- l3,ha];show n
    .nomatch h
   .have(hs,rfl):=sR (hl,ht) h;have(_,_,_,U,e):=sQ hs r z;show IN M s J H v u w G Q I rv ru (U,by rw[e];show q0)
def Dg(hu:X.A.units+64<cLine):OpD c X (cu .NotEq) dNe:=by
 rintro M s J H v u w G Q I rv ru ⟨Hf,x,y,d,s0,r,z,e,k⟩;unfold dNe at e
 cases h:deq 20 x y with
 |none=>rw[h]at e;nomatch e
 |some b=>
  rw[h]at e;cases e;have q0:=k _ Hf H (Ext.refl s0) rfl;have n:EP X M J Q _ s:=(.bl (!b),H,I,rfl,q0);have r:=r.up s0;have z:=z.up s0;have p:∀{x y:D} {b:Bool} {v u:V} {w G:Value},deq 19 x y=aa b->Rep _ H x v->Rep (Gx c X) H y u->aC v w->aC u G->ca X.A.in1 s w G b:=λh a b c d=>wV I 19 (by rw[rQ];lia) h a b c d
  by_cases hl:∃B ys,x=.lst B/\y=.lst ys
  .have(B,ys,rfl,rfl):=hl;have(a,vs,e,q,i):=id r;have(a',vs',N,q',j):=id z;subst e N;cases rv;subst ru;have(L,C,E,hz):=I.list (SqL.of q);have(m,g,l,hz2):=I.list (SqL.of q');have l1:=C.length;have l2:=g.length;have l3:=i.length;have l4:=j.length;replace h:(if B.length=ys.length then cO _ B ys else aa ae)=aa b:=h;split at h
   .rename_i f;have(ee,T,ha):=lY f h;show SeqAt.RcNeAt.lists E.isList l.isList (by simp only[size_toArray];lia) (by lia) (nJ i j C g T p) X.prog X.w X.xe _ ?_;rw[size_toArray,<- l1,<- l3,ha];show n
   .rename_i f;cases h;show SeqAt.RcNeAt.lists_lengths E.isList l.isList (by simp only[size_toArray,bne_iff_ne];lia) (by lia) X.prog X.w X.xe _ n
  .by_cases ht:∃B ys,x=.tup B/\y=.tup ys
   .have(B,ys,rfl,rfl):=ht;have(a,vs,e,q,i):=id r;have(a',vs',N,q',j):=id z;subst e N;subst rv;subst ru;have(L,C,E,hz):=I.tuple (SqT.of q);have(m,g,l,hz2):=I.tuple (SqT.of q');have l1:=C.length;have l2:=g.length;have l3:=i.length;have l4:=j.length;replace h:(if B.length=ys.length then cO _ B ys else ac)=aa b:=h;split at h
    .rename_i f;have(ee,T,ha):=lY f h;show SeqAt.RcNeAt.tuples (E) (l) (by lia) (nJ i j C g T p) X.prog X.w X.xe _ ?_;have Y:L.toArray.size=m.toArray.size:=by simp only[size_toArray];lia
     simp only[<- Y,rF,beq_self_eq_true,rh,size_toArray,<- l1,<- l3,ha];show n
    .nomatch h
   .have(hs,rfl):=sR (hl,ht) h;have(_,_,_,U,e):=sQ hs r z;show IP M s J H v u w G Q I rv ru (U,by rw[e];show q0)
abbrev eqX:D->D->Bool
 |.non,.non=>ab
 |.bl a,.bl b=>a==b
 |.bl a,.int b=>(if a then 1 else 0)==b
 |.int a,.bl b=>a==(if b then 1 else 0)
 |.int a,.int b=>a==b
 |.str a,.str b=>a==b
 | _,_=>ae
def inD(x y:D):Option Bool:=(ia y).bind λE=>if x.scalar && E.all D.scalar then aa (E.any λd=>eqX d x) else ac
def dIn(x y:D):OD:=(inD x y).map .bl
def lZ(x y:D):OD:=(inD x y).map λb=>.bl (!b)
def Dh:∀x y d,dIn x y=aa d->d.scalar=ab:=λ_ _ d e=>lW d e
def KI:∀x y d,lZ x y=aa d->d.scalar=ab:=λ_ _ d e=>lW d e
def KJ(c:x.scalar=ab)(d:y.scalar=ab)(e:Rep G H x v)(f:Rep G H y u):fA v=ab/\fA u=ab/\eqV v u=eqX x y:=by
 rcases sP c with rfl |⟨a,rfl⟩ |⟨a,rfl⟩ |⟨a,rfl⟩ <;> rcases sP d with rfl |⟨b,rfl⟩ |⟨b,rfl⟩ |⟨b,rfl⟩ <;> (subst e;subst f;show(rfl,rfl,rfl))
def Di{G:Gc}{H:Hp}{x:D}{v:V}(b:x.scalar=ab)(r:Rep G H x v):∀{E:LD} {vs:LVv},E.all D.scalar=ab->ak G H E vs->vs.all fA=ab/\inV v vs=E.any λd=>eqX d x
 | [],_,_,h=>by cases (h);show(rfl,rfl)
 |d::E,_,ha,q3_=>by
  have(u,i,e,f,g):=q3_;subst e;simp only[lu,bV]at ha;have(f1,f2,e):=KJ ha.1 b f r;have(c,a):=Di b r ha.2 g;show(by simp only[lu,f1,c];rfl,?_);unfold inV at a ⊢;simp only[gj,gj,e,a]
def Dj(e:inD x y=aa b)(d:Rep G H x v)(j:Rep G H y u):∃p vs,u=.ref p/\(SqL G.K H p vs\/SqT G.K H p vs)/\fA v=ab/\vs.all fA=ab/\inV v vs=b:=by
 unfold inD at e
 cases es:ia y with
 |none=>rw[es]at e;nomatch e
 |some E=>
  rw[es]at e;replace e:(if _=ab then aa _ else ac)=aa b:=e;split at e
  .rename_i c;cases e;rw[bV]at c;have(a,vs,g,q,r):=nI es j;have(h,i):=Di c.1 d c.2 r
   have f:fA v=ab:=by cases x <;> first |(subst d;rfl) |(cases c.1)
   show(a,vs,g,q,f,h,i)
  .nomatch e
def Dk:OpD c X (cu .In) dIn:=by
 rintro M s J H v u w m Q I l ru ⟨Hf,x,y,d,a,i,j,e,k⟩;unfold dIn at e
 cases h:inD x y with
 |none=>rw[h]at e;nomatch e
 |some b=>
  rw[h]at e;cases e;have(p,vs,f,q,f1,f2,g):=Dj h (i.up a) (j.up a);show JM M s J H v u w m Q I l ru (p,vs,f,q,f1,f2,?_);rw[if_neg bD,g];show k _ Hf H (Ext.refl a) rfl
def KL:OpD c X (cu .NotIn) lZ:=by
 rintro M s J H v u w m Q I l ru ⟨Hf,x,y,d,a,i,j,e,k⟩;unfold lZ at e
 cases h:inD x y with
 |none=>rw[h]at e;nomatch e
 |some b=>
  rw[h]at e;cases e;have(p,vs,f,q,f1,f2,g):=Dj h (i.up a) (j.up a);show JN M s J H v u w m Q I l ru (p,vs,f,q,f1,f2,?_);rw[if_pos rfl,g];show k _ Hf H (Ext.refl a) rfl
def Dl{i:Int}(h:atI E i=aa d)(r:ak G H E vs):∃v,atI vs i=aa v/\Rep G H d v:=by
 unfold atI at h ⊢;rw[<- r.length]
 cases e:ixN E.length i with
 |none=>rw[e]at h;nomatch h
 |some j=>
  rw[e]at h;show r.get h
abbrev ixD(E:LD):D->OD
 |.int k=>atI E k
 | _=>ac
def mIx(f:MF2)(g:MF1)(U:LS):OD:=(f U).bind λE=>(g U).bind λi=>ixD E i
variable{b:Expr}
def gS{f:MF2}(ha:DC c X a f)(z:DE c X b g)(A:autoParam (sj b) Zj):DE c X (.Subscript a b pos) (mIx f g):=
 PE.imp (sm (sn.or sr) ha z A) λJ H Q B=>by
  have(Hf0,H0,Hf,U,d,st,e,k):=B;unfold mIx at e
  cases m:f U with
  |none=>rw[m]at e;nomatch e
  |some E=>
   cases w:g U with
   |none=>rw[m,w]at e;nomatch e
   |some i=>
    rw[m,w]at e
    cases i with
    |int n=>
     show(Hf0,H0,Hf,U,E,st,m,λl vs cm H1 y q r=>(Hf0,H0,cm,U,.int n,st.step y,w,λu cc H2 p C=>?_));cases (C);have(v,x,G):=Dl e r;have j:=k v cc H2 (y.trans p) (G.up p.f)
     rcases q with q |q
     .show .inl (l,vs,n,v,rfl,rfl,p.h.seq q,x,j)
     .show .inr (l,vs,n,v,rfl,rfl,p.h.tup q,x,j)
    | _=>nomatch e
def pL(B:LD)(lo hi:Option Int):LD:=(B.drop (HT.sIx B.length 0 lo)).take (HT.sIx B.length B.length hi-HT.sIx B.length 0 lo)
abbrev lsD:D->OLD
 |.lst B=>aa B
 |.kl B=>aa B
 | _=>ac
def jG(e:lsD d=aa E)(r:Rep G H d v):∃a vs,v=.ref a/\SqL G.K H a vs/\ak G H E vs:=by
 cases d with
 |lst B=>cases e;have(a,vs,b,q,r):=r;show(a,vs,b,SqL.of q,r)
 |kl B=>cases e;have(a,vs,b,q,r):=r;show(a,vs,b,q,r)
 | _=>nomatch e
inductive Dn(G:Gc)(f:LS->Option (Option Int))(J:St)(H:Hp)(Q:Option Int->Hp->Prop):Prop
 |mk:∀Hf0 H0 Hf U i,au G Hf0 H0 Hf H J U->f U=aa i->(∀C H',Ext Hf H C H'->Q i H')->Dn G f J H Q
def DPt(c:Str->Addr)(X:Cx)(e:Option Expr)(f:LS->Option (Option Int)):Prop:=PO X e (Dn (Gx c X) f)
def Do:DPt c X ac (λ_=>aa ac):=λM s J H Q I b=>by
 have(Hf0,H0,Hf,U,i,st,a,k):=b;show(JC M s J H Q I (by cases a;show k Hf H (Ext.refl st.sub)))
abbrev mPt(f:MF1)(U:LS):Option (Option Int):=(f U).bind λd=>match d with
 |.int i=>aa (aa i)
 | _=>ac
def sT(h:DE c X e f):DPt c X (aa e) (mPt f):=λM s J H Q I g=>by
 have(Hf0,H0,Hf,U,i,st,a,k):=g
 show (JD h M s J H Q I (by
 unfold mPt at a
 cases b:f U with
 |none=>rw[b]at a;nomatch a
 |some d=>
  rw[b]at a
  cases d with
  |int n=>cases a;show(Hf0,H0,Hf,U,.int n,st,b,λv C H' x r=>(n,r,k C H' x))
  | _=>nomatch a))
def mSl(f:MF1)(l h:LS->Option (Option Int))(U:LS):OLD:=(f U).bind λd=>(lsD d).bind λE=>(l U).bind λlo=>(h U).map λhi=>pL E lo hi
def KM(r:ak G H E vs)(lo hi:Option Int):ak G H (pL E lo hi) (py vs lo hi):=by
 unfold pL py;rw[r.length];show(r.drop _).take _
variable{p2:Pos}
def wW{l h:LS->Option (Option Int)}{lo hi:Option Expr}(ha:DE c X e f)(L:DPt c X lo l)(I:DPt c X hi h):DO c X (.Subscript e (.Slice lo hi ac p2) pos) (mSl f l h):=
 PE.imp (JE JL ha L I) λJ H Q M=>by
  have(Hf0,H0,Hf,U,rs,st,b,k):=M;unfold mSl at b
  cases g:f U with
  |none=>rw[g]at b;nomatch b
  |some d=>
   cases i:lsD d with
   |none=>rw[g]at b;replace b:(lsD d).bind _=_:=b;rw[i]at b;nomatch b
   |some E=>
    cases j:l U with
    |none=>rw[g]at b;replace b:(lsD d).bind _=_:=b;rw[i,j]at b;nomatch b
    |some A=>
     cases u:h U with
     |none=>rw[g]at b;replace b:(lsD d).bind _=_:=b;rw[i,j,u]at b;nomatch b
     |some w=>
      rw[g]at b;replace b:(lsD d).bind _=_:=b;rw[i,j,u]at b;cases b;show(Hf0,H0,Hf,U,d,st,g,λv cm H1 m N=>(Hf0,H0,cm,U,A,st.step m,j,λcc H2 B=>(Hf0,H0,cc,U,w,(st.step m).step B,u,λn T C=>?_)));have(a,vs,G,q,r):=jG i N;subst G;have x:=(m.trans B).trans C;have y:=(B.trans C);show(a,vs,rfl,(m.s.trans y.h).seq q,λp z=>(k p _ n _ (x.trans (Ext.tmp x.s z)) (x.h.free z) (x.s.free z) a9 (KM (r.up y.f) _ _)))
abbrev rCD(G:Gc)(m:LD->OD):LVv->Hp->VK->Prop:=λvs H Q=>∃Hf E d,aq Hf H/\ak G Hf E vs/\m E=aa d/\∀v C H',Ext Hf H C H'->Rep G C d v->Q v H'
nonrec abbrev l5(c:Str->Addr)(X:Cx)(f:Value)(m:LD->OD):Prop:=gR X f (rCD (Gx c X) m)
def ar(m:LD->OD)(f:MF2)(U:LS):OD:=(f U).bind m
variable{m:LD->OD}{f:MF2}
def sU(h:ar m f U=aa d):∃E,f U=aa E/\m E=aa d:=by
 unfold ar at h
 cases e:f U with
 |none=>rw[e]at h;nomatch h
 |some E=>rw[e]at h;show(E,rfl,h)
variable{p:Pos}{x:Str}
def KN{id:String}(j:l5 c X (.builtin id) m)(n:Gl X x)(hm:X.mg x=ac)(hv:i6 x=aa (.builtin id))(ha:DA c X (e::es) f)(hn:autoParam (x ≠ "__name__") Zc)(a:autoParam (NDb x) Zc)
 (l:autoParam (StE X e es) Zb)(b:autoParam (BkE X pos es) Zb):
  DE c X (.Call (.Name x p) (e::es) [] pos) (ar m f):=PE.imp (wu j n hm hv ha.pa hn a l b) λJ H Q q=>by
 have(Hf0,H0,Hf,U,d,st,i,k):=q;have(E,g,h):=sU i;show(Hf0,H0,Hf,U,E,st,g,λvs C H' x r=>(C,E,d,x.s,r,h,λv cc H2 w u=>k v cc H2 (x.trans w) u))
def eW{id:String}(l:l5 c X (.builtin id) m)(u:∀E d,m E=aa d->d.scalar=ab)(q:Gl X x)(hm:X.mg x=ac)(hv:i6 x=aa (.builtin id))(ha:DAB c X (e::es) f)(hn:autoParam (x ≠ "__name__") Zc)(a:autoParam (NDb x) Zc)
 (n:autoParam (StE X e es) Zb)(b:autoParam (BkE X pos es) Zb):
  DE c X (.Call (.Name x p) (e::es) [] pos) (ar m f):=PE.imp (wu l q hm hv ha.pa hn a n b) λJ H Q w=>by
 have(Hf0,H0,Hf,U,d,st,j,k):=w;have(E,i,g):=sU j;show(Hf0,H0,Hf,U,E,st,i,λvs C H' x r=>(H',E,d,aq.refl _,r,g,λv cc H2 z y=>k v C H2 (x.trans (Ext.grow x.s z.h)) (y.sc (u _ _ g))))
abbrev cf:LD->OD
 | [.lst B]=>aa (.int B.length)
 | [.tup B]=>aa (.int B.length)
 | [.kl B]=>aa (.int B.length)
 | [.kt B]=>aa (.int B.length)
 | [.str x]=>if x.length<=16777216 then aa (.int x.length) else ac
 | _=>ac
def ak.one(r:ak G H [d] vs):∃v,vs=[v]/\Rep G H d v:=by
 have(v,a,e,h,q):=r;cases (q);show(v,e,h)
def Dr(e:cf E=aa d):∃a,E=[a]/\((∃B,ia a=aa B/\d=.int B.length)\/∃x,a=.str x/\x.length<=16777216/\d=.int x.length):=by
 cases E with
 |nil=>nomatch e
 |cons a E=>
  cases E with
  |cons _ _=>cases a <;> nomatch e
  |nil=>
   show(a,rfl,?_)
   cases a with
   |lst B=>cases e;show .inl (B,rfl,rfl)
   |tup B=>cases e;show .inl (B,rfl,rfl)
   |kl B=>cases e;show .inl (B,rfl,rfl)
   |kt B=>cases e;show .inl (B,rfl,rfl)
   |str x=>
    replace e:(if x.length<=16777216 then aa _ else ac)=aa d:=e
    grind
   | _=>nomatch e
def KO:l5 c X (.builtin "len") cf:=by
 rintro M s J H vs us Q I l ⟨Hf,E,d,j,r,e,k⟩
 have n:∀b B,E=[b]->ia b=aa B->d=.int B.length->wpAny _ X.A _ _ X.xe s:=λb B g es e0=>by
  subst g e0;have(v,f,i):=r.one;subst f;have(a,ws,h,q,rs):=nI es i;subst h;show JO M s J H _ us Q I l (a,ws,rfl,wN j q,?_);rw[<- rs.length];show k _ Hf H (Ext.refl j) rfl
 obtain⟨b,g,⟨B,f,h⟩ |⟨x,rfl,m,rfl⟩⟩:=Dr e
 .show n b B g f h
 .subst g;have(v,f,i):=r.one;subst f;show JP M s J H _ us Q I l (_,by rw[show v=V.str _ from i],by rw[df];show m,k _ Hf H (Ext.refl j) rfl)
def KP:∀E d,cf E=aa d->d.scalar=ab:=by
 intro E d e
 obtain⟨a,c,⟨B,b,rfl⟩ |⟨x,rfl,f,rfl⟩⟩:=Dr e <;> rfl
abbrev gB:LD->Option (LI0)
 | []=>aa []
 |.int i::E=>(gB E).map λr=>i::r
 | _=>ac
def Ds{G:Gc}{H:Hp}:∀{E:LD} {ns:LI0} {vs:LVv},gB E=aa ns->ak G H E vs->vs=ns.map V.int
 | [],_,_,e,r=>by cases e;show r
 |.int i::E,_,_,e,q4_=>by
  have(v,d,a,b,c):=q4_;subst a
  cases es:gB E with
  |none=>rw[gB,es]at e;cases e
  |some ns=>
   rw[gB,es]at e;cases e;rw[Ds es c,show v=V.int i from b]
   rfl
 |.non::_,_,_,e,_=>by cases e
 |.bl _::_,_,_,e,_=>by cases e
 |.str _::_,_,_,e,_=>by cases e
 |.lst _::_,_,_,e,_=>by cases e
 |.tup _::_,_,_,e,_=>by cases e
 |.kl _::_,_,_,e,_=>by cases e
 |.kt _::_,_,_,e,_=>by cases e
 |.dic _ _::_,_,_,e,_=>by cases e
 |.ins _ _ _::_,_,_,e,_=>by cases e
def KQ(ns:LI0):gB (ns.map D.int)=aa ns:=by
 induction ns with
 |nil=>rfl
 |cons n ns a=>rw[bP,gB,a];rfl
abbrev fD:LD->OD
 | [d]=>(lsD d).bind λE=>(gB E).map λns=>.int ns.sum
 | _=>ac
def l6(l:X.calm=ab):l5 c X (.builtin "sum") fD:=by
 rintro M s J H vs us Q I n ⟨Hf,E,d,g,r,e,k⟩;unfold fD at e;split at e
 .rename_i h
  cases b:lsD h with
  |none=>rw[b]at e;nomatch e
  |some B=>
   cases f:gB B with
   |none=>rw[b]at e;replace e:(gB B).map _=_:=e;rw[f]at e;nomatch e
   |some ns=>
    rw[b]at e;replace e:(gB B).map _=_:=e;rw[f]at e;cases e;have(v,j,m):=r.one;subst j;have(a,ws,i,q,rs):=jG b m;subst i;show Kl l M s J H _ us Q I n (a,ns,rfl,?_,k _ Hf H (Ext.refl g) rfl);rw[<- Ds f rs];show g.seq q
 .nomatch e
def l7:∀E d,fD E=aa d->d.scalar=ab:=by
 intro E d e;unfold fD at e;split at e
 .rename_i c
  cases a:lsD c with
  |none=>rw[a]at e;nomatch e
  |some B=>
   rw[a]at e;replace e:(gB B).map _=_:=e
   cases b:gB B with
   |none=>rw[b]at e;nomatch e
   |some ns=>rw[b]at e;cases e;rfl
 .nomatch e
def sV(n:i6 x=aa (.type "list"))(m:Gl X x)(hm:X.mg x=ac)(ha:DC c X e f)(i:autoParam (aR [e] X.env=(ae,eval e X.env,)::aR [] X.env) Zb)(hn:autoParam (x ≠ "__name__") Zc)(b:autoParam (NDb x) Zc)
 (g:autoParam ((cv pos (aR [] X.env)).any (·.1)=ae) Zb):DO c X (.Call (.Name x p) [e] [] pos) f:=
 PE.imp (Jy JQ m hm n (dE ha dk i) hn b i g) λJ H Q u=>by
 have(Hf0,H0,Hf,U,E,st,j,k):=u
 show (
  (Hf0,H0,Hf,U,E,st,j,λa vs C H' x q r=>(a,vs,rfl,q,λl d=>k l vs C _ (x.trans (Ext.tmp x.s d)) (x.h.free d) (x.s.free d) a9 r)))
abbrev tyN:D->Option String
 |.non=>aa "NoneType"
 |.bl _=>aa "bool"
 |.int _=>aa "int"
 |.str _=>aa "str"
 |.lst _=>aa "list"
 |.tup _=>aa "tuple"
 |.dic _ _=>aa "dict"
 | _=>ac
def wX(T:String)(d:D):OD:=(tyN d).map λt=>.bl (t==T || (t == "bool" && T == "int"))
def KR{t:String}(e:tyN d=aa t)(r:Rep G H d v):gx G.K H v (.type t):=by
 cases d with
 |non=>cases e;subst r;show .non
 |bl b=>cases e;subst r;show .bl b
 |int i=>cases e;subst r;show .int i
 |str x=>cases e;subst r;show .str x
 |lst B=>cases e;have(a,vs,c,q,r):=r;subst c;show .lst q
 |tup B=>cases e;have(a,vs,c,q,r):=r;subst c;show .tup q
 |dic ks B=>cases e;have(a,vs,c,q,l,r):=r;subst c;show .dK q
 | _=>nomatch e
def iP(K:aU)(T:String):Prop:=∀t∈["NoneType","bool","int","str","list","tuple","dict"],W.kitOne K (.type t) (.type T)=aa (t==T || (t == "bool" && T == "int"))
def KS{t:String}(e:tyN d=aa t):t∈["NoneType","bool","int","str","list","tuple","dict"]:=by
 cases d <;> first |(cases e;decide) |cases e
def fE(T:String)(f:MF1)(U:LS):OD:=(f U).bind (wX T)
def nK{f:MF1}{T:String}{b:Pos}{y:Str}(w:iP X.K T)(u:Gl X "isinstance")(hm:X.mg "isinstance"=ac)(z:i6 y=aa (.type T))(j:Gl X y)(l:X.mg y=ac)(ha:DB c X e f)
 (q:autoParam (aR [e,.Name y b] X.env=(ae,eval e X.env,)::aR [.Name y b] X.env) Zb)(n:autoParam (aR [.Name y b] X.env=(ae,eval (.Name y b) X.env,)::aR [] X.env) Zb)
 (hn:autoParam (y ≠ "__name__") Zc)(i:autoParam ((y==("__debug__":Str))=ae) Zc)(m:autoParam ((cv pos (aR [.Name y b] X.env)).any (·.1)=ae) Zb):
  DE c X (.Call (.Name "isinstance" p) [e,.Name y b] [] pos) (fE T f):=
 PE.imp (wu Km u hm boot_isinstance (dE ha (dE (HL (v:=.ty T) j l z rfl hn i) dk n) q) (by decide) (by decide) q m) λJ H Q A=>by
  have(Hf0,H0,Hf,U,d,st,a,k):=A;unfold fE at a
  cases h:f U with
  |none=>rw[h]at a;nomatch a
  |some x=>
   rw[h]at a;replace a:wX T x=aa d:=a;unfold wX at a
   cases g:tyN x with
   |none=>rw[g]at a;nomatch a
   |some t=>
    rw[g]at a;cases a;show(Hf0,H0,Hf,U,x,st,h,λv C H' B r=>(v,T,.type t,_,rfl,KR g r,w t (KS g),k _ C H' B rfl))
inductive tDG(G:Gc)(g:D->LS->Option LS)(v:V)(J:St)(H:Hp)(Q:St->Hp->Prop):Prop
 |mk:∀Hf0 H0 Hf U d ρ',au G Hf0 H0 Hf H J U->Rep G Hf d v->g d U=aa ρ'->(∀σ',au G Hf0 H0 Hf H σ' ρ'->Q σ' H)->tDG G g v J H Q
inductive Dt(G:Gc)(g:LD->LS->Option LS)(vs:LVv)(J:St)(H:Hp)(Q:St->Hp->Prop):Prop
 |mk:∀Hf0 H0 Hf U E ρ',au G Hf0 H0 Hf H J U->ak G Hf E vs->g E U=aa ρ'->(∀σ',au G Hf0 H0 Hf H σ' ρ'->Q σ' H)->Dt G g vs J H Q
structure DG(c:Str->Addr)(X:Cx)(tg:Expr)(k:Nat)(g:D->LS->Option LS):Prop where
 pg:PG X tg (tDG (Gx c X) g)
 len:∀d U ρ',g d U=aa ρ'->ρ'.length=U.length
 keep:∀d U ρ' i,g d U=aa ρ'->k<=i->ρ'[i]?=U[i]?
structure DGs(c:Str->Addr)(X:Cx)(tg:LEx)(k:Nat)(g:LD->LS->Option LS):Prop where
 pg:PGs X tg (Dt (Gx c X) g)
 len:∀d U ρ',g d U=aa ρ'->ρ'.length=U.length
 keep:∀d U ρ' i,g d U=aa ρ'->k<=i->ρ'[i]?=U[i]?
 many:∀E U ρ',g E U=aa ρ'->E.length=tg.length
def av(i:Nat)(d:D)(U:LS):Option LS:=aa (U.set i (.im d))
def Du(h:PG X e (gt i))(g:i<k):DG c X e k (av i):=
 (PG.imp h λv J H Q b=>by have(Hf0,H0,Hf,U,d,ρ',st,r,a,q):=b;cases a;show q _ (st.setIm r),λd U ρ' h=>by cases h;simp,λd U ρ' j h f=>by
  cases h;rw[j7 (by lia)])
def KU(i k:Nat)(a:X.N.Nodup)(d:autoParam (i<k) Zc)(hi:autoParam (X.N[i]?=aa x) Zb)(e:autoParam (Loc X.env.scope x) Zf)(b:autoParam (LcF X x) Zg):DG c X (.Name x pos) k (av i):=
 Du (vT a hi e b) d
def cD(E:LD)(U:LS):Option LS:=match E with
 | []=>aa U
 | _=>ac
def bd(g:D->LS->Option LS)(h:LD->LS->Option LS)(E:LD)(U:LS):Option LS:=match E with
 |d::E=>(g d U).bind λa=>h E a
 | []=>ac
def KW:DGs c X [] k cD:=by
 show(PGs.imp Im λvs J H Q f=>?_,λd U ρ' h=>?_,λd U ρ' i h _=>?_,λd U ρ' h=>?_)
 .have(Hf0,H0,Hf,U,E,ρ',st,r,e,q):=f
  cases E with
  |nil=>cases e;show(r,q _ st)
  |cons d E=>nomatch e
 .cases d with
  |nil=>cases h;rfl
  |cons a b=>nomatch h
 .cases d with
  |nil=>cases h;rfl
  |cons a b=>nomatch h
 .cases d with
  |nil=>cases h;rfl
  |cons a b=>nomatch h
variable{h:LD->LS->Option LS}
def sW{g:D->LS->Option LS}(e:bd g h E U=aa ρ'):∃d r a,E=d::r/\g d U=aa a/\h r a=aa ρ':=by
 cases E with
 |nil=>nomatch e
 |cons d r=>
  replace e:(g d U).bind _=_:=e
  cases b:g d U with
  |none=>rw[b]at e;nomatch e
  |some a=>rw[b]at e;show(d,r,a,rfl,b,e)
def KY{g:D->LS->Option LS}(m:DG c X e k g)(l:DGs c X es k h)(w:autoParam ((g8 (e::es) X.env).map (·.2)=assign e X.env::(g8 es X.env).map (·.2)) Zb):DGs c X (e::es) k (bd g h):=by
 show(PGs.imp (Io m.pg l.pg w) λvs J H Q x=>?_,λd U ρ' h=>?_,λd U ρ' i h hi=>?_,λd U ρ' h=>?_)
 .have(Hf0,H0,Hf,U,E,ρ',st,r,p,q):=x;have(d,j,a,rfl,f,b):=sW p;have(v,A,u,z,y):=r;show(v,A,u,Hf0,H0,Hf,U,d,a,st,z,f,λB n=>(Hf0,H0,Hf,a,j,ρ',n,y,b,q))
 .have(d,j,a,rfl,f,b):=sW h;rw[l.len _ _ _ b,m.len _ _ _ f]
 .have(d,j,a,rfl,f,b):=sW h;rw[l.keep _ _ _ _ b hi,m.keep _ _ _ _ f hi]
 .have(d,j,a,rfl,f,b):=sW h;rw[cr,cr,l.many _ _ _ b]
abbrev tpD:D->OLD
 |.tup B=>aa B
 |.kt B=>aa B
 | _=>ac
def Dv(e:tpD d=aa E)(r:Rep G H d v):∃a vs,v=.ref a/\SqT G.K H a vs/\ak G H E vs:=by
 cases d with
 |tup B=>cases e;have(a,vs,b,q,r):=r;show(a,vs,b,SqT.of q,r)
 |kt B=>cases e;have(a,vs,b,q,r):=r;show(a,vs,b,q,r)
 | _=>nomatch e
def cg(g:LD->LS->Option LS)(d:D)(U:LS):Option LS:=(tpD d).bind λE=>g E U
def wY{g:LD->LS->Option LS}(h:cg g d U=aa ρ'):∃E,tpD d=aa E/\g E U=aa ρ':=by
 unfold cg at h
 cases e:tpD d with
 |none=>rw[e]at h;nomatch h
 |some E=>rw[e]at h;show(E,rfl,h)
variable{kk:Nat}
def KZ{g:LD->LS->Option LS}(n:X.calm=ab)(h:DGs c X es k g)(hn:autoParam ((g8 es X.env).length=es.length) Zb)(f:autoParam ((g8 es X.env).findIdx? (·.1)=ac) Zb):DG c X (.Tuple es kk pos) k (cg g):=by
 show(PG.imp (Iq n h.pg hn f) λv J H Q p=>?_,λd U ρ' h'=>?_,λd U ρ' i h' hi=>?_)
 .have(Hf0,H0,Hf,U,d,ρ',st,r,m,q):=p;have(E,e,b):=wY m;have(a,vs,l,u,j):=Dv e r;show(a,vs,l,st.sub.tup u,by rw[<- j.length];show h.many _ _ _ b,Hf0,H0,Hf,U,E,ρ',st,j,b,q)
 .have(E,e,b):=wY h';show h.len _ _ _ b
 .have(E,e,b):=wY h';show h.keep _ _ _ _ b hi
def pM(G:Gc)(Hf:Hp)(S2:It)(E:LD):Prop:=∀C H',aq Hf C->aq C H'->∀i:Nat,
 (∀d,E[i]?=aa d->S2.go i H'/\∀x H2,S2.yld i H' x H2->∃cc,Ext C H' cc H2/\Rep G cc d x)/\(i=E.length->S2.stop i H')
def sX(G:Gc)(Hf H:Hp)(S2:It)(E:LD):Prop:=∀C H',Ext Hf H C H'->∀i:Nat,
 (∀d,E[i]?=aa d->S2.go i H'/\∀x H2,S2.yld i H' x H2->∃cc,Ext C H' cc H2/\Rep G cc d x)/\(i=E.length->S2.stop i H')
def pM.toE(h:pM G Hf S2 E):sX G Hf H S2 E:=λC H' x i=>h C H' x.f x.s i
inductive tDI(G:Gc)(f:MF2)(J:St)(H:Hp)(R:It->Hp->Prop):Prop
 |mk:∀Hf0 H0 Hf U E,au G Hf0 H0 Hf H J U->f U=aa E->(∀S2 C H',Ext Hf H C H'->pM G C S2 E->R S2 H')->tDI G f J H R
inductive wZ(G:Gc)(f:MF2)(J:St)(H:Hp)(R:It->Hp->Prop):Prop
 |mk:∀Hf0 H0 Hf U E,au G Hf0 H0 Hf H J U->f U=aa E->(∀S2 C H',Ext Hf H C H'->sX G C H' S2 E->R S2 H')->wZ G f J H R
def DI(c:Str->Addr)(X:Cx)(tg iter:Expr)(f:MF2):Prop:=PI X tg iter (tDI (Gx c X) f)
def DIe(c:Str->Addr)(X:Cx)(tg iter:Expr)(f:MF2):Prop:=PI X tg iter (wZ (Gx c X) f)
def DI.de(h:DI c X tg e f):DIe c X tg e f:=PI.imp h λJ H R b=>by
 have(Hf0,H0,Hf,U,E,st,a,k):=b;show((Hf0,H0,Hf,U,E,st,a,λS2 C H' x i=>k S2 C H' x i.toE))
def Dw(q:SqL G.K H l vs)(r:ak G Hf E vs):sX G Hf H (Itl G.K l) E:=λC H' b i=>by
 have a:=b.h.seq q;show(λd g=>?_,λj=>(vs,a,by rw[<- r.length,j];show aP _));have(v,c,m):=r.get g;show((vs,v,a,c),λx H2 (e,y)=>?_);subst e;have:=y vs a;rw[c]at this;cases this;show(C,Ext.refl b.s,m.up b.f)
def K0(q:SqT G.K Hf l vs)(r:ak G Hf E vs):pM G Hf (Itt G.K l) E:=λC H' f s i=>by
 have a:=(f.trans s).tup q;show(λd e=>?_,λg=>(vs,a,by rw[<- r.length,g];show aP _));have(v,b,h):=r.get e;show((vs,v,a,b),λx H2 (c,y)=>?_);subst c;have:=y vs a;rw[b]at this;cases this;show(C,Ext.refl s,h.up f)
def w4{f:MF1}(h:DE c X e f):DI c X tg e (aL f):=λM s J H R I A=>by
 have(Hf0,H0,Hf,U,E,st,b,k):=A;unfold aL at b
 cases g:f U with
 |none=>rw[g]at b;nomatch b
 |some d=>
  rw[g]at b
  cases j:lsD d with
  |some l=>
   have:l=E:=by cases d <;> first |(cases j;done) |(cases j;cases b;rfl)
   subst this;show vY h M s J H R I (Hf0,H0,Hf,U,d,st,g,λv C H' x r=>?_);have(a,vs,n,q,rs):=jG j r
   show⟨a,n,(vs,x.s.seq q),k _ C H' x λcc H2 f2 s2 i=>by
    have p:=(f2.trans s2).seq q;show(λd w=>?_,λz=>(vs,p,by rw[<- rs.length,z];show aP _));have(v,u,B):=rs.get w;show((vs,v,p,u),λx G (m,y)=>?_);subst m;have:=y vs p;rw[u]at this;cases this
    show(cc,Ext.refl s2,B.up f2)⟩
  |none=>
   have m:tpD d=aa E:=by cases d <;> first |(cases j;done) |(cases b;done) |(cases b;rfl)
   show IC h M s J H R I (Hf0,H0,Hf,U,d,st,g,λv C H' x r=>?_);have(a,vs,n,q,rs):=Dv m r;show(a,n,(vs,x.s.tup q),k _ C H' x (K0 q rs))
def rng(lo:Int)(n:Nat):LD:=(bw n).map λ(i:Nat)=>.int (lo+i)
def K1{lo:Int}:pM G Hf (Itr lo n) (rng lo n):=λC H' f s i=>by
 show(λd a=>?_,λb=>?_)
 .unfold rng at a;rw[bN]at a
  cases e:(bw n)[i]? with
  |none=>rw[e]at a;nomatch a
  |some j=>
   rw[e]at a;have(hi,c):=cA.mp e;rw[cq]at hi;rw[List.getElem_range]at c;subst c;cases a;show(hi,λx H2 (g,y)=>by subst g;show(C,Ext.refl s,y))
 .unfold rng at b;rw[aH,cq]at b;show Nat.le_of_eq b.symm
abbrev w5:LD->OLD
 | [.int j]=>if -(2 ^ 62)<=j/\j<2 ^ 62 then aa (rng 0 j.toNat) else ac
 | [.int i,.int j]=>if -(2 ^ 62)<=i/\i<2 ^ 62/\-(2 ^ 62)<=j/\j<2 ^ 62 then aa (rng i (j-i).toNat) else ac
 | _=>ac
def fF(f:MF2)(U:LS):OLD:=(f U).bind w5
def w6(i:Gl X "range")(hm:X.mg "range"=ac)(ha:DA c X [a] f)(m:autoParam (aR [a] X.env=[(ae,eval a X.env,)]) Zb):DI c X tg (.Call (.Name "range" p) [a] [] pos) (fF f):=
 PI.imp (IF i hm ha.pa m) λJ H R n=>by
  have(Hf0,H0,Hf,U,E,st,b,k):=n;unfold fF at b
  cases d:f U with
  |none=>rw[d]at b;nomatch b
  |some e=>
   rw[d]at b;replace b:w5 e=aa E:=b;have l:=ha.len U e d;show(Hf0,H0,Hf,U,e,st,d,λvs C H' x r=>?_);unfold w5 at b;split at b
   .split at b
    .rename_i j g;cases b;have(v,h,q):=r.one;cases (q);show(j,h,g.1,g.2,k _ C H' x K1)
    .nomatch b
   .nomatch l
   .nomatch b
def gC(k:Nat)(js:LN)(U:LS):LS:=lq k .no++js.map λj=>(U[j]?).getD .no
def au.weak(h:au G Hf0 H0 Hf H J U)(f:ρ'.length=U.length)(d:∀(i:Nat) (s:Sl),ρ'[i]?=aa s->s=.no\/U[i]?=aa s):au G Hf0 H0 Hf H J ρ':=by
 show h.re h.ext f (λi v s a b=>?_) λi s v a b c p=>?_
 .rcases d i s b with e |e
  .subst e;trivial
  .show h.at' i v s a e
 .rcases d i s b with e |e
  .subst e;show(p.calm rfl).elim
  .show(s,e,p)
def sY{a:Type}{x:a}{l:List a}{y:a}(h:(lq k x++l)[i]?=aa y):(i<k/\y=x)\/(k<=i/\l[i-k]?=aa y):=by
 by_cases hi:i<k
 .left;rw[j6 (by simpa using hi),vq,if_pos hi]at h;show(hi,(cS h).symm)
 .right;rw[lg (by simpa using rE hi),rn]at h;show(rE hi,h)
def l8{a b:Type}{f:a->b}{l:List a}{y:b}(h:(l.map f)[i]?=aa y):∃x,l[i]?=aa x/\y=f x:=by
 rw[bN]at h
 cases e:l[i]? with
 |none=>rw[e]at h;nomatch h
 |some x=>rw[e]at h;show(x,rfl,(cS h).symm)
def K2(h:js.Nodup){x:Nat}(a:js[i]?=aa x)(b:js[j]?=aa x):i=j:=by
 have(e,c):=cA.mp a;have(f,d):=cA.mp b;show(List.getElem_inj h).mp (c.trans d.symm)
def au.comp(k:Nat)(h:au G Hf0 H0 Hf H J U)(T:js.Nodup):au G Hf0 H0 Hf H (iL k js J) (gC k js U):=by
 have own:∀i s,(gC k js U)[i]?=aa s->s.calm=ae->∃j,k<=i/\js[i-k]?=aa j/\U[j]?=aa s:=λi s a r=>by
  rcases sY a with⟨_,e⟩ |⟨hi,a⟩
  .subst e;nomatch r
  .have(j,f,es):=l8 a
   cases e:U[j]? with
   |none=>rw[e]at es;subst es;nomatch r
   |some t=>rw[e]at es;replace es:s=t:=es;subst es;show(j,hi,f,e)
 have val:∀i v j,(iL k js J)[i]?=aa v->k<=i->js[i-k]?=aa j->v=(J[j]?).getD ac:=λi v j a hi f=>by
  rcases sY a with⟨Q,_⟩ |⟨_,a⟩
  .lia
  .have(A,g,es):=l8 a;rw[f]at g;cases g;show es
 show(h.ext,by simp[iL,gC],λi v s a b=>?_,λi j s t y z l a b c d p q=>?_)
 .rcases sY b with⟨_,e⟩ |⟨hi,b⟩
  .subst e;trivial
  .have(j,f,es):=l8 b;have I:=val i v j a hi f
   cases e:U[j]? with
   |none=>rw[e]at es;subst es;trivial
   |some t=>
    rw[e]at es;subst es;have(u,N,q):=h.slot e;rw[N]at I;subst I;show q
 .have r:s.calm=ae:=by
   cases w:s.calm with
   |true=>show(p.calm w).elim
   |false=>rfl
  have Y:t.calm=ae:=by
   cases w:t.calm with
   |true=>show(q.calm w).elim
   |false=>rfl
  have(L,hi,E,B):=own i s a r;have(A,x,f,C):=own j t b Y;have v1:=val i _ L c hi E;have M:=val j _ A d x f;have(u1,m,_):=h.slot B;have(u2,n,_):=h.slot C;rw[m]at v1;rw[n]at M;subst v1 M;have:=h.dj L A s t y z l B C m n p q;subst this;have:=K2 T E f
  lia
abbrev eB(h:D->Option OD):LD->OLD
 | []=>aa []
 |d::E=>(h d).bind λo=>(eB h E).map λr=>match o with
  |some y=>y::r
  |none=>r
def K3{h:D->Option OD}{r:LD}(e:eB h (d::E)=aa r):∃o a,h d=aa o/\eB h E=aa a/\r=(match o with |some y=>y::a |none=>a):=by
 dsimp only[eB]at e
 cases b:h d with
 |none=>rw[b]at e;nomatch e
 |some o=>
  cases c:eB h E with
  |none=>rw[b,c]at e;nomatch e
  |some a=>
   rw[b,c]at e;cases e;show(o,a,rfl,rfl,?_)
   cases o <;> rfl
def gD(g:D->LS->Option LS)(ft:MF4)(fe:MF1)(U:LS)(d:D):Option OD:=(g d U).bind λa=>(ft a).bind λb=>if b then (fe a).map aa else aa ac
def aV(k:Nat)(js:LN)(fi:MF2)(g:D->LS->Option LS)(ft:MF4)(fe:MF1)(U:LS):OLD:=
 (fi U).bind λE=>if E.length<=16777216 then eB (gD g ft fe (gC k js U)) E else ac
def w9{a:Type}{l:List a}(h:i<l.length):∃x,l[i]?=aa x/\l.drop i=x::l.drop (i+1):=(l[i],by simp[h],(drop_eq_getElem_cons h))
def DTs(c:Str->Addr)(X:Cx)(dV:LEx)(f:MF4):Prop:=PTs X dV (tDT (Gx c X) f)
def Dx:DTs c X [] kY:=PTs.imp Kh λJ H Q d=>by
 have(Hf0,H0,Hf,U,b,st,a,k):=d;show(by cases a;show k Hf H (Ext.refl st.sub))
def sZ{f:MF4}(h:DT c X e f):DTs c X [e] f:=Ki h
variable{g:D->LS->Option LS}{ft:MF4}{fe:MF1}{rs:LD}
def Dy(hj:js.Nodup)(hk:∀d U ρ' i,g d U=aa ρ'->k<=i->ρ'[i]?=U[i]?)(I:∀d U ρ',g d U=aa ρ'->ρ'.length=U.length){ti:TI}(st:au G Hf0 H0 Hf H J U)
 (hti:∀R:It->Hp->Prop,(∀S2 cm H1,Ext Hf H cm H1->sX G cm H1 S2 E->R S2 H1)->ti J H R)(hz:E.length<=16777216)(ef:eB (gD g ft fe (gC k js U)) E=aa rs)
 (kq:∀l vs C H',Ext Hf H C H'->H l=ac->C l=ac->H' l=aa (.lst vs)->ak G C rs vs->Q (.ref l) H'):nE k js ti (tDG G g) (tDT G ft) (tD G fe) J H Q:=by
 show hti _ λS2 cm H1 x1 it=>?_
 show(λi m ys σ' H'=>m=E.length-i/\i<=E.length/\∃C q rest,Ext cm H1 C H'/\au G Hf0 H0 C H' σ' _/\ak G C q ys/\eB _ (E.drop i)=aa rest/\rs=q++rest/\q.length<=i,
  (E.length,rfl,cK _,cm,[],rs,Ext.refl x1.s,(st.step x1).comp k hj,rfl,ef,rfl,aP _),?_)
 rintro i m ys σ' H' ⟨rfl,hi,C,q,rest,x2,st2,ra,ec,er,hal⟩;have L:ys.length<=aT:=by rw[df,<- ra.length];lia
 have(it1,it2):=it C H' x2 i
 by_cases u:i<E.length
 .have(d,ed,edr):=w9 u;have(go,yl):=it1 d ed
  show .inr (go,L,λN T H2=>E.length-_=E.length-_/\i+1<=E.length/\∃C q rest,Ext cm H1 C H2/\au G Hf0 H0 C H2 T _/\ak G C q N/\eB _ _=aa rest/\rs=q++rest/\q.length<=i+1,
   λN T H2 w=>(E.length-(i+1),by lia,w),λx H2 y=>?_)
  have(cc,x3,rx):=yl x H2 y;rw[edr]at ec;have(o,r',c,A,p):=K3 ec;unfold gD at c
  cases B:g d _ with
  |none=>rw[B]at c;nomatch c
  |some a=>
   rw[B]at c;replace c:(ft a).bind _=_:=c
   cases et:ft a with
   |none=>rw[et]at c;nomatch c
   |some b=>
    rw[et]at c;show(Hf0,H0,cc,gC k js U,d,a,st2.step x3,rx,B,λY r=>(Hf0,H0,cc,a,b,r,et,λz H4 M=>?_))
    have back:∀{n H5:Hp},au G Hf0 H0 n H5 Y a->au G Hf0 H0 n H5 Y _:=λ{n H5} s5=>s5.weak (I _ _ _ B).symm λj s hs=>by
     rcases sY hs with⟨_,e⟩ |⟨hj',_⟩
     .show .inl e
     .show .inr (by rw[hk _ _ _ _ B hj'];show hs)
    cases b with
    |true=>
     cases ee:fe a with
     |none=>rw[ee]at c;nomatch c
     |some y'=>
      rw[ee]at c;cases c;show(Hf0,H0,z,a,y',r.step M,ee,λv n H5 x5 r5=>?_);have x:=(x3.trans M).trans x5;show(rfl,u,n,q++[y'],r',x2.trans x,back ((r.step M).step x5),(ra.up x.f).append (.cons r5 .nil),A,?_,by simp only[bf,dN];lia);simp only[er,p,cX]
      rfl
    |false=>
     cases c;have x:=x3.trans M;show(rfl,u,z,q,r',x2.trans x,back (r.step M),ra.up x.f,A,by rw[er,p],by lia)
 .have ei:i=E.length:=by lia
  subst ei;show .inl (it2 rfl,L,λl h1 h2=>?_);rw[drop_eq_nil_of_le (aP _)]at ec;cases ec;rw[bB]at er;subst er;have x:=x1.trans x2;show kq l ys C _ (x.trans (Ext.tmp x.s h2)) (x.h.free h2) (x.s.free h2) a9 ra
variable{fi:MF2}
def xc(e:js.Nodup)(f:∀d U ρ' i,g d U=aa ρ'->k<=i->ρ'[i]?=U[i]?)(b:∀d U ρ',g d U=aa ρ'->ρ'.length=U.length)(h:tDO G (aV k js fi g ft fe) J H Q):
  nE k js (wZ G fi) (tDG G g) (tDT G ft) (tD G fe) J H Q:=by
 have(Hf0,H0,Hf,U,rs,st,a,j):=h;unfold aV at a
 cases c:fi U with
 |none=>rw[c]at a;nomatch a
 |some E=>
  rw[c]at a;replace a:(if E.length<=16777216 then eB _ E else ac)=aa rs:=a
  by_cases hz:E.length<=16777216
  .rw[if_pos hz]at a;show Dy e f b st (λR q=>(Hf0,H0,Hf,U,E,st,c,λS2 cm H1 l it=>q S2 cm H1 l it)) hz a j
  .rw[if_neg hz]at a
   nomatch a
def ib(k:Nat)(js:LN)(Nc:LSt)(d:X.calm=ab)(hi:DIe c X tg iter fi)(a:∀cl S4 ex dd dm,DG c (X.comp scope Nc cl S4 ex dd dm) tg k g)(j:∀cl S4 ex dd dm,DTs c (X.comp scope Nc cl S4 ex dd dm) dV ft)
 (e:∀cl S4 ex dd dm,DE c (X.comp scope Nc cl S4 ex dd dm) d0 fe)(b:autoParam (kE scope X.env.scope.names X.N Nc k js=ab) Zb)(i:autoParam (∀x,kc iter X.env x=pure x) Zd)(f:autoParam (js.Nodup) Zc):
  DO c X (.ListComp d0 [(tg,iter,dV,0)] scope pos) (aV k js fi g ft fe):=
 PE.imp (Kk (tt:=tDT (Gx c X) ft) (te:=tD (Gx c X) fe) k js Nc d hi (λcl S4 ex dd dm=>(a cl S4 ex dd dm).pg) j e b i) λJ H Q h=>
  xc f (a [] 0 [] X.s₀ X.H₀).keep (a [] 0 [] X.s₀ X.H₀).len h
def dvc(i:Nat)(b:autoParam (Nc[i]?=aa x) Zb)(hv:autoParam (Vis scope x) Ze)(hd:autoParam (NDb x) Zc)
 (a:autoParam (NCd x) Zc):DE c (X.comp scope Nc cl S4 ex dd dm) (.Name x pos) (af i):=C6 (pvc i b hv hd a)
def K4(i:Nat)(b:autoParam (Nc[i]?=aa x) Zb)(hv:autoParam (Vis scope x) Ze)(hd:autoParam (NDb x) Zc)
 (a:autoParam (NCd x) Zc):DB c (X.comp scope Nc cl S4 ex dd dm) (.Name x pos) (c6 i):=C8 (pvc i b hv hd a)
def K5(i:Nat)(b:autoParam (Nc[i]?=aa x) Zb)(hv:autoParam (Vis scope x) Ze)(hd:autoParam (NDb x) Zc)
 (a:autoParam (NCd x) Zc):DC c (X.comp scope Nc cl S4 ex dd dm) (.Name x pos) (ai i):=C7 (pvc i b hv hd a)
def dgc(i k:Nat)(b:autoParam (i<k) Zc)(a:autoParam (Nc.Nodup) Zn)(hi:autoParam (Nc[i]?=aa x) Zb)(d:autoParam (scope.names.lookup x=aa .local) Zb):DG c (X.comp scope Nc cl S4 ex dd dm) (.Name x pos) k (av i):=
 Du (pgc i a hi d) b
inductive Fl where
 |nx (U:LS)
 |bk (U:LS)
 |ct (U:LS)
 |rt (d:D)
 |rtO (E:LD)
 |rtS (d:D) (U:LS)
 |rtT (o:O)
nonrec abbrev MF3:=LS->Option Fl
abbrev s9(G:Gc)(Hf0 H0 Hf:Hp)(S5:iI):Fl->Prop
 |.nx ρ'=>∀σ' C H',aq Hf C->au G Hf0 H0 C H' σ' ρ'->S5.nx σ' H'
 |.bk ρ'=>∀σ' C H',aq Hf C->au G Hf0 H0 C H' σ' ρ'->S5.bk σ' H'
 |.ct ρ'=>∀σ' C H',aq Hf C->au G Hf0 H0 C H' σ' ρ'->S5.ct σ' H'
 |.rt d=>∀v C H',Ext Hf0 H0 C H'->Rep G C d v->S5.rt v H'
 |.rtO E=>∀l vs C H',Ext Hf0 H0 C H'->H0 l=ac->C l=ac->H' l=aa (.lst vs)->ak G C E vs->S5.rt (.ref l) H'
 |.rtS d U=>∀v σ' C H',au G Hf0 H0 C H' σ' U->Rep G C d v->S5.rt v H'
 |.rtT o=>∀u fp C H',Ext Hf0 H0 C H'->OT G C H' o u fp->fp.Nodup->(∀a∈fp,H0 a=ac/\C a=ac)->S5.rt u H'
inductive tDS(G:Gc)(F:MF3)(S5:iI)(J:St)(H:Hp):Prop
 |mk:∀Hf0 H0 Hf U o,au G Hf0 H0 Hf H J U->F U=aa o->s9 G Hf0 H0 Hf S5 o->tDS G F S5 J H
def DS(c:Str->Addr)(X:Cx)(st:Stmt)(F:MF3):Prop:=PS X st (tDS (Gx c X) F)
def DSs(c:Str->Addr)(X:Cx)(st:List Stmt)(F:MF3):Prop:=PSs X st (tDS (Gx c X) F)
def aS(U:LS):Option Fl:=aa (.nx U)
def aj(F a:MF3)(U:LS):Option Fl:=(F U).bind λo=>match o with
 |.nx ρ'=>a ρ'
 |o=>aa o
def aN(t:MF4)(F a:MF3)(U:LS):Option Fl:=(t U).bind λb=>if b then F U else a U
def bg(i:Nat)(f:MF1)(U:LS):Option Fl:=(f U).map λd=>.nx (U.set i (.im d))
def dF(i:Nat)(f:MF2)(U:LS):Option Fl:=(f U).map λd=>.nx (U.set i (.own d))
def aA(f:MF1)(U:LS):Option Fl:=(f U).map .rt
def cE(f:MF2)(U:LS):Option Fl:=(f U).map .rtO
def fW(i:Nat)(U:LS):Option Fl:=match U[i]? with
 |some (.im d)=>aa (.rt d)
 |some (.own B)=>aa (.rtO B)
 | _=>ac
abbrev ji(g:D->LS->Option LS)(F:MF3):LD->MF3
 | [],U=>aa (.nx U)
 |d::E,U=>(g d U).bind λb=>(F b).bind λo=>match o with
  |.nx a=>ji g F E a
  |.ct a=>ji g F E a
  |.bk a=>aa (.nx a)
  |.rt d=>aa (.rt d)
  |.rtO d=>aa (.rtO d)
  |.rtS d a=>aa (.rtS d a)
  |.rtT o=>aa (.rtT o)
def bU(fi:MF2)(g:D->LS->Option LS)(F:MF3)(U:LS):Option Fl:=(fi U).bind λE=>ji g F E U
abbrev fX(t:MF4)(F:MF3):Nat->MF3
 | 0,_=>ac
 |n+1,U=>(t U).bind λb=>if b then (F U).bind λo=>match o with
   |.nx a=>fX t F n a
   |.ct a=>fX t F n a
   |.bk a=>aa (.nx a)
   |.rt d=>aa (.rt d)
   |.rtO d=>aa (.rtO d)
   |.rtS d a=>aa (.rtS d a)
   |.rtT o=>aa (.rtT o)
  else aa (.nx U)
def xf(i:Nat)(U:LS):LS:=match U[i]? with
 |some (.own B)=>U.set i (.im (.lst B))
 |some (.ownd ks B)=>U.set i (.im (.dic ks B))
 |some (.obj c ns B)=>U.set i (.im (.ins c ns B))
 | _=>U
def eC(i:Nat)(F:MF3)(U:LS):Option Fl:=F (xf i U)
def fG(i:Nat)(f:MF1)(U:LS):Option Fl:=(f U).bind λd=>match U[i]? with
 |some (.own B)=>if B.length<16777216 then aa (.nx (U.set i (.own (B++[d])))) else ac
 | _=>ac
def l9(f:MF1)(U:LS):OLD:=(f U).bind λd=>match d with
 |.lst B=>aa B
 | _=>ac
def ma(i:Nat)(f:MF2)(U:LS):Option Fl:=(f U).bind λE=>match U[i]? with
 |some (.own B)=>if B.length+E.length<=16777216 then aa (.nx (U.set i (.own (B++E)))) else ac
 | _=>ac
def xg:DSs c X [] aS:=PSs.imp Cd λS5 J H b=>by
 have(Hf0,H0,Hf,U,o,d,a,k):=b;show(by cases a;show k J Hf H (aq.refl _) d)
def s9.up{S5:iI}{o:Fl}(h:s9 G Hf0 H0 Hf S5 o)(s:aq Hf C):s9 G Hf0 H0 C S5 o:=by
 cases o with
 |nx U=>show λσ' cc H2 s2 q=>h σ' cc H2 (s.trans s2) q
 |bk U=>show λσ' cc H2 s2 q=>h σ' cc H2 (s.trans s2) q
 |ct U=>show λσ' cc H2 s2 q=>h σ' cc H2 (s.trans s2) q
 |rt d=>show h
 |rtO d=>show h
 |rtS d U=>show h
 |rtT o=>show h
variable{st:Stmt}{sts:List Stmt}{F F':MF3}
def ax(g:DS c X st F)(h:DSs c X sts F'):DSs c X (st::sts) (aj F F'):=PSs.imp (r9 g h) λS5 J H i=>by
 have(Hf0,H0,Hf,U,o,j,a,k):=i;unfold aj at a
 cases e:F U with
 |none=>rw[e]at a;nomatch a
 |some o1=>
  rw[e]at a;show(Hf0,H0,Hf,U,o1,j,e,?_)
  cases o1 with
  |nx b=>show λl cm H1 s1 f=>(Hf0,H0,cm,b,o,f,a,k.up s1)
  |bk b=>cases a;show k
  |ct b=>cases a;show k
  |rt d=>cases a;show k
  |rtO d=>cases a;show k
  |rtS d b=>cases a;show k
  |rtT o'=>cases a;show k
def bh(a:DS c X st F):DSs c X [st] F:=Ce a
variable{a b:List Stmt}{t:MF4}
def bZ(j:DT c X cd t)(ha:DSs c X a F)(i:DSs c X b F'):DS c X (.If cd a b pos) (aN t F F'):=PS.imp (Ij j ha i) λS5 J H l=>by
 have(Hf0,H0,Hf,U,o,h,d,k):=l;unfold aN at d
 cases g:t U with
 |none=>rw[g]at d;nomatch d
 |some x=>
  rw[g]at d;show(Hf0,H0,Hf,U,x,h,g,λcm H1 e=>?_)
  cases x with
  |true=>rw[if_pos rfl];show(Hf0,H0,cm,U,o,h.step e,d,k.up e.f)
  |false=>rw[if_neg bD];show(Hf0,H0,cm,U,o,h.step e,d,k.up e.f)
def Dz{f:MF1}(g:PS X st (hV te (gt i)))(hi:∀J H Q,tD (Gx c X) f J H Q->te J H Q):DS c X st (bg i f):=PS.imp g λS5 J H h=>by
 have(Hf0,H0,Hf,U,o,e,a,k):=h;unfold bg at a
 cases b:f U with
 |none=>rw[b]at a;nomatch a
 |some d=>
  rw[b]at a;cases a;show hi _ _ _ (Hf0,H0,Hf,U,d,e,b,λv C H' x r=>k _ C H' x.f ((e.step x).setIm r))
def DD(j:PS X st (hV te (gt i)))(hi:∀J H Q,tDO (Gx c X) f J H Q->te J H Q):DS c X st (dF i f):=PS.imp j λS5 J H m=>by
 have(Hf0,H0,Hf,U,o,e,a,k):=m;unfold dF at a
 cases b:f U with
 |none=>rw[b]at a;nomatch a
 |some d=>
  rw[b]at a;cases a;show hi _ _ _ (Hf0,H0,Hf,U,d,e,b,λl vs C H' x hn g h r=>k _ C H' x.f (e.setOwn rfl x hn g (vs,h,r)))
def nM(i:Nat){f:MF1}(a:X.N.Nodup)(b:DE c X e f)(hi:autoParam (X.N[i]?=aa x) Zb)(j:autoParam (Loc X.env.scope x) Zf)(g:autoParam (fP e (aa (.Name x c5)) pos.line X.env=pure ae) Zb)(d:autoParam (LcF X x) Zg):
  DS c X (.Assign [.Name x c5] e pos) (bg i f):=Dz (lM a hi j b g d) λ_ _ _ h=>h
def K6(i:Nat)(a:X.N.Nodup)(b:DO c X e f)(hi:autoParam (X.N[i]?=aa x) Zb)(j:autoParam (Loc X.env.scope x) Zf)(g:autoParam (fP e (aa (.Name x c5)) pos.line X.env=pure ae) Zb)(d:autoParam (LcF X x) Zg):
  DS c X (.Assign [.Name x c5] e pos) (dF i f):=DD (lM a hi j b g d) λ_ _ _ h=>h
def K7(h:tD G (aE f) J H Q):tDO G f J H Q:=by
 have(Hf0,H0,Hf,U,d,st,a,k):=h;unfold aE at a
 cases b:f U with
 |none=>rw[b]at a;nomatch a
 |some E=>
  rw[b]at a;have a:=cS a;subst a;show(Hf0,H0,Hf,U,E,st,b,λl vs C H' x hn c e r=>k _ _ H' (x.fix hn c e) (l,vs,rfl,a9,r.up (bE c)))
def DF(i:Nat)(k:Nat)(js:LN)(Nc:LSt)(f:X.N.Nodup)(j:X.calm=ab)(hi:DIe c X tg iter fi)
 (a:∀cl S4 ex dd dm,DG c (X.comp scope Nc cl S4 ex dd dm) tg k g)(q:∀cl S4 ex dd dm,DTs c (X.comp scope Nc cl S4 ex dd dm) dV ft)(l:∀cl S4 ex dd dm,DE c (X.comp scope Nc cl S4 ex dd dm) d0 fe)
 (b:autoParam (X.N[i]?=aa x) Zb)(r:autoParam (Loc X.env.scope x) Zf)
 (d:autoParam (fP (.ListComp d0 [(tg,iter,dV,0)] scope pos) (aa (.Name x c5)) ej.line X.env=pure ab) Zb)
 (e:autoParam (kE scope X.env.scope.names X.N Nc k js=ab) Zb)(p:autoParam (∀x,kc iter X.env x=pure x) Zd)(n:autoParam (js.Nodup) Zc)
 (m:autoParam (LcF X x) Zg):
  DS c X (.Assign [.Name x c5] (.ListComp d0 [(tg,iter,dV,0)] scope pos) ej) (dF i (aV k js fi g ft fe)):=
 DD (wL (tt:=tDT (Gx c X) ft) (te:=tD (Gx c X) fe) k js Nc f b r j hi (λcl S4 ex dd dm=>(a cl S4 ex dd dm).pg) q l d e p m) λJ H Q h=>xc n (a [] 0 [] X.s₀ X.H₀).keep (a [] 0 [] X.s₀ X.H₀).len h
def nN(i:Nat)(k:Nat)(js:LN)(Nc:LSt)(f:X.N.Nodup)(j:X.calm=ab)(hi:DIe c X tg iter fi)
 (a:∀cl S4 ex dd dm,DG c (X.comp scope Nc cl S4 ex dd dm) tg k g)(q:∀cl S4 ex dd dm,DTs c (X.comp scope Nc cl S4 ex dd dm) dV ft)(l:∀cl S4 ex dd dm,DE c (X.comp scope Nc cl S4 ex dd dm) d0 fe)
 (b:autoParam (X.N[i]?=aa x) Zb)(r:autoParam (Loc X.env.scope x) Zf)
 (d:autoParam (fP (.ListComp d0 [(tg,iter,dV,0)] scope pos) (aa (.Name x c5)) ej.line X.env=pure ab) Zb)
 (e:autoParam (kE scope X.env.scope.names X.N Nc k js=ab) Zb)(p:autoParam (∀x,kc iter X.env x=pure x) Zd)(n:autoParam (js.Nodup) Zc)
 (m:autoParam (LcF X x) Zg):
  DS c X (.Assign [.Name x c5] (.ListComp d0 [(tg,iter,dV,0)] scope pos) ej) (bg i (aE (aV k js fi g ft fe))):=
 Dz (wL (tt:=tDT (Gx c X) ft) (te:=tD (Gx c X) fe) k js Nc f b r j hi (λcl S4 ex dd dm=>(a cl S4 ex dd dm).pg) q l d e p m) λJ H Q h=>xc n (a [] 0 [] X.s₀ X.H₀).keep (a [] 0 [] X.s₀ X.H₀).len (K7 h)
def c7{f:MF1}(h:DE c X e f):DS c X (.Return (aa e) pos) (aA f):=PS.imp (o9 h) λS5 J H i=>by
 have(Hf0,H0,Hf,U,o,g,a,k):=i;unfold aA at a
 cases b:f U with
 |none=>rw[b]at a;nomatch a
 |some d=>
  rw[b]at a;cases a;show(Hf0,H0,Hf,U,d,g,b,λv C H' x r=>k v C H' (g.ext.trans x) r)
def ic(f:MF1)(U:LS):Option Fl:=(f U).map λd=>.rtS d U
def K8{f:MF1}(h:DE c X e f):DS c X (.Return (aa e) pos) (ic f):=PS.imp (o9 h) λS5 J H i=>by
 have(Hf0,H0,Hf,U,o,g,a,k):=i;unfold ic at a
 cases b:f U with
 |none=>rw[b]at a;nomatch a
 |some d=>
  rw[b]at a;cases a;show(Hf0,H0,Hf,U,d,g,b,λv C H' x r=>k v J C H' (g.step x) r)
def jH(i:DO c X e f):DS c X (.Return (aa e) pos) (cE f):=PS.imp (o9 i) λS5 J H n=>by
 have(Hf0,H0,Hf,U,o,g,a,k):=n;unfold cE at a
 cases b:f U with
 |none=>rw[b]at a;nomatch a
 |some d=>
  rw[b]at a;cases a;show(Hf0,H0,Hf,U,d,g,b,λl vs C H' x hn j m r=>k l vs C H' (g.ext.trans x) (g.ext.h.free hn) j m r)
def K9(h:PE X e (cL i)):DS c X (.Return (aa e) pos) (fW i):=PS.imp (o9 h) λS5 J H m=>by
 have(Hf0,H0,Hf,U,o,b,a,k):=m;unfold fW at a
 cases es:U[i]? with
 |none=>rw[es]at a;nomatch a
 |some s=>
  rw[es]at a
  cases s with
  |im d=>
   cases a;have(v,f,r):=b.imm es
   show(_,f,k v Hf H b.ext r)
  |own B=>
   cases a;have(l,f,g,j,vs,q,r):=b.ownAt rfl es
   show(_,f,k l vs Hf H b.ext g j q r)
  | _=>nomatch a
def La(i:Nat)(b:autoParam (X.N[i]?=aa x) Zb)(hv:autoParam (Vis X.env.scope x) Ze)(hd:autoParam (NDb x) Zc)
 (a:autoParam (NCd x) Zc):DS c X (.Return (aa (.Name x p)) pos) (fW i):=K9 (nt b hv hd a)
def gT(hp:PassesOwn (model X.prog X.w) X.A X.env X.xe)(hc:X.calm=ab)(hi:DI c X tg iter fi)(hg:DG c X tg kk g)(hb:DSs c X a F)(hs:autoParam (∀x,kc iter X.env x=pure x) Zd):
  DS c X (.For tg iter a [] pos) (bU fi g F):=PS.imp (Ch hp hc hi hg.pg hb hs) λS5 J H q_=>by
 have(Hf0,H0,Hf,U,o,Y,q,k):=q_;unfold bU at q
 cases z:fi U with
 |none=>rw[z]at q;nomatch q
 |some E=>
  rw[z]at q;show(Hf0,H0,Hf,U,E,Y,z,λS2 cm H1 T it=>?_);show(λi m σ' H'=>m=E.length-i/\i<=E.length/\∃C ρ',au _ Hf0 H0 C H' σ' ρ'/\aq cm C/\ji g F (E.drop i) ρ'=aa o,(E.length,rfl,cK _,cm,U,Y.step T,aq.refl _,q),?_);rintro i m σ' H' ⟨rfl,hi',C,ρ',n,s1,em⟩;have(L,M):=it C H' s1 n.sub i
  by_cases l:i<E.length
  .have(d,ed,G):=w9 l;have(go,yl):=L d ed;rw[G]at em;dsimp only[ji]at em;show .inr (go,λu H2=>E.length-_=E.length-_/\i+1<=E.length/\∃C ρ',au _ Hf0 H0 C H2 u ρ'/\aq cm C/\ji g F _ ρ'=aa o,λu H2 w=>(E.length-(i+1),by lia,w),λx H2 y=>?_);have(cc,x2,rx):=yl x H2 y
   cases I:g d ρ' with
   |none=>rw[I]at em;nomatch em
   |some j=>
    rw[I]at em;replace em:(F j).bind _=_:=em
    cases B:F j with
    |none=>rw[B]at em;nomatch em
    |some o1=>
     rw[B]at em;show(Hf0,H0,cc,ρ',d,j,n.step x2,rx,I,λσ3 Q=>(Hf0,H0,cc,j,o1,Q,B,?_));have N:=s1.trans x2.f
     cases o1 with
     |nx h=>show λp b v r e=>(rfl,l,b,h,e,N.trans r,em)
     |ct h=>show λp b v r e=>(rfl,l,b,h,e,N.trans r,em)
     |bk h=>cases em;show λp b v r e=>k p b v ((T.f.trans N).trans r) e
     |rt d=>cases em;show k
     |rtO d=>cases em;show k
     |rtS d h=>cases em;show k
     |rtT o'=>cases em;show k
  .have ei:i=E.length:=by lia
   subst ei;rw[drop_eq_nil_of_le (aP _)]at em;cases em;show .inl (M rfl,k σ' C H' (T.f.trans s1) n)
def pO(n:Nat)(G:PassesOwn (model X.prog X.w) X.A X.env X.xe)(E:DT c X cd t)(B:DSs c X a F):DS c X (.While cd a [] pos) (fX t F n):=PS.imp (Ix G E B) λS5 J H I=>by
 have(Hf0,H0,Hf,U,o,L,z,k):=I;show(λm σ' H'=>∃C ρ',au _ Hf0 H0 C H' σ' ρ'/\aq Hf C/\fX t F m ρ'=aa o,(n,Hf,U,L,aq.refl _,z),?_);rintro m σ' H' ⟨C,ρ',i,s1,em⟩
 cases m with
 |zero=>nomatch em
 |succ m=>
  dsimp only[fX]at em
  cases v:t ρ' with
  |none=>rw[v]at em;nomatch em
  |some b=>
   rw[v]at em;show(Hf0,H0,C,ρ',b,i,v,λcc H2 q=>?_)
   cases b with
   |false=>
    cases em
    show k σ' cc H2 (s1.trans q.f) (i.step q)
   |true=>
    cases u:F ρ' with
    |none=>rw[u]at em;nomatch em
    |some o1=>
     rw[u]at em;show(λp y=>∃C ρ',au _ Hf0 H0 C y p ρ'/\aq Hf C/\fX t F m ρ'=aa o,λp y w=>(m,cR _,w),Hf0,H0,cc,ρ',o1,i.step q,u,?_);have x:=s1.trans q.f
     cases o1 with
     |nx h=>show λj e r l g=>(e,h,g,x.trans l,em)
     |ct h=>show λj e r l g=>(e,h,g,x.trans l,em)
     |bk h=>cases em;show λj e r l g=>k j e r (x.trans l) g
     |rt d=>cases em;show k
     |rtO d=>cases em;show k
     |rtS d h=>cases em;show k
     |rtT o'=>cases em;show k
def Lb{S5:iI}(h:tDS G (eC i F) S5 J H):tDS G F S5 J H:=by
 have(Hf0,H0,Hf,U,o,b,c,k):=h;unfold eC xf at c;split at c
 .rename_i B es;have(l,e,f,a,vs,q,r):=b.ownAt rfl es;show(Hf0,H0,_,_,o,b.fixd (d:=.lst B) rfl es e q (l,vs,rfl,a9,r.up (bE a)),c,k.up (bE a))
 .rename_i ks B es;have(l,e,f,a,vs,q,z,r):=b.ownAt rfl es;show(Hf0,H0,_,_,o,b.fixd (d:=.dic ks B) rfl es e q (l,vs,rfl,a9,z,r.up (bE a)),c,k.up (bE a))
 .rename_i g ns B es;have(l,e,f,a,dx,vs,q,z,r):=b.ownAt rfl es;show(Hf0,H0,_,_,o,b.fixd (d:=.ins g ns B) rfl es e q (l,dx,vs,rfl,a9,z,r.up (bE a)),c,k.up (bE a))
 .show(Hf0,H0,Hf,U,o,b,c,k)
def jk(i:Nat)(h:DS c X st F):DS c X st (eC i F):=PS.imp h λ_ _ _=>Lb
def Lc{f:MF1}(h:PS X st (jD (tBM X.K "list" ss (cL i) (kA (tD (Gx c X) f) iK)))):DS c X st (fG i f):=PS.imp h λS5 J H m=>by
 have(Hf0,H0,Hf,U,o,e,a,k):=m;unfold fG at a
 cases b:f U with
 |none=>rw[b]at a;nomatch a
 |some d=>
  rw[b]at a;split at a
  .rename_i B es;split at a
   .rename_i j;cases a;have(l,g,p,u,vs,q,r):=e.ownAt rfl es;show(_,g,.inl (rfl,_,SqL.of q),Hf0,H0,Hf,U,d,e,b,λv C H' x n=>?_);show(l,vs,v,rfl,rfl,(x.h _ _ q),by rw[df,<- r.length];show j,k J C _ x.f ((e.step x).mutd rfl rfl es g (vs++[v],a9,(r.up x.f).append (.cons n .nil))))
   .nomatch a
  .nomatch a
def Ld{f:MF1}(h:PS X st (jD (tBM X.K "list" wA (cL i) (kA (tD (Gx c X) f) iK)))):DS c X st (ma i (l9 f)):=PS.imp h λS5 J H u=>by
 have(Hf0,H0,Hf,U,o,g,b,k):=u;unfold ma l9 at b
 cases e:f U with
 |none=>rw[e]at b;nomatch b
 |some d=>
  rw[e]at b
  cases d with
  |lst E=>
   replace b:(match U[i]? with |some (.own B)=>if B.length+E.length<=16777216 then aa _ else ac | _=>ac)=aa o:=b
   split at b
   .rename_i B es;split at b
    .rename_i p;cases b;have(l,j,z,A,vs,q,r):=g.ownAt rfl es;show(_,j,.inl (rfl,_,SqL.of q),Hf0,H0,Hf,U,.lst E,g,e,λv C H' x y=>?_);have(a,us,n,w,m):=y;subst n;show(l,a,vs,us,rfl,rfl,(x.h _ _ q),x.s _ _ w,by rw[df,<- r.length,<- m.length];show p,k J C _ x.f ((g.step x).mutd rfl rfl es j (vs++us,a9,(r.up x.f).append m)))
    .grind
   .grind
  | _=>nomatch b
abbrev DH:Fl->OD
 |.rt d=>aa d
 |.rtO E=>aa (.lst E)
 |.rtS d _=>aa d
 |.nx _=>aa .non
 | _=>ac
def eE(n:Nat)(E:LD):LS:=E.map .im++lq (n-E.length) .no
def aQ(n:Nat)(F:MF3)(E:LD):OD:=(F (eE n E)).bind DH
def kL(n:Nat)(F:MF3)(E:LD):OLD:=(F (eE n E)).bind λo=>match o with
 |.rtO E=>aa E
 | _=>ac
def spD(G:Gc)(n:Nat)(m:LD->OD):Sp:=λvs H Q _=>∃Hf E d,aq Hf H/\ak G Hf E vs/\E.length=n/\m E=aa d/\∀v C H',Ext Hf H C H'->Rep G C d v->Q v H'
def spO(G:Gc)(n:Nat)(m:LD->OLD):Sp:=λvs H Q _=>∃Hf E rs,aq Hf H/\ak G Hf E vs/\E.length=n/\m E=aa rs /\
 ∀l us C H',Ext Hf H C H'->H l=ac->C l=ac->H' l=aa (.lst us)->ak G C rs us->Q (.ref l) H'
def au.start(h:aq Hf H)(r:ak G Hf E vs):au G Hf H Hf H (start N vs) (eE N.length E):=by
 have im:∀i (s:Sl),(eE N.length E)[i]?=aa s->s=.no\/∃d,E[i]?=aa d/\s=.im d:=λi s b=>by
  unfold eE at b
  by_cases hi:i<E.length
  .rw[j6 (by simpa using hi)]at b;have(d,f,es):=l8 b;show .inr (d,f,es)
  .rw[lg (by simpa using rE hi)]at b;have(_,e):=cA.mp b;rw[List.getElem_replicate]at e;show .inl e.symm
 show(Ext.refl h,by simp[L2.start,eE,r.length],λi v s a b=>?_,λi j s t v w l a b c d p q=>?_)
 .rcases im i s b with e |⟨d,f,es⟩
  .subst e;trivial
  .subst es;have(u,g,ru):=r.get f;show(u,?_,ru);unfold L2.start at a;rw[j6 (by simpa using ((cA.mp g).1)),bN,g]at a;show(cS a).symm
 .rcases im i s a with e |⟨d,f,es⟩
  .subst e;show(p.calm rfl).elim
  .subst es;show(p.calm rfl).elim
variable{P:bX}{mg:MGT}{base:Heap}{n_:Nat}{qual:Str}{f:Addr}{fd:dg}{ps:LSt}
def ba(q:Fun K x qual st f fd)(S:aF N ps (az st))
 (h:∀(cdv:Value) (A:b7) (outer:List Env) (s:ah) (H:Hp) (S5:XK),bo k (A.deeper (fO qual (az st) s.heap.objs.size f cdv))->DSs c (hX CX0 P w K mg base N qual (az st) f cdv A outer s H S5).nox (hZ st) F)(i:autoParam (N.length=n_) Zb):
  cM P w K mg base CX0 (k+1) f fd ps (spD (K,c) ps.length (aQ n_ F)):=by
 subst i;show q.ok S (λvs H Q S5 j=>by have(Hf,E,d,p,r,a,_):=j;rw[<- r.length];show a) λcdv A outer s H vs Q S5 u j=>?_;have(Hf,E,d,p,r,a,e,b):=j;show(_,h cdv A outer s H S5 u,?_);unfold aQ at e
 cases g:F _ with
 |none=>rw[g]at e;nomatch e
 |some o=>
  rw[g]at e;show(Hf,H,Hf,_,o,au.start p r,g,?_)
  cases o with
  |nx U=>cases e;show λσ' C H' _ m=>b _ C H' m.ext rfl
  |bk U=>nomatch e
  |ct U=>nomatch e
  |rt d=>cases e;show b
  |rtO rs=>cases e;show λl vs C H' x hn n a r=>b _ _ H' (x.fix hn n a) (l,vs,rfl,a9,r.up (bE n))
  |rtS d U=>cases e;show λv σ' C H' m r=>b v C H' m.ext r
  |rtT o=>nomatch e
def tf(l:Fun K x qual st f fd)(S:aF N ps (az st))
 (h:∀(cdv:Value) (A:b7) (outer:List Env) (s:ah) (H:Hp) (S5:XK),bo k (A.deeper (fO qual (az st) s.heap.objs.size f cdv))->DSs c (hX CX0 P w K mg base N qual (az st) f cdv A outer s H S5).nox (hZ st) F)(b:autoParam (N.length=n_) Zb):
  cM P w K mg base CX0 (k+1) f fd ps (spO (K,c) ps.length (kL n_ F)):=by
 subst b;show l.ok S (λvs H Q S5 g=>by have(Hf,E,d,j,r,i,_):=g;rw[<- r.length];show i) λcdv A outer s H vs Q S5 m g=>?_;have(Hf,E,rs,j,r,i,e,n):=g;show(_,h cdv A outer s H S5 m,?_);unfold kL at e
 cases a:F _ with
 |none=>rw[a]at e;nomatch e
 |some o=>
  rw[a]at e;show(Hf,H,Hf,_,o,au.start j r,a,?_)
  cases o with
  |rtO p=>cases e;show n
  | _=>nomatch e
variable{fa:MF2}{k0:Nat}
def pP(pk:Pk X.prog X.w X.K X.mg X.base CX0 k x (f,fd,) ps (spD (Gx c X) ps.length m))(j:bo k0 X.A)(ha:DA c X (e::es) fa)(z:autoParam ((e::es).length=ps.length) Zb)(a:autoParam (NDb x) Zc)(u:autoParam (StE X e es) Zb)(i:autoParam (BkE X pos es) Zb)(h:autoParam (k<=k0) Zc)(y:autoParam (Gl X x) Zi):
  DE c X (.Call (.Name x p) (e::es) [] pos) (ar m fa):=PE.imp (nu pk.ok (j.mono h) y pk.g pk.kp pk.b .nil gy ha.pa a u i) λJ H Q G=>by
 have(Hf0,H0,Hf,U,d,st,q,B):=G;have(E,l,n):=sU q;show(Hf0,H0,Hf,U,E,st,l,λvs C H' x r=>?_);rw[bB];show(C,E,d,x.s,r,(ha.len U E l).trans z,n,λv cc H2 L I=>B v cc H2 (x.trans L) I)
def jI(m:LD->OLD)(f:MF2)(U:LS):OLD:=(f U).bind m
def Le{m:LD->OLD}(pk:Pk X.prog X.w X.K X.mg X.base CX0 k x (f,fd,) ps (spO (Gx c X) ps.length m))(u:bo k0 X.A)(ha:DA c X (e::es) fa)(B:autoParam ((e::es).length=ps.length) Zb)(i:autoParam (NDb x) Zc)(v:autoParam (StE X e es) Zb)(q:autoParam (BkE X pos es) Zb)(j:autoParam (k<=k0) Zc)(z:autoParam (Gl X x) Zi):
  DO c X (.Call (.Name x p) (e::es) [] pos) (jI m fa):=PE.imp (nu pk.ok (u.mono j) z pk.g pk.kp pk.b .nil gy ha.pa i v q) λJ H Q I=>by
 have(Hf0,H0,Hf,U,rs,st,a,G):=I;unfold jI at a
 cases d:fa U with
 |none=>rw[d]at a;nomatch a
 |some E=>
  rw[d]at a;show(Hf0,H0,Hf,U,E,st,d,λvs C H' x r=>?_);rw[bB];show(C,E,rs,x.s,r,(ha.len U E d).trans B,a,λl us cc H2 M hn y n L=>G l us cc H2 (x.trans M) (x.h.free hn) y n L)
def me(m:LD->OD)(f:MF2)(U:LS):OD:=(f U).bind λE=>(m E).bind λd=>if d.scalar then aa d else ac
def Lf(pk:Pk X.prog X.w X.K X.mg X.base CX0 k x (f,fd,) ps (spD (Gx c X) ps.length m))(u:bo k0 X.A)(ha:DAB c X (e::es) fa)(B:autoParam ((e::es).length=ps.length) Zb)(l:autoParam (NDb x) Zc)(y:autoParam (StE X e es) Zb)(q:autoParam (BkE X pos es) Zb)(n:autoParam (k<=k0) Zc)(z:autoParam (Gl X x) Zi):
  DE c X (.Call (.Name x p) (e::es) [] pos) (me m fa):=PE.imp (nu pk.ok (u.mono n) z pk.g pk.kp pk.b .nil gy ha.pa l y q) λJ H Q L=>by
 have(Hf0,H0,Hf,U,d,st,a,I):=L;unfold me at a
 cases i:fa U with
 |none=>rw[i]at a;nomatch a
 |some E=>
  rw[i]at a;replace a:(m E).bind _=_:=a
  cases j:m E with
  |none=>rw[j]at a;nomatch a
  |some d'=>
   rw[j]at a;replace a:(if d'.scalar=ab then aa d' else ac)=aa d:=a;split at a
   .rename_i G;cases a;show(Hf0,H0,Hf,U,E,st,i,λvs C H' x r=>?_);rw[bB];show(H',E,_,aq.refl _,r,(ha.len U E i).trans B,j,λv cc H2 N M=>I v C H2 (x.trans (Ext.grow x.s N.h)) (M.sc G))
   .nomatch a
def DJ{G:Gc}{H:Hp}{f:Str}{d:D}:∀{ns:LSt} {E:LD} {vs:LVv},(ns.zip E).lookup f=aa d->ak G H E vs->∃v,(ns.zip vs).lookup f=aa v/\Rep G H d v
 | [],_,_,e,_=>by simp at e
 |n::ns,[],_,e,_=>by simp at e
 |n::ns,x::E,_,e,q4_=>by
  have(v,r,b,c,g):=q4_;subst b;simp only[eP,ls]at e;simp only[eP,ls]
  cases a:f==n with
  |true=>rw[a]at e;cases e;show(v,rfl,c)
  |false=>rw[a]at e;show DJ e g
def nO{f:Str}:∀{ns:LSt} {vs:LVv},ns.contains f=ae->(ns.zip vs).lookup f=ac
 | [],_,_=>by simp
 |n::ns,[],_=>by rfl
 |n::ns,v::vs,h=>by
  rw[contains_cons,Bool.or_eq_false_iff]at h;simp only[eP,ls,h.1];show nO h.2
abbrev Lg(cn f:Str):D->OD
 |.ins a ns E=>if a=cn then (ns.zip E).lookup f else ac
 | _=>ac
def bA(cn f:Str)(m:MF1)(U:LS):OD:=(m U).bind (Lg cn f)
def aY(cn f:Str)(m:LD->OD)(c:MF1)(fa:MF2)(U:LS):OD:=(c U).bind λd=>match d with
 |.ins a ns E=>if a=cn/\ns.contains f=ae then (fa U).bind λb=>m (.ins a ns E::b) else ac
 | _=>ac
variable{fl:Str}{fo:MF1}
def Lh{o:Expr}(cn:Str)(l:Cls X.K (c cn))(hn:c4 X.K (c cn) fl)(m:DE c X o fo)(j:autoParam (lB o fl X.env (eval o X.env)=eval o X.env) Zb):DE c X (.Attribute o fl pos) (bA cn fl fo):=
 PE.imp (Cs m j) λJ H Q n=>by
  have(Hf0,H0,Hf,U,d,st,b,k):=n;unfold bA at b
  cases e:fo U with
  |none=>rw[e]at b;nomatch b
  |some y=>
   rw[e]at b
   cases y with
   |ins g ns E=>
    replace b:(if g=cn then (ns.zip E).lookup fl else ac)=aa d:=b;split at b
    .rename_i f;subst f;show(Hf0,H0,Hf,U,_,st,e,λv C H' x r=>?_);have(a,dx,vs,i,q,p,rs):=r;have(u,h,ru):=DJ b rs;show(a,c g,dx,ns.zip vs,u,i,x.s _ _ q,l,hn,h,k u C H' x ru)
    .grind
   | _=>nomatch b
variable{apos:Pos}{pl:Sem Bool}
def Li{o:Expr}(cn:Str)(ho:DE c X o fo)(pk:Pm X.prog X.w X.K X.mg X.base CX0 k (c cn) fl (f,fd,) ps (spD (Gx c X) ps.length m))(G:bo k0 X.A)(ha:DA c X (e::es) fa)(hl:autoParam ((e::es).length+1=ps.length) Zb)(I:autoParam (StE X e es) Zb)(B:autoParam (BkE X pos es) Zb)(ht:autoParam (eval (.Call (.Attribute o fl apos) (e::es) [] pos) X.env=(do
   let ov <- eval o X.env
   g9 apos.atName
   let (f,first,) <- fu [ov] (i8 ov fl pl)
   kg pos f first (cv pos (aR (e::es) X.env)) (ja pos (i7 [] X.env)))) Zb)(p:autoParam (k<=k0) Zc):
  DE c X (.Call (.Attribute o fl apos) (e::es) [] pos) (aY cn fl m fo fa):=PE.imp (wn ho pk.c pk.m pk.ok (G.mono p) pk.b .nil gy ha.pa I B ht) λJ H Q q_=>by
 have(Hf0,H0,Hf,U,d,st,g,kq):=q_;unfold aY at g
 cases l:fo U with
 |none=>rw[l]at g;nomatch g
 |some y=>
  rw[l]at g
  cases y with
  |ins M ns E=>
   replace g:(if M=cn/\ns.contains fl=ae then (fa U).bind λh=>m _ else ac)=aa d:=g;split at g
   .rename_i n;have(rfl,z):=n
    cases i:fa U with
    |none=>rw[i]at g;nomatch g
    |some h=>
     rw[i]at g;show(Hf0,H0,Hf,U,_,st,l,λv C H' x r=>?_);have(a,dx,vs,Y,q,N,rs):=id r;show(a,dx,ns.zip vs,Y,x.s _ _ q,nO z,Hf0,H0,C,U,h,st.step x,i,λws cc H2 L r2=>?_);rw[bB];show(cc,.ins M ns E::h,d,L.s,.cons (r.up L.f) r2,by rw[cr,ha.len U h i];show hl,g,λu j T x3 r3=>kq u j T ((x.trans L).trans x3) r3)
   .nomatch g
  | _=>nomatch g
def Lj{o:Expr}(cn:Str)(L:DE c X o fo)(pk:Pm X.prog X.w X.K X.mg X.base CX0 k (c cn) fl (f,fd,) ps (spD (Gx c X) ps.length m))(n:bo k0 X.A)(I:autoParam (1=ps.length) Zb)(M:autoParam (eval (.Call (.Attribute o fl apos) [] [] pos) X.env=(do
   let ov <- eval o X.env
   g9 apos.atName
   let (f,first,) <- fu [ov] (i8 ov fl pl)
   kg pos f first (cv pos (aR [] X.env)) (ja pos (i7 [] X.env)))) Zb)(j:autoParam (k<=k0) Zc):
  DE c X (.Call (.Attribute o fl apos) [] [] pos) (aY cn fl m fo λ_=>aa []):=PE.imp (wq L pk.c pk.m pk.ok (n.mono j) pk.b .nil gy M) λJ H Q T=>by
 have(Hf0,H0,Hf,U,d,st,e,N):=T;dsimp only[aY]at e
 cases h:fo U with
 |none=>rw[h]at e;nomatch e
 |some y=>
  simp only[h]at e
  cases y with
  |ins B ns E=>
   replace e:(if B=cn/\ns.contains fl=ae then (aa []).bind λas=>m _ else ac)=aa d:=e;split at e
   .rename_i i;have(rfl,l):=i;show(Hf0,H0,Hf,U,_,st,h,λv C H' x r=>?_);have(a,dx,vs,G,q,p,rs):=id r;show(a,dx,ns.zip vs,G,x.s _ _ q,nO l,(C,_,d,x.s,.cons r .nil,I,e,λu g z x3 Y=>N u g z (x.trans x3) Y))
   .nomatch e
  | _=>nomatch e
abbrev tj:List (Str×(MF1))->LS->LSt->LD->Option (LSt×LD)
 | [],_,ns,E=>aa (ns,E,)
 |(f,m,)::r,U,ns,E=>(m U).bind λd=>if ns.contains f then ac else tj r U (ns++[f]) (E++[d])
def Lk(G:Gc)(cn:Str)(fs:List (Str×(MF1))):TS:=λS5 J H=>∃x dx Hf0 H0 Hf U ns us E r,J[0]?=aa (aa (.ref x))/\(∀s∈U,Sl.calm s=ab)/\au G Hf0 H0 Hf H J U/\H0 x=ac/\Hf x=ac /\
 H x=aa (.ins (G.cl cn) dx (ns.zip us))/\ns.length=us.length/\ns.length+fs.length<=900/\ak G Hf E us/\tj fs U ns E=aa r /\
 ∀a C H',Ext Hf0 H0 C H'->C x=ac->H' x=aa (.ins (G.cl cn) dx (r.1.zip a))->r.1.length=a.length->ak G C r.2 a->S5.nx J H'
def DSI(c:Str->Addr)(X:Cx)(cn:Str)(sts:List Stmt)(fs:List (Str×(MF1))):Prop:=PSs X sts (Lk (Gx c X) cn fs)
def pQ{f:Str}{v:V}:∀{ns:LSt} {us:LVv},ns.length=us.length->ns.contains f=ae->dh f v (ns.zip us)=(ns++[f]).zip (us++[v])
 | [],[],_,_=>rfl
 |n::ns,u::us,hl,h=>by
  rw[contains_cons,Bool.or_eq_false_iff]at h;have a:¬(n=f):=λz=>by rw[z,beq_self_eq_true]at h;cases h.1
  rw[eP];unfold dh
  first
   |(rw[if_neg a,pQ (by simpa using hl) h.2];rfl)
   |(rw[if_neg _,pQ (by simpa using hl) h.2];rfl)
   |(rw[if_neg (by simpa using a),pQ (by simpa using hl) h.2];rfl)
   |(rw[if_neg (by simpa using λz=>a _),pQ (by simpa using hl) h.2];rfl)
 | [],_::_,hl,_=>by cases hl
 | _::_,[],hl,_=>by cases hl
def tm{cn:Str}:DSI c X cn [] []:=PSs.imp Cd λS5 J H q=>by
 have(x,dx,Hf0,H0,Hf,U,ns,us,E,r,e0,no,f,g,a,d,b,hz,e,em,k):=q;cases em;show k us Hf H f.ext a d b e
variable{m:MF1}{fs:List (Str×(MF1))}
def nP{cn:Str}{o:Expr}(N:Cls X.K (c cn))(hn:c4 X.K (c cn) fl)(Y:PE X o (cL 0))(Q:DE c X e m)(h:DSI c X cn sts fs)(A:autoParam (fP e (aa (.Attribute o fl c5)) pos.line X.env=pure ae) Zb):
  DSI c X cn (.Assign [.Attribute o fl c5] e pos::sts) ((fl,m,)::fs):=PSs.imp (r9 (wf Y Q A) h) λS5 J H q=>by
 have(x,dx,Hf0,H0,Hf,U,ns,us,E,r,e0,no,M,G,T,L,I,hz,rd,em,k):=q;unfold tj at em
 cases z:m U with
 |none=>rw[z]at em;nomatch em
 |some d=>
  rw[z]at em;split at em
  .grind
  .rename_i l;have l:ns.contains fl=ae:=by grind
   show(Hf0,H0,Hf,U,d,M,z,λv C H' y rv=>(_,e0,x,c cn,dx,ns.zip us,rfl,y.h _ _ L,N,hn,?_,?_))
   .grind
   .have j:C x=ac:=by rw[y.n _ _ L rfl];show T
    have g:=M.step y
    have B:au (Gx c X) Hf0 H0 C (upd H' x (.ins (c cn) dx (dh fl v (ns.zip us)))) J U:=by
     show g.re (g.ext.f,λb u e=>?_,λb u e=>?_,g.ext.n) rfl (λi w s a b=>?_) λi s w a b _ p=>(p.calm (no s (cW b))).elim
     .rw[aK (eU e G)];show g.ext.h b u e
     .rw[aK (eU e j)];show g.ext.s b u e
     .have A:=no s (cW b);have q:=g.at' i w s a b
      cases s with
      |no=>trivial
      |im d=>show q
      | _=>nomatch A
    show(x,dx,Hf0,H0,C,U,ns++[fl],us++[v],E++[d],r,e0,no,B,G,j,?_,by rw[bf,bf,I];rfl,by rw[cr]at hz;rw[bf,dN];lia,(rd.up y.f).append (.cons rv .nil),em,k);rw[a9,pQ I l]
def del(H:Hp)(x:Addr):Hp:=λb=>if b=x then ac else H b
def DK{x:Addr}:del H x x=ac:=if_pos rfl
def DM{x b:Addr}(h:b≠x):del H x b=H b:=if_neg h
abbrev pR(n:Nat)(fs:List (Str×(MF1)))(a:LD):Option (LSt×LD):=tj fs (.no::(a.map .im++lq (n-1-a.length) .no)) [] []
def spI(G:Gc)(cn:Str)(n:Nat)(m:LD->Option (LSt×LD)):Sp:=λvs H Q _=>∃x dx Hf b a r,vs=.ref x::a/\H x=aa (.ins (G.cl cn) dx [])/\Hf x=ac/\aq Hf H/\ak G Hf b a/\b.length+1=n/\m b=aa r /\
 ∀us C H',Ext Hf (del H x) C H'->C x=ac->H' x=aa (.ins (G.cl cn) dx (r.1.zip us))->r.1.length=us.length->ak G C r.2 us->Q .non H'
def tq{x qual cn:Str}(J:Fun K x qual st f fd)(S:aF N ps (az st))
 (h:∀(cdv:Value) (A:b7) (outer:List Env) (s:ah) (H:Hp) (S5:XK),bo k (A.deeper (fO qual (az st) s.heap.objs.size f cdv))->DSI c (hX CX0 P w K mg base N qual (az st) f cdv A outer s H S5).nox cn (hZ st) fs)
 (hz:autoParam (fs.length<=900) Zc)(z:autoParam (N.length=n_) Zb):cM P w K mg base CX0 (k+1) f fd ps (spI (K,c) cn ps.length (pR n_ fs)):=by
 subst z;show J.ok S (λvs H Q S5 q=>by have(x,dx,Hf,g,B,r,y,_,_,_,m,I,_):=q;subst y;rw[cr,<- m.length];show I) λcdv A outer s H vs Q S5 hr q=>(_,h cdv A outer s H S5 hr,?_);have(x,dx,Hf,g,B,r,y,hx,Y,s0,m,I,e,kq):=q;subst y;have la:=m.length
 have im:∀i s,(Sl.no::(g.map Sl.im++lq (N.length-1-g.length) .no))[i]?=aa s->s=.no\/∃d j,i=j+1/\g[j]?=aa d/\s=.im d:=λi s b=>by
  cases i with
  |zero=>left;simpa using b.symm
  |succ i=>
   rw[gM]at b
   by_cases hi:i<g.length
   .rw[j6 (by simpa using hi)]at b;have(d,n,es):=l8 b;show .inr (d,i,rfl,n,es)
   .rw[lg (by simpa using rE hi)]at b;have(_,e):=cA.mp b;rw[List.getElem_replicate]at e;show .inl e.symm
 have no:∀s∈_,Sl.calm s=ab:=λs hs=>by
  have(i,hi):=j8 hs
  rcases im i s hi with e |⟨d,_,_,_,e⟩ <;> (subst e;rfl)
 show(x,dx,Hf,del H x,Hf,_,[],[],[],r,rfl,no,((aq.refl _,λb o e=>?_,s0,λ_ _ _ _=>rfl),?_,λi v s a b=>?_,λi j s t v w l a b _ _ p _=>((p.calm (no s (cW a))).elim)),DK,Y,hx,rfl,by simpa using hz,rfl,e,λus C H' xx L M T U=>kq us C H' xx L M T U)
 .by_cases G:b=x
  .subst G;rw[DK]at e;nomatch e
  .rw[DM G]at e;show e
 .unfold L2.start;simp only[bf,aH,cr,rn]
  lia
 .rcases im i s b with e |⟨d,j,ei,n,es⟩
  .subst e;trivial
  .subst es ei;have(u,E,ru):=m.get n;show(u,?_,ru);unfold L2.start at a;rw[bP,cons_append,gM,j6 (by simpa using ((cA.mp E).1)),bN,E]at a;show(cS a).symm
def ie(cn:Str)(m:LD->Option (LSt×LD))(fa:MF2)(U:LS):OD:=(fa U).bind λa=>(m a).map λr=>.ins cn r.1 r.2
def nQ{m:LD->Option (LSt×LD)}(cn:Str)(S0:Mk X.K (c cn) f)(F:cM X.prog X.w X.K X.mg X.base CX0 k f fd ps (spI (Gx c X) cn ps.length m))(hr:bo (k+1) X.A)(hg:Gl X x)(hm:X.mg x=aa (.ref (c cn)))(hb:fU X.K fd ps [])(ha:DA c X (e::es) fa)
 (hl:autoParam ((e::es).length+1=ps.length) Zb)(I:autoParam (NDb x) Zc)(he:autoParam (StE X e es) Zb)(L:autoParam (BkE X pos es) Zb):
  DE c X (.Call (.Name x p) (e::es) [] pos) (ie cn m fa):=PE.imp (Cu S0 F hr hg hm hb .nil gy ha.pa I he L) λJ H Q q_=>by
 have(Hf0,H0,Hf,U,d,st,a,kq):=q_;unfold ie at a
 cases v:fa U with
 |none=>rw[v]at a;nomatch a
 |some g=>
  rw[v]at a;replace a:(m g).map _=_:=a
  cases G:m g with
  |none=>rw[G]at a;nomatch a
  |some r=>
   rw[G]at a;cases a;show(Hf0,H0,Hf,U,g,st,v,λvs C H' E rv y dx z N T=>?_);rw[bB];have hy:(upd H' dx (.own y)) y=ac:=by rw[aK T.symm];show z
   have s1:aq H' (upd H' dx (.own y)):=bE N;have s2:=s1.trans (bE (o:=.ins (c cn) dx []) hy)
   have Y:aq H' (del _ y):=λb u q=>by
    have:=eU q z;rw[DM this];show s2 b u q
   show(y,dx,C,g,vs,r,rfl,a9,E.s.free z,E.s.trans s2,rv,by rw[ha.len U g v];show hl,G,λus cc H2 B i M j r2=>(rfl,?_));have x3:Ext C H' cc H2:=(B.f,Y.trans B.h,B.s,λl u q t=>B.n l u (Y l u q) t);show kq _ _ H2 ((E.trans x3).fix (E.h.free z) i M) (y,dx,us,rfl,a9,j,r2.up (bE i))
variable{r:Option Fl}
def eG(h:F U=aa (.nx ρ'))(h':F' ρ'=r):aj F F' U=r:=by
 unfold aj;rw[h];show h'
def jJ(h:F U=aa (.rt d)):aj F F' U=aa (.rt d):=by
 unfold aj;rw[h];rfl
def jK(h:t U=aa ab)(h':F U=r):aN t F F' U=r:=by
 unfold aN;rw[h];show h'
def fY(h:t U=aa ae)(h':F' U=r):aN t F F' U=r:=by
 unfold aN;rw[h];show h'
def DN{f:MF1}(h:f U=aa d):bg i f U=aa (.nx (U.set i (.im d))):=by
 unfold bg;rw[h];rfl
def Ll{f:MF2}{d:LD}(h:f U=aa d):dF i f U=aa (.nx (U.set i (.own d))):=by
 unfold dF;rw[h];rfl
def cF{f:MF1}(h:f U=aa d):aA f U=aa (.rt d):=by
 unfold aA;rw[h];rfl
def ci(h:F (eE n E)=aa (.rt d)):aQ n F E=aa d:=by
 unfold aQ;rw[h];rfl
def mf{d:LD}(h:F (eE n E)=aa (.rtO d)):aQ n F E=aa (.lst d):=by
 unfold aQ;rw[h];rfl
def aD{m:LD->OD}{f:MF2}(h:f U=aa E)(h':m E=aa d):ar m f U=aa d:=by
 unfold ar;rw[h];show h'
def tu{a:Type}{h:D->Option OD}(f:a->D)(p:a->Bool)(q:a->D):∀(B:List a),(∀x∈B,h (f x)=aa (if p x then aa (q x) else ac))->eB h (B.map f)=aa ((B.filter p).map q)
 | [],_=>rfl
 |x::B,hh=>by
  rw[bP];unfold eB;rw[hh x aB,tu f p q B λy b=>hh y (be _ b)]
  grind
def Lm{a:Type}{h:D->Option OD}(f:a->D)(q:a->D)(B:List a)(b:∀x∈B,h (f x)=aa (aa (q x))):eB h (B.map f)=aa (B.map q):=by
 have:=tu f (λ_=>ab) q B λx c=>(b x c).trans rfl;rw[this,filter_eq_self.mpr λ_ _=>rfl]
def fH{a:Type}(B:List a)(f:a->D)(p:a->Bool)(q:a->D)
 (hi:fi U=aa (B.map f))(hz:B.length<=16777216)(b:∀x∈B,gD g ft fe (gC k js U) (f x)=aa (if p x then aa (q x) else ac)):aV k js fi g ft fe U=aa ((B.filter p).map q):=by
 unfold aV;rw[hi];change(if (B.map f).length<=16777216 then _ else ac)=_;rw[aH,if_pos hz];show tu f p q B b
def dq{a:Type}(B:List a)(f:a->D)(q:a->D)
 (hi:fi U=aa (B.map f))(hz:B.length<=16777216)(b:∀x∈B,gD g ft fe (gC k js U) (f x)=aa (aa (q x))):aV k js fi g ft fe U=aa (B.map q):=by
 unfold aV;rw[hi];change(if (B.map f).length<=16777216 then _ else ac)=_;rw[aH,if_pos hz];show Lm f q B b
def DQ{e:Type}{g:D->LS->Option LS}{F:MF3}(f:e->D)(I:List e->LS->Prop):∀(post pre:List e) (U:LS),I pre U ->
  (∀a x d U,pre++post=a++x::d->I a U->∃c b,g (f x) U=aa c/\(F c=aa (.nx b)\/F c=aa (.ct b))/\I (a++[x]) b)->∃ρ',ji g F (post.map f) U=aa (.nx ρ')/\I (pre++post) ρ'
 | [],pre,U,h,_=>(U,rfl,by rw[bB];show h)
 |x::post,pre,U,h,hs=>by
  have(c,b,l,m,j):=hs pre x post U rfl h;have(ρ',n,i):=DQ f I post _ b j (by rw[cX];show hs);show(ρ',?_,by rw[cX]at i;show i);rw[bP];unfold ji
  grind
def Ln{c:Type}(B:List c)(f:c->D)(I:List c->LS->Prop)(hi:fi U=aa (B.map f))(d:I [] U)
 (e:∀pre x post U,B=pre++x::post->I pre U->∃a b,g (f x) U=aa a/\(F a=aa (.nx b)\/F a=aa (.ct b))/\I (pre++[x]) b):∃ρ',bU fi g F U=aa (.nx ρ')/\I B ρ':=by
 unfold bU;rw[hi];show DQ f I B [] U d e
def Lo(lo:Int)(n:Nat):rng lo n=(bw n).map λ(i:Nat)=>D.int (lo+i):=rfl
def DR{ns:LI0}:fD [.lst (ns.map D.int)]=aa (.int ns.sum):=by
 change(gB _).map _=_;rw[KQ];rfl
variable{i:Int}
def cz{b:Type}{f:b->D}{B:List b}(c:0<=i)(d:i<B.length):∃x,B[i.toNat]?=aa x/\atI (B.map f) i=aa (f x):=by
 have a:i.toNat<B.length:=by lia
 show(B[i.toNat],by simp[a],?_);have:=JG (B:=B.map f) (j:=i.toNat) (v:=f B[i.toNat]) (by simp[a]);rw[show i.toNat=i by lia]at this;show this
def mh{a:Type}{f:a->D}{B:List a}(d:a)(e:0<=i)(g:i<B.length):atI (B.map f) i=aa (f (B.getD i.toNat d)):=by
 have(x,b,c):=cz e g;rw[c,bM,b];rfl
abbrev du:Nat->D->Prop
 | 0,_=>False
 |n+1,d=>match d with
  |.lst B=>∀x∈B,du n x
  |.tup B=>∀x∈B,du n x
  |d=>d.scalar=ab
def xh{f:D->D->Option Bool}:∀(B:LD),(∀x∈B,f x x=aa ab)->cO f B B=aa ab
 | [],_=>rfl
 |x::B,h=>by
  unfold cO;rw[h x aB,xh B λy a=>h y (be _ a)];rfl
def tz:∀(n:Nat) (d:D),du n d->deq n d d=aa ab
 | 0,_,h=>h.elim
 |n+1,d,h=>by
  cases d with
  |lst B=>
   change(if B.length=B.length then cO _ B B else aa ae)=_;rw[if_pos rfl]
   show xh B λx a=>tz n x (h x a)
  |tup B=>
   change(if B.length=B.length then cO _ B B else ac)=_;rw[if_pos rfl]
   show xh B λx a=>tz n x (h x a)
  |non=>rfl
  |bl b=>change aa (b==b)=_;rw[beq_self_eq_true]
  |int b=>change aa (b==b)=_;rw[beq_self_eq_true]
  |str b=>change aa (b==b)=_;rw[beq_self_eq_true]
  | _=>cases h
def du.mono:∀(n:Nat) (d:D),du n d->du (n+1) d
 | 0,_,h=>h.elim
 |n+1,d,h=>by
  cases d with
  |lst B=>show λx a=>du.mono n x (h x a)
  |tup B=>show λx a=>du.mono n x (h x a)
  | _=>show h
def du.le{m:Nat}(h:du n d)(hm:n<=m):du m d:=by
 induction hm with
 |refl=>show h
 |step _ a=>show du.mono _ _ a
def Lp(h:du 20 d):dEq d d=aa (.bl ab):=by
 unfold dEq;rw[tz 20 d h];rfl
def DU(h:du 20 d):dNe d d=aa (.bl ae):=by
 unfold dNe;rw[tz 20 d h];rfl
def kM(i j:Int):dEq (.int i) (.int j)=aa (.bl (i==j)):=rfl
def xi(i j:Str):dEq (.str i) (.str j)=aa (.bl (i==j)):=rfl
variable{f:MF1}
def aG{m:D->D->OD}{g:MF1}{x:D}(a:f U=aa x)(b:g U=aa y)(c:m x y=aa d):m2 m f g U=aa d:=by
 unfold m2;rw[a,b];show c
variable{b:Bool}
def bJ(h:f U=aa (.bl b)):mB f U=aa b:=by
 unfold mB;rw[h];rfl
def cP(h:f U=aa d)(h':pI d=aa b):bi f U=aa b:=by
 unfold bi;rw[h];show h'
variable{f:MF4}
def gE(h:f U=aa b):cN f U=aa (!b):=by
 unfold cN;rw[h];rfl
variable{g:MF4}
def tB{r:Option Bool}(h:f U=aa ab)(h':g U=r):d9 f g U=r:=by
 unfold d9;rw[h];show h'
def tE(h:f U=aa ae):d9 f g U=aa ae:=by
 unfold d9;rw[h];rfl
def tG(h:f U=aa ab):mOr f g U=aa ab:=by
 unfold mOr;rw[h];rfl
def eI{r:Option Bool}(h:f U=aa ae)(h':g U=r):mOr f g U=r:=by
 unfold mOr;rw[h];show h'
variable{a:Bool}
def tI(h:f U=aa a)(h':g U=aa b):d9 f g U=aa (a && b):=by
 cases a with
 |true=>show tB h h'
 |false=>show tE h
def Lq(h:f U=aa a)(h':g U=aa b):mOr f g U=aa (a || b):=by
 cases a with
 |true=>show tG h
 |false=>show eI h h'
variable{f:MF1}
def ig{g:MF1}(h:f U=aa (.bl a))(h':g U=aa (.bl b)):eV f g U=aa (.bl (a && b)):=by
 unfold eV;rw[bJ h]
 grind
def pS{g:MF1}(h:f U=aa (.bl a))(h':g U=aa (.bl b)):vOr f g U=aa (.bl (a || b)):=by
 unfold vOr;rw[bJ h]
 grind
def kO(h:f U=aa (.bl a)):fB f U=aa (.bl (!a)):=by
 unfold fB;rw[bJ h];rfl
def ao{g:MF2}(h:f U=aa d)(h':g U=aa E):ag f g U=aa (d::E):=by
 unfold ag;rw[h,h'];rfl
variable{f:MF2}
def eJ(h:f U=aa E):bj f U=aa (.tup E):=by
 unfold bj;rw[h];rfl
def bm(h:f U=aa E):aE f U=aa (.lst E):=by
 unfold aE;rw[h];rfl
def ay{g:MF1}{r:OD}(h:f U=aa E)(h':g U=aa (.int i))(a:atI E i=r):mIx f g U=r:=by
 unfold mIx;rw[h,h'];show a
def tJ{S4:Int->Int->Prop}[∀i j,Decidable (S4 i j)]{g:Int->Int->D}{j:Int}(h:S4 i j):dI S4 g (.int i) (.int j)=aa (g i j):=by
 change(if S4 i j then aa _ else ac)=_;rw[if_pos h]
variable{f:MF1}
def Lr{i:Nat}(h:f U=aa d)(h':U[i]?=aa (.own B))(a:B.length<16777216):fG i f U=aa (.nx (U.set i (.own (B++[d])))):=by
 unfold fG;rw[h,h'];change(if B.length<16777216 then _ else ac)=_;rw[if_pos a]
variable{ds:LS}
def dR{g:D->LS->Option LS}(a:g d U=aa ds)(c:ft ds=aa b)(e:b=ab->fe ds=aa y):gD g ft fe U d=aa (if b then aa y else ac):=by
 unfold gD
 grind
def cZ{g:D->LS->Option LS}(a:g d U=aa ds)(b:ft ds=aa ab)(c:fe ds=aa y):gD g ft fe U d=aa (aa y):=dR a b λ_=>c
def cG(h:f U=aa d)(h':ia d=aa E):aL f U=aa E:=by
 unfold aL;rw[h];show h'
variable{g:MF1}
def fZ(h:f U=aa d):bp f g U=aa d:=by
 unfold bp;rw[h];rfl
def cj{r:OD}(h:f U=ac)(h':g U=r):bp f g U=r:=by
 unfold bp;rw[h];show h'
def mi{f:MF2}{n:Int}(h:f U=aa [.int n])(b:0<=n)(a:n<2 ^ 62):fF f U=aa ((bw n.toNat).map λ(i:Nat)=>D.int i):=by
 unfold fF;rw[h];change(if -_<=n/\n<2 ^ 62 then aa _ else ac)=_;rw[if_pos (by lia,a),Lo]
 grind
variable{m:LD->OD}{ns:LSt}
def dw{cn f:Str}{a:LD}(h:fo U=aa (.ins cn ns E))(hn:ns.contains f=ae)(h':fa U=aa a):aY cn f m fo fa U=m (.ins cn ns E::a):=by
 unfold aY
 grind
def cp{cn f a:Str}(h:fo U=aa (.ins a ns E))(hn:a≠cn):aY cn f m fo fa U=ac:=by
 unfold aY
 grind
def itD(z:Int×Int):D:=.tup [.int z.1,.int z.2]
abbrev shD:Option Bool->D
 |none=>.non
 |some b=>.bl b
def InN(n:Nat)(L:LII):Prop:=∀z∈L,0<=z.1/\z.1<(n:Int)/\0<=z.2
def xj(bs:LOB):du 2 (.lst (bs.map shD)):=λx a=>by
 have(b,_,rfl):=aO.mp a
 cases b <;> show rfl
def Ls(z:Int×Int):du 2 (itD z):=λx a=>by
 simp only[aW,bO,or_false]at a
 rcases a with rfl |rfl <;> show rfl
def DV(L:LII):du 3 (.lst (L.map itD)):=λx a=>by
 have(z,_,rfl):=aO.mp a;show Ls z
def c8{es:LOB}(a:0<=i)(b:i<es.length):atI (es.map shD) i=aa (shD (es.getD i.toNat ac)):=mh ac a b
def jL{es:LB0}(a:0<=i)(b:i<es.length):atI (es.map D.bl) i=aa (.bl (es.getD i.toNat ae)):=mh ae a b
def ij(e:Option Bool)(b:Bool):dIs (shD e) (.bl b)=aa (.bl (e==aa b)):=by
 cases e with
 |none=>rfl
 |some c=>cases b <;> cases c <;> rfl
def pT(e:Option Bool)(b:Bool):dQ (shD e) (.bl b)=aa (.bl (!(e==aa b))):=by
 cases e with
 |none=>rfl
 |some c=>cases b <;> cases c <;> rfl
abbrev Prt.toD:Prt->D
 |.inn t=>.tup [.str "in",.int t]
 |.out t=>.tup [.str "out",.int t]
 |.least k L=>.tup [.str "least",.int k,.lst (L.map itD)]
 |.most k L=>.tup [.str "most",.int k,.lst (L.map itD)]
abbrev Prt.obj:Prt->D
 |.inn t=>.ins "In" ["thing"] [.int t]
 |.out t=>.ins "Out" ["thing"] [.int t]
 |.least k L=>.ins "Least" ["bound","pieces"] [.int k,.lst (L.map itD)]
 |.most k L=>.ins "Most" ["bound","pieces"] [.int k,.lst (L.map itD)]
abbrev Prt.Ok(n:Nat):Prt->Prop
 |.inn t=>0<=t/\t<(n:Int)
 |.out t=>0<=t/\t<(n:Int)
 |.least _ L=>InN n L/\L.length<=100000
 |.most _ L=>InN n L/\L.length<=100000
def Lu(p:Prt):du 4 p.toD:=by
 cases p with
 |inn t=>intro x a;simp only[aW,bO,or_false]at a;rcases a with rfl |rfl <;> show rfl
 |out t=>intro x a;simp only[aW,bO,or_false]at a;rcases a with rfl |rfl <;> show rfl
 |least k L=>
  intro x a;simp only[aW,bO,or_false]at a
  rcases a with rfl |rfl |rfl
  .show rfl
  .show rfl
  .show DV L
 |most k L=>
  intro x a;simp only[aW,bO,or_false]at a
  rcases a with rfl |rfl |rfl
  .show rfl
  .show rfl
  .show DV L
def Lv(p:Int->Bool)(L:LII):((L.filter λz=>p z.1).map λz=>D.int z.2)=((L.filter λz=>p z.1).map (·.2)).map D.int:=by
 rw[map_map];rfl
def nR(p:Int->Bool)(L:LII):fD [.lst ((L.filter λz=>p z.1).map λz=>D.int z.2)]=aa (.int (jg p L)):=by
 rw[Lv,DR];rfl
def xk:∀{bs:LB0} {us:LVa},aJ (bs.map V.bl) us->us=bs.map hJ
 | [],_,.nil=>rfl
 |b::bs,_,.cons r t=>by
  rw[xk t];cases (r);rfl
def Lw(bs:LB0):((bw bs.length).all λi=>(bs[i]?).getD ab)=bs.all id:=by
 rw[j5,all_eq_true,all_eq_true];constructor
 .intro h b c;have(i,hi,e):=List.getElem_of_mem c
  simp_all
 .intro h i hi;have a:=dW.mp hi;simp only[cI a];show h _ (lh a)
def Lx(bs:LB0):((bw bs.length).any λi=>(bs[i]?).getD ae)=bs.any id:=by
 rw[j5,any_eq_true,any_eq_true];constructor
 .rintro⟨i,hi,e⟩;have a:=dW.mp hi;simp only[cI a]at e;show(_,lh a,e)
 .rintro⟨b,c,e⟩;have(i,hi,rfl):=List.getElem_of_mem c;show(i,dW.mpr hi,by simp only[cI hi];show e)
def DY{h:Heap}{o:Obj}(a:∀b x,b∉[h.objs.size]->(h.push o).get? b=aa x->h'.get? b=aa x):∀b x,h.get? b=aa x->h'.get? b=aa x:=
 λb x e=>a b x (λhm=>by rw[cB.mp hm]at e;show gN _ (bx e)) (bG _ e)
def Ly(j:X.calm=ab):gR X (.builtin "all") (λB H Q=>∃(p:Addr) (bs:LB0),B=[.ref p]/\SqL X.K H p (bs.map V.bl)/\Q (.bl (bs.all id)) H):=by
 intro M s J H B us Q I r h;have(l,bs,rfl,n,q):=h;have(u,rfl,x):=lN r;subst x;have(L,w,pl,hz):=I.list n;have e:=xk w;subst e;have c:=pl.isList;have d:l<s.heap.objs.size:=by have(_,e,_):=c;show bx e
 show call_all_walk (rL c ?_)
 show(s.heap.objs.size,_,_,(bs.map hJ).toArray.size,_,_,λi=>(bs[i]?).getD ab,rfl,Walks.list (A:=X.A.in1) (I.ok.hd j) _ l (bT d) (bs.map hJ).toArray,
  ((_,cY _ rfl,rfl,rfl),c.push _),λi v s' z y g f=>?_,λh' C m=>?_)
 .have a:(bs.map hJ)[i]?=aa v:=by simpa using g
  have(b,e,rfl):=l8 a;simp only[e]at f;show ly f
 .have e:((bw (bs.map hJ).toArray.size).all λi=>(bs[i]?).getD ab)=bs.all id:=by
   rw[size_toArray,aH];show Lw bs
  rw[e];show(.bl _,H,I.kept (DY m),rfl,q)
def Lz(j:X.calm=ab):gR X (.builtin "any") (λB H Q=>∃(p:Addr) (bs:LB0),B=[.ref p]/\SqL X.K H p (bs.map V.bl)/\Q (.bl (bs.any id)) H):=by
 intro M s J H B us Q I r h;have(l,bs,rfl,n,q):=h;have(u,rfl,x):=lN r;subst x;have(L,w,pl,hz):=I.list n;have e:=xk w;subst e;have c:=pl.isList;have d:l<s.heap.objs.size:=by have(_,e,_):=c;show bx e
 show call_any_walk (rL c ?_)
 show(s.heap.objs.size,_,_,(bs.map hJ).toArray.size,_,_,λi=>(bs[i]?).getD ae,rfl,Walks.list (A:=X.A.in1) (I.ok.hd j) _ l (bT d) (bs.map hJ).toArray,
  ((_,cY _ rfl,rfl,rfl),c.push _),λi v s' z y g f=>?_,λh' C m=>?_)
 .have a:(bs.map hJ)[i]?=aa v:=by simpa using g
  have(b,e,rfl):=l8 a;simp only[e]at f;show ly f
 .have e:((bw (bs.map hJ).toArray.size).any λi=>(bs[i]?).getD ae)=bs.any id:=by
   rw[size_toArray,aH];show Lx bs
  rw[e];show(.bl _,H,I.kept (DY m),rfl,q)
abbrev f6:LD->Option (LB0)
 | []=>aa []
 |.bl b::E=>(f6 E).map λr=>b::r
 | _=>ac
def D0:∀{E:LD} {bs:LB0},f6 E=aa bs->E=bs.map D.bl
 | [],_,e=>by cases e;rfl
 |.bl b::E,_,e=>by
  dsimp only[f6]at e
  cases es:f6 E with
  |none=>rw[es]at e;cases e
  |some r=>rw[es]at e;cases e;rw[D0 es];rfl
 |.int _::_,_,e=>by cases e
 |.non::_,_,e=>by cases e
 |.str _::_,_,e=>by cases e
 |.lst _::_,_,e=>by cases e
 |.tup _::_,_,e=>by cases e
 |.kl _::_,_,e=>by cases e
 |.kt _::_,_,e=>by cases e
 |.dic _ _::_,_,e=>by cases e
 |.ins _ _ _::_,_,e=>by cases e
def tK(bs:LB0):f6 (bs.map D.bl)=aa bs:=by
 induction bs with
 |nil=>rfl
 |cons n ns a=>rw[bP,f6,a];rfl
def ak.bls{G:Gc}{H:Hp}:∀{bs:LB0} {vs:LVv},ak G H (bs.map D.bl) vs->vs=bs.map V.bl
 | [],_,h=>h
 |b::bs,_,q2_=>by
  have(v,r,e,a,c):=q2_;subst e;rw[ak.bls c,show v=V.bl b from a];rfl
abbrev kP:LD->OD
 | [d]=>(lsD d).bind λE=>(f6 E).map λbs=>.bl (bs.all id)
 | _=>ac
abbrev f7:LD->OD
 | [d]=>(lsD d).bind λE=>(f6 E).map λbs=>.bl (bs.any id)
 | _=>ac
def tL{f:LB0->D}(e:(match E with | [d]=>(lsD d).bind λE=>(f6 E).map f | _=>ac)=aa d):∃a B bs,E=[a]/\lsD a=aa B/\B=bs.map D.bl/\d=f bs:=by
 split at e
 .rename_i a
  cases b:lsD a with
  |none=>rw[b]at e;nomatch e
  |some B=>
   rw[b]at e;replace e:(f6 B).map f=aa d:=e
   cases c:f6 B with
   |none=>rw[c]at e;nomatch e
   |some bs=>rw[c]at e;cases e;show(a,B,bs,rfl,b,D0 c,rfl)
 .nomatch e
def D1(i:X.calm=ab):l5 c X (.builtin "all") kP:=by
 rintro M s J H vs us Q I l ⟨Hf,E,d,b,r,e,k⟩;have(m,B,bs,rfl,f,rfl,rfl):=tL e;have(v,h,j):=r.one;subst h;have(a,ws,g,q,rs):=jG f j;subst g;show Ly i M s J H _ us Q I l (a,bs,rfl,?_,k _ Hf H (Ext.refl b) rfl);rw[<- rs.bls];show b.seq q
def mj(i:X.calm=ab):l5 c X (.builtin "any") f7:=by
 rintro M s J H vs us Q I l ⟨Hf,E,d,b,r,e,k⟩;have(m,B,bs,rfl,f,rfl,rfl):=tL e;have(v,h,j):=r.one;subst h;have(a,ws,g,q,rs):=jG f j;subst g;show Lz i M s J H _ us Q I l (a,bs,rfl,?_,k _ Hf H (Ext.refl b) rfl);rw[<- rs.bls];show b.seq q
def D2:∀E d,kP E=aa d->d.scalar=ab:=λE d e=>by
 have(a,B,bs,rfl,b,rfl,rfl):=tL e;rfl
def ml:∀E d,f7 E=aa d->d.scalar=ab:=λE d e=>by
 have(a,B,bs,rfl,b,rfl,rfl):=tL e;rfl
def LA(bs:LB0):kP [.lst (bs.map D.bl)]=aa (.bl (bs.all id)):=by
 change(f6 _).map _=_;rw[tK];rfl
def D3(bs:LB0):f7 [.lst (bs.map D.bl)]=aa (.bl (bs.any id)):=by
 change(f6 _).map _=_;rw[tK];rfl
inductive Wrd where
 |make |may |never
 deriving DecidableEq
abbrev Wrd.s:Wrd->Str
 |.make=>"make"
 |.may=>"may"
 |.never=>"never"
structure Rul where
 w:Wrd
 hd:Int
 ps:List Prt
nonrec abbrev LRu:=List Rul
def Rul.hdD(r:Rul):D:=match r.w with
 |.never=>.non
 | _=>.int r.hd
def Rul.toD(r:Rul):D:=.tup [.str r.w.s,r.hdD,.lst (r.ps.map Prt.toD)]
structure Rul.Ok(n:Nat)(r:Rul):Prop where
 hd:r.w≠.never->0<=r.hd/\r.hd<(n:Int)
 ps:∀p∈r.ps,p.Ok n
 len:r.ps.length<=100000
def LB(r:Rul):du 6 r.toD:=by
 intro x a;simp only[aW,bO,or_false]at a
 rcases a with rfl |rfl |rfl
 .show rfl
 .unfold Rul.hdD
  cases r.w <;> show rfl
 .intro x a;have(p,_,rfl):=aO.mp a;show Lu p
def Rul.bodySure(r:Rul)(es:LOB):Bool:=r.ps.all λp=>p.sure es
def Rul.bodyLost(r:Rul)(es:LOB)(ws:LB0):Bool:=r.ps.any λp=>p.lost es ws
def Rul.surely(r:Rul)(es:LOB):Bool:=match r.w with
 |.may=>ae
 |.make=>(es.getD r.hd.toNat ac==aa ae) && r.bodySure es
 |.never=>r.bodySure es
def D4{a:Type}(f:a->Bool)(B:List a):(B.map λx=>D.bl (f x))=(B.map f).map D.bl:=by
 rw[map_map];rfl
def all_map(f:Prt->Bool)(B:List Prt):kP [.lst (B.map λx=>D.bl (f x))]=aa (.bl (B.all f)):=by
 rw[D4,LA,oQ];rfl
def any_map(f:Prt->Bool)(B:List Prt):f7 [.lst (B.map λx=>D.bl (f x))]=aa (.bl (B.any f)):=by
 rw[D4,D3,oR];rfl
def mm{p q:Int->Bool}:∀{L:LII},(∀z∈L,0<=z.2/\(p z.1=ab->q z.1=ab))->jg p L<=jg q L
 | [],_=>Int.le_refl _
 |z::L,h=>by
  have b:=mm λy a=>h y (be _ a);have(c,d):=h z aB;unfold jg at b ⊢
  grind
structure ik(es es':LOB):Prop where
 len:es'.length=es.length
 at':∀i,es.getD i ac=ac\/es'.getD i ac=es.getD i ac
structure mn(ws ws':LB0):Prop where
 len:ws'.length=ws.length
 at':∀i,ws.getD i ae=ab->ws'.getD i ae=ab
def ik.refl(es:LOB):ik es es:=(rfl,λ_=>.inr rfl)
def mn.refl(ws:LB0):mn ws ws:=(rfl,λ_ h=>h)
variable{es':LOB}{ws:LB0}
def tM{es:LOB}{ws':LB0}{p:Prt}(f:ik es es')(g:mn ws ws')(h:p.Ok es.length)(s:p.lost es ws=ab):p.lost es' ws'=ab:=by
 have key:∀{i:Nat} {b:Bool},(es.getD i ac==aa b)=ab->(es'.getD i ac==aa b)=ab:=λ{i b} e=>by
  rcases f.at' i with z |z
  .rw[z]at e;cases b <;> cases e
  .rw[z];show e
 cases p with
 |inn t=>
  have s:(_ || ws.getD t.toNat ae)=ab:=s;change(_ || ws'.getD t.toNat ae)=ab;rw[iZ]at s ⊢
  show s.imp key (g.at' _)
 |out t=>show key s
 |least k L=>
  have s:=of_decide_eq_true s;show decide_eq_true (vo (mm λz hz=>((h.1 z hz).2.2,λe=>?_)) s);rw[bV]at e ⊢;show(?_,?_)
  .cases q:(es.getD z.1.toNat ac==aa ae)with
   |false=>rfl
   |true=>rw[key q]at e;show e.1
  .cases q:ws.getD z.1.toNat ae with
   |false=>rfl
   |true=>rw[g.at' _ q]at e;show e.2
 |most k L=>
  have s:=of_decide_eq_true s;show decide_eq_true (vp s ?_);rw[nH,nH];show mm λz hz=>((h.1 z hz).2.2,λe=>key e)
def pU{a:Type}{p q:a->Bool}{B:List a}(h:∀x∈B,p x=ab->q x=ab)(s:B.any p=ab):B.any q=ab:=by grind
def Ite(K:aU)(l:Addr):It:=
  (λi H=> ∃B x, SqL K H l B/\B[i]? = aa x,
   λi H v H'=> ∃p x, v = .ref p/\H p = ac/\H' = upd H p (.tup [.int i, x])/\(∀B, SqL K H l B->B[i]? = aa x),
   λi H=> ∃B, SqL K H l B/\B.length<=i)
variable{elts:LEx}{kx:Nat}
def LC(e it l:Addr)(ne:e≠it):
  kz P w K (.Tuple elts kx pos) (Ite K l) [e,it] e (λi h=>(∃old,IsEnum h e it (i:Int) old)/\h.IsListIter it l i) where
 mem:=by simp
 obj:=λi h st b hb=>by
  have((old,he),(o1,e1,_,d1)):=st;simp only[aW,bO,or_false]at hb
  rcases hb with rfl |rfl
  .show⟨_,he,λv q=>by nomatch q⟩
  .show⟨o1,e1,λv q=>by rw[d1]at q;nomatch q⟩
 keep:=λi h h' st k=>by
  have((old,he),h1):=st;show((old,k e (by simp) _ he),h1.at λo q=>k it (by simp) o q)
 item:=by
  intro X hP hw hK hc i M s J H S5 I hf st hg;subst hP hw hK;have((old,he),h1):=st;have(B,x,q1,hx):=hg;have(its1,r1,p1,z1):=I.list q1;have(u1,e1,ru1):=r1.get hx;show wpAny_pyNext_enum_item he h1 p1.isList (by simpa using e1) ne λh' a1 a3 a5 a6 a7=>(_,rfl,?_);show wpAny_letOwnedTupleGo_enum a1 λh'' b1 b2=>?_
  have lt:∀b∈[e,it],b<s.heap.objs.size:=λb hb=>by
   simp only[aW,bO,or_false]at hb
   rcases hb with rfl |rfl
   .show bx he
   .have(o,e,_):=h1;show bx e
  have kk:∀b o,b∉[e,it]->s.heap.get? b=aa o->h''.get? b=aa o:=λb o hb e=>by
   simp only[aW,bO,or_false,not_or]at hb;have(n1,n2):=hb;show(b2.2 b n1).trans (a7 b o n1 n2 e)
  have fr:=I.hok.fresh (aP _)
  have I2:Inv X M J (upd H s.heap.objs.size (.tup [.int i,x])) {s with heap:=h'',toks:=s.toks+1}:=
   (I.turnedMany kk hf).track (I.fpOk (aP _) fr) ((by change 2<=aT;decide),_,.cons (s.toks,rfl) (.cons ru1 .nil),(_,((b2.2 _ (oU (lt e (by simp)))).trans a5),rfl,_,rfl))
  show(.ref s.heap.objs.size,_,I2,rfl,(_,x,rfl,fr,rfl,λxs' h=>by rw[I.list_inj h q1];show hx),((u1,?_),(a3.at λo q=>(b2.2 it (fN ne)).trans q)),λb hb=>?_)
  .have:((i+1:Nat):Int)=i+1:=by push_cast;rfl
   rw[this];show b1
  .rw[aK (bT (lt b hb))];show(hf b hb).1
 done:=by
  intro X hP hw hK hc i M s J H S5 I hf st hg;subst hP hw hK;have((old,he),h1):=st;have(B,q1,hend):=hg;have(its1,r1,p1,z1):=I.list q1;have l1':=r1.length;show wpAny_pyNext_enum_end (I.ok.hd hc) he h1 p1.isList (by simp;lia) λh' kk=>(rfl,I.turnedMany (λb o hb q=>?_) hf);simp only[aW,bO,or_false,not_or]at hb;show kk b o hb.2 q
 self:=λ_ _ _ _ _ st h=>by have((old,he),_):=st;show wpAny_pyIter_enum he h
def LF(K:aU)(a:TA):TI:=λJ H R=>a J H λvs H1=>∃l,vs=[.ref l]/\(∃B,SqL K H1 l B)/\R (Ite K l) H1
variable{tpos:Pos}{a:Expr}
def D5{m:TA}(w:Gl X "enumerate")(hm:X.mg "enumerate"=ac)(ha:PA X [a] m)(x:autoParam (aR [a] X.env=[(ae,eval a X.env,)]) Zb):
  PI X (.Tuple elts kx tpos) (.Call (.Name "enumerate" p) [a] [] pos) (LF X.K m):=by
 intro M s J H R I h;show Call_ (je I w hm boot_enumerate (oX (thn (ha pos M s J H _ I h) λus s1 (vs,H1,d,j,z)=>?_) (by rw[x];rfl) (by rfl)));have(l,e,(B,v),q):=z;subst e;have(u,rfl,ru):=lN j;subst ru;have(i,j,y,C):=d.list v;show call_enumerate_list y.isList λh' f n A r=>?_;show wpAny_pyIter_enum f ?_;show(_,_,_,_,H1,rfl,(d.kept r),LC _ _ _ (Nat.succ_ne_self _),((_,f),n),λb g=>?_,q);simp only[aW,bO,or_false]at g
 have c:s1.heap.objs.size<=b:=by
  rcases g with rfl |rfl
  .show vB _ _
  .show aP _
 show d.fpOk c (d.hok.fresh c)
abbrev gU:Nat->LD->LD
 | _,[]=>[]
 |i,x::B=>.tup [.int i,x]::gU (i+1) B
def xl:∀(i:Nat) (B:LD),(gU i B).length=B.length
 | _,[]=>rfl
 |i,x::B=>by simp only[gU,cr,cr,xl]
def tN:∀(k:Nat) (B:LD) (i:Nat),(gU k B)[i]?=(B[i]?).map λx=>.tup [.int (k+i:Nat),x]
 | _,[],_=>rfl
 |k,x::B,0=>rfl
 |k,x::B,i+1=>by simp only[gU,gM,gM,tN _ B i,show k+1+i=k+(i+1) by lia]
abbrev xm:LD->OLD
 | [x]=>(lsD x).map (gU 0)
 | _=>ac
def il(f:MF2)(U:LS):OLD:=(f U).bind xm
def LG{f:MF2}(Q:Gl X "enumerate")(hm:X.mg "enumerate"=ac)(ha:DA c X [a] f)(T:autoParam (aR [a] X.env=[(ae,eval a X.env,)]) Zb):
  DI c X (.Tuple elts kx tpos) (.Call (.Name "enumerate" p) [a] [] pos) (il f):=
 PI.imp (D5 Q hm ha.pa T) λJ H R q_=>by
  have(Hf0,H0,Hf,U,E,st,b,k):=q_;unfold il at b
  cases j:f U with
  |none=>rw[j]at b;nomatch b
  |some w=>
   rw[j]at b;replace b:xm w=aa E:=b;show(Hf0,H0,Hf,U,w,st,j,λvs C H' x r=>?_);unfold xm at b;split at b
   .rename_i dx
    cases ex:lsD dx with
    |none=>rw[ex]at b;nomatch b
    |some B=>
     rw[ex]at b;cases b;have(v,M,rv):=r.one;have(Y,h,l,A,G):=jG ex rv;subst l;show(Y,M,(h,x.s.seq A),k _ C H' x λcc H2 f2 s2 i=>?_);have m:=(f2.trans s2).seq A;have h1:=G.length;show(λd e=>?_,λL=>(h,m,by rw[xl]at L;lia));rw[tN]at e
     cases n:B[i]? with
     |none=>rw[n]at e;nomatch e
     |some x'=>
      rw[n]at e;cases e;have(u1,g,q):=G.get n;show((h,u1,m,g),λz H3 (pp,z1,N,y,I,y1)=>?_);subst N I;have u:=y1 h m;rw[g]at u;cases u;show(upd cc pp _,Ext.new s2 y,pp,_,rfl,a9,.cons (by rw[jw];rfl) (.cons (q.up (f2.trans (bE (s2.free y)))) .nil))
   .nomatch b
abbrev jl:D->Option Key
 |.int i=>aa (.inl i)
 |.str x=>aa (.inr x)
 | _=>ac
variable{k:Key}
def tO(e:jl d=aa k)(r:Rep G H d v):v=kV k:=by
 cases d <;> first |(cases e;done) |(cases e;show r)
def f8(ks:List Key)(k:Key):Bool:=ks.any λj=>decide (j=k)
def io{a:Type}(ks:List Key)(B:List a)(k:Key)(x:a):List a:=if f8 ks k=ab then m3 (λj y=>if j=k then x else y) ks B else B++[x]
def gV(ks:List Key)(k:Key):List Key:=if f8 ks k=ab then ks else ks++[k]
def D6{ks:List Key}{k:Key}{v:V}:∀{ks:List Key} {vs:LVv},(ks.zip vs).map (λa=>if a.1=k then (a.1,v,) else a)=ks.zip (m3 (λj y=>if j=k then v else y) ks vs)
 | [],_=>rfl
 | _::_,[]=>rfl
 |j::ks,y::vs=>by
  simp only[eP,bP,rm,eP,D6 (ks:=ks)]
  by_cases h:j=k
  .subst h;simp
  .simp[h]
def xn{k:Key}:∀{ks:List Key} {vs:LVv},ks.length=vs.length->((ks.zip vs).any λa=>decide (a.1=k))=f8 ks k
 | [],[],_=>rfl
 | [],_::_,h=>by cases h
 | _::_,[],h=>by cases h
 |j::ks,y::vs,h=>by
  simp only[eP,gj,gj,xn (by simpa using h)];rfl
variable{ks:List Key}
def LH(h:ks.length=vs.length):dn (ks.zip vs) k v=(gV ks k).zip (io ks vs k v):=by
 unfold dn gV io;rw[xn h]
 by_cases e:f8 ks k=ab
 .rw[if_pos e,if_pos e,if_pos e,D6 (ks:=ks)]
 .rw[if_neg e,if_neg e,if_neg e,zip_append h];rfl
def dG{a:Type}{vs:List a}{v:a}(h:ks.length=vs.length):(gV ks k).length=(io ks vs k v).length:=by
 unfold gV io
 by_cases e:f8 ks k=ab
 .rw[if_pos e,if_pos e,length_zipWith];lia
 .rw[if_neg e,if_neg e,bf,bf,h];rfl
def ak.zipW{G:Gc}{H:Hp}{k:Key}{d:D}{v:V}(q:Rep G H d v):∀{ks:List Key} {E:LD} {vs:LVv},ak G H E vs->ak G H (m3 (λj y=>if j=k then d else y) ks E) (m3 (λj y=>if j=k then v else y) ks vs)
 | [],_,_,_=>.nil
 | _::_,[],_,h=>by cases (h);show .nil
 |j::ks,x::E,_,q3_=>by
  have(u,r,e,b,a):=q3_;subst e;rw[rm,rm];show .cons ?_ (ak.zipW q a)
  grind
def ak.put(r:ak G H E vs)(q:Rep G H d v):ak G H (io ks E k d) (io ks vs k v):=by
 unfold io
 by_cases e:f8 ks k=ab
 .rw[if_pos e,if_pos e];show r.zipW q
 .rw[if_neg e,if_neg e];show r.append (.cons q .nil)
def nS(i:Nat)(U:LS):Option Fl:=aa (.nx (U.set i (.ownd [] [])))
def iQ(i:Nat)(a b:MF1)(U:LS):Option Fl:=(b U).bind λd=>(a U).bind λx=>(jl x).bind λk=>match U[i]? with
 |some (.ownd ks B)=>if ks.length<16777216 then aa (.nx (U.set i (.ownd (gV ks k) (io ks B k d)))) else ac
 | _=>ac
def pV(x y:D):OD:=(jl x).bind λk=>match y with
 |.dic ks _=>aa (.bl (f8 ks k))
 | _=>ac
variable{i:Nat}
def LI(e:PS X st (hV CU (gt i))):DS c X st (nS i):=PS.imp e λS5 J H g=>by
 have(Hf0,H0,Hf,U,o,b,d,k):=g;cases d;intro q a;have x:Ext Hf H Hf (upd H q (.dK [])):=Ext.tmp b.sub a;show k _ Hf _ x.f (b.setOwn rfl x a (b.sub.free a) ([],a9,rfl,.nil))
variable{p':Pos}
def D7(i:Nat)(a:X.N.Nodup)(hi:autoParam (X.N[i]?=aa x) Zb)(e:autoParam (Loc X.env.scope x) Zf)(d:autoParam (fP (.Dict [] [] pos) (aa (.Name x c5)) p'.line X.env=pure ae) Zb)(b:autoParam (LcF X x) Zg):
  DS c X (.Assign [.Name x c5] (.Dict [] [] pos) p') (nS i):=LI (lM a hi e Kb d b)
variable{fk fv:MF1}
def LJ(w:PS X st (wG (cL i) (tD (Gx c X) fk) (tD (Gx c X) fv))):DS c X st (iQ i fk fv):=PS.imp w λS5 J H C=>by
 have(Hf0,H0,Hf,U,o,n,a,k):=C;unfold iQ at a
 cases g:fv U with
 |none=>rw[g]at a;nomatch a
 |some d=>
  rw[g]at a
  cases j:fk U with
  |none=>rw[j]at a;nomatch a
  |some x=>
   rw[j]at a
   cases m:jl x with
   |none=>rw[aw,aw,m]at a;nomatch a
   |some A=>
    simp only[aw,aw,m]at a;split at a
    .rename_i ks B es;split at a
     .rename_i M;cases a;show(Hf0,H0,Hf,U,d,n,g,λv cm H1 p E=>?_);have b:=n.step p;have(l,el,I,L,vs,q,z,r):=b.ownAt rfl es;show(_,el,Hf0,H0,cm,U,x,b,j,λy cc H2 e G=>?_);have u:=tO m G;subst u;show(l,_,rfl,kC.k (e.h _ _ q) (by rw[df,length_zip];lia),?_);show k J cc _ (p.f.trans e.f) ((b.step e).mutd rfl rfl es el (io ks vs A v,?_,dG z,(r.up e.f).put (E.up e.f)));rw[a9,LH z]
     .nomatch a
    .nomatch a
variable{i' value:Expr}
def D8(f:X.A.units+64<cLine)(b:PE X e (cL i))(a:DE c X i' fk)(hv:DE c X value fv)(d:autoParam (fP value (aa (.Subscript e i' c5)) pos.line X.env=pure ae) Zb):
  DS c X (.Assign [.Subscript e i' c5] value pos) (iQ i fk fv):=LJ (CT (by lia) b a hv d)
def LK:∀{ks:List Key} {vs:LVv},ks.length=vs.length->(cC (ks.zip vs) k).isSome=f8 ks k:=λ{ks vs} h=>by
 rw[<- sA,xn h]
variable{b:Expr}
def LL(L:X.A.units+64<cLine)(ha:DE c X a f)(C:DE c X b g)(hm:autoParam (kf .In b=ae) Zl):DE c X (.Compare a [.In] [b] pos) (m2 pV f g):=
 PE.imp (HM (J7 (by lia) ha C) hm) λJ H Q E=>by
  have(Hf0,H0,Hf,U,d,st,p,k):=E;have(x,y,m,n,e):=sH p;show(Hf0,H0,Hf,U,x,st,m,λv cm H1 i G=>(Hf0,H0,cm,U,y,st.step i,n,λu cc H2 j I=>?_));unfold pV at e
  cases h:jl x with
  |none=>rw[h]at e;nomatch e
  |some M=>
   rw[h]at e
   cases y with
   |dic ks B=>
    cases e;have(l,vs,el,q,z,r):=I;have w:=tO h G;subst w el;show(l,_,rfl,fV.k (j.s _ _ q),k _ cc H2 (i.trans j) ?_);rw[LK z]
    rfl
   | _=>nomatch e
def iR(i:Nat)(fk fv:MF1)(U:LS):Option Fl:=(fv U).bind λd=>(fk U).bind λx=>match x with
 | .int k=>(match U[i]? with
  |some (.own B)=>(ixN B.length k).map λj=>.nx (U.set i (.own (B.set j d)))
  | _=>ac)
 | _=>ac
def LM(z:PS X st (hV (tD (Gx c X) fv) (vU (cL i) (tD (Gx c X) fk) ww))):DS c X st (iR i fk fv):=PS.imp z λS5 J H A=>by
 have(Hf0,H0,Hf,U,o,u,a,k):=A;unfold iR at a
 cases m:fv U with
 |none=>rw[m]at a;nomatch a
 |some d=>
  rw[m]at a
  cases n:fk U with
  |none=>rw[n]at a;nomatch a
  |some x=>
   rw[n]at a;obtain⟨e,rfl⟩:∃e,x=.int e:=by grind
   replace a:(match U[i]? with |some (.own B)=>(ixN B.length e).map λj=>Fl.nx _ | _=>ac)=aa o:=a
   split at a
   .rename_i B es
    cases p:ixN B.length e with
    |none=>rw[p]at a;nomatch a
    |some j=>
     rw[p]at a;cases a;show(Hf0,H0,Hf,U,d,u,m,λv cm H1 w C=>?_);have b:=u.step w;have(l,el,G,I,vs,q,r):=b.ownAt rfl es;show(_,el,Hf0,H0,cm,U,.int e,b,n,λy cc H2 g E=>?_);show(l,vs,e,j,rfl,E,(g.h _ _ q),by rw[<- r.length];show p,(k J cc _ (w.f.trans g.f) ((b.step g).mutd rfl rfl es el (vs.set j v,a9,(r.up g.f).set j (C.up g.f)))))
   .grind
def LO(d:PE X e (cL i))(b:DE c X i' fk)(hv:DE c X value fv)(f:autoParam (swapsWithSole [.Subscript e i' c5] value pos.line X.env=pure ae) Zb)(g:autoParam (swappedStores [.Subscript e i' c5] value X.env=pure ac) Zb)
 (a:autoParam ((g8 [.Subscript e i' c5] X.env).map (·.2)=[assign (.Subscript e i' c5) X.env]) Zb)
 (ha:autoParam (∀ v,assign (.Subscript e i' c5) X.env v=(do
   let ov <- fu [v] (eval e X.env)
   let iv <- fu [v,ov] (eval i' X.env)
   g9 c5
   fu [v,ov,iv] (setItem ov iv v)
   release [v,ov,iv] [])) Zd):
  DS c X (.Assign [.Subscript e i' c5] value pos) (iR i fk fv):=LM (vV hv (Cg d b CG ha) f g a)
def xp{G:Gc}{H:Hp}{f:D->D->Option Bool}(i:∀(g h x:D) (c d:Bool) (v:V),Rep G H g v->Rep G H h v->f g x=aa c->f h x=aa d->c=d):
  ∀{a b ys:LD} {c d:Bool} {vs:LVv},ak G H a vs->ak G H b vs->cO f a ys=aa c->cO f b ys=aa d->c=d
 | [],[],[],_,_,_,_,_,h1,h2=>by cases h1;cases h2;rfl
 | [],[],_::_,_,_,_,_,_,h1,h2=>by cases h1;cases h2;rfl
 | [],_::_,_,_,_,_,r1,r2,_,_=>by have:=r1.length;have:=r2.length;simp at *;lia
 | _::_,[],_,_,_,_,r1,r2,_,_=>by have:=r1.length;have:=r2.length;simp at *;lia
 | _::_,_::_,[],_,_,_,_,_,h1,h2=>by cases h1;cases h2;rfl
 |g::a,h::b,y::ys,c,d,vs,r1,r2,h1,h2=>by
  have(v,r,e,q,u):=r1;have(I,E,j,p2,w):=r2;subst e;cases j;have(z,A,l,m,rfl):=sO h1;have(B,C,n,p,rfl):=sO h2;rw[(i _ _ _ _ _ _ q p2 l n),(xp i u w m p)]
abbrev vD:V->D
 |.bl b=>.bl b
 |.int i=>.int i
 |.str x=>.str x
 | _=>.non
def D9(s:d.scalar=ab)(r:Rep G H d v):d=vD v:=by
 cases d <;> first |(cases s;done) |(rw[show v=_ from r];rfl)
def tP{a:Addr}(s:d.scalar=ab)(r:Rep G H d (.ref a)):False:=by
 cases d <;> first |(cases s;done) |(cases (r))
def tQ{G:Gc}{H:Hp}:∀(n:Nat) {u w x:D} {p r:Bool} {v:V},Rep G H u v->Rep G H w v->deq n u x=aa p->deq n w x=aa r->p=r
 | 0,_,_,_,_,_,_,_,_,h,_=>by cases h
 |n+1,u,w,x,p,r,v,r1,r2,h1,h2=>by
  replace h1:lX _ u x=aa p:=h1;replace h2:lX _ w x=aa r:=h2
  have S3:∀{B ys:LD},u=.lst B->w=.lst ys->p=r:=λ{B ys} m g=>by
   subst m g;have(a,vs,e,q,rs):=r1;have(z,y,i,j,c):=r2;rw[e]at i;cases i;rw[q]at j;cases j;have C:=rs.length;have E:=c.length
   cases x with
   |lst l=>
    replace h1:(if B.length=l.length then cO _ B l else aa ae)=aa p:=h1;replace h2:(if ys.length=l.length then cO _ ys l else aa ae)=aa r:=h2
    by_cases A:B.length=l.length
    .rw[if_pos A]at h1;rw[if_pos (by lia)]at h2;show xp (f:=deq n) (λ_ _ _ _ _ _=>tQ n) rs c h1 h2
    .grind
   | _=>cases h1
  have T:∀{B ys:LD},u=.tup B->w=.tup ys->p=r:=λ{B ys} m g=>by
   subst m g;have(a,vs,e,q,rs):=r1;have(z,y,i,j,c):=r2;rw[e]at i;cases i;rw[q]at j;cases j;have C:=rs.length;have E:=c.length
   cases x with
   |tup l=>
    replace h1:(if B.length=l.length then cO _ B l else ac)=aa p:=h1;replace h2:(if ys.length=l.length then cO _ ys l else ac)=aa r:=h2
    by_cases A:B.length=l.length
    .rw[if_pos A]at h1;rw[if_pos (by lia)]at h2;show xp (f:=deq n) (λ_ _ _ _ _ _=>tQ n) rs c h1 h2
    .grind
   | _=>cases h1
  have no:∀{d:D} {b:Bool},lX (deq n) d x=aa b->d.scalar=ab\/(∃B,d=.lst B)\/∃B,d=.tup B:=λ{d b} h=>by
   unfold lX at h
   grind
  rcases no h1 with s1 |⟨B,m⟩ |⟨B,m⟩
  .have:u=w:=by
    rcases no h2 with s2 |⟨ys,g⟩ |⟨ys,g⟩
    .rw[D9 s1 r1,<- D9 s2 r2]
    .subst g;have(a,_,e,_):=r2;subst e;show(tP s1 r1).elim
    .subst g;have(a,_,e,_):=r2;subst e;show(tP s1 r1).elim
   grind
  .rcases no h2 with s2 |⟨ys,g⟩ |⟨ys,g⟩
   .subst m;have(a,_,e,_):=r1;subst e;show(tP s2 r2).elim
   .grind
   .subst m g;have(a,vs,e,q,rs):=r1;have(z,y,i,j,c):=r2;rw[e]at i;cases i;rw[q]at j;cases j
  .rcases no h2 with s2 |⟨ys,g⟩ |⟨ys,g⟩
   .subst m;have(a,_,e,_):=r1;subst e;show(tP s2 r2).elim
   .subst m g;have(a,vs,e,q,rs):=r1;have(z,y,i,j,c):=r2;rw[e]at i;cases i;rw[q]at j;cases j
   .show T m g
abbrev d3(x:D):LD->Option Bool
 | []=>aa ae
 |d::E=>(deq 19 d x).bind λb=>(d3 x E).map λr=>b || r
def eX(x y:D):OD:=((ia y).bind (d3 x)).map .bl
def LP:∀x y d,eX x y=aa d->d.scalar=ab:=λ_ _ d e=>lW d e
def Ea{x:D}{b:Bool}(h:d3 x (d::E)=aa b):∃a c,deq 19 d x=aa a/\d3 x E=aa c/\b=(a || c):=by
 dsimp only[d3]at h
 cases e:deq 19 d x with
 |none=>rw[e]at h;nomatch h
 |some a=>
  cases f:d3 x E with
  |none=>rw[e,f]at h;nomatch h
  |some c=>rw[e,f]at h;cases h;show(a,c,rfl,rfl,rfl)
def xq{a:Type}{f g:a->Bool}:∀{l:List a},(∀x∈l,f x=g x)->l.any f=l.any g
 | [],_=>rfl
 |x::l,h=>by simp only[gj,gj,h x aB,xq λy b=>h y (be _ b)]
open Classical in
def tR{M:PNS}{J:St}{H:Hp}{s:ah}{A:b7}{x:D}{L:V}{u:Value}(I:Inv X M J H s)(hu:A.units+19<cLine)(G:Rep (Gx c X) H x L)(ru:aC L u):
  ∀{E:LD} {vs:LVv} {us:LVa} {b:Bool},ak (Gx c X) H E vs->aJ vs us->d3 x E=aa b ->
   ∃f:Value->Bool,(∀y∈us,ca A s y u (f y)/\∃d v,Rep (Gx c X) H d v/\aC v y/\deq 19 d x=aa (f y))/\us.any f=b
 | [],_,_,b,r,rv,h=>by
  cases (show _=[]from r);cases rv;cases h
  show(λ_=>ae,(λy g=>by cases g),rfl)
 |d::E,_,_,b,q4_,rv,h=>by
  have(v,C,l,n,T):=q4_;subst l;have(i,Y,m,Q,rfl):=Ea h
  cases rv with
  | @cons _ y _ us a w=>
   have(f,B,ha):=tR I hu G ru T w Q;have j:ca A s y u i:=wV I 19 hu m n G a ru;show(λz=>if z=y then i else f z,λz hz=>?_,?_)
   .by_cases e:z=y
    .subst e;simp only[if_true];show(j,d,v,n,a,m)
    .simp only[e,if_false];show B z ((aW.mp hz).resolve_left e)
   .rw[gj,if_pos rfl,<- ha]
    congr 1
    by_cases g:y∈us
    .have(_,d',U,C,p,h'):=B y g;have l:U=v:=aC.inj p a;subst l;have N:f y=i:=tQ 19 C n h' m;show xq λz hz=>?_
     by_cases e:z=y
     .subst e;simp[N]
     .simp[e]
    .show xq λz hz=>?_;have e:z≠y:=λq=>g (q▸hz);simp[e]
def LQ(G:X.A.units+64<cLine):OpD c X (cu .In) eX:=by
 rintro M s J H v u w N Q I n ru ⟨Hf,x,y,d,i,m,C,e,k⟩;unfold eX at e
 cases h:(ia y).bind _ with
 |none=>rw[h]at e;nomatch e
 |some b=>
  rw[h]at e;cases e
  cases es:ia y with
  |none=>rw[es]at h;nomatch h
  |some E=>
   rw[es]at h;have(a,vs,B,q,r):=nI es (C.up i);subst B;subst ru;have g:∃p H',Inv X M J H' s/\aC p _/\Q p H':=(.bl b,H,I,rfl,k _ Hf H (Ext.refl i) rfl)
   rcases q with q |q
   .have(L,l,pl,hz):=I.list q;have(f,j,ha):=tR (A:=X.A.in1) I (by grind) (m.up i) n r l h;show SeqAt.in_listAt f pl.isList (λz hz=>(j z (by grind)).1) ?_;rw[show L.toArray.any f=L.any f by simp,ha];show g
   .have(L,l,pl,hz):=I.tuple q;have(f,j,ha):=tR (A:=X.A.in1) I (by grind) (m.up i) n r l h;show SeqAt.in_tupleAt f pl (λz hz=>(j z (by grind)).1) ?_;rw[show L.toArray.any f=L.any f by simp,ha];show g
def Ris(B:Array Nat):Prop:=B.toList.Pairwise (· < ·)
variable{B:Array Nat}
def Eb(h:Ris B){a b:Nat}(c:a<b)(d:b<B.size):B.getD a j<B.getD b j:=by
 have e:=pairwise_iff_getElem.mp h a b (by simpa using m5 c d) (by simpa using d) c;rw[oK,oK,dif_pos (m5 c d),dif_pos d];show e
def xr(h:Ris B){a b:Nat}(c:a<=b)(d:b<B.size):B.getD a j<=B.getD b j:=by
 rcases Nat.eq_or_lt_of_le c with e |e
 .subst e;show aP _
 .show eS (Eb h e d)
def xu{B:Array Nat}{j:Nat}(h:Ris B):∀(a lo hi:Nat),lo<=hi->hi<=B.size->hi-lo<=a->(∀i,i<lo->B.getD i j<j)->(∀i,hi<=i->i<B.size->¬B.getD i j<j) ->
  rX B j a lo hi<=B.size/\(∀i,i<rX B j a lo hi->B.getD i j<j)/\∀i,rX B j a lo hi<=i->i<B.size->¬B.getD i j<j
 | 0,lo,hi,h1,h2,h3,h4,h5=>by
  have e:lo=hi:=by lia
  subst e
  show(h2,h4,h5)
 |a+1,lo,hi,h1,h2,h3,h4,h5=>by
  dsimp only[rX]
  by_cases c:lo<hi
  .rw[if_pos c]
   by_cases hm:B.getD ((lo+hi) / 2) j<j
   .simp only[hm];show xu h a _ hi (by lia) h2 (by lia) (λi b=>(m4 (xr h (by lia) (by lia)) hm)) h5
   .simp only[hm];show xu h a lo _ (by lia) (by lia) (by lia) h4 λi b f d=>(hm (m4 (xr h b f) d))
  .rw[if_neg c];have e:lo=hi:=by lia
   subst e;show(h2,h4,h5)
def xv(h:Ris B)(j:Nat):cb B j<=B.size/\(∀i,i<cb B j->B.getD i j<j)/\∀i,cb B j<=i->i<B.size->¬B.getD i j<j:=
 xu h B.size 0 B.size (cK _) (aP _) (by lia) (λi hi=>by lia) λi hi a=>by lia
def LR(h:Ris B)(hi:i<B.size):cb B (B[i]+1)=i+1:=by
 have(l,f,g):=xv h _;have e:B.getD i (B[i]+1)=B[i]:=by rw[oK,dif_pos hi];rfl
 by_cases d:cb B (B[i]+1)<=i
 .show absurd (by rw[e];lia) (g i d hi)
 .by_cases c:i+1<cb B (B[i]+1)
  .have a:=f _ c;have b:=Eb h (j:=B[i]+1) (show i<i+1 by lia) (by lia)
   lia
  .lia
def LU(h:Ris B):cb B 0=0:=by
 have(b,a,c):=xv h 0
 by_cases e:0<cb B 0
 .have:=a 0 e;lia
 .lia
def LV(h:Ris B)(hn:B[cb B j]?≠aa j):Ris (c3.insertAt B (cb B j) j):=by
 have(y,w,r):=xv h j;unfold Ris c3.insertAt;have g:∀i,(hi:i<B.size)->B.getD i j=B[i]:=λi hi=>by rw[oK,dif_pos hi];rfl
 simp only[Array.toList_append,vn,Array.toList_extract,Array.toList_extract];simp only[extract_eq_drop_take]
 have l:∀x∈B.toList.take (cb B j),x<j:=λx p=>by
  have(i,hi,e):=mem_take_iff_getElem.mp p;have n:i<cb B j:=by lia
  have:=w i n;rw[g i (by lia)]at this;rw[<- e];show this
 have f:∀x∈B.toList.drop _,j<x:=λx p=>by
  have(i,hi,e):=mem_drop_iff_getElem.mp p;have m:cb B j+i<B.size:=by simpa[Nat.add_comm]using hi
  have a:=r _ (by lia) m;rw[g _ m]at a;have ex:x=B[cb B j+i]:=by rw[<- e];simp
  rw[ex]
  rcases Nat.lt_or_ge j B[cb B j+i]with q |q
  .show q
  .exfalso;have v:B[cb B j+i]=j:=by lia
   have d:cb B j<B.size:=by lia
   have b:=xr h (j:=j) (show cb B j<=cb B j+i by lia) m;rw[g _ m,g _ d,v]at b;have c:=r _ (aP _) d;rw[g _ d]at c;show hn (by rw[lc d];congr 1;lia)
 have u:List.take (B.size-cb B j) _=List.drop (cb B j) B.toList:=take_of_length_le (by simp);rw[u];show pairwise_append.mpr (pairwise_append.mpr (BY (take_sublist _ _) h,by simp,λa ha b d=>?_),BY (drop_sublist _ _) h,λa ha b d=>?_)
 .have:b=j:=by simpa using d
  subst this;show l a ha
 .rcases bI.mp ha with ha |ha
  .show m5 (l a ha) (f b d)
  .have:a=j:=by simpa using ha
   subst this;show f b d
def LW(n:Nat):Ris (Array.range n):=by
 unfold Ris;rw[Array.toList_range];show pairwise_lt_range
variable{t:c3}
def Ec(h:t.slot j=.empty\/t.slot j=.dummy):t.place[cb t.place j]?≠aa j:=λe=>by
 have:t.slot j=.live (cb t.place j):=by
  unfold c3.slot
  grind
 grind
def xy{t:c3}{h:Int}:∀(a:Nat) (p:c3.Probe) {j:Nat} {d:Option Nat},(∀d',p.dummy=aa d'->t.place[cb t.place d']?≠aa d')->c3.probe.go t (λ_=>h+1) h a p=aa (.empty j d) ->
  t.place[cb t.place j]?≠aa j/\∀d',d=aa d'->t.place[cb t.place d']?≠aa d'
 | 0,_,_,_,_,e=>by cases e
 |a+1,p,j,d,hd,e=>by
  dsimp only[c3.probe.go]at e;split at e
  .rename_i b;cases e;show(Ec (.inl b),hd)
  .rename_i b;show xy a _ (λd' q=>?_) e
   have:d'=p.j:=by
    unfold c3.advance at q;split at q
    .show(cS q).symm
    .show(cS q).symm
   subst this;show Ec (.inr b)
  .rename_i i b;split at e
   .cases e
   .show xy a _ (λd' q=>hd d' ?_) e;unfold c3.advance at q
    split at q <;> show q
def LX{h:Int}{w:Bool}(e:t.freeSlot h=aa (j,w,)):t.place[cb t.place j]?≠aa j:=by
 unfold c3.freeSlot at e;split at e
 .rename_i f d c;have(a,b):=xy _ _ (λd' q=>by nomatch q) c
  cases d with
  |none=>cases e;show a
  |some d'=>cases e;show b _ rfl
 .grind
def tS(t:c3)(n:Nat):Ris (t.standIn n).place/\(t.standIn n).led=t.led:=(LW n,rfl)
def LY(n:Nat)(h:Ris t.place):Ris (t.orStandIn n).place/\(t.orStandIn n).led=t.led:=by
 unfold c3.orStandIn;split
 .show(h,rfl)
 .show tS t n
def LZ(es:Array (Int×Value))(h:Int)(x:Value)(b:Ris t.place):Ris (layNew t es h x).2.1.place/\(layNew t es h x).2.1.led=t.led:=by
 unfold layNew;split
 .rename_i slot c a;show LY _ (LV b (LX a))
 .show tS t _
variable{led:Bool}
def L4{mask finger moves:Nat}{plain:Bool}{c:Array Int}{t':c3}{d:Array Nat}(e:c3.laid mask finger moves led plain c=aa (t',d,)):Ris t'.place/\t'.led=led:=by
 unfold c3.laid at e
 cases f:c3.layClean mask c with
 |none=>rw[f]at e;nomatch e
 |some owner=>
  rw[f]at e;cases e;show(?_,rfl);unfold Ris;rw[pairwise_map,pairwise_filterMap];show List.Pairwise.imp (λ{a b} g=>?_) pairwise_lt_range
  simp_all
def L5(es:Array (Int×Value))(a:Nat):Ris (lE t es a).2.1.place/\(lE t es a).2.1.led=t.led:=by
 unfold lE;split
 .rename_i t' b c;dsimp only;split
  .show(L4 c)
  .show tS t _
 .show tS t _
def dH(P:bX)(w:World)(h:Heap)(a:Addr)(led:Bool)(S:Int->Bool)(n:Nat):Prop:=
 ∃o b d c,h.get? a=aa o/\o.ExactSet/\o.data=.set b d c/\ElemsOf (fq P w) b.toList/\(∀k,S k=ab↔∃e∈b.toList,(fq P w).is k e.2=ab)
  /\ b.size<i9/\c.fits b.size=ab/\b.size=n/\Ris c.place/\c.led=led
variable{h:Heap}{a:Addr}
def dH.stay{S:Int->Bool}(q:dH P w h a led S n)(k:∀o,h.get? a=aa o->h'.get? a=aa o):dH P w h' a led S n:=by
 have(o,b,c,e,d,r):=q;show(o,b,c,e,k o d,r)
def dH.congr{S b:Int->Bool}{c:Nat}(q:dH P w h a led S n)(e:∀k,S k=b k)(en:n=c):dH P w h a led b c:=by
 have:S=b:=funext e;subst this en;show q
variable{a4:Array (Int×Value)}{ep:Nat}{tb:c3}
def Ed{o:Obj}{b:Array (Int×Value)}{c:c3}{S:Int->Bool}(m:h.get? a=aa o)(f:o.ExactSet)(hd:o.data=.set a4 ep tb)
 (d:ElemsOf (fq P w) b.toList)(hm:∀k,S k=ab↔∃e∈b.toList,(fq P w).is k e.2=ab)(j:b.size<i9)(l:c.fits b.size=ab)(n:Ris c.place)(g:c.led=led):
  (h.update a (Obj.putSet b c)).get? a=aa {o with data:=.set b (ep+1) c}/\dH P w (h.update a (Obj.putSet b c)) a led S b.size:=by
 have i:=(SetOf_store m f hd d hm j l).1;show(i,_,b,ep+1,c,i,f,rfl,d,hm,j,l,rfl,n,g)
variable{s:ah}
def Ee{g:Bool->Sem Unit}(I:∀(b:Bool) (i:ah) (x:Unit->ah->Prop),x () i->wpAny (model P w) A (g b) x S5 i){o:Obj}{c:Array (Int×Value)}{d:c3}{S:Int->Bool}
 (B:s.heap.get? a=aa o)(m:o.ExactSet)(hd:o.data=.set a4 ep tb)(l:ElemsOf (fq P w) c.toList)(hm:∀k,S k=ab↔∃e∈c.toList,(fq P w).is k e.2=ab)
 (p:c.size<i9)(H:d.fits c.size=ab)(J:Ris d.place)(f:d.led=led){G:Bool}{R:Option Bool->ah->Prop}
 (h:∀h',gn a s.heap h'->dH P w h' a led S c.size->R (aa ab) {s with heap:=h'}):
  wpAny (model P w) A (do
    storeSet a c d
    if (!G && d.tooFull)=ab then do
      g (lE d c (nh c.size)).2.2
      storeSet a (lE d c (nh c.size)).1 (lE d c (nh c.size)).2.1
      pure (aa ab)
     else pure (aa ab)) R S5 s:=by
 show ap (wpAny_storeSet_of B hd ?_ (fits_of_scanBound p));have(n,L):=Ed B m hd l hm p H J f;have E:=o8 s.heap a (Obj.putSet c d);split
 .have pp:=relayAll_perm d c (nh c.size);have y:=relayAll_fits d c (nh c.size);have u:=L5 (t:=d) c (nh c.size);generalize lE d c _=z at pp y u ⊢;have(j,M,N):=z;have v:j.size=c.size:=by rw[<- iy,pp.length_eq,iy]
  show ap (I _ _ _ (ap (wpAny_storeSet_of n rfl ?_ (fits_of_scanBound (by rw[v];show p)))));have C:=(Ed n m rfl (l.perm pp) (λk=>(hm k).trans (λ(e,r,q)=>(e,pp.mem_iff.mpr r,q),λ(e,r,q)=>(e,pp.mem_iff.mp r,q))) (by rw[v];show p) y u.1 (u.2.trans f)).2;rw[v]at C;show aI (h _ (E.trans (o8 _ a _)) C)
 .show aI (h _ E L)
variable{k:Int}
def L6{S:Int->Bool}{x:Value}{Q:Bool->ah->Prop}(u:(fq P w).is k x=ab)(E:x.scannable=ab)(q:dH P w s.heap a led S n)(room:n+1<i9)
 (h:∀h',gn a s.heap h'->dH P w h' a led (λk'=>S k' || decide (k'=k)) (if S k then n else n+1)->Q (!S k) {s with heap:=h'}):wpAny (model P w) A (setAddHashed a x ((fq P w).hash k)) Q S5 s:=by
 have(o,a4,ep,tb,v,m,hd,g,hm,J,H,hn,L,i):=q;show jB (ap (m7 v hd H ?_));dsimp only;rw[byScan_of E J g,if_pos rfl];show ap (ap (lD (ap (wpAny_setScan_of u v hd H g ?_))))
 cases hi:List.findIdx? _ a4.toList with
 |some j=>
  have(N,T,_):=findIdx?_eq_some_iff_getElem.mp hi;have B:=(hm k).mpr (a4.toList[j],lh N,T);show aI (aI ?_)
  have f:=h s.heap (gn.refl a s.heap) (o,a4,ep,tb,v,m,hd,g,λk'=>by
   rw[iZ,decide_eq_true_eq,<- hm k'];show(λz=>z.elim id (λe=>e▸B),.inl),J,H,by rw[B];show hn,L,i)
  rw[B]at f
  show f
 |none=>
  have B:S k=ae:=by
   grind
  have M:∀b c r,r () c->wpAny (model P w) A (match b with |true=>rule "set.scan.the-table-gave-way" |false=>pure ()) r S5 c:=
   λb c r l=>by cases b <;> first |show aI l |show lD l
  have pp:=layNew_perm tb a4 ((fq P w).hash k) x;have C:=layNew_fits tb a4 ((fq P w).hash k) x;have G:=LZ a4 ((fq P w).hash k) x L;generalize layNew tb a4 _ x=z at pp C G ⊢;have(d,U,Y,gv):=z;dsimp only at pp C G ⊢;rw[vn]at pp;have I:d.size=n+1:=by rw[<- iy,pp.length_eq,bf,iy,hn];rfl
  have f:∀h',gn a s.heap h'->dH P w h' a led _ d.size->Q ab {s with heap:=h'}:=λh' y p=>by
   have:=h h' y;rw[B]at this;rw[I]at p;show this p
  show ap (M _ _ _ ?_);split
  .show ap ?_;rw[hashByValue_scannable 8 E]
   show aI (Ee (led:=led) (λb c r l=>by cases b <;> first |show aI l |show lD l) v m hd ((g.push u E).perm pp) (mem_push_iff u hm pp) (by rw[I];show room) ?_ ?_ ?_ λh' y p=>?_)
   .split
    .grind
    .show c3.fits_plain_off C
   .grind
   .grind
   .dsimp only;show aI (f h' y p)
  .show ap (aI ?_)
   show Ee (λb c r l=>by cases b <;> first |show aI l |show lD l) v m hd ((g.push u E).perm pp) (mem_push_iff u hm pp) (by rw[I];show room) C G.1 (G.2.trans i) λh' y p=>?_
   dsimp only;show aI (f h' y p)
set_option maxRecDepth 100000
def d4(w:World):Bool:=!(w.params.followText "set-order")
variable{I:Addr}{wr:LAd}{G:Array GenState->Array GenState->Prop}{Pv:Nat->Value->Prop}
def L7{St:Nat->ah->Prop}(W:WalksS P w A.in1 I fp wr G n Pv St)(S:Addr)(f:S∉fp)(val:Nat->Int)(hv:∀i v,Pv i v->∃t,v=.int (val i) t)(B:n+1<i9):
  ∀(k i:Nat) (s:ah),n-i=k->i<=n->St i s->dH P w s.heap S led (λj=>(d7 val i).any (·==j)) (d7 val i).length ->
   (∀s',Moved (S::wr) G s s'->dH P w s'.heap S led (λj=>(d7 val n).any (·==j)) (d7 val n).length->R (.ok (.ret .none)) s') ->
   hE (model P w) A (.builtin "set.update.loop" ([.ref S,.ref I],[])) R s:=by
 have g:=λh=>f (W.sub _ h);have sub:∀b∈wr,b∈S::wr:=λb h=>be _ h;intro k
 induction k with
 |zero=>
  intro i s r hi st q a;obtain rfl:i=n:=by lia
  show ke F.entry_set_update_loop ?_
  show ap (W.done s _ _ st λs' m=>(aI (a s' (m.mono sub) (q.stay λo e=>m.heap S o g e))))
 |succ k u=>
  intro i s r hi st q a;have lt:i<n:=by lia
  show ke F.entry_set_update_loop ?_;show ap (W.item i s _ _ lt st λv s' p d m=>?_);have(t,rfl):=hv i v p;show ap (jB ?_);show jB (ap ((fq P w).pyHash (intKind_is _ _ _ _) ?_));have room:(d7 val i).length+1<i9:=by have:=firstMet_length_le val i;lia
  show L6 (intKind_is _ _ _ _) rfl (q.stay λo e=>m.heap S o g e) room λh' l x=>?_;have y:dH P w h' S led (λj=>(d7 val _).any (·==j)) (d7 val _).length:=x.congr (λj=>by rw[firstMet_succ,step_any]) (by rw[firstMet_succ,step_length]);show aI (m8 F.plain_set_update_loop _,u _ _ (by lia) lt (W.frame _ s' _ _ d (jx _) λb c o e=>?_) y λs2 m2 z=>?_)
  .rw[l.2 b λh=>f (by rw[<- h];show c)];show e
  .show a s2 (Moved.trans W.gtrans ((m.mono sub).then_heap (jx _) λb o c e=>?_) m2) z;rw[l.2 b λh=>c (by rw[h];show aB)];show e
nonrec def iS(led:Bool):Obj:={cls:=.type "set",dict:=ac,data:=.set #[] 0 (.fresh 0 0 led)}
def L8(a:Value){Q:PRS}(h:Q (.ref s.heap.objs.size) {s with heap:=s.heap.push (iS (d4 w))}):
  hE (model P w) A (.call (.builtin "set.__new__") ([.type "set",a],[])) (wants Q S5) s:=by
 show codeAny_of_tree ?_;show ap (wpAny_of_eq (F.newCall_set_1 a) (aI (m8 F.plain_set_new _,ke F.entry_set_new ?_)));have b:=sub_set_self
 wp_walk
 show wpAny_askSetting (aI ?_);show ap (wpAny_alloc (aI (aI h)))
def L9(h:Heap)(led:Bool):dH P w (h.push (iS led)) h.objs.size led (λ_=>ae) 0:=
 (_,#[],0,_,cY _ rfl,(rfl,rfl,rfl),rfl,λe a=>by simp at a,λk=>by simp,by decide,rfl,rfl,by unfold Ris;simp[c3.fresh],rfl)
set_option maxRecDepth 100000
variable{ns:LI0}
set_option maxHeartbeats 8000000 in
def Ef{items:Array Value}{Q:PRS}(hh:A.handled=ac)(hl:s.heap.IsList l items)(hi:fh items.toList ns)(hb:items.size+1<i9)
 (h:∀ (h':Heap) (g:Nat),dH P w h' s.heap.objs.size (d4 w) (λj=>(d7 (λi=>ns.getD i 0) items.size).any (·==j)) (d7 (λi=>ns.getD i 0) items.size).length ->
   (∀b o,b<s.heap.objs.size->s.heap.get? b=aa o->h'.get? b=aa o)->s.toks<=g->Q (.ref s.heap.objs.size) {s with heap:=h',toks:=g}):
  wpAny (model P w) A (call (.type "set") [.ref l]) Q S5 s:=by
 have(c,tl,M):=kh.mro;have E:=kh.made;have N:=kh.sub;show wpAny_call (codeAny_of_tree ?_);change wpAny _ _ (callAny (.type "set") _) _ _ _;show aI (Code.quiet_builtin _ (by decide +kernel),ke F.entry_type_call ?_);rw[b7.under_plain (weight_type_call_type "set" [.ref l] []) rfl];have h1:=kh.notType;have h2:=kh.canCreate;have hct:=F.typeCall_set_1 (.ref l)
 repeat (any_goals (first |assumption |wp_step))
 show m9 (L8 (.ref l) (S5:=S5) (Q:=λU d=>U=.ref s.heap.objs.size/\d={s with heap:=s.heap.push (iS (d4 w))}) (rfl,rfl)) λr d G=>?_
 cases r with
 |error e=>show G
 |ok fl=>
  cases fl with
  |ret U=>
   have(rfl,rfl):=G;have g0:(s.heap.push (iS (d4 w))).get? s.heap.objs.size=aa (iS (d4 w)):=cY _ rfl
   have hT:ah.TypeIs {s with heap:=s.heap.push (iS (d4 w))} (.ref s.heap.objs.size) "set":=(_,g0,rfl)
   have hli:=kh.init.lookup;have hbi:=kh.init.bind (.ref s.heap.objs.size)
   repeat (any_goals (first |assumption |wp_step))
   show m9 (codeAny_call_builtin (R:=wants (λr dd=>r=.none/\∃ h' g,dd={ s with heap:=h',toks:=g }/\s.toks<=g /\
     dH P w h' s.heap.objs.size (d4 w) (λj=>(d7 (λi=>ns.getD i 0) items.size).any (·==j)) (d7 (λi=>ns.getD i 0) items.size).length /\
     (∀b o,b<s.heap.objs.size->s.heap.get? b=aa o->h'.get? b=aa o)) S5) kh.init.plain F.entry_set_init (check_set_init_1 hT ?_)) λy dd a=>?_
   .have((oc,od,odt,os),u,n,T,p):=hl;simp only at n p;subst n p;have x:(s.heap.push (iS (d4 w))).get? l=aa {cls:=.type "list",dict:=od,data:=.seq items T,slots:=os}:=bG _ u;have k1:=F.sub_list_set;have k2:=F.sub_list_frozenset;have k3:(lH "list" == lH "dict")=ae:=by decide
    have q:(s.heap.push (iS (d4 w))).IsList l items:=(_,x,rfl,T,rfl);unfold Builtin.«set.__init__» noKeywords Builtin.Frozenset.updateFrom;generalize z:pyIter=PI
    wp_walk
    subst z;show rL q (ap (wpAny_runValue ?_));have lt:l<s.heap.objs.size:=bx u;have C:A.in1.in1.in1.handled=ac:=by simp[hh]
    have H:l≠(s.heap.push (iS (d4 w))).objs.size:=by rw[iE];show bT (ju lt)
    have I:s.heap.objs.size∉[(s.heap.push (iS (d4 w))).objs.size,l]:=by
     rw[iE];simp only[aW,bO,or_false,not_or];show(bT (cR _),oU lt)
    have hv:∀(i:Nat) (v:Value),items[i]?=aa v->∃t,v=.int ((λi=>ns.getD i 0) i) t:=λi v hv=>fh.int_at hi i v (by rw[oJ];show hv);show L7 (led:=d4 w) ((Walks.list C _ l H items).toS) s.heap.objs.size I (λi=>ns.getD i 0) hv hb (items.size-0) 0 _ (by lia) (cK _) ((_,cY _ rfl,rfl,rfl),(q.push _)) ?hS0 ?hR
    case hS0=>show((L9 (P:=P) (w:=w) s.heap (d4 w)).stay λo e=>bG _ e).congr (λ_=>rfl) rfl
    case hR=>
     intro s' hm B;have(h',g',d',L,J):=s';have eg:g'=s.gens:=hm.gens;have Y:d'=s.drawn:=hm.drawn;have eo:J=s.os:=hm.os;subst eg Y eo;change wpAny _ _ _ _ _ _;show aI ?_;change wpAny _ _ (ret lG) _ _ _;show aI (rfl,h',L,rfl,hm.toks,B,λb o m e=>?_);have n2:b≠(s.heap.push (iS (d4 w))).objs.size:=by rw[iE];show bT (ju m)
     show hm.heap b o ?_ (bG _ (bG _ e));simp only[aW,bO,or_false,not_or];show(bT m,n2)
   .cases y with
    |error e=>show a
    |ok f=>
     cases f with
     |ret r=>
      have(rfl,h',g,rfl,htk,q',kk):=a
      repeat (any_goals (first |assumption |wp_step))
      show h _ _ q' kk htk
     | _=>show a.elim
  | _=>show G.elim
set_option maxRecDepth 100000
def xz{a:Type}:∀(l:List a) (i:Nat) (x:a),l[i]?=aa x->(x::l.eraseIdx i).Perm l
 | [],_,_,h=>by simp at h
 |y::l,0,x,h=>by simp at h;subst h;rfl
 |y::l,i+1,x,h=>by
  have:=xz l i x (by simpa using h);show(List.Perm.swap y x _).trans (vA y this)
def Eg{d:Type}(next:Nat->Nat):∀(a k:Nat) (left:List d) (out:Array d),left.length=a->(iB.go next a k left out).toList.Perm (out.toList++left)
 | 0,k,left,out,h=>by
  obtain rfl:left=[]:=rk.mp h;dsimp only[iB.go]
  simp
 |a+1,k,left,out,h=>by
  dsimp only[iB.go]
  have b:next k % left.length<left.length:=Nat.mod_lt _ (by lia)
  have c:=cI b;rw[c]
  show(Eg next a _ _ _ (by rw[length_eraseIdx_of_lt b];lia)).trans ?_
  rw[vn,cX];show vz _ (xz left _ _ c)
def xA{a:Type}(next:Nat->Nat)(B:Array a):(iB next B).toList.Perm B.toList:=by
 have:=Eg next B.size 0 B.toList #[] (by simp)
 simpa[iB]using this
def Ma{a:Source}{Q:Nat->ah->Prop}(hn:n≠0)(h:∀i,i<n->Q i {s with drawn:=s.drawn.bump a}):wpAny (model P w) A (choose a n) Q S5 s:=λΓ p b=>
 (hn,h _ (Nat.mod_lt _ (Nat.pos_of_ne_zero hn)))
def Eh{b:Type}:∀(n:Nat) (B:List b) {s:ah} {Q:List b->ah->Prop},B.length=n->(∀ys d,ys.Perm B->Q ys {s with drawn:=d})->wpAny (model P w) A (drawOrder n B) Q S5 s
 | 0,B,s,Q,hl,h=>by
  obtain rfl:B=[]:=rk.mp hl;have:=h [] s.drawn (rB _)
  show aI (by cases s;show this)
 |n+1,[],s,Q,hl,h=>by cases hl
 |n+1,x::B,s,Q,hl,h=>by
  show ap (Ma (by simp) λi hi=>?_);have a:=cI hi;rw[a];show ap (Eh n _ (by rw[length_eraseIdx_of_lt hi];lia) λys d c=>aI (h _ d ((vA _ c).trans (xz _ _ _ a))))
set_option maxRecDepth 100000
def ip:Slot "set_iterator" "__next__" "set_iterator.__next__" :=
 .of (owner:="set_iterator") (n:="__next__") (by rw[typeLookup_type,vE];kernel_rfl) (by decide +kernel) (by decide +kernel) (by decide +kernel) (by first |show .inl (by decide +kernel) |grind) (by rw[isSubtype_type];kernel_rfl)
def tT:entryFor table "set_iterator.__next__"=aa Builtin.«set_iterator.__next__»:=entryFor_of_fast (by kernel_rfl)
def tU(a:Value):argsOk "set_iterator.__next__" ([a],[]):=by unfold argsOk;kernel_rfl
def Ei:Slot "set_iterator" "__iter__" "set_iterator.__iter__" :=
 .of (owner:="set_iterator") (n:="__iter__") (by rw[typeLookup_type,vE];kernel_rfl) (by decide +kernel) (by decide +kernel) (by decide +kernel) (by first |show .inl (by decide +kernel) |grind) (by rw[isSubtype_type];kernel_rfl)
def Mb:entryFor table "set_iterator.__iter__"=aa Builtin.«dict_keyiterator.__iter__»:=
 entryFor_alias (id':="dict_keyiterator.__iter__") (by kernel_rfl) (by first |rfl |decide +kernel |(unfold String.splitOn;simp +decide [String.splitOnAux])) (by decide +kernel) (by kernel_rfl)
def Mc(a:Value):argsOk "set_iterator.__iter__" ([a],[]):=by unfold argsOk;kernel_rfl
nonrec abbrev gW(h:Heap)(I:Addr)(b:Value)(i:Nat)(a:Addr)(n ep:Nat):Prop:=
 h.get? I=aa {cls:=.type "set_iterator",dict:=ac,data:=.fields #[b,cT i,.ref a,cT n,cT ep],slots:=#[]}
variable{slot:Nat}{Q:Option Value->ah->Prop}
def Ej{slot':Nat}{o:Obj}{v:Value}(b:gW s.heap I (cT slot) i a n ep)(q:s.heap.get? a=aa o)(hd:o.data=.set a4 ep tb)(p:tb.fits a4.size=ab)(hn:a4.size=n)
 (l:∀(e:b7) (f:PRS) (R:Option (Value×Nat)->ah->Prop),R (aa (v,slot',)) s->wpAny (model P w) e (setNext a slot i ep) R f s)
 (m:∀h',gW h' I (cT slot') (i+1) a n ep->gn I s.heap h'->Q (aa v) {s with heap:=h'}):wpAny (model P w) A (iC (.ref I)) Q S5 s:=by
 have d:s.TypeIs (.ref I) "set_iterator":=(_,b,rfl);unfold iC;show ap (rP (rK (name:=rY "__next__") d ip (lz ip d tT ?_ (tU _))));change wpAny _ _ (fieldsOf (.ref I) >>= _) _ _ s;show ap (rN b rfl ?_);show ap (oZ q hd p ?_);have g:(((a4.size:Nat):Int) != (n:Int))=ae:=by rw[hn];simp
 rw[g,if_neg bD];change wpAny _ _ (setNext a ((slot:Nat):Int).toNat ((i:Nat):Int).toNat ((ep:Nat):Int).toNat >>= _) _ _ s;show ap (l _ _ _ ?_);show ap (m6 b (by simp) λr h s1=>?_);show ap (m6 h (by simp) λc j s2=>aI (v,rfl,aI (m c ?_ (gn.trans s1 s2))));change c.get? I=_;rw[j];rfl
def Ek{o:Obj}(p:A.handled=ac)(c:gW s.heap I (cT slot) i a n ep)(q:s.heap.get? a=aa o)(hd:o.data=.set a4 ep tb)(l:tb.fits a4.size=ab)(hn:a4.size=n)
 (h:∀(e:b7) (f:PRS) (R:Option (Value×Nat)->ah->Prop),R ac s->wpAny (model P w) e (setNext a slot i ep) R f s)
 (j:∀h',Heap.ExtBut I s.heap h'->Q ac {s with heap:=h'}):wpAny (model P w) A (iC (.ref I)) Q S5 s:=by
 have d:s.TypeIs (.ref I) "set_iterator":=(_,c,rfl);unfold iC;show ap (rP (rK (name:=rY "__next__") d ip (lz ip d tT ?_ (tU _))));change wpAny _ _ (fieldsOf (.ref I) >>= _) _ _ s;show ap (rN c rfl ?_);show ap (oZ q hd l ?_);have g:(((a4.size:Nat):Int) != (n:Int))=ae:=by rw[hn];simp
 rw[g,if_neg bD];simp only[dA,dA,dA];show ap (h _ _ _ ?_);show ap (m6 c (by simp) λu r s1=>?_);change wpAny _ _ (newExc (.type "StopIteration") [] >>= _) _ _ _;show ap ?_;simp only[newExc,newTuple];show ap (jA ?_ (by size_fits))
 show ap (m:=rO _ _) (wpAny_of_eq (a:=lG) (by first |rfl |(simp only[rO];rfl)) ?_)
 show jA ?_ (by size_fits);show ap (wpAny_handled ?_);rw[show A.in1.handled=ac from p];show ap (aI (wpAny_throw ?_));show ap (wpAny_isInstance (T:="StopIteration") (b:=ab) (_,cY _ rfl,rfl) isSubtype_stop ?_);show aI (j _ ((s1.extBut.push _).push _))
variable{T:Addr}{pls:Array Value}
def Md{pl:Nat}{o:Obj}{q:Int}{v:Value}(c:gW s.heap I (.ref T) i a n ep)(f:s.heap.get? a=aa o)(hd:o.data=.set a4 ep tb)(e:tb.fits a4.size=ab)(hn:a4.size=n)
 (l:s.heap.get? T=aa {cls:=.type "tuple",data:=.seq pls})(p:pls[i]?=aa (cT pl))(m:a4[pl]?=aa (q,v,))
 (j:∀h',gW h' I (.ref T) (i+1) a n ep->gn I s.heap h'->Q (aa v) {s with heap:=h'}):wpAny (model P w) A (iC (.ref I)) Q S5 s:=by
 have b:s.TypeIs (.ref I) "set_iterator":=(_,c,rfl);unfold iC;show ap (rP (rK (name:=rY "__next__") b ip (lz ip b tT ?_ (tU _))));change wpAny _ _ (fieldsOf (.ref I) >>= _) _ _ s;show ap (rN c rfl ?_);show ap (oZ f hd e ?_);have g:(((a4.size:Nat):Int) != (n:Int))=ae:=by rw[hn];simp
 rw[g,if_neg bD];change wpAny _ _ (seqItems? (.ref T) >>= _) _ _ s;show ap (wpAny_seqItems l rfl ?_)
 change wpAny _ _ (match pls[((i:Nat):Int).toNat]? with |some (.int place _)=>_ |some _=>_ |none=>_) _ _ s
 rw[dA,p];change wpAny _ _ (setNextDrawn a ((pl:Nat):Int).toNat ((ep:Nat):Int).toNat >>= _) _ _ s;simp only[dA,dA];show ap ?_;unfold setNextDrawn;show ap (m7 f hd e ?_);dsimp only;rw[if_neg (by simp)];rw[m];show aI ?_;show ap (m6 c (by simp) λd h s1=>aI (v,rfl,aI (j d ?_ s1)));change d.get? I=_;rw[h];rfl
def Mf{o:Obj}(l:A.handled=ac)(c:gW s.heap I (.ref T) i a n ep)(p:s.heap.get? a=aa o)(hd:o.data=.set a4 ep tb)(j:tb.fits a4.size=ab)(hn:a4.size=n)
 (d:s.heap.get? T=aa {cls:=.type "tuple",data:=.seq pls})(q:pls[i]?=ac)
 (h:∀h',Heap.ExtBut I s.heap h'->Q ac {s with heap:=h'}):wpAny (model P w) A (iC (.ref I)) Q S5 s:=by
 have e:s.TypeIs (.ref I) "set_iterator":=(_,c,rfl);unfold iC;show ap (rP (rK (name:=rY "__next__") e ip (lz ip e tT ?_ (tU _))));change wpAny _ _ (fieldsOf (.ref I) >>= _) _ _ s;show ap (rN c rfl ?_);show ap (oZ p hd j ?_);have f:(((a4.size:Nat):Int) != (n:Int))=ae:=by rw[hn];simp
 rw[f,if_neg bD];change wpAny _ _ (seqItems? (.ref T) >>= _) _ _ s;show ap (wpAny_seqItems d rfl ?_)
 change wpAny _ _ (match pls[((i:Nat):Int).toNat]? with |some (.int place _)=>_ |some _=>_ |none=>_) _ _ s
 rw[dA,q];show ap (m6 c (by simp) λv g r=>?_);show ap (m6 g (by simp) λx u s1=>?_);change wpAny _ _ (newExc (.type "StopIteration") [] >>= _) _ _ _;show ap ?_;show ap (jA ?_ (by size_fits))
 show ap (m:=rO _ _) (wpAny_of_eq (a:=lG) (by first |rfl |(simp only[rO];rfl)) ?_)
 show jA ?_ (by size_fits);show ap (wpAny_handled ?_);rw[show A.in1.handled=ac from l];show ap (aI (wpAny_throw ?_));show ap (wpAny_isInstance (T:="StopIteration") (b:=ab) (_,cY _ rfl,rfl) isSubtype_stop ?_);show aI (h _ (((gn.trans r s1).extBut.push _).push _))
set_option maxRecDepth 100000
def Mg:entryFor table "set.__iter__"=aa Builtin.«frozenset.__iter__»:=
 entryFor_alias (id':="frozenset.__iter__") (by kernel_rfl) (by first |rfl |decide +kernel |(unfold String.splitOn;simp +decide [String.splitOnAux])) (by decide +kernel) (by kernel_rfl)
abbrev pW(pl:Array Nat):Nat->Nat
 | 0=>0
 |i+1=>pl.getD i 0+1
def El{pl:Array Nat}(hi:i<pl.size):pW pl (i+1)=pl[i]+1:=by
 change pl.getD i 0+1=_;simp[oK,hi]
def Em{a b:Type}{f:a->Option b}{g:a->b}:∀(l:List a),(∀x∈l,f x=aa (g x))->l.filterMap f=l.map g
 | [],_=>rfl
 |x::l,h=>by simp only[oP,h x aB,bP,Em l λy c=>h y (be _ c)]
def En{pl:Array Nat}(h:Ris pl):∀i,i<=pl.size->cb pl (pW pl i)=i
 | 0,_=>LU h
 |i+1,hi=>by
  rw[El (by lia)];show LR h (by lia)
def tV{Q:Bool->ah->Prop}(h:Q (w.params.followText "set-order") s):wpAny (model P w) A setsByText Q S5 s:=by
 show ap (wpAny_askSetting (aI h))
def Eo{o:Obj}{R:Option (Value×Nat)->ah->Prop}(c:s.heap.get? a=aa o)(hd:o.data=.set a4 ep tb)(b:tb.fits a4.size=ab)(d:w.params.followText "set-order"=ab)
 (h:R (((iB (w.params.setOrder a ep) a4)[i]?).map λe=>(e.2,slot,)) s):wpAny (model P w) A (setNext a slot i ep) R S5 s:=by
 show ap (m7 c hd b ?_);show ap (tV ?_);rw[d,if_pos rfl,if_neg (by simp)];show ap ?_;show ap (m7 c hd b ?_);show ap (tV ?_);rw[d,if_pos rfl];show ap (wpAny_askSetting (aI (aI h)))
def Ep{o:Obj}{R:Option (Value×Nat)->ah->Prop}(d:s.heap.get? a=aa o)(hd:o.data=.set a4 ep tb)(c:tb.fits a4.size=ab)(e:w.params.followText "set-order"=ae)(f:(!tb.plain && decide (a4.size>1))=ae)(b:tb.led=ab)
 (h:R (match a4[cb tb.place slot]?,tb.place[cb tb.place slot]? with |some (_,x),aa j=>aa (x,j+1,) | _,_=>ac) s):wpAny (model P w) A (setNext a slot i ep) R S5 s:=by
 show ap (m7 d hd c ?_);show ap (tV ?_);rw[e,if_neg bD];change wpAny _ _ (if (!tb.plain && decide _)=ab then _ else _) _ _ s;rw[f,if_neg bD];change wpAny _ _ ((if _=ab then unsupported "set:maker-not-led" else pure ()) >>= _) _ _ s;rw[b,Bool.not_true,Bool.false_and,if_neg bD];show ap (aI (aI h))
def xB{b:Value}{Q:PRS}(d:gW s.heap I b i a n ep)(h:Q (.ref I) s):wpAny (model P w) A (pyIter (.ref I)) Q S5 s:=by
 have c:s.TypeIs (.ref I) "set_iterator":=(_,d,rfl);show wpAny_pyIter_slot c Ei (lz Ei c Mb (aI (_,rfl,"set_iterator",_,c,ip.lookup,h)) (Mc _))
def Mh{o:Obj}(hh:A.handled=ac)(ne:a≠I)(hd:o.data=.set a4 ep tb)(hf:tb.fits a4.size=ab)(hn:a4.size=n)(ht:w.params.followText "set-order"=ab):
  WalksS P w A I [I,a] [I] (λx y=>y=x) n (λi v=>((iB (w.params.setOrder a ep) a4).toList.map (·.2))[i]?=aa v) (λi s=>gW s.heap I (cT ((0:Nat):Int)) i a n ep/\s.heap.get? a=aa o) where
 sub:=λb hb=>by simp at hb;simp[hb]
 grefl:=λ_=>rfl
 gtrans:=λ_ _ _ h1 h2=>h2.trans h1
 frame:=λi s h' tk st _ hk=>(hk I (by simp) _ st.1,hk a (by simp) _ st.2)
 item:=λi s Q S5 hi st hQ=>by
  have hz:(iB (w.params.setOrder a ep) a4).size=n:=by rw[<- iy,(xA _ _).length_eq,iy,hn]
  have hx:_[i]?=aa (iB (w.params.setOrder a ep) a4)[i]:=lc (by lia);show Ej st.1 st.2 hd hf hn (λA' E' R r=>Eo st.2 hd hf ht (by rw[hx];show r)) λh' g sb=>?_;show hQ _ _ (by rw[bN,oJ,hx];rfl) (g,(sb.2 a ne).trans st.2) (λb o' hb e=>(sb.2 b (λh=>hb (by simp[h]))).trans e,rfl,rfl,rfl,aP _)
 done:=λs Q S5 st hQ=>by
  have hz:(iB (w.params.setOrder a ep) a4).size=n:=by rw[<- iy,(xA _ _).length_eq,iy,hn]
  have hx:(iB (w.params.setOrder a ep) a4)[n]?=ac:=Array.getElem?_eq_none (by lia);show Ek hh st.1 st.2 hd hf hn (λA' E' R r=>Eo st.2 hd hf ht (by rw[hx];show r)) λh' eb=>hQ _ (λb o' hb e=>eb b o' (λh=>hb (by simp[h])) e,rfl,rfl,rfl,aP _)
 self:=λi s Q S5 st hQ=>xB st.1 hQ
def Mi{o:Obj}(hh:A.handled=ac)(ne:a≠I)(hd:o.data=.set a4 ep tb)(hf:tb.fits a4.size=ab)(hn:a4.size=n)(ht:w.params.followText "set-order"=ae)(hw:(!tb.plain && decide (a4.size>1))=ae)(hled:tb.led=ab)(hr:Ris tb.place):
  WalksS P w A I [I,a] [I] (λx y=>y=x) n (λi v=>(a4.toList.map (·.2))[i]?=aa v) (λi s=>gW s.heap I (cT ((pW tb.place i:Nat):Int)) i a n ep/\s.heap.get? a=aa o) where
 sub:=λb hb=>by simp at hb;simp[hb]
 grefl:=λ_=>rfl
 gtrans:=λ_ _ _ h1 h2=>h2.trans h1
 frame:=λi s h' tk st _ hk=>(hk I (by simp) _ st.1,hk a (by simp) _ st.2)
 item:=λi s Q S5 hi st hQ=>by
  have hz:tb.place.size=a4.size:=by simp only[c3.fits,bV,beq_iff_eq]at hf;show hf.1
  have hb:=En hr i (by lia);have hx:a4[i]?=aa a4[i]:=lc (by lia);have hp:tb.place[i]?=aa tb.place[i]:=lc (by lia);have es:pW tb.place _=tb.place[i]'(by lia)+1:=El (by lia);show Ej st.1 st.2 hd hf hn (slot':=pW tb.place _) (λA' E' R r=>Ep st.2 hd hf ht hw hled (by rw[hb,hx,hp];rw[es]at r;show r)) λh' g sb=>?_;show hQ _ _ (by rw[bN,oJ,hx];rfl) (g,(sb.2 a ne).trans st.2) (λb o' hb e=>(sb.2 b (λh=>hb (by simp[h]))).trans e,rfl,rfl,rfl,aP _)
 done:=λs Q S5 st hQ=>by
  have hz:tb.place.size=a4.size:=by simp only[c3.fits,bV,beq_iff_eq]at hf;show hf.1
  have hb:=En hr n (by lia);have hx:a4[n]?=ac:=Array.getElem?_eq_none (by lia);show Ek hh st.1 st.2 hd hf hn (λA' E' R r=>Ep st.2 hd hf ht hw hled (by rw[hb,hx];show r)) λh' eb=>hQ _ (λb o' hb e=>eb b o' (λh=>hb (by simp[h])) e,rfl,rfl,rfl,aP _)
 self:=λi s Q S5 st hQ=>xB st.1 hQ
def Mj{o:Obj}(hh:A.handled=ac)(ne:a≠I)(nT:T≠I)(hd:o.data=.set a4 ep tb)(hf:tb.fits a4.size=ab)(hn:a4.size=n){ey:LN}(hp:ey.Perm (bw n)):
  WalksS P w A I [I,a,T] [I] (λx y=>y=x) n (λi v=>(ey.filterMap λj=>(a4[j]?).map (·.2))[i]?=aa v)
   (λi s=>gW s.heap I (.ref T) i a n ep/\s.heap.get? a=aa o/\s.heap.get? T=aa {cls:=.type "tuple",data:=.seq (ey.map λ(j:Nat)=>cT j).toArray}) where
 sub:=λb hb=>by simp at hb;simp[hb]
 grefl:=λ_=>rfl
 gtrans:=λ_ _ _ h1 h2=>h2.trans h1
 frame:=λi s h' tk st _ hk=>(hk I (by simp) _ st.1,hk a (by simp) _ st.2.1,hk T (by simp) _ st.2.2)
 item:=λi s Q S5 hi st hQ=>by
  have hl:ey.length=n:=by rw[hp.length_eq,cq]
  have lt:∀j∈ey,j<a4.size:=λj hj=>by rw[hn];show dW.mp (hp.mem_iff.mp hj)
  have hj:ey[i]?=aa _:=cI (by lia);have hlt:ey[i]'(by lia)<a4.size:=lt _ (lh _);have hx:=lc hlt
  have em:(ey.filterMap λj=>(a4[j]?).map (·.2))=ey.map λj=>((a4[j]?).map (·.2)).getD .none:=by
   show Em ey λj hj=>?_;have:a4[j]?=aa _:=lc (lt j hj);rw[this];rfl
  show Md st.1 st.2.1 hd hf hn st.2.2 (by rw[List.getElem?_toArray,bN,hj];rfl) hx λh' g sb=>?_;show hQ _ _ ?_ (g,(sb.2 a ne).trans st.2.1,(sb.2 T nT).trans st.2.2) (λb o' hb e=>(sb.2 b (λh=>hb (by simp[h]))).trans e,rfl,rfl,rfl,aP _);rw[em,bN,hj];simp only[vC,hx];rfl
 done:=λs Q S5 st hQ=>by
  have hl:ey.length=n:=by rw[hp.length_eq,cq]
  show Mf hh st.1 st.2.1 hd hf hn st.2.2 (by rw[List.getElem?_toArray];show dB (by simp;lia)) λh' eb=>hQ _ (λb o' hb e=>eb b o' (λh=>hb (by simp[h])) e,rfl,rfl,rfl,aP _)
 self:=λi s Q S5 st hQ=>xB st.1 hQ
set_option maxRecDepth 100000
def Er{P:bX}{w:World}:∀(l:List (Int×Value)),ElemsOf (fq P w) l->∃ns:LI0,fh (l.map (·.2)) ns/\∀k,(∃e∈l,(fq P w).is k e.2=ab)↔k∈ns
 | [],_=>([],.nil,λk=>by simp)
 |e::l,h=>by
  have(ns,d,f):=Er l h.tail;have((k,b,_),_):=h.head;have(t,c):=Value.isInt_shape b;show(k::ns,by rw[bP,c];show .cons k t d,λj=>?_);rw[aW,<- f j];constructor
  .rintro⟨x,a,q⟩
   rcases aW.mp a with rfl |a
   .show .inl ((fq P w).inj _ _ _ q b)
   .show .inr (x,a,q)
  .rintro(rfl |⟨x,a,q⟩)
   .show(e,aB,b)
   .show(x,be _ a,q)
def Es{a:Type}(B:List a):∀(n k:Nat),k+n=B.length->(List.range' k n).filterMap (λj=>B[j]?)=B.drop k
 | 0,k,h=>by rw[range'_zero,filterMap_nil,drop_of_length_le (by lia)]
 |n+1,k,h=>by
  rw[range'_succ,oP,cI _,Es B n _ (by lia),drop_eq_getElem_cons (show k<B.length by lia)]
def Ml{a:Type}(B:Array a):(bw B.size).filterMap (λj=>B[j]?)=B.toList:=by
 have:=Es B.toList B.size 0 (by simp);rw[drop_zero]at this;rw[range_eq_range',<- this];simp
def Mm{S:Int->Bool}{Q:PRS}(q:dH P w s.heap a (d4 w) S n)
 (M:∀ (I:Addr) (fp:LAd) (m:LVa) (ns:LI0) (St:Nat->ah->Prop) (h':Heap) (d':Drawn),(∀ E : b7,E.handled=ac->WalksS P w E I fp [I] (λx y=>y=x) n (λi v=>m[i]?=aa v) St) ->
   St 0 {s with heap:=h',drawn:=d'}->(∀b o,s.heap.get? b=aa o->h'.get? b=aa o)->s.heap.objs.size<=I->I∈fp->(∀b∈fp,b<h'.objs.size/\(b=a\/s.heap.objs.size<=b))->fh m ns->ns.length=n->(∀k,S k=ab↔k∈ns)->Q (.ref I) {s with heap:=h',drawn:=d'}):
  wpAny (model P w) A (pyIter (.ref a)) Q S5 s:=by
 have(o,a4,ep,tb,g,T,hd,N,hm,hb,l,hn,hr,H):=q;have hT:s.TypeIs (.ref a) "set":=(o,g,T.1);have B:=bx g
 have p:∀(vs:List _),vs.Perm a4.toList->∃ns,fh _ ns/\ns.length=n/\∀k,S k=ab↔k∈ns:=λvs u=>by
  have(ns,h1,h2):=Er vs (N.perm u);show(ns,h1,?_,λk=>?_)
  .rw[<- h1.length,aH,u.length_eq,iy,hn]
  .grind
 show wpAny_pyIter_slot hT F.slot_set_iter (lz F.slot_set_iter hT Mg ?_ (F.args_set_iter_1 _));change wpAny _ _ (Builtin.Frozenset.sizeOf a >>= _) _ _ s;show ap ?_;show ap (oZ g hd l (aI ?_));show ap ?_;show ap (m7 g hd l ?_);show ap (tV (aI ?_));change wpAny _ _ (if (!w.params.followText "set-order" && (!tb.plain && decide _))=ab then _ else _) _ _ s
 cases Y:w.params.followText "set-order" with
 |true=>
  show ap (aI (ap (wpAny_setEpoch_of g hd l ?_)));show ap (jA ?_ (by size_fits));show aI ?_;have(ns,z,J,L):=p _ (xA _ a4);have h:gW _ s.heap.objs.size (cT (0:Int)) 0 a n ep:=cY _ rfl;rw[hn];show(_,rfl,"set_iterator",_,(_,h,rfl),ip.lookup,?_);show M s.heap.objs.size [s.heap.objs.size,a] _ ns _ _ s.drawn (λE G=>Mh G (bT B) hd l hn Y) (h,bG _ g) (λb o' e=>bG _ e) (aP _) (by simp) (λb c=>?_) z J L;rw[iE];simp only[aW,bO,or_false]at c
  rcases c with rfl |rfl
  .show(cR _,.inr (aP _))
  .show(ju B,.inl rfl)
 |false=>
  have r:tb.led=ab:=by rw[H];unfold d4;rw[Y];rfl
  cases hw:(!tb.plain && decide (a4.size>1))with
  |false=>
   show ap (aI (ap (wpAny_setEpoch_of g hd l ?_)));show ap (jA ?_ (by size_fits));show aI ?_;have(ns,z,J,L):=p _ (rB _);have h:gW (s.heap.push {cls:=.type "set_iterator",dict:=ac,data:=.fields #[cT ((0:Nat):Int),cT ((0:Nat):Int),.ref a,cT n,cT ep],slots:=#[]}) s.heap.objs.size (cT ((0:Nat):Int)) 0 a n ep:=cY _ rfl;rw[hn];show(_,rfl,"set_iterator",_,(_,h,rfl),ip.lookup,?_);show M s.heap.objs.size [s.heap.objs.size,a] _ ns _ _ s.drawn (λE G=>Mi G (bT B) hd l hn Y hw r hr) (h,bG _ g) (λb o' e=>bG _ e) (aP _) (by simp) (λb c=>?_) z J L;rw[iE];simp only[aW,bO,or_false]at c
   rcases c with rfl |rfl
   .show(cR _,.inr (aP _))
   .show(ju B,.inl rfl)
  |true=>
   show ap (Eh _ _ (by rw[cq]) λf d u=>?_);rw[hn]at u;have U:((f.map λ(i:Nat)=>cT i)).length<=aT:=by rw[aH,u.length_eq,cq];show fits_of_scanBound (by lia)
   show ap (wpAny_newTuple ?_ U)
   show ap (wpAny_setEpoch_of (s:={s with heap:=s.heap.push {cls:=.type "tuple",data:=.seq (f.map λ(i:Nat)=>cT i).toArray},drawn:=d}) (bG _ g) hd l ?_)
   show ap (jA ?_ (by size_fits));show aI ?_
   have pv:(f.filterMap λj=>a4[j]?).Perm a4.toList:=by
    have:=u.filterMap λj=>a4[j]?;rw[<- hn,Ml]at this;show this
   have(ns,z,J,L):=p _ pv;rw[map_filterMap]at z
   have h:gW ((s.heap.push {cls:=.type "tuple",data:=.seq (f.map λ(i:Nat)=>cT i).toArray}).push {cls:=.type "set_iterator",dict:=ac,data:=.fields #[.ref s.heap.objs.size,cT ((0:Nat):Int),.ref a,cT n,cT ep],slots:=#[]})
     (s.heap.push {cls:=.type "tuple",data:=.seq (f.map λ(i:Nat)=>cT i).toArray}).objs.size (.ref s.heap.objs.size) 0 a n ep:=cY _ rfl
   rw[hn];show(_,rfl,"set_iterator",_,(_,h,rfl),ip.lookup,?_);have C:(s.heap.push {cls:=.type "tuple",data:=.seq (f.map λ(i:Nat)=>cT i).toArray}).objs.size=s.heap.objs.size+1:=iE ..;show M _ [(s.heap.push {cls:=.type "tuple",data:=.seq (f.map λ(i:Nat)=>cT i).toArray}).objs.size,a,s.heap.objs.size] _ ns _ _ d (λE G=>Mj G (by rw[C];show bT (ju B)) (by rw[C];show bT (cR _)) hd l hn u) (h,bG _ (bG _ g),bG _ (cY _ rfl)) (λb o' e=>bG _ (bG _ e)) (by rw[C];show jx _) (by simp) (λb c=>?_) z J L;rw[iE];simp only[aW,bO,or_false]at c
   rcases c with rfl |rfl |rfl
   .show(cR _,.inr (by rw[C];show jx _))
   .show(by rw[C];show ju (ju B),.inl rfl)
   .show(by rw[C];show ju (cR _),.inr (aP _))
set_option maxRecDepth 100000
def Mn{a:LVa}{b:Array Value}(h:ItemsOf (λi v=>a[i]?=aa v) b n)(c:a.length=n):b.toList=a:=by
 show lr λi=>?_
 by_cases hi:i<n
 .have e:b[i]?=aa (b[i]'(by rw[h.1];show hi)):=lc _;rw[oJ,e];show(h.2 i _ e).symm
 .rw[dB (by rw[iy,h.1];lia),dB (by lia)]
def Mp:typeLookup (.type "set") "__len__"=pure (aa (.builtin "set.__len__")):=by rw[typeLookup_type,vE];kernel_rfl
def Mq{S:Int->Bool}{Q:LVa->ah->Prop}(hh:A.handled=ac)(q:dH P w s.heap a (d4 w) S n)(hn:n<=aT)
 (hQ:∀(h':Heap) (d':Drawn) (N:Nat) (c:LVa) (ns:LI0),(∀b o,s.heap.get? b=aa o->h'.get? b=aa o)->s.heap.objs.size<=h'.objs.size->s.toks<=N->fh c ns->ns.length=n->(∀k,S k=ab↔k∈ns)->Q c {s with heap:=h',drawn:=d',toks:=N}):
  wpAny (model P w) A (collect (.ref a)) Q S5 s:=by
 unfold collect;show ap (wpAny_runValue (ke PySem.F.entry_proto_collect ?_));rw[b7.under_plainId PySem.F.plain_proto_collect _];change wpAny _ A.in1 (newList [] >>= λl=>again (.builtin "list.__iadd__" ([l,.ref a],[]))) _ _ s;show ap (jA ?_);show aI (m8 PySem.F.plain_list_iadd _,ke PySem.F.entry_list_iadd ?_);simp only[b7.under_plainId PySem.F.plain_list_iadd _];change wpAny _ A.in1 (BZ (.ref s.heap.objs.size) (.ref a) (.ref s.heap.objs.size)) _ _ _;dsimp only[BZ];have(o,a4,ep,tb,v,m,rest):=id q;have x:a<s.heap.objs.size:=bx v;have q1:dH P w (s.heap.push {cls:=.type "list",data:=.seq ([]:LVa).toArray}) a (d4 w) S n:=q.stay λo e=>bG _ e
 have hT:ah.TypeIs {s with heap:=s.heap.push {cls:=.type "list",data:=.seq ([]:LVa).toArray}} (.ref a) "set":=(o,bG _ v,m.1)
 show ap (wpAny_typeOf hT ?_);have k1:B1 (.ref s.heap.objs.size) (.ref a)=ae:=by simp[B1,oU x]
 have k2:(lH "set" == lH "list")=ae:=by decide
 have k3:(lH "set" == lH "tuple")=ae:=by decide
 simp only[k1,k2,k3,Bool.or_false,Bool.false_eq_true,if_false];show ap (Mm q1 λI fp c ns St f g W z keep gI mI u J L i3=>?_)
 have d:ah.TypeIs {s with heap:=f,drawn:=g} (.ref a) "set":=(o,keep _ _ (bG _ v),m.1)
 have T:(s.heap.push {cls:=.type "list",data:=.seq ([]:LVa).toArray}).objs.size=s.heap.objs.size+1:=iE ..
 have M:s.heap.objs.size∉fp:=λhm=>by
  rcases(u _ hm).2 with e |e
  .show gN _ (by rw[<- e]at x;show x)
  .rw[T]at e;show Nat.not_succ_le_self _ e
 show ap (jB ?_);unfold Builtin.List.listLengthHint;show ap (wpAny_specialOf d Mp ?_);dsimp only;show ap (wpAny_isInstance d sub_set_self ?_);show ap (wpAny_typeOf d (aI ?_))
 change wpAny _ A.in1 (rule "list.extend.makes-room" >>= λ_=>Builtin.List.listTouch (.ref s.heap.objs.size) >>= λ_ =>
  again (.builtin "list.extend.loop" ([.ref s.heap.objs.size,.ref I,.ref s.heap.objs.size],[]))) _ _ _
 show ap (lD ?_);have G:=keep _ _ (cY _ rfl);show ap ?_
 show ap (wpAny_updateSeq (s:={s with heap:=f,drawn:=g}) G rfl ?_)
 have H:=rW (jc (·.push lG)) G rfl
 show wpAny_updateSeq (s:={s with heap:=f.update s.heap.objs.size (jc (·.push lG)),drawn:=g}) H rfl ?_
 have g3:=rW (jc (·.pop)) H rfl
 have p:∀b o,b≠s.heap.objs.size->f.get? b=aa o->((f.update s.heap.objs.size (jc (·.push lG))).update s.heap.objs.size (jc (·.pop))).get? b=aa o:=
  λb o r e=>(rV _ _ (fN r)).trans ((rV _ _ (fN r)).trans e)
 have C:=W A.in1 (by simp[hh])
 show aI (m8 PySem.F.plain_extend_loop _,codeAny_extend_loopS C hn _ M _ n 0 _ _ _ rfl (cK _)
  (C.frame 0 ({s with heap:=f,drawn:=g}:ah) _ s.toks z (aP _) λb r o e=>p b o (λh=>M (h▸r)) e) g3 (ItemsOf.nil _) λs' E c' hm i j=>?_)
 show ap (wpAny_load i (aI ?_));have lv:c.length=n:=by rw[J.length,L]
 rw[Mn j lv];have(h2,g',d',B,os'):=s';have Y:=hm.gens;have U:d'=g:=hm.drawn;have eo:=hm.os;subst Y U eo;show hQ h2 d' B c ns (λb o' e=>?_) (eS (bx i)) hm.toks J L i3;have y:=bx e;show hm.heap b o' ?_ (p b o' (bT y) (keep _ _ (bG _ e)));simp only[aW,bO,or_false,not_or];show(bT y,bT (eR y (cJ (by rw[T];show jx _) gI)))
def Mr{S:Int->Bool}{Q:PRS}(y:A.handled=ac)(q:dH P w s.heap a (d4 w) S n)(g:n<64)
 (x:∀ (p:Addr) (h':Heap) (d':Drawn) (d e:Nat) (out:Array Value) (ns:LI0),(∀ b o,s.heap.get? b=aa o->h'.get? b=aa o)->s.heap.objs.size<=p->s.toks<=d->h'.get? p=aa (seqObj "list" out e)->fh out.toList ns->ns.Pairwise (·<=·)->ns.length=n->(∀ k,S k=ab↔k∈ns) ->
   Q (.ref p) {s with heap:=h',drawn:=d',toks:=d}):wpAny (model P w) A (call (.builtin "sorted") [.ref a]) Q S5 s:=by
 show Calls.call_function_entry kind_sorted plain_sorted entry_sorted (args_sorted1 _) ?_;show ap (aI ?_);show ap (Mq (by simp[y]) q (by rw[df];lia) λm u d c ns keep grow htk h i z=>?_);show ap (wpAny_newList ?_ (by rw[h.length,i,df];lia));have f:(m.push _).get? m.objs.size=aa (seqObj "list" c.toArray 0):=cY _ rfl;show ap (jB (lz slot_list_sort (_,f,rfl) entry_list_sort (list_sort_tree f h (by rw[h.length,i];show g) λout j o1 o2 B=>(_,rfl,?_)) (args_list_sort _)));have(e,v):=sortedHeap_at f;show aI (_,rfl,x _ _ u d e out j (λb o l=>?_) grow htk v o1 B (by rw[o2.length_eq,i]) λk=>(z k).trans (o2.mem_iff).symm);have r:=bx (keep b o l);rw[sortedHeap_old (bT r) (by rw[iE];show ju r)];show bG _ (keep b o l)
abbrev jM(x:Int):LI0->LI0
 | []=>[x]
 |y::r=>if x<y then x::y::r else if x=y then y::r else y::jM x r
def b4(ns:LI0):LI0:=ns.foldr jM []
def xC(x k:Int):∀l:LI0,k∈jM x l↔k=x\/k∈l
 | []=>by simp[jM]
 |y::r=>by
  unfold jM;split
  .simp
  .split
   .grind
   .rw[aW,xC x k r,aW]
    grind
def Et(x:Int):∀l:LI0,l.Pairwise (· < ·)->(jM x l).Pairwise (· < ·)
 | [],_=>by simp[jM]
 |y::r,h=>by
  have(d,g):=oS.mp h;dsimp only[jM];split
  .rename_i f;show oS.mpr (λk c=>?_,h)
   rcases aW.mp c with e |c
   .subst e;show f
   .show Int.lt_trans f (d k c)
  .split
   .show h
   .rename_i a b;show oS.mpr (λk c=>?_,Et x r g)
    rcases(xC x k r).mp c with e |c
    .subst e;lia
    .show d k c
def iq(k:Int):∀l:LI0,k∈b4 l↔k∈l
 | []=>by rfl
 |x::l=>by
  change k∈jM x (b4 l)↔_;rw[xC,iq k l,aW]
def jN:∀l:LI0,(b4 l).Pairwise (· < ·)
 | []=>by simp[b4]
 |x::l=>Et x _ (jN l)
def xD:∀(l m:LI0),l.Pairwise (· < ·)->m.Pairwise (· < ·)->(∀k,k∈l↔k∈m)->l=m
 | [],[],_,_,_=>rfl
 | [],y::m,_,_,h=>by have:=(h y).mpr aB;simp at this
 |x::l,[],_,_,h=>by have:=(h x).mp aB;simp at this
 |x::l,y::m,hl,hm,h=>by
  have(b,a):=oS.mp hl;have(m1,m2):=oS.mp hm
  have e:x=y:=by
   rcases aW.mp ((h x).mp aB)with e |hx
   .lia
   .rcases aW.mp ((h y).mpr aB)with e |hy
    .grind
    .grind
  subst e;rw[xD l m a m2 λk=>?_]
  grind
def nU:∀(F S3:LI0),F.Nodup->(∀x∈F,x∈S3)->S3.length<=F.length->S3.Perm F
 | [],S3,_,_,h=>by
  grind
 |x::F,S3,hn,hs,h=>by
  have(d,b):=bW.mp hn;have a:=hs x aB;show(perm_cons_erase a).trans (vA x (nU F _ b (λy c=>?_) ?_))
  .grind
  .grind
def tW(val:Nat->Int):∀i,(d7 val i).Nodup
 | 0=>by rw[firstMet_zero];grind
 |i+1=>by
  rw[firstMet_succ];unfold step_dedup;split
  .show tW val i
  .rename_i h;show fM.mpr (tW val i,by simp,λa ha b c e=>?_)
   grind
def Eu(ns:LI0)(k:Int):(d7 (λi=>ns.getD i 0) ns.length).any (·==k)=ab↔k∈ns:=by
 rw[firstMet_any]
 have e:(bw ns.length).map (λi=>ns.getD i 0)=ns:=by
  show lr λi=>?_;rw[bN]
  by_cases hi:i<ns.length
  .rw[mZ hi];simp[hi]
  .rw[dB (by rw[cq];lia),dB (by lia)];rfl
 rw[e,any_eq_true];show(λb=>by have(x,a,q):=b;have:=beq_iff_eq.mp q;show this▸a,λh=>(k,h,by simp))
variable{out:LI0}
def Ms(e:out.Pairwise (·<=·))(g:out.length=(d7 (λi=>ns.getD i 0) ns.length).length)(hm:∀k,(d7 (λi=>ns.getD i 0) ns.length).any (·==k)=ab↔k∈out):out=b4 ns:=by
 have nd:=tW (λi=>ns.getD i 0) ns.length
 have lt:out.Pairwise (· < ·):=by
  show List.Pairwise.imp₂ (λa b c d=>(Int.lt_iff_le_and_ne.mpr (c,d))) e ((nU _ out nd (λx f=>(hm x).mp (any_eq_true.mpr (x,f,by simp))) (by lia)).nodup_iff.mpr nd)
 show xD _ _ lt (jN ns) λk=>by rw[<- hm k,Eu,iq]
def Ev(ns:LI0):(b4 ns).length=(d7 (λi=>ns.getD i 0) ns.length).length:=by
 have m:∀x,x∈d7 _ ns.length↔x∈b4 ns:=λx=>by
  show Iff.trans ?_ (iq x ns).symm;show Iff.trans ?_ (Eu ns x);rw[any_eq_true];show(λh=>(x,h,by simp),λc=>by have(y,b,q):=c;have:=beq_iff_eq.mp q;show this▸b)
 rcases Nat.le_total (b4 ns).length (d7 _ ns.length).length with h |h
 .show(nU _ _ (tW _ ns.length) (λx a=>(m x).mp a) h).length_eq
 .show(nU _ _ ((jN ns).imp λh=>Int.ne_of_lt h) (λx a=>(m x).mpr a) h).length_eq.symm
def Inv.draws(I:Inv X M J H s)(d':Drawn):Inv X M J H {s with drawn:=d'}:=by
 show I.step (ch:=[]) (λb a=>by nomatch a) (λb o _ _ _ e _=>e) (λb o _ _ _ e _=>(o.slots,e)) (λ_ _ _ _ n=>n)
  (λb o _ e=>(o,e)) (λ_ _ e=>e) (λ_ _ _ e=>e) (λb ps e=>(#[],by rw[e];simp)) (λm hm=>hm) I.hok I.bare
def xE:∀{vs:LVa} {ns:LI0},fh vs ns->aJ (ns.map V.int) vs
 | _,_,.nil=>.nil
 | _,_,.cons n t h=>.cons (t,rfl) (xE h)
def tX:∀{ns:LI0} {vs:LVa},aJ (ns.map V.int) vs->fh vs ns
 | [],_,.nil=>.nil
 |n::ns,_,.cons (t,e) h=>by subst e;show .cons n t (tX h)
def tSS(K:aU)(te:TE):TE:=λJ H Q=>te J H λx H1=>∃l ns,x=.ref l/\SqL K H1 l (ns.map V.int)/\ns.length<4000/\(b4 ns).length<64/\∀p,H1 p=ac->Q (.ref p) (upd H1 p (.lst ((b4 ns).map V.int)))
variable{dr:Pos}
def Mt(z:X.calm=ab)(j:Gl X "sorted")(n:X.mg "sorted"=ac)(m:Gl X "set")(r:X.mg "set"=ac)(Y:PE X e te)
 (U:autoParam (aR [.Call (.Name "set" p2) [e] [] dr] X.env=(ae,eval (.Call (.Name "set" p2) [e] [] dr) X.env,)::aR [] X.env) Zb)(y:autoParam (aR [e] X.env=(ae,eval e X.env,)::aR [] X.env) Zb)
 (v:autoParam ((cv pos (aR [] X.env)).any (·.1)=ae) Zb)(d:autoParam ((cv dr (aR [] X.env)).any (·.1)=ae) Zb):
  PE X (.Call (.Name "sorted" p) [.Call (.Name "set" p2) [e] [] dr] [] pos) (tSS X.K te):=by
 intro M s J H Q I h;show jz (je I j n boot_sorted ?_);show rH ?_ U v;show jb (jz (je I m r boot_set ?_));show oX ?_ y d;simp only[y];show jb (thn (Y M s J H _ I h) λu s1 q_=>?_);have(x,H1,c,r1,l,ns,G,hq,hb,i,q):=q_;subst G;subst r1;show aI ?_;have(L,rr,pl,hz):=c.list hq;have B:=tX rr;have E:L.toArray.size=ns.length:=by rw[size_toArray,B.length]
 show Ef (c.ok.hd z) pl.isList (by simpa using B) (by rw[E];unfold i9;lia) λh' tk w keep htk=>?_;rw[E]at w;show aI ?_;have lt:s1.heap.objs.size<h'.objs.size:=by have(o,_,_,_,ho,_):=id w;show bx ho
 show Mr (c.ok.hd z) w (by rw[<- Ev];show i) λpp T f C ep out ns' a gp A N o1 o3 o4 o5=>?_;have en:=Ms o3 o4 o5;subst en;show(.ref pp,_,((c.laid (λb u g=>a _ _ (keep b u (bx g) g)) (cJ (eS lt) gp) ?_).draws f),rfl,q pp (c.hok.fresh (cJ (eS lt) gp)));show(by rw[aH,df];lia,out.toList,ep,xE o1,by simpa using N)
abbrev f9:LD->Option (LI0)
 | []=>aa []
 |.int i::r=>(f9 r).map (i::·)
 | _::_=>ac
def tY:∀{E:LD} {ns:LI0},f9 E=aa ns->E=ns.map D.int
 | [],_,h=>by cases h;rfl
 |.int i::r,ns,h=>by
  replace h:(f9 r).map _=aa ns:=h
  cases e:f9 r with
  |none=>rw[e]at h;cases h
  |some m=>rw[e]at h;cases h;rw[tY e];rfl
 |.non::_,_,h=>by cases h
 |.bl _::_,_,h=>by cases h
 |.str _::_,_,h=>by cases h
 |.lst _::_,_,h=>by cases h
 |.tup _::_,_,h=>by cases h
 |.kl _::_,_,h=>by cases h
 |.kt _::_,_,h=>by cases h
 |.dic _ _::_,_,h=>by cases h
 |.ins _ _ _::_,_,h=>by cases h
def tZ:∀(ns:LI0),f9 (ns.map D.int)=aa ns
 | []=>rfl
 |n::ns=>by change(f9 _).map _=_;rw[tZ ns];rfl
def t4{G:Gc}{H:Hp}:∀{ns:LI0} {vs:LVv},ak G H (ns.map D.int) vs->vs=ns.map V.int
 | [],_,h=>h
 |n::ns,_,(v,r,e,h1,h2)=>by rw[e,show v=V.int n from h1,t4 h2];rfl
def mq(f:MF1)(U:LS):OLD:=(f U).bind λd=>(lsD d).bind λE=>(f9 E).bind λns=>if ns.length<4000/\(b4 ns).length<64 then aa ((b4 ns).map .int) else ac
def Mu(M:X.calm=ab)(m:Gl X "sorted")(u:X.mg "sorted"=ac)(n:Gl X "set")(w:X.mg "set"=ac)(ha:DE c X e f)
 (I:autoParam (aR [.Call (.Name "set" p2) [e] [] dr] X.env=(ae,eval (.Call (.Name "set" p2) [e] [] dr) X.env,)::aR [] X.env) Zb)(L:autoParam (aR [e] X.env=(ae,eval e X.env,)::aR [] X.env) Zb)
 (z:autoParam ((cv pos (aR [] X.env)).any (·.1)=ae) Zb)(b:autoParam ((cv dr (aR [] X.env)).any (·.1)=ae) Zb):DO c X (.Call (.Name "sorted" p) [.Call (.Name "set" p2) [e] [] dr] [] pos) (mq f):=
 PE.imp (Mt M m u n w ha I L z b) λJ H Q N=>by
  have(Hf0,H0,Hf,U,E,st,a,k):=N;unfold mq at a
  cases g:f U with
  |none=>rw[g]at a;nomatch a
  |some d=>
   rw[g]at a
   cases i:lsD d with
   |none=>rw[aw,i]at a;nomatch a
   |some B=>
    rw[aw,i]at a
    cases j:f9 B with
    |none=>rw[aw,j]at a;nomatch a
    |some ns=>
     rw[aw,j,aw]at a;split at a
     .rename_i A;cases a;show(Hf0,H0,Hf,U,d,st,g,λv C H' x r=>?_);have(l,vs,el,q,rs):=jG i r;rw[tY j]at rs;have G:=t4 rs;subst G el;show(l,ns,rfl,x.s.seq q,A.1,A.2,λpp y=>k pp _ C _ (x.trans (Ext.tmp x.s y)) (x.h.free y) (x.s.free y) a9 (ak.ints _))
     .grind
def iT(f g:MF1)(U:LS):OLD:=(f U).bind λx=>(g U).bind λy=>match x,y with
 |.lst a,.lst b=>if a.length+b.length<=16777216 then aa (a++b) else ac
 | _,_=>ac
def Mv(h:iT f g U=aa E):∃a b,f U=aa (.lst a)/\g U=aa (.lst b)/\a.length+b.length<=16777216/\E=a++b:=by
 unfold iT at h
 cases c:f U with
 |none=>rw[c]at h;nomatch h
 |some x=>
  cases d:g U with
  |none=>rw[c,d]at h;nomatch h
  |some y=>
   rw[c,d,aw,aw]at h;split at h
   .split at h
    .rename_i a b e;cases h;show(a,b,rfl,rfl,e,rfl)
    .nomatch h
   .nomatch h
def t5{a:Expr}(ha:DE c X a f)(r:DE c X b g):DO c X (.BinOp a .Add b pos) (iT f g):=PE.imp (Ci CM ha r) λJ H Q A=>by
 have(Hf0,H0,Hf,U,E,st,q,k):=A;have(B,ys,j,n,w,rfl):=Mv q;show(Hf0,H0,Hf,U,_,st,j,λv cm H1 i C=>(Hf0,H0,cm,U,_,st.step i,n,λu cc H2 d G=>?_));have(l,vs,el,y,s1):=C.up d.f;have(m,us,em,z,s2):=G;subst el em;have x:=i.trans d;show(l,m,vs,us,rfl,rfl,d.s _ _ y,d.s _ _ z,by rw[df,<- s1.length,<- s2.length];show w,λp e=>k p _ cc _ (x.trans (Ext.tmp x.s e)) (x.h.free e) (x.s.free e) a9 (s1.append s2))
def wp(F:MF3)(U:LS)(K:Fl->Prop):Prop:=∃o,F U=aa o/\K o
abbrev Ew(F:MF3)(K:Fl->Prop):Fl->Prop
 |.nx U=>wp F U K
 |o=>K o
abbrev xF(S2:LS->Prop)(K:Fl->Prop):Fl->Prop
 |.nx U=>S2 U
 |.ct U=>S2 U
 |.bk U=>K (.nx U)
 |o=>K o
def t6(Q:D->Prop)(o:Fl):Prop:=∃d,DH o=aa d/\Q d
variable{K:Fl->Prop}
def am(h:wp F U (Ew F' K)):wp (aj F F') U K:=by
 have(o,e,k):=h;unfold wp aj;rw[e]
 cases o with
 |nx ρ'=>show k
 | _=>show(_,rfl,k)
def bc(h:K (.nx U)):wp aS U K:=(_,rfl,h)
def bH(h:f U=aa d)(k:K (.nx (U.set i (.im d)))):wp (bg i f) U K:=(_,DN h,k)
def iU{f:MF2}{d:LD}(h:f U=aa d)(k:K (.nx (U.set i (.own d)))):wp (dF i f) U K:=(_,Ll h,k)
def c9(h:f U=aa d)(k:K (.rt d)):wp (aA f) U K:=(_,cF h,k)
def gF{f:MF2}{d:LD}(h:f U=aa d)(k:K (.rtO d)):wp (cE f) U K:=(_,by unfold cE;rw[h];rfl,k)
def Ex{o:Fl}(h:F U=aa o)(k:K o):wp F U K:=(_,h,k)
variable{b:Bool}
def aM{t:MF4}(h:t U=aa b)(c:b=ab->wp F U K)(a:b=ae->wp F' U K):wp (aN t F F') U K:=by
 unfold wp aN;rw[h]
 cases b with
 |true=>show c rfl
 |false=>show a rfl
def nV(e:xf i U=ρ')(h:wp F ρ' K):wp (eC i F) U K:=by
 subst e;show h
variable{B:LD}
def jO(h:f U=aa d)(h':U[i]?=aa (.own B))(a:B.length<16777216)(k:K (.nx (U.set i (.own (B++[d]))))):wp (fG i f) U K:=(_,Lr h h' a,k)
def kQ(hv:fv U=aa d)(c:fk U=aa (.int k))(h':U[i]?=aa (.own B))(a:0<=k)(b:k<B.length):iR i fk fv U=aa (.nx (U.set i (.own (B.set k.toNat d)))):=by
 have e:ixN B.length k=aa k.toNat:=by
  unfold ixN;rw[if_pos a,if_pos b]
 unfold iR;simp only[hv,aw,c,aw,h'];change(ixN B.length k).map _=_;rw[e];rfl
def xG(hv:fv U=aa d)(c:fk U=aa (.int k))(h':U[i]?=aa (.own B))(a:0<=k)(b:k<B.length)(q:K (.nx (U.set i (.own (B.set k.toNat d))))):wp (iR i fk fv) U K:=(_,kQ hv c h' a b,q)
def Ey{i:Type}{g:D->LS->Option LS}{F:MF3}{K:Fl->Prop}(f:i->D)(I:List i->LS->Prop):∀(post pre:List i) (U:LS),I pre U ->
  (∀b x e U,pre++post=b++x::e->I b U->∃ds,g (f x) U=aa ds/\wp F ds (xF (I (b++[x])) K))->(∀ρ',I (pre++post) ρ'->K (.nx ρ'))->wp (ji g F (post.map f)) U K
 | [],pre,U,h,_,hk=>(_,rfl,hk U (by rw[bB];show h))
 |x::post,pre,U,h,hs,hk=>by
  have(ds,j,o,l,c):=hs pre x post U rfl h;unfold wp;rw[bP];dsimp only[ji];simp only[j,aw,l,aw]
  have go:=λa m=>
   Ey f I post (pre++[x]) a m (by rw[cX];show hs) (by rw[cX];show hk)
  cases o with
  |nx a=>show go a c
  |ct a=>show go a c
  |bk a=>show(_,rfl,c)
  |rt d=>show(_,rfl,c)
  |rtO d=>show(_,rfl,c)
  |rtS d a=>show(_,rfl,c)
  |rtT o=>show(_,rfl,c)
def da{a:Type}{g:D->LS->Option LS}(B:List a)(f:a->D)(I:List a->LS->Prop)(hi:fi U=aa (B.map f))(b:I [] U)
 (d:∀pre x post U,B=pre++x::post->I pre U->∃ds,g (f x) U=aa ds/\wp F ds (xF (I (pre++[x])) K))(c:∀ρ',I B ρ'->K (.nx ρ')):wp (bU fi g F) U K:=by
 have(o,e,k):=Ey f I B [] U b d c;show(o,?_,k);unfold bU;rw[hi];show e
def nW{t:MF4}{F:MF3}{K:Fl->Prop}(I:Nat->LS->Prop)(g:∀m U,I m U->∃b,t U=aa b/\(b=ab->wp F U (xF (λρ'=>∃f,f<m/\I f ρ') K))/\(b=ae->K (.nx U))):
  ∀(n m:Nat) (U:LS),I m U->m<n->wp (fX t F n) U K
 | 0,m,U,_,h=>absurd h (iA _)
 |n+1,m,U,h,hn=>by
  have(b,e,p,l):=g m U h;unfold wp;dsimp only[fX];simp only[e,aw]
  cases b with
  |false=>show(_,rfl,l rfl)
  |true=>
   have(o,i,c):=p rfl;rw[i,aw]
   have go:∀a,(∃f,f<m/\I f a)->wp _ a K:=λa q=>by
    have(f,hm,j):=q;show nW I g n f a j (by lia)
   cases o with
   |nx a=>show go a c
   |ct a=>show go a c
   |bk a=>show(_,rfl,c)
   |rt d=>show(_,rfl,c)
   |rtO d=>show(_,rfl,c)
   |rtS d a=>show(_,rfl,c)
   |rtT o=>show(_,rfl,c)
variable{Q:D->Prop}
def kS(h:wp F (eE n E) (t6 Q)):∃d,aQ n F E=aa d/\Q d:=by
 have(o,e,d,a,q):=h;show(d,?_,q);unfold aQ;rw[e];show a
def eY{r:D}(h:wp F (eE n E) (t6 λd=>d=r)):aQ n F E=aa r:=by
 have(d,e,q):=kS h;rw[e,q]
def cH(h:Q d):t6 Q (.rt d):=(d,rfl,h)
def ga{d:LD}(h:Q (.lst d)):t6 Q (.rtO d):=(.lst d,rfl,h)
def xH{t:MF4}{r:OD}(h:t U=aa b)(c:b=ab->f U=r)(a:b=ae->g U=r):vIf t f g U=r:=by
 unfold vIf
 grind
def Ez{f:MF2}(h:f U=aa E)(h':m E=aa d)(a:d.scalar=ab):me m f U=aa d:=by
 unfold me;rw[h,aw,h',aw,if_pos a]
variable{i j:Int}
def kU(h:0<j):bu (.int i) (.int j)=aa (.int (i % j)):=tJ h
def Mw(h:pb i j):kK (.int i) (.int j)=aa (.int (i / j)):=tJ h
def Mx(h:pc i j):wR (.int i) (.int j)=aa (.int (i ^ j.toNat)):=tJ h
def nX:cy (.int i) (.int j)=aa (.int (i+j)):=rfl
def xI:lV (.int i) (.int j)=aa (.int (i-j)):=rfl
def t7:dLt (.int i) (.int j)=aa (.bl (decide (i<j))):=rfl
def t8:dGt (.int i) (.int j)=aa (.bl (decide (j<i))):=rfl
def t9:dGe (.int i) (.int j)=aa (.bl (decide (j<=i))):=rfl
def eZ{a:Type}(B:List a)(f:a->D):cf [.lst (B.map f)]=aa (.int B.length):=by
 change aa _=_;rw[aH]
def EA{a:Type}(f:a->D)(B:List a)(lo hi:Option Int):pL (B.map f) lo hi=((B.drop (HT.sIx B.length 0 lo)).take (HT.sIx B.length B.length hi-HT.sIx B.length 0 lo)).map f:=by
 unfold pL
 simp_all
variable{lo hi:Option Int}
def mr{a:Type}{l h:LS->Option (Option Int)}{g:a->D}{B:List a}(e:f U=aa (.lst (B.map g)))(b:l U=aa lo)(c:h U=aa hi):mSl f l h U=aa (((B.drop (HT.sIx B.length 0 lo)).take (HT.sIx B.length B.length hi-HT.sIx B.length 0 lo)).map g):=by
 unfold mSl;rw[e,aw];change(l U).bind _=_;rw[b,aw,c,<- EA];rfl
def EB{a:Type}{l h:LS->Option (Option Int)}{g:a->D}{B:List a}(e:f U=aa (.kl (B.map g)))(b:l U=aa lo)(c:h U=aa hi):mSl f l h U=aa (((B.drop (HT.sIx B.length 0 lo)).take (HT.sIx B.length B.length hi-HT.sIx B.length 0 lo)).map g):=by
 unfold mSl;rw[e,aw];change(l U).bind _=_;rw[b,aw,c,<- EA];rfl
def My{a:Type}(B:List a)(f:a->D):dNe (.lst (B.map f)) (.lst [])=aa (.bl (!B.isEmpty)):=by cases B <;> rfl
def Mz{a:Type}(g:a->D)(d:a):∀(B:List a),gU 0 (B.map g)=(bw B.length).map λi=>D.tup [.int (i:Nat),g (B.getD i d)]:=λB=>by
 show lr λi=>?_;rw[tN,bN,bN]
 by_cases h:i<B.length
 .rw[cI h,mZ h,jw];simp[h]
 .rw[dB (by lia),dB (by rw[cq];lia)];rfl
def MA{a:Type}{f:MF2}{g:a->D}{B:List a}(d:a)(e:f U=aa [.lst (B.map g)]):il f U=aa ((bw B.length).map λi=>D.tup [.int (i:Nat),g (B.getD i d)]):=by
 unfold il;rw[e,<- Mz];rfl
def MB{a:Type}(f:a->Bool)(B:List a):(B.map λx=>D.bl (f x))=(B.map f).map D.bl:=by
 rw[map_map];rfl
def MC{a:Type}(f:a->Int)(B:List a):(B.map λx=>D.int (f x))=(B.map f).map D.int:=by
 rw[map_map];rfl
def kJ(S2:LS->Prop)(o:Fl):Prop:=∃ρ',o=.nx ρ'/\S2 ρ'
def k_J{S2:LS->Prop}(h:S2 U):kJ S2 (.nx U):=(U,rfl,h)
def MD{S F:MF3}(S2:LS->Prop)(h:wp S U (kJ S2))(k:∀ρ',S2 ρ'->wp F ρ' K):wp (aj S F) U K:=by
 apply am;have(o,e,ρ',rfl,j):=h;show(_,e,k ρ' j)
def ME{i:Nat}(h:U[i]?=aa (.im d))(k:K (.rt d)):wp (fW i) U K:=(_,by unfold fW;rw[h],k)
def nY{i:Nat}{d:LD}(h:U[i]?=aa (.own d))(k:K (.rtO d)):wp (fW i) U K:=(_,by unfold fW;rw[h],k)
abbrev D.flat:D->Bool
 |.tup B=>B.all D.scalar
 |d=>d.scalar
def kX(Hf H:Hp):Hp:=λa=>match H a with
 |some (.tup vs)=>aa (.tup vs)
 | _=>Hf a
def xJ(h:H a=aa (.tup vs)):kX Hf H a=aa (.tup vs):=by
 unfold kX;rw[h]
def pX(h:∀vs,H a≠aa (.tup vs)):kX Hf H a=Hf a:=by
 unfold kX
 grind
def EC(s:aq Hf H)(g:aq H H'):Ext Hf H (kX Hf H') H':=by
 show(λb u e=>?_,g,λb u e=>?_,λl o e t=>pX λvs q=>?_)
 .have a:=g b u (s b u e)
  cases u with
  |tup vs=>show xJ a
  | _=>
   rw[pX (λvs q=>by rw[a]at q;nomatch q)];show e
 .by_cases h:∃vs,H' b=aa (.tup vs)
  .have(vs,h):=h;rw[xJ h]at e;rw[h];show e
  .rw[pX (λvs q=>h (vs,q))]at e;show g b u (s b u e)
 .rw[g l o e]at q;cases q
  nomatch t
def ak.sc{G:Gc}{H H':Hp}:∀{E:LD} {vs:LVv},E.all D.scalar=ab->ak G H E vs->ak G H' E vs
 | [],_,_,h=>h
 |d::E,_,hs,q3_=>by
  have(v,r,e,a,b):=q3_;rw[lu,bV]at hs;show(v,r,e,a.sc hs.1,ak.sc hs.2 b)
variable{G:Gc}
def Rep.flat(b:d.flat=ab)(r:Rep G H d v):Rep G (kX Hf H) d v:=by
 cases d with
 |tup B=>
  have(a,vs,e,h,q):=r
  show(a,vs,e,xJ h,q.sc b)
 |non=>show r.sc b
 |bl _=>show r.sc b
 |int _=>show r.sc b
 |str _=>show r.sc b
 |lst _=>nomatch b
 |kl _=>nomatch b
 |kt _=>nomatch b
 |dic _ _=>nomatch b
 |ins _ _ _=>nomatch b
 |kd _ _=>nomatch b
 |dT _ _=>nomatch b
variable{k:Nat}{f:Addr}
def ua(pk:Pk X.prog X.w X.K X.mg X.base CX0 k x (f,fd,) ps (spD (Gx c X) ps.length m))(l:bo k0 X.A)(ha:DAB c X (e::es) fa)(G:autoParam ((e::es).length=ps.length) Zb)(a:autoParam (NDb x) Zc)(z:autoParam (StE X e es) Zb)(j:autoParam (BkE X pos es) Zb)(i:autoParam (k<=k0) Zc)(B:autoParam (Gl X x) Zi):
  DB c X (.Call (.Name x p) (e::es) [] pos) (ar m fa):=PE.imp (nu pk.ok (l.mono i) B pk.g pk.kp pk.b .nil gy ha.pa a z j) λJ H Q L=>by
 have(Hf0,H0,Hf,U,d,st,y,I):=L;have(E,n,u):=sU y;show(Hf0,H0,Hf,U,E,st,n,λvs C H' x r=>?_);rw[bB];show(H',E,d,aq.refl _,r,(ha.len U E n).trans G,u,λv cc H2 q M=>I v C H2 (x.trans (Ext.grow x.s q.h)) (M.up q.s))
def ak.flat{G:Gc}{Hf H:Hp}:∀{E:LD} {vs:LVv},E.all D.flat=ab->ak G H E vs->ak G (kX Hf H) E vs
 | [],_,_,h=>h
 |d::E,_,hs,q3_=>by
  have(v,r,e,a,b):=q3_;rw[lu,bV]at hs;show(v,r,e,a.flat hs.1,ak.flat hs.2 b)
def ub{m:LD->OLD}{f:MF2}(h:f U=aa E)(h':m E=aa rs):jI m f U=aa rs:=by
 unfold jI;rw[h,aw,h']
def uc(h:F (eE n E)=aa (.rtO rs)):kL n F E=aa rs:=by
 unfold kL;rw[h];rfl
def mw(ns:LI0):LI0:=ns.mergeSort λa b=>decide (a<=b)
def tSL(K:aU)(te:TE):TE:=λJ H Q=>te J H λx H1=>∃l ns,x=.ref l/\SqL K H1 l (ns.map V.int)/\ns.length<64/\∀p,H1 p=ac->Q (.ref p) (upd H1 p (.lst ((mw ns).map V.int)))
def xK(ns:LI0):(mw ns).Perm ns:=mergeSort_perm _ _
def ED(ns:LI0):(mw ns).Pairwise (·<=·):=(pairwise_mergeSort (λa b c=>by simp only[decide_eq_true_iff];lia) (λa b=>by simp only[iZ,decide_eq_true_iff];lia) ns).imp of_decide_eq_true
def MF(p:out.Perm ns)(c:out.Pairwise (·<=·)):out=mw ns:=List.Perm.eq_of_pairwise (λa b _ _=>Int.le_antisymm) c (ED ns) (p.trans (xK ns).symm)
def MG(nd:ns.Nodup):mw ns=b4 ns:=xD _ _ (List.Pairwise.imp₂ (λa b c d=>(Int.lt_iff_le_and_ne.mpr (c,d))) (ED ns) ((xK ns).nodup_iff.mpr nd)) (jN _) λk=>by rw[iq];show(xK ns).mem_iff
def MH(d:Gl X "sorted")(f:X.mg "sorted"=ac)(v:PE X e te)(j:autoParam (aR [e] X.env=(ae,eval e X.env,)::aR [] X.env) Zb)(i:autoParam ((cv pos (aR [] X.env)).any (·.1)=ae) Zb):
  PE X (.Call (.Name "sorted" p) [e] [] pos) (tSL X.K te):=by
 intro M s J H Q I h;show jz (je I d f boot_sorted ?_);show rH ?_ j i;rw[j];show jb (thn (v M s J H _ I h) λu s1 A=>?_);have(x,H1,a,B,l,ns,n,w,c,q):=A;subst n;subst B;show aI ?_;have(L,C,pl,hz):=a.list w;have m:=tX C;show sorted_ints pl.isList m (by rw[m.length];show c) λout y o1 o2 z=>?_;have(ep,r):=sortedAll_at s1.heap L out;have en:=MF o2 z;subst en;have E:=o2.length_eq;show(.ref _,_,(a.laid (o:=.lst _) (λb u g=>sortedAll_old g) (jx _) (by rw[aH,df];lia,out.toList,ep,xE o1,by simpa using r)),rfl,q _ (a.hok.fresh (jx _)))
def kZ(f:MF1)(U:LS):OLD:=(f U).bind λd=>(lsD d).bind λE=>(f9 E).bind λns=>if ns.length<64 then aa ((mw ns).map .int) else ac
variable{f:MF1}
def MI(w:X.calm=ab)(j:Gl X "sorted")(m:X.mg "sorted"=ac)(ha:DE c X e f)
 (z:autoParam (aR [e] X.env=(ae,eval e X.env,)::aR [] X.env) Zb)(u:autoParam ((cv pos (aR [] X.env)).any (·.1)=ae) Zb):DO c X (.Call (.Name "sorted" p) [e] [] pos) (kZ f):=
 PE.imp (MH j m ha z u) λJ H Q G=>by
  have(Hf0,H0,Hf,U,E,st,a,k):=G;unfold kZ at a
  cases b:f U with
  |none=>rw[b]at a;nomatch a
  |some d=>
   rw[b]at a
   cases g:lsD d with
   |none=>rw[aw,g]at a;nomatch a
   |some B=>
    rw[aw,g]at a
    cases i:f9 B with
    |none=>rw[aw,i]at a;nomatch a
    |some ns=>
     rw[aw,i,aw]at a;split at a
     .rename_i A;cases a;show(Hf0,H0,Hf,U,d,st,b,λv C H' x r=>?_);have(l,vs,el,q,rs):=jG g r;rw[tY i]at rs;have y:=t4 rs;subst y el;show(l,ns,rfl,x.s.seq q,A,λpp n=>k pp _ C _ (x.trans (Ext.tmp x.s n)) (x.h.free n) (x.s.free n) a9 (ak.ints _))
     .grind
def MJ(h:f U=aa (.lst (ns.map D.int)))(a:ns.length<64):kZ f U=aa ((mw ns).map D.int):=by
 unfold kZ;rw[h,aw];change(f9 _).bind _=_;rw[tZ,aw,if_pos a]
def MK(h:f U=aa (.lst (ns.map D.int)))(a:ns.length<64)(b:ns.Nodup):kZ f U=aa ((b4 ns).map D.int):=by rw[MJ h a,MG b]
def EE{k:Int}(h:k.natAbs<2 ^ n):rR k<=n:=by
 unfold rR;split
 .show cK _
 .rename_i a;have:k.natAbs≠0:=λz=>a (by rw[Int.natAbs_eq_zero.mp z];rfl);show(Nat.log2_lt this).mpr h
def mx(i j:Int):Prop:=pf i j\/(i.natAbs<2 ^ 200/\j.natAbs<2 ^ 200)
def mx.ok(h:mx i j):IntMulOk i j:=by
 rcases h with h |⟨h1,h2⟩
 .show h.ok
 .have a:=EE h1;have b:=EE h2;unfold IntMulOk
  have:Builtin.Int.intTooBig (rR i+rR j)=ae:=by
   have c:400<=bitsLine:=by decide
   show decide_eq_false (by lia)
  rw[this,oM];show bD
noncomputable instance {i j:Int}:Decidable (mx i j):=by unfold mx;infer_instance
nonrec def dJ:D->D->OD:=dI mx λi j=>.int (i*j)
def ML:OpR X (fm .Mult) (rI mx λi j=>.int (i*j)):=opI λ_ _ _ _ _ _ _ a q=>mul_int q a.ok
def xL:OpD c X (fm .Mult) dJ:=sL ML λ_ _ _ _=>rfl
def MM(h:mx i j):dJ (.int i) (.int j)=aa (.int (i*j)):=tJ h
def jP(g:D->LS->Option LS)(f:MF1)(U:LS):Option Fl:=(f U).bind λd=>(g d U).map .nx
def xM{g:D->LS->Option LS}(m:DE c X e f)(n:DG c X tg k g)(p:autoParam (swapsWithSole [tg] e pos.line X.env=pure ae) Zb)(q:autoParam (swappedStores [tg] e X.env=pure ac) Zb)
 (l:autoParam ((g8 [tg] X.env).map (·.2)=[assign tg X.env]) Zb):DS c X (.Assign [tg] e pos) (jP g f):=PS.imp (vV m n.pg p q l) λS5 J H w=>by
 have(Hf0,H0,Hf,U,o,j,a,u):=w;unfold jP at a
 cases b:f U with
 |none=>rw[b]at a;cases a
 |some d=>
  rw[b,aw]at a
  cases h:g d U with
  |none=>rw[h]at a;cases a
  |some ρ'=>
   rw[h]at a;cases a;show(Hf0,H0,Hf,U,d,j,b,λv C H' x r=>(Hf0,H0,C,U,d,ρ',j.step x,r,h,λσ' i=>u σ' C H' x.f i))
def n4{g:D->LS->Option LS}(h:f U=aa d)(h':g d U=aa ρ')(k:K (.nx ρ')):wp (jP g f) U K:=(_,by unfold jP;rw[h,aw,h'];rfl,k)
set_option maxRecDepth 100000
inductive tDX(G:Gc)(f:LS->Option (D×LS))(J:St)(H:Hp)(Q:VK):Prop
 |mk:∀Hf0 H0 Hf U d ρ',au G Hf0 H0 Hf H J U->f U=aa (d,ρ',)->(∀v C H',aq Hf C->au G Hf0 H0 C H' J ρ'->Rep G C d v->Q v H')->tDX G f J H Q
def DX(c:Str->Addr)(X:Cx)(e:Expr)(f:LS->Option (D×LS)):Prop:=PE X e (tDX (Gx c X) f)
abbrev xN:LD->OD
 | [.int a,.int b]=>aa (.int (if b<a then b else a))
 | _=>ac
def MN(m:X.calm=ab):l5 c X (.builtin "min") xN:=by
 rintro M s J H vs us Q I q ⟨Hf,E,d,v,r,e,k⟩;unfold xN at e;split at e
 .rename_i a b;cases e;have(v1,w,rfl,i,z,x,rfl,j,l):=r;cases (l);cases (i);cases (j)
  cases q with
  |cons n h=>
   cases h with
   |cons p h=>
    cases h;have(t,rfl):=n;have(u,rfl):=p;show PySem.min_two_ints (I.ok.hd m) λh' y g=>?_;show(.int _,H,I.kept g,?_,k _ Hf H (Ext.refl v) rfl)
    by_cases f:b<a
    .rw[if_pos f,if_pos f];show(u,rfl)
    .rw[if_neg f,if_neg f];show(t,rfl)
 .nomatch e
def tLS(K:aU)(te:TE):TE:=λJ H Q=>te J H λx H1=>∃l ns,x=.ref l/\SqL K H1 l (ns.map V.int)/\ns.length<4000/\Q (.int ((b4 ns).length:Nat)) H1
def MO(C:X.calm=ab)(f:Gl X "len")(j:X.mg "len"=ac)(i:Gl X "set")(m:X.mg "set"=ac)(E:PE X e te)
 (v:autoParam (aR [.Call (.Name "set" p2) [e] [] dr] X.env=(ae,eval (.Call (.Name "set" p2) [e] [] dr) X.env,)::aR [] X.env) Zb)(w:autoParam (aR [e] X.env=(ae,eval e X.env,)::aR [] X.env) Zb)
 (n:autoParam ((cv pos (aR [] X.env)).any (·.1)=ae) Zb)(a:autoParam ((cv dr (aR [] X.env)).any (·.1)=ae) Zb):
  PE X (.Call (.Name "len" p) [.Call (.Name "set" p2) [e] [] dr] [] pos) (tLS X.K te):=by
 intro M s J H Q I h;show jz (je I f j PySem.boot_len ?_);show rH ?_ v n;rw[v];change wpAny _ _ (spliced ((ae,eval (.Call (.Name "set" p2) [e] [] dr) X.env,)::cv pos (aR [] X.env))) _ _ s;show jb (jz (je I i m boot_set ?_));show oX ?_ w a;rw[w];change wpAny _ _ (spliced ((ae,eval e X.env,)::cv dr (aR [] X.env))) _ _ s;show jb (thn (E M s J H _ I h) λu s1 U=>?_);have(x,H1,c,Y,l,ns,B,T,hb,q):=U;subst B;cases Y;show aI ?_;have(L,rr,pl,hz):=c.list T;have y:fh L ns:=tX rr;have A:L.toArray.size=ns.length:=by rw[size_toArray,y.length]
 show Ef (items:=L.toArray) (ns:=ns) (c.ok.hd C) pl.isList (by simpa using y) (by rw[A];unfold i9;lia) λh' tk z keep htk=>?_;rw[A]at z;show aI ?_;have(o,a4,ep,tb,N,d,hd,_,_,r,G,hn,_,_):=z
 show call_len_set (s:={s1 with heap:=h',toks:=tk}) N d hd G (by unfold i9 at r;lia) ?_
 show(.int ((b4 ns).length:Nat),H1,c.kept λb u g=>keep b u (bx g) g,?_,q);rw[hn,<- Ev];show(_,rfl)
def my(f:MF1)(U:LS):OD:=(f U).bind λd=>(lsD d).bind λE=>(f9 E).bind λns=>if ns.length<4000 then aa (.int ((b4 ns).length:Nat)) else ac
def MP(h:f U=aa (.lst (ns.map D.int)))(a:ns.length<4000):my f U=aa (.int ((b4 ns).length:Nat)):=by
 unfold my;rw[h];change((f9 (ns.map D.int)).bind λns=>if ns.length<4000 then aa (D.int ((b4 ns).length:Nat)) else ac)=_;rw[tZ];change(if ns.length<4000 then aa (D.int ((b4 ns).length:Nat)) else ac)=_;rw[if_pos a]
def MQ(G:X.calm=ab)(j:Gl X "len")(n:X.mg "len"=ac)(m:Gl X "set")(u:X.mg "set"=ac)(ha:DE c X e f)
 (z:autoParam (aR [.Call (.Name "set" p2) [e] [] dr] X.env=(ae,eval (.Call (.Name "set" p2) [e] [] dr) X.env,)::aR [] X.env) Zb)(A:autoParam (aR [e] X.env=(ae,eval e X.env,)::aR [] X.env) Zb)
 (w:autoParam ((cv pos (aR [] X.env)).any (·.1)=ae) Zb)(b:autoParam ((cv dr (aR [] X.env)).any (·.1)=ae) Zb):DE c X (.Call (.Name "len" p) [.Call (.Name "set" p2) [e] [] dr] [] pos) (my f):=
 PE.imp (MO G j n m u ha z A w b) λJ H Q L=>by
  have(Hf0,H0,Hf,U,E,st,a,k):=L;unfold my at a
  cases g:f U with
  |none=>rw[g]at a;cases a
  |some d=>
   rw[g]at a
   cases h:lsD d with
   |none=>rw[aw,h]at a;cases a
   |some B=>
    rw[aw,h]at a
    cases i:f9 B with
    |none=>rw[aw,i]at a;cases a
    |some ns=>
     rw[aw,i,aw]at a;split at a
     .rename_i I;cases a;show(Hf0,H0,Hf,U,d,st,g,λv C H' x r=>?_);have(l,vs,el,q,rs):=jG h r;rw[tY i]at rs;have y:=t4 rs;subst y el;show(l,ns,rfl,x.s.seq q,I,k _ C _ x rfl)
     .cases a
abbrev allInt:LD->Bool
 | []=>ab
 |.int _::r=>allInt r
 | _=>ae
mutual
noncomputable def D.gl:D->Bool
 |.non=>ab
 |.bl _=>ab
 |.int _=>ab
 |.str _=>ab
 |.tup E=>gls E
 |.lst E=>match E with
  |.int _::r=>allInt r
  | _=>ae
 | _=>ae
noncomputable def gls:LD->Bool
 | []=>ab
 |d::E=>d.gl && gls E
end
def NoI(vs:LVv):Prop:=∀i r,vs≠V.int i::r
def ak.allInt{G:Gc}{H H':Hp}:∀{E:LD} {vs:LVv},L2.allInt E=ab->ak G H E vs->ak G H' E vs
 | [],_,_,h=>h
 |.int i::E,_,hs,(v,r,e,h1,h2)=>(v,r,e,h1,ak.allInt (E:=E) hs h2)
 |.non::_,_,hs,_=>by cases hs
 |.bl _::_,_,hs,_=>by cases hs
 |.str _::_,_,hs,_=>by cases hs
 |.lst _::_,_,hs,_=>by cases hs
 |.tup _::_,_,hs,_=>by cases hs
 |.kl _::_,_,hs,_=>by cases hs
 |.kt _::_,_,hs,_=>by cases hs
 |.dic _ _::_,_,hs,_=>by cases hs
 |.ins _ _ _::_,_,hs,_=>by cases hs
mutual
theorem Rep.away(s:∀a o,H a=aa o->H' a=aa o\/∃vs,o=.lst vs/\NoI vs):∀(d:D) (v:V),d.gl=ab->Rep G H d v->Rep G H' d v
 |.non,_,_,h=>h
 |.bl _,_,_,h=>h
 |.int _,_,_,h=>h
 |.str _,_,_,h=>h
 |.tup E,_,hs,q3_=>by
  have(a,vs,e,q,r):=q3_;show(a,vs,e,?_,ak.away s E vs (by unfold D.gl at hs;show hs) r)
  rcases s a _ q with h |⟨_,h,_⟩
  .show h
  .cases h
 |.lst E,_,hs,q3_=>by
  have(a,vs,e,q,r):=q3_;unfold D.gl at hs;split at hs
  .rename_i i t;have(v,f,c,b,g):=r;show(a,vs,e,?_,v,f,c,b,g.allInt hs)
   rcases s a _ q with h |⟨_,h,n⟩
   .show h
   .cases h;have b:v=.int i:=b;subst c b;show absurd rfl (n i f)
  .cases hs
 |.kl _,_,hs,_=>by unfold D.gl at hs;cases hs
 |.kt _,_,hs,_=>by unfold D.gl at hs;cases hs
 |.dic _ _,_,hs,_=>by unfold D.gl at hs;cases hs
 |.ins _ _ _,_,hs,_=>by unfold D.gl at hs;cases hs
theorem ak.away(s:∀a o,H a=aa o->H' a=aa o\/∃vs,o=.lst vs/\NoI vs):∀(E:LD) (vs:LVv),gls E=ab->ak G H E vs->ak G H' E vs
 | [],_,_,h=>h
 |d::E,_,hs,q3_=>by
  have(v,r,e,b,c):=q3_;unfold gls at hs;rw[bV]at hs;show(v,r,e,Rep.away s d v hs.1 b,ak.away s E r hs.2 c)
end
open Classical in
def bor(Hf H:Hp):Hp:=λa=>match Hf a with
 |some o=>aa o
 |none=>match H a with
  |some (.lst vs)=>if NoI vs then aa (.lst vs) else ac
  | _=>ac
open Classical in
def aft(Hf H cc:Hp):Hp:=λa=>match Hf a with
 |some o=>aa o
 |none=>if ∃o,H a=aa o/\dY o=ae then ac else cc a
def ud{o:HO}(h:Hf a=aa o):aft Hf H cc a=aa o:=by unfold aft;rw[h]
def EF{o:HO}(h:Hf a=ac)(h':H a=aa o)(t:dY o=ae):aft Hf H cc a=ac:=by
 unfold aft;rw[h];show if_pos (o,h',t)
def xO(h:Hf a=ac)(h':¬∃o,H a=aa o/\dY o=ae):aft Hf H cc a=cc a:=by
 unfold aft;rw[h];show if_neg h'
open Classical in
def gX(f:LS->Option (D×LS))(U:LS):Option Fl:=(f U).map λp=>.nx p.2
def MR{f:LS->Option (D×LS)}(g:DX c X e f)(h:autoParam (fP e ac pos.line X.env=pure ae) Zb):DS c X (.Expr e pos) (gX f):=PS.imp (iJ g h) λS5 J H i=>by
 have(Hf0,H0,Hf,U,o,j,a,k):=i;unfold gX at a
 cases b:f U with
 |none=>rw[b]at a;nomatch a
 |some p=>
  rw[b]at a;cases a;show(Hf0,H0,Hf,U,p.1,p.2,j,b,λv C H' s d r=>k J C H' s d)
def ak.erase{G:Gc}{H:Hp}:∀{E:LD} {vs:LVv} (k:Nat),ak G H E vs->ak G H (E.eraseIdx k) (vs.eraseIdx k)
 | [],_,_,h=>by cases (show _=[]from h);show .nil
 |d::E,_,0,(v,r,e,_,h2)=>by subst e;show h2
 |d::E,_,k+1,(v,r,e,h1,h2)=>by subst e;show(v,r.eraseIdx k,rfl,h1,ak.erase k h2)
def Fre(S1 Hf:Hp)(fp:LAd):Prop:=fp.Nodup/\∀a∈fp,S1 a=ac/\Hf a=ac
variable{S1:Hp}
def Fre.nil:Fre S1 Hf []:=⟨.nil,λ_ h=>nomatch h⟩
def Fre.one(h:S1 l=ac)(h':Hf l=ac):Fre S1 Hf [l]:=(bW.mpr (bO,fc),λa ha=>by rw[cB.mp ha];show(h,h'))
def Fre.imp{b:Hp}(h:Fre S1 Hf fp)(k:∀a,S1 a=ac->b a=ac):Fre b Hf fp:=(h.1,λa ha=>(k a (h.2 a ha).1,(h.2 a ha).2))
def bsH(b:Bool)(H0 H:Hp):Hp:=bif b then H else H0
def MS(s:aq H H')(h:bsH b H0 H' a=ac):bsH b H0 H a=ac:=by
 cases b with
 |true=>show s.free h
 |false=>show h
def pY(s:aq H0 H)(h:H a=ac):bsH b H0 H a=ac:=by
 cases b with
 |true=>show h
 |false=>show s.free h
inductive tDZ(G:Gc)(b:Bool)(f:LS->Option O)(J:St)(H:Hp)(Q:VK):Prop
 |mk:∀Hf0 H0 Hf U o,au G Hf0 H0 Hf H J U->f U=aa o->(∀u fp C H',Ext Hf H C H'->OT G C H' o u fp->Fre (bsH b H0 H) C fp->Q u H')->tDZ G b f J H Q
def DZ(c:Str->Addr)(X:Cx)(b:Bool)(e:Expr)(f:LS->Option O):Prop:=PE X e (tDZ (Gx c X) b f)
inductive EG(G:Gc)(b:Bool)(f:MF2)(g:LS->Option O)(J:St)(H:Hp)(Q:LVv->Hp->Prop):Prop
 |mk:∀Hf0 H0 Hf U E o,au G Hf0 H0 Hf H J U->f U=aa E->g U=aa o->(∀vs u fp C H',Ext Hf H C H'->ak G C E vs->OT G C H' o u fp->Fre (bsH b H0 H) C fp->Q (vs++[u]) H')->EG G b f g J H Q
structure DAZ(c:Str->Addr)(X:Cx)(b:Bool)(es:LEx)(f:MF2)(g:LS->Option O):Prop where
 pa:PA X es (EG (Gx c X) b f g)
 len:∀U E,f U=aa E->E.length+1=es.length
def k4(f:MF1)(U:LS):Option O:=(f U).map .fz
def gY(f:MF2)(U:LS):Option O:=(f U).map λE=>.lst (E.map .fz)
def mz(f:MF2)(g:LS->Option O)(U:LS):Option O:=(f U).bind λE=>(g U).map λo=>.tup (E.map .fz++[o])
def OTs.snoc{G:Gc}{Hf H:Hp}{o:O}{u:V}{fp:LAd}(h:OT G Hf H o u fp):∀{E:LD} {vs:LVv},ak G Hf E vs->OTs G Hf H (E.map .fz++[o]) (vs++[u]) fp
 | [],_,r=>by cases (r);show(u,[],fp,[],rfl,h,(rfl,rfl),(bB _).symm)
 |d::E,_,(v,r,e,h1,h2)=>by subst e;show(v,r++[u],[],fp,rfl,(h1,rfl),OTs.snoc h h2,rfl)
def EH(h:DE c X e f):DZ c X b e (k4 f):=PE.imp h λJ H Q i=>by
 have(Hf0,H0,Hf,U,t,st,a,k):=i;unfold k4 at a
 cases g:f U with
 |none=>rw[g]at a;nomatch a
 |some d=>
  rw[g]at a;cases a;show(Hf0,H0,Hf,U,d,st,g,λv C H' x r=>k v [] C H' x (r,rfl) .nil)
def EI{f:MF2}(h:DO c X e f):DZ c X b e (gY f):=PE.imp h λJ H Q j=>by
 have(Hf0,H0,Hf,U,t,st,a,k):=j;unfold gY at a
 cases d:f U with
 |none=>rw[d]at a;nomatch a
 |some E=>
  rw[d]at a;cases a;show(Hf0,H0,Hf,U,E,st,d,λl vs C H' x hn g i r=>k _ [l] C H' x (l,vs,[],rfl,i,OTs.fz r,rfl) (.one (pY st.ext.h hn) g))
variable{g:LS->Option O}
def MT(h:DZ c X b e g)(f:autoParam (aR [e] X.env=[(ae,eval e X.env,)]) Zb):DAZ c X b [e] nZ g:=
 (PA.imp (dE h dk f) λJ H Q i=>by
  have(Hf0,H0,Hf,U,E,o,st,a,d,k):=i;cases a;show(Hf0,H0,Hf,U,o,st,d,λu fp C H' x r z=>k [] u fp C H' x rfl r z),λU E h=>by cases h;rfl)
def MU{fs:MF2}(h:DE c X e f)(m:DAZ c X b es fs g)(w:autoParam (StE X e es) Zb):DAZ c X b (e::es) (ag f fs) g:=by
 show(PA.imp (dE h m.pa w) λJ H Q x=>?_,λU E h=>?_)
 .have(Hf0,H0,Hf,U,E,o,st,p,q,k):=x;have(d,r,l,i,rfl):=kG p;show(Hf0,H0,Hf,U,d,st,l,λv cm H1 j y=>(Hf0,H0,cm,U,r,o,st.step j,i,q,λvs u fp cc H2 n A B z=>k _ u fp cc H2 (j.trans n) (.cons (y.up n.f) A) B (z.imp λa ha=>MS j.h ha)))
 .have(d,r,l,i,rfl):=kG h;simp[<- m.len U r i]
def MV{f:MF2}(h:DAZ c X b es f g)(hz:autoParam (es.length<=1000) Zk):DZ c X b (.Tuple es k' pos) (mz f g):=PE.imp (wj h.pa) λJ H Q j=>by
 have(Hf0,H0,Hf,U,t,st,a,k):=j;unfold mz at a
 cases d:f U with
 |none=>rw[d]at a;nomatch a
 |some E=>
  rw[d,aw]at a
  cases e:g U with
  |none=>rw[e]at a;nomatch a
  |some o=>
   rw[e]at a;cases a;show(Hf0,H0,Hf,U,E,o,st,d,e,λvs u fp C H' x r l z=>(?_,λp i=>(k _ fp C _ (x.trans (Ext.tmp x.s i)) (p,_,rfl,a9,OTs.snoc (l.up (aq.refl _) (bE i)) r) z)));rw[bf,<- r.length,dN,h.len U E d];show eS (sy hz)
variable{a a':Expr}
def MW{g:MF1}(ha:DB c X a f)(A:DE c X a' g)(B:autoParam (sj a') Zj):DB c X (.Subscript a a' pos) (mIx (aL f) g):=
 PE.imp (sm (sn.or sr) ha A B) λJ H Q C=>by
  have(Hf0,H0,Hf,U,d,st,b,k):=C;unfold mIx aL at b
  cases m:f U with
  |none=>rw[m]at b;nomatch b
  |some x=>
   rw[m,aw]at b
   cases w:ia x with
   |none=>rw[w]at b;nomatch b
   |some E=>
    rw[w,aw]at b
    cases p:g U with
    |none=>rw[p]at b;nomatch b
    |some i=>
     rw[p,aw]at b
     cases i with
     |int n=>
      show(Hf0,H0,Hf,U,x,st,m,λv cm H1 y r=>(Hf0,H0,cm,U,.int n,st.step y,p,λu cc H2 z G=>?_));cases (G);have(l,vs,j,q,rs):=nI w (r.up z.h);subst j;have(v,j,I):=Dl b rs;have e:=k v cc H2 (y.trans z) I
      rcases q with q |q
      .show .inl (l,vs,n,v,rfl,rfl,q,j,e)
      .show .inr (l,vs,n,v,rfl,rfl,q,j,e)
     | _=>nomatch b
abbrev EJ:Fl->Option O
 |.rt d=>aa (.fz d)
 |.rtO E=>aa (.lst (E.map .fz))
 |.rtT o=>aa o
 | _=>ac
def pZ(n:Nat)(F:MF3)(E:LD):Option O:=(F (eE n E)).bind EJ
def spT(G:Gc)(n:Nat)(m:LD->Option O):Sp:=λvs H Q _=>∃Hf E o,aq Hf H/\ak G Hf E vs/\E.length=n/\m E=aa o/\∀u fp C H',Ext Hf H C H'->OT G C H' o u fp->Fre H C fp->Q u H'
variable{K:aU}
def MX{f:Addr}(p:Fun K x qual st f fd)(S:aF N ps (az st))
 (h:∀(cdv:Value) (A:b7) (outer:List Env) (s:ah) (H:Hp) (S5:XK),bo k (A.deeper (fO qual (az st) s.heap.objs.size f cdv))->DSs c (hX CX0 P w K mg base N qual (az st) f cdv A outer s H S5).nox (hZ st) F)(g:autoParam (N.length=n_) Zb):
  cM P w K mg base CX0 (k+1) f fd ps (spT (K,c) ps.length (pZ n_ F)):=by
 subst g;show p.ok S (λvs H Q S5 j=>by have(Hf,E,d,m,r,a,_):=j;rw[<- r.length];show a) λcdv A outer s H vs Q S5 y j=>?_;have(Hf,E,t,m,r,a,e,i):=j;show(_,h cdv A outer s H S5 y,?_);unfold pZ at e
 cases b:F _ with
 |none=>rw[b]at e;nomatch e
 |some o=>
  rw[b]at e;show(Hf,H,Hf,_,o,au.start m r,b,?_)
  cases o with
  |rt d=>cases e;show λv C H' x r=>i v [] C H' x (r,rfl) .nil
  |rtO rs=>cases e;show λl vs C H' x hn q a r=>i _ [l] C H' x (l,vs,[],rfl,a,OTs.fz r,rfl) (.one hn q)
  |rtT o=>cases e;show λu fp C H' x r n z=>i u fp C H' x r (n,z)
  | _=>nomatch e
mutual
noncomputable def O.flat:O->Bool
 |.fz d=>d.flat
 |.lst os=>O.flats os
 |.tup os=>O.flats os
 |.dic _ os=>O.flats os
 |.ins _ _ os=>O.flats os
 |.dT _ os=>O.flats os
 |.at _ o=>o.flat
 |.jnk _=>ab
 |.any=>ab
noncomputable def O.flats:List O->Bool
 | []=>ab
 |o::os=>o.flat && O.flats os
end
def jQ(i:Nat)(f:LS->Option O)(U:LS):Option Fl:=(f U).map λo=>.nx (U.set i (.deep o))
variable{f:LS->Option O}
def xP(i:Nat)(j:X.N.Nodup)(l:DZ c X ab e f)(hi:autoParam (X.N[i]?=aa x) Zb)(q:autoParam (Loc X.env.scope x) Zf)(n:autoParam (fP e (aa (.Name x c5)) pos.line X.env=pure ae) Zb)(m:autoParam (LcF X x) Zg):
  DS c X (.Assign [.Name x c5] e pos) (jQ i f):=PS.imp (lM j hi q l n m) λS5 J H v=>by
 have(Hf0,H0,Hf,U,o,g,b,k):=v;unfold jQ at b
 cases d:f U with
 |none=>rw[d]at b;nomatch b
 |some t=>
  rw[d]at b;cases b;show(Hf0,H0,Hf,U,t,g,d,λu fp C H' x r z=>k _ C H' x.f (g.setNew x (u,fp,rfl,r,z.1,λa ha=>(g.ext.h.free (z.2 a ha).1,(z.2 a ha).2)) λa p=>?_));have(fp',w,ha):=p;have:=OT.funM t u fp fp' r w;subst this;show(z.2 a ha).1
def mC(f:LS->Option O)(U:LS):Option Fl:=(f U).map .rtT
def MY(g:DZ c X ae e f):DS c X (.Return (aa e) pos) (mC f):=PS.imp (o9 g) λS5 J H h=>by
 have(Hf0,H0,Hf,U,o,d,a,k):=h;unfold mC at a
 cases b:f U with
 |none=>rw[b]at a;nomatch a
 |some t=>
  rw[b]at a;cases a;show(Hf0,H0,Hf,U,t,d,b,λu fp C H' x r z=>k u fp C H' (d.ext.trans x) r z.1 z.2)
def OTs.at:∀{G:Gc} {Hf H:Hp} {os:List O} {vs:LVv} {fp:LAd} {k:Nat} {o:O},OTs G Hf H os vs fp->os[k]?=aa o->∃v f,vs[k]?=aa v/\OT G Hf H o v f/\∀a∈f,a∈fp
 | _,_,_,[],_,_,_,_,_,e=>by simp at e
 | _,_,_,o::os,_,_,0,o',q8_,e'=>by
  have(v,r,f1,f2,e,d,g,c):=q8_;cases e';subst e c
  show(v,f1,rfl,d,λa ha=>dO _ ha)
 | _,_,_,o::os,_,_,k+1,o',q8_,e'=>by
  have(v,r,f1,f2,e,d,g,c):=q8_;subst e c;have(h,f,a,b,m):=OTs.at g e';show(h,f,by rw[gM];show a,b,λa ha=>cV _ (m a ha))
def mD(i:Nat)(k:Nat)(U:LS):Option Fl:=match U[i]? with
 |some (.deep (.tup os))=>match os[k]? with
  |some (.lst _)=>aa (.nx (U.set i .no))
  | _=>ac
 | _=>ac
variable{i:Nat}
def MZ(h:PS X st (jD (wx X.K "list" wB (tOp (λx y H Q=>CD X.K x y H Q\/CF X.K x y H Q) (cL i) (tC (.int k)))))):DS c X st (mD i k):=PS.imp h λS5 J H N=>by
 have(Hf0,H0,Hf,U,o,A,d,M):=N;unfold mD at d;split at d
 .rename_i os es;split at d
  .rename_i B E;cases d;have(v,j,u,fp,C,r,n,z):=A.slot es;subst C;have(p,vs,ep,I,rs):=id r;subst ep;have(w,f,m,L,hm):=rs.at E;have(l,us,fs,el,q,_,g):=id L;subst el
   have hi:atI vs k=aa (.ref l):=by
    have T:=(cA.mp m).1;unfold atI ixN;rw[if_pos (Int.natCast_nonneg k),if_pos (by lia)]
    simpa using m
   show(_,j,.inr (p,vs,k,_,rfl,rfl,SqT.of I,hi,.inl (rfl,_,SqL.of q),l,us,rfl,rfl,q,?_));show M J Hf _ (aq.refl _) (A.chg es j (λb y G=>?_) trivial λa p=>(p.calm rfl).elim)
   by_cases e:b=l
   .subst e;show .inl (fp,r,hm b (by rw[g];show aB))
   .show .inr (by rw[aK e];show G)
  .nomatch d
 .nomatch d
variable{K:Fl->Prop}
def xQ{o:O}(h:f U=aa o)(k:K (.nx (U.set i (.deep o)))):wp (jQ i f) U K:=(_,by unfold jQ;rw[h];rfl,k)
def EK{o:O}(h:f U=aa o)(k:K (.rtT o)):wp (mC f) U K:=(_,by unfold mC;rw[h];rfl,k)
variable{os:List O}
def M0{B:List O}(h:U[i]?=aa (.deep (.tup os)))(h':os[k]?=aa (.lst B))(q:K (.nx (U.set i .no))):wp (mD i k) U K:=(_,by unfold mD;rw[h];simp only[h'],q)
def OTs.length{G:Gc}{Hf H:Hp}:∀{os:List O} {vs:LVv} {fp:LAd},OTs G Hf H os vs fp->os.length=vs.length
 | [],_,_,h=>by rw[h.1];rfl
 |o::os,_,_,(v,r,f1,f2,e,h1,h2,ef)=>by subst e;simp[OTs.length h2]
def OTs.append{G:Gc}{Hf H:Hp}:∀{os ps:List O} {vs us:LVv} {f g:LAd},OTs G Hf H os vs f->OTs G Hf H ps us g->OTs G Hf H (os++ps) (vs++us) (f++g)
 | [],_,_,_,_,_,h,t=>by have(a,b):=h;subst a b;show t
 |o::os,_,_,_,_,_,(v,r,f1,f2,e,h1,h2,ef),t=>by subst e ef;show(v,r++_,f1,f2++_,rfl,h1,OTs.append h2 t,cX _ _ _)
def OTs.one{o:O}{f:LAd}(h:OT G Hf H o v f):OTs G Hf H [o] [v] f:=(v,[],f,[],rfl,h,(rfl,rfl),(bB _).symm)
def OTs.up(h:OTs G Hf H os vs fp)(f:aq Hf C)(s:aq H H'):OTs G C H' os vs fp:=OTs.frameM f os vs fp h λb u e _=>s b u e
variable{fs:LAd}
def Fre.step(z:Fre S1 Hf fs)(m:∀a∈fs,∃u,H a=aa u/\dY u=ae)(x:Ext Hf H C H'):Fre S1 C fs:=(z.1,λa ha=>((z.2 a ha).1,by
 have(u,c,b):=m a ha;rw[x.n a u c b];show(z.2 a ha).2))
def Fre.app(z:Fre S1 Hf fs)(y:Fre S1 Hf fp)(d:∀a∈fs,a∈fp->False):Fre S1 Hf (fs++fp):=
 (fM.mpr (z.1,y.1,λa ha b c e=>by subst e;show d a ha c),λa ha=>(bI.mp ha).elim (z.2 a) (y.2 a))
def O.appd(o:O)(d:D):Option O:=match o with
 |.lst B=>if B.length<16777216 then aa (.lst (B++[.fz d])) else ac
 |.jnk n=>if n<16777216 then aa (.jnk (n+1)) else ac
 | _=>ac
def EL{o o':O}{fk:LAd}(h:o.appd d=aa o')(r:OT G Hf H o v fk):∃l us,v=.ref l/\H l=aa (.lst us)/\us.length<16777216/\l∈fk /\
  ∀C H' w,fk.Nodup->aq Hf C->(∀b u,b≠l->H b=aa u->H' b=aa u)->H' l=aa (.lst (us++[w]))->Rep G C d w->OT G C H' o' v fk:=by
 cases o with
 |lst B=>
  replace h:(if B.length<16777216 then aa _ else ac)=aa o':=h;split at h
  .rename_i j;cases h;have(l,us,fs,e,q,rs,c):=r;subst e c;show(l,us,rfl,q,by rw[<- rs.length];show j,aB,λC H' w n f m i a=>?_)
   have o1:=OTs.frameM f B us fs rs λb u g hm=>m b u (λz=>by
    subst z;rw[q]at g;cases g
    rcases hm with hm |hm
    .nomatch hm
    .show(bW.mp n).1 hm) g
   have o2:=o1.append (.one (o:=.fz d) (a,rfl));rw[bB]at o2;show(l,us++[w],fs,rfl,i,o2,rfl)
  .nomatch h
 |jnk n=>
  replace h:(if n<16777216 then aa _ else ac)=aa o':=h;split at h
  .rename_i j;cases h;have(l,us,e,q,z,c):=r;subst e c;show(l,us,rfl,q,by lia,aB,λC H' w _ f m i a=>(l,us++[w],rfl,i,by rw[bf,dN];lia,rfl))
  .nomatch h
 | _=>nomatch h
def EM(G:Gc)(Hf H:Hp)(J:St)(U:LS)(a:Addr):Prop:=∀(k:Nat) (t:Sl) (w:V),U[k]?=aa t->J[k]?=aa (aa w)->Holds G Hf H t w a->False
def EN(ks:LN)(a b:LS):Prop:=a.length=b.length/\∀m,m∉ks->a[m]?=b[m]?
def EN.refl(ks:LN)(a:LS):EN ks a a:=(rfl,λ_ _=>rfl)
def gG(H:Hp)(fp:LAd):Hp:=λa=>if a∈fp then ac else H a
def xR{a:Addr}(h:a∈fp):gG H fp a=ac:=by unfold gG;rw[if_pos h]
def ue{a:Addr}(h:a∉fp):gG H fp a=H a:=by unfold gG;rw[if_neg h]
def M1:aq (gG H fp) H:=λa o e=>by
 by_cases h:a∈fp
 .rw[xR h]at e;nomatch e
 .rw[ue h]at e;show e
def EO{F:Hp}(s:aq F H)(h:∀a∈fp,F a=ac):aq F (gG H fp):=λa o e=>by
 rw[ue (λz=>by rw[h a z]at e;nomatch e)];show s a o e
inductive EQ(G:Gc)(f:LS->Option (List O))(J:St)(H:Hp)(Q:LVv->Hp->Prop):Prop
 |mk:∀Hf0 H0 Hf U os,au G Hf0 H0 Hf H J U->f U=aa os->(∀vs gs C H',Ext Hf H C H'->OTs G C H' os vs gs->Fre H C gs->Q vs H')->EQ G f J H Q
structure DAT(c:Str->Addr)(X:Cx)(es:LEx)(f:LS->Option (List O)):Prop where
 pa:PA X es (EQ (Gx c X) f)
 len:∀U os,f U=aa os->os.length=es.length
abbrev jm(f:LS->Option O)(g:LS->Option (List O))(U:LS):Option (List O):=(f U).bind λo=>(g U).map λos=>o::os
def mE(g:LS->Option (List O))(U:LS):Option O:=(g U).map .lst
def M3:DAT c X [] nZ:=(PA.imp dk λJ H Q b=>by have(Hf0,H0,Hf,U,os,st,a,k):=b;cases a;show k [] [] Hf H (Ext.refl st.sub) (rfl,rfl) .nil,λU os h=>by cases h;rfl)
variable{g:LS->Option (List O)}
def ER(h:jm f g U=aa os):∃o r,f U=aa o/\g U=aa r/\os=o::r:=by
 unfold jm at h
 cases a:f U with
 |none=>rw[a]at h;cases h
 |some d=>
  cases b:g U with
  |none=>rw[a,b]at h;cases h
  |some r=>rw[a,b]at h;cases h;show(d,r,rfl,rfl,rfl)
def xS(h:DZ c X ab e f)(m:DAT c X es g)(y:autoParam (StE X e es) Zb):DAT c X (e::es) (jm f g):=by
 show(PA.imp (dE h m.pa y) λJ H Q z=>?_,λU os h=>?_)
 .have(Hf0,H0,Hf,U,os,st,v,k):=z;have(o,r,l,d,rfl):=ER v;show(Hf0,H0,Hf,U,o,st,l,λu fp cm H1 i p j=>(Hf0,H0,cm,U,r,st.step i,d,λvs gs cc H2 b A q=>?_));have j:Fre H cm fp:=j;have mem:=OT.memM o u fp p;show k (u::vs) (fp++gs) cc H2 (i.trans b) (u,vs,fp,gs,rfl,p.up b.f b.h,A,rfl) ((j.step mem b).app (q.imp λa h=>i.h.free h) λa ha x=>?_);have(w,n,_):=mem a ha;rw[(q.2 a x).1]at n;cases n
 .have(o,r,l,d,rfl):=ER h;simp[m.len U r d]
def M4(h:DAT c X es g)(hz:autoParam (es.length<=1000) Zk):DZ c X b (.List es pos) (mE g):=PE.imp (px h.pa) λJ H Q j=>by
 have(Hf0,H0,Hf,U,t,st,d,k):=j;unfold mE at d
 cases f:g U with
 |none=>rw[f]at d;cases d
 |some os=>
  rw[f]at d;cases d;show(Hf0,H0,Hf,U,os,st,f,λvs gs C H' x r z=>(?_,λl e=>?_))
  .rw[<- r.length,h.len U os f];show eS (sy hz)
  .show k _ (l::gs) C (upd H' l (.lst vs)) (x.trans (Ext.tmp x.s e)) (l,vs,gs,rfl,a9,r.up (aq.refl _) (bE e),rfl) (bW.mpr (λhm=>?_,z.1),λa ha=>?_)
   .have(u,i,_):=OTs.memM os vs gs r l hm;rw[e]at i;cases i
   .rcases aW.mp ha with q |q
    .subst q;show(pY st.ext.h (x.h.free e),x.s.free e)
    .show(pY st.ext.h (z.2 a q).1,(z.2 a q).2)
variable{kvs:List (Key×V)}
def Inv.freeze(I:Inv X M J H s)(e:H l=aa (.dK kvs)):∃od,Inv X M J (upd H l (.frz od (.dK kvs))) s:=by
 have(z,ns,vs,f,od,es,ep,g,r):=CP I.hok e;show(od,?_)
 have d:∀b u,H b=aa u->(∀w,u≠.dK w)->upd H l (.frz od (.dK kvs)) b=aa u:=λb u a i=>by
  rw[aK (λq=>by subst q;rw[e]at a;cases a;show i _ rfl)];show a
 have:=I.step (t':=s.toks) (d':=s.drawn) (ch:=[]) (λb a=>nomatch a) (λb o _ _ _ e _=>e) (λb o _ _ _ e _=>(o.slots,e)) (λb o _ _ n=>by rw[aK (λq=>by subst q;rw[e]at n;nomatch n)];show n)
  (λb o _ e=>(o,e)) (λb B a=>d b _ a (λw q=>by nomatch q)) (λb o u a=>d b _ a (λw q=>by nomatch q)) (λb ps a=>(#[],by rw[d b _ a (λw q=>by nomatch q)];simp)) (λm hm=>hm) (λb u a=>?_) I.bare
 .show this
 .by_cases q:b=l
  .subst q;rw[a9]at a;cases a;show(g,z,ns,vs,f,od,es,ep,g,r)
  .rw[aK q]at a;show(I.hok b u a).stay (λc v _ h=>h) (λc h=>d c _ h (λw q=>by nomatch q)) (λc B h=>d c _ h (λw q=>by nomatch q))
def Itk(od:Obj)(d:Addr):It:=
  (λi H=> ∃kvs k v, H d = aa (.frz od (.dK kvs))/\kvs[i]? = aa (k, v,),
   λi H x H'=> H' = H/\∀kvs, H d = aa (.frz od (.dK kvs))->∃k v, kvs[i]? = aa (k, v,)/\x = kV k,
   λi H=> ∃kvs, H d = aa (.frz od (.dK kvs))/\kvs.length<=i)
def KV.get:∀{B:List (Key×V)} {us:List (Key×Value)} {i:Nat} {x:Key×V},KV B us->B[i]?=aa x->∃u,us[i]?=aa u/\x.1=u.1/\aC x.2 u.2
 | _,_,_,_,.nil,e=>by simp at e
 | _,_,0,_,.cons r _,e=>by simp at e;subst e;show(_,rfl,r)
 | _,_,i+1,x,.cons _ t,e=>by
  have(u,a,b):=KV.get t (by simpa using e);show(u,by simpa using a,b)
def M5{k:Key}{v:Value}(h:ko k v=ab):aC (kV k) v:=by
 rcases iH h with⟨i,t,rfl,rfl⟩ |⟨x,t,rfl,rfl⟩
 .show(t,rfl)
 .show(t,rfl)
variable{K:aU}
def M6{od:Obj}{es:Array DictEntry}(hd:od.data=.dict es ep)(d it:Addr):kz P w K tg (Itk od d) [it] it (λi h=>h.IsKeyIter it d i es.size ep) where
 mem:=by simp
 obj:=λi h st b hb=>by
  have e:b=it:=by simpa using hb
  subst e;have(o,e,c,d):=st;show⟨o,e,λv z=>by rw[d]at z;nomatch z⟩
 keep:=λi h h' st k=>st.at λo e=>k it (by simp) o e
 item:=by
  intro X hP hw hK hc i M s J H S5 I hf st hg;subst hP hw hK;have(kvs,k,v,hH,hx):=hg;have(ho,z,ns,vs,rel,od',es',ep',ho',ex,hd',kk,pp,nd):=I.hok d _ hH;rw[ho]at ho';cases ho';rw[hd]at hd';cases hd';have hm:s.heap.DictAt _ d vs ep:=(od,es,ho,ex,hd,kk,pp,nd);have hl:es.size=vs.length:=by rw[<- pp.length];simp
  have((k',v'),hv,ek,rv):=KV.get rel hx;subst ek;have(f0,f1,f2,f3,f4,f5):=hf it (by simp);rw[hl]at st;show wpAny_pyNext_dict_item st hm hv λkey h' hkey ez sb=>?_;show(key,rfl,letGo_keyiter ez (kV k,H,(I.turned (λb o hb e=>(sb.2 b hb).trans e) f0 f1 f3 f4 f5),M5 hkey,(rfl,λkvs2 h2=>?_),by rw[hl];show ez,λb hb=>(hf b hb).1));rw[hH]at h2;cases h2;show(k,v,hx,rfl)
 done:=by
  intro X hP hw hK hc i M s J H S5 I hf st hg;subst hP hw hK;have(kvs,hH,hx):=hg;have(ho,z,ns,vs,rel,od',es',ep',ho',ex,hd',kk,pp,nd):=I.hok d _ hH;rw[ho]at ho';cases ho';rw[hd]at hd';cases hd';have hm:s.heap.DictAt _ d vs ep:=(od,es,ho,ex,hd,kk,pp,nd);have hl:es.size=vs.length:=by rw[<- pp.length];simp
  have hv:=nc rel;have(f0,f1,f2,f3,f4,f5):=hf it (by simp);rw[hl]at st;show wpAny_pyNext_dict_end (I.ok.hd hc) st hm (dB (by lia)) λh' eb=>(rfl,I.turned (λb o hb e=>eb b o hb e) f0 f1 f3 f4 f5)
 self:=λ_ _ _ _ _ st h=>wpAny_pyIter_keyiter st h
def M7(te:TE):TI:=λJ H R=>te J H λx H1=>∃d od kvs,x=.ref d/\H1 d=aa (.frz od (.dK kvs))/\R (Itk od d) H1
def M8(m:PE X e te):PI X tg e (M7 te):=by
 intro M s J H R I h;show thn (m M s J H _ I h) λv s1 u=>?_;have(x,H1,f,w,r):=u;have(d,od,kvs,ex,j,q):=r;subst ex;subst w;have(i,z,ns,vs,y,p,es,ep,c,g,a,kk,pp,nd):=f.hok d _ j;rw[i]at c;cases c;have hm:s1.heap.DictAt _ d vs ep:=(od,es,i,g,a,kk,pp,nd);have n:es.size=vs.length:=by rw[<- pp.length];simp
 show wpAny_pyIter_dict ns hm ?_;show(s1.heap.objs.size,_,_,_,H1,rfl,f.kept λb o e=>bG _ e,M6 a d _,(_,cY _ rfl,rfl,by rw[n];rfl),λb l=>?_,q);have e:b=s1.heap.objs.size:=by simpa using l
 subst e;show f.fpOk (aP _) (f.hok.fresh (aP _))
abbrev kD:Key->D
 |.inl i=>.int i
 |.inr x=>.str x
def M9(k:Key):Rep G H (kD k) (kV k):=by cases k <;> rfl
abbrev Na:D->OLD
 |.kd ks _=>aa (ks.map kD)
 | _=>ac
def p7(f:MF1)(U:LS):OLD:=(f U).bind Na
def ES{a c:Type}:∀{ks:List a} {vs:List c} {i:Nat} {k:a},ks.length=vs.length->ks[i]?=aa k->∃v,(ks.zip vs)[i]?=aa (k,v,)
 | [],_,_,_,_,e=>by simp at e
 | _::_,[],_,_,h,_=>by cases h
 |k::ks,v::vs,0,_,_,e=>by simp at e;subst e;show(v,rfl)
 |k::ks,v::vs,i+1,_,h,e=>by
  have(u,b):=ES (by simpa using h) (by simpa using e);show(u,by simpa using b)
variable{f:MF1}
def Nb(L:DE c X e f):DI c X tg e (p7 f):=PI.imp (M8 L) λJ H R N=>by
 have(Hf0,H0,Hf,U,E,st,b,k):=N;unfold p7 at b
 cases h:f U with
 |none=>rw[h]at b;nomatch b
 |some d=>
  rw[h,aw]at b
  cases d with
  |kd ks B=>
   cases b;show(Hf0,H0,Hf,U,_,st,h,λv C H' x r=>?_);have(a,od,vs,G,q,z,rs):=r;show(a,od,_,G,x.s _ _ q,k _ C H' x λcc H2 f2 s2 i=>?_);have l:=(f2.trans s2) _ _ q;show(λd g=>?_,λA=>(_,l,by rw[length_zip,<- z];rw[aH]at A;lia));rw[bN]at g
   cases j:ks[i]? with
   |none=>rw[j]at g;nomatch g
   |some p=>
    rw[j]at g;cases g;have(u,n):=ES z j;show((_,p,u,l,n),λy Q (w,M)=>?_);subst w;have(T,Y,m,I):=M _ l;rw[n]at m;cases m;subst I
    show(cc,Ext.refl s2,M9 p)
  | _=>nomatch b
def iV(ks:List Key)(B:LD)(k:Key):OD:=((ks.zip B).find? λa=>decide (a.1=k)).map (·.2)
def xT{G:Gc}{H:Hp}{k:Key}:∀{ks:List Key} {B:LD} {vs:LVv},ks.length=vs.length->ak G H B vs->(∀d,iV ks B k=aa d->∃v,cC (ks.zip vs) k=aa v/\Rep G H d v)/\(iV ks B k=ac->cC (ks.zip vs) k=ac)
 | [],_,_,_,_=>(λd h=>(by cases h),λ_=>rfl)
 | _::_,_,[],h,_=>by cases h
 |j::ks,[],v::vs,_,r=>by cases (r)
 |j::ks,x::B,v::vs,h,q4_=>by
  have(u,g,e,c,f):=q4_
  injection e with e1 e2
  subst e1 e2;have(a,b):=xT (by simpa using h) f;unfold iV;simp only[eP,eP]
  by_cases q:j=k
  .subst q;show(λd hd=>(v,pH rfl,?_),λhd=>?_)
   .rw[find?_cons_of_pos (by simp)]at hd;cases hd;show c
   .rw[find?_cons_of_pos (by simp)]at hd;cases hd
  .rw[find?_cons_of_neg (by simpa using q),nv q];show(a,b)
abbrev xU:D->Option (List Key×LD)
 |.dic ks B=>aa (ks,B,)
 |.kd ks B=>aa (ks,B,)
 | _=>ac
def Nd{p:List Key×LD}(e:xU d=aa p)(r:Rep G H d v):∃a vs,v=.ref a/\Rd H a (.dK (p.1.zip vs))/\p.1.length=vs.length/\ak G H p.2 vs:=by
 cases d with
 |dic ks B=>cases e;have(a,vs,b,q,z,r):=r;show(a,vs,b,.inl q,z,r)
 |kd ks B=>cases e;have(a,od,vs,b,q,z,r):=r;show(a,vs,b,.inr (od,q),z,r)
 | _=>nomatch e
variable{u:HO}
def Rd.up{a:Addr}(h:Rd H a u)(s:aq H H'):Rd H' a u:=h.imp (s _ _) λb=>by
 have(o,e):=b;show((o,s _ _ e))
def p8(x y:D):OD:=(xU x).bind λp=>(jl y).bind λk=>iV p.1 p.2 k
variable{b:Expr}
def Nf(hu:X.A.units+64<cLine){g:MF1}(ha:DE c X a f)(I:DE c X b g)(L:autoParam (sD b) Zj):DE c X (.Subscript a b pos) (m2 p8 f g):=
 PE.imp (CS (by lia) ha I L) λJ H Q T=>by
  have(Hf0,H0,Hf,U,d,st,E,k):=T;have(x,y,B,C,e):=sH E;show(Hf0,H0,Hf,U,x,st,B,λv cm H1 n Y=>(Hf0,H0,cm,U,y,st.step n,C,λu cc H2 m r2=>?_));unfold p8 at e
  cases h:xU x with
  |none=>rw[h]at e;nomatch e
  |some p=>
   rw[h,aw]at e
   cases i:jl y with
   |none=>rw[i]at e;nomatch e
   |some N=>
    rw[i,aw]at e;have(l,vs,el,q,z,r):=Nd h (Y.up m.f);have G:=tO i r2;subst G el;have(w,M,j):=(xT z r).1 d e;show(l,w,rfl,.inl (_,N,q.up m.s,rfl,M.symm),k _ cc H2 (n.trans m) j)
def n5(i:Nat)(fk a:MF1)(U:LS):OD:=match U[i]? with
 |some (.ownd ks B)=>(fk U).bind λy=>(jl y).bind λk=>(a U).map λx=>(iV ks B k).getD x
 | _=>ac
variable{cpos:Pos}
def Ng{o:Expr}(hu:X.A.units+64<cLine){C:MF1}(Y:PE X o (cL i))(T:DE c X a fk)(hx:DE c X b C)(m:M2 X o "get" apos a b cpos):DE c X (.Call (.Attribute o "get" apos) [a,b] [] cpos) (n5 i fk C):=
 PE.imp (CW (by lia) Y T hx m) λJ H Q q_=>by
  have(Hf0,H0,Hf,U,d,st,e,k):=q_;unfold n5 at e;split at e
  .rename_i ks B es
   cases j:fk U with
   |none=>rw[j]at e;nomatch e
   |some y=>
    rw[j,aw]at e
    cases p:jl y with
    |none=>rw[p]at e;nomatch e
    |some I=>
     rw[p,aw]at e
     cases n:C U with
     |none=>rw[n]at e;nomatch e
     |some x=>
      rw[n]at e;cases e;have(l,el,h0,hf,vs,q,z,r):=st.ownAt rfl es;show(_,el,l,rfl,.inl (_,.inl q),Hf0,H0,Hf,U,y,st,j,λv cm H1 g r1=>(Hf0,H0,cm,U,x,st.step g,n,λu cc H2 G r2=>?_));have L:=tO p r1;subst L;show(cC _ I,fV.k ((g.trans G).h _ _ q),k _ cc H2 (g.trans G) ?_);have(M,N):=xT z (r.up (g.trans G).f)
      cases hv:iV ks B I with
      |none=>rw[N hv];show r2
      |some d=>
       have(w,hw,E):=M d hv;rw[hw];show E
  .nomatch e
def n6(i:Nat)(F:MF3)(U:LS):Option Fl:=match U[i]? with
 |some (.ownd ks B)=>F (U.set i (.im (.kd ks B)))
 | _=>F U
def Nh{S5:iI}(I:Inv X M J H s)(h:tDS (Gx c X) (n6 i F) S5 J H):∃H',Inv X M J H' s/\tDS (Gx c X) F S5 J H':=by
 have(Hf0,H0,Hf,U,o,Q,T,k):=h;unfold n6 at T;split at T
 .rename_i ks B es;have(l,A,h0,E,vs,q,z,r):=Q.ownAt rfl es;have(od,I'):=I.freeze q;show(_,I',Hf0,H0,upd Hf l (.frz od (.dK (ks.zip vs))),U.set i _,o,?_,T,k.up (bE E))
  have s1 : au _ Hf0 H0 Hf (upd H l (.frz od (.dK (ks.zip vs)))) J (U.set i .no):=Q.chg es A (λb u Y=>by
   by_cases g:b=l
   .subst g;show .inl ((Holds.own rfl).mpr rfl)
   .show .inr (by rw[aK g];show Y)) trivial λa p=>(p.calm rfl).elim
  have s2:au (Gx c X) Hf0 H0 (upd Hf l (.frz od (.dK (ks.zip vs)))) (upd H l (.frz od (.dK (ks.zip vs)))) J (U.set i .no):=by
   have fr:EM (Gx c X) Hf H J (U.set i .no) l:=λm t w b x p=>by
    rcases cx b with⟨_,e',_⟩ |⟨ne,b⟩
    .subst e';show p.calm rfl
    .show ne (Q.dj m i t _ w _ l b es x A p ((Holds.own rfl).mpr rfl))
   have L:EM (Gx c X) Hf (upd H l (.frz od (.dK (ks.zip vs)))) J _ l:=λm t w b x p=>by
    cases C:t.isOwn with
    |true=>
     show fr m t w b x ((Holds.own C).mpr ((Holds.own C).mp p))
    |false=>
     cases t with
     |deep o'=>
      have(fp,rr,ha):=p
      have (u,fp',eu,r2,_):=Q.at' m _ _ x (by
       rcases cx b with⟨_,e',_⟩ |⟨ne,b⟩
       .nomatch e'
       .show b)
      cases eu
      have r3:OT _ Hf (upd H l (.frz od (.dK (ks.zip vs)))) o' w fp':=r2.frame (aq.refl _) λb' u' g j=>by
       rw[aK (λG=>?_)]
       .show g
       .subst G
        rcases j with j |j
        .rw[q]at g;cases g;nomatch j
        .show fr m _ w b x (fp',r2,j)
      have:=OT.funM o' w _ _ r3 rr;subst this
      show fr m _ w b x (fp',r2,ha)
     | _=>first |show jq p.1 |nomatch C
   show s1.re (s1.ext.f.trans (bE E),s1.ext.h,λb u e=>?_,λb u e t=>?_) rfl (λm v t a b=>?_) λm t v a b x p=>(t,b,(s1.at' m _ t x b).back (λo' fp _ r=>r.up (bE E) (aq.refl _)) p)
   .by_cases Y:b=l
    .subst Y;rw[a9]at e ⊢;show e
    .rw[aK Y]at e;show s1.ext.s b u e
   .rw[aK (λz=>by subst z;rw[h0]at e;nomatch e)];show s1.ext.n b u e t
   .have G:=s1.at' m v t a b
    cases C:t.isOwn with
    |true=>
     have(l2,e2,e3,e4,q2):=G.own C;subst e2;show .ofOwn C (l2,rfl,e3,?_,q2.up (bE E) λo' ho'=>ho');rw[aK (λz=>by subst z;show L m t _ b a ((Holds.own C).mpr rfl))]
     show e4
    |false=>
     cases t with
     |no=>trivial
     |im d=>have(u',A,r):=G;show(u',A,r.up (bE E))
     |val u'=>show G
     |deep o'=>
      have(w,fp,A,r,n,zz):=G;subst A;show(w,fp,rfl,r.up (bE E) (aq.refl _),n,λy hy=>((zz y hy).1,?_));rw[aK (λz=>by subst z;show L m _ w b a (fp,r,hy))]
      show(zz y hy).2
     | _=>nomatch C
  have N:=s2.setIm (i:=i) (d:=.kd ks B) (l,od,vs,rfl,a9,z,r.up (bE E))
  have e3:J.set i (aa (.ref l))=J:=by
   apply lr;intro jj
   by_cases hj:i=jj
   .subst hj;rw[i0 (cA.mp A).1,A]
   .rw[j7 hj]
  rw[e3,set_set]at N;show N
 .show(H,I,Hf0,H0,Hf,U,o,Q,T,k)
def Ni(i:Nat)(h:DS c X st F):DS c X st (n6 i F):=λM s J H S5 I q=>by
 have(H',a,b):=Nh I q;show h M s J H' S5 a b
nonrec def Xe:=LS->Option (D×LS)
nonrec def Xa:=LS->Option (LD×LS)
nonrec def Xt:=LS->Option (Bool×LS)
def mX(f:MF1):Xe:=λU=>(f U).map λd=>(d,U,)
def fI:Xa:=λU=>aa ([],U,)
def dL(f:Xe)(g:Xa):Xa:=λU=>(f U).bind λp=>(g p.2).map λq=>(p.1::q.1,q.2,)
def Nj(h:mX f U=aa (d,ρ',)):f U=aa d/\ρ'=U:=by
 unfold mX at h
 cases e:f U with
 |none=>rw[e]at h;nomatch h
 |some d'=>rw[e]at h;cases h;show(rfl,rfl)
def ET{f:Xe}{g:Xa}(h:dL f g U=aa (E,ρ',)):∃d r ds,f U=aa (d,ds,)/\g ds=aa (r,ρ',)/\E=d::r:=by
 unfold dL at h
 cases b:f U with
 |none=>rw[b]at h;nomatch h
 |some p=>
  rw[b,aw]at h
  cases a:g p.2 with
  |none=>rw[a]at h;nomatch h
  |some q=>rw[a]at h;cases h;show(p.1,q.1,p.2,rfl,a,rfl)
inductive uf(G:Gc)(f:Xa)(J:St)(H:Hp)(Q:LVv->Hp->Prop):Prop
 |mk:∀Hf0 H0 Hf U E ρ',au G Hf0 H0 Hf H J U->f U=aa (E,ρ',)->(∀vs C H',aq Hf C->au G Hf0 H0 C H' J ρ'->ak G C E vs->Q vs H')->uf G f J H Q
structure DAX(c:Str->Addr)(X:Cx)(es:LEx)(f:Xa):Prop where
 pa:PA X es (uf (Gx c X) f)
 len:∀U E ρ',f U=aa (E,ρ',)->E.length=es.length
def DE.dx(h:DE c X e f):DX c X e (mX f):=PE.imp h λJ H Q g=>by
 have(Hf0,H0,Hf,U,d,ρ',st,b,k):=g;have(a,rfl):=Nj b;show(Hf0,H0,Hf,_,d,st,a,λv C H' x r=>k v C H' x.f (st.step x) r)
def Nk:DAX c X [] fI:=(PA.imp dk λJ H Q b=>by have(Hf0,H0,Hf,U,E,ρ',st,a,k):=b;cases a;show k [] Hf H (aq.refl _) st rfl,λU E ρ' h=>by cases h;rfl)
variable{f:Xe}
def Nl{g:Xa}(ha:DX c X e f)(l:DAX c X es g)(n:autoParam (StE X e es) Zb):DAX c X (e::es) (dL f g):=by
 show(PA.imp (dE ha l.pa n) λJ H Q p=>?_,λU E ρ' h=>?_)
 .have(Hf0,H0,Hf,U,E,ρ',st,m,k):=p;have(d,r,ds,j,a,rfl):=ET m;show(Hf0,H0,Hf,U,d,ds,st,j,λv cm H1 f1 b q=>(Hf0,H0,cm,ds,r,ρ',b,a,λvs cc H2 f2 i u=>k _ cc H2 (f1.trans f2) i (.cons (q.up f2) u)))
 .have(d,r,ds,j,a,rfl):=ET h;simp[l.len ds r ρ' a]
def iW(i:Nat)(f:Xe)(U:LS):Option Fl:=(f U).map λp=>.nx (p.2.set i (.im p.1))
abbrev xV:D->D->OD
 |.int i,.int j=>aa (.int (i+j))
 |.str a,.str b=>if a.length+b.length<=16777216 then aa (.str (a++b)) else ac
 | _,_=>ac
def mF(i:Nat)(f:Xe)(U:LS):Option Fl:=match U[i]? with
 |some (.im x)=>(f U).bind λp=>(xV x p.1).map λz=>.nx (p.2.set i (.im z))
 | _=>ac
def xX(i:Nat)(g:X.N.Nodup)(h:DX c X e f)(hi:autoParam (X.N[i]?=aa x) Zb)(m:autoParam (Loc X.env.scope x) Zf)(l:autoParam (fP e (aa (.Name x c5)) pos.line X.env=pure ae) Zb)(j:autoParam (LcF X x) Zg):
  DS c X (.Assign [.Name x c5] e pos) (iW i f):=PS.imp (lM g hi m h l j) λS5 J H n=>by
 have(Hf0,H0,Hf,U,o,q,a,k):=n;unfold iW at a
 cases b:f U with
 |none=>rw[b]at a;nomatch a
 |some p=>
  rw[b]at a;cases a;show(Hf0,H0,Hf,U,p.1,p.2,q,b,λv C H' s d r=>k _ C H' s (d.setIm r))
def Nn:PIp X .Add (rD (Gx c X) xV):=λM s J H x y v u Q I l m q=>by
 have(Hf,dx,f,d,n,g,h,e,k):=q
 show (by
 cases dx with
 |int i=>
  cases f with
  |int j=>
   subst g;subst h;cases e
   show Iv M s J H _ _ v u Q I l m (_,_,rfl,rfl,k _ Hf H (Ext.refl n) rfl)
  | _=>nomatch e
 |str a=>
  cases f with
  |str b=>
   subst g;subst h;replace e:(if _ then aa _ else ac)=aa d:=e;split at e
   .rename_i p;cases e;show Jc M s J H _ _ v u Q I l m (_,_,rfl,rfl,by rw[df];show p,k _ Hf H (Ext.refl n) rfl)
   .grind
  | _=>nomatch e
 | _=>nomatch e)
def No(i:Nat)(A:X.N.Nodup)(B:DX c X e f)(hi:autoParam (X.N[i]?=aa x) Zb)(G:autoParam (Loc X.env.scope x) Zf)(E:autoParam (LcF X x) Zg):
  DS c X (.AugAssign (.Name x c5) .Add e pos) (mF i f):=PS.imp (Iu A hi G B (Nn) E) λS5 J H I=>by
 have(Hf0,H0,Hf,U,o,l,a,k):=I;unfold mF at a;split at a
 .rename_i d es
  cases g:f U with
  |none=>rw[g]at a;nomatch a
  |some p=>
   rw[g,aw]at a
   cases h:xV d p.1 with
   |none=>rw[h]at a;nomatch a
   |some z=>
    rw[h]at a;cases a;have(v,n,w,q,j):=l.slot es;subst q;show(_,n,Hf0,H0,Hf,U,p.1,p.2,l,g,λu C H' s b r=>(C,d,p.1,z,b.sub,j.up s,r,h,λy cc H2 m L=>k _ cc H2 (s.trans m.f) ((b.step m).setIm L)))
 .nomatch a
def isE(x d:D):Bool:=deq 19 d x==aa ab
def EU{x:D}:∀{E:LD} {b:Bool},d3 x E=aa b->(∀d∈E,∃f,deq 19 d x=aa f)/\E.any (isE x)=b
 | [],_,h=>by cases h;show(λd hd=>(bO hd).elim,rfl)
 |d::E,b,h=>by
  have(a,l,c,g,rfl):=Ea h;have(i,j):=EU g;show(λd' hd=>?_,?_)
  .rcases aW.mp hd with e |e
   .rw[e];show(a,c)
   .show i d' e
  .rw[gj,j];unfold isE;rw[c]
   cases a <;> rfl
def EV{b:Type}:∀(a:List (Int×b)),(a.map (·.1)).Nodup->∀z∈a,a.find? (λy=>y.1==z.1)=aa z
 | [],_,_,h=>(bO h).elim
 |y::a,nd,z,h=>by
  rw[bP,bW]at nd;rw[find?_cons]
  rcases aW.mp h with e |e
  .rw[e,beq_self_eq_true]
  .have:_=ae:=beq_eq_false_iff_ne.mpr λq=>nd.1 (aO.mpr (z,e,q.symm));rw[this];show EV a nd.2 z e
def DE.pe{f:MF1}(h:DE c X e f):PE X e (tD (Gx c X) f):=h
def DX.pe(h:DX c X e f):PE X e (tDX (Gx c X) f):=h
structure Foc(G:Gc)(Hf H:Hp)(o:O)(v:V)(fp:LAd)(o1:O)(v1:V)(f1:LAd)(R:O->O):Prop where
 r:OT G Hf H o1 v1 f1
 n:f1.Nodup
 sub:∀a∈f1,a∈fp
 back:∀(C H':Hp) (o2:O) (f2:LAd),aq Hf C->(∀b u,H b=aa u->b∉f1->H' b=aa u)->OT G C H' o2 v1 f2 ->
  ∃fp',OT G C H' (R o2) v fp'/\(∀a∈fp',a∈f2\/(a∈fp/\a∉f1))/\(f2.Nodup->(∀a∈f2,a∈fp->a∈f1)->fp'.Nodup)
def Foc.refl{o:O}(h:OT G Hf H o v fp)(n:fp.Nodup):Foc G Hf H o v fp o v fp id:=
 (h,n,λ_ h=>h,λ_ _ _ f2 _ _ q=>(f2,q,λ_ h=>.inl h,λn _=>n))
variable{v1:V}{f1 f2:LAd}{R R':O->O}
def Foc.trans{o o1 o2:O}{g:V}(F:Foc G Hf H o v fp o1 v1 f1 R)(F':Foc G Hf H o1 v1 f1 o2 g f2 R'):Foc G Hf H o v fp o2 g f2 (λx=>R (R' x)):=by
 show(F'.r,F'.n,λa h=>F.sub a (F'.sub a h),λC H' p i s k h=>?_);have(d,q,m1,j):=F'.back C H' p i s k h;have(fp',w,m2,l):=F.back C H' _ d s (λb u e c=>k b u e λz=>c (F'.sub b z)) q;show(fp',w,λa ha=>?_,λm f=>l (j m λa ha c=>f a ha (F.sub a c)) λa ha c=>?_)
 .rcases m2 a ha with z |⟨z,z'⟩
  .rcases m1 a z with y |⟨y,y'⟩
   .show .inl y
   .show .inr (F.sub a y,y')
  .show .inr (z,λy=>z' (F'.sub a y))
 .rcases m1 a ha with y |⟨y,_⟩
  .show F'.sub a (f a y c)
  .show y
variable{b:Addr}
def xY{o:O}{f:LAd}(h:OT G Hf H o v f)(e:H b=aa u)(t:dY u=ab):b∉f:=λz=>by
 have(d,c,a):=OT.memM o v f h b z
 grind
def OTs.foc:∀{os:List O} {vs:LVv} {fp:LAd} {k:Nat} {o1:O},OTs G Hf H os vs fp->fp.Nodup->os[k]?=aa o1->∃v1 f1,vs[k]?=aa v1/\OT G Hf H o1 v1 f1/\f1.Nodup/\(∀a∈f1,a∈fp) /\
  ∀(C H':Hp) (o2:O) (d:V) (f2:LAd),aq Hf C->(∀b u,H b=aa u->(dY u=ab\/b∈fp)->b∉f1->H' b=aa u)->OT G C H' o2 d f2 ->
  ∃fp',OTs G C H' (os.set k o2) (vs.set k d) fp'/\(∀a∈fp',a∈f2\/(a∈fp/\a∉f1))/\(f2.Nodup->(∀a∈f2,a∈fp->a∈f1)->fp'.Nodup)
 | [],_,_,_,_,_,_,e=>by simp at e
 |o::os,_,_,0,o1,q5_,n,e'=>by
  have(v,r,f1,g,e,i,p,m):=q5_;cases e';subst e m;have(w,x,dj):=fM.mp n;show(v,f1,rfl,i,w,λa ha=>dO _ ha,λC H' o2 d f2 s k h=>(f2++g,?_,λa ha=>?_,λA j=>(fM.mpr (A,x,λa ha b c z=>by subst z;show dj a (j a ha (cV _ c)) a c rfl))))
  .simp only[rq,rq];show(d,r,f2,g,rfl,h,OTs.frameM s os r g p λb u c hm=>k b u c (hm.imp_right λy=>cV _ y) λz=>?_,rfl)
   rcases hm with t |t
   .show xY i c t z
   .show dj b z b t rfl
  .rcases bI.mp ha with z |z
   .show .inl z
   .show .inr (cV _ z,λy=>dj a y a z rfl)
 |o::os,_,_,k+1,o1,q5_,n,e'=>by
  have(v,r,f,g,e,i,p,m):=q5_;subst e m;have(w,x,dj):=fM.mp n;have(v1,f1,I,q,L,l,bk):=OTs.foc p x e';show(v1,f1,by simp only[gM];show I,q,L,λa ha=>cV _ (l a ha),λC H' o2 d f2 s k h=>?_);have(B,M,E,J):=bk C H' o2 d f2 s (λb u c hm=>k b u c (hm.imp_right λy=>cV _ y)) h;show(f++B,?_,λa ha=>?_,λA j=>?_)
  .simp only[oT,oT];show(v,_,f,B,rfl,i.frame s λb u c hm=>k b u c (hm.imp_right λy=>dO _ y) λz=>?_,M,rfl)
   rcases hm with t |t
   .show xY q c t z
   .show dj b t b (l b z) rfl
  .rcases bI.mp ha with z |z
   .show .inr (dO _ z,λy=>dj a z a (l a y) rfl)
   .rcases E a z with y |⟨y,y'⟩
    .show .inl y
    .show .inr (cV _ y,y')
  .show fM.mpr (w,J A λa ha c=>j a ha (cV _ c),λa ha b c z=>?_);subst z
   rcases E a c with y |⟨y,_⟩
   .show dj a ha a (l a (j a y (dO _ ha))) rfl
   .show dj a ha a y rfl
def n8{b:Type}:∀{l:List b} {k:Nat} {x:b},l[k]?=aa x->l.set k x=l
 | [],_,_,e=>by simp at e
 | _::_,0,_,e=>by simp at e;subst e;rfl
 |a::l,k+1,x,e=>by rw[gM]at e;rw[oT,n8 e]
variable{o1:O}
def Foc.root{o:O}{a:Addr}{W:List O->O}(ha:H a=aa u)(E:dY u=ae)(rs:OTs G Hf H os vs fs)(n:(a::fs).Nodup)(e:os[k]?=aa o1)
 (mk:∀C H' f c,H' a=aa u->OTs G C H' f vs c->f.length=os.length->OT G C H' (W f) (.ref a) (a::c)):∃v1 f1,vs[k]?=aa v1/\Foc G Hf H o (.ref a) (a::fs) o1 v1 f1 (λx=>W (os.set k x)):=by
 have(g,A):=bW.mp n;have(v1,f1,l,q,B,i,bk):=rs.foc A e;show(v1,f1,l,q,B,λb d=>be _ (i b d),λC H' o2 f2 s k' h=>?_);have(c,r,p,w):=bk C H' o2 v1 f2 s (λb u d _=>k' b u d) h;rw[n8 l]at r;show(a::c,mk C H' _ c (k' a u ha λz=>g (i a z)) r (by simp),λb d=>?_,λj m=>bW.mpr (λz=>?_,w j λb d v=>m b d (be _ v)))
 .rcases aW.mp d with z |z
  .subst z;show .inr (aB,λy=>g (i b y))
  .rcases p b z with y |⟨y,y'⟩
   .show .inl y
   .show .inr (be _ y,y')
 .rcases p a z with y |⟨y,_⟩
  .show g (i a (m a y aB))
  .show g y
def Foc.at{o:O}(h:OT G Hf H (.at l o) v fp)(n:fp.Nodup):Foc G Hf H (.at l o) v fp o v fp (.at l):=
 (h.2,n,λ_ h=>h,λ_ _ _ f2 _ _ q=>(f2,(h.1,q),λ_ h=>.inl h,λn _=>n))
def au.foc{o o1 o2:O}(m:au G Hf0 H0 Hf H J U)(es:U[i]?=aa (.deep o))(q:J[i]?=aa (aa v))(r:OT G C H1 o v fp)(x:Ext Hf H C H1)(F:Foc G C H1 o v fp o1 v1 f1 R)
 (kk:∀b u,H1 b=aa u->b∉f1->H2 b=aa u)(new:OT G C H2 o2 v1 f2)(M:f2.Nodup)(B:∀a∈f2,a∈f1\/(H a=ac/\C a=ac)):au G Hf0 H0 C H2 J (U.set i (.deep (R o2))):=by
 have(N,g,I,d,n,z):=(m.at' i _ _ q es);cases I;have:=OT.funM o v fp g r (d.up x.f x.h);subst this;have(fp',E,mem,nd):=F.back C H2 o2 f2 (aq.refl _) kk new
 have c:∀a∈fp',a∈fp\/_:=λa ha=>by
  rcases mem a ha with y |⟨y,_⟩
  .rcases B a y with w |w
   .show .inl (F.sub a w)
   .show .inr w
  .show .inl y
 show m.chgX x es q (λb u j=>?_) (v,fp',rfl,E,nd M λa ha j=>?_,λa ha=>?_) λa p=>?_
 .by_cases h:b∈f1
  .show .inl (fp,d,F.sub b h)
  .show .inr (kk b u j h)
 .rcases B a ha with y |y
  .show y
  .have(u,e,_):=OT.memM o v fp d a j;rw[y.1]at e
   nomatch e
 .rcases c a ha with y |y
  .have(u,e,L):=OT.memM o v fp d a y;show((z a y).1,?_);rw[x.n a u e L];show(z a y).2
  .show(m.ext.h.free y.1,y.2)
 .have(A,l,ha):=p;have:=OT.funM _ _ _ _ E l;subst this
  rcases c a ha with y |y
  .show .inl (fp,d,y)
  .show .inr y.1
def au.was{o:O}(g:au G Hf0 H0 Hf H J U)(es:U[i]?=aa (.deep o))(d:J[i]?=aa (aa v))(x:Ext Hf H C H1)(r:OT G C H1 o v fp):∀a∈fp,H a≠ac:=λa ha=>by
 have(l,b,e,c,n,z):=g.at' i _ _ d es;cases e;have:=OT.funM o v fp b r (c.up x.f x.h);subst this;have(u,j,_):=OT.memM o v fp c a ha
 grind
abbrev xZ:D->Option Key
 |.int i=>aa (.inl i)
 |.bl b=>aa (.inl (cond b 1 0))
 |.str x=>aa (.inr x)
 | _=>ac
abbrev p9:LD->Option (List Key)
 | []=>aa []
 |d::E=>(xZ d).bind λk=>(p9 E).map (k::·)
abbrev k5:D->Option (List Key)
 |.tup E=>p9 E
 | _=>ac
def Np{k:Key}(h:xZ d=aa k)(r:Rep G H d v):kR k v:=by
 cases d with
 |int i=>cases h;show .inl r
 |bl b=>cases h;show .inr (b,r,rfl)
 |str x=>cases h;show r
 | _=>nomatch h
def EW{G:Gc}{H:Hp}:∀{E:LD} {ks:List Key} {vs:LVv},p9 E=aa ks->ak G H E vs->KRs ks vs
 | [],_,_,h,r=>by cases h;cases (r);show .nil
 |d::E,ks,_,h,q4_=>by
  have(v,r,e,c,f):=q4_;subst e;dsimp only[p9]at h
  cases a:xZ d with
  |none=>rw[a]at h;cases h
  |some k=>
   simp only[a,aw]at h
   cases b:p9 E with
   |none=>rw[b]at h;cases h
   |some g=>rw[b]at h;cases h;show .cons (Np a c) (EW b f)
variable{k:List Key}
def ug(h:k5 d=aa k)(r:Rep G H d v):∃b,v=.ref b/\eT H b k:=by
 cases d with
 |tup E=>have(a,vs,e,q,rs):=r;show(a,e,vs,q,EW h rs)
 | _=>nomatch h
abbrev aX{a:Type}[DecidableEq a](f:a):List a->Option Nat
 | []=>ac
 |n::ns=>if n=f then aa 0 else (aX f ns).map (· + 1)
def x6{a:Type}[DecidableEq a]{f:a}:∀{ns:List a} {k:Nat},aX f ns=aa k->k<ns.length
 | [],_,e=>by cases e
 |n::ns,k,e=>by
  dsimp only[aX]at e;split at e
  .cases e;show oV _
  .cases h:aX f ns with
   |none=>rw[h]at e;cases e
   |some j=>rw[h]at e;cases e;show Nat.succ_lt_succ (x6 h)
def EX{a:Type}[DecidableEq a]{b:Type}{f:a}:∀{ns:List a} {k:Nat} (vs:List b),aX f ns=aa k->(ns.zip vs).lookup f=vs[k]?
 | [],_,_,e=>by cases e
 | _::_,_,[],_=>by rfl
 |n::ns,k,v::vs,e=>by
  dsimp only[aX]at e;simp only[eP,ls];split at e
  .rename_i h;subst h;cases e;rw[beq_self_eq_true];rfl
  .rename_i h;simp only[beq_eq_false_iff_ne.mpr (fN h)]
   cases h':aX f ns with
   |none=>rw[h']at e;cases e
   |some j=>
    rw[h']at e;cases e;show EX vs h'
def qb{a:Type}[DecidableEq a]{f:a}:∀{ns:List a} {k:Nat} (vs:LVv),aX f ns=aa k->cC (ns.zip vs) f=vs[k]?
 | [],_,_,e=>by cases e
 | _::_,_,[],_=>by rfl
 |n::ns,k,v::vs,e=>by
  dsimp only[aX]at e;simp only[eP];split at e
  .rename_i h;cases e;rw[pH h];rfl
  .rename_i h;rw[nv h]
   cases h':aX f ns with
   |none=>rw[h']at e;cases e
   |some j=>
    rw[h']at e;cases e;show qb vs h'
def qc{a:Type}[DecidableEq a]{f:a}:∀{ns:List a} (vs:LVv),aX f ns=ac->cC (ns.zip vs) f=ac
 | [],_,_=>rfl
 | _::_,[],_=>by rfl
 |n::ns,v::vs,e=>by
  dsimp only[aX]at e;simp only[eP];split at e
  .cases e
  .rename_i h;rw[nv h]
   cases h':aX f ns with
   |none=>show qc vs h'
   |some j=>rw[h']at e;cases e
def Foc.up{o o1:O}(F:Foc G Hf H o v fp o1 v1 f1 R)(f:aq Hf C)(s:aq H H'):Foc G C H' o v fp o1 v1 f1 R:=
 (F.r.up f s,F.n,F.sub,λcc H2 o2 f2 s2 k h=>F.back cc H2 o2 f2 (f.trans s2) (λb u e a=>k b u (s b u e) a) h)
nonrec def Xp:=LS->Option (O×(O->O))
inductive tDP(G:Gc)(i:Nat)(f:Xp)(J:St)(H:Hp)(Q:VK):Prop
 |mk:∀Hf0 H0 Hf U o1 R,au G Hf0 H0 Hf H J U->f U=aa (o1,R,)->(∀o v fp v1 f1 C H',U[i]?=aa (.deep o)->J[i]?=aa (aa v)->Ext Hf H C H'->OT G C H' o v fp->Foc G C H' o v fp o1 v1 f1 R->Q v1 H')->tDP G i f J H Q
def DP(c:Str->Addr)(X:Cx)(e:Expr)(i:Nat)(f:Xp):Prop:=PE X e (tDP (Gx c X) i f)
def aZ(i:Nat):Xp:=λU=>match U[i]? with
 |some (.deep (.at l o))=>aa (o,.at l,)
 |some (.deep o)=>aa (o,id,)
 | _=>ac
abbrev O.fld(cn f:Str):O->Option (O×(O->O))
 |.ins c ns os=>if c=cn then (aX f ns).bind λk=>(os[k]?).map λo1=>(o1,λx=>.ins c ns (os.set k x),) else ac
 | _=>ac
def bq(cn f:Str)(p:Xp):Xp:=λU=>(p U).bind λq=>(q.1.fld cn f).map λr=>(r.1,λx=>q.2 (r.2 x),)
abbrev O.key(k:List Key):O->Option (O×(O->O))
 |.dT ks os=>(aX k ks).bind λj=>(os[j]?).map λo1=>(o1,λx=>.dT ks (os.set j x),)
 | _=>ac
def jR(p:Xp)(g:MF1):Xp:=λU=>(p U).bind λq=>(g U).bind λd=>(k5 d).bind λk=>(q.1.key k).map λr=>(r.1,λx=>q.2 (r.2 x),)
abbrev fzs:List O->OLD
 | []=>aa []
 |.fz d::os=>(fzs os).map (d::·)
 | _=>ac
def x8:∀(E:LD),fzs (E.map .fz)=aa E
 | []=>rfl
 |d::E=>by rw[bP,fzs,x8 E];rfl
def EY:∀{os:List O} {E:LD},fzs os=aa E->os=E.map .fz
 | [],_,h=>by cases h;rfl
 |o::os,E,h=>by
  cases o with
  |fz d=>
   simp only[fzs]at h
   cases e:fzs os with
   |none=>rw[e]at h;cases h
   |some a=>rw[e]at h;cases h;rw[bP,<- EY e]
  | _=>cases h
def OTs.unfz{G:Gc}{Hf H:Hp}:∀{E:LD} {vs:LVv} {fs:LAd},OTs G Hf H (E.map .fz) vs fs->ak G Hf E vs/\fs=[]
 | [],_,_,h=>(h.1,h.2)
 |d::E,_,_,q3_=>by
  have(v,r,f1,f2,e,c,g,f):=q3_;have(a,b):=OTs.unfz g;show((v,r,e,c.1,a),?_);rw[f,c.2,b];rfl
def pD(p:Xp)(U:LS):OD:=(p U).bind λq=>match q.1 with
 |.fz d=>aa d
 | _=>ac
def pB(p:Xp)(U:LS):OD:=(p U).bind λq=>if q.1.kn then aa q.1.toD else ac
abbrev O.items:O->OLD
 |.lst os=>fzs os
 | _=>ac
def pC(p:Xp)(U:LS):OLD:=(p U).bind λq=>q.1.items
inductive tDL(G:Gc)(f:MF2)(J:St)(H:Hp)(Q:VK):Prop
 |mk:∀Hf0 H0 Hf U E,au G Hf0 H0 Hf H J U->f U=aa E->(∀a vs C H',Ext Hf H C H'->H' a=aa (.lst vs)->ak G C E vs->Q (.ref a) H')->tDL G f J H Q
def DL(c:Str->Addr)(X:Cx)(e:Expr)(f:MF2):Prop:=PE X e (tDL (Gx c X) f)
def a8{c d:Type}{a:Option c}{f:c->Option d}{b:d}(h:a.bind f=aa b):∃x,a=aa x/\f x=aa b:=by
 cases a with
 |none=>nomatch h
 |some x=>show(x,rfl,h)
def di{c d:Type}{a:Option c}{f:c->d}{b:d}(h:a.map f=aa b):∃x,a=aa x/\f x=b:=by simp_all
def eK(h:PE X e (cL i)):DP c X e i (aZ i):=PE.imp h λJ H Q j=>by
 have(Hf0,H0,Hf,U,o1,R,d,a,g):=j
 have main:∀o,U[i]?=aa (.deep o)->(∀v fp,OT _ Hf H o v fp->fp.Nodup->Foc _ Hf H o v fp o1 v fp R)->cL i J H Q:=λo es F=>by
  have(v,b,u,fp,f,r,n,z):=d.slot es;subst f;show(u,b,g o u fp u fp Hf H es b (Ext.refl d.sub) r (F u fp r n))
 unfold aZ at a;split at a
 .rename_i l o es;cases a;show main _ es λv fp r n=>Foc.at r n
 .rename_i o _ es;cases a;show main _ es λv fp r n=>Foc.refl r n
 .grind
variable{o2:O}
def Nq{cn f:Str}(h:o1.fld cn f=aa (o2,R,)):∃ns os k,o1=.ins cn ns os/\aX f ns=aa k/\os[k]?=aa o2/\R=λx=>.ins cn ns (os.set k x):=by
 cases o1 with
 |ins c ns os=>
  replace h:(if c=cn then (aX f ns).bind λk=>(os[k]?).map λo1=>_ else ac)=aa _:=h;split at h
  .rename_i d;subst d;have(k,a,h):=a8 h;have(o,b,h):=di h;cases h;show(ns,os,k,rfl,a,b,rfl)
  .nomatch h
 | _=>nomatch h
def Foc.fld{o o1 o2:O}{cn f:Str}(F:Foc G Hf H o v fp o1 v1 f1 R)(h:o1.fld cn f=aa (o2,R',)):∃(a dx:Addr) (ns:LSt) (vs:LVv) (b:V) (f2:LAd),v1=.ref a/\H a=aa (.ins (G.cl cn) dx (ns.zip vs))/\(ns.zip vs).lookup f=aa b/\Foc G Hf H o v fp o2 b f2 (λx=>R (R' x)):=by
 have(ns,os,k,rfl,g,i,rfl):=Nq h;have(a,dx,vs,fs,rfl,ha,hz,rs,rfl):=F.r;have(b,f2,j,e):=Foc.root (W:=.ins cn ns) ha rfl rs F.n i λC H' l c d r _=>(a,dx,vs,c,rfl,d,hz,r,rfl);show(a,dx,ns,vs,b,f2,rfl,ha,(EX vs g).trans j,F.trans e)
variable{p:Xp}
def e7{o:Expr}(cn:Str)(m:Cls X.K (c cn))(hn:c4 X.K (c cn) fl)(n:DP c X o i p)(l:autoParam (lB o fl X.env (eval o X.env)=eval o X.env) Zb):DP c X (.Attribute o fl pos) i (bq cn fl p):=PE.imp (Cs n l) λJ H Q w=>by
 have(Hf0,H0,Hf,U,o2,R,y,b,u):=w;have(q,f,b):=a8 b;have(r,g,b):=di b;cases b;show(Hf0,H0,Hf,U,q.1,q.2,y,f,λt v fp v1 f1 C H' es j x rt F=>?_);have(a,dx,ns,vs,d,f2,h,ha,el,e):=F.fld g;show(a,_,dx,_,d,h,ha,m,hn,el,u t v fp d f2 C H' es j x rt e)
def eT.same(h:eT H b k)(s:aq H H'):eT H' b k:=h.up λb B e=>s _ _ e
def Nr(h:o1.key k=aa (o2,R,)):∃ks os j,o1=.dT ks os/\aX k ks=aa j/\os[j]?=aa o2/\R=λx=>.dT ks (os.set j x):=by
 cases o1 with
 |dT ks os=>
  have(j,a,h):=a8 h;have(o,b,h):=di h;cases h
  show(ks,os,j,rfl,a,b,rfl)
 | _=>nomatch h
def Foc.key{o o1 o2:O}(F:Foc G Hf H o v fp o1 v1 f1 R)(h:o1.key k=aa (o2,R',)):∃a kvs b f2,v1=.ref a/\H a=aa (.dT kvs)/\cC kvs k=aa b/\Foc G Hf H o v fp o2 b f2 (λx=>R (R' x)):=by
 have(ks,os,j,rfl,f,g,rfl):=Nr h;have(a,vs,fs,rfl,ha,hz,rs,rfl):=F.r;have(b,f2,i,e):=Foc.root (W:=.dT ks) ha rfl rs F.n g λC H' l c d r _=>(a,vs,c,rfl,d,hz,r,rfl);show(a,ks.zip vs,b,f2,rfl,ha,(qb vs f).trans i,F.trans e)
def EZ{o:Expr}{g:MF1}(T:X.A.units+1<cLine)(M:DP c X o i p)(L:DE c X e g)(N:autoParam (sD e) Zj):DP c X (.Subscript o e pos) i (jR p g):=PE.imp (CS T M L N) λJ H Q q_=>by
 have(Hf0,H0,Hf,U,o2,R,m,j,Y):=q_;have(q,w,j):=a8 j;have(d,z,j):=a8 j;have(k,B,j):=a8 j;have(r,C,j):=di j;cases j;show(Hf0,H0,Hf,U,q.1,q.2,m,w,λt v fp v1 f1 cm H1 es I x rt F=>(Hf0,H0,cm,U,d,m.step x,z,λy cc H2 l r2=>?_));have(b,G,tk):=ug B r2;have(a,kvs,n,f2,E,ha,el,u):=(F.up l.f l.h).key C;subst G;show(a,n,E,?_,Y t v fp n f2 cc H2 es I (x.trans l) (rt.up l.f l.h) u);rw[<- el];show fV.t ha (tk.same l.s)
def Nt(h:DP c X e i p):DE c X e (pD p):=PE.imp h λJ H Q j=>by
 have(Hf0,H0,Hf,U,d,l,a,g):=j;have(q,f,a):=a8 a;show(Hf0,H0,Hf,U,q.1,q.2,l,f,λt v fp v1 f1 cm H1 es m x rt F=>?_)
 cases b:q.1 with
 |fz d'=>rw[b]at a;cases a;have r:=F.r;rw[b]at r;show g _ _ _ x r.1
 | _=>simp only[b]at a;nomatch a
def E1(h:DP c X e i p):DB c X e (pB p):=PE.imp h λJ H Q j=>by
 have(Hf0,H0,Hf,U,d,l,a,g):=j;have(q,b,a):=a8 a;split at a
 .rename_i f;cases a;show(Hf0,H0,Hf,U,q.1,q.2,l,b,λt v fp v1 f1 cm H1 es m x rt F=>g _ _ _ x (F.r.rep x.s f))
 .grind
def n9(h:o1.items=aa E):o1=.lst (E.map .fz):=by
 cases o1 with
 |lst os=>rw[EY h]
 | _=>nomatch h
def E2(h:DP c X e i p):DL c X e (pC p):=PE.imp h λJ H Q g=>by
 have(Hf0,H0,Hf,U,E,j,b,f):=g;have(q,d,b):=a8 b;show(Hf0,H0,Hf,U,q.1,q.2,j,d,λt v fp v1 f1 cm H1 es l x rt F=>?_);have r:=F.r;rw[n9 b]at r;have(a,vs,fs,rfl,ha,rs,_):=r;show f a vs cm H1 x ha rs.unfz.1
def DL.dc{f:MF2}(h:DL c X e f):DC c X e f:=PE.imp h λJ H Q d=>by
 have(Hf0,H0,Hf,U,E,st,a,k):=d;show(Hf0,H0,Hf,U,E,st,a,λl vs C H' x b r=>k l vs C H' x (.inl (SqL.of b)) r)
def DL.db{f:MF2}(h:DL c X e f):DB c X e (aE f):=PE.imp h λJ H Q i=>by
 have(Hf0,H0,Hf,U,d,st,a,k):=i;have(E,b,a):=di a;subst a;show(Hf0,H0,Hf,U,E,st,b,λl vs C H' x g r=>k _ C H' x (l,vs,rfl,g,r.up x.s))
abbrev O.got(k:List Key):O->OLD
 |.dT ks os=>match aX k ks with
  |some j=>(os[j]?).bind O.items
  |none=>aa []
 | _=>ac
def gZ(p:Xp)(g:MF1)(U:LS):OLD:=(p U).bind λq=>(g U).bind λd=>(k5 d).bind λk=>q.1.got k
section
variable{o:Expr}
def x9{g:MF1}{w:Pos}(hu:X.A.units+1<cLine)(ho:DP c X o i p)(hk:DE c X e g)(m:M2 X o "get" apos e (.List [] w) pos):DL c X (.Call (.Attribute o "get" apos) [e,.List [] w] [] pos) (gZ p g):=PE.imp (CW hu ho hk (px dk) m) λJ H Q q_=>by
 have(Hf0,H0,Hf,U,E,so,u,kq):=q_;have(q,e1,u):=a8 u;have(d,e2,u):=a8 u;have(k,e3,u):=a8 u;show(Hf0,H0,Hf,U,q.1,q.2,so,e1,λt v fp v1 f1 cm H1 es ev x rt F=>?_)
 cases Y:q.1 with
 |dT ks os=>
  rw[Y]at u F;have(a,vs,fs,rfl,ha,hz,rs,rfl):=F.r;show(a,rfl,.inr (_,.inl ha),Hf0,H0,cm,U,d,so.step x,e2,λy cc H2 z I=>(cK _,λl hl=>?_));have(b,eb,tk):=ug e3 I;subst eb;have B:Ext cc H2 cc (upd H2 l (.lst [])):=Ext.tmp z.s hl;show(cC _ k,fV.t (B.h _ _ (z.h _ _ ha)) (tk.same (z.s.trans B.h)),?_)
  replace u:(match aX k ks with |some j=>(os[j]?).bind O.items |none=>aa [])=aa E:=u
  cases G:aX k ks with
  |none=>
   rw[G]at u;cases u;rw[qc vs G]
   show kq l [] cc _ ((x.trans z).trans B) a9 .nil
  |some j=>
   rw[G]at u;have(o2,eo,u):=a8 u;have(v2,f2,L,F2):=Foc.root (o:=.dT ks os) (W:=.dT ks) ha rfl rs F.n eo λC H' os' M N r _=>(a,vs,M,rfl,N,hz,r,rfl);have I:=(F2.up (z.f.trans B.f) (z.h.trans B.h)).r;rw[n9 u]at I;have(b2,ws,fs2,rfl,hb,T,_):=I;rw[qb vs G,L]
   show kq b2 ws cc _ ((x.trans z).trans B) hb T.unfz.1
 | _=>rw[Y]at u;nomatch u
end
def OTs.stay{c:HO}(r:OTs G Hf H os us fs)(d:H l=aa c)(e:dY c=ae)(hn:l∉fs)(f:aq Hf C)(s:∀b u,b≠l->H b=aa u->H' b=aa u):OTs G C H' os us fs:=
 OTs.frameM f os us fs r λb u a hm=>s b u (λz=>by
  subst z;rw[d]at a;cases a
  rcases hm with t |t
  .grind
  .show hn t) a
def jS(i:Nat)(p:Xp)(f:MF1)(U:LS):Option Fl:=(p U).bind λq=>(f U).bind λd=>(q.1.appd d).map λo2=>.nx (U.set i (.deep (q.2 o2)))
abbrev O.extd(E:LD):O->Option O
 |.lst os=>if os.length+E.length<=16777216 then aa (.lst (os++E.map .fz)) else ac
 | _=>ac
def oa(i:Nat)(p:Xp)(f:MF2)(U:LS):Option Fl:=(p U).bind λq=>(f U).bind λE=>(q.1.extd E).map λo2=>.nx (U.set i (.deep (q.2 o2)))
abbrev O.pop0:O->Option (D×O)
 |.lst (.fz d::os)=>aa (d,.lst os,)
 | _=>ac
def qd(i:Nat)(p:Xp):Xe:=λU=>(p U).bind λq=>q.1.pop0.map λr=>(r.1,U.set i (.deep (q.2 r.2)),)
def O.setAt(k:D)(d:D)(o:O):Option O:=match k with
 |.int n=>o.items.bind λE=>(ixN E.length n).map λj=>.lst ((E.set j d).map .fz)
 | _=>ac
def oe(i:Nat)(p:Xp)(fk fv:MF1)(U:LS):Option Fl:=(fv U).bind λd=>(p U).bind λq=>(fk U).bind λx=>(q.1.setAt x d).map λo2=>.nx (U.set i (.deep (q.2 o2)))
def O.putNew(o x:O)(k:List Key):Option O:=match o with
 |.dT ks os=>if aX k ks=ac/\ks.length<16777216 then aa (.dT (ks++[k]) (os++[x])) else ac
 | _=>ac
def oh(i:Nat)(p:Xp)(fk fv:MF1)(U:LS):Option Fl:=(fv U).bind λd=>(p U).bind λq=>(fk U).bind λx=>(k5 x).bind λk=>(q.1.putNew (.fz d) k).map λo2=>.nx (U.set i (.deep (q.2 o2)))
def E3{f:MF1}(h:PS X st (jD (tBM X.K "list" ss (tDP (Gx c X) i p) (kA (tD (Gx c X) f) iK)))):DS c X st (jS i p f):=PS.imp h λS5 J H M=>by
 have(Hf0,H0,Hf,U,o,y,j,I):=M;have(q,B,j):=a8 j;have(d,C,j):=a8 j;have(o2,E,j):=di j;subst j;show(Hf0,H0,Hf,U,q.1,q.2,y,B,λt v fp v1 f1 cm H1 es G x rt F=>?_);have(l,us,el,A,hz,L,next):=EL E F.r;subst el;show(.inl (rfl,_,SqL.of A),Hf0,H0,cm,U,d,y.step x,C,λw cc H2 g N=>?_);show(l,us,w,rfl,rfl,g.h _ _ A,by rw[df];show hz,I J cc _ (x.trans g).f ?_)
 show y.foc es G (rt.up g.f g.h) (x.trans g) (F.up g.f g.h) (λb u m hn=>by rw[aK (λz=>hn (by rw[z];show L))];show m)
  (next cc _ w F.n g.f (λb u m e=>by rw[aK m];show g.h b u e) a9 N) F.n λa ha=>.inl ha
def Nu{f:MF2}(h:PS X st (jD (tBM X.K "list" wA (tDP (Gx c X) i p) (kA (tDL (Gx c X) f) iK)))):DS c X st (oa i p f):=PS.imp h λS5 J H Q=>by
 have(Hf0,H0,Hf,U,o,y,j,N):=Q;have(q,I,j):=a8 j;have(E,L,j):=a8 j;have(o2,g,j):=di j;subst j;show(Hf0,H0,Hf,U,q.1,q.2,y,I,λt v fp v1 f1 cm H1 es M x rt F=>?_)
 cases B:q.1 with
 |lst os=>
  rw[B]at g F;replace g:(if os.length+E.length<=16777216 then aa _ else ac)=aa o2:=g;split at g
  .rename_i hz;cases g;have(l,us,fs,rfl,w,rs,rfl):=F.r;show(.inl (rfl,_,SqL.of w),Hf0,H0,cm,U,E,y.step x,L,λb A cc H2 d m G=>?_);show(l,b,us,A,rfl,rfl,(d.h _ _ w),m,by rw[df,<- rs.length,<- G.length];show hz,N J cc _ (x.trans d).f ?_);have o1:OTs _ cc (upd H2 l (.lst (us++A))) os us fs:=rs.stay w rfl ((bW.mp F.n).1) d.f λb u m e=>by rw[aK m];show d.h b u e
   have C:=o1.append (OTs.fz G);rw[bB]at C
   show y.foc es M (rt.up d.f d.h) (x.trans d) (F.up d.f d.h) (λb u m hn=>by rw[aK (λz=>hn (by rw[z];show aB))];show m)
    (l,us++A,fs,rfl,a9,C,rfl) F.n λa ha=>.inl ha
  .nomatch g
 | _=>rw[B]at g;nomatch g
def Nv(h:PE X e (tBM X.K "list" CL (tDP (Gx c X) i p) (kA (tC (.int 0)) iK))):DX c X e (qd i p):=PE.imp h λJ H Q q_=>by
 have(Hf0,H0,Hf,U,d,ρ',I,m,T):=q_;have(q,L,m):=a8 m;have(r,j,m):=di m;cases m;show(Hf0,H0,Hf,U,q.1,q.2,I,L,λt v fp v1 f1 cm H1 es M x rt F=>?_)
 cases G:q.1 with
 |lst os=>
  rw[G]at j F
  cases os with
  |nil=>nomatch j
  |cons o1 os=>
   cases o1 with
   |fz d=>
    cases j;have(l,us,fs,rfl,A,rs,rfl):=F.r;have(w,g,g1,E,rfl,C,B,rfl):=rs;have(rd,rfl):=C;show(.inl (rfl,_,SqL.of A),l,w::g,0,0,w,rfl,rfl,A,by decide,by decide,?_,rfl,?_)
    .have N:(decide ((0:Int)<=0) && decide (0<((w::g).length:Int)))=ab:=by simp
     unfold seqIndex?;rw[if_neg (show ¬(0:Int)<0 by decide),if_pos N];rfl
    .have Y:=(bW.mp F.n).1;show T w cm _ x.f ?_ rd;have o1:OTs _ cm (upd H1 l (.lst g)) os g E:=B.stay A rfl Y (aq.refl _) λb u y e=>by rw[aK y];show e
     show I.foc es M rt x F (λb u y hn=>by rw[aK (λz=>hn (by rw[z];show aB))];show y)
      (l,g,E,rfl,a9,o1,rfl) F.n λa ha=>.inl ha
   | _=>nomatch j
 | _=>rw[G]at j;nomatch j
def Nw(hp:PS X st (hV (tD (Gx c X) fv) (vU (tDP (Gx c X) i p) (tD (Gx c X) fk) ww))):DS c X st (oe i p fk fv):=PS.imp hp λS5 J H q_=>by
 have(Hf0,H0,Hf,U,o,B,e,kq):=q_;have(d,M,e):=a8 e;have(q,N,e):=a8 e;have(k,Q,e):=a8 e;have(o2,m,e):=di e;subst e;show(Hf0,H0,Hf,U,d,B,M,λw cm H1 C r1=>(Hf0,H0,cm,U,q.1,q.2,B.step C,N,λt v fp v1 f1 cc H2 es ev G rt F=>(Hf0,H0,cc,U,k,(B.step C).step G,Q,λy x L g r3=>?_)))
 cases k with
 |int n=>
  have(E,T,m):=a8 (m);have(j,Y,m):=di m;subst m;have A:=F.up g.f g.h;rw[n9 T]at A;have(l,us,fs,rfl,ql,rs,e):=A.r;have(I,rfl):=rs.unfz;show(l,us,n,j,rfl,r3,ql,by rw[<- I.length];show Y,kq J x _ ((C.trans G).trans g).f ?_);have nf:OTs _ x (upd L l (.lst (us.set j w))) _ _ []:=OTs.fz (I.set j (r1.up (G.f.trans g.f)))
  have:=(B.step C).foc es ev (rt.up g.f g.h) (G.trans g) A (λb u hb hn=>by rw[aK (λz=>hn (by rw[e,z];show aB))];show hb)
   (o2:=.lst _) (l,us.set j w,[],rfl,a9,nf,rfl) (by rw[<- e];show A.n) λa ha=>.inl (by rw[e];show ha)
  show this
 | _=>nomatch m
def Nx{a:Type}[DecidableEq a]{k:a}{ks:List a}(hz:ks.length=vs.length)(h:aX k ks=ac):dn (ks.zip vs) k v=(ks++[k]).zip (vs++[v]):=by
 unfold dn;rw[sA,qc vs h,if_neg (by simp),zip_append hz];rfl
def E4{ks:List (List Key)}{x:O}{g:LAd}{w:V}(r:OT G Hf H (.dT ks os) (.ref l) f1)(n:f1.Nodup)(a:aX k ks=ac)(f:aq Hf C)(s:∀b u,b≠l->H b=aa u->H' b=aa u):
  ∃kvs,H l=aa (.dT kvs)/\kvs.length=ks.length/\cC kvs k=ac/\l∈f1/\(H' l=aa (.dT (dn kvs k w))->OT G C H' x w g->OT G C H' (.dT (ks++[k]) (os++[x])) (.ref l) (f1++g)):=by
 have(h,vs,fs,el,c,hz,rs,rfl):=r;cases el;show(ks.zip vs,c,by rw[length_zip];lia,qc vs a,aB,λd e=>(l,vs++[w],fs++g,rfl,?_,by simp[hz],((rs.stay c rfl (bW.mp n).1 f s).append (.one e)),rfl));rw[d,Nx hz a]
def Ny{x:O}(h:o1.putNew x k=aa o2):∃ks os,o1=.dT ks os/\aX k ks=ac/\ks.length<16777216/\o2=.dT (ks++[k]) (os++[x]):=by
 cases o1 with
 |dT ks os=>
  replace h:(if aX k ks=ac/\ks.length<16777216 then aa _ else ac)=aa o2:=h;split at h
  .rename_i a;cases h;show(ks,os,rfl,a.1,a.2,rfl)
  .nomatch h
 | _=>nomatch h
def Nz(hp:PS X st (wG (tDP (Gx c X) i p) (tD (Gx c X) fk) (tD (Gx c X) fv))):DS c X st (oh i p fk fv):=PS.imp hp λS5 J H q_=>by
 have(Hf0,H0,Hf,U,o,A,g,kq):=q_;have(d,Q,g):=a8 g;have(q,T,g):=a8 g;have(y,Y,g):=a8 g;have(k,e5,g):=a8 g;have(o2,e4,g):=di g;subst g;show(Hf0,H0,Hf,U,d,A,Q,λw cm H1 B r1=>(Hf0,H0,cm,U,q.1,q.2,A.step B,T,λt v fp v1 f1 cc H2 es ev C rt F=>(Hf0,H0,cc,U,y,(A.step B).step C,Y,λz E N j r3=>?_)));have(ks,os,h1,hk,L,rfl):=Ny e4;have m:=F.up j.f j.h;rw[h1]at m;have(b,rfl,tk):=ug e5 r3;have(l,vs,fs,rfl,M,hz,rs,g):=id m.r;have(kvs,x,I,hv,lm,nw):=E4 (H':=upd N l (.dT _)) m.r m.n hk (aq.refl _) λb u G e=>by rw[aK G];show e
 rw[M]at x;cases x;show(l,_,rfl,kC.t M (tk.same j.s) (by rw[df,I];show L),kq J E _ ((B.trans C).trans j).f ?_)
 show(A.step B).foc es ev (rt.up j.f j.h) (C.trans j) m (λb u G hn=>by rw[aK (λz=>hn (by rw[z];show lm))];show G)
  (nw a9 (r1.up (C.f.trans j.f),rfl)) (by rw[bB];show m.n) λa ha=>.inl (by rw[bB]at ha;show ha)
section
variable{prog:bX}{w:World}{K:Type}[DecidableEq K]{kn:HeapKind prog w K}{A:b7}{S5:PRS}{s:ah}
def NA{d b:Addr}{B:List (K×Addr×Value)}{k:K}{dv:Value}{Q:PRS}(i:kn.room A)(f:kn.is s.heap k b)(hm:s.heap.DictOfH kn d B)(hz:B.length<=aT)
 (m:∀q,atKey B k=aa q->Q q.2 {s with toks:=s.toks+kn.draws k})
 (n:atKey B k=ac->∀h',h'.DictOfH kn d (storedH B k b dv)->gn d s.heap h'->Q dv {s with heap:=h',toks:=s.toks+kn.draws k}):
  wpAny (model prog w) A (dictSetDefault d (.ref b) dv) Q S5 s:=by
 have(u,l,ep,go,p,a,el,all,nd):=hm;unfold dictSetDefault
 try with_reducible show jB ?_
 show ap (kn.pyHash i f ?_);show ap (wpAny_dictFind_heap i f go a el all nd (λno=>?_) λj q h=>?_)
 .have r:=not_mem_keys_of_get no;have z:=atKey_none_of_get no
  show ap (lD (ap (wpAny_updateDictKeys (hz:=by have e:=size_of_entries el; lia) go a (aI (n z _ (_,_,ep + 1,rW _ go (Obj.isFreed_of_dict (Obj.data_mapDictKeys a _)),
   p.mapDictKeys _,Obj.data_mapDictKeys a _,?_,?_,?_) (o8 ..))))))
  .rw[storedH_new z];simp[el,entryOfKey]
  .rw[storedH_new z];intro y c
   rcases bI.mp c with c |c
   .show kn.keeps (all y c) go a (o8 ..)
   .rw[cB.mp c];show kn.keeps f go a (o8 ..)
  .rw[storedH_new z,bn,fM];show(nd,bW.mpr (bO,fc),λy c v g e=>?_);rw[cB.mp g]at e;show r ((show y=k from e)▸c)
 .show ap (wpAny_dictEntries go a ?_);rw[entry_at el j,h];show ap (lD (aI (m q (atKey_of_get nd h))))
def NB(kn:HeapKind prog w K)(d b:Addr)(hd:(d==gO)=ae)(dv:Value):
  MeetsIn prog w (Builtin.«dict.setdefault» ([.ref d,.ref b,dv],[])) (λA R s=>kn.room A.in1/\∃ k B,kn.is s.heap k b/\s.heap.DictOfH kn d B/\B.length<=aT /\
   (∀q,atKey B k=aa q->R (.ok (.ret q.2)) {s with toks:=s.toks+kn.draws k}) /\
   (atKey B k=ac->∀h',h'.DictOfH kn d (storedH B k b dv)->gn d s.heap h'->R (.ok (.ret dv)) {s with heap:=h',toks:=s.toks+kn.draws k})):=
 .of_wp λA R s j=>by
  have(i,k,B,g,hm,hz,e,f):=j;show ap ?_;show ap (wpAny_notOrdered_dict hm.typeIs ?_);show aI ?_;change wpAny _ _ (if _=ab then _ else _) _ _ s;rw[hd,if_neg (λz=>nomatch z)];show ap (NA i g hm hz (λq h=>aI (q.2,rfl,e q h)) λhn h' a c=>aI (dv,rfl,f hn h' a c))
end
variable{a:Addr}{z:V}{r:Value}{kvs:List (List Key×V)}
def NC{Q:PRS}(U:A.units+1<cLine)(I:Inv X M J H s)(e:H a=aa (.dT kvs))(n:eT H b k)(Y:aC z r)
 (E:∀v u s',cC kvs k=aa v->Inv X M J H s'->aC v u->Q u s')(G:cC kvs k=ac->kvs.length<aT/\∀s',Inv X M J (upd H a (.dT (dn kvs k z))) s'->Q r s'):
  wpAny (model X.prog X.w) A (call (.builtin "dict.setdefault") [.ref a,.ref b,r]) Q S5 s:=by
 have(L,hd,B,d,l):=CQ I.hok e;show call_meetsIn B2 l.typeIs PySem.F.entry_dict_setdefault (PySem.F.args_dict_setdefault_3 _ _ _) (NB _ a b hd r) (o7 U,k,B,nA I.hok n,l,by rw[<- nc d];show L,λq j=>?_,λhn h' h T=>?_)
 .have f:=d.val k;rw[j]at f
  cases hv:cC kvs k with
  |none=>rw[hv]at f;show f.elim
  |some v=>rw[hv]at f;show E v q.2 _ hv (I.tok _) f
 .have hv:cC kvs k=ac:=by
   have f:=d.val k;rw[hn]at f
   cases hv:cC kvs k with
   |none=>rfl
   |some v=>rw[hv]at f;show f.elim
  have(N,j):=G hv;have(q,es,ep,g,p,x,y,_,C):=h;have i:(dn kvs k z).length<=aT:=by have:=wE kvs k z;lia
  show j _ (wF I (by rw[e];show hU) T (q,g) (i,hd,_,(d.put k n Y).keeps λc ys m=>?_,q,es,ep,g,p,x,y,C));rw[aK (B8 m e (λz=>nomatch z))];show m
def E5(d ty e:TE):TE:=λJ H Q=>d J H λx H1=>∃a,x=.ref a/\IsD H1 a/\ty J H1 λy H2=>e J H2 λz c=>∃kvs k b,c a=aa (.dT kvs)/\y=.ref b/\eT c b k /\
 (∀v,cC kvs k=aa v->Q v c)/\(cC kvs k=ac->kvs.length<aT/\Q z (upd c a (.dT (dn kvs k z))))
variable{f:Expr}{td ty tx:TE}
def ND{o:Expr}(L:X.A.units+1<cLine)(G:PE X o td)(C:PE X e ty)(E:PE X f tx)(m:M2 X o "setdefault" apos e f cpos):PE X (.Call (.Attribute o "setdefault" apos) [e,f] [] cpos) (E5 td ty tx):=by
 intro M s J H Q I h;show wpAny_Call_method m.base m.few m.line PySem.F.plainAttrs_dict B2 PySem.F.type_dict_setdefault (thn (G M s J H _ I h) λu s1 Y=>?_);have(x,H1,j,rx,a,ex,d,N):=Y;subst ex;obtain rfl:u=fR a:=rx;have(t1,t2,_):=CV j d;show(t1,t2,?_);rw[m.trees];show rS rfl (vF (jb (thn (C M s1 J H1 _ j N) λiv s2 g=>?_)));have(y,H2,q,ry,T):=g;show jb (thn (E M s2 J H2 _ q T) λfv s3 i=>vG ?_);have(z,p,r,n,kvs,k,b,w,B,tk,U,l):=i;subst B;cases (ry);show NC L r w tk n (λv u s4 hv c ru=>(v,p,c,ru,U v hv)) λhn=>((l hn).1,λs4 c=>(z,_,c,n,(l hn).2))
def O.apdK(o:O)(k:List Key)(d:D):Option O:=match o with
 |.dT ks os=>match aX k ks with
  |some j=>(os[j]?).bind λo1=>(o1.appd d).map λo2=>.dT ks (os.set j o2)
  |none=>if ks.length<16777216 then aa (.dT (ks++[k]) (os++[.lst [.fz d]])) else ac
 | _=>ac
def oi(i j:Nat)(p:Xp)(g:MF1)(U:LS):Option Fl:=(p U).bind λq=>(g U).bind λy=>(k5 y).bind λk=>(af j U).bind λd=>(q.1.apdK k d).map λo2=>.nx (U.set i (.deep (q.2 o2)))
def NE{g:MF1}{jv:Nat}(h:PS X st (jD (tBM X.K "list" ss (E5 (tDP (Gx c X) i p) (tD (Gx c X) g) (wg iK)) (kA (cL jv) iK)))):DS c X st (oi i jv p g):=PS.imp h λS5 J H q_=>by
 have(Hf0,H0,Hf,U,o,N,B,kq):=q_;have(q,e1,B):=a8 B;have(y,e2,B):=a8 B;have(k,e3,B):=a8 B;have(d,e4,B):=a8 B;have(o2,m,B):=di B;subst B;have(w,ew,rw0):=N.imm (C5 e4);show(Hf0,H0,Hf,U,q.1,q.2,N,e1,λt v fp v1 f1 cm H1 es ev x rt F=>?_)
 cases h1:q.1 with
 |dT ks os=>
  rw[h1]at m F;have(a,vs,fs,rfl,ha,hz,rs,rfl):=id F.r;show(a,rfl,.inr (_,.inl ha),Hf0,H0,cm,U,y,N.step x,e2,λu cc H2 E r2=>(cK _,λl M=>?_));have(b,eb,tk):=ug e3 r2;subst eb;have x3:Ext cc H2 cc (upd H2 l (.lst [])):=Ext.tmp E.s M;have A:=E.trans x3;have xa:=x.trans A;show(ks.zip vs,k,b,(A.h _ _ ha),rfl,tk.same (E.s.trans x3.h),λv2 G=>?_,λhn=>?_)
  .cases I:aX k ks with
   |none=>rw[qc vs I]at G;nomatch G
   |some j=>
    replace m:(match aX k ks with |some j=>(os[j]?).bind λo1=>(o1.appd d).map λo2=>O.dT ks _ |none=>if ks.length<16777216 then aa _ else ac)=aa o2:=m
    simp only[I]at m;have(ok,eo,m):=a8 m;have(on,ea,m):=di m;subst m;have(v3,f3,ev3,F4):=Foc.root (W:=.dT ks) ha rfl rs F.n eo λC H' os' fs' ha' r _=>(a,vs,fs',rfl,ha',hz,r,rfl);rw[qb vs I,ev3]at G;cases G;have F5:=(F.trans F4).up A.f A.h;have(l2,us,el,ql,hz2,lm,next):=EL ea F5.r;subst el;show(.inl (rfl,_,SqL.of ql),w,ew,l2,us,w,rfl,rfl,ql,by rw[df];show hz2,kq J cc _ xa.f ?_)
    have:=N.foc es ev (rt.up A.f A.h) xa F5 (λb u L hn=>by rw[aK (λz=>hn (by rw[z];show lm))];show L)
     (next cc _ w F5.n (aq.refl _) (λb u L e=>by rw[aK L];show e) a9 (rw0.up xa.f)) F5.n λa ha=>.inl ha
    show this
  .cases I:aX k ks with
   |some j=>
    rw[qb vs I]at hn;have:=x6 I;rw[List.getElem?_eq_none_iff]at hn
    lia
   |none=>
    replace m:(match aX k ks with |some j=>(os[j]?).bind λo1=>(o1.appd d).map λo2=>O.dT ks _ |none=>if ks.length<16777216 then aa _ else ac)=aa o2:=m
    rw[I]at m;replace m:(if ks.length<16777216 then aa _ else ac)=aa o2:=m;split at m
    .rename_i hlt;cases m;have nal:=eU (E.h _ _ ha) M
     have lf:∀g,g∈fp->g≠l:=λg T z=>by
      have:=N.was es ev x rt g T;subst z;show this ((x.h.trans E.h).free M)
     have Y:upd (upd H2 l (.lst [])) a (.dT (dn (ks.zip vs) k (.ref l))) l=aa (.lst []):=by rw[aK nal.symm,a9]
     show(by rw[df,length_zip];lia,.inl (rfl,_,SqL.of Y),w,ew,l,[],w,rfl,rfl,Y,by rw[df];show oV _,kq J cc _ xa.f ?_);have xb:=x.trans E;have Q:=F.up E.f E.h
     have keep:∀b u,b≠a->H2 b=aa u->upd (upd (upd H2 l (.lst [])) a (.dT (dn (ks.zip vs) k (.ref l)))) l (.lst ([]++[w])) b=aa u:=λb u L e=>by
      have nb:=eU e M;rw[aK nb,aK L,aK nb];show e
     have(kvs,ql',hkv,hv,lm,nw):=E4 Q.r Q.n I (aq.refl _) keep;rw[E.h _ _ ha]at ql';cases ql';show N.foc es ev (rt.up E.f E.h) xb Q (λb u L hn=>keep b u (λz=>hn (by rw[z];show lm)) L) (nw (by rw[aK nal,a9]) (l,[w],[],rfl,a9,OTs.one (rw0.up xb.f,rfl),rfl)) (fM.mpr (Q.n,bW.mpr (bO,fc),λg T g' hg' z=>by rw[cB.mp hg']at z;show lf g (Q.sub g T) z)) λg T=>?_
     rcases bI.mp T with y |y
     .show .inl y
     .rw[cB.mp y];show .inr (xb.h.free M,xb.s.free M)
    .nomatch m
 | _=>rw[h1]at m;nomatch m
def E6{f:Str}{v:V}:∀{ns:LSt} {vs:LVv} {k:Nat},ns.length=vs.length->aX f ns=aa k->dh f v (ns.zip vs)=ns.zip (vs.set k v)
 | [],_,_,_,h=>by cases h
 | _::_,[],_,hl,_=>by cases hl
 |n::ns,u::vs,k,hl,h=>by
  dsimp only[aX]at h;rw[eP];dsimp only[dh];split at h
  .rename_i e;cases h;simp only[if_pos e,rq,eP]
  .rename_i e;rw[if_neg e]
   cases h':aX f ns with
   |none=>rw[h']at h;cases h
   |some j=>
    rw[h']at h;cases h;simp only[oT,eP,E6 (by simpa using hl) h']
def E7{f:Str}{v:V}:∀{ns:LSt} {vs:LVv},ns.length=vs.length->aX f ns=ac->dh f v (ns.zip vs)=(ns++[f]).zip (vs++[v])
 | [],[],_,_=>rfl
 | [],_::_,hl,_=>by cases hl
 | _::_,[],hl,_=>by cases hl
 |n::ns,u::vs,hl,h=>by
  dsimp only[aX]at h;rw[eP];dsimp only[dh];split at h
  .cases h
  .rename_i e;rw[if_neg e]
   cases h':aX f ns with
   |none=>simp only[cons_append,cons_append,eP,E7 (by simpa using hl) h']
   |some j=>rw[h']at h;nomatch h
def O.setF(o:O)(cn f:Str)(x:O):Option O:=match o with
 | .ins c ns os=>if c=cn/\ns.length < 1000 then (match aX f ns with
  |some k=>aa (.ins c ns (os.set k x))
  |none=>aa (.ins c (ns++[f]) (os++[x]))) else ac
 | _=>ac
def g4(i:Nat)(cn f:Str)(p:Xp)(g:LS->Option O)(U:LS):Option Fl:=(g U).bind λx=>(p U).bind λq=>(q.1.setF cn f x).map λo2=>.nx (U.set i (.deep (q.2 o2)))
def OTs.len{G:Gc}{Hf H:Hp}:∀{os:List O} {vs:LVv} {fs:LAd},OTs G Hf H os vs fs->os.length=vs.length
 | [],_,_,h=>by rw[h.1];rfl
 |o::os,_,_,(v,r,f1,f2,e,_,h2,_)=>by subst e;simp[OTs.len h2]
def E8{g:LS->Option O}(cn:Str)(hc:Cls X.K (c cn))(hn:c4 X.K (c cn) fl)(hp:PS X st (Cr X.K (tDP (Gx c X) i p) (tDZ (Gx c X) ab g) fl)):DS c X st (g4 i cn fl p g):=PS.imp hp λS5 J H q_=>by
 have(Hf0,H0,Hf,U,o,I,A,kq):=q_;have(x,e1,A):=a8 A;have(q,e2,A):=a8 A;have(o2,j,A):=di A;subst A;show(Hf0,H0,Hf,U,x,I,e1,λu gp cm H1 x1 rx l=>(Hf0,H0,cm,U,q.1,q.2,I.step x1,e2,λt v fp v1 f1 cc H2 es N M rt F=>?_));have m:=x1.trans M
 have hg:∀b∈gp,H b=ac/\cc b=ac:=λb d=>by
  show((l.2 b d).1,?_);have(w,hw,ht):=OT.memM x u gp rx b d;rw[M.n b w hw ht];show(l.2 b d).2
 have ng:=λb d hf=>(I.was es N m rt) b hf (hg b d).1
 cases h1:q.1 with
 |ins c' ns os=>
  rw[h1]at j F;replace j:(if c'=cn/\ns.length<1000 then _ else ac)=aa o2:=j;split at j
  .rename_i Y;have(rfl,hlt):=Y;have(a,dx,vs,fs,rfl,ha,hz,rs,rfl):=id F.r;have(L,E):=bW.mp F.n;have B:=λz=>ng a z (F.sub a aB);show(a,_,dx,ns.zip vs,rfl,ha,hc,hn,by rw[length_zip];lia,kq J cc _ m.f ?_);have keep:∀b w,b≠a->H2 b=aa w->upd H2 a (.ins (c c') dx (dh fl u (ns.zip vs))) b=aa w:=λb w d e=>by rw[aK d];show e
   have G:=(rx.up M.f M.h).frame (aq.refl _) λb w d hm=>keep b w (λz=>by
    subst z;rw[ha]at d;cases d
    rcases hm with hm |hm
    .nomatch hm
    .show B hm) d
   have kk:∀b w,H2 b=aa w->b∉a::fs->upd H2 a _ b=aa w:=λb w d hn=>keep b w (λz=>hn (by rw[z];show aB)) d
   cases C:aX fl ns with
   |some k=>
    rw[C]at j;cases j;have hkl:k<os.length:=by rw[rs.len,<- hz];show x6 C
    have(vk,fk,evk,_,_,sb,bk):=rs.foc E (cI hkl)
    have (Q,r',m',n'):=bk cc _ x u gp (aq.refl _) (λb w d hm _=>keep b w (λz=>by
     subst z;rw[ha]at d;cases d
     rcases hm with hm |hm
     .nomatch hm
     .show L hm) d) G
    show I.foc es N rt m F kk (a,dx,vs.set k u,Q,rfl,by rw[a9,E6 hz C],by simp[hz],r',rfl) (bW.mpr (λz=>?_,n' l.1 λb d hf=>absurd (F.sub b (be _ hf)) (ng b d))) λb d=>?_
    .rcases m' a z with y |⟨y,_⟩
     .show B y
     .show L y
    .rcases aW.mp d with z |z
     .rw[z];show .inl aB
     .rcases m' b z with y |⟨y,_⟩
      .show .inr (hg b y)
      .show .inl (be _ y)
   |none=>
    rw[C]at j;cases j;show I.foc es N rt m F kk (a,dx,vs++[u],fs++gp,rfl,by rw[a9,E7 hz C],by simp[hz],((rs.stay ha rfl L (aq.refl _) keep).append (.one G)),rfl) (bW.mpr (λz=>?_,fM.mpr (E,l.1,λb d b' T z=>by subst z;show ng b T (F.sub b (be _ d))))) λb d=>?_
    .rcases bI.mp z with y |y
     .show L y
     .show B y
    .rcases aW.mp d with z |z
     .rw[z];show .inl aB
     .rcases bI.mp z with y |y
      .show .inl (be _ y)
      .show .inr (hg b y)
  .nomatch j
 | _=>rw[h1]at j;nomatch j
nonrec def MTf:=Addr->LD->O->Option (O×D)
def jT(G:Gc)(n:Nat)(m:MTf):Sp:=λvs H Q _=>∃Hf E o o' d l fp b,vs=.ref l::b/\aq Hf H/\OT G Hf H o (.ref l) fp/\fp.Nodup/\(∀a∈fp,Hf a=ac)/\ak G Hf E b/\1+E.length=n/\m l E o=aa (o',d,) /\
 ∀v C H' fp',Ext Hf (gG H fp) C H'->OT G C H' o' (.ref l) fp'->fp'.Nodup->(∀a∈fp',gG H fp a=ac/\C a=ac)->Rep G C d v->Q v H'
def uh(N:Nat)(l:Addr)(E:LD)(o:O):LS:=(eE N (.non::E)).set 0 (.deep (.at l o))
open Classical in
def mG(l:Addr)(U:LS):Option O:=match (U[0]?:Option Sl)with
 |some (Sl.deep (.at l' o))=>if l'=l then aa o else ac
 | _=>ac
def NF{o:O}(h:mG l U=aa o):U[0]?=aa (.deep (.at l o)):=by
 unfold mG at h
 grind
def E9{o:O}(h:U[0]?=aa (.deep (.at l o))):mG l U=aa o:=by
 unfold mG;rw[h];show if_pos rfl
def gH(N:Nat)(F:MF3):MTf:=λl E o=>(F (uh N l E o)).bind λr=>match r with
 |.nx U=>(mG l U).map λo'=>(o',.non,)
 |.rtS d U=>(mG l U).map λo'=>(o',d,)
 | _=>ac
def au.startMT{o:O}{b:LVv}(f:aq Hf H)(e:OT G Hf H o (.ref l) fp)(n:fp.Nodup)(c:∀a∈fp,Hf a=ac)(r:ak G Hf E b):
  au G Hf (gG H fp) Hf H (L2.start N (.ref l::b)) (uh N.length l E o):=by
 show(au.start (EO f c) (.cons (d:=.non) rfl r)).setNew (i:=0) (Ext.grow (EO f c) M1) (.ref l,fp,rfl,(rfl,e),n,λa ha=>(xR ha,c a ha)) λa p=>by
  have(fp',g,ha):=p;have:=OT.funM o _ fp fp' e g.2;subst this;show xR ha
variable{f:Addr}{k:Nat}
def jU(I:Fun K x qual st f fd)(S:aF N ps (az st))
 (h:∀(cdv:Value) (A:b7) (outer:List Env) (s:ah) (H:Hp) (S5:XK),bo k (A.deeper (fO qual (az st) s.heap.objs.size f cdv))->DSs c (hX CX0 P w K mg base N qual (az st) f cdv A outer s H S5).nox (hZ st) F)(j:autoParam (N.length=n_) Zb):
  cM P w K mg base CX0 (k+1) f fd ps (jT (K,c) ps.length (gH n_ F)):=by
 subst j;show I.ok S (λvs H Q S5 m=>by have(Hf,E,o,o',d,l,fp,q,i,G,B,n,y,r,hn,_):=m;rw[i,cr,<- r.length];lia) λcdv A outer s H vs Q S5 L m=>?_;have(Hf,E,o,o',d,l,fp,q,i,G,B,n,y,r,hn,e,M):=m;show(_,h cdv A outer s H S5 L,?_);subst i;unfold gH at e
 cases g:F _ with
 |none=>rw[g]at e;nomatch e
 |some z=>
  rw[g,aw]at e;show(Hf,gG H fp,Hf,_,z,au.startMT G B n y r,g,?_)
  have b:∀U d',(mG l U).map (λo'=>(o',d',))=aa (o',d,)->∀v σ' C H',au (K,c) Hf _ C H' σ' U->Rep (K,c) C d' v->Q v H':=λU d' e v σ' C H' a p=>by
   have(t,J,e):=di e;cases e;have(u,e2,u',fp',e3,rt,T,Y):=a.slot (NF J);cases rt.1;show M v C H' fp' a.ext rt.2 T Y p
  cases z with
  |nx U=>show λσ' C H' _ a=>b U .non e .non σ' C H' a rfl
  |rtS d' U=>show λv σ' C H' a p=>b U d' e v σ' C H' a p
  | _=>nomatch e
def au.treeBack{o o':O}{fp':LAd}(n:au G Hf0 H0 Hf H J U)(es:U[i]?=aa (.deep o))(e:J[i]?=aa (aa v))(r:OT G Hf H o v fp)(x:Ext Hf (gG H fp) C H')(f:OT G C H' o' v fp')(l:fp'.Nodup)(d:∀a∈fp',gG H fp a=ac/\C a=ac):au G Hf0 H0 C H' J (U.set i (.deep o')):=by
 have s1 : au G Hf0 H0 Hf (gG H fp) J (U.set i .no):=n.chg es e (λb y j=>by
  by_cases c:b∈fp
  .show .inl (fp,r,c)
  .show .inr (by rw[ue c];show j)) trivial λa p=>(p.calm rfl).elim
 have s2:=s1.setNew (i:=i) (s:=.deep o') x (v,fp',rfl,f,l,λa ha=>(s1.ext.h.free (d a ha).1,(d a ha).2)) λa p=>by
  have(g,m,ha):=p;have:=OT.funM o' v fp' g f m;subst this;show(d a ha).1
 rw[n8 e,set_set]at s2;show s2
abbrev O.isIns(cn fl:Str):O->Bool
 |.ins c ns _=>decide (c=cn) && !ns.contains fl
 | _=>ae
def Fa{cn fl:Str}{o:O}(h:o.isIns cn fl=ab):∃ns os,o=.ins cn ns os/\ns.contains fl=ae:=by
 cases o with
 |ins c ns os=>
  replace h:(decide _ && !ns.contains fl)=ab:=h
  simp_all
 | _=>nomatch h
def eM(i:Nat)(cn fl:Str)(m:MTf)(f:Xa):Xe:=λU=>match U[i]? with
 |some (.deep (.at _ o0))=>if o0.isIns cn fl then (f U).bind λp=>match p.2[i]? with
  |some (.deep (.at l o))=>(m l p.1 o).map λq=>(q.2,p.2.set i (.deep (.at l q.1)),)
  | _=>ac else ac
 | _=>ac
open Classical in
def k6(i:Nat)(cn fl:Str)(m:MTf)(f:Xa):Xe:=λU=>match U[i]? with
 |some (.deep o0)=>if o0.isIns cn fl then (f U).bind λp=>match p.2[i]? with
  |some (.deep (.ins c' ns os))=>if h:∃q,∀l,m l p.1 (.ins c' ns os)=aa q then aa (h.choose.2,p.2.set i (.deep h.choose.1),) else ac
  | _=>ac else ac
 | _=>ac
variable{fa:Xa}{m:MTf}{Q:VK}{t:TA}
def Fb(cn:Str)(ht:∀J H Q,uf (Gx c X) fa J H Q->t J H Q)(hn:∀U E ρ',fa U=aa (E,ρ',)->1+E.length=ps.length)(q_:tDX (Gx c X) (eM i cn fl m fa) J H Q):si (c cn) fl (jT (Gx c X) ps.length m) [] E0 (cL i) t J H Q:=by
 have(Hf0,H0,Hf,U,d,ρ',st,b,kq):=q_;unfold eM at b;split at b
 .rename_i L o0 x;split at b
  .rename_i hi;have(ns,os,rfl,A):=Fa hi;have(pp,G,b):=a8 b;have(E,ds):=pp;split at b
   .rename_i l o1 g;have(q,T,b):=di b;cases b;have(u,y,u',fp,Y,rt,n,z):=st.slot x;subst Y;have(el,a,dx,vs,fs,ea,ha,hz,rs,efp):=rt;subst el;cases ea;show(_,y,L,dx,ns.zip vs,rfl,ha,nO A,ht _ _ _ (Hf0,H0,Hf,U,E,ds,st,G,λus C H' f1 e r=>?_));rw[bB];have(w,I,w',gp,e4,B,n1,z1):=e.slot g;subst e4;rw[y]at I;cases I;have(p,h):=B;cases p;show(C,E,o1,q.1,q.2,L,gp,us,rfl,e.sub,h,n1,λa ha=>(z1 a ha).2,r,hn _ _ _ G,T,λv j N fp3 M r3 n3 z3 rv=>kq v j N (f1.trans M.f) (e.treeBack g y (rfl,h) M (rfl,r3) n3 z3) rv)
   .grind
  .grind
 .grind
def NG(cn:Str)(ht:∀J H Q,uf (Gx c X) fa J H Q->t J H Q)(hn:∀U E ρ',fa U=aa (E,ρ',)->1+E.length=ps.length)(q_:tDX (Gx c X) (k6 i cn fl m fa) J H Q):si (c cn) fl (jT (Gx c X) ps.length m) [] E0 (cL i) t J H Q:=by
 have(Hf0,H0,Hf,U,d,ρ',st,b,kq):=q_;unfold k6 at b;split at b
 .rename_i o0 l;split at b
  .rename_i hi;have(ns,os,rfl,x):=Fa hi;have(pp,B,b):=a8 b;have(E,ds):=pp;split at b
   .rename_i T y A g;split at b
    .rename_i L;have G:=L.choose_spec;generalize L.choose=q at b G;cases b;have(u,p,u',fp,Y,rt,n,z):=st.slot l;subst Y;have(a,dx,vs,fs,ea,ha,hz,rs,efp):=rt;subst ea;show(_,p,a,dx,ns.zip vs,rfl,ha,nO x,ht _ _ _ (Hf0,H0,Hf,U,E,ds,st,B,λus C H' f1 e r=>?_));rw[bB];have(w,I,w',gp,e4,h,n1,z1):=e.slot g;subst e4;rw[p]at I;cases I;show(C,E,.ins T y A,q.1,q.2,a,gp,us,rfl,e.sub,h,n1,λa ha=>(z1 a ha).2,r,hn _ _ _ B,G a,λv j N fp3 M r3 n3 z3 rv=>kq v j N (f1.trans M.f) (e.treeBack g p h M r3 n3 z3) rv)
    .nomatch b
   .nomatch b
  .nomatch b
 .nomatch b
def NH{o:Expr}(cn:Str)(l:PE X o (cL i))(pk:Pm X.prog X.w X.K X.mg X.base CX0 k (c cn) fl (f,fd,) ps (jT (Gx c X) ps.length m))(g:bo k0 X.A)(ha:DAX c X (e::es) fa)(q:autoParam ((e::es).length+1=ps.length) Zb)(j:autoParam (StE X e es) Zb)(d:autoParam (BkE X pos es) Zb)(n:autoParam (eval (.Call (.Attribute o fl apos) (e::es) [] pos) X.env=(do
   let ov <- eval o X.env
   g9 apos.atName
   let (f,first,) <- fu [ov] (i8 ov fl pl)
   kg pos f first (cv pos (aR (e::es) X.env)) (ja pos (i7 [] X.env)))) Zb)(a:autoParam (k<=k0) Zc):
  DX c X (.Call (.Attribute o fl apos) (e::es) [] pos) (eM i cn fl m fa):=PE.imp (wn l pk.c pk.m pk.ok (g.mono a) pk.b .nil gy ha.pa j d n) λJ H Q p=>Fb cn (λ_ _ _ h=>h) (λU E ρ' h=>by have:=ha.len U E ρ' h;lia) p
def NI{o:Expr}(cn:Str)(l:PE X o (cL i))(pk:Pm X.prog X.w X.K X.mg X.base CX0 k (c cn) fl (f,fd,) ps (jT (Gx c X) ps.length m))(d:bo k0 X.A)(j:autoParam (1=ps.length) Zb)(n:autoParam (eval (.Call (.Attribute o fl apos) [] [] pos) X.env=(do
   let ov <- eval o X.env
   g9 apos.atName
   let (f,first,) <- fu [ov] (i8 ov fl pl)
   kg pos f first (cv pos (aR [] X.env)) (ja pos (i7 [] X.env)))) Zb)(a:autoParam (k<=k0) Zc):
  DX c X (.Call (.Attribute o fl apos) [] [] pos) (eM i cn fl m fI):=PE.imp (wq l pk.c pk.m pk.ok (d.mono a) pk.b .nil gy n) λJ H Q e=>Fb cn (λJ H Q e=>by have(Hf0,H0,Hf,U,E,ρ',st,g,k):=e;cases g;show k [] Hf H (aq.refl _) st rfl) (λU E ρ' h=>by cases h;show j) e
def NJ{o:Expr}(cn:Str)(l:PE X o (cL i))(pk:Pm X.prog X.w X.K X.mg X.base CX0 k (c cn) fl (f,fd,) ps (jT (Gx c X) ps.length m))(d:bo k0 X.A)(j:autoParam (1=ps.length) Zb)(n:autoParam (eval (.Call (.Attribute o fl apos) [] [] pos) X.env=(do
   let ov <- eval o X.env
   g9 apos.atName
   let (f,first,) <- fu [ov] (i8 ov fl pl)
   kg pos f first (cv pos (aR [] X.env)) (ja pos (i7 [] X.env)))) Zb)(a:autoParam (k<=k0) Zc):
  DX c X (.Call (.Attribute o fl apos) [] [] pos) (k6 i cn fl m fI):=PE.imp (wq l pk.c pk.m pk.ok (d.mono a) pk.b .nil gy n) λJ H Q e=>NG cn (λJ H Q e=>by have(Hf0,H0,Hf,U,E,ρ',st,g,k):=e;cases g;show k [] Hf H (aq.refl _) st rfl) (λU E ρ' h=>by cases h;show j) e
open Classical in
def mH(cn:Str)(m:MTf)(fa:MF2)(U:LS):Option O:=(fa U).bind λE=>if h:∃o,∀l,m l E (.ins cn [] [])=aa (o,.non,) then aa h.choose else ac
variable{bb:Bool}{fa:MF2}
def NK{cn:Str}(I:S4=G.cl cn)(L:∀J H Q,tDA G fa J H Q->t J H Q)(hn:∀U E,fa U=aa E->1+E.length=ps.length)(Y:tDZ G bb (mH cn m fa) J H Q):Ct S4 (jT G ps.length m) [] E0 t J H Q:=by
 have(Hf0,H0,Hf,U,o,st,c,N):=Y;have(E,x,c):=a8 c;split at c
 .rename_i B;have A:=B.choose_spec;generalize B.choose=o' at c A;cases c;show L _ _ _ (Hf0,H0,Hf,U,E,st,x,λvs cm H1 d r y dx p i j=>?_);rw[bB];subst I;have M:(upd H1 dx (.own y)) y=ac:=by rw[aK j.symm];show p
  have s1:aq H1 (upd H1 dx (.own y)):=bE i;have s2:=s1.trans (bE (o:=.ins (G.cl cn) dx []) M)
  have w:aq H1 (gG _ [y]):=λb u q=>by
   rw[ue (λz=>eU q p (cB.mp z))];show s2 b u q
  show(cm,E,.ins cn [] [],o,.non,y,[y],vs,rfl,d.s.trans s2,(y,dx,[],[],rfl,a9,rfl,(rfl,rfl),rfl),bW.mpr (bO,fc),λa ha=>by rw[cB.mp ha];show d.s.free p,r,hn U E x,A y,λv cc H2 g e r2 T C rv=>(rv,?_));have x3:Ext cm H1 cc H2:=(e.f,w.trans e.h,e.s,λl u q t=>e.n l u (w l u q) t);show N _ g cc H2 (d.trans x3) r2 (T,λa ha=>(pY st.ext.h (d.h.free (w.free (C a ha).1)),(C a ha).2))
 .nomatch c
variable{p:Pos}
def NL(cn:Str)(d:Mk X.K (c cn) f)(F:cM X.prog X.w X.K X.mg X.base CX0 k f fd ps (jT (Gx c X) ps.length m))(l:bo (k+1) X.A)(j:Gl X x)(hm:X.mg x=aa (.ref (c cn)))(g:fU X.K fd ps [])(ha:DA c X (e::es) fa)
 (q:autoParam ((e::es).length+1=ps.length) Zb)(a:autoParam (NDb x) Zc)(i:autoParam (StE X e es) Zb)(b:autoParam (BkE X pos es) Zb):
  DZ c X bb (.Call (.Name x p) (e::es) [] pos) (mH cn m fa):=PE.imp (Cu d F l j hm g .nil gy ha.pa a i b) λJ H Q n=>NK rfl (λ_ _ _ h=>h) (λU E h=>by have:=ha.len U E h;lia) n
def hu1{u:Nat}(h:u+64<cLine):u+1<cLine:=m4 (Nat.add_le_add_left (by decide) u) h
def NM{f:MF2}(h:DL c X e f):DIe c X tg e f:=PI.imp (vY h) λJ H R d=>by
 have(Hf0,H0,Hf,U,E,st,b,k):=d;show(Hf0,H0,Hf,U,E,st,b,λl vs C H' x a r=>(l,rfl,(vs,SqL.of a),k _ C H' x (Dw (SqL.of a) r)))
def ui(f:MF2)(U:LS):OLD:=(f U).map (gU 0)
variable{a:Expr}
def NN{f:MF2}(N:Gl X "enumerate")(hm:X.mg "enumerate"=ac)(ha:DL c X a f)(w:autoParam (aR [a] X.env=[(ae,eval a X.env,)]) Zb):
  DIe c X (.Tuple elts kx tpos) (.Call (.Name "enumerate" p) [a] [] pos) (ui f):=PI.imp (D5 N hm (dE ha dk w) w) λJ H R Q=>by
 have(Hf0,H0,Hf,U,E,st,g,k):=Q;have(B,A,g):=di g;subst g;show(Hf0,H0,Hf,U,B,st,A,λl vs C H' x q r=>(l,rfl,(vs,SqL.of q),k _ C H' x λcc H2 e i=>?_));have j:SqL X.K H2 l vs:=SqL.of (e.h _ _ q);have h1:=r.length;show(λd b=>?_,λI=>(vs,j,by rw[xl]at I;lia));rw[tN]at b;have(y,L,b):=di b;subst b;have(u,n,ru):=r.get L;show((vs,u,j,n),λz H3 Y=>?_);have(pp,z1,M,v,G,T):=Y;subst M G;have m:=T vs j;rw[n]at m;cases m;show(upd cc pp _,Ext.new e.s v,pp,_,rfl,a9,.cons (by rw[jw];rfl) (.cons (ru.up (e.f.trans (bE (e.s.free v)))) .nil))
def NO:DZ c X bb (.Dict [] [] pos) (λ_=>aa (.dT [] [])):=PE.imp Kc λJ H Q d=>by
 have(Hf0,H0,Hf,U,o,st,b,k):=d;cases b;intro l a;show k _ [l] Hf _ (Ext.tmp st.sub a) (l,[],[],rfl,a9,rfl,(rfl,rfl),rfl) (.one (pY st.ext.h a) (st.sub.free a))
end L2
namespace HT
open List
open PySem PyProof.Rows
open PySem.SeqAt
open PySem.AutoSeq1 (wpAny_loadPart')
open PySem.MeetsSeq PySem.MeetsSeq2 PySem.MeetsSeq3
def NP(l:Addr)(L:Array Value)(n:Nat)(x:Value)(f:Value->Bool)(j:Nat)(p:j<L.size)(r:f L[j]=ab)(hz:L.size<=aT)(k:Nat):
  ∀i:Nat,j-i=k->i<=j->(∀m (hm:m<L.size),i<=m->m<j->f L[m]=ae)->Meets (Builtin.«list.remove.loop» ([.ref l,x,cT i],[]))
   (λA R s=>s.heap.get? l=aa {cls:=.type "list",dict:=ac,data:=.seq L n,slots:=#[]}/\(∀y,y∈L->EqAt A.in1 s y x (f y))/\R (.ok (.ret .none)) {s with heap:=s.heap.update l (jc λB=>B.eraseIdxIfInBounds j)}):=by
 induction k with
 |zero=>
  intro i u e b prog w A R s h;have(c,d,h):=h;obtain rfl:i=j:=by lia
  wp_walk using rJ c
  rw[show L[(_:Int).toNat]?=aa L[i] by simp[p]];show ap (d _ (Array.getElem_mem p) prog w _ _ ?_);have g:(L.eraseIdxIfInBounds i).size<=aT+1:=cJ (size_erased L _) (Nat.le_succ_of_le hz)
  wp_walk using (wpAny_updateSeq c rfl (_hz':=g)),rJ c
  show h
 |succ k v=>
  intro i u e b prog w A R s h;have(c,d,h):=h;have a:i<L.size:=by lia
  wp_walk using rJ c
  rw[show L[((i:Nat):Int).toNat]?=aa L[i] by simp[a]];show ap (d _ (Array.getElem_mem a) prog w _ _ ?_);rw[b i a (aP _) (by lia)]
  wp_walk
  show (m8 plain_remove_loop _,ke entry_remove_loop (by
   show v (i+1) (by lia) (by lia) (λm hm z q=>b m hm (by lia) q) prog w A R _ (c,d,h)))
def remAt(l:Addr)(L:Array Value)(n:Nat)(x:Value)(f:Value->Bool)(j:Nat)(g:j<L.size)(a:f L[j]=ab)(b:∀m (hm:m<L.size),m<j->f L[m]=ae)(hz:L.size<=aT):Meets (Builtin.«list.remove» ([.ref l,x],[]))
   (λA R s=>s.heap.get? l=aa {cls:=.type "list",dict:=ac,data:=.seq L n,slots:=#[]}/\(∀y,y∈L->EqAt A.in1 s y x (f y))/\R (.ok (.ret .none)) {s with heap:=s.heap.update l (jc λB=>B.eraseIdxIfInBounds j)}):=by
 intro prog w A R s h;have(c,e,h):=h
 wp_walk using rJ c
 show (m8 plain_remove_loop _,ke entry_remove_loop (by
  show NP l L n x f j g a hz _ 0 rfl (cK _) (λm hm _ d=>b m hm d) prog w A R _ (c,e,h)))
end HT
namespace L2
open List
open PySem PySem.Spec PyProof.Rows
abbrev Fc(G:Gc):V->LVv->Hp->VK->Prop:=λa vs H Q=>∃Hf l us E x w,a=.ref l/\vs=[w]/\aq Hf H/\H l=aa (.lst us)/\ak G Hf E us/\Rep G Hf x w/\d3 x E=aa ab/\Q .non (upd H l (.lst (us.eraseIdx (E.findIdx (isE x)))))
def O.remd(x:D)(o:O):Option O:=o.items.bind λE=>if d3 x E=aa ab then aa (.lst ((E.eraseIdx (E.findIdx (isE x))).map .fz)) else ac
def oj(i:Nat)(p:Xp)(f:MF1)(U:LS):Option Fl:=(p U).bind λq=>(f U).bind λd=>(q.1.remd d).map λo2=>.nx (U.set i (.deep (q.2 o2)))
variable{c:Str->Addr}{X:Cx}
def NQ(hu:X.A.units+64<cLine):MtM X "list.remove" (Fc (Gx c X)):=by
 rintro M s J H x B v us Q I rx rv ⟨Hf,l,vs,E,z,w,rfl,rfl,G,q,rs,r2,a,k⟩;subst rx;have(u,rfl,ru):=rv.one;have(z1,L,n,j,U,e0):=I.lstM q;have(f,N,ha):=tR (A:=X.A.in1) I (by rw[rQ];lia) (r2.up G) ru (rs.up G) j a;have(k1,k2):=EU a
 have same:∀m _,f L[m]=isE z (E.getD m .non):=λm hm=>by
  have i:m<E.length:=by rw[rs.length,U];show hm
  have(v1,g,C):=rs.get (cI i);have(u1,b,p):=j.get g;rw[cI hm]at b;cases b;have(_,d',v',r',r,h'):=N L[m] (lh hm);have ev:=aC.inj r p;subst ev;have(Y,d):=k1 E[m] (lh i);rw[bM,cI i];change _=isE z E[m];unfold isE;rw[d,(tQ 19 r' (C.up G) h' d)]
  cases Y <;> rfl
 have T:=findIdx_lt_length_of_exists (any_eq_true.mp k2);have e:E.findIdx (isE z)<L.length:=by rw[<- U,<- rs.length];show T
 show call_meets F.slot_list_remove (_,e0,rfl) F.entry_list_remove (F.args_list_remove_2 _ _) (HT.remAt l L.toArray n u f _ (by rw[size_toArray];show e) ?_ ?_ (by rw[size_toArray];lia)) (e0,λy hy=>(N y (by simpa using hy)).1,?_)
 .rw[List.getElem_toArray,same _ e,bM,cI T];show findIdx_getElem
 .intro m hm h;rw[List.getElem_toArray,same m (by rw[size_toArray]at hm;show hm),bM,cI _];have:=not_of_lt_findIdx h;show this
 .show(.non,_,I.lset q e0 ?_ (j.eraseIdx _) ?_,rfl,k)
  .change L.toArray.eraseIdxIfInBounds _=(L.eraseIdx _).toArray;rw[eraseIdxIfInBounds_toArray]
  .have:=wz vs (E.findIdx (isE z))
   lia
variable{st:Stmt}{i:Nat}{p:Xp}
def NR{f:MF1}(h:PS X st (jD (tBM X.K "list" (Fc (Gx c X)) (tDP (Gx c X) i p) (kA (tD (Gx c X) f) iK)))):DS c X st (oj i p f):=PS.imp h λS5 J H q_=>by
 have(Hf0,H0,Hf,U,o,C,g,kq):=q_;have(q,N,g):=a8 g;have(d,Q,g):=a8 g;have(o2,y,g):=di g;subst g;have(E,T,y):=a8 (y);split at y
 .rename_i A;cases y;show(Hf0,H0,Hf,U,q.1,q.2,C,N,λt v fp v1 f1 B H1 es Y x rt F=>?_);have L:=F.r;rw[n9 T]at L;have(l,us,fs,rfl,I,rs,j):=L;have(M,rfl):=rs.unfz;show(.inl (rfl,_,SqL.of I),Hf0,H0,B,U,d,C.step x,Q,λw m H2 e r2=>?_);show(m,l,us,E,d,w,rfl,rfl,e.s,e.h _ _ I,M.up e.f,r2,A,kq J m _ (x.trans e).f ?_);have G:=F.up e.f e.h
  have:=C.foc es Y (rt.up e.f e.h) (x.trans e) G (λb u hb hn=>by rw[aK (λz=>hn (by rw[j,z];show aB))];show hb)
   (o2:=.lst ((E.eraseIdx (E.findIdx (isE d))).map .fz)) (l,_,[],rfl,a9,OTs.fz ((M.up e.f).erase _),rfl) (by rw[<- j];show G.n) λa ha=>.inl (by rw[j];show ha)
  show this
 .nomatch y
def mJ(cn f:Str)(m:LD->OLD)(e:MF1)(c:MF2)(U:LS):OLD:=(e U).bind λd=>match d with
 |.ins a ns E=>if a=cn/\ns.contains f=ae then (c U).bind λb=>(m (.ins a ns E::b)).bind λrs=>if rs.all D.flat then aa rs else ac else ac
 | _=>ac
abbrev Fd:Fl->Option (LD ⊕ D)
 |.rtO E=>aa (.inl E)
 |.rt d=>if d.scalar then aa (.inr d) else ac
 | _=>ac
abbrev ya(n:Nat)(F:MF3)(E:LD):Option (LD ⊕ D):=(F (eE n E)).bind Fd
def spN(G:Gc)(n:Nat)(m:LD->Option (LD ⊕ D)):Sp:=λvs H Q _=>∃Hf E r,aq Hf H/\ak G Hf E vs/\E.length=n/\m E=aa r/\(∀rs,r=.inl rs->∀l us C H',Ext Hf H C H'->H l=ac->C l=ac->H' l=aa (.lst us)->ak G C rs us->Q (.ref l) H') /\
 ∀d,r=.inr d->d.scalar=ab/\∀v C H',Ext Hf H C H'->Rep G C d v->Q v H'
variable{P:bX}{w:World}{K:aU}{mg:MGT}{base:Heap}{x:Str}{f:Addr}{fd:dg}{ps:LSt}{k:Nat}{F:MF3}
def NS{i:Nat}{qual:Str}{N:LSt}(l:Fun K x qual st f fd)(S:aF N ps (az st))
 (h:∀(cdv:Value) (A:b7) (outer:List Env) (s:ah) (H:Hp) (S5:XK),bo k (A.deeper (fO qual (az st) s.heap.objs.size f cdv))->DSs c (hX CX0 P w K mg base N qual (az st) f cdv A outer s H S5).nox (hZ st) F)(a:autoParam (N.length=i) Zb):
  cM P w K mg base CX0 (k+1) f fd ps (spN (K,c) ps.length (ya i F)):=by
 subst a;show l.ok S (λvs H Q S5 b=>by have(Hf,E,d,j,r,g,_):=b;rw[<- r.length];show g) λcdv A outer s H vs Q S5 n b=>?_;have(Hf,E,r,j,u,g,e,p,q):=b;show(_,h cdv A outer s H S5 n,?_);have(o,m,e):=a8 e;show(Hf,H,Hf,_,o,au.start j u,m,?_)
 cases o with
 |rtO rs=>cases e;show p rs rfl
 |rt d=>
  replace e:(if d.scalar then aa _ else ac)=aa r:=e;split at e
  .cases e;show(q d rfl).2
  .nomatch e
 | _=>nomatch e
def ol(m:LD->Option (LD ⊕ D))(f:MF2)(U:LS):OD:=(f U).bind λE=>(m E).bind λr=>match r with
 |.inl rs=>if rs.all D.flat then aa (.lst rs) else ac
 |.inr d=>if d.scalar then aa d else ac
variable{e:Expr}{es:LEx}{p pos:Pos}{fa:MF2}{k0:Nat}
def NT{m:LD->Option (LD ⊕ D)}(pk:Pk X.prog X.w X.K X.mg X.base CX0 k x (f,fd,) ps (spN (Gx c X) ps.length m))(M:bo k0 X.A)(ha:DAB c X (e::es) fa)(hl:autoParam ((e::es).length=ps.length) Zb)(G:autoParam (NDb x) Zc)(he:autoParam (StE X e es) Zb)(L:autoParam (BkE X pos es) Zb)(I:autoParam (k<=k0) Zc)(hg:autoParam (Gl X x) Zi):
  DE c X (.Call (.Name x p) (e::es) [] pos) (ol m fa):=PE.imp (nu pk.ok (M.mono I) hg pk.g pk.kp pk.b .nil gy ha.pa G he L) λJ H Q q_=>by
 have(Hf0,H0,Hf,U,d,st,a,Y):=q_;have(E,T,a):=a8 a;have(r,e2,a):=a8 a;show(Hf0,H0,Hf,U,E,st,T,λvs C H' x rv=>?_);rw[bB];show(H',E,r,aq.refl _,rv,(ha.len U E T).trans hl,e2,λrs B l us z n y hn hf i N=>?_,λd' B=>?_)
 .subst B;replace a:(if rs.all D.flat then aa _ else ac)=aa d:=a;split at a
  .rename_i u;cases a;have j:kX C n l=ac:=by rw[pX (λvs q=>by rw[i]at q;nomatch q)];show x.s.free hn
   show Y _ _ n ((x.trans (EC x.s y.h)).fix (x.h.free hn) j i) (l,us,rfl,a9,((N.up y.s).flat u).up (bE j))
  .nomatch a
 .subst B;replace a:(if d'.scalar then aa d' else ac)=aa d:=a;split at a
  .rename_i u;cases a;show(u,λv z n y N=>Y v C n (x.trans (Ext.grow x.s y.h)) (N.sc u))
  .nomatch a
variable{fl:Str}{apos:Pos}{fo:MF1}
def NU{o:Expr}{m:LD->OLD}{pl:Sem Bool}(cn:Str)(ho:DB c X o fo)(pk:Pm X.prog X.w X.K X.mg X.base CX0 k (c cn) fl (f,fd,) ps (spO (Gx c X) ps.length m))(G:bo k0 X.A)(ha:DAB c X (e::es) fa)(hl:autoParam ((e::es).length+1=ps.length) Zb)(I:autoParam (StE X e es) Zb)(C:autoParam (BkE X pos es) Zb)(ht:autoParam (eval (.Call (.Attribute o fl apos) (e::es) [] pos) X.env=(do
   let ov <- eval o X.env
   g9 apos.atName
   let (f,first,) <- fu [ov] (i8 ov fl pl)
   kg pos f first (cv pos (aR (e::es) X.env)) (ja pos (i7 [] X.env)))) Zb)(z:autoParam (k<=k0) Zc):
  DO c X (.Call (.Attribute o fl apos) (e::es) [] pos) (mJ cn fl m fo fa):=PE.imp (wn ho pk.c pk.m pk.ok (G.mono z) pk.b .nil gy ha.pa I C ht) λJ H Q q_=>by
 have(Hf0,H0,Hf,U,rs,st,g,kq):=q_;have(d,e1,n):=a8 g;clear g
 cases d with
 |ins L ns E=>
  have g:(if L=cn/\ns.contains fl=ae then (fa U).bind λj=>(m _).bind λrs=>if rs.all D.flat then aa rs else ac else ac)=aa rs:=n;split at g
  .rename_i y;have(u,B):=y;subst u;have(j,M,n):=a8 g;have(rs',e3,g):=a8 n;split at g
   .rename_i hs;cases g;show(Hf0,H0,Hf,U,_,st,e1,λv p H1 T r=>?_);have(a,dx,vs,ev,q,N,rr):=id r;subst ev;show(a,dx,ns.zip vs,rfl,q,nO B,Hf0,H0,p,U,j,st.step T,M,λws cc H2 Y r2=>?_);rw[bB];have x:=T.trans Y;show(H2,.ins L ns E::j,_,aq.refl _,.cons (r.up Y.h) r2,by rw[cr,ha.len U j M];show hl,e3,λl us Hf3 H3 x3 hn hf i r3=>(kq l us _ H3 (x.trans (EC x.s x3.h)) (x.h.free hn) (by rw[pX (λvs q=>by rw[i]at q;nomatch q)];show x.s.free hn) i ((r3.up x3.s).flat hs)))
   .nomatch g
  .nomatch g
 | _=>nomatch n
abbrev k7(w pr k:Nat)(js:LN)(g:D->LS->Option LS)(ft:MF4)(fe:MF1):LD->LS->LD->Option (LS×LD)
 | [],U,S3=>aa (U,S3,)
 |b::bs,U,S3=>if S3.length<=16777216 then (eB (gD g ft fe (gC k js ((U.set pr (.im b)).set w .no))) S3).bind λa=>k7 w pr k js g ft fe bs (U.set pr (.im b)) a else ac
def om(w pr:Nat)(a:MF4)(e d:MF2)(k:Nat)(js:LN)(g:D->LS->Option LS)(ft:MF4)(fe:MF1)(U:LS):Option Fl:=
 (a U).bind λb=>(d (U.set w .no)).bind λbs=>if b=!bs.isEmpty then (if b then e U else aa []).bind λc=>(k7 w pr k js g ft fe bs U c).map λp=>.nx (p.1.set w (.own p.2)) else ac
variable{G:Gc}{Hf0 H0 Hf H:Hp}{J:St}{U:LS}{v:V}
def au.setAny(h:au G Hf0 H0 Hf H J U):au G Hf0 H0 Hf H (J.set i (aa v)) (U.set i .no):=h.setNew (Ext.refl h.sub) trivial λa p=>(p.calm rfl).elim
variable{w pr:Nat}{js:LN}{fb:MF2}{g:D->LS->Option LS}{ft:MF4}{fe:MF1}{ds:LS}
def Fe(hG:G.K=X.K)(hj:js.Nodup)(hk:∀d U ρ' i,g d U=aa ρ'->k<=i->ρ'[i]?=U[i]?)(E:∀d U ρ',g d U=aa ρ'->ρ'.length=U.length)(L:pr≠w){bs T L1:LD}{S5:iI}{a0:Addr}{r:LVv}
 (st:au G Hf0 H0 Hf H J (U.set w .no))(hw:w<U.length)(ew:J[w]?=aa (aa (.ref a0)))(ha:H a0=aa (.lst r))(r0:ak G Hf T r)(hb:fb (U.set w .no)=aa bs)(fr:bs=[]->au G Hf0 H0 Hf H J (U.set w (.own T)))
 (el:k7 w pr k js g ft fe bs U T=aa (ds,L1,))(kq:∀σ' C H',aq Hf C->au G Hf0 H0 C H' σ' (ds.set w (.own L1))->S5.nx σ' H'):
  vZ (tDI G fb) (gt pr) (hV (nE k js (vX X.K (cL w)) (tDG G g) (tDT G ft) (tD G fe)) (gt w)) S5 J H:=by
 show(Hf0,H0,Hf,_,bs,st,hb,λS2 j H1 N it=>?_)
 show(λi m σ' H'=>m=bs.length-i/\i<=bs.length/\∃C ρ' S3 a vs,au G Hf0 H0 C H' σ' (ρ'.set w .no)/\w<ρ'.length/\σ'[w]?=aa (aa (.ref a))/\H' a=aa (.lst vs)/\ak G C S3 vs/\aq j C/\k7 w pr k js g ft fe (bs.drop i) ρ' S3=aa _/\(i=bs.length->au G Hf0 H0 C H' σ' (ρ'.set w (.own S3))),
  (bs.length,rfl,cK _,j,U,T,a0,r,st.step N,hw,ew,N.h _ _ ha,r0.up N.f,aq.refl _,el,λe=>(fr (rk.mp e.symm)).step N),?_)
 rintro i m σ' H' ⟨rfl,hi,C,ρ',S3,a,vs,M,hw',A,B,r',s1,b,own⟩;have(it1,it2):=it C H' s1 M.sub i
 by_cases I:i<bs.length
 .have(d,ed,edr):=w9 I;have(go,yl):=it1 d ed;rw[edr]at b;unfold k7 at b;split at b
  .rename_i hz;have(L',ec,el2):=a8 b;show .inr (go,λu c=>bs.length-_=bs.length-_/\i+1<=bs.length/\∃C ρ' S3 a vs,au G Hf0 H0 C c u _/\w<ρ'.length/\u[w]?=aa _/\c a=aa _/\ak G C S3 vs/\aq j C/\k7 w pr k js g ft fe _ ρ' S3=aa _/\_,λu c z=>(bs.length-(i+1),by lia,z),λx c y=>?_);have(v,Q,rx):=yl x c y
   have n:au G Hf0 H0 v c (σ'.set pr (aa x)) ((ρ'.set pr (.im d)).set w .no):=by
    have:=(M.step Q).setIm (i:=pr) rx;rw[set_comm _ _ L.symm]at this;show this
   have ew2:(σ'.set pr (aa x))[w]?=aa (aa (.ref a)):=by rw[j7 L];show A
   show Dy hj hk E n (λR q=>(.ref a,ew2,a,rfl,(vs,SqL.of (Q.h _ _ B)),?_)) hz ec λl us Y H3 x3 hn hf hl rl=>?_
   .have:=q _ v c (Ext.refl n.sub) (Dw (SqL.of (Q.h _ _ B)) (r'.up Q.f));rw[hG]at this;show this
   .have p:=n.setOwn (i:=w) (s:=.own L') rfl x3 hn hf (us,hl,rl);rw[set_set]at p;have hsl:w<(σ'.set pr (aa x)).length:=by rw[g7];show(cA.mp A).1
    show(rfl,I,Y,ρ'.set pr _,L',l,us,?_,by rw[g7];show hw',i0 hsl,hl,rl,(s1.trans Q.f).trans x3.f,el2,λ_=>p);have:=p.setNo (i:=w);rw[set_set]at this;show this
  .nomatch b
 .have ei:i=bs.length:=by lia
  subst ei;rw[drop_eq_nil_of_le (aP _)]at b;cases b;show .inl (it2 rfl,kq σ' C H' (N.f.trans s1) (own rfl))
variable{fg:MF2}{ft0:MF4}
def NV{s1 s2:Stmt}{rest:List Stmt}(hj:js.Nodup)(hk:∀d U ρ' i,g d U=aa ρ'->k<=i->ρ'[i]?=U[i]?)(q:∀d U ρ',g d U=aa ρ'->ρ'.length=U.length)(G:pr≠w)
 (h1:PS X s1 (hV (tIf (tDT (Gx c X) ft0) (tDL (Gx c X) fg) (wg iK)) (gt w)))(h2:PS X s2 (vZ (tDI (Gx c X) fb) (gt pr) (hV (nE k js (vX X.K (cL w)) (tDG (Gx c X) g) (tDT (Gx c X) ft) (tD (Gx c X) fe)) (gt w))))(hr:DSs c X rest F):
  DSs c X (s1::s2::rest) (λU=>if w<U.length then aj (om w pr ft0 fg fb k js g ft fe) F U else ac):=PSs.imp (r9 h1 (r9 h2 hr)) λS5 J H q_=>by
 have(Hf0,H0,Hf,U,o,L,B,x):=q_;split at B
 .rename_i T;have(r,j,B):=a8 (B);have(b,e2,j):=a8 j;have(bs,e3,j):=a8 j;split at j
  .rename_i hb;have(L0,e4,j):=a8 j;have(p,e5,j):=di j;subst j;show(Hf0,H0,Hf,U,b,L,e2,λu H1 y=>?_);have I:w<J.length:=by rw[L.len];show T
   have E:∀{v:Hp},aq Hf v->∀σ' C H',aq v C->au _ Hf0 H0 C H' σ' _->tDS _ F S5 σ' H':=λY σ' C H' s1 m=>(Hf0,H0,C,_,o,m,B,by
    cases o with
    |nx U=>show λn h A s2 e=>x n h A ((Y.trans s1).trans s2) e
    |bk U=>show λn h A s2 e=>x n h A ((Y.trans s1).trans s2) e
    |ct U=>show λn h A s2 e=>x n h A ((Y.trans s1).trans s2) e
    |rt d=>show x
    |rtO d=>show x
    |rtS d U=>show x
    |rtT t=>show x)
   cases b with
   |true=>
    show(Hf0,H0,u,U,L0,L.step y,e4,λa vs v H2 N ha r=>?_)
    show Fe rfl hj hk q G ((L.step y).step N).setAny T (i0 I) ha r e3 (λz=>by rw[z]at hb;nomatch hb) e5 (λσ' C H' s1 m=>E (y.f.trans N.f) σ' C H' s1 m)
   |false=>
    cases e4;show(cK _,λl Q=>?_);have N:Ext u H1 u (upd H1 l (.lst [])):=Ext.tmp y.s Q;have e:=(L.step y).setOwn (i:=w) (s:=.own []) rfl N Q (y.s.free Q) ([],a9,.nil);have M:=e.setNo (i:=w);rw[set_set]at M;show Fe rfl hj hk q G M T (i0 I) a9 .nil e3 (λ_=>e) e5 (λσ' C H' s1 m=>E y.f σ' C H' s1 m)
  .nomatch j
 .nomatch B
def NW(h:i<k):∀d (U ρ':LS) j,av i d U=aa ρ'->k<=j->ρ'[j]?=U[j]?:=λd U ρ' j e a=>by cases e;show j7 (by lia)
def NX:∀d (U ρ':LS),av i d U=aa ρ'->ρ'.length=U.length:=λd U ρ' e=>by cases e;show g7
def oq(i j:Nat)(cn f:Str)(U:LS):Option Fl:=(bq cn f (aZ i) U).bind λq=>q.1.items.bind λE=>if i=j then ac else aa (.nx ((U.set i (.deep (q.2 .any))).set j (.own E)))
variable{j:Nat}
def NY{cn f:Str}(h:PS X st (hV (tDP (Gx c X) i (bq cn f (aZ i))) (gt j))):DS c X st (oq i j cn f):=PS.imp h λS5 J H q_=>by
 have(Hf0,H0,Hf,U,o,B,d,kq):=q_;have(q,I,d):=a8 d;have(E,L,d):=a8 d;split at d
 .nomatch d
 .rename_i hij;cases d;show(Hf0,H0,Hf,U,q.1,q.2,B,I,λt v fp v1 f1 n H1 es G x rt m=>?_);rw[n9 L]at m;have(l,vs,fs,rfl,ql,rs,rfl):=id m.r;have(rd,rfl):=rs.unfz;have C:=B.step x;have s1:=B.foc es G rt x m (λb u e _=>e) (o2:=.any) rfl fc λa ha=>nomatch ha;have(fp',r',mem,nd):=m.back n H1 .any [] (aq.refl _) (λb u e _=>e) rfl;have(v0,N,e3,r0,n0,z0):=C.at' i _ _ G es;cases e3;have:=OT.funM t v fp N rt r0;subst this;have T:=m.sub l aB;show kq _ n H1 x.f ?_
  rcases(Nat.lt_or_ge j J.length |>.imp id Nat.not_lt.mpr)with hj |hj
  .have Q:j<(U.set i (.deep (q.2 .any))).length:=by rw[g7,<- B.len];show hj
   have s3:=(s1.setAny).chg (s':=.own E) (i0 Q) (i0 hj) (λb u e=>.inr e) (l,rfl,(z0 l T).1,(z0 l T).2,vs,ql,rd) λa p=>.inr λk t' w b z Y=>?_
   .rw[set_set]at s3;show s3
   .have ea:a=l:=by have:=(Holds.own rfl).mp p;cases this;rfl
    subst ea
    rcases cx b with⟨_,A,_⟩ |⟨en,b⟩
    .subst A;show Y.calm rfl
    .rcases cx z with⟨A,_⟩ |⟨_,z⟩
     .show en A
     .rcases cx b with⟨e,A,_⟩ |⟨M,b⟩
      .subst e A;rw[G]at z;cases z;have(g,r2,hg):=Y;have:=OT.funM _ _ _ _ r' r2;subst this
       rcases mem a hg with y |⟨_,y⟩
       .show nomatch y
       .show y aB
      .show M (C.dj k i t' _ w v a b es z G Y (fp,rt,T))
  .have I:J.set j (aa (.ref l))=J:=set_eq_of_length_le (by lia);have L:(U.set i _).set j (.own E)=U.set i (.deep (q.2 .any)):=set_eq_of_length_le (by rw[g7,<- B.len];lia);rw[I,L];show s1
abbrev O.ixo(k:Nat):O->Option (O×(O->O))
 |.lst os=>(os[k]?).map λo=>(o,λx=>.lst (os.set k x),)
 |.tup os=>(os[k]?).map λo=>(o,λx=>.tup (os.set k x),)
 | _=>ac
variable{R:O->O}
def Foc.ixo{o o1 o2:O}{v1:V}{fp f1:LAd}{l:O->O}(F:Foc G Hf H o v fp o1 v1 f1 R)(h:o1.ixo k=aa (o2,l,)):∃a vs d f2,v1=.ref a/\(H a=aa (.lst vs)\/H a=aa (.tup vs))/\vs[k]?=aa d/\Foc G Hf H o v fp o2 d f2 (λx=>R (l x)):=by
 cases o1 with
 |lst os=>
  have(j,e,h):=di h;cases h;have(a,vs,fs,g,ha,rs,y):=id F.r;subst g y;have(d,f2,f,w):=Foc.root (o:=.lst os) (W:=.lst) ha rfl rs F.n e λC H' J c i r _=>(a,vs,c,rfl,i,r,rfl)
  show(a,vs,d,f2,rfl,.inl ha,f,F.trans w)
 |tup os=>
  have(j,e,h):=di h;cases h;have(a,vs,g,ha,rs):=id F.r;subst g;have(d,f2,f,q,I,L,bk):=rs.foc F.n e;show(a,vs,d,f2,rfl,.inr ha,f,F.trans (q,I,L,λC H' j z s m h=>?_));have(c,p,B,E):=bk C H' j d z s (λb u e _ A=>m b u e A) h;rw[n8 f]at p
  show(c,(a,vs,rfl,m a _ ha (xY q ha rfl),p),B,E)
 | _=>nomatch h
def pIx(k:Nat)(p:Xp):Xp:=λU=>(p U).bind λq=>(q.1.ixo k).map λr=>(r.1,λx=>q.2 (r.2 x),)
def mK(i:Nat)(p:Xp)(U:LS):Option Fl:=(p U).bind λq=>match q.1 with
 |.lst _=>aa (.nx (U.set i (.deep (q.2 (.lst [])))))
 | _=>ac
variable{e':Expr}{p:Xp}
def mL{o:Expr}(C:DP c X o i p)(m:DE c X e' (λ_=>aa (.int k)))(E:autoParam (sj e') Zj):DP c X (.Subscript o e' pos) i (pIx k p):=PE.imp (sm (sn.or sr) C m E) λJ H Q I=>by
 have(Hf0,H0,Hf,U,o2,R,n,d,G):=I;have(q,z,d):=a8 d;have(r,A,d):=di d;cases d;show(Hf0,H0,Hf,U,q.1,q.2,n,z,λt v fp v1 f1 j M es B x rt F=>?_);have(a,vs,g,f2,el,ha,hv,w):=F.ixo A;subst el;show(Hf0,H0,j,U,.int k,n.step x,rfl,λu l y b L=>?_);cases (L)
 have hi:atI vs (k:Int)=aa g:=by
  have m:=(cA.mp hv).1;unfold atI ixN;rw[if_pos (Int.natCast_nonneg k),if_pos (by lia)]
  simpa using hv
 have e:=G t v fp g f2 l y es B (x.trans b) (rt.up b.f b.h) (w.up b.f b.h)
 rcases ha with ha |ha
 .show .inl (a,vs,k,g,rfl,rfl,SqL.of (b.h _ _ ha),hi,e)
 .show .inr (a,vs,k,g,rfl,rfl,SqT.of (b.h _ _ ha),hi,e)
def Ff(h:PS X st (jD (wx X.K "list" wB (tDP (Gx c X) i p)))):DS c X st (mK i p):=PS.imp h λS5 J H C=>by
 have(Hf0,H0,Hf,U,o,m,d,B):=C;have(q,n,d):=a8 d;split at d
 .rename_i os A;cases d;show(Hf0,H0,Hf,U,q.1,q.2,m,n,λt v fp v1 f1 e E es w x rt F=>?_);have r:=F.r;rw[A]at r;have(l,us,fs,el,j,_,g):=r;subst el;have hm:l∈f1:=by rw[g];show aB
  show(.inl (rfl,_,SqL.of j),l,us,rfl,rfl,j,B J e _ x.f ?_);show m.foc es w rt x F (λb u y hn=>by rw[aK (λz=>hn (by rw[z];show hm))];show y) (l,[],[],rfl,a9,(rfl,rfl),rfl) (bW.mpr (bO,fc)) λa ha=>.inl (by rw[cB.mp ha];show hm)
 .nomatch d
def ot(p:Xp)(j:Nat)(U:LS):Option O:=(p U).bind λq=>q.1.items.bind λE=>match U[j]? with
 |some (.own es)=>aa (.tup [.lst (E.map .fz),.lst (es.map .fz)])
 | _=>ac
def NZ{k':Nat}(h:DP c X e i p)(h':PE X e' (cL j))(hs:autoParam (aR (e::[e']) X.env=(ae,eval e X.env,)::aR [e'] X.env) Zb)(w:autoParam (aR [e'] X.env=[(ae,eval e' X.env,)]) Zb):DZ c X ae (.Tuple [e,e'] k' pos) (ot p j):=PE.imp (wj (dE h (dE h' dk w) hs)) λJ H Q q_=>by
 have(Hf0,H0,Hf,U,t,y,d,k):=q_;have(q,I,d):=a8 d;have(E,L,d):=a8 d;split at d
 .rename_i B g;cases d;show(Hf0,H0,Hf,U,q.1,q.2,y,I,λt v fp v1 f1 m H1 es A x rt F=>?_);have(l,el,h0,hf,us,ul,ur):=(y.step x).ownAt rfl g;show(_,el,by change(2:Nat)<=_;decide,λr u=>?_);have G:=F.r;rw[n9 L]at G;have(a,vs,fs,N,ha,rs,n):=G;have(r1,r2):=rs.unfz;subst N r2;have f:=y.step x;have(v',Y,M,C,n0,z0):=f.at' i _ _ A es;cases M;have T:=OT.funM _ _ _ _ rt C;subst T;have hm:a∈fp:=F.sub a (by rw[n];show aB)
  have ne:a≠l:=λz=>by
   have:=f.dj i j _ _ v _ a es g A el (fp,C,hm) ((Holds.own rfl).mpr (by rw[z]));subst this;rw[es]at g
   nomatch g
  show k _ [a,l] m _ (x.trans (Ext.tmp x.s u)) (r,_,rfl,a9,_,_,[a],[l],rfl,(a,vs,[],rfl,bE u _ _ ha,OTs.fz r1,rfl),(_,_,[l],[],rfl,(l,us,[],rfl,bE u _ _ ul,OTs.fz ur,rfl),(rfl,rfl),rfl),rfl) (?_,λb hb=>?_)
  .show bW.mpr (λz=>ne (cB.mp z),bW.mpr (bO,fc))
  .rcases aW.mp hb with z |z
   .subst z;show z0 b hm
   .rw[cB.mp z];show(h0,hf)
 .nomatch d
mutual
noncomputable def O.gl:O->Bool
 |.fz d=>d.gl
 |.lst os=>O.gls os
 |.tup os=>O.gls os
 | _=>ae
noncomputable def O.gls:List O->Bool
 | []=>ab
 |o::os=>o.gl && O.gls os
end
mutual
theorem OT.away(s:∀a o,Hf a=aa o->C a=aa o\/∃vs,o=.lst vs/\NoI vs):∀(o:O) (v:V) (fp:LAd),o.gl=ab->OT G Hf H o v fp->OT G C H o v fp
 |.fz d,_,_,hs,h=>by rw[O.gl]at hs;show(Rep.away s _ _ hs h.1,h.2)
 |.lst os,_,_,hs,(a,vs,fs,e,q,r,ef)=>by rw[O.gl]at hs;show(a,vs,fs,e,q,OTs.away s os vs fs hs r,ef)
 |.tup os,_,fp,hs,(a,vs,e,q,r)=>by rw[O.gl]at hs;show(a,vs,e,q,OTs.away s os vs fp hs r)
 |.dic _ _,_,_,hs,_=>by simp[O.gl]at hs
 |.ins _ _ _,_,_,hs,_=>by simp[O.gl]at hs
 |.jnk _,_,_,hs,_=>by simp[O.gl]at hs
 |.any,_,_,hs,_=>by simp[O.gl]at hs
 |.at _ _,_,_,hs,_=>by simp[O.gl]at hs
 |.dT _ _,_,_,hs,_=>by simp[O.gl]at hs
theorem OTs.away(s:∀a o,Hf a=aa o->C a=aa o\/∃vs,o=.lst vs/\NoI vs):∀(os:List O) (vs:LVv) (fp:LAd),O.gls os=ab->OTs G Hf H os vs fp->OTs G C H os vs fp
 | [],_,_,_,h=>h
 |o::os,_,_,hs,q4_=>by
  have(v,r,f1,f2,e,c,d,b):=q4_;rw[O.gls,bV]at hs;show(v,r,f1,f2,e,OT.away s o v f1 hs.1 c,OTs.away s os r f2 hs.2 d,b)
end
open Classical in
def boT(Hf H:Hp):Hp:=λa=>match Hf a with
 |some o=>aa o
 |none=>match H a with
  |some (.lst vs)=>if NoI vs then aa (.lst vs) else ac
  |some (.tup vs)=>aa (.tup vs)
  | _=>ac
variable{a:Addr}
def qe{o:HO}(h:Hf a=aa o):boT Hf H a=aa o:=by unfold boT;rw[h]
variable{vs:LVv}
def Fg(s:aq Hf H)(h':H a=aa (.lst vs))(n:NoI vs):boT Hf H a=aa (.lst vs):=by
 cases h:Hf a with
 |some o=>rw[qe h,<- s a _ h,h']
 |none=>unfold boT;rw[h];change(match H a with |some (.lst vs)=>_ |some (.tup vs)=>_ | _=>_)=_;rw[h'];show if_pos n
def Fh(s:aq Hf H)(h':H a=aa (.tup vs)):boT Hf H a=aa (.tup vs):=by
 cases h:Hf a with
 |some o=>rw[qe h,<- s a _ h,h']
 |none=>unfold boT;rw[h];change(match H a with |some (.lst vs)=>_ |some (.tup vs)=>_ | _=>_)=_;rw[h']
def yb{o:HO}(h:boT Hf H a=aa o):Hf a=aa o\/(Hf a=ac/\H a=aa o/\(dY o=ab\/∃vs,o=.lst vs/\NoI vs)):=by
 unfold boT at h;split at h
 .rename_i o' e;left;rw[e];show h
 .rename_i e;right;show(e,?_);split at h
  .rename_i vs e';split at h
   .rename_i n;cases h;show(e',.inr (vs,rfl,n))
   .nomatch h
  .rename_i vs e';cases h;show(e',.inl rfl)
  .nomatch h
def N0:aq Hf (boT Hf H):=λ_ _ e=>qe e
def N1(s:aq Hf H):aq (boT Hf H) H:=λa o e=>by
 rcases yb e with h |⟨_,h,_⟩
 .show s a o h
 .show h
def N2{C H':Hp}(x:Ext Hf H C H'):aq (boT Hf H) (boT C H'):=λa o e=>by
 rcases yb e with h |⟨h0,h,t |⟨vs,ev,n⟩⟩
 .show qe (x.f a o h)
 .cases o with
  |tup vs=>show Fh x.s (x.h a _ h)
  | _=>nomatch t
 .subst ev;show Fg x.s (x.h a _ h) n
variable{cc H2:Hp}
def N3(s:aq Hf H)(x:Ext (boT Hf H) H cc H2):Ext Hf H (aft Hf H cc) H2:=by
 show(λa o e=>ud e,x.h,λa o e=>?_,λl o e t=>?_)
 .cases b:Hf a with
  |some o'=>rw[ud b]at e;cases e;show x.h a _ (s a _ b)
  |none=>
   by_cases q:∃o,H a=aa o/\dY o=ae
   .have(o',c,d):=q;rw[EF b c d]at e;nomatch e
   .rw[xO b q]at e;show x.s a o e
 .cases b:Hf l with
  |some o'=>show ud b
  |none=>show EF b e t
def N4(x:Ext (boT Hf H) H cc H2):∀a o,cc a=aa o->aft Hf H cc a=aa o\/∃vs,o=.lst vs/\NoI vs:=λa o e=>by
 cases b:Hf a with
 |some o'=>
  have:=x.f a o' (qe b);rw[this]at e;cases e
  show .inl (ud b)
 |none=>
  by_cases q:∃o,H a=aa o/\dY o=ae
  .have(o',c,d):=q;rw[x.n a o' c d]at e
   rcases yb e with h |⟨_,h,t |h⟩
   .rw[b]at h;nomatch h
   .rw[c]at h;cases h;rw[d]at t;nomatch t
   .show .inr h
  .left;rw[xO b q];show e
abbrev D.nint:D->Bool
 |.int _=>ae
 | _=>ab
abbrev N5:List O->Bool
 | []=>ab
 |.fz d::_=>d.nint
 |.lst _::_=>ab
 |.tup _::_=>ab
 | _=>ae
mutual
noncomputable def O.ni:O->Bool
 |.fz _=>ab
 |.lst os=>N5 os && O.nis os
 |.tup os=>O.nis os
 | _=>ae
noncomputable def O.nis:List O->Bool
 | []=>ab
 |o::os=>o.ni && O.nis os
end
variable{d:D}
def Rep.nint{i:Int}(h:d.nint=ab)(r:Rep G H d (.int i)):False:=by
 cases d with
 |int _=>nomatch h
 |non=>cases (show V.int i=V.non from r)
 |bl _=>cases (show V.int i=V.bl _ from r)
 |str _=>cases (show V.int i=V.str _ from r)
 |lst _=>have(_,_,e,_):=r;nomatch e
 |tup _=>have(_,_,e,_):=r;nomatch e
 |kl _=>have(_,_,e,_):=r;nomatch e
 |kt _=>have(_,_,e,_):=r;nomatch e
 |dic _ _=>have(_,_,e,_):=r;nomatch e
 |ins _ _ _=>have(_,_,_,e,_):=r;nomatch e
 |kd _ _=>have(_,_,_,e,_):=r;nomatch e
 |dT _ _=>have(_,_,e,_):=r;nomatch e
mutual
theorem OT.bor(s:aq Hf H):∀(o:O) (v:V) (fp:LAd),o.ni=ab->OT G Hf H o v fp->Rep G (boT Hf H) o.toD v
 |.fz d,_,_,_,h=>by rw[O.toD];show h.1.up N0
 |.lst os,_,_,hs,q4_=>by
  have(a,vs,fs,e,q,r,g):=q4_;rw[O.ni,bV]at hs;rw[O.toD];show(a,vs,e,Fg s q λi z f=>?_,OTs.bor s os vs fs hs.2 r);subst f
  cases os with
  |nil=>nomatch r.1
  |cons o os=>
   have(v,_,_,_,c,b,_):=r;cases c
   cases o with
   |fz d=>show Rep.nint hs.1 b.1
   |lst _=>have(_,_,_,e,_):=b;nomatch e
   |tup _=>have(_,_,e,_):=b;nomatch e
   | _=>nomatch hs.1
 |.tup os,_,fp,hs,q4_=>by
  have(a,vs,e,q,r):=q4_;rw[O.ni]at hs;rw[O.toD]
  show(a,vs,e,Fh s q,OTs.bor s os vs fp hs r)
 |.dic _ _,_,_,hs,_=>by simp[O.ni]at hs
 |.ins _ _ _,_,_,hs,_=>by simp[O.ni]at hs
 |.jnk _,_,_,hs,_=>by simp[O.ni]at hs
 |.any,_,_,hs,_=>by simp[O.ni]at hs
 |.at _ _,_,_,hs,_=>by simp[O.ni]at hs
 |.dT _ _,_,_,hs,_=>by simp[O.ni]at hs
theorem OTs.bor(s:aq Hf H):∀(os:List O) (vs:LVv) (fp:LAd),O.nis os=ab->OTs G Hf H os vs fp->ak G (boT Hf H) (O.toDs os) vs
 | [],_,_,_,h=>by rw[O.toDs];show h.1
 |o::os,_,_,hs,q4_=>by
  have(v,r,f1,f2,e,a,b,c):=q4_;rw[O.nis,bV]at hs;rw[O.toDs];show(v,r,e,OT.bor s o v f1 hs.1 a,OTs.bor s os r f2 hs.2 b)
end
inductive Fi(G:Gc)(f:MF1)(J:St)(H:Hp)(Q:VK):Prop
 |mk:∀Hf0 H0 Hf U d,au G Hf0 H0 Hf H J U->f U=aa d->(∀v C H',Ext Hf H C H'->Rep G (boT C H') d v->Q v H')->Fi G f J H Q
inductive Fj(G:Gc)(f:MF2)(J:St)(H:Hp)(Q:LVv->Hp->Prop):Prop
 |mk:∀Hf0 H0 Hf U E,au G Hf0 H0 Hf H J U->f U=aa E->(∀vs C H',Ext Hf H C H'->ak G (boT C H') E vs->Q vs H')->Fj G f J H Q
def DNT(c:Str->Addr)(X:Cx)(e:Expr)(f:MF1):Prop:=PE X e (Fi (Gx c X) f)
structure uj(c:Str->Addr)(X:Cx)(es:LEx)(f:MF2):Prop where
 pa:PA X es (Fj (Gx c X) f)
 len:∀U E,f U=aa E->E.length=es.length
def pN(p:Xp)(U:LS):OD:=(p U).bind λq=>if q.1.ni then aa q.1.toD else ac
def yc(h:DP c X e i p):DNT c X e (pN p):=PE.imp h λJ H Q l=>by
 have(Hf0,H0,Hf,U,d,m,a,j):=l;have(q,f,a):=a8 a;split at a
 .rename_i g;cases a;show(Hf0,H0,Hf,U,q.1,q.2,m,f,λt v fp v1 f1 b n es u x rt F=>j _ _ _ x (OT.bor x.s _ _ _ g F.r))
 .nomatch a
def N6:uj c X [] nZ:=(PA.imp dk λJ H Q b=>by have(Hf0,H0,Hf,U,E,st,a,k):=b;cases a;show k [] Hf H (Ext.refl st.sub) rfl,λU E h=>by cases h;rfl)
def yd{f:MF1}{g:MF2}(ha:DNT c X e f)(j:uj c X es g)(p:autoParam (StE X e es) Zb):uj c X (e::es) (ag f g):=by
 show(PA.imp (dE ha j.pa p) λJ H Q q=>?_,λU E h=>?_)
 .have(Hf0,H0,Hf,U,E,st,n,k):=q;have(d,r,i,b,rfl):=kG n;show(Hf0,H0,Hf,U,d,st,i,λv a x l u=>(Hf0,H0,a,U,r,st.step l,b,λvs cc H2 m w=>k _ cc H2 (l.trans m) (.cons (u.up (N2 m)) w)))
 .have(d,r,i,b,rfl):=kG h;simp[j.len U r b]
def ou(m:LD->Option O)(f:MF2)(U:LS):Option O:=(f U).bind λE=>(m E).bind λo=>if o.gl then aa o else ac
variable{p:Pos}{m:LD->Option O}
def N7(pk:Pk X.prog X.w X.K X.mg X.base CX0 k x (f,fd,) ps (spT (Gx c X) ps.length m))(n:bo k0 X.A)(ha:uj c X (e::es) fa)(L:autoParam ((e::es).length=ps.length) Zb)(i:autoParam (NDb x) Zc)(G:autoParam (StE X e es) Zb)(l:autoParam (BkE X pos es) Zb)(j:autoParam (k<=k0) Zc)(I:autoParam (Gl X x) Zi):
  DZ c X ab (.Call (.Name x p) (e::es) [] pos) (ou m fa):=PE.imp (nu pk.ok (n.mono j) I pk.g pk.kp pk.b .nil gy ha.pa i G l) λJ H Q q=>by
 have(Hf0,H0,Hf,U,o,st,d,N):=q;have(E,v,d):=a8 d;have(o',B,d):=a8 d;split at d
 .rename_i M;cases d;show(Hf0,H0,Hf,U,E,st,v,λvs C H' x r=>?_);rw[bB];show(boT C H',E,o,N1 x.s,r,(ha.len U E v).trans L,B,λu fp cc H2 y T z=>?_);show N u fp (aft C H' cc) H2 (x.trans (N3 x.s y)) (OT.away (N4 y) _ _ _ M T) (z.1,λa ha=>(x.h.free (z.2 a ha).1,?_));have hn:=(z.2 a ha).1;rw[xO (x.s.free hn) (λq=>by have(o,h,_):=q;rw[hn]at h;nomatch h)];show(z.2 a ha).2
 .nomatch d
variable{E:LD}
def N8{f:MF2}{o:O}(h:f U=aa E)(h':m E=aa o)(a:o.gl=ab):ou m f U=aa o:=by
 unfold ou;rw[h,aw,h',aw,if_pos a]
end L2
namespace N_k35
open List
open PySem PySem.Spec PyProof.Rows L2
local macro_rules | `(tactic| walk_at "sc")=>`(tactic| exact ⟨rfl,rfl,rfl,by decide +kernel,rfl,by decide +kernel,by decide +kernel⟩)
def top(i:Nat):Stmt:=PySem.Challenge.pw_standstill_k35_spread_walked.main.body.getD i (.Pass (0,0,0,0))
nonrec def s_4:=top 2
nonrec def yf:=top 9
nonrec def yg:=top 10
nonrec def yh:=top 11
nonrec def yi:=top 12
nonrec def yj:=top 13
nonrec def ym:=top 14
nonrec def yn:=top 15
nonrec def s_0:=top 17
nonrec def yo:=top 18
nonrec def yp:=top 20
nonrec def yq:=top 21
nonrec def s_7:=top 22
nonrec def yr:=top 25
nonrec def yt:=top 27
nonrec def s_3:=top 28
nonrec def yu:=top 29
nonrec def s_8:=top 30
nonrec def yv:=top 31
nonrec def yw:=top 32
nonrec def yx:=top 33
nonrec def yy:=top 34
nonrec def yA:=top 35
nonrec def yB:=top 36
nonrec def yC:=top 37
nonrec def s_9:=top 38
nonrec def yD:=top 39
nonrec def s_5:=top 40
nonrec def yE:=top 41
nonrec def yF:=top 42
nonrec def yG:=top 43
nonrec def yH:=top 44
nonrec def yI:=top 45
nonrec def yJ:=top 46
nonrec def yK:=top 47
nonrec def yL:=top 48
nonrec def yM:=top 49
nonrec def yN:=top 50
nonrec def s_1:=top 51
nonrec def yO:=bR (top 5) 0
nonrec def yP:=bR (top 5) 2
nonrec def yQ:=bR (top 5) 3
nonrec def yR:=bR (top 5) 5
nonrec def yS:=bR (top 5) 7
nonrec def yT:=bR (top 5) 8
nonrec def yU:=bR (top 6) 0
nonrec def yV:=bR (top 6) 2
nonrec def yW:=bR (top 6) 3
nonrec def yX:=bR (top 6) 5
nonrec def yY:=bR (top 6) 7
nonrec def yZ:=bR (top 6) 8
nonrec def y3:=bR (top 7) 0
nonrec def y4:=bR (top 7) 2
nonrec def y6:=bR (top 7) 3
nonrec def y7:=bR (top 7) 5
nonrec def y8:=bR (top 7) 7
nonrec def y9:=bR (top 7) 8
nonrec def za:=bR (top 8) 0
nonrec def zb:=bR (top 8) 2
nonrec def zc:=bR (top 8) 3
nonrec def zd:=bR (top 8) 5
nonrec def ze:=bR (top 8) 7
nonrec def zf:=bR (top 8) 8
nonrec def s_6:=bR (top 23) 0
nonrec def zg:=bR (top 23) 1
nonrec def zh:=bR (top 23) 2
nonrec def zi:=bR (top 23) 3
nonrec def zj:=bR (top 23) 4
nonrec def zk:=bR (top 23) 6
nonrec def zl:=bR (top 23) 7
nonrec def zm:=bR (top 23) 8
nonrec def zn:=bR (top 23) 9
nonrec def s_2:=bR (top 23) 10
nonrec def zo:=bR (top 23) 11
nonrec def zp:=bR (top 23) 12
def zq:aF ["many","some","listed","thing"] ["many","some"] (az s_4):=by walk_at "sc"
def Fk:aF ["told","word"] ["told"] (az yf):=by walk_at "sc"
def N9:aF ["items"] ["items"] (az yg):=by walk_at "sc"
def Oa:aF ["items","entries"] ["items","entries"] (az yh):=by walk_at "sc"
def Ob:aF ["items","sheet"] ["items","sheet"] (az yi):=by walk_at "sc"
def Oc:aF ["items","without"] ["items","without"] (az yj):=by walk_at "sc"
def Fm:aF ["items","sheet","lack","weights"] ["items","sheet","lack"] (az ym):=by walk_at "sc"
def zt:aF ["items","weights","thing","worth"] ["items"] (az yn):=by walk_at "sc"
def Fo:aF ["rule"] ["rule"] (az s_0):=by walk_at "sc"
def Fp:aF ["rule","guard"] ["rule"] (az yo):=by walk_at "sc"
def Od:aF ["bar"] ["bar"] (az yp):=by walk_at "sc"
def Fq:aF ["guard","sheet","pairs","part","tips"] ["guard","sheet"] (az yq):=by walk_at "sc"
def Fs:aF ["body","sheet","without","part"] ["body","sheet","without"] (az s_7):=by walk_at "sc"
def qf:aF ["plain","bars","sheet","spreading","why","steps"] ["plain","bars","sheet"] (az yr):=by walk_at "sc"
def Oe:aF ["_law_script","_law_k"] ["_law_script","_law_k"] (az yt):=by walk_at "sc"
def Ft:aF ["_law_cell","_law_many","_law_found","_law_number_here","_law_k"] ["_law_cell","_law_many"] (az s_3):=by walk_at "sc"
def Of:aF ["_law_x"] ["_law_x"] (az yu):=by walk_at "sc"
def uk:aF ["_law_xs","_law_many","_law_word","_law_items","_law_near"] ["_law_xs","_law_many"] (az s_8):=by walk_at "sc"
def zu:aF ["_law_cell","_law_many","_law_calm","_law_xs","_law_parts"] ["_law_cell","_law_many","_law_calm"] (az yv):=by walk_at "sc"
def Fu:aF ["_law_kind","_law_many","_law_rules","_law_k","_law_on","_law_part_here"] ["_law_kind","_law_many"] (az yw):=by walk_at "sc"
def Fv:aF ["_law_rules","_law_found","_law_word","_law_head","_law_parts","_law_mine","_law_part_here"] ["_law_rules"] (az yx):=by walk_at "sc"
def Og:aF ["_law_part_here","_law_sheet_here"] ["_law_part_here","_law_sheet_here"] (az yy):=by walk_at "sc"
def Oh:aF ["_law_rule_here","_law_sheet_here"] ["_law_rule_here","_law_sheet_here"] (az yA):=by walk_at "sc"
def Fw:aF ["_law_part_here","_law_sheet_here","_law_without","_law_left"] ["_law_part_here","_law_sheet_here","_law_without"] (az yB):=by walk_at "sc"
def Oi:aF ["_law_rule_here","_law_sheet_here","_law_without"] ["_law_rule_here","_law_sheet_here","_law_without"] (az yC):=by walk_at "sc"
def zw:aF ["_law_rules","_law_sheet_here","_law_left","_law_going","_law_rule_here"] ["_law_rules","_law_sheet_here"] (az s_9):=by walk_at "sc"
def Oj:aF ["_law_sheet_here","_law_bar_here"] ["_law_sheet_here","_law_bar_here"] (az yD):=by walk_at "sc"
def zx:aF ["_law_rules","_law_sets","_law_bars","_law_sheet_here","_law_why","_law_word","_law_told","_law_without"] ["_law_rules","_law_sets","_law_bars","_law_sheet_here","_law_why"] (az s_5):=by walk_at "sc"
def Ol:aF ["_law_sheet_here","_law_thing","_law_entry"] ["_law_sheet_here","_law_thing","_law_entry"] (az yE):=by walk_at "sc"
def Fx:aF ["_law_cell","_law_many","_law_xs"] ["_law_cell","_law_many"] (az yF):=by walk_at "sc"
def Fy:aF ["_law_cell","_law_many","_law_xs"] ["_law_cell","_law_many"] (az yG):=by walk_at "sc"
def Om:aF ["_law_found"] ["_law_found"] (az yH):=by walk_at "sc"
def On:aF ["_law_why","_law_many"] ["_law_why","_law_many"] (az yI):=by walk_at "sc"
def Oo:aF ["_law_pair","_law_many"] ["_law_pair","_law_many"] (az yJ):=by walk_at "sc"
def Fz:aF ["_law_rules","_law_bars","_law_sheet_here","_law_step","_law_pair","_law_why","_law_thing","_law_truth"] ["_law_rules","_law_bars","_law_sheet_here","_law_step"] (az yK):=by walk_at "sc"
def FA:aF ["_law_rule_here","_law_sheet_here","_law_thing","_law_entry","_law_truth"] ["_law_rule_here","_law_sheet_here"] (az yL):=by walk_at "sc"
def zy:aF ["_law_rules","_law_bars","_law_sheet_here","_law_rule_here","_law_bar_here","_law_lacking"] ["_law_rules","_law_bars","_law_sheet_here"] (az yM):=by walk_at "sc"
def FB:aF ["_law_rules","_law_bars","_law_sheet_here","_law_found","_law_known","_law_ended","_law_step"] ["_law_rules","_law_bars","_law_sheet_here","_law_found"] (az yN):=by walk_at "sc"
def qg:aF ["_law_script","_law_hs","_law_many","_law_rules","_law_cell","_law_sheet_here","_law_bars","_law_handed","_law_found"] ["_law_script"] (az s_1):=by walk_at "sc"
def Op:aF ["self","thing"] ["self","thing"] (az yO):=by walk_at "sc"
def Oq:aF ["self"] ["self"] (az yP):=by walk_at "sc"
def Os:aF ["self"] ["self"] (az yQ):=by walk_at "sc"
def Ot:aF ["self","sheet"] ["self","sheet"] (az yR):=by walk_at "sc"
def Ou:aF ["self","sheet"] ["self","sheet"] (az yS):=by walk_at "sc"
def Ov:aF ["self","sheet","without"] ["self","sheet","without"] (az yT):=by walk_at "sc"
def Ow:aF ["self","thing"] ["self","thing"] (az yU):=by walk_at "sc"
def Ox:aF ["self"] ["self"] (az yV):=by walk_at "sc"
def Oy:aF ["self"] ["self"] (az yW):=by walk_at "sc"
def Oz:aF ["self","sheet"] ["self","sheet"] (az yX):=by walk_at "sc"
def OA:aF ["self","sheet"] ["self","sheet"] (az yY):=by walk_at "sc"
def OB:aF ["self","sheet","without"] ["self","sheet","without"] (az yZ):=by walk_at "sc"
def OC:aF ["self","bound","items"] ["self","bound","items"] (az y3):=by walk_at "sc"
def OE:aF ["self"] ["self"] (az y4):=by walk_at "sc"
def OF:aF ["self"] ["self"] (az y6):=by walk_at "sc"
def OG:aF ["self","sheet"] ["self","sheet"] (az y7):=by walk_at "sc"
def FC:aF ["self","sheet","lack"] ["self","sheet"] (az y8):=by walk_at "sc"
def OH:aF ["self","sheet","without"] ["self","sheet","without"] (az y9):=by walk_at "sc"
def OI:aF ["self","bound","items"] ["self","bound","items"] (az za):=by walk_at "sc"
def OJ:aF ["self"] ["self"] (az zb):=by walk_at "sc"
def OK:aF ["self"] ["self"] (az zc):=by walk_at "sc"
def OL:aF ["self","sheet"] ["self","sheet"] (az zd):=by walk_at "sc"
def FD:aF ["self","sheet","lack"] ["self","sheet"] (az ze):=by walk_at "sc"
def OM:aF ["self","sheet","without"] ["self","sheet","without"] (az zf):=by walk_at "sc"
def FE:aF ["self","plain","bars","sheet","rule","number","bar"] ["self","plain","bars","sheet"] (az s_6):=by walk_at "sc"
def FF:aF ["self","why","guard","part","thing"] ["self","why","guard"] (az zg):=by walk_at "sc"
def FG:aF ["self","bar","why"] ["self","bar"] (az zh):=by walk_at "sc"
def qh:aF ["self","bar","wider","pair","why"] ["self","bar"] (az zi):=by walk_at "sc"
def ON:aF ["self","thing","truth","why"] ["self","thing","truth","why"] (az zj):=by walk_at "sc"
def FH:aF ["self","going","why"] ["self"] (az zk):=by walk_at "sc"
def um:aF ["self","why","pairs","thing","truth"] ["self"] (az zl):=by walk_at "sc"
def zA:aF ["self","without","thing","things","is_loose"] ["self"] (az zm):=by walk_at "sc"
def uq:aF ["self","without","used","rest","going","before","unused","maker"] ["self"] (az zn):=by walk_at "sc"
def zB:aF ["self","thing","without","found","place","part"] ["self","thing","without"] (az s_2):=by walk_at "sc"
def OO:aF ["self","thing","without"] ["self","thing","without"] (az zo):=by walk_at "sc"
def OP:aF ["self","part","without"] ["self","part","without"] (az zp):=by walk_at "sc"
set_option genInjectivity false
set_option genSizeOf false
structure Wa where
(e_4 e_37 e_38 e_21 e_11 e_52 e_22 e_23 e_0 e_24 e_53 e_74 e_7 e_54 e_12 e_3 e_13 e_8 e_25 e_26 e_27 e_39 e_14 e_40 e_15 e_9 e_55 e_5 e_16 e_28 e_41 e_29 e_56 e_57 e_30 e_42 e_31 e_17 e_1 e_70 e_43 e_58 e_59 e_60 e_32 e_71 e_44 e_61 e_62 e_63 e_33 e_72 e_45 e_64 e_65 e_46 e_34 e_73 e_47 e_66 e_67 e_48 e_35 e_6 e_18 e_49 e_10 e_50 e_51 e_19 e_36 e_20 e_2 e_68 e_69:Addr×dg)
 cl:Str->Addr
structure Wd(K:aU)(mg:MGT)(a:Wa):Prop where
 e_4:Df K mg "marks" s_4 ["many","some"] a.e_4
 e_37:Df K mg "part_of" yf ["told"] a.e_37
 e_38:Df K mg "things_of" yg ["items"] a.e_38
 e_21:Df K mg "worth_in" yh ["items","entries"] a.e_21
 e_11:Df K mg "worth_not_out" yi ["items","sheet"] a.e_11
 e_52:Df K mg "outside" yj ["items","without"] a.e_52
 e_22:Df K mg "heavy" ym ["items","sheet","lack"] a.e_22
 e_23:Df K mg "weights_of" yn ["items"] a.e_23
 e_0:Df K mg "body_of" s_0 ["rule"] a.e_0
 e_24:Df K mg "guard_of" yo ["rule"] a.e_24
 e_53:Df K mg "guard_of_bar" yp ["bar"] a.e_53
 e_74:Df K mg "pressed_by" yq ["guard","sheet"] a.e_74
 e_7:Df K mg "lost_part" s_7 ["body","sheet","without"] a.e_7
 e_54:Df K mg "spread" yr ["plain","bars","sheet"] a.e_54
 e_12:Df K mg "_law_cell_at" yt ["_law_script","_law_k"] a.e_12
 e_3:Df K mg "_law_mixed" s_3 ["_law_cell","_law_many"] a.e_3
 e_13:Df K mg "_law_worth" yu ["_law_x"] a.e_13
 e_8:Df K mg "_law_part" s_8 ["_law_xs","_law_many"] a.e_8
 e_25:Df K mg "_law_rule" yv ["_law_cell","_law_many","_law_calm"] a.e_25
 e_26:Df K mg "_law_ring" yw ["_law_kind","_law_many"] a.e_26
 e_27:Df K mg "_law_copy" yx ["_law_rules"] a.e_27
 e_39:Df K mg "_law_part_sure" yy ["_law_part_here","_law_sheet_here"] a.e_39
 e_14:Df K mg "_law_broken" yA ["_law_rule_here","_law_sheet_here"] a.e_14
 e_40:Df K mg "_law_part_lost" yB ["_law_part_here","_law_sheet_here","_law_without"] a.e_40
 e_15:Df K mg "_law_holds_up" yC ["_law_rule_here","_law_sheet_here","_law_without"] a.e_15
 e_9:Df K mg "_law_loose" s_9 ["_law_rules","_law_sheet_here"] a.e_9
 e_55:Df K mg "_law_fits" yD ["_law_sheet_here","_law_bar_here"] a.e_55
 e_5:Df K mg "_law_right" s_5 ["_law_rules","_law_sets","_law_bars","_law_sheet_here","_law_why"] a.e_5
 e_16:Df K mg "_law_with" yE ["_law_sheet_here","_law_thing","_law_entry"] a.e_16
 e_28:Df K mg "_law_bar" yF ["_law_cell","_law_many"] a.e_28
 e_41:Df K mg "_law_sheet" yG ["_law_cell","_law_many"] a.e_41
 e_29:Df K mg "_law_number" yH ["_law_found"] a.e_29
 e_56:Df K mg "_law_is_why" yI ["_law_why","_law_many"] a.e_56
 e_57:Df K mg "_law_is_pair" yJ ["_law_pair","_law_many"] a.e_57
 e_30:Df K mg "_law_of_a_sort" yK ["_law_rules","_law_bars","_law_sheet_here","_law_step"] a.e_30
 e_42:Df K mg "_law_presses" yL ["_law_rule_here","_law_sheet_here"] a.e_42
 e_31:Df K mg "_law_at_rest" yM ["_law_rules","_law_bars","_law_sheet_here"] a.e_31
 e_17:Df K mg "_law_walked" yN ["_law_rules","_law_bars","_law_sheet_here","_law_found"] a.e_17
 e_1:Df K mg "law" s_1 ["_law_script"] a.e_1
 e_70:Dm K (a.cl "In") "__init__" "In.__init__" yO ["self","thing"] a.e_70
 e_43:Dm K (a.cl "In") "named" "In.named" yP ["self"] a.e_43
 e_58:Dm K (a.cl "In") "wants" "In.wants" yQ ["self"] a.e_58
 e_59:Dm K (a.cl "In") "sure" "In.sure" yR ["self","sheet"] a.e_59
 e_60:Dm K (a.cl "In") "tips" "In.tips" yS ["self","sheet"] a.e_60
 e_32:Dm K (a.cl "In") "lost" "In.lost" yT ["self","sheet","without"] a.e_32
 e_71:Dm K (a.cl "Out") "__init__" "Out.__init__" yU ["self","thing"] a.e_71
 e_44:Dm K (a.cl "Out") "named" "Out.named" yV ["self"] a.e_44
 e_61:Dm K (a.cl "Out") "wants" "Out.wants" yW ["self"] a.e_61
 e_62:Dm K (a.cl "Out") "sure" "Out.sure" yX ["self","sheet"] a.e_62
 e_63:Dm K (a.cl "Out") "tips" "Out.tips" yY ["self","sheet"] a.e_63
 e_33:Dm K (a.cl "Out") "lost" "Out.lost" yZ ["self","sheet","without"] a.e_33
 e_72:Dm K (a.cl "Least") "__init__" "Least.__init__" y3 ["self","bound","items"] a.e_72
 e_45:Dm K (a.cl "Least") "named" "Least.named" y4 ["self"] a.e_45
 e_64:Dm K (a.cl "Least") "wants" "Least.wants" y6 ["self"] a.e_64
 e_65:Dm K (a.cl "Least") "sure" "Least.sure" y7 ["self","sheet"] a.e_65
 e_46:Dm K (a.cl "Least") "tips" "Least.tips" y8 ["self","sheet"] a.e_46
 e_34:Dm K (a.cl "Least") "lost" "Least.lost" y9 ["self","sheet","without"] a.e_34
 e_73:Dm K (a.cl "Most") "__init__" "Most.__init__" za ["self","bound","items"] a.e_73
 e_47:Dm K (a.cl "Most") "named" "Most.named" zb ["self"] a.e_47
 e_66:Dm K (a.cl "Most") "wants" "Most.wants" zc ["self"] a.e_66
 e_67:Dm K (a.cl "Most") "sure" "Most.sure" zd ["self","sheet"] a.e_67
 e_48:Dm K (a.cl "Most") "tips" "Most.tips" ze ["self","sheet"] a.e_48
 e_35:Dm K (a.cl "Most") "lost" "Most.lost" zf ["self","sheet","without"] a.e_35
 e_6:Dm K (a.cl "Spreading") "__init__" "Spreading.__init__" s_6 ["self","plain","bars","sheet"] a.e_6
 e_18:Dm K (a.cl "Spreading") "take_guard" "Spreading.take_guard" zg ["self","why","guard"] a.e_18
 e_49:Dm K (a.cl "Spreading") "take_bar" "Spreading.take_bar" zh ["self","bar"] a.e_49
 e_10:Dm K (a.cl "Spreading") "drop_wider" "Spreading.drop_wider" zi ["self","bar"] a.e_10
 e_50:Dm K (a.cl "Spreading") "put" "Spreading.put" zj ["self","thing","truth","why"] a.e_50
 e_51:Dm K (a.cl "Spreading") "settle" "Spreading.settle" zk ["self"] a.e_51
 e_19:Dm K (a.cl "Spreading") "look_round" "Spreading.look_round" zl ["self"] a.e_19
 e_36:Dm K (a.cl "Spreading") "put_loose_out" "Spreading.put_loose_out" zm ["self"] a.e_36
 e_20:Dm K (a.cl "Spreading") "loose_marks" "Spreading.loose_marks" zn ["self"] a.e_20
 e_2:Dm K (a.cl "Spreading") "kernel" "Spreading.kernel" s_2 ["self","thing","without"] a.e_2
 e_68:Dm K (a.cl "Spreading") "lost_parts" "Spreading.lost_parts" zo ["self","thing","without"] a.e_68
 e_69:Dm K (a.cl "Spreading") "keeping" "Spreading.keeping" zp ["self","part","without"] a.e_69
 og:mg "In"=aa (.ref (a.cl "In"))
 i2:Cls K (a.cl "In")
 lp:Mk K (a.cl "In") a.e_70.1
 hI:c4 K (a.cl "In") "thing"
 ny:mg "Out"=aa (.ref (a.cl "Out"))
 h6:Cls K (a.cl "Out")
 li:Mk K (a.cl "Out") a.e_71.1
 g2:c4 K (a.cl "Out") "thing"
 na:mg "Least"=aa (.ref (a.cl "Least"))
 gu:Cls K (a.cl "Least")
 j0:Mk K (a.cl "Least") a.e_72.1
 ge:c4 K (a.cl "Least") "bound"
 fy:c4 K (a.cl "Least") "pieces"
 nL:mg "Most"=aa (.ref (a.cl "Most"))
 hF:Cls K (a.cl "Most")
 ky:Mk K (a.cl "Most") a.e_73.1
 gw:c4 K (a.cl "Most") "bound"
 gm:c4 K (a.cl "Most") "pieces"
 kv:mg "Spreading"=aa (.ref (a.cl "Spreading"))
 ad:Cls K (a.cl "Spreading")
 hY:Mk K (a.cl "Spreading") a.e_6.1
 eF:c4 K (a.cl "Spreading") "sheet"
 ff:c4 K (a.cl "Spreading") "steps"
 fx:c4 K (a.cl "Spreading") "bars"
 eD:c4 K (a.cl "Spreading") "guards"
 as:c4 K (a.cl "Spreading") "watches"
 dl:c4 K (a.cl "Spreading") "waiting"
 eH:c4 K (a.cl "Spreading") "makers"
 l0:mg "all"=ac
 ii:mg "any"=ac
 lj:mg "bool"=ac
 hO:mg "enumerate"=ac
 nk:mg "int"=ac
 e6:mg "isinstance"=ac
 md:mg "len"=ac
 h7:mg "list"=ac
 nl:mg "min"=ac
 h9:mg "range"=ac
 mu:mg "set"=ac
 h8:mg "sorted"=ac
 nq:mg "str"=ac
 i1:mg "sum"=ac
 kT:mg "tuple"=ac
 j1:iP K "bool"
 lk:iP K "int"
 ld:iP K "list"
 ll:iP K "str"
 kr:iP K "tuple"
set_option genInjectivity true
set_option genSizeOf true
nonrec abbrev qD(P:bX)(w:World)(K:aU)(mg:MGT)(base:Heap)(a:Wa)(k:Nat)(x:Str)(e:Addr×dg)(ps:LSt)(m:LD->OD):Prop:=Pk P w K mg base CX0 k x e ps (spD (K,a.cl) ps.length m)
nonrec abbrev qO(P:bX)(w:World)(K:aU)(mg:MGT)(base:Heap)(a:Wa)(k:Nat)(x:Str)(e:Addr×dg)(ps:LSt)(m:LD->OLD):Prop:=Pk P w K mg base CX0 k x e ps (spO (K,a.cl) ps.length m)
nonrec abbrev jV(P:bX)(w:World)(K:aU)(mg:MGT)(base:Heap)(a:Wa)(k:Nat)(c x:Str)(e:Addr×dg)(ps:LSt)(m:MTf):Prop:=Pm P w K mg base CX0 k (a.cl c) x e ps (jT (K,a.cl) ps.length m)
nonrec abbrev qPD(P:bX)(w:World)(K:aU)(mg:MGT)(base:Heap)(a:Wa)(k:Nat)(c x:Str)(e:Addr×dg)(ps:LSt)(m:LD->OD):Prop:=Pm P w K mg base CX0 k (a.cl c) x e ps (spD (K,a.cl) ps.length m)
nonrec abbrev qPO(P:bX)(w:World)(K:aU)(mg:MGT)(base:Heap)(a:Wa)(k:Nat)(c x:Str)(e:Addr×dg)(ps:LSt)(m:LD->OLD):Prop:=Pm P w K mg base CX0 k (a.cl c) x e ps (spO (K,a.cl) ps.length m)
def b_3:MF3:=
 (aj (dF 2 nZ)
  (aj (bg 3 (m2 cy (m2 dJ (m2 bu (af 0) (kI 2305843009213693951)) (kI 1315423911)) (kI 48271)))
  (aj (bU (fF (ag (af 1) nZ)) (av 4) (aj (bg 3 (m2 bu (m2 cy (m2 cy (m2 dJ (af 3) (m2 cy (af 3) (kI 69621))) (m2 dJ (kI 7) (af 4))) (kI 1)) (kI 2305843009213693951)))
  (fG 2 (af 3))))
  (fW 2))))
def m_3:=aQ 5 b_3
def zC:MF3:=
 (aj (bg 2 (ar m_3 (ag (af 0) (ag (kI 6) nZ))))
  (aj (aN (mOr (mB (m2 dEq (af 1) (kI 0))) (mB (m2 dEq (m2 bu (mIx (ai 2) (kI 0)) (kI 16)) (kI 0)))) (cE nZ) aS)
  (cE (aV 1 [1,2] (fF (ag (m2 cy (kI 1) (m2 bu (mIx (ai 2) (kI 1)) (ar xN (ag (kI 3) (ag (af 1) nZ))))) nZ)) (av 0) kY (bj (ag (m2 bu (m2 cy (mIx (ai 2) (kI 2)) (af 0)) (af 1)) (ag (m2 dEq (m2 bu (mIx (ai 2) (m2 cy (kI 3) (af 0))) (kI 2)) (kI 0)) nZ)))))))
def ut:=aQ 3 zC
def zD:MF3:=
 (aj (aN (mB (m2 dLt (af 1) (ar cf (ag (af 0) nZ)))) (aA (mIx (ai 0) (af 1))) aS)
  (aA (kI 0)))
def ow:=aQ 2 zD
def uu:MF3:=
 (aj (dF 1 nZ)
  (aj (bU (aL (af 0)) (cg (bd (av 2) (bd (av 3) (bd (av 4) cD)))) (aj (dF 5 nZ)
  (aj (bU (aL (af 4)) (av 6) (aj (aN (mB (m2 dEq (ar cf (ag (af 6) nZ)) (kI 3))) (bg 6 (bj (ag (mIx (ai 6) (kI 0)) (ag (mIx (ai 6) (kI 1)) (ag (aE (aL (mIx (ai 6) (kI 2)))) nZ))))) aS)
  (fG 5 (af 6))))
  (eC 5 (fG 1 (bj (ag (af 2) (ag (af 3) (ag (af 5) nZ)))))))))
  (fW 1)))
def zE:=kL 7 uu
def uv:MF3:=
 (aj (dF 2 nZ)
  (aj (bU (fF (ag (af 1) nZ)) (av 3) (aj (bg 4 (m2 bu (m2 cy (af 3) (kI 1)) (af 1)))
  (aj (bg 5 (mIx (ag kN (ag (bj (ag (kSt "in") (ag (af 3) nZ))) (ag (bj (ag (kSt "out") (ag (af 3) nZ))) (ag (bj (ag (kSt "least") (ag (kI 2) (ag (aE (ag (bj (ag (af 3) (ag (kI 2) nZ))) (ag (bj (ag (af 4) (ag (kI 1) nZ))) nZ))) nZ)))) (ag (bj (ag (kSt "most") (ag (kI 0) (ag (aE (ag (bj (ag (af 3) (ag (kI 1) nZ))) nZ)) nZ)))) nZ))))) (af 0)))
  (aN (mB (m2 dQ (af 5) kN)) (fG 2 (bj (ag (mIx (ag (kSt "make") (ag (kSt "may") nZ)) (m2 kK (m2 bu (m2 dJ (af 3) (af 0)) (kI 5)) (kI 4))) (ag (af 4) (ag (aE (ag (af 5) nZ)) nZ))))) aS))))
  (fW 2)))
def zF:=kL 6 uv
def uw:MF3:=
 (aj (aN (mB (m2 dEq (m2 bu (af 0) (kI 8)) (kI 5))) (aA (m2 bu (m2 dJ (m2 dJ (m2 dJ (af 0) (af 0)) (af 0)) (af 0)) (m2 wR (kI 10) (kI 60)))) aS)
  (aA (mIx (ag (kI 1) (ag (kI 1) (ag (kI 2) (ag (kI 0) (ag (kI 3) (ag (kI 1) (ag (kI 1) (ag (kI 2) nZ)))))))) (m2 bu (m2 kK (af 0) (kI 8)) (kI 8)))))
def qi:=aQ 1 uw
def b_8:MF3:=
 (aj (bg 2 (mIx (ag (kSt "in") (ag (kSt "out") (ag (kSt "in") (ag (kSt "least") (ag (kSt "most") nZ))))) (m2 bu (mIx (ai 0) (kI 0)) (kI 5))))
  (aj (aN (mOr (mB (m2 dEq (af 2) (kSt "in"))) (mB (m2 dEq (af 2) (kSt "out")))) (aA (bj (ag (af 2) (ag (m2 bu (mIx (ai 0) (kI 1)) (af 1)) nZ)))) aS)
  (aj (bg 3 (aE (aV 1 [1,0] (fF (ag (m2 bu (mIx (ai 0) (kI 2)) (kI 4)) nZ)) (av 0) kY (bj (ag (m2 bu (mIx (ai 2) (m2 cy (kI 4) (m2 dJ (kI 2) (af 0)))) (af 1)) (ag (ar qi (ag (mIx (ai 2) (m2 cy (kI 5) (m2 dJ (kI 2) (af 0)))) nZ)) nZ))))))
  (aj (bg 4 (ar fD (ag (aE (aV 2 [] (aL (aE (mSl (af 3) (λ_=>aa ac) (mPt (m2 bu (mIx (ai 0) (kI 3)) (kI 5)))))) (cg (bd (av 0) (bd (av 1) cD))) kY (af 1))) nZ)))
  (aA (bj (ag (af 2) (ag (m2 lV (m2 cy (af 4) (m2 bu (m2 kK (mIx (ai 0) (kI 3)) (kI 5)) (kI 3))) (kI 1)) (ag (af 3) nZ)))))))))
def m_8:=aQ 5 b_8
def zG:MF3:=
 (aj (bg 3 (ar m_3 (ag (af 0) (ag (kI 33) nZ))))
  (aj (aN (mB (m2 dEq (af 1) (kI 0))) (aA (bj (ag (kSt "never") (ag kN (ag (aE (mSl (aE (ag (bj (ag (mIx (ag (kSt "least") (ag (kSt "most") nZ)) (m2 bu (mIx (ai 3) (kI 0)) (kI 2))) (ag (m2 lV (m2 bu (mIx (ai 3) (kI 1)) (kI 3)) (kI 1)) (ag (aE nZ) nZ)))) nZ)) (λ_=>aa ac) (mPt (m2 bu (mIx (ai 3) (kI 2)) (kI 6))))) nZ))))) aS)
  (aj (bg 4 (aE (aV 1 [1,3] (fF (ag (mIx (ag (kI 1) (ag (kI 1) (ag (kI 2) (ag (kI 2) (ag (kI 3) (ag (kI 0) nZ)))))) (m2 bu (mIx (ai 3) (kI 0)) (kI 6))) nZ)) (av 0) kY (ar m_8 (ag (aE (mSl (af 2) (mPt (m2 cy (kI 3) (m2 dJ (kI 10) (af 0)))) (mPt (m2 cy (kI 13) (m2 dJ (kI 10) (af 0)))))) (ag (af 1) nZ))))))
  (aj (aN (d9 (mB (m2 dEq (m2 bu (mIx (ai 3) (kI 1)) (kI 8)) (kI 0))) (d9 (cN (bi (af 2))) (mOr (mB (m2 dNe (af 4) (aE nZ))) (mB (m2 dEq (m2 bu (mIx (ai 3) (kI 2)) (kI 4)) (kI 0)))))) (aA (bj (ag (kSt "never") (ag kN (ag (af 4) nZ))))) aS)
  (aA (bj (ag (mIx (ag (kSt "make") (ag (kSt "may") nZ)) (m2 bu (m2 kK (mIx (ai 3) (kI 1)) (kI 8)) (kI 2))) (ag (m2 bu (m2 kK (mIx (ai 3) (kI 2)) (kI 4)) (af 1)) (ag (af 4) nZ)))))))))
def zH:=aQ 5 zG
def zJ:MF3:=
 (aj (bg 2 (ar m_3 (ag (af 0) (ag (m2 cy (af 1) (kI 1)) nZ))))
  (aj (aN (mB (m2 dEq (m2 bu (mIx (ai 2) (af 1)) (kI 3)) (kI 0))) (cE (aV 1 [] (aL (aE (mSl (af 2) (λ_=>aa ac) (mPt (af 1))))) (av 0) kY kN)) aS)
  (cE (aV 1 [] (aL (aE (mSl (af 2) (λ_=>aa ac) (mPt (af 1))))) (av 0) kY (mIx (ag kN (ag kN (ag kN (ag (kBl ab) (ag (kBl ae) nZ))))) (m2 bu (af 0) (kI 5)))))))
def zK:=aQ 3 zJ
def zM:MF3:=
 (aj (aN (mB (m2 dEq (mIx (ai 0) (kI 0)) (kSt "in"))) (aA (m2 dIs (mIx (ai 1) (mIx (ai 0) (kI 1))) (kBl ab))) aS)
  (aj (aN (mB (m2 dEq (mIx (ai 0) (kI 0)) (kSt "out"))) (aA (m2 dIs (mIx (ai 1) (mIx (ai 0) (kI 1))) (kBl ae))) aS)
  (aj (aN (mB (m2 dEq (mIx (ai 0) (kI 0)) (kSt "least"))) (aA (m2 dGe (ar fD (ag (aE (aV 2 [1] (aL (mIx (ai 0) (kI 2))) (cg (bd (av 0) (bd (av 1) cD))) (mB (m2 dIs (mIx (ai 2) (af 0)) (kBl ab))) (af 1))) nZ)) (mIx (ai 0) (kI 1)))) aS)
  (aA (m2 dLe (ar fD (ag (aE (aV 2 [1] (aL (mIx (ai 0) (kI 2))) (cg (bd (av 0) (bd (av 1) cD))) (mB (m2 dQ (mIx (ai 2) (af 0)) (kBl ae))) (af 1))) nZ)) (mIx (ai 0) (kI 1)))))))
def ux:=aQ 2 zM
def zN:MF3:=
 (aj (aN (mOr (mB (m2 dEq (mIx (ai 0) (kI 0)) (kSt "may"))) (d9 (mB (m2 dEq (mIx (ai 0) (kI 0)) (kSt "make"))) (mB (m2 dQ (mIx (ai 1) (mIx (ai 0) (kI 1))) (kBl ae))))) (aA (kBl ae)) aS)
  (aA (ar kP (ag (aE (aV 1 [1] (aL (mIx (ai 0) (kI 2))) (av 0) kY (ar ux (ag (af 0) (ag (af 1) nZ))))) nZ))))
def ox:=aQ 2 zN
def zO:MF3:=
 (aj (aN (mB (m2 dEq (mIx (ai 0) (kI 0)) (kSt "in"))) (aA (vOr (m2 dIs (mIx (ai 1) (mIx (ai 0) (kI 1))) (kBl ae)) (mIx (ai 2) (mIx (ai 0) (kI 1))))) aS)
  (aj (aN (mB (m2 dEq (mIx (ai 0) (kI 0)) (kSt "out"))) (aA (m2 dIs (mIx (ai 1) (mIx (ai 0) (kI 1))) (kBl ab))) aS)
  (aj (aN (mB (m2 dEq (mIx (ai 0) (kI 0)) (kSt "least"))) (aj (bg 3 (aE (aV 2 [1,2] (aL (mIx (ai 0) (kI 2))) (cg (bd (av 0) (bd (av 1) cD))) (d9 (mB (m2 dQ (mIx (ai 2) (af 0)) (kBl ae))) (cN (bi (mIx (ai 3) (af 0))))) (af 1))))
  (aA (m2 dLt (ar fD (ag (af 3) nZ)) (mIx (ai 0) (kI 1))))) aS)
  (aA (m2 dGt (ar fD (ag (aE (aV 2 [1] (aL (mIx (ai 0) (kI 2))) (cg (bd (av 0) (bd (av 1) cD))) (mB (m2 dIs (mIx (ai 2) (af 0)) (kBl ab))) (af 1))) nZ)) (mIx (ai 0) (kI 1)))))))
def zP:=aQ 4 zO
def uz:MF3:=
 (aj (aN (mOr (mB (m2 dEq (mIx (ai 0) (kI 0)) (kSt "never"))) (cN (bi (mIx (ai 2) (mIx (ai 0) (kI 1)))))) (aA (kBl ae)) aS)
  (aA (fB (ar f7 (ag (aE (aV 1 [1,2] (aL (mIx (ai 0) (kI 2))) (av 0) kY (ar zP (ag (af 0) (ag (af 1) (ag (af 2) nZ)))))) nZ)))))
def uA:=aQ 3 uz
def b_9:MF3:=
 (aj (dF 2 (aV 1 [] (aL (af 1)) (av 0) kY (m2 dQ (af 0) (kBl ae))))
  (aj (bg 3 (kBl ab))
  (aj (fX (bi (af 3)) (aj (bg 3 (kBl ae))
  (bU (aL (af 0)) (av 4) (aN (bi (me uA (ag (af 4) (ag (af 1) (ag (c6 2) nZ))))) (aj (iR 2 (mIx (ai 4) (kI 1)) (kBl ae))
  (bg 3 (kBl ab))) aS))) 1000000000)
  (fW 2))))
def m_9:=aQ 5 b_9
def zQ:MF3:=
 (cE (iT (aE (iT (aE (mSl (af 0) (λ_=>aa ac) (mPt (af 1)))) (aE (ag (af 2) nZ)))) (aE (mSl (af 0) (mPt (m2 cy (af 1) (kI 1))) (λ_=>aa ac)))))
def qj:=aQ 3 zQ
def zR:MF3:=
 (aj (bU (il (ag (af 1) nZ)) (cg (bd (av 2) (bd (av 3) cD))) (aN (mB (m2 dIs (af 3) kN)) (bU (aL (bj (ag (kBl ab) (ag (kBl ae) nZ)))) (av 4) (aN (bi (ar ox (ag (af 0) (ag (ar qj (ag (af 1) (ag (af 2) (ag (af 4) nZ)))) nZ)))) (aA (kBl ab)) aS)) aS))
  (aA (kBl ae)))
def zS:=aQ 5 zR
def zT:MF3:=
 (aj (bU (aL (af 0)) (av 3) (aN (mOr (bi (ar ox (ag (af 3) (ag (af 2) nZ)))) (bi (ar zS (ag (af 3) (ag (af 2) nZ))))) (aA (kBl ae)) aS))
  (aj (bU (aL (af 1)) (av 4) (aj (bg 5 (aE (aV 2 [2] (aL (af 4)) (cg (bd (av 0) (bd (av 1) cD))) (mB (m2 dNe (mIx (ai 2) (af 0)) (af 1))) (af 0))))
  (aN (mOr (mB (m2 dEq (af 5) (aE nZ))) (d9 (mB (m2 dEq (ar cf (ag (af 5) nZ)) (kI 1))) (mB (m2 dIs (mIx (ai 2) (mIx (ai 5) (kI 0))) kN)))) (aA (kBl ae)) aS)))
  (aA (fB (ar f7 (ag (ar m_9 (ag (af 0) (ag (af 2) nZ))) nZ))))))
def zU:=aQ 6 zT
def zV:MF3:=
 (aA (eV (fE "int" (af 0)) (eV (fB (fE "bool" (af 0))) (m2 dGe (af 0) (kI 0)))))
def qk:=aQ 1 zV
def zW:MF3:=
 (aj (aN (mOr (cN (bi (fE "tuple" (af 0)))) (mB (m2 dNe (ar cf (ag (af 0) nZ)) (kI 2)))) (aA (kBl ae)) aS)
  (aA (eV (ar qk (ag (mIx (ai 0) (kI 0)) nZ)) (eV (m2 dLt (mIx (ai 0) (kI 0)) (af 1)) (fE "bool" (mIx (ai 0) (kI 1)))))))
def zX:=aQ 2 zW
def zY:MF3:=
 (aj (aN (mOr (cN (bi (fE "tuple" (af 0)))) (mOr (mB (m2 dNe (ar cf (ag (af 0) nZ)) (kI 2))) (cN (bi (fE "str" (mIx (ai 0) (kI 0))))))) (aA (kBl ae)) aS)
  (aj (aN (mOr (mB (m2 dEq (mIx (ai 0) (kI 0)) (kSt "rule"))) (mB (m2 dEq (mIx (ai 0) (kI 0)) (kSt "bar")))) (aA (ar qk (ag (mIx (ai 0) (kI 1)) nZ))) aS)
  (aj (aN (mOr (mB (m2 dNe (mIx (ai 0) (kI 0)) (kSt "group"))) (cN (bi (fE "list" (mIx (ai 0) (kI 1)))))) (aA (kBl ae)) aS)
  (aj (aN (bi (ar f7 (ag (aE (aV 1 [1] (aL (mIx (ai 0) (kI 1))) (av 0) kY (vOr (fB (ar qk (ag (af 0) nZ))) (m2 dGe (af 0) (af 1))))) nZ))) (aA (kBl ae)) aS)
  (aA (m2 dEq (my (mIx (ai 0) (kI 1))) (ar cf (ag (mIx (ai 0) (kI 1)) nZ))))))))
def zZ:=aQ 2 zY
def z4:MF3:=
 (aA (ar kP (ag (aE (aV 2 [0] (aL (af 1)) (cg (bd (av 0) (bd (av 1) cD))) kY (m2 dEq (mIx (ai 2) (af 0)) (af 1)))) nZ)))
def z5:=aQ 2 z4
def b_5:MF3:=
 (aj (jP (cg (bd (av 5) (bd (av 6) cD))) (af 4))
  (aj (aN (mB (m2 dEq (af 5) (kSt "rule"))) (aA (eV (m2 dLt (af 6) (ar cf (ag (af 0) nZ))) (ar ox (ag (mIx (ai 0) (af 6)) (ag (af 3) nZ))))) aS)
  (aj (aN (mB (m2 dEq (af 5) (kSt "bar"))) (aA (eV (m2 dLt (af 6) (ar cf (ag (af 2) nZ))) (ar z5 (ag (af 3) (ag (mIx (ai 2) (af 6)) nZ))))) aS)
  (aj (aN (d9 (mB (m2 dEq (af 5) (kSt "world"))) (mB (m2 dLt (af 6) (ar cf (ag (af 1) nZ))))) (aA (m2 dEq (af 3) (aE (aV 1 [1,6] (fF (ag (ar cf (ag (af 3) nZ)) nZ)) (av 0) kY (m2 dIn (af 0) (mIx (ai 1) (af 2))))))) aS)
  (aj (aN (mB (m2 dEq (af 5) (kSt "world"))) (aA (kBl ae)) aS)
  (aj (aN (cN (bi (ar f7 (ag (aE (aV 1 [3] (aL (af 6)) (av 0) kY (m2 dIs (mIx (ai 1) (af 0)) (kBl ab)))) nZ)))) (aA (kBl ae)) aS)
  (aj (bg 7 (aE (aV 1 [6] (fF (ag (ar cf (ag (af 3) nZ)) nZ)) (av 0) kY (m2 dIn (af 0) (af 1)))))
  (aA (fB (ar f7 (ag (aE (aV 1 [3,7] (aL (af 0)) (av 0) kY (ar uA (ag (af 0) (ag (af 1) (ag (af 2) nZ)))))) nZ)))))))))))
def m_5:=aQ 8 b_5
def z6:MF3:=
 (aj (aN (mOr (cN (bi (fE "tuple" (af 3)))) (mOr (mB (m2 dNe (ar cf (ag (af 3) nZ)) (kI 2))) (cN (bi (ar zZ (ag (mIx (ai 3) (kI 1)) (ag (ar cf (ag (af 2) nZ)) nZ))))))) (aA (kBl ae)) aS)
  (aj (jP (cg (bd (av 4) (bd (av 5) cD))) (af 3))
  (aj (aN (mB (m2 dIs (af 4) kN)) (aA (ar m_5 (ag (af 0) (ag (aE nZ) (ag (af 1) (ag (af 2) (ag (af 5) nZ))))))) aS)
  (aj (aN (mOr (cN (bi (ar zX (ag (af 4) (ag (ar cf (ag (af 2) nZ)) nZ))))) (mB (m2 dQ (mIx (ai 2) (mIx (ai 4) (kI 0))) kN))) (aA (kBl ae)) aS)
  (aj (jP (cg (bd (av 6) (bd (av 7) cD))) (af 4))
  (aj (aN (cN (bi (ar m_5 (ag (af 0) (ag (aE nZ) (ag (af 1) (ag (ar qj (ag (af 2) (ag (af 6) (ag (fB (af 7)) nZ)))) (ag (af 5) nZ)))))))) (aA (kBl ae)) aS)
  (aj (aN (mB (m2 dEq (mIx (ai 5) (kI 0)) (kSt "rule"))) (aA (fB (ar ox (ag (mIx (ai 0) (mIx (ai 5) (kI 1))) (ag (af 2) nZ))))) aS)
  (aj (aN (mB (m2 dEq (mIx (ai 5) (kI 0)) (kSt "bar"))) (aA (m2 eX (bj (ag (af 6) (ag (fB (af 7)) nZ))) (mIx (ai 1) (mIx (ai 5) (kI 1))))) aS)
  (aA (eV (m2 dIs (af 7) (kBl ae)) (eV (m2 eX (af 6) (mIx (ai 5) (kI 1))) (mIx (aL (ar m_9 (ag (af 0) (ag (af 2) nZ)))) (af 6)))))))))))))
def uB:=aQ 8 z6
def z7:MF3:=
 (aj (aN (mOr (cN (bi (fE "tuple" (af 3)))) (mB (m2 dNe (ar cf (ag (af 3) nZ)) (kI 2)))) (aA (kBl ae)) aS)
  (aj (aN (mOr (cN (bi (fE "list" (mIx (ai 3) (kI 0))))) (cN (bi (fE "list" (mIx (ai 3) (kI 1)))))) (aA (kBl ae)) aS)
  (aj (dF 4 (ai 2))
  (aj (bg 5 (kBl ae))
  (aj (bU (aL (mIx (ai 3) (kI 1))) (av 6) (aj (aN (mOr (bi (af 5)) (cN (bi (ar uB (ag (af 0) (ag (af 1) (ag (c6 4) (ag (af 6) nZ)))))))) (aA (kBl ae)) aS)
  (aN (mB (m2 dIs (mIx (ai 6) (kI 0)) kN)) (bg 5 (kBl ab)) (iR 4 (mIx (aL (mIx (ai 6) (kI 0))) (kI 0)) (mIx (aL (mIx (ai 6) (kI 0))) (kI 1))))))
  (aj (eC 4 (aN (mOr (bi (ar f7 (ag (aE (aV 1 [] (aL (mIx (ai 3) (kI 0))) (av 0) kY (eV (m2 dQ (af 0) kN) (fB (fE "bool" (af 0)))))) nZ))) (mB (m2 dNe (mIx (ai 3) (kI 0)) (af 4)))) (aA (kBl ae)) aS))
  (eC 4 (aA (vOr (af 5) (ar zU (ag (af 0) (ag (af 1) (ag (af 4) nZ)))))))))))))
def uC:=aQ 7 z7
def z8:MF3:=
 (λU=>if 2 < U.length then aj (om 2 3 (bi (af 1)) (gZ (bq "Spreading" "watches" (aZ 0)) (mIx (ai 1) (kI 0))) (aL (af 1)) 1 [3,0] (av 0) (mB (m2 eX (af 0) (aE (gZ (bq "Spreading" "watches" (aZ 2)) (af 1))))) (af 0))
  (eC 2 (bU (aL (af 2)) (av 4) (aN (mB (m2 dEq (mIx (ai 4) (kI 0)) (kSt "bar"))) (bU (aL (mIx (pC (bq "Spreading" "bars" (aZ 0))) (mIx (ai 4) (kI 1)))) (av 3) (oj 0 (jR (bq "Spreading" "watches" (aZ 0)) (af 3)) (af 4))) aS))) U else ac)
def z9:MTf:=gH 5 z8
def Aa:MF3:=
 (cE (ag (bA "In" "thing" (af 0)) nZ))
def uD:=aQ 1 Aa
def Ab:MF3:=
 (aA (kBl ab))
def Ac:=aQ 1 Ab
def Ad:MF3:=
 (cE (mq (aE (aV 2 [] (aL (af 0)) (cg (bd (av 0) (bd (av 1) cD))) kY (af 0)))))
def uE:=aQ 1 Ad
def Ae:MF3:=
 (aA (ar uE (ag (bA "Least" "pieces" (af 0)) nZ)))
def uF:=aQ 1 Ae
def Af:MF3:=
 (aA (kBl ab))
def Ag:=aQ 1 Af
def Ah:MF3:=
 (aA (ar uE (ag (bA "Most" "pieces" (af 0)) nZ)))
def uG:=aQ 1 Ah
def Ai:MF3:=
 (aA (kBl ae))
def Aj:=aQ 1 Ai
def Ak:MF3:=
 (cE (ag (bA "Out" "thing" (af 0)) nZ))
def uH:=aQ 1 Ak
def Al:MF3:=
 (aA (kBl ae))
def Am:=aQ 1 Al
def An:MF3:=
 (aj (oh 0 (bq "Spreading" "guards" (aZ 0)) (af 1) (af 2))
  (aj (bU (aL (af 2)) (av 3) (bU (aL (bp (aY "In" "named" uD (af 3) λ_=>aa []) (bp (aY "Out" "named" uH (af 3) λ_=>aa []) (bp (aY "Least" "named" uF (af 3) λ_=>aa []) (aY "Most" "named" uG (af 3) λ_=>aa []))))) (av 4) (oi 0 1 (bq "Spreading" "watches" (aZ 0)) (bj (ag (af 4) (ag (bp (aY "In" "wants" Ac (af 3) λ_=>aa []) (bp (aY "Out" "wants" Am (af 3) λ_=>aa []) (bp (aY "Least" "wants" Ag (af 3) λ_=>aa []) (aY "Most" "wants" Aj (af 3) λ_=>aa [])))) nZ))))))
  (jS 0 (bq "Spreading" "waiting" (aZ 0)) (af 1))))
def qm:MTf:=gH 5 An
abbrev Ao(a:LD):Option (LSt×LD):=pR 2 [("thing",(af 1),)] a
abbrev uI(a:LD):Option (LSt×LD):=pR 2 [("thing",(af 1),)] a
def Ap:MF3:=
 (cE (aV 2 [] (aL (af 0)) (cg (bd (av 0) (bd (av 1) cD))) kY (vIf (bi (af 1)) (ie "In" Ao (ag (af 0) nZ)) (ie "Out" uI (ag (af 0) nZ)))))
def Aq:=aQ 1 Ap
def Ar:MF3:=
 (aj (gX (eM 0 "Spreading" "drop_wider" z9 (dL (mX (af 1)) fI)))
  (aj (bg 2 (bj (ag (kSt "bar") (ag (ar cf (ag (pB (bq "Spreading" "bars" (aZ 0))) nZ)) nZ))))
  (aj (jS 0 (bq "Spreading" "bars" (aZ 0)) (af 1))
  (gX (eM 0 "Spreading" "take_guard" qm (dL (mX (af 2)) (dL (mX (ar Aq (ag (af 1) nZ))) fI)))))))
def As:MTf:=gH 3 Ar
abbrev At(a:LD):Option (LSt×LD):=pR 3 [("bound",(af 1),),("pieces",(aE (ai 2)),)] a
abbrev FI(a:LD):Option (LSt×LD):=pR 3 [("bound",(af 1),),("pieces",(aE (ai 2)),)] a
def Au:MF3:=
 (aj (bg 1 (mIx (ai 0) (kI 0)))
  (aj (aN (mB (m2 dEq (af 1) (kSt "in"))) (aA (ie "In" Ao (ag (mIx (ai 0) (kI 1)) nZ))) aS)
  (aj (aN (mB (m2 dEq (af 1) (kSt "out"))) (aA (ie "Out" uI (ag (mIx (ai 0) (kI 1)) nZ))) aS)
  (aj (aN (mB (m2 dEq (af 1) (kSt "least"))) (aA (ie "Least" At (ag (mIx (ai 0) (kI 1)) (ag (mIx (ai 0) (kI 2)) nZ)))) aS)
  (aA (ie "Most" FI (ag (mIx (ai 0) (kI 1)) (ag (mIx (ai 0) (kI 2)) nZ))))))))
def Av:=aQ 2 Au
def b_0:MF3:=
 (cE (aV 1 [] (aL (mIx (ai 0) (kI 2))) (av 0) kY (ar Av (ag (af 0) nZ))))
def m_0:=aQ 1 b_0
def o_0:=kL 1 b_0
def Aw:MF3:=
 (aj (aN (mB (m2 dEq (mIx (ai 0) (kI 0)) (kSt "may"))) (cE (ag (ie "Least" At (ag (kI 1) (ag (aE nZ) nZ))) nZ)) aS)
  (aj (dF 1 (jI o_0 (ag (af 0) nZ)))
  (aj (aN (mB (m2 dEq (mIx (ai 0) (kI 0)) (kSt "make"))) (fG 1 (ie "Out" uI (ag (mIx (ai 0) (kI 1)) nZ))) aS)
  (fW 1))))
def uJ:=aQ 2 Aw
def b_6:MF3:=
 (aj (g4 0 "Spreading" "sheet" (aZ 0) (gY (ai 3)))
  (aj (g4 0 "Spreading" "steps" (aZ 0) (gY nZ))
  (aj (g4 0 "Spreading" "bars" (aZ 0) (gY nZ))
  (aj (g4 0 "Spreading" "guards" (aZ 0) (λ_=>aa (.dT [] [])))
  (aj (g4 0 "Spreading" "watches" (aZ 0) (λ_=>aa (.dT [] [])))
  (aj (g4 0 "Spreading" "waiting" (aZ 0) (gY nZ))
  (aj (g4 0 "Spreading" "makers" (aZ 0) (k4 (aE (aV 1 [] (aL (mIx (ai 1) (kI 1))) (av 0) (mB (m2 dQ (mIx (ai 0) (kI 1)) kN)) (bj (ag (mIx (ai 0) (kI 1)) (ag (ar m_0 (ag (af 0) nZ)) nZ)))))))
  (aj (bU (il (ag (mIx (ai 1) (kI 1)) nZ)) (cg (bd (av 5) (bd (av 4) cD))) (gX (eM 0 "Spreading" "take_guard" qm (dL (mX (bj (ag (kSt "rule") (ag (af 5) nZ)))) (dL (mX (ar uJ (ag (af 4) nZ))) fI)))))
  (bU (aL (af 2)) (av 6) (gX (eM 0 "Spreading" "take_bar" As (dL (mX (af 6)) fI))))))))))))
def m_6:MTf:=gH 7 b_6
def Ax:MF3:=
 (aj (oe 0 (bq "Spreading" "sheet" (aZ 0)) (af 1) (af 2))
  (aj (jS 0 (bq "Spreading" "steps" (aZ 0)) (bj (ag (bj (ag (af 1) (ag (af 2) nZ))) (ag (af 3) nZ))))
  (oa 0 (bq "Spreading" "waiting" (aZ 0)) (gZ (bq "Spreading" "watches" (aZ 0)) (bj (ag (af 1) (ag (af 2) nZ)))))))
def uK:MTf:=gH 4 Ax
def Ay:MF3:=
 (aA (m2 dIs (mIx (ai 1) (bA "In" "thing" (af 0))) (kBl ab)))
def Az:=aQ 2 Ay
def AA:MF3:=
 (aA (vIf (mB (m2 dIs (mIx (ai 1) (bA "In" "thing" (af 0))) kN)) (aE (ag (bj (ag (bA "In" "thing" (af 0)) (ag (kBl ab) nZ))) nZ)) (aE nZ)))
def AB:=aQ 2 AA
def AC:MF3:=
 (aA (ar fD (ag (aE (aV 2 [1] (aL (af 0)) (cg (bd (av 0) (bd (av 1) cD))) (mB (m2 dIs (mIx (ai 2) (af 0)) (kBl ab))) (af 1))) nZ)))
def qo:=aQ 2 AC
def AD:MF3:=
 (aA (m2 dGe (ar qo (ag (bA "Least" "pieces" (af 0)) (ag (af 1) nZ))) (bA "Least" "bound" (af 0))))
def AE:=aQ 2 AD
def AF:MF3:=
 (aj (nS 1)
  (aj (bU (aL (af 0)) (cg (bd (av 2) (bd (av 3) cD))) (iQ 1 (af 2) (m2 cy (n5 1 (af 2) (kI 0)) (af 3))))
  (n6 1 (aA (af 1)))))
def AG:=aQ 4 AF
def AH:MF3:=
 (aj (bg 3 (ar AG (ag (aE (aV 1 [1] (aL (af 0)) (av 0) (mB (m2 dIs (mIx (ai 1) (mIx (ai 0) (kI 0))) kN)) (af 0))) nZ)))
  (cE (aV 1 [2,3] (p7 (af 3)) (av 0) (mB (m2 dGe (m2 p8 (af 2) (af 0)) (af 1))) (af 0))))
def uL:=aQ 4 AH
def AI:MF3:=
 (aj (bg 2 (m2 lV (bA "Least" "bound" (af 0)) (ar qo (ag (bA "Least" "pieces" (af 0)) (ag (af 1) nZ)))))
  (cE (aV 1 [] (aL (ar uL (ag (bA "Least" "pieces" (af 0)) (ag (af 1) (ag (af 2) nZ))))) (av 0) kY (bj (ag (af 0) (ag (kBl ab) nZ))))))
def AJ:=aQ 3 AI
def AK:MF3:=
 (aA (ar fD (ag (aE (aV 2 [1] (aL (af 0)) (cg (bd (av 0) (bd (av 1) cD))) (mB (m2 dQ (mIx (ai 2) (af 0)) (kBl ae))) (af 1))) nZ)))
def oy:=aQ 2 AK
def AL:MF3:=
 (aA (m2 dLe (ar oy (ag (bA "Most" "pieces" (af 0)) (ag (af 1) nZ))) (bA "Most" "bound" (af 0))))
def AM:=aQ 2 AL
def AN:MF3:=
 (aj (bg 2 (m2 lV (ar oy (ag (bA "Most" "pieces" (af 0)) (ag (af 1) nZ))) (bA "Most" "bound" (af 0))))
  (cE (aV 1 [] (aL (ar uL (ag (bA "Most" "pieces" (af 0)) (ag (af 1) (ag (af 2) nZ))))) (av 0) kY (bj (ag (af 0) (ag (kBl ae) nZ))))))
def AO:=aQ 3 AN
def AQ:MF3:=
 (aA (m2 dIs (mIx (ai 1) (bA "Out" "thing" (af 0))) (kBl ae)))
def AR:=aQ 2 AQ
def AS:MF3:=
 (aA (vIf (mB (m2 dIs (mIx (ai 1) (bA "Out" "thing" (af 0))) kN)) (aE (ag (bj (ag (bA "Out" "thing" (af 0)) (ag (kBl ae) nZ))) nZ)) (aE nZ)))
def AT:=aQ 2 AS
def AU:MF3:=
 (aj (bg 2 kN)
  (aj (bU (aL (af 0)) (av 3) (aN (cN (bi (bp (aY "In" "sure" Az (af 3) (ag (af 1) nZ)) (bp (aY "Out" "sure" AR (af 3) (ag (af 1) nZ)) (bp (aY "Least" "sure" AE (af 3) (ag (af 1) nZ)) (aY "Most" "sure" AM (af 3) (ag (af 1) nZ))))))) (aj (bg 4 (bp (aY "In" "tips" AB (af 3) (ag (af 1) nZ)) (bp (aY "Out" "tips" AT (af 3) (ag (af 1) nZ)) (bp (aY "Least" "tips" AJ (af 3) (ag (af 1) nZ)) (aY "Most" "tips" AO (af 3) (ag (af 1) nZ))))))
  (aj (bg 2 (vIf (mB (m2 dIs (af 2) kN)) (af 4) (aE (aV 1 [4] (aL (af 2)) (av 0) (mB (m2 eX (af 0) (af 1))) (af 0)))))
  (aN (cN (bi (af 2))) (cE nZ) aS))) aS))
  (aj (aN (mB (m2 dIs (af 2) kN)) (aA kN) aS)
  (cE (aV 2 [] (aL (af 2)) (cg (bd (av 0) (bd (av 1) cD))) kY (bj (ag (af 0) (ag (fB (af 1)) nZ))))))))
abbrev AV(a:LD):Option (LD ⊕ D):=ya 5 AU a
def AW:MF3:=
 (aj (fX (bi (pB (bq "Spreading" "waiting" (aZ 0)))) (aj (iW 1 (qd 0 (bq "Spreading" "waiting" (aZ 0))))
  (aj (bg 2 (ol AV (ag (pB (jR (bq "Spreading" "guards" (aZ 0)) (af 1))) (ag (pB (bq "Spreading" "sheet" (aZ 0))) nZ))))
  (aj (aN (mB (m2 dIs (af 2) kN)) (ic (af 1)) aS)
  (bU (aL (af 2)) (cg (bd (av 3) (bd (av 4) cD))) (gX (eM 0 "Spreading" "put" uK (dL (mX (af 3)) (dL (mX (af 4)) (dL (mX (af 1)) fI))))))))) 1000000000)
  (ic kN))
def AX:MTf:=gH 5 AW
def AY:MF3:=
 (aA (vOr (m2 dIs (mIx (ai 1) (bA "In" "thing" (af 0))) (kBl ae)) (mIx (ai 2) (bA "In" "thing" (af 0)))))
def qp:=aQ 3 AY
def AZ:MF3:=
 (cE (aV 1 [1] (aL (af 0)) (av 0) (cN (bi (mIx (ai 1) (mIx (ai 0) (kI 0))))) (af 0)))
def A0:=aQ 2 AZ
def A1:MF3:=
 (aA (m2 dLt (ar oy (ag (ar A0 (ag (bA "Least" "pieces" (af 0)) (ag (af 2) nZ))) (ag (af 1) nZ))) (bA "Least" "bound" (af 0))))
def qr:=aQ 3 A1
def A2:MF3:=
 (aA (m2 dGt (ar qo (ag (bA "Most" "pieces" (af 0)) (ag (af 1) nZ))) (bA "Most" "bound" (af 0))))
def qt:=aQ 3 A2
def A3:MF3:=
 (aA (m2 dIs (mIx (ai 1) (bA "Out" "thing" (af 0))) (kBl ab)))
def qu:=aQ 3 A3
def b_4:MF3:=
 (aj (nS 2)
  (aj (bU (aL (af 1)) (av 3) (iQ 2 (af 3) (kBl ab)))
  (eC 2 (cE (aV 1 [2] (fF (ag (af 0) nZ)) (av 0) kY (m2 pV (af 0) (af 1)))))))
def m_4:=aQ 4 b_4
def A4:MF3:=
 (aj (aN (bi (bp (aY "In" "lost" qp (af 1) (ag (bA "Spreading" "sheet" (af 0)) (ag (ar m_4 (ag (ar cf (ag (bA "Spreading" "sheet" (af 0)) nZ)) (ag (aE nZ) nZ))) nZ))) (bp (aY "Out" "lost" qu (af 1) (ag (bA "Spreading" "sheet" (af 0)) (ag (ar m_4 (ag (ar cf (ag (bA "Spreading" "sheet" (af 0)) nZ)) (ag (aE nZ) nZ))) nZ))) (bp (aY "Least" "lost" qr (af 1) (ag (bA "Spreading" "sheet" (af 0)) (ag (ar m_4 (ag (ar cf (ag (bA "Spreading" "sheet" (af 0)) nZ)) (ag (aE nZ) nZ))) nZ))) (aY "Most" "lost" qt (af 1) (ag (bA "Spreading" "sheet" (af 0)) (ag (ar m_4 (ag (ar cf (ag (bA "Spreading" "sheet" (af 0)) nZ)) (ag (aE nZ) nZ))) nZ))))))) (cE nZ) aS)
  (cE (aV 1 [2] (aL (bp (aY "In" "named" uD (af 1) λ_=>aa []) (bp (aY "Out" "named" uH (af 1) λ_=>aa []) (bp (aY "Least" "named" uF (af 1) λ_=>aa []) (aY "Most" "named" uG (af 1) λ_=>aa []))))) (av 0) (bi (mIx (ai 1) (af 0))) (af 0))))
def A5:=aQ 3 A4
def b_7:MF3:=
 (aj (bU (aL (af 0)) (av 3) (aN (bi (bp (aY "In" "lost" qp (af 3) (ag (af 1) (ag (af 2) nZ))) (bp (aY "Out" "lost" qu (af 3) (ag (af 1) (ag (af 2) nZ))) (bp (aY "Least" "lost" qr (af 3) (ag (af 1) (ag (af 2) nZ))) (aY "Most" "lost" qt (af 3) (ag (af 1) (ag (af 2) nZ))))))) (fW 3) aS))
  (aA kN))
def m_7:=aQ 4 b_7
def A6:MF3:=
 (cE (aV 2 [2,0,1] (aL (bA "Spreading" "makers" (af 0))) (cg (bd (av 0) (bd (av 1) cD))) (mB (m2 dEq (af 0) (af 4))) (ar m_7 (ag (af 1) (ag (bA "Spreading" "sheet" (af 3)) (ag (af 2) nZ))))))
def A7:=aQ 3 A6
def b_2:MF3:=
 (aj (dF 3 (ag (af 1) nZ))
  (aj (bg 4 (kI 0))
  (aj (fX (mB (m2 dLt (af 4) (ar cf (ag (c6 3) nZ)))) (aj (bU (aL (aY "Spreading" "lost_parts" A7 (af 0) (ag (mIx (ai 3) (af 4)) (ag (af 2) nZ)))) (av 5) (ma 3 (l9 (aE (aV 1 [3] (aL (aY "Spreading" "keeping" A5 (af 0) (ag (af 5) (ag (af 2) nZ)))) (av 0) (mB (m2 lZ (af 0) (c6 1))) (af 0))))))
  (mF 4 (mX (kI 1)))) 1000000000)
  (eC 3 (cE (kZ (af 3)))))))
def m_2:=aQ 6 b_2
def o_2:=kL 6 b_2
def A8:MF3:=
 (aj (dF 1 (aV 1 [] (pC (bq "Spreading" "sheet" (aZ 0))) (av 0) kY (m2 dQ (af 0) (kBl ae))))
  (aj (dF 2 nZ)
  (aj (bg 3 (pD (bq "Spreading" "makers" (aZ 0))))
  (aj (bg 4 (kBl ab))
  (aj (fX (bi (af 4)) (aj (bg 5 (ar cf (ag (c6 2) nZ)))
  (aj (dF 6 nZ)
  (aj (bU (aL (af 3)) (av 7) (aN (d9 (bi (mIx (ai 1) (mIx (ai 7) (kI 0)))) (mB (m2 dIs (ar m_7 (ag (mIx (ai 7) (kI 1)) (ag (pB (bq "Spreading" "sheet" (aZ 0))) (ag (c6 1) nZ)))) kN))) (aj (iR 1 (mIx (ai 7) (kI 0)) (kBl ae))
  (fG 2 (af 7))) (fG 6 (af 7))))
  (aj (eC 6 (bg 3 (af 6)))
  (bg 4 (eV (m2 dGt (ar cf (ag (c6 2) nZ)) (af 5)) (ar f7 (ag (c6 1) nZ)))))))) 1000000000)
  (aj (eC 2 (g4 0 "Spreading" "makers" (aZ 0) (k4 (aE (iT (af 2) (af 3))))))
  (eC 1 (ic (af 1)))))))))
def A9:MTf:=gH 8 A8
def Ba:MF3:=
 (aj (iW 1 (eM 0 "Spreading" "loose_marks" A9 fI))
  (aj (bg 3 (aE (aV 2 [1] (ui (pC (bq "Spreading" "sheet" (aZ 0)))) (cg (bd (av 0) (bd (av 1) cD))) (d9 (bi (mIx (ai 2) (af 0))) (mB (m2 dIs (af 1) (kBl ab)))) (af 0))))
  (aj (aN (bi (af 3)) (ic (bj (ag (kSt "group") (ag (aE (mJ "Spreading" "kernel" o_2 (c6 0) (ag (mIx (ai 3) (kI 0)) (ag (af 1) nZ)))) nZ)))) aS)
  (aj (bU (il (ag (af 1) nZ)) (cg (bd (av 2) (bd (av 4) cD))) (aN (bi (af 4)) (gX (eM 0 "Spreading" "put" uK (dL (mX (af 2)) (dL (mX (kBl ae)) (dL (mX (bj (ag (kSt "group") (ag (aE (mJ "Spreading" "kernel" o_2 (c6 0) (ag (af 2) (ag (af 1) nZ)))) nZ)))) fI))))) aS))
  (ic kN)))))
def Bb:MTf:=gH 5 Ba
def Bc:MF3:=
 (aj (bg 1 (kBl ab))
  (aj (fX (bi (af 1)) (aj (iW 2 (eM 0 "Spreading" "look_round" AX fI))
  (aj (aN (mB (m2 dIs (af 2) kN)) (iW 2 (eM 0 "Spreading" "put_loose_out" Bb fI)) aS)
  (bg 1 (eV (m2 dIs (af 2) kN) (m2 dGt (ar cf (ag (pB (bq "Spreading" "waiting" (aZ 0))) nZ)) (kI 0)))))) 1000000000)
  (ic (af 2))))
def Bd:MTf:=gH 3 Bc
def Be:MF3:=
 (aj (jQ 3 (mH "Spreading" m_6 (ag (af 0) (ag (af 1) (ag (af 2) nZ)))))
  (aj (iW 4 (k6 3 "Spreading" "settle" Bd fI))
  (aj (oq 3 5 "Spreading" "steps")
  (aj (aN (mB (m2 dQ (af 4) kN)) (fG 5 (bj (ag kN (ag (af 4) nZ)))) aS)
  (mC (ot (bq "Spreading" "sheet" (aZ 3)) 5))))))
def uM(a:LD):Option O:=pZ 6 Be a
def b_1:MF3:=
 (aj (bg 1 (ar m_3 (ag (ar ow (ag (af 0) (ag (kI 0) nZ))) (ag (kI 4) nZ))))
  (aj (bg 2 (m2 kK (m2 cy (m2 bu (mIx (ai 1) (kI 0)) (kI 20)) (kI 2)) (kI 3)))
  (aj (dF 3 (jI zF (ag (m2 bu (mIx (ai 1) (kI 1)) (kI 5)) (ag (af 2) nZ))))
  (aj (bU (aL (aE (mSl (af 0) (mPt (kI 3)) (mPt (kI 33))))) (av 4) (fG 3 (ar zH (ag (af 4) (ag (af 2) (ag (m2 dEq (m2 bu (mIx (ai 1) (kI 2)) (kI 2)) (kI 0)) nZ))))))
  (aj (bg 5 (ar zK (ag (ar ow (ag (af 0) (ag (kI 1) nZ))) (ag (af 2) nZ))))
  (aj (bg 6 (aE (aV 1 [2] (aL (ar m_3 (ag (ar ow (ag (af 0) (ag (kI 2) nZ))) (ag (m2 bu (mIx (ai 1) (kI 3)) (kI 5)) nZ)))) (av 0) kY (ar ut (ag (af 0) (ag (af 1) nZ))))))
  (aj (eC 3 (jQ 7 (mE (jm (mz (ag (af 2) nZ) (gY (jI zE (ag (af 3) nZ)))) (jm (gY (aV 1 [] (aL (af 6)) (av 0) kY (aE (ai 0)))) (jm (gY (ai 5)) nZ))))))
  (aj (jQ 8 (ou uM (ag (pN (pIx 0 (aZ 7))) (ag (pN (pIx 1 (aZ 7))) (ag (pN (pIx 2 (aZ 7))) nZ)))))
  (aj (eC 3 (aN (mOr (cN (bi (ar uC (ag (af 3) (ag (af 6) (ag (af 5) (ag (c6 8) nZ))))))) (mB (m2 dNe (c6 7) (aE (ag (bj (ag (af 2) (ag (af 3) nZ))) (ag (af 6) (ag (af 5) nZ))))))) (aA (kBl ae)) aS))
  (aj (mK 7 (pIx 1 (pIx 0 (aZ 7))))
  (aj (mK 7 (pIx 1 (aZ 7)))
  (aj (jS 7 (pIx 2 (aZ 7)) (kBl ab))
  (aj (eC 3 (aN (cN (bi (ar uC (ag (af 3) (ag (af 6) (ag (af 5) (ag (c6 8) nZ))))))) (aA (kBl ae)) aS))
  (aj (mD 8 0)
  (aA (m2 dEq (mIx (aL (c6 7)) (kI 2)) (aE (iT (af 5) (aE (ag (kBl ab) nZ))))))))))))))))))))
def m_1:=aQ 9 b_1
def cmN(s:Scope):LSt:=s.names.tail.filterMap λz=>match z.2 with |.local=>aa z.1 |.free=>aa z.1 | _=>ac
variable{fi:MF2}{g:L2.D->LS->Option LS}{ft:MF4}{fe:MF1}
def OQ{c:Str->Addr}{X:Cx}{d tg iter:Expr}{e:LEx}{scope:Scope}{pos:Pos}(k:Nat)(js:LN)(h:X.calm=ab)(hi:DIe c X tg iter fi)(j:∀cl S4 ex b a,DG c (X.comp scope (cmN scope) cl S4 ex b a) tg k g)(n:∀cl S4 ex b a,DTs c (X.comp scope (cmN scope) cl S4 ex b a) e ft)(i:∀cl S4 ex b a,DE c (X.comp scope (cmN scope) cl S4 ex b a) d fe)(f:autoParam (kE scope X.env.scope.names X.N (cmN scope) k js=ab) Zb)(m:autoParam (∀x,kc iter X.env x=pure x) Zd)(l:autoParam (js.Nodup) Zc):DO c X (.ListComp d [(tg,iter,e,0)] scope pos) (aV k js fi g ft fe):=ib k js _ h hi j n i f m l
seal DSs DS DX DE DO f7 dEq dIn eX pV dIs dQ p8 lZ av cg bd cD cf m2 d9 fG mF mB ar ol jI me iT aV ag dL gX il ui ma eC n6 bA bU n5 aN fE mIx p7 my aE ie aY mJ eM k6 aS fI cN l9 mOr bp mPt iQ iR aA cE ic fW fF aj aL bg nS dF jP iW mSl mq kZ oq bi bj af c6 ai fX om mX oi jS pB pC mK pD oa bq gZ pIx jR pN qd oe oh oj g4 aZ fD eV vIf fB vOr ou mD jm ot k4 mE gY mH mC jQ mz
set_option hygiene false
local macro_rules
|`(@1)=>do
 let a<-Zz.fs "FJ W|OR W|OS W|OU W|FK W|OV W|OW W|OX W|OY W|OZ W|FL W|O0 W|FM W|O1 W|O2 W|O3 W|O4 W|O5 W|O6 W|O7 W|O8 W|O9 W|Pa W|Pb W|Pc W|Pd W|Pe W|Pf W|Pg W|Ph W|Pi W|Pj W|Pl W|Pn W|Po W|Pp W|Pq W|Ps W|Pt W|Pu W|Pw W|Px W|Py W|Pz W|PB W|PD W|PF W|PH W|PJ W|PK W|PL W|FN W|PM W|PN W|PP W|PQ W|PR W|PU W|PV W|PY W|PZ W|P0 W|P1 W|P2 W"
 `(by first $[|$a]*)
|`(@0)=>do
 let a:=#[<-Zz.gr "DE _ _ _ _" ((<-Zz.fs "dv _|bY|gS ? ?|dvc _|Kq|dZ ? ? ?|lR|Lh _ ? ? ?|lT ?|wO|iN ? ? ? ?|eW ? ? rfl W.md PySem.boot_len ?|DE.orE ? ?|wQ ?|pJ ? ?|Ku ? ? ?|pP 1 hr ?|Li _ ? 1 hr ?|Lj _ ? 1 hr|Nt ( e7 _ ? ? ( eK ( pv _ ) ) )|nQ 'In W.lp ( FO W ) .ok % ( glc rfl ) W.og W.e_70.b ?|nQ 'Out W.li ( FP W ) .ok % ( glc rfl ) W.ny W.e_71.b ?|nQ 'In W.lp ( FO W ) .ok % rfl W.og W.e_70.b ?|nQ 'Out W.li ( FP W ) .ok % rfl W.ny W.e_71.b ?|nQ 'Least W.j0 ( P3 W ) .ok % rfl W.na W.e_72.b ?|nQ 'Most W.ky ( P4 W ) .ok % rfl W.nL W.e_73.b ?")++#[<-`(Lean.Parser.Tactic.tacticSeq|refine nK (T := "int") W.lk rfl W.e6 boot_int rfl W.nk ?_)]++#[<-`(Lean.Parser.Tactic.tacticSeq|refine nK (T := "bool") W.j1 rfl W.e6 boot_bool rfl W.lj ?_)]++#[<-`(Lean.Parser.Tactic.tacticSeq|refine nK (T := "tuple") W.kr rfl W.e6 boot_tuple rfl W.kT ?_)]++#[<-`(Lean.Parser.Tactic.tacticSeq|refine nK (T := "str") W.ll rfl W.e6 boot_str rfl W.nq ?_)]++#[<-`(Lean.Parser.Tactic.tacticSeq|refine nK (T := "list") W.ld rfl W.e6 boot_list rfl W.h7 ?_)]++#[<-`(Lean.Parser.Tactic.tacticSeq|refine nK (T := "bool") W.j1 (glc rfl) W.e6 boot_bool (glc rfl) W.lj ?_)]++(<-Zz.fs "DO.de ?")),
 <-Zz.gr "DA _ _ _ _" ((<-Zz.fs "bz ? ?|gA")),
 <-Zz.gr "DC _ _ _ _" ((<-Zz.fs "dvC _|K5 _|DE.dc ?|DO.dc ?")),
 <-Zz.gr "DSs _ _ _ _" ((<-Zz.fs "bh ?|xg|ax ? ?")),
 <-Zz.gr "PE _ _ _" ((<-Zz.fs "pv _|pvc _")),
 <-Zz.gr "DT _ _ _ _" ((<-Zz.fs "jE ? ? ? ?|iO ?|lU ?|DW.dt ?")),
 <-Zz.gr "DAB _ _ _ _" ((<-Zz.fs "sG ? ?|Kr")),
 <-Zz.gr "DS _ _ _ _" ((<-Zz.fs "c7 ?|nM _ ! ?|bZ ? ? ?|jH ?")++#[<-`(Lean.Parser.Tactic.tacticSeq|refine gT (kk := 99) dX rfl ?_ ?_ ?_)]++(<-Zz.fs "K6 _ ! ?|K8 ?|MR ?|La _|xX _ ! ?|LO ? ? ?|jk _ ?|pO _ dX ? ?|Lc ( iJ ( kB iD rT rU su ? ( dE ( DE.pe ? ) dk ) ) )")++#[<-`(Lean.Parser.Tactic.tacticSeq|refine E8 _ ?_ ?_ (wf (show DP _ _ _ _ _ from ?_) (show DZ _ _ _ _ _ from ?_) rfl))]++#[<-`(Lean.Parser.Tactic.tacticSeq|refine E3 (iJ (kB iD rT rU su (show DP _ _ _ _ _ from ?_) (dE (DE.pe ?_) dk))))]),
 <-Zz.gr "DG _ _ _ _ _" ((<-Zz.fs "dgc _ _|KU _ _ !|KZ rfl ?")),
 <-Zz.gr "DI _ _ _ _ _" ((<-Zz.fs "w4 ?|LG rfl W.hO ?|w6 rfl W.h9 ?")),
 <-Zz.gr "DGs _ _ _ _ _" ((<-Zz.fs "KY ? ?|KW")),
 <-Zz.gr "DP _ _ _ _ _" ((<-Zz.fs "eK ?|e7 _ ? ? ?")),
 <-Zz.gr "DO _ _ _ _" ((<-Zz.fs "lS ?|wW ? ? ?|Le 1 hr ?|NU _ ? 1 hr ?|sV boot_list rfl W.h7 ?")),
 <-Zz.gr "DTs _ _ _ _" ((<-Zz.fs "Dx|sZ ?")),
 <-Zz.gr "DB _ _ _ _" ((<-Zz.fs "dvB _|E1 ( e7 _ ? ? ( eK ( pv _ ) ) )|DE.db ?")),
 <-Zz.gr "DAX _ _ _ _" ((<-Zz.fs "Nl ? ?|Nk")),
 <-Zz.gr "PA _ _ _" ((<-Zz.fs "dk")),
 <-Zz.gr "DPt _ _ _ _" ((<-Zz.fs "sT ?|Do")),
 <-Zz.gr "DZ _ _ _ _ _" ((<-Zz.fs "EI ?|NO|EH ?")),
 <-Zz.gr "DW _ _ _ _" ((<-Zz.fs "sJ ? ?|wP ?")),
 <-Zz.gr "DX _ _ _ _" ((<-Zz.fs "NH _ ? 1 hr ?|NI _ ? 1 hr|DE.dx ?")),
 <-Zz.gr "DL _ _ _ _" ((<-Zz.fs "E2 ( e7 _ ? ? ( eK ( pv _ ) ) )")),
 <-Zz.gr "Cls _ _" ((<-Zz.fs "W.ad|W.i2|W.gu|W.hF|W.h6")),
 <-Zz.gr "c4 _ _ _" ((<-Zz.fs "W.as|W.fx|W.hI|W.fy|W.gm|W.g2|W.eD|W.dl|W.eF|W.ff|W.eH|W.ge|W.gw")),
 <-Zz.gr "DIe _ _ _ _ _" ((<-Zz.fs "DI.de ?")),
 <-`(Lean.Parser.Tactic.tacticSeq|refine OQ _ _ rfl ?_ ?_ ?_ ?_),
 <-do let a:=(<-Zz.fs "sN")++#[<-`(Lean.Parser.Tactic.tacticSeq|((refine sS ?_); with_unfolding_all assumption))]++(<-Zz.fs "KE|KG|KO|KP|jF|wS|KF|KH|xL|Kw")++#[<-`(Lean.Parser.Tactic.tacticSeq|((refine Dg ?_); with_unfolding_all assumption))]++(<-Zz.fs "KA|Dd|Kz|KD|Ky|wT|KC|LP")++#[<-`(Lean.Parser.Tactic.tacticSeq|((refine LQ ?_); with_unfolding_all assumption))]++(<-Zz.fs "Da|Kx|KB|Kv");`(Lean.Parser.Tactic.tacticSeq|with_reducible first $[|$a]*),
 <-`(Lean.Parser.Tactic.tacticSeq|intro _ _ _ _ _)]
 `(by repeat' first $[|$a]*)
set_option hygiene true
variable{P:bX}{w:World}{K:aU}{mg:MGT}{base:Heap}{a:Wa}
def FJ(W:Wd K mg a):qD P w K mg base a 1 "_law_mixed" a.e_3 ["_law_cell","_law_many"] m_3:=by
 show W.e_3.pk (ba (F:=b_3) W.e_3.F Ft λ_ _ _ _ _ _ hr=>?_);unfold b_3;have nd:=Ft.nd;show @0
def P1(W:Wd K mg a):qD P w K mg base a 2 "_law_bar" a.e_28 ["_law_cell","_law_many"] ut:=by
 show W.e_28.pk (ba (F:=zC) W.e_28.F Fx λ_ _ _ _ _ _ hr=>?_);have hu:=hr.units;unfold zC;have nd:=Fx.nd;show(ax @0 (ax (bZ (DW.dt (dP @0 (eA @0))) @0 @0) (bh (jH (ib 1 [1,2] ["_law_k","_law_many","_law_xs"] rfl (DI.de (w6 rfl W.h9 (bz (dZ @0 @0 (dZ @0 @0 (KN (MN rfl) rfl W.nl boot_min @0))) @0))) @0 @0 @0)))))
def PV(W:Wd K mg a):qD P w K mg base a 1 "_law_cell_at" a.e_12 ["_law_script","_law_k"] ow:=by
 show W.e_12.pk (ba (F:=zD) W.e_12.F Oe λ_ _ _ _ _ _ hr=>?_);unfold zD;show @0
def P2(W:Wd K mg a):qO P w K mg base a 1 "_law_copy" a.e_27 ["_law_rules"] zE:=by
 show W.e_27.pk (tf (F:=uu) W.e_27.F Fv λ_ _ _ _ _ _ hr=>?_);have hu:=hr.units;unfold uu;have nd:=Fv.nd;show @0
def PY(W:Wd K mg a):qO P w K mg base a 1 "_law_ring" a.e_26 ["_law_kind","_law_many"] zF:=by
 show W.e_26.pk (tf (F:=uv) W.e_26.F Fu λ_ _ _ _ _ _ hr=>?_);unfold uv;have nd:=Fu.nd;show @0
def OR(W:Wd K mg a):qD P w K mg base a 1 "_law_worth" a.e_13 ["_law_x"] qi:=by
 show W.e_13.pk (ba (F:=uw) W.e_13.F Of λ_ _ _ _ _ _ hr=>?_);have hu:=hr.units;unfold uw;show @0
def P5(W:Wd K mg a):qD P w K mg base a 2 "_law_part" a.e_8 ["_law_xs","_law_many"] m_8:=by
 show W.e_8.pk (ba (F:=b_8) W.e_8.F uk λ_ _ _ _ _ _ hr=>?_);have hu:=hr.units;unfold b_8;have nd:=uk.nd;show(ax @0 (ax (bZ (DW.dt (dP @0 (eA @0))) @0 @0) (ax (nN 3 1 [1,0] ["_law_k","_law_many","_law_xs"] uk.nd rfl @0 @0 @0 @0) (ax (nM 4 uk.nd (eW (l6 rfl) l7 rfl W.i1 lw @0)) @0))))
def PZ(W:Wd K mg a):qD P w K mg base a 3 "_law_rule" a.e_25 ["_law_cell","_law_many","_law_calm"] zH:=by
 show W.e_25.pk (ba (F:=zG) W.e_25.F zu λ_ _ _ _ _ _ e=>?_);have d:=e.units;unfold zG;show (ax (nM 3 zu.nd (pP (FJ W) e (bz (dv 0) (bz bY gA))))
 (ax (bZ (jE (sS d) sN (DE.db (dv 1)) (DE.db bY)) ?hole0 xg)
 (ax (nN 4 1 [1,3] ["_law_k","_law_many","_law_xs"] zu.nd rfl (DI.de (w6 rfl W.h9 (bz (gS (DO.dc (lS (bz bY (bz bY (bz bY (bz bY (bz bY (bz bY gA)))))))) (dZ jF (gS (dvC 3) bY) bY)) gA))) (λ_ _ _ _ _=>(dgc 0 1)) (λ_ _ _ _ _=>Dx) (λ_ _ _ _ _=>(pP (P5 W) e (bz (DO.de (by show wW ?a ?b ?c; (case a=>show (dvc 2)); (case b=>show (sT (dZ wS bY (dZ xL bY (dvc 0))))); (case c=>show (sT (dZ wS bY (dZ xL bY (dvc 0))))))) (bz (dvc 1) gA)))))
 (ax (bZ (DW.dt (sJ (jE (sS d) sN (DE.db (dZ jF (gS (dvC 3) bY) bY)) (DE.db bY)) (sJ (lU (iO (DE.db (dv 2)))) (wP (DW.dt (dP (jE (Dg d) Dd (DE.db (dv 4)) (DE.db (DO.de (lS gA)))) (eA (jE (sS d) sN (DE.db (dZ jF (gS (dvC 3) bY) bY)) (DE.db bY))))))))) (bh (c7 (lT (bz lR (bz wO (bz (dv 4) gA)))))) xg)
 (bh (c7 (lT (bz (gS (DO.dc (lS (bz lR (bz lR gA)))) (dZ jF (dZ wT (gS (dvC 3) bY) bY) bY)) (bz (dZ jF (dZ wT (gS (dvC 3) bY) bY) (dv 1)) (bz (dv 4) gA))))))))))
 (case hole0=>show bh ?_;show c7 ?_;show lT ?_;show bz ?_ ?_;(focus show lR);show bz ?_ ?_;(focus show wO);show bz ?_ ?_;(focus (show DO.de ?_;show(by show wW ?a ?b ?c;(case a=>show(DO.de (lS (bz (lT (bz (gS (DO.dc (lS (bz lR (bz lR gA)))) (dZ jF (gS (dvC 3) bY) bY)) (bz (dZ Da (dZ jF (gS (dvC 3) bY) bY) bY) (bz (DO.de (lS gA)) gA)))) gA))));(case b=>show Do);(case c=>show(sT (dZ jF (gS (dvC 3) bY) bY))))));show gA)
def P0(W:Wd K mg a):qD P w K mg base a 2 "_law_sheet" a.e_41 ["_law_cell","_law_many"] zK:=by
 show W.e_41.pk (ba (F:=zJ) W.e_41.F Fy λ_ _ _ _ _ _ hr=>?_);have hu:=hr.units;unfold zJ;have nd:=Fy.nd;show @0
def OS(W:Wd K mg a):qD P w K mg base a 1 "_law_part_sure" a.e_39 ["_law_part_here","_law_sheet_here"] ux:=by
 show W.e_39.pk (ba (F:=zM) W.e_39.F Og λ_ _ _ _ _ _ hr=>?_);have hu:=hr.units;unfold zM;show(ax @0 (ax @0 (ax (bZ @0 (bh (c7 (iN @0 @0 (DE.db (eW (l6 rfl) l7 rfl W.i1 lw @0)) @0))) @0) (bh (c7 (iN @0 @0 (DE.db (eW (l6 rfl) l7 rfl W.i1 lw @0)) @0))))))
def OV(W:Wd K mg a):qD P w K mg base a 2 "_law_broken" a.e_14 ["_law_rule_here","_law_sheet_here"] ox:=by
 show W.e_14.pk (ba (F:=zN) W.e_14.F Oh λ_ _ _ _ _ _ hr=>?_);have hu:=hr.units;unfold zN;show(ax (bZ (DW.dt (dP @0 (eA @0))) @0 @0) (bh (c7 (eW (D1 rfl) D2 rfl W.l0 boot_all @0))))
def OU(W:Wd K mg a):qD P w K mg base a 1 "_law_part_lost" a.e_40 ["_law_part_here","_law_sheet_here","_law_without"] zP:=by
 show W.e_40.pk (ba (F:=zO) W.e_40.F Fw λ_ _ _ _ _ _ hr=>?_);have hu:=hr.units;unfold zO;show(ax (bZ @0 (bh (c7 (sK @0 @0))) @0) (ax @0 (ax (bZ @0 (ax (nN 3 2 [1,2] ["_law_thing","_law_worth_here","_law_sheet_here","_law_without"] Fw.nd rfl @0 @0 @0 @0) (bh (c7 (iN @0 @0 (DE.db (eW (l6 rfl) l7 rfl W.i1 lw @0)) @0)))) @0) (bh (c7 (iN @0 @0 (DE.db (eW (l6 rfl) l7 rfl W.i1 lw @0)) @0))))))
def FL(W:Wd K mg a):qD P w K mg base a 2 "_law_holds_up" a.e_15 ["_law_rule_here","_law_sheet_here","_law_without"] uA:=by
 show W.e_15.pk (ba (F:=uz) W.e_15.F Oi λ_ _ _ _ _ _ hr=>?_);have hu:=hr.units;unfold uz;show(ax (bZ (DW.dt (dP @0 (eA @0))) @0 @0) (bh (c7 (jh (eW (mj rfl) ml rfl W.ii lx @0)))))
def OX(W:Wd K mg a):qD P w K mg base a 3 "_law_loose" a.e_9 ["_law_rules","_law_sheet_here"] m_9:=by
 show W.e_9.pk (ba (F:=b_9) W.e_9.F zw λ_ _ _ _ _ _ hr=>?_);unfold b_9;have nd:=zw.nd;show(ax (DF 2 1 [] ["_law_entry"] zw.nd rfl @0 (λ_ _ _ _ _=>@0) (λ_ _ _ _ _=>@0) (λ_ _ _ _ _=>@0)) (ax @0 (ax (pO 1000000000 dX @0 (ax @0 (bh (gT (kk:=99) dX rfl @0 @0 (bh (bZ (iO (DE.db (Lf (FL W) hr @0))) @0 @0)))))) @0)))
def FK(W:Wd K mg a):qD P w K mg base a 1 "_law_with" a.e_16 ["_law_sheet_here","_law_thing","_law_entry"] qj:=by
 show W.e_16.pk (ba (F:=zQ) W.e_16.F Ol λ_ _ _ _ _ _ hr=>?_);unfold zQ;show(bh (jH (t5 (DO.de (t5 @0 @0)) @0)))
def OW(W:Wd K mg a):qD P w K mg base a 3 "_law_presses" a.e_42 ["_law_rule_here","_law_sheet_here"] zS:=by
 show W.e_42.pk (ba (F:=zR) W.e_42.F FA λ_ _ _ _ _ _ hr=>?_);unfold zR;have nd:=FA.nd;show @0
def O2(W:Wd K mg a):qD P w K mg base a 4 "_law_at_rest" a.e_31 ["_law_rules","_law_bars","_law_sheet_here"] zU:=by
 show W.e_31.pk (ba (F:=zT) W.e_31.F zy λ_ _ _ _ _ _ hr=>?_);have hu:=hr.units;unfold zT;have nd:=zy.nd;show(ax (gT (kk:=99) dX rfl @0 @0 (bh (bZ (DW.dt (dP @0 (eA @0))) @0 @0))) (ax (gT (kk:=99) dX rfl @0 @0 (ax (nN 5 2 [2] ["_law_thing","_law_truth","_law_sheet_here"] zy.nd rfl @0 @0 @0 @0) (bh (bZ (DW.dt (dP @0 (eA @0))) @0 @0)))) (bh (c7 (jh (eW (mj rfl) ml rfl W.ii lx @0))))))
def OY(W:Wd K mg a):qD P w K mg base a 1 "_law_number" a.e_29 ["_law_found"] qk:=by
 show W.e_29.pk (ba (F:=zV) W.e_29.F Om λ_ _ _ _ _ _ hr=>?_);unfold zV;show(bh (c7 (pJ @0 (pJ (jh @0) @0))))
def O1(W:Wd K mg a):qD P w K mg base a 2 "_law_is_pair" a.e_57 ["_law_pair","_law_many"] zX:=by
 show W.e_57.pk (ba (F:=zW) W.e_57.F Oo λ_ _ _ _ _ _ hr=>?_);have hu:=hr.units;unfold zW;show(ax (bZ (DW.dt (dP @0 (eA @0))) @0 @0) @0)
def O0(W:Wd K mg a):qD P w K mg base a 2 "_law_is_why" a.e_56 ["_law_why","_law_many"] zZ:=by
 show W.e_56.pk (ba (F:=zY) W.e_56.F On λ_ _ _ _ _ _ hr=>?_);have hu:=hr.units;unfold zY;show(ax (bZ (DW.dt (dP @0 (dP @0 (eA @0)))) @0 @0) (ax (bZ (DW.dt (dP @0 (eA @0))) @0 @0) (ax (bZ (DW.dt (dP @0 (eA @0))) @0 @0) (ax (bZ (iO (DE.db (eW (mj rfl) ml rfl W.ii lx (sG (DE.db (DO.de (ib 1 [1] ["_law_thing","_law_many"] rfl @0 @0 @0 (λ_ _ _ _ _=>(sK (jh @0) @0))))) @0)))) @0 @0) (bh (c7 (iN @0 @0 (DE.db (MQ rfl rfl W.md rfl W.mu @0)) @0)))))))
def OZ(W:Wd K mg a):qD P w K mg base a 1 "_law_fits" a.e_55 ["_law_sheet_here","_law_bar_here"] z5:=by
 show W.e_55.pk (ba (F:=z4) W.e_55.F Oj λ_ _ _ _ _ _ hr=>?_);have hu:=hr.units;unfold z4;show(bh (c7 (eW (D1 rfl) D2 rfl W.l0 boot_all @0)))
def FM(W:Wd K mg a):qD P w K mg base a 3 "_law_right" a.e_5 ["_law_rules","_law_sets","_law_bars","_law_sheet_here","_law_why"] m_5:=by
 show W.e_5.pk (ba (F:=b_5) W.e_5.F zx λ_ _ _ _ _ _ hr=>?_);have hu:=hr.units;unfold b_5;have nd:=zx.nd;show(ax (xM (k:=99) @0 @0) (ax @0 (ax @0 (ax (bZ @0 (bh (c7 (iN @0 @0 @0 (DE.db (DO.de (ib 1 [1,6] ["_law_thing","_law_sets","_law_told"] rfl @0 @0 @0 (λ_ _ _ _ _=>(iN Dk Dh @0 @0)))))))) @0) (ax @0 (ax (bZ (lU (iO (DE.db (eW (mj rfl) ml rfl W.ii lx @0)))) @0 @0) (ax (nM 7 zx.nd (DO.de (ib 1 [6] ["_law_thing","_law_told"] rfl @0 @0 @0 (λ_ _ _ _ _=>(iN Dk Dh @0 @0))))) (bh (c7 (jh (eW (mj rfl) ml rfl W.ii lx @0)))))))))))
def P6(W:Wd K mg a):qD P w K mg base a 4 "_law_of_a_sort" a.e_30 ["_law_rules","_law_bars","_law_sheet_here","_law_step"] uB:=by
 show W.e_30.pk (ba (F:=z6) W.e_30.F Fz λ_ _ _ _ _ _ hr=>?_);have hu:=hr.units;unfold z6;have nd:=Fz.nd;show(ax (bZ (DW.dt (dP @0 (dP @0 (eA @0)))) @0 @0) (ax (xM (k:=99) @0 @0) (ax @0 (ax (bZ (DW.dt (dP @0 (eA @0))) @0 @0) (ax (xM (k:=99) @0 @0) (ax (bZ (lU (iO (DE.db (pP (FM W) hr (bz @0 (bz @0 (bz @0 (bz (pP (FK W) hr (bz @0 (bz @0 (bz (jh @0) @0)))) @0)))))))) @0 @0) (ax (bZ @0 (bh (c7 (jh @0))) @0) (ax (bZ @0 (bh (c7 (iN @0 @0 (DE.db (lT (bz @0 (bz (jh @0) @0)))) @0))) @0) @0))))))))
def FQ(W:Wd K mg a):qD P w K mg base a 5 "_law_walked" a.e_17 ["_law_rules","_law_bars","_law_sheet_here","_law_found"] uC:=by
 show W.e_17.pk (ba (F:=z7) W.e_17.F FB λ_ _ _ _ _ _ hr=>?_);have hu:=hr.units;unfold z7;have nd:=FB.nd;show(ax (bZ (DW.dt (dP @0 (eA @0))) @0 @0) (ax (bZ (DW.dt (dP @0 (eA @0))) @0 @0) (ax @0 (ax @0 (ax (gT (kk:=99) dX rfl @0 @0 (ax (bZ (DW.dt (dP @0 (eA (lU (iO (ua (P6 W) hr @0)))))) @0 @0) @0)) (ax (jk 4 (bZ (DW.dt (dP (iO (DE.db (eW (mj rfl) ml rfl W.ii lx (sG (DE.db (DO.de (ib 1 [] ["_law_entry"] rfl @0 @0 @0 (λ_ _ _ _ _=>(pJ @0 (wQ (jh @0))))))) @0)))) (eA @0))) @0 @0)) (bh (jk 4 (c7 (sK @0 @0))))))))))
def Pc(W:Wd K mg a):jV P w K mg base a 1 "Spreading" "drop_wider" a.e_10 ["self","bar"] z9:=by
 show W.e_10.pk W.ad (jU (F:=z8) W.e_10.F qh λ_ _ _ _ _ _ hr=>?_);have hu:=hr.units;unfold z8;have nd:=qh.nd
 show(NV (w:=2) (pr:=3) (by decide) (NW (by decide)) NX (by decide) (lM qh.nd rfl (by first |show b8 rfl |show bC rfl) (Cc (iO @0) (x9 (hu1 hu) (e7 "Spreading" W.ad W.as (eK (pv 0))) @0 (rfl,rfl,rfl,rfl)) (px (dk)))) (Ch dX rfl (w4 @0) (vT qh.nd rfl (by first |show b8 rfl |show bC rfl)) (Ce (wL (g:=tDG _ (av 0)) (tt:=tDT _ (mB (m2 eX (af 0) (aE (gZ (bq "Spreading" "watches" (aZ 2)) (af 1)))))) (te:=tD _ (af 0)) 1 [3,0] ["why","pair","self"] qh.nd rfl (by first |show b8 rfl |show bC rfl) rfl (vY @0) (λ_ _ _ _ _=>(DG.pg (dgc 0 1))) (λ_ _ _ _ _=>(sZ (jE @0 @0 @0 (DL.db (x9 (hu1 hu) (e7 "Spreading" W.ad W.as (eK (pvc 2))) @0 (rfl,rfl,rfl,rfl)))))) (λ_ _ _ _ _=>(DE.pe @0))))) (bh (jk 2 (gT (kk:=99) dX rfl @0 @0 (bh (bZ @0 (bh (gT (kk:=99) dX rfl (w4 (gS (DL.dc (E2 (e7 "Spreading" W.ad W.fx (eK (pv 0))))) @0)) @0 (bh (NR (iJ (kB iD PySem.F.slot_list_remove PySem.F.type_list_remove (NQ hu) (EZ (hu1 hu) (e7 "Spreading" W.ad W.as (eK (pv 0))) @0) (dE (DE.pe @0) (dk)))))))) @0))))))
def O4(W:Wd K mg a):qPD P w K mg base a 1 "In" "named" a.e_43 ["self"] uD:=by
 show W.e_43.pk W.i2 (ba (F:=Aa) W.e_43.F Oq λ_ _ _ _ _ _ hr=>?_);unfold Aa;show @0
def O8(W:Wd K mg a):qPD P w K mg base a 1 "In" "wants" a.e_58 ["self"] Ac:=by
 show W.e_58.pk W.i2 (ba (F:=Ab) W.e_58.F Os λ_ _ _ _ _ _ hr=>?_);unfold Ab;show @0
def O3(W:Wd K mg a):qD P w K mg base a 1 "things_of" a.e_38 ["items"] uE:=by
 show W.e_38.pk (ba (F:=Ad) W.e_38.F N9 λ_ _ _ _ _ _ hr=>?_);unfold Ad;show(bh (jH (Mu rfl rfl W.h8 rfl W.mu @0)))
def O6(W:Wd K mg a):qPD P w K mg base a 2 "Least" "named" a.e_45 ["self"] uF:=by
 show W.e_45.pk W.gu (ba (F:=Ae) W.e_45.F OE λ_ _ _ _ _ _ hr=>?_);unfold Ae;show @0
def Pa(W:Wd K mg a):qPD P w K mg base a 1 "Least" "wants" a.e_64 ["self"] Ag:=by
 show W.e_64.pk W.gu (ba (F:=Af) W.e_64.F OF λ_ _ _ _ _ _ hr=>?_);unfold Af;show @0
def O7(W:Wd K mg a):qPD P w K mg base a 2 "Most" "named" a.e_47 ["self"] uG:=by
 show W.e_47.pk W.hF (ba (F:=Ah) W.e_47.F OJ λ_ _ _ _ _ _ hr=>?_);unfold Ah;show @0
def Pb(W:Wd K mg a):qPD P w K mg base a 1 "Most" "wants" a.e_66 ["self"] Aj:=by
 show W.e_66.pk W.hF (ba (F:=Ai) W.e_66.F OK λ_ _ _ _ _ _ hr=>?_);unfold Ai;show @0
def O5(W:Wd K mg a):qPD P w K mg base a 1 "Out" "named" a.e_44 ["self"] uH:=by
 show W.e_44.pk W.h6 (ba (F:=Ak) W.e_44.F Ox λ_ _ _ _ _ _ hr=>?_);unfold Ak;show @0
def O9(W:Wd K mg a):qPD P w K mg base a 1 "Out" "wants" a.e_61 ["self"] Am:=by
 show W.e_61.pk W.h6 (ba (F:=Al) W.e_61.F Oy λ_ _ _ _ _ _ hr=>?_);unfold Al;show @0
def Pe(W:Wd K mg a):jV P w K mg base a 3 "Spreading" "take_guard" a.e_18 ["self","why","guard"] qm:=by
 show W.e_18.pk W.ad (jU (F:=An) W.e_18.F FF λ_ _ _ _ _ _ hr=>?_);have hu:=hr.units;unfold An;have nd:=FF.nd;show(ax (Nz (CT (hu1 hu) (e7 "Spreading" W.ad W.eD (eK (pv 0))) (DE.pe @0) (DE.pe @0) rfl)) (ax (gT (kk:=99) dX rfl @0 @0 (bh (gT (kk:=99) dX rfl @0 @0 (bh (NE (iJ (kB iD rT rU su (ND (hu1 hu) (e7 "Spreading" W.ad W.as (eK (pv 0))) (DE.pe @0) (px (dk)) (rfl,rfl,rfl,rfl)) (dE (pv 1) (dk))))))))) @0))
def FO(W:Wd K mg a):Pm P w K mg base CX0 1 (a.cl "In") "__init__" a.e_70 ["self","thing"] (spI (K,a.cl) "In" ["self","thing"].length Ao):=
 W.e_70.pk W.i2 (tq W.e_70.F Op λ_ _ _ _ _ _ b=>(nP W.i2 W.hI (pv 0) (dv 1) tm))
def FP(W:Wd K mg a):Pm P w K mg base CX0 1 (a.cl "Out") "__init__" a.e_71 ["self","thing"] (spI (K,a.cl) "Out" ["self","thing"].length uI):=
 W.e_71.pk W.h6 (tq W.e_71.F Ow λ_ _ _ _ _ _ b=>(nP W.h6 W.g2 (pv 0) (dv 1) tm))
def Pd(W:Wd K mg a):qD P w K mg base a 3 "guard_of_bar" a.e_53 ["bar"] Aq:=by
 show W.e_53.pk (ba (F:=Ap) W.e_53.F Od λ_ _ _ _ _ _ hr=>?_);unfold Ap;show @0
def Pj(W:Wd K mg a):jV P w K mg base a 4 "Spreading" "take_bar" a.e_49 ["self","bar"] As:=by
 show W.e_49.pk W.ad (jU (F:=Ar) W.e_49.F FG λ_ _ _ _ _ _ hr=>?_);unfold Ar;have nd:=FG.nd;show @0
def P3(W:Wd K mg a):Pm P w K mg base CX0 1 (a.cl "Least") "__init__" a.e_72 ["self","bound","items"] (spI (K,a.cl) "Least" ["self","bound","items"].length At):=
 W.e_72.pk W.gu (tq W.e_72.F OC λ_ _ _ _ _ _ b=>(nP W.gu W.ge (pv 0) (dv 1) (nP W.gu W.fy (pv 0) (DO.de (sV boot_list rfl W.h7 (dvC 2))) tm)))
def P4(W:Wd K mg a):Pm P w K mg base CX0 1 (a.cl "Most") "__init__" a.e_73 ["self","bound","items"] (spI (K,a.cl) "Most" ["self","bound","items"].length FI):=
 W.e_73.pk W.hF (tq W.e_73.F OI λ_ _ _ _ _ _ b=>(nP W.hF W.gw (pv 0) (dv 1) (nP W.hF W.gm (pv 0) (DO.de (sV boot_list rfl W.h7 (dvC 2))) tm)))
def Pf(W:Wd K mg a):qD P w K mg base a 3 "part_of" a.e_37 ["told"] Av:=by
 show W.e_37.pk (ba (F:=Au) W.e_37.F Fk λ_ _ _ _ _ _ hr=>?_);have hu:=hr.units;unfold Au;have nd:=Fk.nd;show @0
def Ph(W:Wd K mg a):qD P w K mg base a 4 "body_of" a.e_0 ["rule"] m_0:=by
 show W.e_0.pk (ba (F:=b_0) W.e_0.F Fo λ_ _ _ _ _ _ hr=>?_);unfold b_0;show @0
def Pg(W:Wd K mg a):qO P w K mg base a 4 "body_of" a.e_0 ["rule"] o_0:=by
 show W.e_0.pk (tf (F:=b_0) W.e_0.F Fo λ_ _ _ _ _ _ hr=>?_);unfold b_0;show @0
def Pi(W:Wd K mg a):qD P w K mg base a 5 "guard_of" a.e_24 ["rule"] uJ:=by
 show W.e_24.pk (ba (F:=Aw) W.e_24.F Fp λ_ _ _ _ _ _ hr=>?_);have hu:=hr.units;unfold Aw;have nd:=Fp.nd;show @0
def P7(W:Wd K mg a):jV P w K mg base a 6 "Spreading" "__init__" a.e_6 ["self","plain","bars","sheet"] m_6:=by
 show W.e_6.pk W.ad (jU (F:=b_6) W.e_6.F FE λ_ _ _ _ _ _ hr=>?_);unfold b_6;have nd:=FE.nd;show @0
def PB(W:Wd K mg a):jV P w K mg base a 1 "Spreading" "put" a.e_50 ["self","thing","truth","why"] uK:=by
 show W.e_50.pk W.ad (jU (F:=Ax) W.e_50.F ON λ_ _ _ _ _ _ hr=>?_);have hu:=hr.units;unfold Ax;show(ax (Nw (vV (DE.pe @0) (Cg (e7 "Spreading" W.ad W.eF (eK (pv 0))) (DE.pe @0) CG (by intro _;rfl)) rfl rfl rfl)) (ax @0 (bh (Nu (iJ (kB iD PySem.F.slot_list_extend PySem.F.type_list_extend CK (e7 "Spreading" W.ad W.dl (eK (pv 0))) (dE (x9 (hu1 hu) (e7 "Spreading" W.ad W.as (eK (pv 0))) @0 (rfl,rfl,rfl,rfl)) (dk))))))))
def Pq(W:Wd K mg a):qPD P w K mg base a 1 "In" "sure" a.e_59 ["self","sheet"] Az:=by
 show W.e_59.pk W.i2 (ba (F:=Ay) W.e_59.F Ot λ_ _ _ _ _ _ hr=>?_);unfold Ay;show @0
def Pw(W:Wd K mg a):qPD P w K mg base a 1 "In" "tips" a.e_60 ["self","sheet"] AB:=by
 show W.e_60.pk W.i2 (ba (F:=AA) W.e_60.F Ou λ_ _ _ _ _ _ hr=>?_);unfold AA;show @0
def Pl(W:Wd K mg a):qD P w K mg base a 1 "worth_in" a.e_21 ["items","entries"] qo:=by
 show W.e_21.pk (ba (F:=AC) W.e_21.F Oa λ_ _ _ _ _ _ hr=>?_);unfold AC;show(bh (c7 (eW (l6 rfl) l7 rfl W.i1 lw @0)))
def Pt(W:Wd K mg a):qPD P w K mg base a 2 "Least" "sure" a.e_65 ["self","sheet"] AE:=by
 show W.e_65.pk W.gu (ba (F:=AD) W.e_65.F OG λ_ _ _ _ _ _ hr=>?_);unfold AD;show @0
def Pn(W:Wd K mg a):qD P w K mg base a 1 "weights_of" a.e_23 ["items"] AG:=by
 show W.e_23.pk (ba (F:=AF) W.e_23.F zt λ_ _ _ _ _ _ hr=>?_);have hu:=hr.units;unfold AF;have nd:=zt.nd;show(ax (D7 1 zt.nd) (ax (gT (kk:=99) dX rfl @0 @0 (bh (D8 hu @0 @0 (dZ @0 (Ng hu @0 @0 @0 (rfl,rfl,rfl,rfl)) @0)))) (bh (Ni 1 @0))))
def Po(W:Wd K mg a):qD P w K mg base a 2 "heavy" a.e_22 ["items","sheet","lack"] uL:=by
 show W.e_22.pk (ba (F:=AH) W.e_22.F Fm λ_ _ _ _ _ _ hr=>?_);have hu:=hr.units;unfold AH;have nd:=Fm.nd;show(ax @0 (bh (jH (ib 1 [2,3] ["thing","lack","weights"] rfl (DI.de (Nb @0)) @0 (λ_ _ _ _ _=>(sZ (jE @0 @0 (DE.db (Nf hu @0 @0)) @0))) @0))))
def Py(W:Wd K mg a):qPD P w K mg base a 3 "Least" "tips" a.e_46 ["self","sheet"] AJ:=by
 show W.e_46.pk W.gu (ba (F:=AI) W.e_46.F FC λ_ _ _ _ _ _ hr=>?_);unfold AI;have nd:=FC.nd;show @0
def Pp(W:Wd K mg a):qD P w K mg base a 1 "worth_not_out" a.e_11 ["items","sheet"] oy:=by
 show W.e_11.pk (ba (F:=AK) W.e_11.F Ob λ_ _ _ _ _ _ hr=>?_);unfold AK;show(bh (c7 (eW (l6 rfl) l7 rfl W.i1 lw @0)))
def Pu(W:Wd K mg a):qPD P w K mg base a 2 "Most" "sure" a.e_67 ["self","sheet"] AM:=by
 show W.e_67.pk W.hF (ba (F:=AL) W.e_67.F OL λ_ _ _ _ _ _ hr=>?_);unfold AL;show @0
def Pz(W:Wd K mg a):qPD P w K mg base a 3 "Most" "tips" a.e_48 ["self","sheet"] AO:=by
 show W.e_48.pk W.hF (ba (F:=AN) W.e_48.F FD λ_ _ _ _ _ _ hr=>?_);unfold AN;have nd:=FD.nd;show @0
def Ps(W:Wd K mg a):qPD P w K mg base a 1 "Out" "sure" a.e_62 ["self","sheet"] AR:=by
 show W.e_62.pk W.h6 (ba (F:=AQ) W.e_62.F Oz λ_ _ _ _ _ _ hr=>?_);unfold AQ;show @0
def Px(W:Wd K mg a):qPD P w K mg base a 1 "Out" "tips" a.e_63 ["self","sheet"] AT:=by
 show W.e_63.pk W.h6 (ba (F:=AS) W.e_63.F OA λ_ _ _ _ _ _ hr=>?_);unfold AS;show @0
def P8(W:Wd K mg a):Pk P w K mg base CX0 4 "pressed_by" a.e_74 ["guard","sheet"] (spN (K,a.cl) ["guard","sheet"].length AV):=by
 show W.e_74.pk (NS (F:=AU) W.e_74.F Fq λ_ _ _ _ _ _ hr=>?_);have hu:=hr.units;unfold AU;have nd:=Fq.nd;show(ax @0 (ax @0 (ax @0 (bh (jH (ib 2 [] ["thing","truth"] rfl @0 @0 @0 (λ_ _ _ _ _=>(lT (bz @0 (bz (jh @0) @0))))))))))
def PR(W:Wd K mg a):jV P w K mg base a 5 "Spreading" "look_round" a.e_19 ["self"] AX:=by
 show W.e_19.pk W.ad (jU (F:=AW) W.e_19.F um λ_ _ _ _ _ _ hr=>?_);have hu:=hr.units;unfold AW;have nd:=um.nd;show(ax (pO 1000000000 dX @0 (ax (xX 1 um.nd (Nv (kB iD PySem.F.slot_list_pop PySem.F.type_list_pop JS (e7 "Spreading" W.ad W.dl (eK (pv 0))) (dE vR (dk))))) (ax (nM 2 um.nd (NT (P8 W) hr (sG (E1 (EZ (hu1 hu) (e7 "Spreading" W.ad W.eD (eK (pv 0))) @0)) @0))) @0))) @0)
def PH(W:Wd K mg a):qPD P w K mg base a 1 "In" "lost" a.e_32 ["self","sheet","without"] qp:=by
 show W.e_32.pk W.i2 (ba (F:=AY) W.e_32.F Ov λ_ _ _ _ _ _ hr=>?_);unfold AY;show(bh (c7 (sK @0 @0)))
def PD(W:Wd K mg a):qD P w K mg base a 1 "outside" a.e_52 ["items","without"] A0:=by
 show W.e_52.pk (ba (F:=AZ) W.e_52.F Oc λ_ _ _ _ _ _ hr=>?_);unfold AZ;show @0
def PK(W:Wd K mg a):qPD P w K mg base a 2 "Least" "lost" a.e_34 ["self","sheet","without"] qr:=by
 show W.e_34.pk W.gu (ba (F:=A1) W.e_34.F OH λ_ _ _ _ _ _ hr=>?_);unfold A1;show @0
def PL(W:Wd K mg a):qPD P w K mg base a 2 "Most" "lost" a.e_35 ["self","sheet","without"] qt:=by
 show W.e_35.pk W.hF (ba (F:=A2) W.e_35.F OM λ_ _ _ _ _ _ hr=>?_);unfold A2;show @0
def PJ(W:Wd K mg a):qPD P w K mg base a 1 "Out" "lost" a.e_33 ["self","sheet","without"] qu:=by
 show W.e_33.pk W.h6 (ba (F:=A3) W.e_33.F OB λ_ _ _ _ _ _ hr=>?_);unfold A3;show @0
def PF(W:Wd K mg a):qD P w K mg base a 1 "marks" a.e_4 ["many","some"] m_4:=by
 show W.e_4.pk (ba (F:=b_4) W.e_4.F zq λ_ _ _ _ _ _ hr=>?_);have hu:=hr.units;unfold b_4;have nd:=zq.nd;show(ax (D7 2 zq.nd) (ax (gT (kk:=99) dX rfl @0 @0 (bh (D8 hu @0 @0 @0))) (bh (jk 2 (jH (ib 1 [2] ["thing","listed"] rfl @0 @0 @0 (λ_ _ _ _ _=>(LL hu @0 @0))))))))
def PN(W:Wd K mg a):qPD P w K mg base a 3 "Spreading" "keeping" a.e_69 ["self","part","without"] A5:=by
 show W.e_69.pk W.ad (ba (F:=A4) W.e_69.F OP λ_ _ _ _ _ _ hr=>?_);unfold A4;show @0
def FN(W:Wd K mg a):qD P w K mg base a 3 "lost_part" a.e_7 ["body","sheet","without"] m_7:=by
 show W.e_7.pk (ba (F:=b_7) W.e_7.F Fs λ_ _ _ _ _ _ hr=>?_);unfold b_7;have nd:=Fs.nd;show @0
def PM(W:Wd K mg a):qPD P w K mg base a 4 "Spreading" "lost_parts" a.e_68 ["self","thing","without"] A7:=by
 show W.e_68.pk W.ad (ba (F:=A6) W.e_68.F OO λ_ _ _ _ _ _ hr=>?_);have hu:=hr.units;unfold A6;show(bh (jH (ib 2 [2,0,1] ["head","body","without","self","thing"] rfl @0 @0 @0 @0)))
def PQ(W:Wd K mg a):qPO P w K mg base a 5 "Spreading" "kernel" a.e_2 ["self","thing","without"] o_2:=by
 show W.e_2.pk W.ad (tf (F:=b_2) W.e_2.F zB λ_ _ _ _ _ _ hr=>?_);unfold b_2;have nd:=zB.nd;show(ax @0 (ax @0 (ax (pO 1000000000 dX @0 (ax (gT (kk:=99) dX rfl @0 @0 (bh (Ld (iJ (kB iD PySem.F.slot_list_extend PySem.F.type_list_extend CK (pv 3) (dE (DE.pe (DO.de (ib 1 [3] ["other","found"] rfl @0 @0 (λ_ _ _ _ _=>(sZ (jE KL KI @0 (K4 1)))) @0))) (dk))))))) (bh (No 4 zB.nd @0)))) (bh (jk 3 (jH (MI rfl rfl W.h8 @0)))))))
def PP(W:Wd K mg a):jV P w K mg base a 4 "Spreading" "loose_marks" a.e_20 ["self"] A9:=by
 show W.e_20.pk W.ad (jU (F:=A8) W.e_20.F uq λ_ _ _ _ _ _ hr=>?_);unfold A8;have nd:=uq.nd;show(ax (DF 1 1 [] ["entry"] uq.nd rfl (NM @0) (λ_ _ _ _ _=>@0) (λ_ _ _ _ _=>@0) (λ_ _ _ _ _=>@0)) (ax @0 (ax @0 (ax @0 (ax (pO 1000000000 dX @0 (ax @0 (ax @0 (ax (gT (kk:=99) dX rfl @0 @0 (bh (bZ (DW.dt (sJ @0 (wP (jE @0 @0 (ua (FN W) hr @0) @0)))) @0 @0))) (ax @0 (bh (nM 4 uq.nd (pJ @0 (wQ (eW (mj rfl) ml rfl W.ii lx @0)))))))))) (ax (jk 2 (E8 "Spreading" W.ad W.eH (wf (eK (pv 0)) (EH (DO.de (t5 @0 @0))) rfl))) @0))))))
def PU(W:Wd K mg a):jV P w K mg base a 6 "Spreading" "put_loose_out" a.e_36 ["self"] Bb:=by
 show W.e_36.pk W.ad (jU (F:=Ba) W.e_36.F zA λ_ _ _ _ _ _ hr=>?_);unfold Ba;have nd:=zA.nd;show(ax @0 (ax (nN 3 2 [1] ["thing","entry","without"] zA.nd rfl (NN rfl W.hO @0) @0 @0 @0) @0))
def P9(W:Wd K mg a):jV P w K mg base a 7 "Spreading" "settle" a.e_51 ["self"] Bd:=by
 show W.e_51.pk W.ad (jU (F:=Bc) W.e_51.F FH λ_ _ _ _ _ _ hr=>?_);unfold Bc;have nd:=FH.nd;show @0
def Qa(W:Wd K mg a):Pk P w K mg base CX0 8 "spread" a.e_54 ["plain","bars","sheet"] (spT (K,a.cl) ["plain","bars","sheet"].length uM):=by
 show W.e_54.pk (MX (F:=Be) W.e_54.F qf λ_ _ _ _ _ _ hr=>?_);unfold Be;have nd:=qf.nd
 show(ax (xP 3 qf.nd (NL "Spreading" W.hY (P7 W).ok (hr.mono (by decide)) rfl W.kv W.e_6.b @0)) (ax (xX 4 qf.nd (NJ "Spreading" @0 (P9 W) hr)) (ax (NY (lM qf.nd rfl (by first |show b8 rfl |show bC rfl) (e7 "Spreading" W.ad W.ff (eK (pv 3))))) (ax @0 (bh (MY (NZ (e7 "Spreading" W.ad W.eF (eK (pv 3))) @0)))))))
def Qb(W:Wd K mg a):qD P w K mg base a 9 "law" a.e_1 ["_law_script"] m_1:=by
 show W.e_1.pk (ba (F:=b_1) W.e_1.F qg λ_ _ _ _ _ _ hr=>?_);have hu:=hr.units;unfold b_1;have nd:=qg.nd;show(ax @0 (ax @0 (ax @0 (ax @0 (ax @0 (ax (nN 6 1 [2] ["_law_x","_law_many"] qg.nd rfl @0 @0 @0 @0) (ax (jk 3 (xP 7 qg.nd (M4 (xS (MV (MU @0 (MT @0))) (xS (EI (ib 1 [] ["_law_bar_here"] rfl @0 @0 @0 (λ_ _ _ _ _=>(DO.de (sV boot_list (glc rfl) W.h7 @0))))) (xS @0 M3)))))) (ax (xP 8 qg.nd (N7 (Qa W) hr (yd (yc (mL (k:=0) @0 @0)) (yd (yc (mL (k:=1) @0 @0)) (yd (yc (mL (k:=2) @0 @0)) N6))))) (ax (jk 3 (bZ (DW.dt (dP (lU (iO (ua (FQ W) hr @0))) (eA @0))) @0 @0)) (ax (Ff (iJ (wy iD vH vI wC (mL (k:=1) (mL (k:=0) @0 @0) @0)))) (ax (Ff (iJ (wy iD vH vI wC (mL (k:=1) @0 @0)))) (ax (E3 (iJ (kB iD rT rU su (mL (k:=2) @0 @0) (dE (DE.pe @0) (dk))))) (ax (jk 3 (bZ (lU (iO (ua (FQ W) hr @0))) @0 @0)) (ax (MZ (iJ (wy iD vH vI wC (sm (sn.or sr) (pv 8) vR (λ_ _=>rfl))))) (bh (c7 (iN @0 @0 (MW @0 @0) (DE.db (DO.de (t5 @0 @0))))))))))))))))))))
unseal DSs DS DX DE DO f7 dEq dIn eX pV dIs dQ p8 lZ av cg bd cD cf m2 d9 fG mF mB ar ol jI me iT aV ag dL gX il ui ma eC n6 bA bU n5 aN fE mIx p7 my aE ie aY mJ eM k6 aS fI cN l9 mOr bp mPt iQ iR aA cE ic fW fF aj aL bg nS dF jP iW mSl mq kZ oq bi bj af c6 ai fX om mX oi jS pB pC mK pD oa bq gZ pIx jR pN qd oe oh oj g4 aZ fD eV vIf fB vOr ou mD jm ot k4 mE gY mH mC jQ mz
local macro_rules | `(tactic| walk_at "evS")=>`(tactic| first | decide | lia | assumption | exact ⟨by decide,by decide⟩ | exact ⟨by lia,by lia⟩ | exact .inl ⟨by decide,by decide⟩ | exact .inr ⟨by decide,by decide⟩ | exact .inl ⟨by lia,by lia⟩ | exact .inr ⟨by lia,by lia⟩ | exact ⟨by decide,by decide,by decide⟩)
local macro_rules | `(tactic| walk_at "evO")=>`(tactic| first | with_reducible exact nX | with_reducible exact xI | with_reducible exact t7 | with_reducible exact t8 | with_reducible exact dLe_eq | with_reducible exact t9 | with_reducible exact kM _ _ | with_reducible exact dNe_int _ _ | ((with_reducible apply kU); (focus walk_at "evS")) | ((with_reducible apply Mw); (focus walk_at "evS")) | ((with_reducible apply dMul_eq); (focus walk_at "evS")) | ((with_reducible apply MM); (focus first | assumption | exact .inl (by walk_at "evS") | exact .inr ⟨by lia,by lia⟩)) | ((with_reducible apply Mx); (focus walk_at "evS")) | ((with_reducible apply dShr_eq); (focus walk_at "evS")) | with_reducible exact xi _ _ | with_reducible exact dNe_str _ _ | with_reducible exact dEq_bl _ _ | with_reducible exact dAndB_eq | exact dEq_nil _ _ | exact My _ _ | assumption | rfl)
local macro_rules | `(tactic| walk_at "ev")=>`(tactic| first
 | with_reducible assumption
 | ((with_reducible apply aG); (focus walk_at "ev"); (focus walk_at "ev"); (focus walk_at "evO"))
 | ((with_reducible apply bJ); (focus walk_at "ev"))
 | ((with_reducible apply cP); (focus walk_at "ev"); (focus first | assumption | rfl))
 | ((with_reducible apply tI); (focus walk_at "ev"); (focus walk_at "ev"))
 | ((with_reducible apply Lq); (focus walk_at "ev"); (focus walk_at "ev"))
 | ((with_reducible apply gE); (focus walk_at "ev"))
 | ((with_reducible apply ig); (focus walk_at "ev"); (focus walk_at "ev"))
 | ((with_reducible apply pS); (focus walk_at "ev"); (focus walk_at "ev"))
 | ((with_reducible apply kO); (focus walk_at "ev"))
 | ((with_reducible apply ao); (focus walk_at "ev"); (focus walk_at "ev"))
 | ((with_reducible apply eJ); (focus walk_at "ev"))
 | ((with_reducible apply bm); (focus walk_at "ev"))
 | ((with_reducible apply aD); (focus walk_at "ev"); (focus first | with_reducible assumption | with_reducible exact eZ _ _ | assumption | exact eZ _ _ | exact len_kl _ _ | rfl))
 | ((with_reducible apply Ez); (focus walk_at "ev"); (focus assumption); (focus rfl))
 | ((with_reducible apply ay); (focus walk_at "ev"); (focus walk_at "ev"); (focus first | assumption | rfl))
 | ((with_reducible apply EB); (focus walk_at "ev"); (focus rfl); (focus rfl))
 | ((with_reducible apply mr); (focus walk_at "ev"); (focus rfl); (focus rfl))
 | ((with_reducible apply cG); (focus walk_at "ev"); (focus rfl))
 | rfl)
local macro_rules | `(tactic| walk_at "nrm")=>`(tactic| simp only [Ew,oT,rq])
local macro_rules | `(tactic| walk_at "set")=>`(tactic| (apply am; (first | with_reducible apply bH | with_reducible apply iU); (focus walk_at "ev"); walk_at "nrm"))
local macro_rules | `(tactic| walk_at "if0")=>`(tactic| ((with_reducible first | apply aM | apply c9); (focus walk_at "ev")))
def Bf(ns:LI0)(i:Int)(a:0<=i):∃v,ow [.kl (ns.map D.int),.int i]=aa (.int v):=by
 by_cases h:i<ns.length
 .have(x,_,e):=cz a h;show(x,ci (jJ (jK (congrArg aa (decide_eq_true ?_)) (cF e))));rw[aH];show h
 .show(0,ci (eG (fY (congrArg aa (decide_eq_false ?_)) rfl) rfl));rw[aH];show h
def p60:(0:Int)<10 ^ (60:Int).toNat:=by decide
def Nm(x:Int):Prop:=0<=x/\x<2305843009213693951
def qv(c n:Int)(j:0<=n)(p:n<=124):∃d,m_3 [.int c,.int n]=aa d/\∃B:LI0,d=.lst (B.map D.int)/\(B.length:Int)=n/\∀x∈B,Nm x:=by
 apply kS;walk_at "set";walk_at "set";apply am
 show da _ _ (λpre U=>∃(B:LI0) (y:Int) (v:Sl),U=[.im _,.im _,.own (B.map D.int),.im (.int y),v]/\0<=y/\y<2 ^ 100/\B.length=pre.length/\∀x∈B,Nm x)
  (mi (by walk_at "ev") j (by lia)) ⟨[],_,.no,rfl,by lia,by lia,rfl,λx a=>nomatch a⟩ ?_ ?_
 .rintro pre i post U ex ⟨B,y,v,rfl,y0,l,b,a⟩
  have g:pre.length<n.toNat:=by
   have:pre.length<(bw n.toNat).length:=by rw[ex];simp
   simpa using this
  show(_,rfl,?_);walk_at "nrm";generalize hz:(y*_+7*_+1) % 2305843009213693951=z;have f:0<=z:=by rw[<- hz];show dU _ (by decide)
  have m:z<2305843009213693951:=by rw[<- hz];show e9 _ (by decide)
  apply am;show bH (by walk_at "ev") ?_;rw[hz];walk_at "nrm";show jO rfl rfl (by rw[aH];lia) ?_;show(B++[z],z,.im _,by rw[bn];rfl,f,by lia,by rw[bf,bf,b];rfl,λx e=>?_)
  rcases bI.mp e with h |h
  .show a x h
  .have:x=z:=by simpa using h
   subst this;show(f,m)
 .rintro U ⟨B,y,v,rfl,y0,l,b,a⟩;rw[cq]at b;show nY rfl (ga (B,rfl,by lia,a))
def worth(x:Int)(b:Nm x):∃d,qi [.int x]=aa d/\∃w:Int,d=.int w/\0<=w:=by
 have(g,h):=b;apply kS;unfold uw;apply am;walk_at "if0"
 .intro _;walk_at "if0";show cH (_,rfl,dU _ (Int.ne_of_gt p60))
 .intro _;apply bc;walk_at "nrm";have(w,a,e):=cz (f:=D.int) (B:=[1,1,2,0,3,1,1,2]) (dU _ (by decide)) (e9 _ (by decide));have c:∀x∈([1,1,2,0,3,1,1,2]:LI0),0<=x:=by decide
  walk_at "if0";show cH (w,rfl,c w (cW a))
variable{js:LN}{U:LS}
def Bg{i c:Type}{k:Nat}(B:List i)(f:i->D)(q:c->D)(P:c->Prop)
 (hi:fi U=aa (B.map f))(hz:B.length<=16777216)(m:∀x∈B,∃z,P z/\gD g ft fe (gC k js U) (f x)=aa (aa (q z))):∃a:List c,aV k js fi g ft fe U=aa (a.map q)/\a.length=B.length/\∀z∈a,P z:=by
 have key:∀b:List i,(∀x∈b,∃z,P z/\gD g ft fe (gC k js U) (f x)=aa (aa (q z)))->∃a:List c,eB (gD g ft fe (gC k js U)) (b.map f)=aa (a.map q)/\a.length=b.length/\∀z∈a,P z:=by
  intro b
  induction b with
  |nil=>intro _;show⟨[],rfl,rfl,λz hz=>nomatch hz⟩
  |cons y b r=>
   intro h;have(z,u,j):=h y aB;have(a,e,l,p):=r λx n=>h x (be _ n);show(z::a,?_,by rw[cr,cr,l],λw d=>?_)
   .rw[bP];unfold eB;rw[j,e];rfl
   .rcases aW.mp d with rfl |d
    .show u
    .show p w d
 have(a,e,l,p):=key B m;show(a,?_,l,p);unfold aV;rw[hi];change(if (B.map f).length<=16777216 then _ else ac)=_;rw[aH,if_pos hz];show e
abbrev nmP:Prt->LI0
 |.inn t=>[t]
 |.out t=>[t]
 |.least _ L=>L.map (·.1)
 |.most _ L=>L.map (·.1)
variable{i:Nat}
def Qc{B:LI0}{x:Int}(h:∀x∈B,Nm x)(e:B[i]?=aa x):Nm x:=h x (cW e)
def Qd{f:LI0}{n:Int}(q:∀y∈f,Nm y)(C:1<=n){t:Nat}(A:4+2*t<=f.length)(m:t<=100)(hi:fi U=aa ((bw t).map λ(i:Nat)=>D.int i))(j:gC 1 js U=[.no,.im (.int n),.im (.lst (f.map D.int))]):
  ∃L:LII,aV 1 js fi (av 0) kY (bj (ag (m2 bu (mIx (ai 2) (m2 cy (kI 4) (m2 dJ (kI 2) (af 0)))) (af 1)) (ag (ar qi (ag (mIx (ai 2) (m2 cy (kI 5) (m2 dJ (kI 2) (af 0)))) nZ)) nZ))) U=aa (L.map itD)/\L.length=t/\InN n.toNat L:=by
 have(L,e,l,p):=Bg (g:=av 0) (ft:=λ_=>aa ab) (fe:=(bj (ag (m2 bu (mIx (ai 2) (m2 cy (kI 4) (m2 dJ (λ_=>aa _) (af 0)))) (af 1)) (ag (ar qi (ag (mIx (ai 2) (m2 cy (kI 5) (m2 dJ (λ_=>aa _) (af 0)))) nZ)) nZ)))) _ _ itD (λz=>0<=z.1/\z.1<n.toNat/\0<=z.2) hi (by rw[cq];lia) λi c=>by
  have c:=dW.mp c;have(a,_,u):=cz (B:=f) (i:=4+2*i) (by lia) (by lia);have(b,h,v):=cz (B:=f) (i:=5+2*i) (by lia) (by lia);have(d,x,w,rfl,r):=worth b (Qc q h);have E:=e9 a (show 0<n by lia);show((a % n,w,),((dU a (show n≠0 by lia)),by change a % n<_;lia,r),?_);rw[j];show cZ (y:=.tup _) rfl rfl (by walk_at "ev")
 show(L,e,by rw[l,cq],p)
variable{L:LII}
def Qe(hi:fi U=aa (L.map itD))(hz:L.length<=1000):ar fD (ag (aE (aV 2 [] fi (cg (bd (av 0) (bd (av 1) cD))) kY (af 1))) nZ) U=aa (.int (L.map (·.2)).sum):=by
 show aD (ao (bm (dq L itD _ hi (by lia) λz _=>cZ rfl rfl rfl)) rfl) ?_;rw[MC];show DR
def Qf(b:LI0)(n:Int)(M:10<=b.length)(r:∀y∈b,Nm y)(u:1<=n)(v:n<=60):∃d,m_8 [.lst (b.map D.int),.int n]=aa d/\∃p:Prt,d=p.toD/\p.Ok n.toNat/\(nmP p).length<=3:=by
 apply kS;change wp _ [.im _,.im _,.no,.no,.no] _;have(w,G,e0):=cz (B:=b) (i:=0) (by decide) (by lia);have(l,H,z):=cz (B:=b) (i:=1) (by decide) (by lia);have(m,I,A):=cz (B:=b) (i:=2) (by decide) (by lia);have(x,J,C):=cz (B:=b) (i:=3) (by decide) (by lia);have(T,h,E):=cz (f:=D.str) (B:=["in","out","in","least","most"]) (dU _ (by decide)) (e9 _ (by decide));have a:=cW h;simp only[aW,bO,or_false]at a;walk_at "set";apply am;walk_at "if0"
 .intro c;have j:=dU l (show n≠0 by lia);have Q:=e9 l (show 0<n by lia);walk_at "if0";apply cH
  rcases a with rfl |rfl |rfl |rfl |rfl
  .show(.inn _,rfl,(j,by lia),by change 1<=3;decide)
  .show(.out _,rfl,(j,by lia),by change 1<=3;decide)
  .show(.inn _,rfl,(j,by lia),by change 1<=3;decide)
  .show jq (c)
  .show jq (c)
 .intro c;apply bc;walk_at "nrm";have t0:0<=m % 4:=dU _ (by decide);have(L,q,N,g):=Qd r u (by lia) (by lia) (fi:=fF (ag (m2 bu (mIx (ai 0) (kI 2)) (λ_=>aa _)) nZ)) (U:=[.im _,.im _,.im _,.no,.no]) (js:=[1,0]) (mi (by walk_at "ev") t0 (by lia)) rfl;apply am;show bH (bm q) ?_;walk_at "nrm";apply am;show bH (Qe (cG (bm (mr rfl rfl (by unfold mPt;rw[show(m2 bu _ _) _=aa _ by walk_at "ev"];rfl))) rfl) (by rw[i4,j9];lia)) ?_;walk_at "nrm";walk_at "if0";apply cH;have e:(L.map (·.1)).length<=3:=by rw[aH];lia
  rcases a with rfl |rfl |rfl |rfl |rfl
  .show jq (c)
  .show jq (c)
  .show jq (c)
  .show(.least _ L,rfl,(g,by lia),e)
  .show(.most _ L,rfl,(g,by lia),e)
variable{f:MF1}
def uN{g:MF1}{a b:LD}(h:f U=aa (.lst a))(h':g U=aa (.lst b))(c:a.length+b.length<=16777216):iT f g U=aa (a++b):=by
 unfold iT
 grind
def inS(B:LI0)(i:Nat):Bool:=B.any λx=>x==(i:Int)
def Qg(B:LI0)(i:Nat):dIn (.int i) (.lst (B.map D.int))=aa (.bl (inS B i)):=by
 change Option.map D.bl (if _=ab then aa _ else ac)=_;rw[if_pos (by rw[oQ];show(bV _ _).mpr (rfl,all_eq_true.mpr λ_ _=>rfl)),oR];rfl
def Qh(ks:List Key)(k j:Key):f8 (gV ks k) j=(f8 ks j || decide (k=j)):=by
 unfold gV
 by_cases e:f8 ks k=ab
 .rw[if_pos e]
  by_cases h:k=j
  .subst h;rw[e];rfl
  .rw[decide_eq_false h,Bool.or_false]
 .rw[if_neg e];unfold f8;simp
def Qi(ks:List Key)(k:Key):(gV ks k).length<=ks.length+1:=by
 unfold gV;split
 .omega
 .rw[bf];show aP _
variable{fk fv:MF1}{d:L2.D}{B:LD}
def Qj{x:D}{k:Key}{ks:List Key}(a:fv U=aa d)(b:fk U=aa x)(c:jl x=aa k)(e:U[i]?=aa (.ownd ks B))(f:ks.length<16777216):
  iQ i fk fv U=aa (.nx (U.set i (.ownd (gV ks k) (io ks B k d)))):=by
 unfold iQ;rw[a,aw,b,aw,c,aw,e];change(if ks.length<16777216 then _ else ac)=_;rw[if_pos f]
def Qk(n:Int)(B:LI0)(d:0<=n)(m:n<=60)(i:B.length<=63):m_4 [.int n,.lst (B.map D.int)]=aa (.lst (((bw n.toNat).map (inS B)).map D.bl)):=by
 have(ρ',e,ks,E,b,rfl,c,a):=Ln (g:=av 3) (F:=iQ 2 (af 3) (λ_=>aa _)) (fi:=aL (af 1)) B D.int
  (λpre U=>∃(ks:List Key) (E:LD) (b:Sl),U=[.im (.int n),.im (.lst (B.map D.int)),.ownd ks E,b]/\ks.length<=pre.length/\∀k:Int,f8 ks (.inl k)=pre.any λx=>x==k)
  rfl ([],[],.no,rfl,aP _,λ_=>rfl) (by
   rintro pre x post U ex ⟨ks,E,b,rfl,c,a⟩;have l:pre.length<B.length:=by rw[ex];simp
   show(_,_,rfl,.inl (Qj rfl rfl rfl rfl (by lia)),gV ks _,_,_,rfl,?_,λk=>?_)
   .have:=Qi ks (.inl x);rw[bf];change _<=pre.length+1;lia
   .rw[Qh,a,any_append]
    congr 1
    rw[gj,any_nil,Bool.or_false]
    by_cases h:x=k
    .subst h;simp
    .rw[decide_eq_false (λq=>h (rZ q))];show(beq_eq_false_iff_ne.mpr h).symm)
 show mf (eG rfl (eG e ?_));rw[map_map];show congrArg _ (dq _ _ _ (mi rfl d (by lia)) (by rw[cq];lia) λj f=>?_);show cZ rfl rfl (aG rfl rfl ?_);change aa _=_;rw[a];rfl
def qw(ws:LB0):LI0:=((bw ws.length).filter λi=>ws.getD i ae).map λ(i:Nat)=>(i:Int)
def uO(ws:LB0)(i:Int):i∈qw ws↔0<=i/\ws.getD i.toNat ae=ab:=by
 unfold qw;rw[aO];constructor
 .rintro⟨j,a,rfl⟩;have(_,b):=cQ.mp a;show(by lia,by show b)
 .rintro⟨d,h⟩;show(i.toNat,cQ.mpr (dW.mpr ?_,h),by lia)
  by_cases c:i.toNat<ws.length
  .show c
  .rw[bM,dB (by lia)]at h
   nomatch h
def FR(p:Prt):Av [p.toD]=aa p.obj:=by
 cases p <;> rfl
variable{es:LOB}
def Bh(h:InN es.length L)(hz:L.length<=100000):qo [.lst (L.map itD),.lst (es.map shD)]=aa (.int (ce (·==aa ab) es L)):=by
 show ci (cF (aD (ao (bm (fH L itD _ _ rfl (by lia) λz a=>(dR rfl (bJ (aG (ay rfl rfl (c8 (h z a).1 (h z a).2.1)) rfl (ij _ _))) λ_=>rfl))) rfl) (nR (λt=>es.getD t.toNat ac==aa ab) L)))
def Bi(h:InN es.length L)(hz:L.length<=100000):oy [.lst (L.map itD),.lst (es.map shD)]=aa (.int (ce (λe=>!(e==aa ae)) es L)):=by
 show ci (cF (aD (ao (bm (fH L itD _ _ rfl (by lia) λz a=>(dR rfl (bJ (aG (ay rfl rfl (c8 (h z a).1 (h z a).2.1)) rfl (pT _ _))) λ_=>rfl))) rfl) (nR (λt=>!(es.getD t.toNat ac==aa ae)) L)))
variable{ws:LB0}
def Ql(h:InN es.length L)(c:ws.length=es.length)(hz:L.length<=100000):
  A0 [.lst (L.map itD),.lst (ws.map D.bl)]=aa (.lst ((L.filter λz=>!(ws.getD z.1.toNat ae)).map itD)):=by
 show mf (congrArg _ (fH L itD _ itD rfl (by lia) λz a=>?_));have b:=h z a;show dR rfl (gE (cP (ay rfl rfl (jL b.1 (by rw[c];show b.2.1))) rfl)) λ_=>rfl
def Qm(h:InN es.length L)(hz:L.length<=100000):
  oy [.lst ((L.filter λz=>!(ws.getD z.1.toNat ae)).map itD),.lst (es.map shD)]=aa (.int (jg (λt=>!(es.getD t.toNat ac==aa ae) && !(ws.getD t.toNat ae)) L)):=by
 have c:=jt (λz:Int×Int=>!(ws.getD z.1.toNat ae)) L;have a:InN es.length (L.filter λz=>!(ws.getD z.1.toNat ae)):=λz b=>h z (cQ.mp b).1;show(Bi a (by lia)).trans (congrArg (λz=>aa _) (Ko (λt=>!(es.getD t.toNat ac==aa ae)) (λt=>!(ws.getD t.toNat ae)) L))
def Qn(p:Prt)(h:p.Ok es.length)(a:ws.length=es.length):∀m,m=(match p with |.inn _=>qp |.out _=>qu |.least _ _=>qr |.most _ _=>qt) ->
  m [p.obj,.lst (es.map shD),.lst (ws.map D.bl)]=aa (.bl (p.lost es ws)):=by
 intro m e;subst e
 cases p with
 |inn t=>show ci (cF (pS (aG (ay rfl rfl (c8 h.1 h.2)) rfl (ij _ _)) (ay rfl rfl (jL h.1 (by rw[a];show h.2)))))
 |out t=>show ci (cF (aG (ay rfl rfl (c8 h.1 h.2)) rfl (ij _ _)))
 |least k L=>show ci (cF (aG (aD (ao (aD rfl (Ql h.1 a h.2)) (ao rfl rfl)) (Qm h.1 h.2)) rfl rfl))
 |most k L=>show ci (cF (aG (aD rfl (Bh h.1 h.2)) rfl rfl))
variable{fo:MF1}{fa:MF2}
def FS(p:Prt)(h:p.Ok es.length)(b:ws.length=es.length)(a:fo U=aa p.obj)(ha:fa U=aa [.lst (es.map shD),.lst (ws.map D.bl)]):
  bp (aY "In" "lost" qp fo fa) (bp (aY "Out" "lost" qu fo fa) (bp (aY "Least" "lost" qr fo fa) (aY "Most" "lost" qt fo fa))) U=aa (.bl (p.lost es ws)):=by
 have hm:=Qn p h b _ rfl
 cases p with
 |inn t=>show fZ ((dw a rfl ha).trans hm)
 |out t=>show cj (cp a (by decide)) (fZ ((dw a rfl ha).trans hm))
 |least k L=>show cj (cp a (by decide)) (cj (cp a (by decide)) (fZ ((dw a rfl ha).trans hm)))
 |most k L=>show cj (cp a (by decide)) (cj (cp a (by decide)) (cj (cp a (by decide)) ((dw a rfl ha).trans hm)))
def Qo(p:Prt)(h:p.Ok es.length)(a:fo U=aa p.obj)(ha:fa U=aa [.lst (es.map shD)]):
  bp (aY "In" "sure" Az fo fa) (bp (aY "Out" "sure" AR fo fa) (bp (aY "Least" "sure" AE fo fa) (aY "Most" "sure" AM fo fa))) U=aa (.bl (p.sure es)):=by
 cases p with
 |inn t=>show fZ ((dw a rfl ha).trans (ci (cF (aG (ay rfl rfl (c8 h.1 h.2)) rfl (ij _ _)))))
 |out t=>show cj (cp a (by decide)) (fZ ((dw a rfl ha).trans (ci (cF (aG (ay rfl rfl (c8 h.1 h.2)) rfl (ij _ _))))))
 |least k L=>show cj (cp a (by decide)) (cj (cp a (by decide)) (fZ ((dw a rfl ha).trans (ci (cF (aG (aD rfl (Bh h.1 h.2)) rfl rfl))))))
 |most k L=>show cj (cp a (by decide)) (cj (cp a (by decide)) (cj (cp a (by decide)) ((dw a rfl ha).trans (ci (cF (aG (aD rfl (Bi h.1 h.2)) rfl rfl))))))
variable{n:Nat}
def Qp(r:Rul)(h:r.Ok n):m_0 [r.toD]=aa (.lst (r.ps.map Prt.obj)):=
 mf (congrArg _ (dq r.ps Prt.toD Prt.obj rfl (by have:=h.len;lia) λp _=>cZ rfl rfl (aD rfl (FR p))))
structure Spr where
 es:LOB
 st:LD
 bs:LD
 gk:List (List Key)
 gd:LD
 ws:List (List Key×LD)
 wt:LD
 mks:D
def lsO(E:LD):O:=.lst (E.map .fz)
def wsO(ws:List (List Key×LD)):O:=.dT (ws.map (·.1)) (ws.map λp=>lsO p.2)
nonrec def spN:LSt:=["sheet","steps","bars","guards","watches","waiting","makers"]
def Spr.o(s:Spr):O:=.ins "Spreading" spN [lsO (s.es.map shD),lsO s.st,lsO s.bs,.dT s.gk (s.gd.map .fz),wsO s.ws,lsO s.wt,.fz s.mks]
variable{l:Addr}{s:Spr}
def qx:bq "Spreading" "sheet" (aZ 0) (.deep (.at l s.o)::U)=aa (lsO (s.es.map shD),λx=>.at l (.ins "Spreading" spN [x,lsO s.st,lsO s.bs,.dT s.gk (s.gd.map .fz),wsO s.ws,lsO s.wt,.fz s.mks]),):=rfl
def Qq:bq "Spreading" "steps" (aZ 0) (.deep (.at l s.o)::U)=aa (lsO s.st,λx=>.at l (.ins "Spreading" spN [lsO (s.es.map shD),x,lsO s.bs,.dT s.gk (s.gd.map .fz),wsO s.ws,lsO s.wt,.fz s.mks]),):=rfl
def Bj:bq "Spreading" "bars" (aZ 0) (.deep (.at l s.o)::U)=aa (lsO s.bs,λx=>.at l (.ins "Spreading" spN [lsO (s.es.map shD),lsO s.st,x,.dT s.gk (s.gd.map .fz),wsO s.ws,lsO s.wt,.fz s.mks]),):=rfl
def FT:bq "Spreading" "guards" (aZ 0) (.deep (.at l s.o)::U)=aa (.dT s.gk (s.gd.map .fz),λx=>.at l (.ins "Spreading" spN [lsO (s.es.map shD),lsO s.st,lsO s.bs,x,wsO s.ws,lsO s.wt,.fz s.mks]),):=rfl
def uP:bq "Spreading" "watches" (aZ 0) (.deep (.at l s.o)::U)=aa (wsO s.ws,λx=>.at l (.ins "Spreading" spN [lsO (s.es.map shD),lsO s.st,lsO s.bs,.dT s.gk (s.gd.map .fz),x,lsO s.wt,.fz s.mks]),):=rfl
def oz:bq "Spreading" "waiting" (aZ 0) (.deep (.at l s.o)::U)=aa (lsO s.wt,λx=>.at l (.ins "Spreading" spN [lsO (s.es.map shD),lsO s.st,lsO s.bs,.dT s.gk (s.gd.map .fz),wsO s.ws,x,.fz s.mks]),):=rfl
def Qr:bq "Spreading" "makers" (aZ 0) (.deep (.at l s.o)::U)=aa (.fz s.mks,λx=>.at l (.ins "Spreading" spN [lsO (s.es.map shD),lsO s.st,lsO s.bs,.dT s.gk (s.gd.map .fz),wsO s.ws,lsO s.wt,x]),):=rfl
variable{p:Xp}{E:LD}{R:O->O}
def Bk(h:p U=aa (lsO E,R,)):pC p U=aa E:=by
 unfold pC;rw[h];show x8 E
def jW:∀(E:LD),O.kns (E.map .fz)=ab
 | []=>by rw[iz,O.kns]
 |d::E=>by rw[bP,O.kns,O.kn,jW E];rfl
def mM(h:p U=aa (lsO E,R,)):pB p U=aa (.lst E):=by
 unfold pB lsO at *;rw[h,aw,O.kn,jW,if_pos rfl,O.toD,wM]
def Qs(h:p U=aa (.fz d,R,)):pD p U=aa d:=by
 unfold pD;rw[h];rfl
variable{K:Fl->Prop}
def uQ(h:p U=aa (lsO E,R,))(a:f U=aa d)(hz:E.length<16777216)(k:K (.nx (U.set i (.deep (R (lsO (E++[d]))))))):wp (jS i p f) U K:=(_,by
 unfold jS lsO at *;rw[h,aw,a,aw];change(if (E.map O.fz).length<16777216 then aa _ else ac).map _=_;rw[if_pos (by rw[aH];show hz),show E.map O.fz++_=(E++[d]).map .fz by rw[bn];rfl];rfl,k)
variable{ks:List (List Key)}{os:List O}{y:L2.D}{k:List Key}
def Qt(hv:fv U=aa d)(h:p U=aa (.dT ks os,R,))(a:fk U=aa y)(b:k5 y=aa k)(hn:aX k ks=ac)(hz:ks.length<16777216)
 (q:K (.nx (U.set i (.deep (R (.dT (ks++[k]) (os++[.fz d]))))))):wp (oh i p fk fv) U K:=(_,by
 unfold oh;simp only[hv,aw,h,aw,a,aw,b,aw];change(if aX k ks=ac/\ks.length<16777216 then aa _ else ac).map _=_;rw[if_pos (hn,hz)];rfl,q)
abbrev gb(k:List Key)(y:D):List (List Key×LD)->List (List Key×LD)
 | []=>[(k,[y],)]
 |p::ws=>if p.1=k then (p.1,p.2++[y],)::ws else p::gb k y ws
def Bl{k:List Key}{y:D}:∀{ws:List (List Key×LD)},aX k (ws.map (·.1))=ac->gb k y ws=ws++[(k,[y],)]
 | [],_=>rfl
 |p::ws,h=>by
  rw[bP]at h;dsimp only[aX]at h;split at h
  .cases h
  .rename_i e;dsimp only[gb];rw[if_neg e]
   cases h':aX k _ with
   |none=>rw[Bl h'];rfl
   |some j=>rw[h']at h;nomatch h
def Bm{k:List Key}{y:D}:∀{ws:List (List Key×LD)} {j:Nat},aX k (ws.map (·.1))=aa j->∃p,ws[j]?=aa p/\p.1=k/\gb k y ws=ws.set j (p.1,p.2++[y],)
 | [],_,h=>by cases h
 |p::ws,j,h=>by
  rw[bP]at h;dsimp only[aX]at h;split at h
  .rename_i e;cases h;show(p,rfl,e,?_);dsimp only[gb];rw[if_pos e];rfl
  .rename_i e
   cases h':aX k _ with
   |none=>rw[h']at h;cases h
   |some i=>
    rw[h']at h;cases h;have(q,a,b,c):=Bm h';show(q,by simp only[gM];show a,b,?_);unfold gb;rw[if_neg e,c];rfl
structure bK(c:Nat)(ws:List (List Key×LD)):Prop where
 ln:ws.length<=c
 al:∀p∈ws,p.2.length<=c
variable{c:Nat}{ws:List (List Key×LD)}
def bK.add(h:bK c ws)(k:List Key)(y:D):bK (c+1) (gb k y ws):=by
 cases a:aX k _ with
 |none=>
  rw[Bl a];show(by rw[bf,dN];have:=h.ln;lia,λp e=>?_)
  rcases bI.mp e with q |q
  .have:=h.al p q;lia
  .rw[cB.mp q];show Nat.succ_le_succ (cK _)
 |some j=>
  have(p,b,_,d):=Bm a;rw[d];show(by rw[g7];have:=h.ln;lia,λq f=>?_)
  rcases mem_or_eq_of_mem_set f with z |z
  .have:=h.al q z;lia
  .rw[z];have:=h.al p (cW b);rw[bf,dN];lia
def Qu(h:aX k ks=ac)(hz:ks.length<16777216):(O.dT ks os).apdK k d=aa (.dT (ks++[k]) (os++[.lst [.fz d]])):=by
 unfold O.apdK;dsimp only;rw[h];show if_pos hz
variable{j:Nat}{o2:O}
def Qv{o1:O}(h:aX k ks=aa j)(a:os[j]?=aa o1)(b:o1.appd d=aa o2):(O.dT ks os).apdK k d=aa (.dT ks (os.set j o2)):=by
 unfold O.apdK;dsimp only;rw[h];dsimp only;rw[a,aw,b];rfl
def Qw(h:E.length<16777216):(lsO E).appd y=aa (lsO (E++[y])):=by
 unfold lsO O.appd;dsimp only;rw[aH,if_pos h,bn];rfl
def Qx(h:bK c ws)(e:c<16777216)(k:List Key)(y:D):(wsO ws).apdK k y=aa (wsO (gb k y ws)):=by
 unfold wsO
 cases a:aX k _ with
 |none=>
  rw[Qu a (by rw[aH];have:=h.ln;lia),Bl a,bn,bn]
  rfl
 |some j=>
  have(p,b,_,d):=Bm a;rw[Qv a (by rw[bN,b];rfl) (Qw (by have:=h.al p (cW b);lia)),d,i5,i5,n8 (x:=p.1) (by rw[bN,b];rfl)]
def Qy{g:MF1}(h:p U=aa (wsO ws,R,))(b:g U=aa y)(f:k5 y=aa k)(e:af j U=aa d)(ok:bK c ws)(a:c<16777216)(q:K (.nx (U.set i (.deep (R (wsO (gb k d ws))))))):wp (oi i j p g) U K:=(_,by
 unfold oi;simp only[h,aw,b,aw,f,aw,e,aw,Qx ok a];rfl,q)
variable{m:MTf}{ds:LS}{o o':O}
def jX{cn a:Str}{f:Xa}{b:O}(h:U[i]?=aa (.deep (.at l b)))(hi:b.isIns cn a=ab)(e:f U=aa (E,ds,))(c:ds[i]?=aa (.deep (.at l o)))(hm:m l E o=aa (o',d,)):eM i cn a m f U=aa (d,ds.set i (.deep (.at l o')),):=by
 unfold eM;rw[h];change(if b.isIns cn a=ab then _ else ac)=_;rw[if_pos hi,e,aw,c];change(m l E o).map _=_;rw[hm];rfl
def Qz{cn:Str}(h:fa U=aa E)(hm:∀l,m l E (.ins cn [] [])=aa (o,.non,)):mH cn m fa U=aa o:=by
 unfold mH;rw[h,aw];have a:∃o,∀l,m l E _=aa (o,.non,):=(o,hm);rw[dif_pos a];have:=a.choose_spec 0;rw[hm 0]at this;show congrArg aa (oW (cS this)).1.symm
def FU(l:Addr)(Q:O->D->Prop)(r:Fl):Prop:=match r with
 |.nx U=>∃o,U[0]?=aa (.deep (.at l o))/\Q o .non
 |.rtS d U=>∃o,U[0]?=aa (.deep (.at l o))/\Q o d
 | _=>False
variable{N:Nat}{F:MF3}
def QA{Q:O->D->Prop}(h:wp F (uh N l E o) (FU l Q)):∃o' d,gH N F l E o=aa (o',d,)/\Q o' d:=by
 have(r,e,q):=h;unfold gH;rw[e,aw]
 cases r with
 |nx U=>have(o',a,q):=q;show(o',.non,by dsimp only;rw[E9 a];rfl,q)
 |rtS d U=>have(o',a,q):=q;show(o',d,by dsimp only;rw[E9 a];rfl,q)
 | _=>show q.elim
def jY(h:wp F (uh N l E o) (FU l λx y=>x=o'/\y=d)):gH N F l E o=aa (o',d,):=by
 have(a,b,e,rfl,rfl):=QA h;show e
def oA(h:f U=aa d)(k:K (.rtS d U)):wp (ic f) U K:=(_,by unfold ic;rw[h];rfl,k)
def k8{cn f:Str}{g:LS->Option O}{x:O}{q:O×(O->O)}(a:g U=aa x)(h:p U=aa q)(b:q.1.setF cn f x=aa o2)(k:K (.nx (U.set i (.deep (q.2 o2))))):wp (g4 i cn f p g) U K:=(_,by
 unfold g4;rw[a,aw,h,aw,b];rfl,k)
def oB{f:Xe}{ρ':LS}(h:f U=aa (d,ρ',))(k:K (.nx ρ')):wp (gX f) U K:=(_,by unfold gX;rw[h];rfl,k)
def mN{f:MF2}(h:f U=aa E):gY f U=aa (lsO E):=by unfold gY lsO;rw[h];rfl
def FV(h:f U=aa d):k4 f U=aa (.fz d):=by unfold k4;rw[h];rfl
variable{ns:LI0}
def QB(h:f U=aa (.lst (ns.map D.int)))(a:ns.length<4000)(b:(b4 ns).length<64):mq f U=aa ((b4 ns).map D.int):=by
 unfold mq;rw[h,aw];change(f9 _).bind _=_;rw[tZ,aw,if_pos (a,b)]
def FW(h:∀x∈ns,0<=x/\x<(n:Int)):(b4 ns).length<=n:=by
 by_cases c:(b4 ns).length<=n
 .show c
 .have d:∀x∈b4 ns,x∈(bw n).map λ(i:Nat)=>(i:Int):=λx e=>by
   have(a,b):=h x ((iq x ns).mp e);show aO.mpr (x.toNat,dW.mpr (by lia),by lia)
  have:=(nU _ _ ((jN ns).imp λh=>Int.ne_of_lt h) d (by rw[aH,cq];lia)).length_eq;rw[aH,cq]at this
  lia
def QC(h:f U=aa (.lst E))(h':U[i]?=aa (.own B))(a:B.length+E.length<=16777216):ma i (l9 f) U=aa (.nx (U.set i (.own (B++E)))):=by
 unfold ma l9;rw[h,h'];change(if B.length+E.length<=16777216 then _ else ac)=_;rw[if_pos a]
variable{p:Prt}
def oC(h:p.Ok n):∀x∈nmP p,0<=x/\x<(n:Int):=λx a=>by
 cases p with
 |inn t=>
  have:x=t:=by simpa[nmP]using a
  subst this
  show h
 |out t=>
  have:x=t:=by simpa[nmP]using a
  subst this
  show h
 |least k L=>have(z,hz,rfl):=aO.mp a;show((h.1 z hz).1,(h.1 z hz).2.1)
 |most k L=>have(z,hz,rfl):=aO.mp a;show((h.1 z hz).1,(h.1 z hz).2.1)
def put(es:LOB)(k:Nat)(b:Bool):LOB:=es.set k (aa b)
def dG(es:LOB)(k:Nat)(b:Bool):(put es k b).length=es.length:=g7
variable{k:Nat}
def fJ(es:LOB)(b:Bool)(h:j≠k):(put es k b).getD j ac=es.getD j ac:=by
 unfold put;rw[bM,bM,j7 (fN h)]
def jn(es:LOB)(b:Bool)(h:k<es.length):(put es k b).getD k ac=aa b:=by
 unfold put;rw[bM,i0 h];rfl
variable{es':LOB}
def FX{q:Option Bool->Bool}(h:∀z∈L,q (es'.getD z.1.toNat ac)=q (es.getD z.1.toNat ac)):ce q es' L=ce q es L:=by
 unfold ce;rw[filter_congr h]
def QD{b:Bool}(a:p.Ok es.length)(h:(k:Int)∉nmP p):p.sure (put es k b)=p.sure es:=by
 have ne:∀t:Int,0<=t->t∈nmP p->t.toNat≠k:=λt d f e=>by
  grind
 cases p with
 |inn t=>
  have:=ne t a.1 (by simp[nmP]);change((put es k b).getD t.toNat ac==aa ab)=_;rw[fJ es b this]
  rfl
 |out t=>
  have:=ne t a.1 (by simp[nmP]);change((put es k b).getD t.toNat ac==aa ae)=_;rw[fJ es b this]
  rfl
 |least c L=>
  change decide _=decide _
  rw[FX (es:=es) λz hz=>by rw[fJ es b (ne z.1 (a.1 z hz).1 (aO.mpr (z,hz,rfl)))]]
 |most c L=>
  change decide _=decide _;rw[FX (es:=es) λz hz=>by rw[fJ es b (ne z.1 (a.1 z hz).1 (aO.mpr (z,hz,rfl)))]]
def opn(es:LOB)(t:Int):Bool:=es.getD t.toNat ac==ac
abbrev nmL:Prt->LI0
 |.inn t=>[t]
 |.out t=>[t]
 |.least _ L=>b4 (L.map (·.1))
 |.most _ L=>b4 (L.map (·.1))
abbrev d5:Prt->Bool
 |.inn _=>ab
 |.out _=>ae
 |.least _ _=>ab
 |.most _ _=>ae
def qy(h:p.Ok n)(hn:n<=60):(nmL p).length<64:=by
 cases p with
 |inn t=>change 1<64;decide
 |out t=>change 1<64;decide
 |least k L=>have:=FW (oC h);change(b4 _).length<64;show m4 this (by lia)
 |most k L=>have:=FW (oC h);change(b4 _).length<64;show m4 this (by lia)
variable{t:Int}
def qz:t∈nmL p↔t∈nmP p:=by
 cases p with
 |inn u=>show Iff.rfl
 |out u=>show Iff.rfl
 |least k L=>show iq t _
 |most k L=>show iq t _
def FY(b:L.length<=1000)(a:(b4 (L.map (·.1))).length<64):uE [.lst (L.map itD)]=aa (.lst ((b4 (L.map (·.1))).map D.int)):=by
 show mf (congrArg _ (QB (bm ?_) (by rw[aH];lia) a));rw[map_map];show dq L itD _ rfl (by lia) λz _=>cZ rfl rfl rfl
def FZ(p:Prt)(h:p.Ok n)(hn:n<=60)(b:(nmP p).length<=1000)(a:fo U=aa p.obj):
  bp (aY "In" "named" uD fo λ_=>aa []) (bp (aY "Out" "named" uH fo λ_=>aa []) (bp (aY "Least" "named" uF fo λ_=>aa []) (aY "Most" "named" uG fo λ_=>aa []))) U=aa (.lst ((nmL p).map D.int)):=by
 have c:=qy h hn
 cases p with
 |inn t=>show fZ ((dw a rfl rfl).trans rfl)
 |out t=>show cj (cp a (by decide)) (fZ ((dw a rfl rfl).trans rfl))
 |least k L=>
  have e:=FY (by simpa[nmP]using b) c
  show cj (cp a (by decide)) (cj (cp a (by decide)) (fZ ((dw a rfl rfl).trans (ci (cF (aD rfl e))))))
 |most k L=>
  show cj (cp a (by decide)) (cj (cp a (by decide)) (cj (cp a (by decide)) ((dw a rfl rfl).trans (ci (cF (aD rfl (FY (by simpa[nmP]using b) c)))))))
def QE(p:Prt)(a:fo U=aa p.obj):
  bp (aY "In" "wants" Ac fo λ_=>aa []) (bp (aY "Out" "wants" Am fo λ_=>aa []) (bp (aY "Least" "wants" Ag fo λ_=>aa []) (aY "Most" "wants" Aj fo λ_=>aa []))) U=aa (.bl (d5 p)):=by
 cases p with
 |inn t=>show fZ ((dw a rfl rfl).trans rfl)
 |out t=>show cj (cp a (by decide)) (fZ ((dw a rfl rfl).trans rfl))
 |least k L=>show cj (cp a (by decide)) (cj (cp a (by decide)) (fZ ((dw a rfl rfl).trans rfl)))
 |most k L=>show cj (cp a (by decide)) (cj (cp a (by decide)) (cj (cp a (by decide)) ((dw a rfl rfl).trans rfl)))
nonrec def Wss:=List (List Key×LD)
def gc(t:Int)(b:Bool):List Key:=[.inl t,.inl (cond b 1 0)]
def uR(y:D)(ws:Wss)(p:Prt):Wss:=(nmL p).foldl (λws t=>gb (gc t (d5 p)) y ws) ws
def mO(y:D)(ps:List Prt)(ws:Wss):Wss:=ps.foldl (uR y) ws
def bK.ts{c:Nat}{b:Bool}{y:D}:∀(ts:LI0) {ws:Wss},bK c ws->bK (c+ts.length) (ts.foldl (λws t=>gb (gc t b) y ws) ws)
 | [],_,h=>h
 |t::ts,ws,h=>by
  have:=bK.ts (b:=b) (y:=y) ts (h.add (gc t b) y);rw[cr,show c+_=c+1+ts.length by lia];show this
def bK.le{a:Nat}{ws:Wss}(h:bK c ws)(b:c<=a):bK a ws:=(cJ h.ln b,λp d=>cJ (h.al p d) b)
def PrK(n:Nat)(p:Prt):Prop:=p.Ok n/\(nmP p).length<=1000
def bK.prt{ws:Wss}(h:bK c ws)(a:PrK n p)(hn:n<=60):bK (c+64) (uR y ws p):=by
 have:=qy a.1 hn;show(bK.ts _ h).le (by lia)
def bK.reg{n:Nat}{y:D}(hn:n<=60):∀{ps:List Prt} {c:Nat} {ws:Wss},(∀p∈ps,PrK n p)->bK c ws->bK (c+64*ps.length) (mO y ps ws)
 | [],_,_,_,h=>h
 |p::ps,c,ws,hp,h=>by
  have:=bK.reg (y:=y) hn (λq a=>hp q (be _ a)) (h.prt (y:=y) (hp p aB) hn);rw[cr,show c+64*_=c+64+64*ps.length by lia];show this
def uS(s:Spr)(y:D)(k:List Key)(ps:List Prt):Spr:={s with gk:=s.gk++[k],gd:=s.gd++[.lst (ps.map Prt.obj)],ws:=mO y ps s.ws,wt:=s.wt++[y]}
def QF(E:LD)(d:D):E.map O.fz++[.fz d]=(E++[d]).map .fz:=by rw[bn];rfl
def F0{k:List Key}(s:Spr)(ps:List Prt)(z:k5 y=aa k)(m:aX k s.gk=ac)(j:s.gk.length<16777216)(h:∀p∈ps,PrK n p)(hn:n<=60)(x:bK c s.ws)(A:c+64*ps.length<16777216)(hz:s.wt.length<16777216)(u:ps.length<=100000):
  qm l [y,.lst (ps.map Prt.obj)] s.o=aa ((uS s y k ps).o,.non,):=by
 apply jY;apply am;show Qt rfl FT rfl z m j ?_;rw[QF];apply am
 show da ps Prt.obj (λpre U=>∃g a,U=[.deep (.at l ({s with gk:=s.gk++[k],gd:=s.gd++_,ws:=mO y pre s.ws}:Spr).o),.im y,.im _,g,a]) rfl (_,_,rfl) ?_ ?_
 .rintro pre p post U ex ⟨g,a,rfl⟩;have e:p∈ps:=by rw[ex];simp
  have b:=h p e;have i:pre.length<ps.length:=by rw[ex];simp
  have f:bK _ (mO y pre s.ws):=bK.reg hn (λq w=>h q (by rw[ex];simp[w])) x;have r:=qy b.1 hn;show(_,rfl,?_);walk_at "nrm"
  show da _ D.int (λpr U=>∃a,U=[.deep (.at l ({s with gk:=s.gk++[k],gd:=s.gd++_,ws:=pr.foldl (λws t=>gb (gc t (d5 p)) y ws) _}:Spr).o),.im y,.im _,.im p.obj,a]) (cG (FZ p b.1 hn b.2 rfl) rfl) (_,rfl) ?_ ?_
  .rintro pr t po U d ⟨a,rfl⟩;have v:pr.length<(nmL p).length:=by rw[d];simp
   show(_,rfl,?_);walk_at "nrm";show Qy uP (eJ (ao rfl (ao (QE p rfl) rfl))) rfl rfl (bK.ts pr f) (by lia) ?_;show(.im (.int t),?_);rw[eQ];rfl
  .rintro U ⟨a,rfl⟩;show(.im p.obj,a,?_);unfold mO;rw[eQ];rfl
 .rintro U ⟨g,a,rfl⟩;show uQ oz rfl hz (_,rfl,rfl,rfl)
def mkD(r:Rul):D:=.tup [.int r.hd,.lst (r.ps.map Prt.obj)]
def g5(rs:LRu):LRu:=rs.filter λr=>r.w != .never
def grd(r:Rul):List Prt:=match r.w with
 |.may=>[.least 1 []]
 |.make=>r.ps++[.out r.hd]
 |.never=>r.ps
structure RuK(n:Nat)(r:Rul):Prop where
 ok:r.Ok n
 nm:∀p∈r.ps,(nmP p).length<=1000
 len:r.ps.length<=1000
variable{r:Rul}
def uT(h:RuK n r):∀p∈grd r,PrK n p:=λp a=>by
 have(w,hd,ps):=r
 cases w with
 |may=>
  have:p=.least 1 []:=by simpa[grd]using a
  subst this
  show(((λz hz=>nomatch hz),cK _),cK _)
 |make=>
  rcases bI.mp (a)with q |q
  .show(h.ok.ps p q,h.nm p q)
  .rw[cB.mp q]
   show(h.ok.hd (λz=>by nomatch z),by change 1<=1000;decide)
 |never=>show(h.ok.ps p a,h.nm p a)
def F6(h:RuK n r):(grd r).length<=1001:=by
 have(w,hd,ps):=r;have a:ps.length<=1000:=h.len
 cases w with
 |may=>change 1<=1001;decide
 |make=>change(ps++_).length<=1001;rw[bf,dN];lia
 |never=>change ps.length<=1001;lia
def F7(r:Rul)(h:r.Ok n):o_0 [r.toD]=aa (r.ps.map Prt.obj):=
 uc (congrArg _ (dq r.ps Prt.toD Prt.obj rfl (by have:=h.len;lia) λp _=>cZ rfl rfl (aD rfl (FR p))))
def QG(r:Rul)(h:RuK n r):uJ [r.toD]=aa (.lst ((grd r).map Prt.obj)):=by
 apply eY;have(w,hd,ps):=r
 cases w with
 |may=>
  apply am;show aM rfl (λ_=>?_) (λz=>by nomatch z)
  first |show gF rfl (ga rfl) |show c9 rfl _
 |make=>
  apply am;show aM rfl (λz=>by nomatch z) (λ_=>bc ?_);walk_at "nrm";apply am
  show iU (by first |show ub rfl (F7 (.make,hd,ps) h.ok) |show eb) ?_
  walk_at "nrm";apply am;show aM rfl (λ_=>?_) (λz=>by nomatch z);show jO rfl rfl (by rw[aH];change ps.length<_;have:ps.length<=1000:=h.len;lia) ?_;walk_at "nrm";show nY rfl (ga ?_);change D.lst _=D.lst ((ps++_).map Prt.obj);rw[bn]
  rfl
 |never=>
  apply am;show aM rfl (λz=>by nomatch z) (λ_=>bc ?_);walk_at "nrm";apply am
  show iU (by first |show ub rfl (F7 (.never,hd,ps) h.ok) |show eb) ?_
  walk_at "nrm";apply am;show aM rfl (λz=>by nomatch z) (λ_=>bc ?_);walk_at "nrm";show nY rfl (ga rfl)
def qA(i:Nat):D:=.tup [.str "rule",.int i]
def mP(i:Nat):List Key:=[.inr "rule",.inl i]
def QH(h:mP i=mP j):i=j:=by
 have:=rZ (ka (ka h).2).1;lia
def Bn{a:Type}[DecidableEq a]{f:a}:∀{ns:List a},f∉ns->aX f ns=ac
 | [],_=>rfl
 |n::ns,h=>by
  unfold aX;rw[if_neg (λe=>h (by rw[e];show aB)),Bn (λq=>h (be _ q))];rfl
def sp0(es:LOB)(rs:LRu):Spr:=(es,[],[],[],[],[],[],.lst ((g5 rs).map mkD))
def mQ(s:Spr)(p:Nat×Rul):Spr:=uS s (qA p.1) (mP p.1) (grd p.2)
structure SpK(n i c:Nat)(s:Spr):Prop where
 gk:s.gk=(bw i).map mP
 gl:s.gd.length=i
 ws:bK c s.ws
 wt:s.wt=(bw i).map qA
def SpK.step(h:SpK n i c s)(a:RuK n r)(hn:n<=60):SpK n (i+1) (c+65000) (mQ s (i,r,)):=by
 show(?_,?_,?_,?_)
 .change s.gk++_=_;rw[range_succ,bn,h.gk];rfl
 .change(s.gd++[_]).length=_;rw[bf,h.gl];rfl
 .have:=bK.reg (y:=qA i) hn (uT a) h.ws;have b:=F6 a;show this.le (by lia)
 .change s.wt++_=_;rw[range_succ,bn,h.wt];rfl
def SpK.fresh(h:SpK n i c s):aX (mP i) s.gk=ac:=Bn λq=>by
 rw[h.gk]at q;have(j,a,e):=aO.mp q;have:=QH e;subst this;show gN _ (dW.mp a)
abbrev eN:Nat->LRu->List (Nat×Rul)
 | _,[]=>[]
 |i,r::rs=>(i,r,)::eN (i+1) rs
def F8:∀(i:Nat) (rs:LRu),gU i (rs.map Rul.toD)=(eN i rs).map λp=>D.tup [.int p.1,p.2.toD]
 | _,[]=>rfl
 |i,r::rs=>by rw[bP,gU,F8 _ rs];rfl
def qB:∀(i:Nat) (rs:LRu) (j:Nat),(eN i rs)[j]?=(rs[j]?).map λr=>(i+j,r,)
 | _,[],_=>rfl
 |i,r::rs,0=>rfl
 |i,r::rs,j+1=>by rw[eN,gM,gM,qB _ rs j,show i+1+j=i+(j+1) by lia]
variable{rs:LRu}
def F9{pre post:List (Nat×Rul)}{p:Nat×Rul}(h:eN 0 rs=pre++p::post):p.1=pre.length/\p.2∈rs/\pre.length<rs.length:=by
 have a:(eN 0 rs)[pre.length]?=aa p:=by rw[h,lg (aP _),Nat.sub_self];rfl
 rw[qB]at a
 cases b:rs[pre.length]? with
 |none=>rw[b]at a;nomatch a
 |some r=>
  rw[b]at a;cases a;show(jw _,cW b,(cA.mp b).1)
def pl0(n:Int)(rs:LRu):D:=.tup [.int n,.lst (rs.map Rul.toD)]
def QI(hi:fi U=aa (rs.map Rul.toD))(hok:∀r∈rs,r.Ok n)(hz:rs.length<=1000):
  aV 1 [] fi (av 0) (mB (m2 dQ (mIx (ai 0) (kI 1)) kN)) (bj (ag (mIx (ai 0) (kI 1)) (ag (ar m_0 (ag (af 0) nZ)) nZ))) U=aa ((g5 rs).map mkD):=by
 show fH rs Rul.toD _ mkD hi (by lia) λr b=>?_;have a:=Qp r (hok r b);have(w,hd,ps):=r
 cases w with
 |never=>show dR rfl rfl λz=>by nomatch z
 |make=>show dR rfl rfl λ_=>eJ (ao rfl (ao (aD rfl a) rfl))
 |may=>show dR rfl rfl λ_=>eJ (ao rfl (ao (aD rfl a) rfl))
def ir{g:Xa}(h:f U=aa d)(h':g U=aa (E,U,)):dL (mX f) g U=aa (d::E,U,):=by
 unfold dL mX;rw[h];change(g U).map _=_;rw[h'];rfl
def Ga{f:MF2}(h:f U=aa [.lst B]):il f U=aa (gU 0 B):=by
 unfold il;rw[h];rfl
def spI(es:LOB)(rs:LRu):Spr:=(eN 0 rs).foldl mQ (sp0 es rs)
def SpK.foldT{n:Nat}(hn:n<=60){es:LOB}{rs:LRu}(a:∀r∈rs,RuK n r):∀(k:Nat),k<=rs.length->SpK n k (65000*k) (((eN 0 rs).take k).foldl mQ (sp0 es rs))
 | 0,_=>(rfl,rfl,⟨cK _,λ_ h=>nomatch h⟩,rfl)
 |k+1,h=>by
  have b:(eN 0 rs)[k]?=aa (k,rs[k],):=by rw[qB,cI h];simp
  have:=(SpK.foldT hn (es:=es) a k (Nat.le_of_succ_le h)).step (a rs[k] (lh h)) hn;rw[take_succ,b,eQ,show 65000*_=65000*k+65000 by lia];show this
def SpK.fold(hn:n<=60)(a:∀r∈rs,RuK n r){pre post:List (Nat×Rul)}{p:Nat×Rul}(h:eN 0 rs=pre++p::post):SpK n pre.length (65000*pre.length) (pre.foldl mQ (sp0 es rs)):=by
 have:=SpK.foldT hn (es:=es) a pre.length (eS (F9 h).2.2);rw[h,take_left' rfl]at this;show this
variable{v:Int}
def QJ{bars:LD}(hn:n<=60)(e:∀r∈rs,RuK n r)(hz:rs.length<=250)
 (k:∀b c,K (.nx [.deep (.at l (spI es rs).o),.im (pl0 v rs),.im (.lst bars),.im (.lst (es.map shD)),b,c,.no])):
  wp (bU (il (ag (mIx (ai 1) (kI 1)) nZ)) (cg (bd (av 5) (bd (av 4) cD))) (gX (eM 0 "Spreading" "take_guard" qm (dL (mX (bj (ag (kSt "rule") (ag (af 5) nZ)))) (dL (mX (ar uJ (ag (af 4) nZ))) fI)))))
   [.deep (.at l (sp0 es rs).o),.im (pl0 v rs),.im (.lst bars),.im (.lst (es.map shD)),.no,.no,.no] K:=by
 show da (eN 0 rs) (λp=>D.tup [.int p.1,p.2.toD]) (λpre U=>∃b c,U=[.deep (.at l (pre.foldl mQ (sp0 es rs)).o),.im _,.im _,.im _,b,c,.no]) ?_ (_,_,rfl) ?_ ?_
 .rw[<- F8];show Ga (ao (ay rfl rfl rfl) rfl)
 .rintro pre p post U ex ⟨b,c,rfl⟩;have(f,g,i):=F9 ex;have d:=SpK.fold (es:=es) hn e ex;have a:=e p.2 g;have h:=F6 a;show(_,rfl,?_);walk_at "nrm";show oB (jX rfl rfl (ir rfl (ir (aD rfl (QG p.2 a)) rfl)) rfl (F0 _ _ rfl (by rw[f];show d.fresh) (by rw[d.gk,aH,cq];lia) (uT a) hn d.ws (by lia) (by rw[d.wt,aH,cq];lia) (by lia))) ?_;show(.im p.2.toD,.im (.int p.1),?_);rw[eQ];rfl
 .rintro U ⟨b,c,rfl⟩;show k b c
def hup(es:LOB)(wo:LB0)(r:Rul):Bool:=r.w != .never && (wo.getD r.hd.toNat ae && !(r.bodyLost es wo))
def Gb(h:r.w≠.never):atI [.str r.w.s,r.hdD,.lst (r.ps.map Prt.toD)] 1=aa (.int r.hd):=by
 have(w,hd,ps):=r
 cases w <;> first |rfl |grind
def qC(h:r.w≠.never):(r.w != .never)=ab:=by grind
inductive iu(rs:LRu)(es:LOB)(a:LB0):LB0->Prop
 |refl:iu rs es a a
 |step {b:LB0} {r:Rul}:iu rs es a b->r∈rs->hup es b r=ab->iu rs es a (b.set r.hd.toNat ae)
def uU(l:LB0)(k j:Nat):(l.set k ae).getD j ae=(l.getD j ae && !(k==j)):=by grind
variable{a b:LB0}
def iu.len(h:iu rs es a b):b.length=a.length:=by
 induction h with
 |refl=>rfl
 |step _ _ _ c=>rw[g7,c]
def iu.sub(h:iu rs es a b)(i:Nat):b.getD i ae=ab->a.getD i ae=ab:=by
 induction h with
 |refl=>show id
 |step _ _ _ c=>
  grind
variable{wo:LB0}
def qE(h:hup es wo r=ab):r.w≠.never/\wo.getD r.hd.toNat ae=ab/\r.bodyLost es wo=ae:=by
 unfold hup at h
 grind
variable{le:LB0}
def QK(i:r.Ok es.length)(g:mn le wo)(h:hup es wo r=ab)(f:le.getD r.hd.toNat ae=ab):hup es le r=ab:=by
 have(a,b,c):=qE h
 have e:r.bodyLost es le=ae:=by
  cases q:r.bodyLost es le with
  |false=>rfl
  |true=>
   have(p,d,j):=any_eq_true.mp q;have:r.bodyLost es wo=ab:=any_eq_true.mpr (p,d,tM (ik.refl es) g (i.ps p d) j);rw[c]at this
   nomatch this
 unfold hup;rw[qC a,f,e];rfl
def Ge{c:LB0}(hok:∀r∈rs,r.Ok es.length)(h:iu rs es a b)(m:le.length=a.length)(j:∀i,le.getD i ae=ab->a.getD i ae=ab)(g:∀i,c.getD i ae=ab->b.getD i ae=ab)
 (p:∀r∈rs,hup es le r=ab->c.getD r.hd.toNat ae=ab):∀i,le.getD i ae=ab->b.getD i ae=ab:=by
 induction h with
 |refl=>show j
 | @step b r n hr l d=>
  have f:=λi q=>by
   have:=g i q;rw[uU]at this
   simpa using (bV _ _▸this).1
  have d:=d f;intro i q;rw[uU,d i q,oN]
  cases e:(r.hd.toNat==i)with
  |false=>rfl
  |true=>
   exfalso;have e:r.hd.toNat=i:=by simpa using e
   subst e;have w:mn le b:=(by rw[n.len,m],d);have:=g _ (p r hr (QK (hok r hr) w l q));rw[uU]at this;simp at this
def ct(bs:LB0):Nat:=(bs.filter λb=>b).length
def Gf(bs:LB0):ct bs<=bs.length:=jt _ _
def Bo:∀(bs:LB0) (k:Nat),bs.getD k ae=ab->ct (bs.set k ae)+1=ct bs
 | [],k,h=>by simp at h
 |b::bs,0,h=>by
  subst h
  rfl
 |b::bs,k+1,h=>by
  have a:=Bo bs k (by show h)
  cases b with
  |false=>show a
  |true=>
   change(ct _+1)+1=ct bs+1;rw[a]
def QL(bs:LB0)(k:Nat)(b:Bool):(bs.map D.bl).set k (.bl b)=(bs.set k b).map D.bl:=by rw[i5]
def dz(es:LOB):LB0:=es.map λe=>!(e==aa ae)
def Gg(hi:fi U=aa (es.map shD))(hz:es.length<=1000):aV 1 [] fi (av 0) kY (m2 dQ (af 0) (kBl ae)) U=aa ((dz es).map D.bl):=by
 unfold dz;rw[<- MB];show dq es shD _ hi (by lia) λe _=>cZ rfl rfl (aG rfl rfl (pT _ _))
abbrev Bp:Option Prt->D
 |some p=>p.obj
 |none=>.non
def Gh(ps:List Prt)(h:∀p∈ps,p.Ok es.length)(e:wo.length=es.length):m_7 [.lst (ps.map Prt.obj),.lst (es.map shD),.lst (wo.map D.bl)]=aa (Bp (ps.find? λp=>p.lost es wo)):=by
 apply eY;apply am;show da ps Prt.obj (λpre U=>∃c,U=[.im _,.im _,.im _,c]/\∀p∈pre,p.lost es wo=ae) rfl ⟨_,rfl,λ_ h=>nomatch h⟩ ?_ ?_
 .rintro pre p post U ex ⟨c,rfl,a⟩;have d:p∈ps:=by rw[ex];simp
  show(_,rfl,?_);walk_at "nrm";show aM (cP (FS p (h p d) e rfl rfl) rfl) (λz=>?_) (λz=>bc ?_)
  .show ME rfl (cH ?_);rw[ex,find?_append,find?_eq_none.mpr λq b=>by rw[a q b];show bD,find?_cons_of_pos z];rfl
  .show(.im p.obj,rfl,λq b=>?_)
   rcases bI.mp b with y |y
   .show a q y
   .rw[cB.mp y];show z
 .rintro U ⟨c,rfl,a⟩;show c9 rfl (cH ?_);rw[find?_eq_none.mpr λq b=>by rw[a q b];show bD];rfl
def QM(x:Option Prt):dIs (Bp x) .non=aa (.bl x.isNone):=by
 cases x with
 |none=>rfl
 |some p=>cases p <;> rfl
def Gi(r:Rul):(r.ps.find? λp=>p.lost es wo).isNone=!(r.bodyLost es wo):=by
 unfold Rul.bodyLost
 grind
def iw(es:LOB)(wo:LB0)(r:Rul):Bool:=wo.getD r.hd.toNat ae && !(r.bodyLost es wo)
nonrec def iX:=LB0×LRu×LRu
def bS(es:LOB)(a:iX)(r:Rul):iX:=if iw es a.1 r then (a.1.set r.hd.toNat ae,a.2.1++[r],a.2.2,) else (a.1,a.2.1,a.2.2++[r],)
def dM(es:LOB)(wo:LB0)(us rest:LRu):iX:=rest.foldl (bS es) (wo,us,[],)
abbrev mR(es:LOB):Nat->LB0->LRu->LRu->iX
 | 0,wo,us,rest=>(wo,us,rest,)
 |k+1,wo,us,rest=>if us.length<(dM es wo us rest).2.1.length/\(dM es wo us rest).1.any id=ab then mR es k (dM es wo us rest).1 (dM es wo us rest).2.1 (dM es wo us rest).2.2 else dM es wo us rest
def b5(es:LOB)(ms:LRu):iX:=mR es (ms.length+1) (dz es) [] ms
structure L3(es:LOB)(ms:LRu)(a:iX)(q:LRu):Prop where
 len:a.1.length=es.length
 pe:iu ms es (dz es) a.1
 us:∀r∈a.2.1,a.1.getD r.hd.toNat ae=ae
 pm:(a.2.1++a.2.2++q).Perm ms
variable{ms:LRu}
def L3.step{a:iX}{q:LRu}(h:L3 es ms a (r::q))(d:∀r∈ms,r.w≠.never):L3 es ms (bS es a r) q:=by
 have c:r∈ms:=h.pm.mem_iff.mp (by simp);unfold bS
 by_cases b:iw es a.1 r=ab
 .rw[if_pos b];show(by rw[g7];show h.len,.step h.pe c ?_,λx e=>?_,?_)
  .unfold hup;rw[qC (d r c),oN];show b
  .change(a.1.set r.hd.toNat ae).getD _ ae=ae;rw[uU]
   rcases bI.mp e with z |z
   .rw[h.us x z];rfl
   .rw[cB.mp z];simp
  .show List.Perm.trans ?_ h.pm;rw[cX,cX,cX];show vz _ ?_;change(r::(a.2.2++q)).Perm _;show perm_middle.symm
 .rw[if_neg b];show(h.len,h.pe,h.us,?_);have:a.2.1++(a.2.2++[r])++q=a.2.1++a.2.2++r::q:=by simp
  rw[this];show h.pm
def L3.fold{es:LOB}{ms:LRu}(b:∀r∈ms,r.w≠.never):∀{q:LRu} {a:iX},L3 es ms a q->L3 es ms (q.foldl (bS es) a) []
 | [],_,h=>h
 |r::q,a,h=>L3.fold (a:=bS es a r) b (h.step b)
def qF{es:LOB}:∀(q:LRu) (a:iX),(q.foldl (bS es) a).2.1.length+(q.foldl (bS es) a).2.2.length=a.2.1.length+a.2.2.length+q.length/\a.2.1.length<=(q.foldl (bS es) a).2.1.length
 | [],a=>(by simp,aP _)
 |r::q,a=>by
  have(d,b):=qF q _;rw[d6,d];unfold bS at *
  split at b <;> rename_i c
  .rw[if_pos c]at *;rw[bf]at b;show(by change(a.2.1++[r]).length+_+_=_;simp only[bf,cr];simp;lia,cJ (vB _ _) b)
  .rw[if_neg c]at *;show(by change _+(a.2.2++[r]).length+_=_;simp only[bf,cr];simp;lia,b)
def Gj{es:LOB}:∀(q:LRu) (a:iX),(q.foldl (bS es) a).2.1.length=a.2.1.length->(q.foldl (bS es) a).1=a.1/\(q.foldl (bS es) a).2.2=a.2.2++q/\∀r∈q,iw es a.1 r=ae
 | [],a,_=>⟨rfl,(bB _).symm,λ_ h=>nomatch h⟩
 |r::q,a,h=>by
  rw[d6]at h ⊢;have c:=(qF (es:=es) q (bS es a r)).2
  by_cases b:iw es a.1 r=ab
  .exfalso;have e:bS es a r=(a.1.set r.hd.toNat ae,a.2.1++[r],a.2.2,):=by unfold bS;rw[if_pos b]
   grind
  .have e:bS es a r=(a.1,a.2.1,a.2.2++[r],):=by unfold bS;rw[if_neg b]
   rw[e]at h ⊢;have(d,f,g):=Gj q _ h
   grind
def QN{bs:LB0}(h:bs.any id=ae)(i:Nat):bs.getD i ae=ae:=by
 rw[bM]
 cases e:bs[i]? with
 |none=>rfl
 |some b=>
  cases b with
  |false=>rfl
  |true=>rw[any_eq_true.mpr (ab,cW e,rfl)]at h;nomatch h
def Gk{es:LOB}{ms:LRu}(d:∀r∈ms,r.w≠.never):∀(k:Nat) (wo:LB0) (us rest:LRu),L3 es ms (wo,us,[],) rest->rest.length<k->L3 es ms (mR es k wo us rest) []/\∀r∈ms,iw es (mR es k wo us rest).1 r=ae
 | 0,_,_,_,_,h=>absurd h (iA _)
 |k+1,wo,us,rest,h,hk=>by
  have a:=L3.fold d h;have c:=qF (es:=es) rest (wo,us,[],);dsimp only[mR];split
  .rename_i g;show Gk d k _ _ _ (a.len,a.pe,a.us,?_) ?_
   .have:=a.pm;rw[bB]at this ⊢;show this
   .have:(dM es wo us rest).2.1.length+(dM es wo us rest).2.2.length=us.length+0+rest.length:=c.1
    lia
  .rename_i g;show(a,λr i=>?_)
   cases ha:(dM es wo us rest).1.any id with
   |false=>unfold iw;rw[QN ha];rfl
   |true=>
    have f:(dM es wo us rest).2.1.length=us.length:=by
     have:us.length<=(dM es wo us rest).2.1.length:=c.2
     lia
    have(b,j,e):=Gj rest _ f;have b:(dM es wo us rest).1=wo:=b
    rcases bI.mp (h.pm.mem_iff.mpr i)with z |z
    .rw[bB]at z;rw[b];unfold iw;rw[h.us r z];rfl
    .rw[b];show e r z
def Gm(a:∀r∈ms,r.w≠.never):L3 es ms (b5 es ms) []/\∀r∈ms,iw es (b5 es ms).1 r=ae:=
 Gk a _ _ _ _ (by unfold dz;rw[aH],.refl,(λ_ h=>nomatch h),by simp) (cR _)
def QO(hm:s.mks=.lst (ms.map mkD))(N:s.es.length<=60)(hok:∀r∈ms,r.Ok s.es.length)(hw:∀r∈ms,r.w≠.never)(hz:ms.length<=1000):
  A9 l [] s.o=aa (({s with mks:=.lst (((b5 s.es ms).2.1++(b5 s.es ms).2.2).map mkD)}:Spr).o,.lst ((b5 s.es ms).1.map D.bl),):=by
 have C:(dz s.es).length=s.es.length:=by unfold dz;rw[aH]
 apply jY;apply am;show iU (Gg (Bk qx) (by lia)) ?_;walk_at "nrm";apply am;show iU rfl ?_;walk_at "nrm";apply am;show bH ((Qs Qr).trans (by rw[hm])) ?_;walk_at "nrm";apply am;show bH rfl ?_;walk_at "nrm";apply am;show nW (λm U=>∃(wo:LB0) (us rest:LRu) (g:Bool) (J L h:Sl),U=[.deep _,.own (wo.map D.bl),.own (us.map mkD),.im (.lst (rest.map mkD)),.im (.bl g),J,L,h]/\wo.length=s.es.length/\(us++rest).Perm ms/\(g=ab->mR s.es m wo us rest=b5 s.es ms/\rest.length<m)/\(g=ae->(wo,us,rest,)=b5 s.es ms)) ?_ _ _ _ ⟨dz s.es,[],ms,ab,_,_,_,rfl,C,rB _,λ_=>(rfl,cR _),λz=>by nomatch z⟩ (by lia)
 .rintro m U ⟨wo,us,rest,g,J,L,h,rfl,G,e,T,Q⟩;show(g,rfl,?_,?_)
  .rintro rfl;have(i,y):=T rfl;have E:us.length+rest.length=ms.length:=by have:=e.length_eq;rw[bf]at this;show this
   apply am;show bH (aD rfl (eZ us mkD)) ?_;walk_at "nrm";apply am;show iU rfl ?_;walk_at "nrm";apply am;show da rest mkD (λpre U=>∃h,U=[.deep _,.own ((pre.foldl (bS s.es) (wo,us,[],)).1.map D.bl),.own ((pre.foldl (bS s.es) (wo,us,[],)).2.1.map mkD),.im _,.im _,.im _,.own ((pre.foldl (bS s.es) (wo,us,[],)).2.2.map mkD),h]/\(pre.foldl (bS s.es) (wo,us,[],)).1.length=s.es.length) rfl (_,rfl,G) ?_ ?_
   .rintro pre r post U ex ⟨h,rfl,c⟩;have p:r∈ms:=e.mem_iff.mp (by rw[ex];simp);have I:=hok r p;have(H,h1):=I.hd (hw r p);have Y:pre.length<rest.length:=by rw[ex];simp
    have x:=qF (es:=s.es) pre (wo,us,[],);have n:(pre.foldl _ (wo,us,[],)).2.1.length+(pre.foldl _ (wo,us,[],)).2.2.length=us.length+0+pre.length:=x.1;generalize j:pre.foldl _ _=A at *;show(_,rfl,?_);walk_at "nrm"
    have ht:(d9 (bi (mIx (ai 1) (mIx (ai 7) (kI 0)))) (mB (m2 dIs (ar m_7 (ag (mIx (ai 7) (kI 1)) (ag (pB (bq "Spreading" "sheet" (aZ 0))) (ag (c6 1) nZ)))) kN))) [.deep (.at l s.o),.own (A.1.map D.bl),.own (A.2.1.map mkD),.im (.lst (rest.map mkD)),.im (.bl ab),.im (.int us.length),.own (A.2.2.map mkD),.im (mkD r)]=aa (iw s.es A.1 r):=by
     unfold iw;rw[<- Gi];show tI (cP (ay rfl (ay rfl rfl rfl) (jL H (by lia))) rfl) (bJ (aG (aD (ao (ay rfl rfl rfl) (ao (mM qx) (ao rfl rfl))) (Gh (wo:=A.1) r.ps I.ps c)) rfl (QM _)))
    show aM ht (λz=>?_) (λz=>?_)
    .apply am;show xG (k:=r.hd) (B:=A.1.map D.bl) rfl (ay rfl rfl rfl) rfl H (by rw[aH];lia) ?_;walk_at "nrm";show jO (d:=mkD r) rfl rfl (by rw[aH];lia) ?_;show(.im (mkD r),?_,?_)
     .rw[eQ,j];change _=[_,Sl.own ((bS s.es A r).1.map D.bl),.own ((bS s.es A r).2.1.map mkD),_,_,_,.own ((bS s.es A r).2.2.map mkD),_];unfold bS;rw[if_pos z,<- QL,bn];rfl
     .rw[eQ,j];change(bS s.es A r).1.length=_;unfold bS;rw[if_pos z,g7];show c
    .show jO (d:=mkD r) rfl rfl (by rw[aH];lia) ?_;have M:¬iw s.es A.1 r=ab:=by rw[z];show bD
     show(.im (mkD r),?_,?_)
     .rw[eQ,j];change _=[_,Sl.own ((bS s.es A r).1.map D.bl),.own ((bS s.es A r).2.1.map mkD),_,_,_,.own ((bS s.es A r).2.2.map mkD),_];unfold bS;rw[if_neg M,bn];rfl
     .rw[eQ,j];change(bS s.es A r).1.length=_;unfold bS;rw[if_neg M];show c
   .rintro U ⟨h,rfl,c⟩;have n:(dM s.es wo us rest).2.1.length+(dM s.es wo us rest).2.2.length=us.length+0+rest.length:=(qF (es:=s.es) rest (wo,us,[],)).1;change wp _ [.deep (.at l s.o),.own ((dM s.es wo us rest).1.map D.bl),.own ((dM s.es wo us rest).2.1.map mkD),.im (.lst (rest.map mkD)),.im (.bl ab),.im (.int us.length),.own ((dM s.es wo us rest).2.2.map mkD),h] _;replace c:(dM s.es wo us rest).1.length=s.es.length:=c
    have f:((dM s.es wo us rest).2.1++(dM s.es wo us rest).2.2).Perm ms:=by
     have gen:∀(q:LRu) (a:iX),((q.foldl (bS s.es) a).2.1++(q.foldl (bS s.es) a).2.2).Perm (a.2.1++a.2.2++q):=by
      intro q
      induction q with
      |nil=>intro a;simp
      |cons r q ih=>
       intro a;show(ih _).trans ?_;unfold bS;split
       .change(a.2.1++[r]++a.2.2++q).Perm _;rw[cX,cX,cX];show vz _ ?_;change(r::(a.2.2++q)).Perm (a.2.2++r::q);show perm_middle.symm
       .change(a.2.1++(a.2.2++[r])++q).Perm _;rw[show a.2.1++(a.2.2++[r])++q=a.2.1++a.2.2++r::q by simp]
     show(gen rest (wo,us,[],)).trans ?_;rw[bB];show e
    cases m with
    |zero=>show absurd y (iA _)
    |succ m=>
     unfold mR at i;generalize j:dM s.es wo us rest=A at *;apply am;show bH (d:=.lst (A.2.2.map mkD)) rfl ?_;walk_at "nrm";show bH (d:=.bl (decide ((us.length:Int)<A.2.1.length) && A.1.any id)) (ig (aG (aD rfl (eZ A.2.1 mkD)) rfl t8) (aD rfl (D3 A.1))) ?_
     by_cases u:us.length<A.2.1.length/\A.1.any id=ab
     .rw[if_pos u]at i;have v:(decide ((us.length:Int)<A.2.1.length) && A.1.any id)=ab:=by rw[u.2,decide_eq_true (by lia)];rfl
      rw[v];show⟨m,cR _,A.1,A.2.1,A.2.2,ab,_,_,_,rfl,c,f,λ_=>(i,by lia),λz=>by nomatch z⟩
     .rw[if_neg u]at i
      have v:(decide ((us.length:Int)<A.2.1.length) && A.1.any id)=ae:=by
       cases ha:A.1.any id with
       |false=>show oM _
       |true=>
        have:¬us.length<A.2.1.length:=λq=>u (q,ha);rw[decide_eq_false (by lia)];rfl
      rw[v];show(0,oV _,A.1,A.2.1,A.2.2,ae,_,_,_,rfl,c,f,(λz=>by nomatch z),λ_=>i)
  .rintro rfl;have E:us.length+rest.length=ms.length:=by have:=e.length_eq;rw[bf]at this;show this
   rw[<- (Q rfl)];apply am;show k8 (FV (bm (uN (a:=us.map mkD) (b:=rest.map mkD) rfl rfl (by rw[aH,aH];lia)))) rfl rfl ?_;rw[<- bn];show oA (d:=.lst (wo.map D.bl)) rfl (_,rfl,rfl,rfl)
def prD(z:Int×Bool):D:=.tup [.int z.1,.bl z.2]
def Bq(es:LOB)(t:Int):dIs (shD (es.getD t.toNat ac)) .non=aa (.bl (opn es t)):=by
 unfold opn
 cases es.getD t.toNat ac with
 |none=>rfl
 |some b=>cases b <;> rfl
def wt(L:LII)(j:Int):Int:=((L.filter λz=>z.1==j).map (·.2)).sum
def kW(W:LII):List Key:=W.map λz=>.inl z.1
def xW(W:LII):LD:=W.map λz=>.int z.2
def mS(W:LII)(j:Int):Int:=((W.find? λz=>z.1==j).map (·.2)).getD 0
def upW(W:LII)(j v:Int):LII:=if W.any (λz=>z.1==j) then W.map (λz=>if z.1=j then (z.1,v,) else z) else W++[(j,v,)]
def Gn(W:LII)(j:Int):f8 (kW W) (.inl j)=W.any λz=>z.1==j:=by
 unfold f8 kW;rw[oR]
 congr 1
 funext z;show j5.mpr (by simp)
def QP(W:LII)(j v:Int):gV (kW W) (.inl j)=kW (upW W j v):=by
 unfold gV upW;rw[Gn];split
 .unfold kW;rw[map_map];show map_congr_left λz _=>?_;change _=fT (if z.1=j then _ else z).1
  split <;> rfl
 .unfold kW;rw[bn];rfl
def QQ(W:LII)(j v:Int):io (kW W) (xW W) (.inl j) (.int v)=xW (upW W j v):=by
 unfold io upW;rw[Gn];split
 .rename_i a;clear a;unfold kW xW
  induction W with
  |nil=>rfl
  |cons z W b=>
   simp only[bP,bP,rm,b,bP,bP]
   congr 1
   by_cases h:z.1=j
   .rw[if_pos (by rw[h]),if_pos h]
   .rw[if_neg λq=>h (rZ q),if_neg h]
 .unfold xW;rw[bn];rfl
def Go(W:LII)(j:Int):iV (kW W) (xW W) (.inl j)=(W.find? λz=>z.1==j).map λz=>D.int z.2:=by
 unfold iV kW xW
 induction W with
 |nil=>rfl
 |cons z W a=>
  grind
def QR(W:LII)(j:Int):(iV (kW W) (xW W) (.inl j)).getD (.int 0)=.int (mS W j):=by
 rw[Go];unfold mS
 cases (W.find? λz=>z.1==j) <;> rfl
def uV(W:LII)(z:Int×Int):LII:=upW W z.1 (mS W z.1+z.2)
def wts(L:LII):LII:=L.foldl uV []
structure WOk(W L:LII):Prop where
 nd:(W.map (·.1)).Nodup
 ks:∀j,j∈W.map (·.1)↔j∈L.map (·.1)
 vs:∀z∈W,z.2=wt L z.1
 ln:W.length<=L.length
def Gp(L:LII)(z:Int×Int)(j:Int):wt (L++[z]) j=wt L j+if z.1=j then z.2 else 0:=by
 unfold wt;rw[rA,bn,sum_append]
 congr 1
 by_cases h:z.1=j
 .rw[if_pos h,vt (by simp[h])];simp
 .rw[if_neg h,filter_cons_of_neg (by simp[h])];rfl
def Br{j:Int}(h:j∉L.map (·.1)):wt L j=0:=by
 unfold wt
 rw[filter_eq_nil_iff.mpr λz hz=>by
  simp only[beq_iff_eq]
  grind]
 rfl
def WOk.get{W L:LII}(h:WOk W L)(j:Int):mS W j=wt L j:=by
 unfold mS
 cases e:W.find? _ with
 |none=>
  have hn:j∉W.map (·.1):=λq=>by
   grind
  rw[Br λq=>hn ((h.ks j).mpr q)]
  rfl
 |some z=>
  have a:z.1=j:=by grind
  change z.2=_;rw[h.vs z (mem_of_find?_eq_some e),a]
def WOk.step{W L:LII}(h:WOk W L)(z:Int×Int):WOk (uV W z) (L++[z]):=by
 unfold uV upW;rw[h.get]
 by_cases d:W.any (λy=>y.1==z.1)=ab
 .rw[if_pos d]
  have f:(W.map λy=>if y.1=z.1 then (y.1,wt L z.1+z.2,) else y).map (·.1)=W.map (·.1):=by
   rw[map_map];show map_congr_left λy _=>?_;change(if y.1=z.1 then _ else y).1=_
   split <;> rfl
  show(by rw[f];show h.nd,λj=>?_,λy c=>?_,by rw[aH,bf];have:=h.ln;lia)
  .rw[f,h.ks j,bn,bI];show(.inl,λq=>q.elim id λq=>?_);have(y,c,e):=any_eq_true.mp d;have g:j=z.1:=by simpa using q
   rw[g,<- (beq_iff_eq.mp e)];show(h.ks _).mp (aO.mpr (y,c,rfl))
  .have(x,l,ex):=aO.mp c;rw[Gp]
   by_cases e:x.1=z.1
   .rw[if_pos e]at ex;rw[<- ex,if_pos e.symm,e]
   .rw[if_neg e]at ex;rw[<- ex,if_neg λq=>e q.symm,h.vs x l]
    lia
 .rw[if_neg d]
  have hn : z.1∉W.map (·.1):=λq=>d (by
   have(y,c,e):=aO.mp q;show any_eq_true.mpr (y,c,by simp[e]))
  show(?_,λj=>?_,λy c=>?_,by rw[bf,bf];have:=h.ln;change _+1<=_+1;lia)
  .rw[bn];show fM.mpr (h.nd,by simp,λa ha b i=>?_);have:b=z.1:=by simpa using i
   rw[this];show λq=>hn (q▸ha)
  .rw[bn,bn,bI,bI,h.ks j];rfl
  .rw[Gp]
   rcases bI.mp c with q |q
   .have ne:z.1≠y.1:=λe=>hn (e▸aO.mpr (y,q,rfl));rw[if_neg ne,h.vs y q]
    lia
   .have:y=(z.1,wt L z.1+z.2,):=by simpa using q
    rw[this,if_pos rfl]
def qG(L:LII):WOk (wts L) L:=by
 have go:∀(post pre W:List _),WOk W pre->WOk (post.foldl uV W) (pre++post):=by
  intro post
  induction post with
  |nil=>intro pre W h;rw[bB];show h
  |cons z post a=>
   intro pre W h;have:=a _ _ (h.step z);rw[cX]at this;show this
 show go L [] [] (fc,λ_=>Iff.rfl,λz h=>(bO h).elim,aP _)
def QS(L:LII)(g:L.length<=100000):AG [.lst (L.map itD)]=aa (.kd (kW (wts L)) (xW (wts L))):=by
 apply eY;apply am;show Ex rfl ?_;apply am;show da L itD (λpre U=>∃a b,U=[.im _,.ownd (kW (wts pre)) (xW (wts pre)),a,b]) rfl (_,_,rfl) ?_ ?_
 .rintro pre z post U e ⟨a,b,rfl⟩;show(_,rfl,?_);change wp _ [.im _,.ownd _ _,.im _,.im _] _;have h:pre.length<=L.length:=by rw[e,bf];lia
  have f:=(qG pre).ln
  have d:wts (pre++[z])=upW (wts pre) z.1 (mS (wts pre) z.1+z.2):=by
   unfold wts;rw[eQ];rfl
  rw[d];generalize wts pre=W at f
  have c:n5 1 (af 2) (kI 0) [.im (.lst (L.map itD)),.ownd (kW W) (xW W),.im (.int z.1),.im (.int z.2)]=aa (.int (mS W z.1)):=by
   change aa ((iV _ _ _).getD _)=_;rw[QR]
  show Ex (o:=.nx [.im _,.ownd _ _,.im (.int z.1),.im (.int z.2)]) ?_ (_,_,rfl);unfold iQ;rw[aG c rfl nX,aw];change(if (kW W).length<16777216 then aa (Fl.nx [.im _,.ownd _ _,.im _,.im _]) else ac)=_;rw[if_pos (by unfold kW;rw[aH];lia),QP W z.1 _,QQ]
 .rintro U ⟨a,b,rfl⟩;show c9 rfl (cH rfl)
def opI(es:LOB)(L:LII):LII:=L.filter λz=>opn es z.1
def hv(es:LOB)(L:LII)(lack:Int):LI0:=((wts (opI es L)).filter λz=>decide (z.2≥lack)).map (·.1)
def Gq(h:InN es.length L)(e:L.length<=100000)(lack:Int):uL [.lst (L.map itD),.lst (es.map shD),.int lack]=aa (.lst ((hv es L lack).map D.int)):=by
 have d:(opI es L).length<=L.length:=jt _ _;have ok:=qG (opI es L);have c:=ok.ln;apply eY;apply am;show bH (aD (ao (bm (E:=(opI es L).map itD) ?_) rfl) (QS _ (by lia))) ?_
 .show fH L itD _ itD rfl (by lia) λz hz=>?_;have a:=h z hz;show dR rfl (bJ (aG (ay rfl (ay rfl rfl rfl) (c8 a.1 a.2.1)) rfl (Bq es z.1))) λ_=>rfl
 generalize b:wts _=W at ok c;show gF ?_ (ga rfl);unfold hv;rw[b,map_map];show fH W (λz=>D.int z.1) _ _ ?_ (by lia) λz hz=>?_
 .change aa _=_;unfold kW;rw[map_map];rfl
 .show dR rfl (bJ (aG ?_ rfl t9)) λ_=>rfl;change iV _ _ _=_;rw[Go,EV W ok.nd z hz];rfl
abbrev tps(es:LOB):Prt->List (Int×Bool)
 |.inn t=>if opn es t then [(t,ab,)] else []
 |.out t=>if opn es t then [(t,ae,)] else []
 |.least k L=>(hv es L (k-ce (·==aa ab) es L)).map λt=>(t,ab,)
 |.most k L=>(hv es L (ce (λe=>!(e==aa ae)) es L-k)).map λt=>(t,ae,)
def uW(lack:Int):(hv es L lack).length<=L.length:=by
 unfold hv;rw[aH];have a:=jt (λz:Int×Int=>decide (z.2≥lack)) (wts (opI es L));have b:=(qG (opI es L)).ln;have c:(opI es L).length<=L.length:=jt _ _
 lia
def QT(p:Prt)(h:p.Ok es.length)(a:fo U=aa p.obj)(ha:fa U=aa [.lst (es.map shD)]):
  bp (aY "In" "tips" AB fo fa) (bp (aY "Out" "tips" AT fo fa) (bp (aY "Least" "tips" AJ fo fa) (aY "Most" "tips" AO fo fa))) U=aa (.lst ((tps es p).map prD)):=by
 cases p with
 |inn t=>
  show fZ ((dw a rfl ha).trans (ci (cF (xH (bJ (aG (ay rfl rfl (c8 h.1 h.2)) rfl (Bq es t))) (λe=>?_) λe=>?_))))
  .change _=aa (D.lst ((if opn es t then _ else []).map prD));rw[if_pos e];rfl
  .change _=aa (D.lst ((if opn es t then _ else []).map prD));rw[if_neg (by grind)]
   rfl
 |out t=>
  show cj (cp a (by decide)) (fZ ((dw a rfl ha).trans (ci (cF (xH (bJ (aG (ay rfl rfl (c8 h.1 h.2)) rfl (Bq es t))) (λe=>?_) λe=>?_)))))
  .change _=aa (D.lst ((if opn es t then _ else []).map prD));rw[if_pos e];rfl
  .change _=aa (D.lst ((if opn es t then _ else []).map prD));rw[if_neg (by grind)]
   rfl
 |least k L=>
  have c:=uW (es:=es) (L:=L) (k-ce (·==aa ab) es L);have b:=h.2;show cj (cp a (by decide)) (cj (cp a (by decide)) (fZ ((dw a rfl ha).trans ?_)));apply eY;apply am;show bH (aG rfl (aD rfl (Bh h.1 h.2)) xI) ?_;show gF ?_ (ga rfl);change _=aa (((hv es L _).map λt=>_).map prD);rw[map_map]
  show dq _ D.int _ (cG (aD rfl (Gq h.1 h.2 _)) rfl) (by lia) λt _=>cZ rfl rfl rfl
 |most k L=>
  have c:=uW (es:=es) (L:=L) (ce (λe=>!(e==aa ae)) es L-k);have b:=h.2;show cj (cp a (by decide)) (cj (cp a (by decide)) (cj (cp a (by decide)) ((dw a rfl ha).trans ?_)));apply eY;apply am;show bH (aG (aD rfl (Bi h.1 h.2)) rfl xI) ?_;show gF ?_ (ga rfl);change _=aa (((hv es L _).map λt=>_).map prD);rw[map_map];show dq _ D.int _ (cG (aD rfl (Gq h.1 h.2 _)) rfl) (by lia) λt _=>cZ rfl rfl rfl
abbrev neg(z:Int×Bool):Int×Bool:=(z.1,!z.2,)
abbrev pnx(es:LOB)(p:Prt):Option (List (Int×Bool))->List (Int×Bool)
 |none=>tps es p
 |some l=>l.filter λz=>decide (z∈tps es p)
abbrev pst(es:LOB)(a:Option (List (Int×Bool)))(p:Prt):Option (List (Int×Bool)):=if p.sure es then a else aa (pnx es p a)
abbrev qH:Option (List (Int×Bool))->D
 |none=>.non
 |some l=>.lst (l.map prD)
def Gr(es:LOB):∀G:List Prt,G.foldl (pst es) (aa [])=aa []
 | []=>rfl
 |p::G=>by
  have:pst es (aa []) p=aa []:=by unfold pst;split <;> rfl
  rw[d6,this];show Gr es G
def QU(h:p.Ok es.length):(tps es p).length<=100000:=by
 cases p with
 |inn t=>
  change(if opn es t then _ else []).length<=100000;split
  .show(by decide:1<=100000)
  .show cK _
 |out t=>
  change(if opn es t then _ else []).length<=100000;split
  .show(by decide:1<=100000)
  .show cK _
 |least k L=>unfold tps;rw[aH];show cJ (uW _) h.2
 |most k L=>unfold tps;rw[aH];show cJ (uW _) h.2
def Gs(x:Int×Bool)(l:List (Int×Bool)):eX (prD x) (.lst (l.map prD))=aa (.bl (decide (x∈l))):=by
 have e:∀l:List _,d3 (prD x) (l.map prD)=aa (decide (x∈l)):=by
  intro l
  induction l with
  |nil=>rfl
  |cons z l a=>
   change((deq 19 _ _).bind λb=>(d3 _ _).map λr=>b || r)=_;rw[show deq 19 _ _=aa (z.1==x.1 && (z.2==x.2 && ab))from rfl,a];change aa _=_
   congr 1
   grind
 change((d3 _ _).map D.bl)=_
 grind
abbrev Gu:Option (List (Int×Bool))->LD ⊕ D
 |none=>.inr .non
 |some l=>.inl (l.map prD)
abbrev prs(G:List Prt)(es:LOB):Option (List (Int×Bool)):=(G.foldl (pst es) ac).map λl=>l.map neg
abbrev kRN(x:LD ⊕ D):Fl->Prop
 |.rtO E=>x=.inl E
 |.rt d=>d.scalar=ab/\x=.inr d
 | _=>False
def QV{x:LD ⊕ D}(h:wp F (eE N E) (kRN x)):ya N F E=aa x:=by
 have(r,e,q):=h;change(F _).bind Fd=aa x;rw[e,aw]
 cases r with
 |rtO us=>rw[show x=.inl us from q];rfl
 |rt d=>
  have(a,b):=q;rw[b]
  show if_pos a
 | _=>show q.elim
def QW(G:List Prt)(x:∀p∈G,p.Ok es.length):AV [.lst (G.map Prt.obj),.lst (es.map shD)]=aa (Gu (prs G es)):=by
 apply QV;generalize m:D.lst _=q;apply am;show bH rfl ?_;apply am;show da G Prt.obj (λpre U=>∃h i,U=[.im q,.im _,.im (qH (pre.foldl (pst es) ac)),h,i]/\∀l,pre.foldl (pst es) ac=aa l->l.length<=100000) (by subst m;rfl) ⟨_,_,rfl,λl e=>by nomatch e⟩ ?_ ?_
 .rintro pre p post U u ⟨h,i,rfl,c⟩;have n:=x p (by rw[u];simp);have b:G.foldl (pst es) ac=post.foldl (pst es) (pst es (pre.foldl (pst es) ac) p):=by rw[u,eQ,d6]
  rw[eQ,d6,foldl_nil];generalize pre.foldl _ ac=a at c b;show(_,rfl,?_);show aM (gE (cP (Qo p n rfl rfl) rfl)) (λe=>?_) λe=>bc ?_
  .rw[Bool.not_eq_true']at e;have f:pst es a p=aa (pnx es p a):=by unfold pst;rw[if_neg (by rw[e];show bD)]
   apply am;show bH (QT p n rfl rfl) ?_;apply am
   have v:(vIf (mB (m2 dIs (af 2) kN)) (af 4) (aE (aV 1 [4] (aL (af 2)) (av 0) (mB (m2 eX (af 0) (af 1))) (af 0)))) [.im q,.im (.lst (es.map shD)),.im (qH a),.im p.obj,.im (.lst ((tps es p).map prD))]=aa (qH (pst es a p))/\∀l,pst es a p=aa l->l.length<=100000:=by
    rw[f]
    cases a with
    |none=>show(rfl,λl e=>by cases e;show(QU n))
    |some w=>
     have r:=c w rfl;show(xH rfl (λe=>by nomatch e) λ_=>bm (fH w prD _ prD rfl (by lia) λz _=>dR rfl (bJ (aG rfl rfl (Gs z _))) λ_=>rfl),λl e=>?_);cases e;show cJ (jt _ _) r
   show bH v.1 ?_;obtain⟨g,j⟩:∃g,pst es a p=aa g:=(_,f);have d:=v.2;rw[j]at b d ⊢
   cases g with
   |nil=>
    show aM rfl (λ_=>?_) λe=>by nomatch e
    show gF rfl (?_);unfold prs;rw[b,Gr]
    rfl
   |cons z g=>
    show aM rfl (λe=>by nomatch e) λ_=>bc (_,_,rfl,d)
  .rw[Bool.not_eq_false']at e;have f:pst es a p=a:=by unfold pst;rw[if_pos e]
   rw[f];show(_,_,rfl,c)
 .rintro U ⟨h,i,rfl,c⟩;unfold prs;generalize G.foldl _ ac=a at c;apply am
  cases a with
  |none=>
   show aM rfl (λ_=>(c9 rfl (rfl,rfl))) λe=>by nomatch e
  |some l=>
   have r:=c l rfl;show aM rfl (λe=>by nomatch e) λ_=>bc ?_;show gF ?_ rfl;rw[map_map];show dq l prD _ rfl (by lia) λz _=>cZ rfl rfl rfl
def k9(h:opn es t=ab):es.getD t.toNat ac=ac:=by simpa[opn]using h
def Gv(h:opn es t=ab):wt (opI es L) t=wt L t:=by
 unfold wt opI;rw[filter_filter]
 grind
def uX{lack:Int}:t∈hv es L lack↔opn es t=ab/\t∈L.map (·.1)/\wt L t≥lack:=by
 have ok:=qG (opI es L);constructor
 .intro h;have(z,hz,rfl):=aO.mp h;have(b,c):=cQ.mp hz;have c:=of_decide_eq_true c;have(y,d,a):=aO.mp ((ok.ks z.1).mp (aO.mpr (z,b,rfl)));have(i,e):=cQ.mp d;rw[a]at e;show(e,aO.mpr (y,i,a),?_);rw[<- Gv e,<- ok.vs z b];show c
 .rintro⟨b,c,g⟩;have(y,d,a):=aO.mp c;have(z,hz,f):=aO.mp ((ok.ks t).mpr (aO.mpr (y,cQ.mpr (d,by rw[a];show b),a)));show aO.mpr (z,cQ.mpr (hz,decide_eq_true ?_),f);rw[ok.vs z hz,f,Gv b];show g
def Gw(es:LOB)(L:LII)(lack:Int):(hv es L lack).Nodup:=by
 unfold hv;show vv ((rp (p:=λz:Int×Int=>decide _)).map (·.1)) (qG _).nd
def Bs(z:Int×Int)(L:LII)(t:Int):wt (z::L) t=(if z.1=t then z.2 else 0)+wt L t:=by
 unfold wt
 grind
def uY(q:Option Bool->Bool)(es:LOB)(z:Int×Int)(L:LII):ce q es (z::L)=(if q (es.getD z.1.toNat ac) then z.2 else 0)+ce q es L:=by
 unfold ce
 grind
def Gy(h:InN n L)(t:Int):0<=wt L t:=by
 induction L with
 |nil=>show Int.le_refl _
 |cons z L b=>
  have c:=h z aB;have d:=b λy a=>h y (be _ a);rw[Bs]
  grind
def kQ{j:Int}{b:Bool}(t0:0<=t)(t1:t<(es.length:Int))(a:0<=j):(put es t.toNat b).getD j.toNat ac=if j=t then aa b else es.getD j.toNat ac:=by
 by_cases e:j=t
 .rw[if_pos e,e];show jn es b (by lia)
 .rw[if_neg e];show fJ es b (by lia)
def uZ(h:InN es.length L)(t0:0<=t)(t1:t<(es.length:Int))(a:opn es t=ab)(b:Bool):ce (·==aa ab) (put es t.toNat b) L=ce (·==aa ab) es L+if b then wt L t else 0:=by
 induction L with
 |nil=>cases b <;> rfl
 |cons z L d=>
  rw[uY,uY,Bs,(d λy c=>h y (be _ c)),kQ t0 t1 (h z aB).1]
  by_cases e:z.1=t
  .rw[if_pos e,if_pos e,e,k9 a]
   cases b with
   |true=>
    change z.2+(ce _ es L+wt L t)=0+ce _ es L+(z.2+wt L t)
    lia
   |false=>
    change 0+(ce _ es L+0)=0+ce _ es L+0
    lia
  .rw[if_neg e,if_neg e]
   split <;> split <;> lia
def u3(h:InN es.length L)(t0:0<=t)(t1:t<(es.length:Int))(a:opn es t=ab)(b:Bool):ce (λe=>!(e==aa ae)) (put es t.toNat b) L=ce (λe=>!(e==aa ae)) es L-if b then 0 else wt L t:=by
 induction L with
 |nil=>cases b <;> rfl
 |cons z L d=>
  rw[uY,uY,Bs,(d λy c=>h y (be _ c)),kQ t0 t1 (h z aB).1]
  by_cases e:z.1=t
  .rw[if_pos e,if_pos e,e,k9 a]
   cases b with
   |true=>
    change z.2+(ce _ es L-0)=z.2+ce _ es L-0
    lia
   |false=>
    change 0+(ce _ es L-wt L t)=z.2+ce _ es L-(z.2+wt L t)
    lia
  .rw[if_neg e,if_neg e]
   split <;> split <;> lia
def qI(j:p.Ok es.length)(f:p.sure es=ae)(t:Int)(b:Bool):(t,b,)∈tps es p↔(0<=t/\t<(es.length:Int))/\opn es t=ab/\p.sure (put es t.toNat b)=ab:=by
 cases p with
 |inn t0=>
  have(g,i):=j;change _∈(if opn es t0 then _ else [])↔_
  have es':0<=t->t<_->(Prt.sure _ (.inn t0)=ab↔(if t0=t then aa b else es.getD t0.toNat ac)=aa ab):=λx y=>by
   rw[<- kQ x y g];show beq_iff_eq
  have f:¬es.getD t0.toNat ac=aa ab:=λq=>by
   have:(es.getD t0.toNat ac==aa ab)=ae:=f;rw[q]at this;show absurd this (by decide)
  constructor
  .intro h;split at h
   .rename_i c;have:(t,b,)=(t0,ab,):=by simpa using h
    cases this;show((g,i),c,(es' g i).mpr (if_pos rfl))
   .nomatch h
  .rintro⟨⟨x,y⟩,c,a⟩;have a:=(es' x y).mp a
   by_cases e:t0=t
   .rw[if_pos e]at a;cases a;rw[e,if_pos c];show aB
   .rw[if_neg e]at a
    show absurd a f
 |out t0=>
  have(g,i):=j;change _∈(if opn es t0 then _ else [])↔_
  have es':0<=t->t<_->(Prt.sure _ (.out t0)=ab↔(if t0=t then aa b else es.getD t0.toNat ac)=aa ae):=λx y=>by
   rw[<- kQ x y g];show beq_iff_eq
  have f:¬es.getD t0.toNat ac=aa ae:=λq=>by
   have:(es.getD t0.toNat ac==aa ae)=ae:=f;rw[q]at this;show absurd this (by decide)
  constructor
  .intro h;split at h
   .rename_i c;have:(t,b,)=(t0,ae,):=by simpa using h
    cases this;show((g,i),c,(es' g i).mpr (if_pos rfl))
   .nomatch h
  .rintro⟨⟨x,y⟩,c,a⟩;have a:=(es' x y).mp a
   by_cases e:t0=t
   .rw[if_pos e]at a;cases a;rw[e,if_pos c];show aB
   .rw[if_neg e]at a
    show absurd a f
 |least k L=>
  have hi:=j.1;have f:=of_decide_eq_false f;change _∈(hv es L _).map _↔(_/\_/\decide _=ab);rw[decide_eq_true_iff];constructor
  .intro h;have(u,hm,e):=aO.mp h;cases e;have(c,hn,m):=uX.mp hm;have(z,hz,l):=aO.mp hn;have d:=hi z hz;rw[l]at d;show((d.1,d.2.1),c,?_);rw[uZ hi d.1 d.2.1 c,if_pos rfl];lia
  .rintro⟨⟨x,y⟩,c,a⟩;simp only[uZ hi x y c]at a
   cases b with
   |false=>rw[if_neg (by decide)]at a;lia
   |true=>
    show aO.mpr (t,uX.mpr (c,?_,by lia),rfl)
    by_cases q:t∈L.map (·.1)
    .show q
    .rw[Br q]at a
     lia
 |most k L=>
  have hi:=j.1;have f:=of_decide_eq_false f;change _∈(hv es L _).map _↔(_/\_/\decide _=ab);rw[decide_eq_true_iff];constructor
  .intro h;have(u,hm,e):=aO.mp h;cases e;have(c,hn,m):=uX.mp hm;have(z,hz,l):=aO.mp hn;have d:=hi z hz;rw[l]at d;show((d.1,d.2.1),c,?_);rw[u3 hi d.1 d.2.1 c,if_neg (by decide)];lia
  .rintro⟨⟨x,y⟩,c,a⟩;rw[u3 hi x y c]at a
   cases b with
   |true=>rw[if_pos rfl]at a;lia
   |false=>
    show aO.mpr (t,uX.mpr (c,?_,by lia),rfl)
    by_cases q:t∈L.map (·.1)
    .show q
    .rw[Br q]at a
     lia
def Bt(c:p.Ok es.length)(t0:0<=t)(t1:t<(es.length:Int))(d:opn es t=ab)(b:Bool)(h:p.sure es=ab):p.sure (put es t.toNat b)=ab:=by
 have f:=k9 d
 cases p with
 |inn u=>
  have a:=beq_iff_eq.mp h;change((put es t.toNat b).getD u.toNat ac==aa ab)=ab;rw[kQ t0 t1 c.1,if_neg (λe=>by rw[e,f]at a;nomatch a),a]
  rfl
 |out u=>
  have a:=beq_iff_eq.mp h;change((put es t.toNat b).getD u.toNat ac==aa ae)=ab;rw[kQ t0 t1 c.1,if_neg (λe=>by rw[e,f]at a;nomatch a),a]
  rfl
 |least k L=>
  have h:=of_decide_eq_true h;change decide _=ab;have:=Gy c.1 t;rw[decide_eq_true_iff,uZ c.1 t0 t1 d]
  grind
 |most k L=>
  have h:=of_decide_eq_true h;change decide _=ab;have:=Gy c.1 t;rw[decide_eq_true_iff,u3 c.1 t0 t1 d]
  grind
def QX(es:LOB)(p:Prt):((tps es p).map (·.1)).Nodup:=by
 have one:∀(q:Bool) (z:Int×Bool),((if q then [z] else []).map (·.1)).Nodup:=λq z=>by
  cases q
  .show fc
  .show bW.mpr (λh=>(bO h).elim,fc)
 cases p with
 |inn t=>show one _ _
 |out t=>show one _ _
 |least k L=>
  change(((hv es L _).map λt=>(t,ab,)).map (·.1)).Nodup;rw[map_map]
  show(map_id _).symm▸Gw es L _
 |most k L=>
  change(((hv es L _).map λt=>(t,ae,)).map (·.1)).Nodup;rw[map_map];show(map_id _).symm▸Gw es L _
abbrev Bu(es:LOB)(G:List Prt):Option (List (Int×Bool))->Prop
 |none=>∀p∈G,p.sure es=ab
 |some l=>(∃p∈G,p.sure es=ae)/\(∀z,z∈l↔∀p∈G,p.sure es=ae->z∈tps es p)/\(l.map (·.1)).Nodup
def Gz(es:LOB)(G:List Prt):Bu es G (G.foldl (pst es) ac):=by
 have go:∀(post pre:List Prt) b,Bu es pre b->Bu es (pre++post) (post.foldl (pst es) b):=by
  intro post
  induction post with
  |nil=>intro pre b h;rw[bB];show h
  |cons p post m=>
   intro pre b h;have:=m (pre++[p]) (pst es b p) ?_
   .grind
   unfold pst
   cases f:p.sure es with
   |true=>
    have hm:∀q,q∈pre++[p]->q∈pre\/q=p:=λq c=>(bI.mp c).imp id λe=>by simpa using e
    cases b with
    |none=>show λq c=>(hm q c).elim (h q) λe=>e▸f
    |some l=>
     have((q,c,i),j,g):=h;show((q,dO _ c,i),λz=>?_,g)
     grind
   |false=>
    have d:p∈pre++[p]:=by simp
    cases b with
    |none=>
     show((p,d,f),λz=>?_,QX es p);show(λa q c e=>?_,λa=>a p d f)
     rcases bI.mp c with w |w
     .rw[h q w]at e;grind
     .have:q=p:=by simpa using w
      rw[this];show a
    |some l=>
     have(_,j,g):=h;show((p,d,f),λz=>?_,vv ((rp (p:=λz=>decide (z∈tps es p))).map (·.1)) g);change z∈l.filter _↔_
     grind
 show go G [] ac λp d=>(bO d).elim
nonrec def Pr:=Int×Bool
nonrec abbrev LLP:=List (List Pr)
nonrec def Wy:=Bool×Nat
nonrec def Wt:=List (Pr×List Wy)
def wyS(b:Bool):Str:=cond b "bar" "rule"
def wyD(y:Wy):D:=.tup [.str (wyS y.1),.int y.2]
def wyK(y:Wy):List Key:=[.inr (wyS y.1),.inl y.2]
def bv(b:List Pr):D:=.lst (b.map prD)
def brP(z:Pr):Prt:=if z.2 then .inn z.1 else .out z.1
def brg(b:List Pr):List Prt:=b.map brP
variable{y:Wy}
def GA{x:Wy}(h:wyK x=wyK y):x=y:=by
 have(a,i):=x;have(b,j):=y;have(c,f):=ka h;have d:i=j:=by lia
 subst d;have e:wyS a=wyS b:=jd.inj c
 cases a <;> cases b <;> first |rfl |show absurd e (by decide)
variable{p q:Pr}
def GB(h:gc p.1 p.2=gc q.1 q.2):p=q:=by
 have(a,i):=p;have(b,j):=q;have(c,d):=ka h
 grind
abbrev gq(p:Pr)(y:Wy):Wt->Wt
 | []=>[(p,[y],)]
 |q::tw=>if q.1=p then (q.1,q.2++[y],)::tw else q::gq p y tw
abbrev gJ(p:Pr)(y:Wy):Wt->Wt
 | []=>[]
 |q::tw=>if q.1=p then (q.1,q.2.erase y,)::tw else q::gJ p y tw
def look(tw:Wt)(p:Pr):List Wy:=match tw with
 | []=>[]
 |q::tw=>if q.1=p then q.2 else look tw p
def wtW(tw:Wt):Wss:=tw.map λq=>(gc q.1.1 q.1.2,q.2.map wyD,)
def GC(p:Pr)(y:Wy):∀tw:Wt,gb (gc p.1 p.2) (wyD y) (wtW tw)=wtW (gq p y tw)
 | []=>rfl
 |q::tw=>by
  change gb _ _ ((gc q.1.1 q.1.2,q.2.map wyD,)::wtW tw)=_;dsimp only[gb,gq]
  by_cases e:q.1=p
  .rw[if_pos (by rw[e]),if_pos e];change _=(_,(q.2++[y]).map wyD,)::wtW tw;rw[bn];rfl
  .rw[if_neg (λz=>e (GB z)),if_neg e,GC p y tw];rfl
def ixW(p:Pr):∀tw:Wt,(aX (gc p.1 p.2) ((wtW tw).map (·.1))=ac/\look tw p=[])\/∃j q,aX (gc p.1 p.2) ((wtW tw).map (·.1))=aa j/\tw[j]?=aa q/\q.1=p/\look tw p=q.2/\∀y,gJ p y tw=tw.set j (q.1,q.2.erase y,)
 | []=>.inl (rfl,rfl)
 |q::tw=>by
  change(aX _ (gc q.1.1 q.1.2::(wtW tw).map (·.1))=ac/\_)\/∃j c,aX _ (gc q.1.1 q.1.2::(wtW tw).map (·.1))=aa j/\_;dsimp only[aX,look]
  by_cases e:q.1=p
  .show .inr (0,q,if_pos (by rw[e]),rfl,e,if_pos e,λy=>?_);dsimp only[gJ];rw[if_pos e];rfl
  .rw[if_neg (λz=>e (GB z)),if_neg e]
   rcases ixW p tw with⟨a,b⟩ |⟨j,c,a,b,d,f,g⟩
   .show .inl (by rw[a];rfl,b)
   .show .inr (j+1,c,by rw[a];rfl,by simp only[gM];show b,d,f,λy=>?_);dsimp only[gJ];rw[if_neg e,g y];rfl
def qJ(E:LD):(lsO E).items=aa E:=x8 E
def QY(tw:Wt)(p:Pr):(wsO (wtW tw)).got (gc p.1 p.2)=aa ((look tw p).map wyD):=by
 unfold wsO O.got;dsimp only
 rcases ixW p tw with⟨a,b⟩ |⟨j,q,a,b,d,c,e⟩
 .rw[a,b];rfl
 .rw[a,c];dsimp only;rw[bN,wtW,bN,b];show qJ _
variable{tw:Wt}{pp:Xp}{g:MF1}
def Bv(h:pp U=aa (wsO (wtW tw),R,))(a:g U=aa (prD p)):gZ pp g U=aa ((look tw p).map wyD):=by
 unfold gZ;rw[h,aw,a,aw];show QY tw p
def QZ(h:pp U=aa (wsO (wtW tw),R,))(f:g U=aa (prD p))(i:look tw p≠[]):∃b,jR pp g U=aa (lsO ((look tw p).map wyD),b,)/\∀y,b (lsO (((look tw p).erase y).map wyD))=R (wsO (wtW (gJ p y tw))):=by
 rcases ixW p tw with⟨c,a⟩ |⟨j,q,c,a,l,d,e⟩
 .show absurd a i
 .show(λx=>R (.dT ((wtW tw).map (·.1)) (((wtW tw).map λp=>lsO p.2).set j x)),?_,λy=>?_)
  .unfold jR;simp only[h,aw,f,aw];change((wsO _).key (gc p.1 p.2)).map _=_;unfold wsO O.key;dsimp only;rw[c,aw,bN,wtW,bN,a,d];rfl
  .rw[e y,d];unfold wsO wtW;rw[i5,i5,i5,n8 (by rw[bN,bN,a];rfl)]
def GD(z y:Wy):deq 19 (wyD z) (wyD y)=aa (z==y):=by
 rw[show deq 19 _ _=aa ((wyS z.1==wyS y.1) && ((_==_) && ab))from rfl]
 congr 1
 have(a,i):=z;have(b,j):=y;apply j5.mpr;simp only[bV,beq_iff_eq,Prod.mk.injEq,and_true];constructor
 .rintro⟨u,v⟩;show(?_,by lia)
  cases a <;> cases b <;> first |rfl |show absurd u (by decide)
 .grind
def Bw(y:Wy):∀S3:List Wy,d3 (wyD y) (S3.map wyD)=aa (decide (y∈S3))
 | []=>rfl
 |z::S3=>by
  change((deq 19 _ _).bind λb=>(d3 _ _).map λr=>b || r)=_;rw[GD,Bw y S3]
  grind
def GE(y:Wy):∀S3:List Wy,y∈S3->(S3.map wyD).eraseIdx ((S3.map wyD).findIdx (isE (wyD y)))=(S3.erase y).map wyD
 | [],h=>nomatch h
 |z::S3,h=>by
  have a:isE (wyD y) (wyD z)=(z==y):=by
   unfold isE;rw[GD]
   cases z==y <;> rfl
  simp only[bP,findIdx_cons,a,erase_cons]
  cases e:z==y with
  |true=>rfl
  |false=>
   have:y∈S3:=by
    rcases aW.mp h with q |q
    .rw[q,beq_self_eq_true]at e;nomatch e
    .show q
   change wyD z::(S3.map wyD).eraseIdx _=_;rw[GE y S3 this];rfl
def Q0{S3:List Wy}(h:y∈S3):(lsO (S3.map wyD)).remd (wyD y)=aa (lsO ((S3.erase y).map wyD)):=by
 unfold O.remd;simp only[qJ,aw,Bw,decide_eq_true h,if_pos rfl,GE y S3 h];rfl
def Q1(y:Wy)(S3:List Wy):eX (wyD y) (.lst (S3.map wyD))=aa (.bl (decide (y∈S3))):=by
 change((d3 _ _).map D.bl)=_;rw[Bw];rfl
def gys(r b:Nat):List Wy:=(bw r).map (λi=>(ae,i,))++(bw b).map λi=>(ab,i,)
def b6(rs:LRu)(bs:LLP)(y:Wy):List Prt:=cond y.1 (brg (bs.getD y.2 [])) (((rs[y.2]?).map grd).getD [])
def gdD(rs:LRu)(bs:LLP)(y:Wy):D:=.lst ((b6 rs bs y).map Prt.obj)
def Q2(r b:Nat):(gys r b).Nodup:=by
 show fM.mpr ((vw _ (λa b h e=>h (oW e).2) nodup_range),(vw _ (λa b h e=>h (oW e).2) nodup_range),?_)
 grind
variable{r:Nat}
def ix{b:Nat}:y∈gys r b↔y.2<cond y.1 b r:=by
 unfold gys;have(a,i):=y
 cases a <;> simp
def Q3(r b:Nat):(gys r b).length=r+b:=by unfold gys;simp
def qK(r b:Nat):gys r (b+1)=gys r b++[(ab,b,)]:=by unfold gys;rw[range_succ];simp
def GF{b d:Type}[DecidableEq d]{f:b->d}(c:∀x y,f x=f y->x=y):∀{l:List b} {j:Nat} {a:b},l.Nodup->l[j]?=aa a->aX (f a) (l.map f)=aa j
 | [],_,_,_,h=>by cases h
 |x::l,0,a,_,h=>by
  cases h
  show if_pos rfl
 |x::l,j+1,a,nd,h=>by
  have(g,i):=bW.mp nd;rw[bP];unfold aX;rw[if_neg (λe=>g (by rw[c _ _ e];show cW h)),GF c i h];rfl
structure Spt where
 es:LOB
 st:LD
 bs:LLP
 tw:Wt
 wt:List Wy
 ms:LRu
def Spt.S(rs:LRu)(s:Spt):Spr:=(s.es,s.st,s.bs.map bv,(gys rs.length s.bs.length).map wyK,(gys rs.length s.bs.length).map (gdD rs s.bs),wtW s.tw,s.wt.map wyD,.lst (s.ms.map mkD))
def Q4{s:Spt}(c:y∈gys rs.length s.bs.length)(b:g (.deep (.at l (s.S rs).o)::U)=aa (wyD y)):pB (jR (bq "Spreading" "guards" (aZ 0)) g) (.deep (.at l (s.S rs).o)::U)=aa (gdD rs s.bs y):=by
 have(j,a):=j8 c;unfold pB jR;simp only[FT,aw,b,aw];change(((O.dT ((gys rs.length s.bs.length).map wyK) (((gys rs.length s.bs.length).map _).map .fz)).key (wyK y)).map _).bind _=_;unfold O.key;dsimp only;simp only[(GF (λ_ _=>GA) (Q2 _ _) a),aw,bN,bN,a];rfl
def qL(y:Wy)(tw:Wt)(p:Prt):Wt:=(nmL p).foldl (λtw t=>gq (t,d5 p,) y tw) tw
def gf(y:Wy)(ps:List Prt)(tw:Wt):Wt:=ps.foldl (qL y) tw
def Q5(y:Wy)(p:Prt)(tw:Wt):uR (wyD y) (wtW tw) p=wtW (qL y tw p):=by
 delta uR qL
 generalize nmL p=ts
 induction ts generalizing tw with
 |nil=>rfl
 |cons t ts a=>simp only[d6,d6,GC (t,d5 p,),a]
def u4(y:Wy)(ps:List Prt)(tw:Wt):mO (wyD y) ps (wtW tw)=wtW (gf y ps tw):=by
 unfold mO gf
 induction ps generalizing tw with
 |nil=>rfl
 |cons p ps a=>rw[d6,d6,Q5,a]
abbrev mT:Nat->LRu->Wt->Wt
 | _,[],tw=>tw
 |i,r::rs,tw=>mT (i+1) rs (gf (ae,i,) (grd r) tw)
def GG:∀(rs:LRu) (i:Nat) (s:Spr) (tw:Wt),s.ws=wtW tw->(eN i rs).foldl mQ s=(s.es,s.st,s.bs,s.gk++(eN i rs).map (λp=>mP p.1),s.gd++(eN i rs).map (λp=>.lst ((grd p.2).map Prt.obj)),wtW (mT i rs tw),s.wt++(eN i rs).map (λp=>qA p.1),s.mks)
 | [],i,s,tw,h=>by
  have(a,b,c,d,e,f,g,m):=s;cases h;simp[eN]
  rfl
 |r::rs,i,s,tw,h=>by
  rw[eN,d6,GG rs _ _ (gf (ae,i,) _ tw) (by rw[<- u4,<- h];rfl)];simp[mQ,uS,mT]
def GH{a:Type}(f:Nat->a)(rs:LRu):(eN 0 rs).map (λp=>f p.1)=(bw rs.length).map f:=by
 apply lr;intro j;rw[bN,qB,bN]
 by_cases h:j<rs.length
 .rw[cI h,mZ h];simp
 .rw[dB (by lia),dB (by rw[cq];lia)];rfl
def spT(es:LOB)(rs:LRu):Spt:=(es,[],[],mT 0 rs [],(bw rs.length).map λi=>(ae,i,),g5 rs)
def Q6(es:LOB)(rs:LRu):spI es rs=(spT es rs).S rs:=by
 unfold spI;rw[GG rs 0 _ [] rfl,GH mP,GH qA];unfold Spt.S spT sp0 gys;simp only[nil_append,iz,length_nil,range_zero,bB,map_map]
 congr 1
 apply lr;intro j;rw[bN,qB,bN]
 by_cases h:j<rs.length
 .rw[mZ h];simp[gdD,b6,cI h]
 .rw[dB (by lia),dB (by rw[cq];lia)];rfl
def qM(p q:Pr)(y:Wy):∀tw:Wt,look (gq p y tw) q=if q=p then look tw q++[y] else look tw q
 | []=>by
  change(if p=q then [y] else [])=if q=p then []++[y] else []
  grind
 |r::tw=>by
  by_cases e:r.1=p
  .rw[gq,if_pos e];change(if r.1=q then r.2++[y] else look tw q)=if q=p then (if r.1=q then r.2 else look tw q)++[y] else (if r.1=q then r.2 else look tw q)
   grind
  .rw[gq,if_neg e];change(if r.1=q then r.2 else look _ q)=if q=p then (if r.1=q then r.2 else look tw q)++[y] else (if r.1=q then r.2 else look tw q);rw[(qM p q y tw)]
   grind
def GI(p q:Pr)(y:Wy):∀tw:Wt,look (gJ p y tw) q=if q=p then (look tw q).erase y else look tw q
 | []=>by
  split <;> rfl
 |r::tw=>by
  by_cases e:r.1=p
  .rw[gJ,if_pos e];change(if r.1=q then r.2.erase y else look tw q)=if q=p then (if r.1=q then r.2 else look tw q).erase y else (if r.1=q then r.2 else look tw q)
   grind
  .rw[gJ,if_neg e];change(if r.1=q then r.2 else look _ q)=if q=p then (if r.1=q then r.2 else look tw q).erase y else (if r.1=q then r.2 else look tw q);rw[(GI p q y tw)]
   grind
nonrec def cn(tw:Wt)(p:Pr)(y:Wy):Nat:=(look tw p).count y
def gK:y∈look tw p↔0<cn tw p y:=count_pos_iff.symm
def Q7{z:Wy}(h:z≠y):cn (gq p y tw) q z=cn tw q z:=by
 unfold cn;rw[qM];split
 .rw[count_append,count_singleton,if_neg (by rw[beq_iff_eq];show λe=>h e.symm)];rfl
 .rfl
def mU{y z:Wy}(h:z≠y)(q:Pr):∀(ps:List Prt) (tw:Wt),cn (gf y ps tw) q z=cn tw q z
 | [],_=>rfl
 |p::ps,tw=>by
  change cn (gf y ps _) q z=_;rw[mU h q ps];unfold qL;generalize nmL p=ts
  induction ts generalizing tw with
  |nil=>rfl
  |cons t ts a=>rw[d6,a,Q7 h]
def Q8(y:Wy)(tw:Wt)(z:Pr):qL y tw (brP z)=gq z y tw:=by
 have(t,b):=z
 cases b <;> rfl
def Bx(y:Wy)(q:Pr):∀(b:List Pr) (tw:Wt),cn (gf y (brg b) tw) q y=cn tw q y+b.count q
 | [],_=>rfl
 |z::b,tw=>by
  change cn (gf y (brg b) _) q y=_;rw[Bx y q b,Q8,count_cons]
  have:cn (gq z y tw) q y=cn tw q y+if z==q then 1 else 0:=by
   unfold cn;rw[qM]
   by_cases e:q=z
   .rw[if_pos e,count_append,if_pos (by rw[e];show beq_self_eq_true z),count_singleton,if_pos (beq_self_eq_true y)]
   .rw[if_neg e,if_neg (by rw[beq_iff_eq];show λx=>e x.symm)];rfl
  lia
def jZ(y:Wy)(ps:List Pr)(tw:Wt):Wt:=ps.foldl (λtw p=>gJ p y tw) tw
def Q9(p q:Pr)(y z:Wy)(tw:Wt):cn (gJ p y tw) q z=if q=p/\z=y then cn tw q z-1 else cn tw q z:=by
 unfold cn;rw[GI]
 by_cases e:q=p
 .rw[if_pos e]
  by_cases f:z=y
  .rw[if_pos (e,f),f,count_erase_self]
  .rw[if_neg (λx=>f x.2),count_erase_of_ne f]
 .rw[if_neg e,if_neg (λx=>e x.1)]
def By(q:Pr)(y z:Wy):∀(ps:List Pr) (tw:Wt),ps.Nodup->cn (jZ y ps tw) q z=if q∈ps/\z=y then cn tw q z-1 else cn tw q z
 | [],tw,_=>by rw[if_neg (λx=>nomatch x.1)];rfl
 |p::ps,tw,nd=>by
  have(a,b):=bW.mp nd;change cn (jZ y ps _) q z=_;rw[By q y z ps _ b,Q9]
  by_cases f:z=y
  .by_cases e:q=p
   .rw[if_neg (λx=>a (by rw[<- e];show x.1)),if_pos (e,f),if_pos (by rw[e];show aB,f)]
   .rw[if_neg (λx:q=p/\z=y=>e x.1)]
    by_cases g:q∈ps
    .rw[if_pos (g,f),if_pos (be _ g,f)]
    .rw[if_neg (λx=>g x.1),if_neg (λx=>by rcases aW.mp x.1 with u |u;show e u;show g u)]
  .rw[if_neg (λx=>f x.2),if_neg (λx=>f x.2),if_neg (λx=>f x.2)]
def Ra(h:bK c (wtW tw)):bK c (wtW (gJ p y tw)):=by
 have gen:∀tw:Wt,(gJ p y tw).length=tw.length/\∀q∈gJ p y tw,∃d∈tw,q.2.length<=d.2.length:=by
  intro tw
  induction tw with
  |nil=>show⟨rfl,λq h=>nomatch h⟩
  |cons r tw g=>
   dsimp only[gJ];split
   .show(rfl,λq a=>?_)
    rcases aW.mp a with e |e
    .rw[e];show(r,aB,(erase_sublist).length_le)
    .show(q,be _ e,aP _)
   .show(by rw[cr,g.1];rfl,λq a=>?_)
    rcases aW.mp a with e |e
    .rw[e];show(r,aB,aP _)
    .have(d,b,f):=g.2 q e;show(d,be _ b,f)
 have(i,j):=gen tw;show(by unfold wtW;rw[aH,i];have:=h.ln;unfold wtW at this;rwa [aH]at this,λq a=>?_);have(x,l,rfl):=aO.mp a;have(m,b,f):=j x l;have:=h.al _ (aO.mpr (m,b,rfl));rw[aH]at this ⊢
 lia
def GJ{c:Nat}{y:Wy}:∀{ps:List Pr} {tw:Wt},bK c (wtW tw)->bK c (wtW (jZ y ps tw))
 | [],_,h=>h
 | _::ps,_,h=>GJ (ps:=ps) (Ra h)
def Bz(h:bK c (wtW tw))(p:Pr):(look tw p).length<=c:=by
 rcases ixW p tw with⟨_,a⟩ |⟨j,q,d,a,e,b,f⟩
 .rw[a];show cK _
 .rw[b];have:=h.al _ (aO.mpr (q,cW a,rfl))
  rwa [aH]at this
def u5(nd:ns.Nodup)(h:∀x∈ns,0<=x/\x<(n:Int)):ns.length<=n:=by
 by_cases c:ns.length<=n
 .show c
 .have d:∀x∈ns,x∈(bw n).map λ(i:Nat)=>(i:Int):=λx e=>by
   have(a,b):=h x e;show aO.mpr (x.toNat,dW.mpr (by lia),by lia)
  have:=(nU ns _ nd d (by rw[aH,cq];lia)).length_eq;rw[aH,cq]at this
  lia
structure bL(n:Nat)(b:List Pr):Prop where
 nn:∀z∈b,0<=z.1/\z.1<(n:Int)
 nd:(b.map (·.1)).Nodup
variable{b:List Pr}
def bL.pd(h:bL n b):b.Nodup:=List.Pairwise.of_map _ (λ_ _ z e=>z (by rw[e])) h.nd
def bL.len(h:bL n b):b.length<=n:=by
 have:(b.map (·.1)).length<=n:=u5 h.nd λx a=>by
  have(z,hz,rfl):=aO.mp a;show h.nn z hz
 rwa [aH]at this
def bL.nil(n:Nat):bL n []:=((λ_ h=>nomatch h),fc)
structure gg(c r:Nat)(bs:LLP)(tw:Wt):Prop where
 wk:bK c (wtW tw)
 vl:∀p,∀y∈look tw p,y∈gys r bs.length
 br:∀j,(∀p,cn tw p (ab,j,)=0)\/(∀p,cn tw p (ab,j,)=if p∈bs.getD j [] then 1 else 0)
abbrev wider(tw:Wt):List Pr->List Wy
 | []=>[]
 |p::b=>(p::b).foldl (λS3 q=>S3.filter λy=>decide (y∈look tw q)) (look tw p)
def GK(tw:Wt):∀(b:List Pr) (S3:List Wy),(b.foldl (λS3 q=>S3.filter λy=>decide (y∈look tw q)) S3).Sublist S3/\∀y∈b.foldl (λS3 q=>S3.filter λy=>decide (y∈look tw q)) S3,∀p∈b,y∈look tw p
 | [],S3=>⟨List.Sublist.refl _,λ_ _ _ h=>nomatch h⟩
 |q::b,S3=>by
  have(a,d):=GK tw b _;show(a.trans rp,λy c p f=>?_)
  rcases aW.mp f with e |e
  .rw[e];show of_decide_eq_true (cQ.mp (a.subset c)).2
  .show d y c p e
def iY(bs:LLP)(tw:Wt)(y:Wy):Wt:=cond y.1 (jZ y (bs.getD y.2 []) tw) tw
def oE(bs:LLP)(tw:Wt)(b:List Pr):Wt:=(wider tw b).foldl (iY bs) tw
def oF{bs:LLP}(c:∀b∈bs,b.Nodup)(p:Pr)(z:Wy):cn (iY bs tw y) p z=if y.1=ab/\p∈bs.getD y.2 []/\z=y then cn tw p z-1 else cn tw p z:=by
 have(a,j):=y
 cases a with
 |false=>rw[if_neg (λx=>by cases x.1)];rfl
 |true=>
  have nd:(bs.getD j []).Nodup:=by
   rw[bM]
   cases e:bs[j]? with
   |none=>show fc
   |some b=>show c b (cW e)
  change cn (jZ _ _ tw) p z=_;rw[By p _ z _ _ nd]
  by_cases h:p∈bs.getD j []/\z=(ab,j,)
  .rw[if_pos h,if_pos (rfl,h)]
  .rw[if_neg h,if_neg (λx=>h x.2)]
def u6{bs:LLP}(a:∀b∈bs,b.Nodup)(p:Pr)(z:Wy):∀(S3:List Wy) (tw:Wt),z∉S3->cn (S3.foldl (iY bs) tw) p z=cn tw p z
 | [],_,_=>rfl
 |y::S3,tw,h=>by
  rw[d6,u6 a p z S3 _ (λq=>h (be _ q)),oF a,if_neg (λx=>h (by rw[x.2.2];show aB))]
def BA{bs:LLP}(a:∀b∈bs,b.Nodup)(p:Pr)(z:Wy):∀(S3:List Wy) (tw:Wt),cn (S3.foldl (iY bs) tw) p z<=cn tw p z
 | [],_=>aP _
 |y::S3,tw=>by
  show cJ (BA a p z S3 _) ?_;rw[oF a]
  split <;> lia
def GL{c:Nat}{bs:LLP}:∀{S3:List Wy} {tw:Wt},bK c (wtW tw)->bK c (wtW (S3.foldl (iY bs) tw))
 | [],_,h=>h
 |y::S3,tw,h=>by
  show GL (S3:=S3) ?_;unfold iY
  cases y.1 with
  |false=>show h
  |true=>show GJ h
def gg.wide{bs:LLP}(h:gg c r bs tw)(a:(ab,j,)∈wider tw b):(∀p,cn tw p (ab,j,)=if p∈bs.getD j [] then 1 else 0)/\(wider tw b).count (ab,j,)=1/\(∀p∈b,p∈bs.getD j [])/\j<bs.length:=by
 cases b with
 |nil=>nomatch a
 |cons e b=>
  have(d,f):=GK tw _ _
  have ha:∀p,cn tw p (ab,j,)=if p∈bs.getD j [] then 1 else 0:=by
   rcases h.br j with z |z
   .have:=gK.mp (d.subset a)
    grind
   .show z
  show(ha,?_,λp g=>?_,ix.mp (h.vl e _ (d.subset a)))
  .have i:=count_pos_iff.mpr a;have l:(wider tw (e::b)).count _<=cn tw e (ab,j,):=d.count_le _
   grind
  .have:=gK.mp (f _ a p g)
   grind
def gg.dropped{bs:LLP}(h:gg c r bs tw)(a:∀b∈bs,b.Nodup)(b:List Pr):gg c r bs (oE bs tw b):=by
 show(GL h.wk,λp y l=>h.vl p y (gK.mpr (eR (gK.mp l) (BA a p y _ _))),λj=>?_)
 by_cases d:(ab,j,)∈wider tw b
 .show .inl λp=>?_;have(ha,n,_):=h.wide d
  have gen:∀(S3:List Wy) tw,(ab,j,)∈S3->(∀p,p∉bs.getD j []->cn tw p (ab,j,)=0)->(∀p,cn tw p (ab,j,)<=1)->cn (S3.foldl (iY bs) tw) p (ab,j,)=0:=by
   intro S3
   induction S3 with
   |nil=>intro tw h;nomatch h
   |cons y S3 m=>
    intro tw hm f i;rw[d6]
    by_cases e:(ab,j,)=y
    .have:cn (iY bs tw y) p (ab,j,)=0:=by
      rw[oF a]
      by_cases g:p∈bs.getD j []
      .rw[if_pos (by rw[<- e],by rw[<- e];show g,e)];have:=i p
       lia
      .rw[f p g]
       split <;> rfl
     have:=BA a p (ab,j,) S3 (iY bs tw y)
     lia
    .show m _ (by rcases aW.mp hm with z |z;show absurd z e;show z) (λp g=>?_) λp=>?_
     .rw[oF a,if_neg (λx=>e x.2.2)];show f p g
     .rw[oF a,if_neg (λx=>e x.2.2)];show i p
  show gen _ _ d (λp g=>by rw[ha p,if_neg g]) λp=>by rw[ha p];split <;> lia
 .have e:∀p,cn (oE bs tw b) p _=cn tw p _:=λp=>u6 a p _ _ _ d
  rcases h.br j with z |z
  .show .inl λp=>by rw[e];show z p
  .show .inr λp=>by rw[e];show z p
variable{p:Xp}
def Rb{q:O×(O->O)}(h:p U=aa q)(a:f U=aa d)(b:q.1.remd d=aa o2)(k:K (.nx (U.set i (.deep (q.2 o2))))):wp (oj i p f) U K:=(_,by
 unfold oj;rw[h,aw,a,aw,b];rfl,k)
def Rc{a b:Sl}:bq "Spreading" "watches" (aZ 2) [a,b,.deep (.at l s.o)]=aa (wsO s.ws,λx=>.at l (.ins "Spreading" spN [lsO (s.es.map shD),lsO s.st,lsO s.bs,.dT s.gk (s.gd.map .fz),x,lsO s.wt,.fz s.mks]),):=rfl
def GM{l:Addr}{s:Spr}{tw:Wt}(g:s.ws=wtW tw):∀(b:List Pr) (v1 c d f:Sl) (S3:List Wy),S3.length<=16777216->∃a,k7 2 3 1 [3,0] (av 0) (mB (m2 eX (af 0) (aE (gZ (bq "Spreading" "watches" (aZ 2)) (af 1))))) (af 0) (b.map prD) [.deep (.at l s.o),v1,c,d,f] (S3.map wyD)=aa ([.deep (.at l s.o),v1,c,a,f],(b.foldl (λS3 q=>S3.filter λy=>decide (y∈look tw q)) S3).map wyD,)
 | [],_,_,d,_,_,_=>(d,rfl)
 |p::b,v1,c,d,f,S3,hL=>by
  have(a,h):=GM g b v1 c _ f _ (cJ (jt _ _) hL);show(a,?_);rw[bP];dsimp only[k7];rw[if_pos (by rw[aH];show hL)]
  have e:eB (gD (av 0) (mB (m2 eX (af 0) (aE (gZ _ (af 1))))) (af 0) [.no,.im _,.deep (.at l s.o)]) _=aa _:=
   tu wyD _ wyD S3 λy _=>dR rfl (bJ (aG rfl (bm (Bv (p:=p) (Rc.trans (by rw[g])) rfl)) (Q1 y _))) λ_=>rfl
  change(eB (gD _ _ _ [.no,.im _,.deep _]) _).bind _=_;simp only[e,aw];show h
def Re(d:s.ws=wtW tw)(g:bK c (wtW tw))(f:c<=16777216)(k:∀h,K (.nx [.deep (.at l s.o),.im (bv b),.own ((wider tw b).map wyD),h,.no])):
  wp (om 2 3 (bi (af 1)) (gZ (bq "Spreading" "watches" (aZ 0)) (mIx (ai 1) (kI 0))) (aL (af 1)) 1 [3,0] (av 0) (mB (m2 eX (af 0) (aE (gZ (bq "Spreading" "watches" (aZ 2)) (af 1))))) (af 0)) [.deep (.at l s.o),.im (bv b),.no,.no,.no] K:=by
 cases b with
 |nil=>show(_,rfl,k .no)
 |cons p b=>
  have(a,e):=GM d _ _ .no .no .no _ (cJ (Bz g p) f);show(_,?_,k a);unfold om;rw[show bi _ _=aa ab from rfl,aw,show aL _ _=aa _ from rfl,aw,if_pos (show ab=!((p::b).map prD).isEmpty from rfl),Bv (p:=p) (uP.trans (by rw[d])) (ay rfl rfl (mh (0,ae,) (by decide) (by grind))),if_pos rfl,aw,e];rfl
def BC{bs:LLP}(a:∀b∈bs,bL n b)(j:Nat):bL n (bs.getD j []):=by
 rw[bM]
 cases e:bs[j]? with
 |none=>show bL.nil n
 |some b=>show a b (cW e)
def Rf(s:Spt)(b:List Pr)(ok:gg c rs.length s.bs s.tw)(E:c<16777216)(A:∀b∈s.bs,bL n b):z9 l [bv b] (s.S rs).o=aa ((({s with tw:=oE s.bs s.tw b}:Spt).S rs).o,.non,):=by
 apply jY;apply am;show Re rfl ok.wk (eS E) λd=>?_
 show da _ wyD (λpre U=>∃d y,U=[.deep (.at l (({s with tw:=pre.foldl (iY s.bs) s.tw}:Spt).S rs).o),.im _,.im _,d,y]) rfl (_,_,rfl) ?_ ?_
 .rintro pre ⟨a,j⟩ post U ex ⟨d,y,rfl⟩;show(_,rfl,?_);walk_at "nrm"
  cases a with
  |false=>
   show aM rfl (λz=>by nomatch z) (λ_=>bc ?_);show(d,.im (wyD (ae,j,)),?_);rw[eQ]
   rfl
  |true=>
   have(ha,i,_,G):=ok.wide (j:=j) (by rw[ex];simp)
   have r:(ab,j,)∉pre:=λq=>by
    rw[ex,count_append,count_cons_self]at i;have:=count_pos_iff.mpr q
    lia
   have f:=BC A j
   show da (s.bs.getD j []) prD (λpr U=>∃d,U=[.deep (.at l (({s with tw:=jZ (ab,j,) pr _}:Spt).S rs).o),.im _,.im _,d,.im _]) (cG (ay (Bk Bj) (ay rfl rfl rfl) (mh [] (by lia) (by change _<(s.bs.length:Int);lia))) rfl) (_,rfl) ?_ ?_
   .rintro pr p po U e ⟨d,rfl⟩;have v:p∈s.bs.getD j []:=by rw[e];simp
    have u:=λq=>by
     have:=f.pd;rw[e]at this;show(fM.mp this).2.2 p q p aB rfl
    have w:pr.Nodup:=by
     have:=f.pd;rw[e]at this;show(fM.mp this).1
    have m : _∈look (jZ (ab,j,) pr _) p:=gK.mpr (by
     rw[By p _ _ pr _ w,if_neg (λx=>u x.1),u6 (λb h=>(A b h).pd) p _ _ _ r,ha p,if_pos v];show Nat.one_pos)
    show(_,rfl,?_);walk_at "nrm"
    have(H,B,C):=QZ (g:=af 3) (U:=[.deep (.at l (({s with tw:=jZ _ pr _}:Spt).S rs).o),.im _,.im _,.im _,.im _]) uP rfl (ne_nil_of_mem m)
    show Rb B rfl (Q0 m) ?_;simp only[C];show(.im (prD p),?_);unfold jZ;rw[eQ];rfl
   .rintro U ⟨d,rfl⟩;show(d,.im (wyD (ab,j,)),?_);rw[eQ];rfl
 .rintro U ⟨d,y,rfl⟩;show(_,rfl,rfl,rfl)
def Rg(b:List Pr)(hz:b.length<=16777216):Aq [bv b]=aa (.lst ((brg b).map Prt.obj)):=by
 rw[show(brg b).map Prt.obj=b.map λz=>(brP z).obj from map_map]
 show mf (congrArg _ (dq b prD _ rfl hz λz _=>cZ rfl rfl (by
  have(t,x):=z
  cases x <;> rfl)))
def BD(h:bL n b):∀p∈brg b,PrK n p:=λp a=>by
 have(z,hz,rfl):=aO.mp a;have:=h.nn z hz;have(t,x):=z
 cases x <;> show(this,(by decide:1<=1000))
def mV{b:Type}(l:List b)(a d:b)(j:Nat):(l++[a]).getD j d=if j=l.length then a else l.getD j d:=by
 rw[bM,bM]
 by_cases h:j=l.length
 .rw[if_pos h,h,lg (aP _),Nat.sub_self];rfl
 .rw[if_neg h]
  by_cases g:j<l.length
  .rw[j6 g]
  .rw[dB (by rw[bf,dN];lia),dB (by lia)]
def gg.bar{bs:LLP}(h:gg c r bs tw)(a:bL n b)(hn:n<=60):gg (c+3840) r (bs++[b]) (gf (ab,bs.length,) (brg b) tw):=by
 have f:∀p,cn tw p (ab,bs.length,)=0:=λp=>Nat.eq_zero_of_not_pos λq=>by
  have:bs.length<bs.length:=ix.mp (h.vl p _ (gK.mpr q));show gN _ this
 have d:∀p,cn _ p _=if p∈b then 1 else 0:=λp=>by
  rw[Bx,f p,jw,a.pd.count]
 show(?_,λp y g=>?_,λj=>?_)
 .rw[<- u4];show(bK.reg hn (BD a) h.wk).le ?_;unfold brg;rw[aH];have:=a.len;lia
 .rw[bf,dN,qK]
  by_cases e:y=(ab,bs.length,)
  .rw[e];simp
  .show dO _ (h.vl p y (gK.mpr ?_));rw[<- mU e p _];show gK.mp g
 .rw[mV]
  by_cases e:j=bs.length
  .rw[if_pos e,e];show .inr d
  .have ne:((ab,j,):Wy)≠(ab,bs.length,):=λz=>e (oW z).2;rw[if_neg e]
   rcases h.br j with z |z
   .show .inl λp=>by rw[mU ne];show z p
   .show .inr λp=>by rw[mU ne];show z p
def Spt.bar(s:Spt)(b:List Pr):Spt:={s with bs:=s.bs++[b],tw:=gf (ab,s.bs.length,) (brg b) (oE s.bs s.tw b),wt:=s.wt++[(ab,s.bs.length,)]}
def Rh{bs:LLP}:(gys rs.length (bs.length+1)).map (gdD rs (bs++[b]))=(gys rs.length bs.length).map (gdD rs bs)++[.lst ((brg b).map Prt.obj)]:=by
 rw[qK,bn]
 congr 1
 .show map_congr_left λy c=>?_;have:=ix.mp c;have(a,j):=y
  cases a with
  |false=>rfl
  |true=>
   have:j<bs.length:=this
   unfold gdD b6
   rw[mV,if_neg (by lia)]
 .change[D.lst ((brg _).map Prt.obj)]=_;rw[mV,if_pos rfl]
def Ri(s:Spt)(b:List Pr)(ok:gg c rs.length s.bs s.tw)(m:c+3840<16777216)(d:∀b∈s.bs,bL n b)(a:bL n b)(hn:n<=60)(p:rs.length+s.bs.length<100000)(j:s.wt.length<16777216):
  As l [bv b] (s.S rs).o=aa (((s.bar b).S rs).o,.non,):=by
 have i:=a.len;have g:((gys rs.length s.bs.length).map wyK).length=rs.length+s.bs.length:=by rw[aH,Q3]
 apply jY;apply am;show oB (jX rfl rfl (ir rfl rfl) rfl (Rf s b ok (by lia) d)) ?_;apply am;show bH (eJ (ao rfl (ao (aD (ao (mM Bj) rfl) (eZ s.bs bv)) rfl))) ?_;walk_at "nrm";apply am;show uQ Bj rfl (by change(s.bs.map bv).length<_;rw[aH];lia) ?_;change wp _ [.deep (.at l ((s.es,s.st,s.bs.map bv++_,(gys rs.length s.bs.length).map wyK,(gys rs.length s.bs.length).map _,wtW _,s.wt.map wyD,.lst _):Spr).o),.im _,.im (wyD (ab,s.bs.length,))] _;show oB (jX rfl rfl (ir rfl (ir (aD rfl (Rg b (by lia))) rfl)) rfl (F0 _ _ rfl (Bn λq=>?_) ?_ (BD a) hn (ok.dropped (λb h=>(d b h).pd) b).wk ?_ ?_ ?_)) ?_
 .have(y,f,e):=aO.mp q;rw[GA e]at f;have:s.bs.length<s.bs.length:=ix.mp f;show gN _ this
 .change((gys rs.length s.bs.length).map wyK).length<_;lia
 .unfold brg;rw[aH];lia
 .change(s.wt.map wyD).length<_;rw[aH];show j
 .unfold brg;rw[aH];lia
 .show(_,rfl,?_,rfl)
  congr 1
  unfold uS Spt.bar Spt.S;rw[u4,bf,dN,Rh,qK,bn,bn,bn];rfl
def qN{f:Xe}(h:f U=aa (d,ds,))(k:K (.nx (ds.set i (.im d)))):wp (iW i f) U K:=(_,by unfold iW;rw[h];rfl,k)
def Rj{k:Int}(hv:fv U=aa d)(h:p U=aa (lsO E,R,))(c:fk U=aa (.int k))(a:0<=k)(b:k<E.length)(q:K (.nx (U.set i (.deep (R (lsO (E.set k.toNat d))))))):wp (oe i p fk fv) U K:=(_,by
 unfold oe;rw[hv,aw,h,aw,c,aw];change(((lsO E).items.bind λE=>(ixN E.length k).map λj=>O.lst _)).map _=_;rw[qJ,aw,show ixN E.length k=aa k.toNat by unfold ixN;rw[if_pos a,if_pos b]];rfl,q)
def Rk{f:MF2}{es:LD}(h:p U=aa (lsO E,R,))(a:f U=aa es)(hz:E.length+es.length<=16777216)(q:K (.nx (U.set i (.deep (R (lsO (E++es))))))):wp (oa i p f) U K:=(_,by
 unfold oa;rw[h,aw,a,aw];change(if (E.map O.fz).length+es.length<=16777216 then aa _ else ac).map _=_;rw[if_pos (by rw[aH];show hz),<- bn];rfl,q)
def fK(es:LOB):Nat:=ct (es.map (·==ac))
variable{b:Bool}
def Rl(t0:0<=t)(t1:t<(es.length:Int))(a:opn es t=ab):fK (put es t.toNat b)+1=fK es:=by
 unfold fK put;rw[i5];show Bo _ _ ?_;unfold opn at a;rw[bM]at a ⊢;rw[bN,cI (by lia)]at *;show a
def Rm(es:LOB):fK es<=es.length:=by
 have:=Gf (es.map (·==ac))
 rwa [aH]at this
def Spt.pt(s:Spt)(t:Int)(b:Bool)(w:D):Spt:={s with es:=put s.es t.toNat b,st:=s.st++[.tup [prD (t,b,),w]],wt:=s.wt++look s.tw (t,b,)}
structure SpJ(n c S1:Nat)(rs:LRu)(s:Spt):Prop where
 es:s.es.length=n
 bk:∀b∈s.bs,bL n b
 tw:gg c rs.length s.bs s.tw
 wv:∀y∈s.wt,y∈gys rs.length s.bs.length
 ms:s.ms.Perm (g5 rs)
 mB:fK s.es*(c+1)+s.wt.length<=S1
 sB:s.st.length+fK s.es<=S1
 sv:∀d∈s.st,∃(z:Pr) (w:D),d=.tup [prD z,w]/\(0<=z.1/\z.1<(n:Int))/\s.es.getD z.1.toNat ac=aa z.2
nonrec def Me(c:Nat)(s:Spt):Nat:=fK s.es*(c+1)+s.wt.length
variable{u:Int}
def BE(a:0<=u)(t0:0<=t)(h:u≠t):opn (put es t.toNat b) u=opn es u:=by
 unfold opn;rw[fJ es b (by lia)]
variable{S1:Nat}{s:Spt}{w:L2.D}
def SpJ.pt(h:SpJ n c S1 rs s)(t0:0<=t)(t1:t<(n:Int))(f:opn s.es t=ab):SpJ n c S1 rs (s.pt t b w)/\Me c (s.pt t b w)<Me c s:=by
 have g:=Rl (b:=b) t0 (by rw[h.es];show t1) f;have m:=Bz h.tw.wk (t,b,)
 have hm:Me c (s.pt t b w)<Me c s:=by
  change fK (put s.es t.toNat b)*_+(s.wt++look s.tw _).length<fK s.es*_+s.wt.length;rw[<- g,bf,Nat.succ_mul];lia
 show(((dG _ _ _).trans h.es,h.bk,h.tw,λy i=>?_,h.ms,cJ (eS hm) h.mB,?_,λd hd=>?_),hm)
 .rcases bI.mp i with q |q
  .show h.wv y q
  .show h.tw.vl _ y q
 .change(s.st++[_]).length+fK (put s.es t.toNat b)<=S1;rw[bf,dN];have:=h.sB;lia
 .rcases bI.mp hd with q |q
  .have(z,j,e,l,a):=h.sv d q;show(z,j,e,l,?_);change(put s.es t.toNat b).getD z.1.toNat ac=_;rw[fJ s.es b (λq=>by rw[q,k9 f]at a;nomatch a)];show a
  .show(_,w,cB.mp q,(t0,t1),jn s.es b (by rw[h.es];lia))
def GN(h:SpJ n c S1 rs s)(g:S1+c<16777216)(t0:0<=t)(t1:t<(n:Int)):uK l [.int t,.bl b,w] (s.S rs).o=aa (((s.pt t b w).S rs).o,.non,):=by
 have i:=Bz h.tw.wk (t,b,);have a:=h.mB;have d:=h.sB;have f:=h.es;apply jY;apply am;show Rj rfl qx rfl t0 (by rw[aH];change t<s.es.length;lia) ?_;have e:(s.es.map shD).set t.toNat (.bl b)=(put s.es t.toNat b).map shD:=by unfold put;rw[i5];rfl
 change wp _ [.deep (.at l (.ins "Spreading" spN [lsO ((s.es.map shD).set t.toNat _),lsO s.st,lsO _,.dT _ _,wsO _,lsO _,.fz _])),.im _,.im _,.im w] _;rw[e]
 change wp _ [.deep (.at l (({s with es:=put s.es t.toNat b}:Spt).S rs).o),.im _,.im _,.im w] _
 apply am;show uQ Qq (eJ (ao (eJ (ao rfl (ao rfl rfl))) (ao rfl rfl))) (by change s.st.length<_;lia) ?_
 change wp _ [.deep (.at l (({s with es:=put s.es t.toNat b,st:=s.st++_}:Spt).S rs).o),.im _,.im _,.im w] _
 show Rk oz (Bv uP (eJ (ao rfl (ao rfl rfl)))) (by change(s.wt.map wyD).length+((look s.tw (t,b,)).map wyD).length<=_;rw[aH,aH];lia) ?_;show(_,rfl,?_,rfl);unfold Spt.pt Spt.S;rw[bn];rfl
def puts(s:Spt)(w:D)(ps:List Pr):Spt:=ps.foldl (λs p=>s.pt p.1 p.2 w) s
structure e8(es:LOB)(ps:List Pr):Prop where
 nd:(ps.map (·.1)).Nodup
 op:∀z∈ps,(0<=z.1/\z.1<(es.length:Int))/\opn es z.1=ab
variable{ps:List Pr}
def e8.tail{z:Pr}(h:e8 es (z::ps)):e8 (put es z.1.toNat z.2) ps:=by
 have(f,g):=bW.mp h.nd;show(g,λy d=>?_);have((a,b),c):=h.op y (be _ d);show((a,by rw[dG];show b),?_);rw[BE a ((h.op z aB).1.1) (λe=>f (aO.mpr (y,d,e)))];show c
def e8.pre{pre post:List Pr}(h:e8 es (pre++post)):e8 es pre:=(by have:=h.nd;rw[bn]at this;show(fM.mp this).1,λz hz=>h.op z (dO _ hz))
def oG{n c S1:Nat}{rs:LRu}{w:D}:∀{ps:List Pr} {s:Spt},SpJ n c S1 rs s->e8 s.es ps->SpJ n c S1 rs (puts s w ps)/\Me c (puts s w ps)<=Me c s
 | [],_,h,_=>(h,aP _)
 |z::ps,s,h,k=>by
  have((a,b),e):=k.op z aB;have(d,f):=h.pt a (by rw[<- h.es];show b) e;have(g,i):=oG d k.tail;show(g,cJ i (eS f))
variable{G:List Prt}
def Rn(h:prs G es=ac):∀p∈G,p.sure es=ab:=by
 have:=Gz es G;unfold prs at h
 cases e:G.foldl _ ac with
 |none=>rw[e]at this;show this
 |some l=>rw[e]at h;nomatch h
def qP{l:List Pr}(i:∀p∈G,p.Ok es.length)(h:prs G es=aa l):e8 es l/\(∀z:Pr,z∈l↔(0<=z.1/\z.1<(es.length:Int))/\opn es z.1=ab/\∀p∈G,p.sure (put es z.1.toNat (!z.2))=ab)/\∃p∈G,p.sure es=ae:=by
 have:=Gz es G;unfold prs at h
 cases e:G.foldl _ ac with
 |none=>rw[e]at h;nomatch h
 |some n=>
  rw[e]at h this;cases h;have((q,m,d),u,v):=this
  have hm:∀z:Pr,z∈n.map neg↔(z.1,!z.2,)∈n:=λz=>by
   constructor
   .intro hz;have(y,w,rfl):=aO.mp hz;unfold neg;rw[rj];show w
   .intro hz;show aO.mpr (_,hz,?_);unfold neg;rw[rj]
  have key:∀z:Pr,z∈n.map neg↔_/\opn es z.1=ab/\∀p∈G,p.sure (put es z.1.toNat _)=ab:=λz=>by
   rw[hm,u];constructor
   .intro a;have(j,r,_):=(qI (i q m) d _ _).mp (a q m d);show(j,r,λp f=>?_)
    cases g:p.sure es with
    |true=>show Bt (i p f) j.1 j.2 r _ g
    |false=>show((qI (i p f) g _ _).mp (a p f g)).2.2
   .rintro⟨a,b,c⟩ p f g;show(qI (i p f) g _ _).mpr (a,b,c p f)
  show((?_,λz hz=>?_),key,q,m,d)
  .rw[map_map];show v
  .have(a,b,_):=(key z).mp hz;show(a,b)
structure Grp(rs:LRu)(es:LOB)(wo:LB0):Prop where
 len:wo.length=es.length
 no:∀i,wo.getD i ae=ab->es.getD i ac≠aa ae
 up:∀r∈g5 rs,wo.getD r.hd.toNat ae=ab->r.bodyLost es wo=ab
def qQ(es:LOB)(wo:LB0):LOB:=(qw wo).foldl (λes t=>put es t.toNat ae) es
inductive Mvs(rs:LRu)(bs:LLP)(e0:LOB):LOB->Prop
 |refl:Mvs rs bs e0 e0
 |press {es:LOB} {t:Int} {b:Bool} {y:Wy}:Mvs rs bs e0 es->y∈gys rs.length bs.length->0<=t->t<(es.length:Int)->opn es t=ab->(∀p∈b6 rs bs y,p.sure (put es t.toNat (!b))=ab)->Mvs rs bs e0 (put es t.toNat b)
 |out {es:LOB} {wo:LB0}:Mvs rs bs e0 es->Grp rs es wo->(∀i,wo.getD i ae=ab->es.getD i ac=ac)->Mvs rs bs e0 (qQ es wo)
variable{e0:LOB}
def Mvs.trans{bs:LLP}{g i:LOB}(h:Mvs rs bs e0 g)(h':Mvs rs bs g i):Mvs rs bs e0 i:=by
 induction h' with
 |refl=>show h
 |press _ a b c d e f=>show .press f a b c d e
 |out _ a b f=>show .out f a b
def BF{a:Bool}(h:i≠j):put (put es i a) j b=put (put es j b) i a:=by
 unfold put;show set_comm _ _ h
def BG(c:0<=u)(t0:0<=t)(h:u≠t)(a:opn es u=ab):opn (put es t.toNat b) u=ab:=by rw[BE c t0 h];show a
def GO{rs:LRu}{bs:LLP}{y:Wy}{w:D}(d:y∈gys rs.length bs.length):∀{ps:List Pr} {s:Spt},(∀p∈b6 rs bs y,p.Ok s.es.length)->e8 s.es ps->(∀z∈ps,∀p∈b6 rs bs y,p.sure (put s.es z.1.toNat (!z.2))=ab)->Mvs rs bs s.es (puts s w ps).es
 | [],_,_,_,_=>.refl
 |z::ps,s,hG,k,hp=>by
  have((a,b),e):=k.op z aB;have(g,i):=bW.mp k.nd;have f:Mvs rs bs s.es (s.pt z.1 z.2 w).es:=.press .refl d a b e (hp z aB);show f.trans (GO d (λp q=>by change p.Ok (put s.es z.1.toNat z.2).length;rw[dG];show hG p q) k.tail λx c p q=>?_);have((h,j),l):=k.op x (be _ c);have ne:z.1≠x.1:=λe=>g (aO.mpr (x,c,e.symm));change p.sure (put (put s.es z.1.toNat z.2) x.1.toNat _)=ab;rw[BF (by lia)];show Bt (by rw[dG];show hG p q) a (by rw[dG];show b) (BG a h ne e) _ (hp x (be _ c) p q)
abbrev Ro:Option Wy->D
 |none=>.non
 |some y=>wyD y
abbrev lrF(rs:LRu):Nat->Spt->Option Wy×Spt
 | 0,s=>(ac,s,)
 |k+1,s=>match s.wt with
  | []=>(ac,s,)
  |y::wt=>match prs (b6 rs s.bs y) s.es with
   |none=>(aa y,{s with wt:=wt},)
   |some ps=>lrF rs k (puts {s with wt:=wt} (wyD y) ps)
def qR(h:s.wt=[]):lrF rs (k+1) s=(ac,s,):=by
 unfold lrF;rw[h]
def qS{wt:List Wy}(h:s.wt=y::wt)(a:prs (b6 rs s.bs y) s.es=ac):lrF rs (k+1) s=(aa y,{s with wt:=wt},):=by
 unfold lrF;rw[h];dsimp only;rw[a]
def qT{wt:List Wy}(h:s.wt=y::wt)(a:prs (b6 rs s.bs y) s.es=aa ps):lrF rs (k+1) s=lrF rs k (puts {s with wt:=wt} (wyD y) ps):=by
 rw[lrF];rw[h];dsimp only;rw[a]
def qU{bs:LLP}(f:∀r∈rs,RuK n r)(d:∀b∈bs,bL n b):∀p∈b6 rs bs y,p.Ok n:=by
 have(a,j):=y;intro p c
 cases a with
 |true=>show(BD (BC d j) p c).1
 |false=>
  replace c:p∈((rs[j]?).map grd).getD []:=c
  cases e:rs[j]? with
  |none=>rw[e]at c;nomatch c
  |some r=>rw[e]at c;show(uT (f r (cW e)) p c).1
def SpJ.pop{wt:List Wy}(h:SpJ n c S1 rs s)(e:s.wt=y::wt):SpJ n c S1 rs {s with wt:=wt}/\Me c {s with wt:=wt} < Me c s/\y∈gys rs.length s.bs.length:=by
 have hm:=h.mB;have a:s.wt.length=wt.length+1:=by rw[e];rfl
 show((h.es,h.bk,h.tw,λz hz=>h.wv z (by rw[e];show be _ hz),h.ms,?_,h.sB,h.sv),?_,h.wv y (by rw[e];show aB))
 .change fK s.es*_+wt.length<=S1;lia
 .change fK s.es*_+wt.length<fK s.es*_+s.wt.length
  lia
def BH(w:D):∀(ps:List Pr) (s:Spt),(puts s w ps).bs=s.bs/\(puts s w ps).tw=s.tw/\(puts s w ps).ms=s.ms
 | [],_=>(rfl,rfl,rfl)
 |z::ps,s=>BH w ps _
structure Rp(n c S1:Nat)(rs:LRu)(s:Spt)(R:Option Wy×Spt):Prop where
 ok:SpJ n c S1 rs R.2
 bs:R.2.bs=s.bs
 mv:Mvs rs s.bs s.es R.2.es
 no:R.1=ac->R.2.wt=[]
 ye:∀y,R.1=aa y->y∈gys rs.length s.bs.length/\∀p∈b6 rs s.bs y,p.sure R.2.es=ab
 le:Me c R.2<=Me c s
def qV{n c S1:Nat}{rs:LRu}(j:∀r∈rs,RuK n r):∀(k:Nat) (s:Spt),SpJ n c S1 rs s->Me c s<k->Rp n c S1 rs s (lrF rs k s)
 | 0,_,_,h=>absurd h (iA _)
 |k+1,s,h,hk=>by
  cases b:s.wt with
  |nil=>
   rw[qR b]
   show(h,rfl,.refl,(λ_=>b),(λy e=>by cases e),aP _)
  |cons y wt=>
   have(g,q,l):=h.pop b;have i:∀p∈b6 rs s.bs y,p.Ok s.es.length:=by rw[h.es];show qU j h.bk
   cases d:prs _ s.es with
   |none=>
    rw[qS b d]
    show(g,rfl,.refl,(λz=>by cases z),(λz e=>by cases e;show(l,Rn d)),eS q)
   |some ps=>
    rw[qT b d];have(m,u,_):=qP i d;have(v,w):=oG g m
    have(f,_,_):=BH _ ps {s with wt:=wt}
    have a:=qV j k _ v (by lia)
    have m1:Mvs rs s.bs s.es (puts {s with wt:=wt} (wyD y) ps).es:=GO l (s:={s with wt:=wt}) i m λz hz=>((u z).mp hz).2.2
    show(a.ok,a.bs.trans f,m1.trans (by have:=a.mv;rw[f]at this;show this),a.no,λz e=>?_,by have:=a.le;lia);have:=a.ye z e;rw[f]at this;show this
def Rq{m:LD->Option (LD ⊕ D)}{f:MF2}{x:Option (List Pr)}(h:f U=aa E)(h':m E=aa (Gu x)):ol m f U=aa (qH x):=by
 unfold ol;rw[h,aw,h',aw]
 cases x with
 |none=>rfl
 |some l=>
  change(if (l.map prD).all D.flat=ab then aa _ else ac)=_;rw[if_pos (all_eq_true.mpr λd hd=>by have(z,_,rfl):=aO.mp hd;rfl)];rfl
def Rr{wt:List Wy}(h:s.wt=y::wt):qd 0 (bq "Spreading" "waiting" (aZ 0)) (.deep (.at l (s.S rs).o)::U)=aa (wyD y,.deep (.at l (({s with wt:=wt}:Spt).S rs).o)::U,):=by
 change((lsO (s.wt.map wyD)).pop0).map _=_;rw[h];rfl
def Rs(A:∀r∈rs,RuK n r)(w:S1+c<16777216)(h:SpJ n c S1 rs s)(x:Me c s<k)(v:k<1000000000):AX l [] (s.S rs).o=aa (((lrF rs k s).2.S rs).o,Ro (lrF rs k s).1,):=by
 apply jY;apply am;show nW (λm U=>∃s' v1 u b e,U=[.deep (.at l (Spt.S rs s').o),v1,u,b,e]/\SpJ n c S1 rs s'/\Me c s'<m/\lrF rs m s'=lrF rs k s) ?_ _ k _ (s,_,_,_,_,rfl,h,x,rfl) v;rintro m U ⟨s',v1,u,b,e,rfl,h',hm,g⟩
 cases m with
 |zero=>show absurd hm (iA _)
 |succ m=>
  cases a:s'.wt with
  |nil=>
   show(ae,cP (mM oz) (by change pI (.lst (s'.wt.map wyD))=_;rw[a];rfl),(λz=>by nomatch z),λ_=>?_);rw[<- g,qR a]
   show oA rfl (_,rfl,rfl,rfl)
  |cons y wt=>
   have(j,I,B):=h'.pop a;have q:∀p∈b6 rs s'.bs y,p.Ok s'.es.length:=by rw[h'.es];show qU A h'.bk
   show⟨ab,cP (mM oz) (by change pI (.lst (s'.wt.map wyD))=_;rw[a];rfl),λ_=>?_,λz=>by nomatch z⟩;apply am;show qN (Rr a) ?_;apply am;show bH (d:=qH (prs _ s'.es)) (Rq (ao (Q4 B rfl) (ao (mM qx) rfl)) (QW _ q)) ?_;apply am
   cases i:prs _ s'.es with
   |none=>
    show aM rfl (λ_=>?_) (λz=>by nomatch z);rw[<- g,qS a i]
    show oA rfl (_,rfl,rfl,rfl)
   |some ps=>
    have(f,J,_):=qP q i;have(C,L):=oG j f;show aM rfl (λz=>by nomatch z) (λ_=>bc ?_)
    show da ps prD (λpre U=>∃b e,U=[.deep (.at l ((puts {s' with wt:=wt} (wyD y) pre).S rs).o),.im _,.im _,b,e]) rfl (_,_,rfl) ?_ ?_
    .rintro pre z post U ex ⟨b,e,rfl⟩;rw[ex]at f;have(E,_):=oG j f.pre;have((G,H),_):=f.op z (by simp);show(_,rfl,?_);walk_at "nrm";show oB (jX rfl rfl (ir rfl (ir rfl (ir rfl rfl))) rfl (GN E w G (by rw[<- h'.es];show H))) ?_;show(.im (.int z.1),.im (.bl z.2),?_);unfold puts;rw[eQ];rfl
    .rintro U ⟨b,e,rfl⟩;show(m,cR _,_,_,_,_,_,rfl,C,by lia,?_);rw[<- g,qT a i]
def slf(es:LOB)(a b c d e:D)(ms:LRu):D:=.ins "Spreading" spN [.lst (es.map shD),a,b,c,d,e,.lst (ms.map mkD)]
def fdL(r:Rul)(es:LOB)(wo:LB0):D:=Bp (r.ps.find? λp=>p.lost es wo)
variable{a b c e:L2.D}
def Ru(hok:∀r∈ms,r.Ok es.length)(g:wo.length=es.length)(hz:ms.length<=1000):A7 [slf es a b c d e ms,.int t,.lst (wo.map D.bl)]=aa (.lst ((ms.filter λr=>r.hd==t).map λr=>fdL r es wo)):=
 mf (congrArg _ (fH ms mkD _ _ rfl (by lia) λr f=>dR rfl (bJ (aG rfl rfl (by change dEq _ _=_;rfl))) λ_=>aD rfl (Gh r.ps (hok r f).ps g)))
def kpL(p:Prt)(es:LOB)(wo:LB0):LI0:=if p.lost es ((bw es.length).map (inS [])) then [] else (nmL p).filter λt=>wo.getD t.toNat ae
def Rv{p:Prt}(f:p.Ok es.length)(hn:es.length<=60)(hm:(nmP p).length<=1000)(j:wo.length=es.length):A5 [slf es a b c d e ms,p.obj,.lst (wo.map D.bl)]=aa (.lst ((kpL p es wo).map D.int)):=by
 have g:m_4 [.int es.length,.lst []]=aa (.lst (((bw es.length).map (inS [])).map D.bl)):=by
  have:=Qk es.length [] (by lia) (by lia) (by decide)
  grind
 have i:=qy f hn;apply eY;apply am;show aM (cP (FS p f (by grind) rfl (ao rfl (ao (aD (ao (aD rfl (eZ es shD)) rfl) g) rfl))) rfl) (λz=>?_) (λz=>bc ?_)
 .show gF rfl (ga ?_);unfold kpL
  grind
 .show gF (fH _ D.int _ D.int (cG (FZ p f hn hm rfl) rfl) (by lia) λt h=>dR rfl (cP (ay rfl rfl (jL (oC f t (qz.mp h)).1 (by rw[j];show(oC f t (qz.mp h)).2))) rfl) λ_=>rfl) (ga ?_);unfold kpL
  grind
def Rw(p:Prt):(nmL p).Nodup:=by
 cases p with
 |inn t=>show bW.mpr ((λh=>nomatch h),fc)
 |out t=>show bW.mpr ((λh=>nomatch h),fc)
 |least k L=>show(jN _).imp λh=>by lia
 |most k L=>show(jN _).imp λh=>by lia
structure KOk(n:Nat)(wo:LB0)(fd:LI0):Prop where
 nd:fd.Nodup
 el:∀x∈fd,(0<=x/\x<(n:Int))/\wo.getD x.toNat ae=ab
variable{fd:LI0}
def KOk.len(h:KOk n wo fd):fd.length<=n:=u5 h.nd λx a=>(h.el x a).1
def KOk.more{p:Prt}(h:KOk n wo fd)(d:p.Ok n):KOk n wo (fd++(kpL p es wo).filter λt=>!(fd.any λx=>x==t)):=by
 have b:(kpL p es wo).Sublist (nmL p):=by
  unfold kpL;split
  .grind
  .simp
 show(fM.mpr (h.nd,(vv b (Rw p)).sublist rp,λx c y f e=>?_),λx c=>?_)
 .grind
 .rcases bI.mp c with q |q
  .show h.el x q
  .have a:=(cQ.mp q).1;show(oC d x (qz.mp (b.subset a)),?_);unfold kpL at a
   grind
def Rx(B:LI0)(i:Int):lZ (.int i) (.lst (B.map D.int))=aa (.bl (!(B.any λx=>x==i))):=by
 change Option.map _ (if _=ab then aa _ else ac)=_;rw[if_pos (by rw[oQ];show(bV _ _).mpr (rfl,all_eq_true.mpr λ_ _=>rfl)),oR];rfl
def Ry{n m:Int}(a:U[i]?=aa (.im (.int n)))(k:K (.nx (U.set i (.im (.int (n+m)))))):wp (mF i (mX λ_=>aa (.int m))) U K:=(_,by
 unfold mF;rw[a];rfl,k)
def Kp(es:LOB)(wo:LB0)(fd:LI0)(r:Rul):Prop:=∃p∈r.ps,p.lost es wo=ab/\∀y∈kpL p es wo,y∈fd
structure qW(es:LOB)(wo:LB0)(ms:LRu)(t:Int)(ks:LI0):Prop where
 mt:t∈ks
 nd:ks.Nodup
 el:∀x∈ks,(0<=x/\x<(es.length:Int))/\wo.getD x.toNat ae=ab
 kp:∀r∈ms,r.hd∈ks->Kp es wo ks r
def GP(hn:es.length<=60)(hok:∀r∈ms,r.Ok es.length)(hnm:∀r∈ms,∀p∈r.ps,(nmP p).length<=1000)(hw:wo.length=es.length)(hz:ms.length<=1000)(hl:∀r∈ms,wo.getD r.hd.toNat ae=ab->r.bodyLost es wo=ab)(t0:0<=t)(t1:t<(es.length:Int))(ht:wo.getD t.toNat ae=ab):
  ∃ks:LI0,o_2 [slf es a b c d e ms,.int t,.lst (wo.map D.bl)]=aa (ks.map D.int)/\qW es wo ms t ks:=by
 suffices h:wp b_2 _ (λr=>∃ks:LI0,r=.rtO (ks.map D.int)/\qW es wo ms t ks) by
  have(r,e,ks,rfl,h):=h;show(ks,uc e,h)
 apply am;show iU rfl ?_;walk_at "nrm";apply am;show bH rfl ?_;walk_at "nrm";apply am;show nW (λm U=>∃(fd:LI0) (i:Nat) (l:Sl),U=[.im _,.im _,.im _,.own (fd.map D.int),.im (.int i),l]/\KOk es.length wo fd/\i<=fd.length/\m+i=61/\t∈fd/\∀x∈fd.take i,∀r∈ms,r.hd=x->Kp es wo fd r) ?_ _ 61 _ ⟨[t],0,_,rfl,(bW.mpr ((λh=>nomatch h),fc),λx j=>by rw[cB.mp j];show((t0,t1),ht)),cK _,rfl,aB,λx j=>nomatch j⟩ (by decide);rintro m U ⟨fd,i,l,rfl,L,hp,hm,N,I⟩;have hfl:=L.len;show(decide _,bJ (aG rfl (aD rfl (eZ fd D.int)) rfl),λz=>?_,λz=>?_)
 .have M:i<fd.length:=by have:=of_decide_eq_true z;lia
  obtain⟨x,j⟩:∃x,fd[i]?=aa x:=(_,cI M);have((x0,x1),xw):=L.el x (cW j)
  have Y:atI (fd.map D.int) i=aa (.int x):=by
   rw[mh 0 (by lia) (by lia),dA,bM,j];rfl
  apply am;show da _ _ (λpre U=>∃(ex:LI0) (l:Sl),U=[.im _,.im _,.im _,.own ((fd++ex).map D.int),.im _,l]/\KOk es.length wo (fd++ex)/\∀r∈pre,Kp es wo (fd++ex) r) (cG ((dw rfl rfl (ao (ay rfl rfl Y) (ao rfl rfl))).trans (Ru hok hw hz)) rfl) ⟨[],l,by rw[bB],by rw[bB];show L,λr g=>nomatch g⟩ ?_ ?_
  .rintro pre r post U ex ⟨T,l,rfl,n,f⟩;have hrm:r∈ms.filter λr=>r.hd==x:=by rw[ex];simp
   have(g,B):=cQ.mp hrm;have B:r.hd=x:=by simpa using B
   obtain⟨p,w,hp2,hp3⟩:∃p,p∈r.ps/\fdL r es wo=p.obj/\p.lost es wo=ab:=by
    unfold fdL
    cases hf:r.ps.find? _ with
    |none=>
     have:=Gi (es:=es) (wo:=wo) r;rw[hf,(hl r g (by rw[B];show xw))]at this
     nomatch this
    |some p=>show(p,mem_of_find?_eq_some hf,rfl,find?_some hf)
   have A:=(hok r g).ps p w;have v:=n.more (es:=es) A;have J:=v.len;rw[bf]at J;show(_,rfl,?_);walk_at "nrm";rw[hp2];show(_,QC (bm (fH _ D.int _ D.int (cG ((dw rfl rfl (ao rfl (ao rfl rfl))).trans (Rv A hn (hnm r g p w) hw)) rfl) ?_ λy _=>dR rfl (bJ (aG rfl rfl (Rx (fd++T) y))) λ_=>rfl)) rfl (by rw[aH,aH];lia),?_)
   .have:(kpL p es wo).length<=(nmL p).length:=by
     unfold kpL;split
     .show cK _
     .show jt _ _
    have:=qy A hn
    lia
   .rw[cX]at v;show(_,.im p.obj,?_,v,λr' hr'=>?_)
    .simp only[bn,cX];rfl
    .rcases bI.mp hr' with q |q
     .have(Q,E,G,H):=f r' q;show(Q,E,G,λy C=>by rw[<- cX];show dO _ (H y C))
     .rw[cB.mp q];show(p,w,hp3,λy C=>?_);rw[<- cX]
      by_cases hm:y∈fd++T
      .show dO _ hm
      .show cV _ (cQ.mpr (C,?_));rw[Bool.not_eq_true',<- Bool.not_eq_true];intro h;have(u,hu,e):=any_eq_true.mp h;rw[beq_iff_eq.mp e]at hu;show hm hu
  .rintro U ⟨T,l,rfl,n,f⟩;show Ry rfl (m-1,by lia,fd++T,i+1,l,rfl,n,by rw[bf];lia,by lia,dO _ N,λy C r g e=>?_);rw[take_append_of_le_length M,take_succ,j]at C
   rcases bI.mp C with q |q
   .have(Q,E,G,H):=I y q r g e;show(Q,E,G,λz hz=>dO _ (H z hz))
   .rw[cB.mp q]at e;show f r (cQ.mpr (g,by simpa using e))
 .show nV rfl ?_;have hpl:i=fd.length:=by have:=of_decide_eq_false z;lia
  show gF (MK rfl (by lia) L.nd) (_,rfl,(iq _ _).mpr N,(jN _).imp (λh=>by lia),λx j=>L.el x ((iq _ _).mp j),λr g hd=>?_);have(Q,E,G,H):=I r.hd (by rw[hpl,take_length];show(iq _ _).mp hd) r g rfl;show(Q,E,G,λz hz=>(iq _ _).mpr (H z hz))
abbrev g6{a:Type}:Nat->List a->List (Nat×a)
 | _,[]=>[]
 |i,x::B=>(i,x,)::g6 (i+1) B
def BI{a:Type}(f:a->D):∀(i:Nat) (B:List a),gU i (B.map f)=(g6 i B).map λp=>D.tup [.int p.1,f p.2]
 | _,[]=>rfl
 |i,x::B=>by simp only[bP,gU,BI f _ B];rfl
def u7{a:Type}:∀(i:Nat) (B:List a) (j:Nat),(g6 i B)[j]?=(B[j]?).map λx=>(i+j,x,)
 | _,[],_=>rfl
 |i,x::B,0=>rfl
 |i,x::B,j+1=>by simp only[g6,gM,gM,u7 _ B j,show i+1+j=i+(j+1) by lia]
def oH{b:Type}{B:List b}{p:Nat×b}(h:p∈g6 0 B):B[p.1]?=aa p.2:=by
 have(j,a):=j8 h;rw[u7]at a
 cases e:B[j]? with
 |none=>rw[e]at a;nomatch a
 |some x=>
  rw[e]at a;cases a;rw[jw];show e
def GQ{a:Type}:∀(i:Nat) (B:List a),(g6 i B).length=B.length
 | _,[]=>rfl
 |i,x::B=>by simp only[g6,cr,cr,GQ _ B]
def inL(es:LOB)(wo:LB0):LI0:=((g6 0 es).filter λp=>wo.getD p.1 ae && p.2==aa ab).map λp=>(p.1:Int)
def jo(wo:LB0):LI0:=((g6 0 wo).filter λp=>p.2).map λp=>(p.1:Int)
def Rz(wo:LB0):g6 0 wo=(bw wo.length).map λi=>(i,wo.getD i ae,):=by
 apply lr;intro j;rw[u7,bN]
 by_cases h:j<wo.length
 .rw[cI h,mZ h];simp[cI h]
 .rw[dB (by lia),dB (by rw[cq];lia)];rfl
def u8(wo:LB0):jo wo=qw wo:=by
 unfold jo qw;rw[Rz,filter_map,map_map];rfl
def GR:∀(ws:Wss),O.kns (ws.map λp=>lsO p.2)=ab
 | []=>by rw[iz,O.kns]
 |p::ws=>by rw[bP,O.kns,GR ws,lsO,O.kn,jW];rfl
def Spt.D(rs:LRu)(s:Spt):L2.D:=(s.S rs).o.toD
def GS(rs:LRu)(s:Spt):∃a b c d e,s.D rs=slf s.es a b c d e s.ms:=by
 show(.lst s.st,.lst (s.bs.map bv),(O.dT ((gys rs.length s.bs.length).map wyK) (((gys rs.length s.bs.length).map (gdD rs s.bs)).map .fz)).toD,(wsO (wtW s.tw)).toD,.lst (s.wt.map wyD),?_);unfold Spt.D Spr.o Spt.S slf;simp only[lsO,O.toD,O.toDs,wM]
def RA(rs:LRu)(s:Spt):(s.S rs).o.kn=ab:=by
 unfold Spr.o Spt.S lsO wsO;rw[O.kn,O.kns,O.kns,O.kns,O.kns,O.kns,O.kns,O.kns,O.kns,O.kn,O.kn,O.kn,O.kn,O.kn,O.kn,O.kn,jW,jW,jW,jW,GR,jW];rfl
def GT:c6 0 (.deep (.at l (s.S rs).o)::U)=aa (s.D rs):=by
 change(if (O.at l (s.S rs).o).kn=ab then aa (O.at l (s.S rs).o).toD else ac)=_;rw[O.kn,RA,if_pos rfl,O.toD];rfl
def qX(rs:LRu)(s:Spt)(wo:LB0)(t:Int):LD:=(o_2 [s.D rs,.int t,.lst (wo.map D.bl)]).getD []
def qY(rs:LRu)(s:Spt)(wo:LB0)(t:Int):D:=.tup [.str "group",.lst (qX rs s wo t)]
structure gh(n:Nat)(ms:LRu):Prop where
 ok:∀r∈ms,r.Ok n
 nm:∀r∈ms,∀p∈r.ps,(nmP p).length<=1000
 ne:∀r∈ms,r.w≠.never
 len:ms.length<=1000
def gh.of(c:∀r∈rs,RuK n r)(hz:rs.length<=1000)(h:ms.Perm (g5 rs)):gh n ms:=by
 have hm:∀r∈ms,r∈rs/\r.w≠.never:=λr q=>by
  have(a,b):=cQ.mp (h.mem_iff.mp q)
  grind
 show(λr q=>(c r (hm r q).1).ok,λr q=>(c r (hm r q).1).nm,λr q=>(hm r q).2,by rw[h.length_eq];show cJ (jt _ _) hz)
def GpL(ms:LRu)(es:LOB)(wo:LB0):Prop:=wo.length=es.length/\∀r∈ms,wo.getD r.hd.toNat ae=ab->r.bodyLost es wo=ab
def GpL.up(h:GpL ms es wo)(f:ik es es')(hok:∀r∈ms,r.Ok es.length):GpL ms es' wo:=(by rw[h.1,f.len],λr a c=>pU (λp b z=>tM f (mn.refl _) ((hok r a).ps p b) z) (h.2 r a c))
def BJ{b:Bool}(t0:0<=t)(a:opn es t=ab):ik es (put es t.toNat b):=by
 show(dG _ _ _,λi=>?_)
 by_cases e:i=t.toNat
 .rw[e];show .inl (k9 a)
 .show .inr (fJ es b e)
def GU(hn:n<=60)(f:s.es.length=n)(hm:gh n s.ms)(g:GpL s.ms s.es wo)(t0:0<=t)(t1:t<(n:Int))(l:wo.getD t.toNat ae=ab):∃ks:LI0,qX rs s wo t=ks.map D.int/\qW s.es wo s.ms t ks:=by
 have(a,b,c,d,e,i):=GS rs s;have(ks,j,h):=GP (by lia) (by rw[f];show hm.ok) hm.nm g.1 hm.len g.2 t0 (by rw[f];show t1) l;unfold qX;rw[i,j];show(ks,rfl,h)
def GV(hn:n<=60)(f:s.es.length=n)(hm:gh n s.ms)(g:GpL s.ms s.es wo)(t0:0<=t)(t1:t<(n:Int))(m:wo.getD t.toNat ae=ab)(l:fo U=aa (s.D rs))(ha:fa U=aa [.int t,.lst (wo.map D.bl)]):
  mJ "Spreading" "kernel" o_2 fo fa U=aa (qX rs s wo t):=by
 have(a,b,c,d,e,i):=GS rs s;have(ks,j,_):=GP (by lia) (by rw[f];show hm.ok) hm.nm g.1 hm.len g.2 t0 (by rw[f];show t1) m;unfold mJ;rw[l,aw];unfold qX;rw[i];change(if "Spreading"="Spreading" /\ spN.contains "kernel"=ae then (fa U).bind λh=>(o_2 (slf s.es a b c d e s.ms::h)).bind λrs=>if rs.all D.flat then aa rs else ac else ac)=_;rw[if_pos (rfl,rfl),ha,aw,j,aw,if_pos (all_eq_true.mpr λd hd=>by have(z,_,rfl):=aO.mp hd;rfl)];rfl
def fL(rs:LRu)(wo:LB0)(s:Spt)(ts:LI0):Spt:=ts.foldl (λs t=>s.pt t ae (qY rs s wo t)) s
def u9{n c S1:Nat}{rs:LRu}{wo:LB0}:∀{ts:LI0} {s:Spt},SpJ n c S1 rs s->e8 s.es (ts.map λt=>(t,ae,))->SpJ n c S1 rs (fL rs wo s ts)/\Me c (fL rs wo s ts)+ts.length<=Me c s/\(fL rs wo s ts).es=ts.foldl (λes t=>put es t.toNat ae) s.es/\ik s.es (fL rs wo s ts).es/\(fL rs wo s ts).bs=s.bs/\(fL rs wo s ts).ms=s.ms
 | [],s,h,_=>(h,aP _,rfl,ik.refl _,rfl,rfl)
 |t::ts,s,h,k=>by
  have((a,b),e):=k.op _ aB;have(f,g):=h.pt a (by rw[<- h.es];show b) e;have(l,m,r,d,u,v):=u9 f k.tail;show(l,?_,r,?_,u,v)
  .have p:Me c (fL rs wo (s.pt t ae _) ts)+ts.length<=Me c _:=m;have j:Me c _<Me c s:=g;change Me c (fL rs wo (s.pt t ae _) ts)+(ts.length+1)<=_;lia
  .have f1:ik s.es (put s.es t.toNat ae):=BJ a e;show(d.len.trans f1.len,λi=>?_)
   rcases f1.at' i with q |q
   .show .inl q
   .rcases d.at' i with z |z
    .show .inl (q.symm.trans z)
    .show .inr (z.trans q)
def psT{pre post:LI0}(h:e8 es ((pre++post).map λt=>(t,ae,))):e8 es (pre.map λt=>(t,ae,)):=by
 rw[bn]at h;show h.pre
def reM(s:Spt):Spt:={s with ms:=(b5 s.es s.ms).2.1++(b5 s.es s.ms).2.2}
abbrev bF(rs:LRu)(s:Spt):OD×Spt:=match inL s.es (b5 s.es s.ms).1 with
 |x::_=>(aa (qY rs (reM s) (b5 s.es s.ms).1 x),reM s,)
 | []=>(ac,fL rs (b5 s.es s.ms).1 (reM s) (jo (b5 s.es s.ms).1),)
variable{c:Nat}
def SpJ.rem'(h:SpJ n c S1 rs s)(hm:gh n s.ms):SpJ n c S1 rs (reM s)/\GpL s.ms s.es (b5 s.es s.ms).1/\(reM s).ms.Perm s.ms/\∀i,(b5 s.es s.ms).1.getD i ae=ab->s.es.getD i ac≠aa ae:=by
 have(a,f):=Gm (es:=s.es) hm.ne;have pm:((b5 s.es s.ms).2.1++(b5 s.es s.ms).2.2).Perm s.ms:=by have:=a.pm;rw[bB]at this;show this
 show((h.es,h.bk,h.tw,h.wv,pm.trans h.ms,h.mB,h.sB,h.sv),(a.len,λr b d=>?_),pm,λi hi e=>?_)
 .have:=f r b;unfold iw at this;rw[d,oN]at this
  simpa using this
 .have:=a.pe.sub i hi;unfold dz at this;rw[bM,bN]at this;rw[bM]at e
  cases h:s.es[i]? with
  |none=>rw[h]at e;nomatch e
  |some x=>
   rw[h]at e this;have e:x=aa ae:=e;rw[e]at this
   nomatch this
def GpL.grp(h:GpL ms es wo)(pm:ms.Perm (g5 rs))(hn:∀i,wo.getD i ae=ab->es.getD i ac≠aa ae):Grp rs es wo:=(h.1,hn,λr a=>h.2 r (pm.mem_iff.mpr a))
def BK:t∈jo wo↔0<=t/\wo.getD t.toNat ae=ab:=by rw[u8];show uO wo t
def RB(wo:LB0):(jo wo).Nodup:=by
 rw[u8];show vw _ (λa b h e=>h (by lia)) (nodup_range.filter _)
def GW(h:inL es wo=[])(i:Nat)(b:wo.getD i ae=ab):es.getD i ac≠aa ab:=λe=>by
 rw[bM]at e
 cases a:es[i]? with
 |none=>rw[a]at e;nomatch e
 |some x=>
  rw[a]at e;have e:x=aa ab:=e;have hm:(i,x,)∈g6 0 es:=cW (by rw[u7,a];simp);have:_∈inL es wo:=aO.mpr (_,cQ.mpr (hm,by rw[b,e];rfl),rfl);simp only[h]at this
  nomatch this
def qZ(d:wo.length=es.length)(h:inL es wo=[])(hn:∀i,wo.getD i ae=ab->es.getD i ac≠aa ae):e8 es ((jo wo).map λt=>(t,ae,)):=by
 show(by rw[map_map];have:=RB wo;simpa[Function.comp_def]using this,λz hz=>?_);have(t,c,rfl):=aO.mp hz;have(t0,tw):=BK.mp c
 have lt:t.toNat<wo.length:=by
  show Nat.lt_of_not_le λq=>?_;rw[bM,dB q]at tw
  nomatch tw
 show((t0,by change t<_;lia),?_);unfold opn
 cases a:es.getD t.toNat ac with
 |none=>rfl
 |some b=>cases b with
  |true=>show absurd a (GW h _ tw)
  |false=>show absurd a (hn _ tw)
def va(y:∀r∈rs,RuK n r)(hz:rs.length<=1000)(h:SpJ n c S1 rs s):SpJ n c S1 rs (bF rs s).2/\(bF rs s).2.bs=s.bs/\Mvs rs s.bs s.es (bF rs s).2.es/\Me c (bF rs s).2<=Me c s/\((bF rs s).1=ac->s.wt=[]->(bF rs s).2.wt≠[]->Me c (bF rs s).2<Me c s)/\((bF rs s).1≠ac->∃wo,Grp rs (bF rs s).2.es wo/\∃i,wo.getD i ae=ab/\(bF rs s).2.es.getD i ac=aa ab):=by
 have(u,l,pm,a):=h.rem' (gh.of y hz h.ms);unfold bF
 cases j:inL s.es (b5 s.es s.ms).1 with
 |cons x B=>
  show(u,rfl,.refl,aP _,(λe=>by nomatch e),λ_=>(_,l.grp h.ms a,?_));have g:x∈inL s.es (b5 s.es s.ms).1:=by rw[j];show aB
  have(p,w,rfl):=aO.mp g;have(m,q):=cQ.mp w;have (h4,h5):=(bV _ _).mp q;show(p.1,h4,?_);change s.es.getD p.1 ac=aa ab;rw[bM,(oH m)]
  show eq_of_beq h5
 |nil=>
  dsimp only;have(o1,o2,A,E,C,G):=u9 u (qZ l.1 j a);have f:Me c _+(jo (b5 s.es s.ms).1).length<=Me c s:=o2;show(o1,C,?_,by lia,λ_ z d=>?_,λe=>absurd rfl e)
  .rw[A,u8];show .out .refl (l.grp h.ms a) λi hi=>?_;change s.es.getD i ac=ac
   cases g:s.es.getD i ac with
   |none=>rfl
   |some b=>cases b with
    |true=>show absurd g (GW j i hi)
    |false=>show absurd g (a i hi)
  .cases v:jo (b5 s.es s.ms).1 with
   |nil=>
    rw[v]at d
    show absurd z d
   |cons t ts=>
    rw[v]at f;rw[cr]at f;lia
def RC(hr:∀r∈rs,RuK n r)(hz:rs.length<=1000)(hn:n<=60)(hB:S1+c<16777216)(h:SpJ n c S1 rs s):Bb l [] (s.S rs).o=aa (((bF rs s).2.S rs).o,(bF rs s).1.getD .non,):=by
 have hm:=gh.of hr hz h.ms;have(h1,w,pm,C):=h.rem' hm;have j:(s.S rs).es=s.es:=rfl;have a:=h.es;have e:gh n (reM s).ms:=(λr q=>hm.ok r (pm.mem_iff.mp q),λr q=>hm.nm r (pm.mem_iff.mp q),λr q=>hm.ne r (pm.mem_iff.mp q),by rw[pm.length_eq];show hm.len);have f:GpL (reM s).ms s.es (b5 s.es s.ms).1:=(w.1,λr q=>w.2 r (pm.mem_iff.mp q));have g:=w.1;unfold bF;generalize I:(b5 s.es s.ms).1=wo at *;apply jY;apply am;show qN (jX rfl rfl rfl rfl (QO rfl (by rw[j];lia) (by rw[j,a];show hm.ok) hm.ne hm.len)) ?_;change wp _ [.deep _,.im (.lst ((b5 s.es s.ms).1.map D.bl)),.no,.no,.no] _;rw[I];apply am;show bH (d:=.lst ((inL s.es wo).map D.int)) (bm ?_) ?_
 .unfold inL;rw[map_map];show fH (g6 0 s.es) (λp=>D.tup [.int p.1,shD p.2]) _ _ ?_ (by rw[GQ];lia) λp E=>?_
  .rw[<- BI];change(pC _ _).map _=_;rw[Bk qx];rfl
  .have A:=(cA.mp (oH E)).1;show dR rfl (tI (cP (ay rfl rfl (jL (by lia) (by lia))) rfl) (bJ (aG rfl rfl ?_))) λ_=>rfl;have(i,x):=p
   cases x with
   |none=>rfl
   |some b=>cases b <;> rfl
 .change wp _ [.deep (.at l ((reM s).S rs).o),.im _,.no,.im _,.no] _;apply am
  cases N:inL s.es wo with
  |cons x B=>
   have u:x∈inL s.es wo:=by rw[N];show aB
   have(p,E,Y):=aO.mp u;have(G,H):=cQ.mp E;have h3:=(cA.mp (oH G)).1;have (h4,h5):=(bV _ _).mp H
   show oA (d:=qY rs (reM s) wo x) (eJ (ao rfl (ao (bm (GV hn a e f (by lia) (by lia) (by rw[<- Y,dA];show h4) GT (ao (ay rfl rfl (mh 0 (by decide) (by rw[cr];lia))) (ao rfl rfl)))) rfl))) (_,rfl,rfl,rfl)
  |nil=>
   have ps:=qZ g N C;show aM rfl (λz=>by nomatch z) (λ_=>bc ?_);apply am;show da (g6 0 wo) (λp=>D.tup [.int p.1,.bl p.2]) (λpre U=>∃L M,U=[.deep (.at l ((fL rs wo (reM s) ((pre.filter λp=>p.2).map λp=>p.1)).S rs).o),.im _,L,.im _,M]) ?_ (_,_,rfl) ?_ ?_
   .rw[<- BI];show Ga rfl
   .rintro pre p post U ex ⟨L,M,rfl⟩;show(_,rfl,?_);walk_at "nrm";have u:=oH (p:=p) (by rw[ex];simp);have A:=(cA.mp u).1
    cases m:p.2 with
    |false=>
     show aM rfl (λz=>by nomatch z) (λ_=>bc ?_);show(.im (.int p.1),.im (.bl ae),?_)
     rw[rA,filter_cons_of_neg (by rw[m];show bD),filter_nil,bB]
    |true=>
     have v:jo wo=(pre.filter λp=>p.2).map (λp=>(p.1:Int))++(p.1:Int)::(post.filter λp=>p.2).map λp=>p.1:=by
      unfold jo;rw[ex,rA,vt m,bn,bP]
     rw[v]at ps;have(o1,o2,o3,o4,o5,Q):=u9 (wo:=wo) h1 (psT ps);generalize hT:(pre.filter λp=>p.2).map _=T at *;have y:GpL (fL rs wo (reM s) T).ms (fL rs wo (reM s) T).es wo:=by rw[Q];show f.up o4 (by change ∀r∈(reM s).ms,r.Ok s.es.length;rw[a];show e.ok)
     have J:wo.getD (p.1:Int).toNat ae=ab:=by rw[dA,bM,u,m];rfl
     show oB (jX rfl rfl (ir rfl (ir rfl (ir (eJ (ao rfl (ao (bm (GV hn o1.es (by rw[Q];show e) y (by lia) (by lia) J GT (ao rfl (ao rfl rfl)))) rfl))) rfl))) rfl (GN o1 hB (by lia) (by lia))) ?_;show(.im (.int p.1),.im (.bl ab),?_);rw[rA,vt m,bn,hT];unfold fL;rw[filter_nil,bP,iz,eQ];rfl
   .rintro U ⟨L,M,rfl⟩;show oA rfl (_,rfl,rfl,rfl)
abbrev stF(rs:LRu)(c:Nat):Nat->Spt->OD×Spt
 | 0,s=>(ac,s,)
 |k+1,s=>if (lrF rs (Me c s+1) s).1.isSome then ((lrF rs (Me c s+1) s).1.map wyD,(lrF rs (Me c s+1) s).2,) else if ((bF rs (lrF rs (Me c s+1) s).2).1.isSome || (bF rs (lrF rs (Me c s+1) s).2).2.wt.isEmpty) then bF rs (lrF rs (Me c s+1) s).2 else stF rs c k (bF rs (lrF rs (Me c s+1) s).2).2
def RD(rs:LRu)(bs:LLP)(es:LOB):Prop:=(∃y∈gys rs.length bs.length,∀p∈b6 rs bs y,p.sure es=ab)\/∃wo,Grp rs es wo/\∃i,wo.getD i ae=ab/\es.getD i ac=aa ab
structure RE(n c S1:Nat)(rs:LRu)(s:Spt)(R:OD×Spt):Prop where
 ok:SpJ n c S1 rs R.2
 bs:R.2.bs=s.bs
 mv:Mvs rs s.bs s.es R.2.es
 en:R.1≠ac->RD rs s.bs R.2.es
 tp:∀w,R.1=aa w->∃E,w=.tup E
def RF(h:(bF rs s).1=aa w):∃E,w=.tup E:=by
 unfold bF at h;split at h
 .cases h;show(_,rfl)
 .nomatch h
def none_of{b:Type}{x:Option b}(h:¬x.isSome=ab):x=ac:=by cases x with
 |none=>rfl
 |some a=>show absurd rfl h
def vb{n c S1:Nat}{rs:LRu}(d:∀r∈rs,RuK n r)(hz:rs.length<=1000):∀(k:Nat) (s:Spt),SpJ n c S1 rs s->Me c s<k->RE n c S1 rs s (stF rs c k s)
 | 0,_,_,h=>absurd h (iA _)
 |k+1,s,h,hk=>by
  have l:=qV d _ s h (cR _);unfold stF;generalize lrF rs _ s=R at l;split
  .rename_i f;have(y,m):=rG.mp f;show(l.ok,l.bs,l.mv,(λ_=>.inl (y,l.ye y m)),λw j=>by rw[m]at j;cases j;show(_,rfl))
  .rename_i f;have(p,q,g,B,v,x):=va d hz l.ok;rw[l.bs]at g;have A:=l.le;have pt:=λw=>RF (rs:=rs) (s:=R.2) (w:=w);generalize bF rs R.2=P at *;split
   .show(p,q.trans l.bs,l.mv.trans g,(λe=>.inr (x e)),pt)
   .rename_i i;have u:P.2.wt≠[]:=λe=>i (by rw[e];show oO _);have z:=v (none_of λe=>i (by rw[e];rfl)) (l.no (none_of f)) u;have a:=vb d hz k P.2 p (by lia);have b:=q.trans l.bs;show(a.ok,a.bs.trans b,(l.mv.trans g).trans (by have:=a.mv;rw[b]at this;show this),(λe=>by have:=a.en e;rw[b]at this;show this),a.tp)
def RG(rs:LRu)(s:Spt):dIs ((bF rs s).1.getD .non) .non=aa (.bl (!(bF rs s).1.isSome)):=by
 unfold bF
 split <;> rfl
def RH(d:∀r∈rs,RuK n r)(hz:rs.length<=1000)(hn:n<=60)(u:S1+c<16777216)(h:SpJ n c S1 rs s)(G:Me c s<k)(E:k<1000000000):Bd l [] (s.S rs).o=aa (((stF rs c k s).2.S rs).o,(stF rs c k s).1.getD .non,):=by
 apply jY;apply am;show bH rfl ?_;walk_at "nrm";apply am;show nW (λm U=>∃(s':Spt) (g:Bool) (j:Sl),U=[.deep (.at l (s'.S rs).o),.im (.bl g),j]/\(g=ab->SpJ n c S1 rs s'/\Me c s'<m/\stF rs c m s'=stF rs c k s)/\(g=ae->∃w:OD,j=.im (w.getD .non)/\(w,s',)=stF rs c k s)) ?_ _ k _ ⟨s,ab,_,rfl,λ_=>(h,G,rfl),λz=>by nomatch z⟩ E;rintro m U ⟨s',g,j,rfl,x,v⟩;generalize stF rs c k s=Z at x v ⊢;show(g,rfl,?_,?_)
 .rintro rfl;have(h',hm,a):=x rfl
  cases m with
  |zero=>show absurd hm (iA _)
  |succ m=>
   have f:=qV d _ s' h' (cR _);have mB:=h'.mB;have A:=Rs (l:=l) d u h' (cR _) (by change Me c s'+1<_;change fK s'.es*_+s'.wt.length+1<_;lia);unfold stF at a;generalize lrF rs _ s'=R at *;apply am;show qN (jX rfl rfl rfl rfl A) ?_;apply am
   cases hR:R.1 with
   |some y=>
    rw[if_pos (by rw[hR];rfl),hR]at a;show aM rfl (λz=>by nomatch z) (λ_=>bc ?_)
    show bH ((ig rfl (aG (aD (ao (mM oz) rfl) (eZ R.2.wt wyD)) rfl t8)).trans rfl) (0,oV _,R.2,ae,_,rfl,(λz=>by nomatch z),λ_=>(aa _,rfl,a))
   |none=>
    rw[if_neg (by rw[hR];show bD)]at a;have(H,M,N,Q,I,T):=va d hz f.ok;have B:=RC (l:=l) d hz hn u f.ok;have C:=RG rs R.2;have L:=f.le;generalize bF rs R.2=P at *;show qN (jX rfl rfl rfl rfl B) ?_;show bH (ig (aG rfl rfl C) (aG (aD (ao (mM oz) rfl) (eZ P.2.wt wyD)) rfl t8)) ?_
    by_cases b:(P.1.isSome || P.2.wt.isEmpty)=ab
    .rw[if_pos b]at a
     have i:(!P.1.isSome && decide ((0:Int)<P.2.wt.length))=ae:=by
      rcases(iZ _ _).mp b with z |z
      .rw[z];rfl
      .rw[isEmpty_iff.mp z];show oM _
     rw[i];show(0,oV _,P.2,ae,_,rfl,(λz=>by nomatch z),λ_=>(P.1,rfl,a))
    .rw[if_neg b]at a;have p:=none_of λe=>b (by rw[e];rfl);have q:P.2.wt≠[]:=λe=>b (by rw[e];show oO _);have J:=I p (f.no hR) q
     have i:(!P.1.isSome && decide ((0:Int)<P.2.wt.length))=ab:=by
      have:=length_pos_iff.mpr q;rw[p,decide_eq_true (by lia)];rfl
     rw[i];show⟨m,cR _,P.2,ab,_,rfl,(λ_=>(H,by lia,a)),λz=>by nomatch z⟩
 .rintro rfl;have(w,rfl,e):=v rfl;rw[<- e];show oA rfl (_,rfl,rfl,rfl)
structure SpB(n c:Nat)(rs:LRu)(s:Spt):Prop where
 es:s.es.length=n
 bk:∀b∈s.bs,bL n b
 tw:gg c rs.length s.bs s.tw
 wv:∀y∈s.wt,y∈gys rs.length s.bs.length
 ms:s.ms.Perm (g5 rs)
 st:s.st=[]
 wl:s.wt.length=rs.length+s.bs.length
def SpB.bar{b:List Pr}(h:SpB n c rs s)(a:bL n b)(hn:n<=60):SpB n (c+3840) rs (s.bar b):=by
 show(h.es,λx d=>?_,(h.tw.dropped (λb q=>(h.bk b q).pd) b).bar a hn,λy e=>?_,h.ms,h.st,?_)
 .rcases bI.mp d with q |q
  .show h.bk x q
  .rw[cB.mp q];show a
 .change y∈gys rs.length (s.bs++[b]).length;rw[bf,dN,qK]
  rcases bI.mp e with q |q
  .show dO _ (h.wv y q)
  .show cV _ q
 .change(s.wt++[_]).length=rs.length+(s.bs++[b]).length;rw[bf,bf,dN,dN,h.wl];lia
def GX{n q R:Nat}(hn:n<=60):∀(rs:LRu) (i c:Nat) (tw:Wt),(∀r∈rs,RuK n r/\(grd r).length<=q)->i+rs.length<=R->gg c R [] tw->gg (c+64*q*rs.length) R [] (mT i rs tw)
 | [],_,_,_,_,_,h=>h
 |r::rs,i,c,tw,hr,hi,h=>by
  have(f,g):=hr r aB;rw[cr]at hi
  have a:gg (c+64*q) R [] (gf (ae,i,) (grd r) tw):=by
   show(?_,λp y d=>?_,λj=>?_)
   .rw[<- u4];show(bK.reg hn (uT f) h.wk).le ?_;lia
   .by_cases e:y=(ae,i,)
    .rw[e];show ix.mpr ?_;change i<R;lia
    .show h.vl p y (gK.mpr ?_);rw[<- mU e p _];show gK.mp d
   .show .inl λp=>?_;rw[mU (λe=>by cases e)]
    rcases h.br j with z |z
    .show z p
    .rw[z p]
     show if_neg λx=>by
      cases x
  have:=GX hn rs (i+1) _ _ (λx b=>hr x (be _ b)) (by lia) a;rw[cr,Nat.mul_succ,show c+_=c+64*q+64*q*rs.length by lia];show this
variable{q:Nat}
def vc(hn:n<=60)(a:es.length=n)(c:∀r∈rs,RuK n r/\(grd r).length<=q):SpB n (64*q*rs.length) rs (spT es rs):=by
 show(a,(λb h=>nomatch h),?_,λy d=>?_,rB _,rfl,by change((bw rs.length).map _).length=_;rw[aH,cq];rfl)
 .have:=GX (R:=rs.length) hn rs 0 0 [] c (by lia) (⟨cK _,λp h=>nomatch h⟩,(λp y h=>nomatch h),λj=>.inl λp=>rfl);rw[jw]at this;show this
 .have(i,hi,rfl):=aO.mp d;show ix.mpr (dW.mp hi)
def vd{n:Nat}{rs:LRu}(hn:n<=60):∀(bars:LLP) (s:Spt) (c:Nat),(∀b∈bars,bL n b)->SpB n c rs s->SpB n (c+3840*bars.length) rs (bars.foldl Spt.bar s)
 | [],_,_,_,h=>h
 |b::bars,s,c,hb,h=>by
  have:=vd hn bars _ _ (λx a=>hb x (be _ a)) (h.bar (hb b aB) hn);rw[cr,d6,show c+3840*_=c+3840+3840*bars.length by lia];show this
def q5:∀(bars:LLP) (s:Spt),(bars.foldl Spt.bar s).bs=s.bs++bars/\(bars.foldl Spt.bar s).es=s.es
 | [],s=>((bB _).symm,rfl)
 |b::bars,s=>by
  have(a,c):=q5 bars _;show(?_,c);rw[d6,a];change s.bs++[b]++bars=_;rw[cX];rfl
variable{bars:LLP}
def RI(hn:n<=60)(d:es.length=n)(e:∀r∈rs,RuK n r/\(grd r).length<=q)(hz:rs.length<=250)(g:∀b∈bars,bL n b)(y:64*q*rs.length+3840*bars.length+3840<16777216)(i:bars.length<=1000)(l:Addr):
  m_6 l [pl0 v rs,.lst (bars.map bv),.lst (es.map shD)] (.ins "Spreading" [] [])=aa (((bars.foldl Spt.bar (spT es rs)).S rs).o,.non,):=by
 apply jY;apply am;show k8 (mN rfl) rfl rfl ?_;apply am;show k8 (mN rfl) rfl rfl ?_;apply am;show k8 (mN rfl) rfl rfl ?_;apply am;show k8 rfl rfl rfl ?_;apply am;show k8 rfl rfl rfl ?_;apply am;show k8 (mN rfl) rfl rfl ?_;apply am;show k8 (FV (bm (QI (cG (ay rfl rfl rfl) rfl) (λr h=>(e r h).1.ok) (by lia)))) rfl rfl ?_;apply am;show QJ hn (λr h=>(e r h).1) hz λu w=>?_;rw[Q6];show da bars bv (λpre U=>∃f,U=[.deep (.at l ((pre.foldl Spt.bar (spT es rs)).S rs).o),.im _,.im _,.im _,u,w,f]) rfl (_,rfl) ?_ ?_
 .rintro pre b post U ex ⟨f,rfl⟩;have j:∀x∈pre,bL n x:=λx p=>g x (by rw[ex];simp[p]);have m:pre.length<bars.length:=by rw[ex];simp
  have c:=vd hn pre _ _ j (vc hn d e);have a:(pre.foldl Spt.bar (spT es rs)).bs.length=pre.length:=by rw[(q5 pre _).1];rfl
  show(_,rfl,?_);walk_at "nrm";show oB (jX rfl rfl (ir rfl rfl) rfl (Ri _ b c.tw (by lia) c.bk (g b (by rw[ex];simp)) hn (by rw[a];lia) (by rw[c.wl,a];lia))) ?_;show(.im (bv b),?_);rw[eQ];rfl
 .rintro U ⟨f,rfl⟩;show(_,rfl,rfl,rfl)
def RJ{cn b a:Str}{ns:LSt}{f:Xa}(h:U[i]?=aa (.deep (.ins a ns os)))(hi:(O.ins a ns os).isIns cn b=ab)(g:f U=aa (E,ds,))(e:ds[i]?=aa (.deep (.ins a ns os)))(hm:∀l,m l E (.ins a ns os)=aa (o',d,)):k6 i cn b m f U=aa (d,ds.set i (.deep o'),):=by
 unfold k6;rw[h];change(if (O.ins a ns os).isIns cn b=ab then _ else ac)=_;rw[if_pos hi,g,aw,e];have c:∃q,∀l,m l E _=aa q:=(_,hm);dsimp only;rw[dif_pos c];have:=c.choose_spec 0;rw[hm 0]at this;rw[<- cS this]
def RK{cn f:Str}(h:bq cn f (aZ i) U=aa (lsO E,R,))(a:i≠j)(k:K (.nx ((U.set i (.deep (R .any))).set j (.own E)))):wp (oq i j cn f) U K:=(_,by
 unfold oq;rw[h,aw,qJ,aw,if_neg a],k)
abbrev mW:OD->LD
 |none=>[]
 |some w=>[.tup [.non,w]]
def eO(es:LOB)(rs:LRu)(bars:LLP):Spt:=bars.foldl Spt.bar (spT es rs)
def GY{es:LD}(h:p U=aa (lsO E,R,))(a:U[j]?=aa (.own es)):ot p j U=aa (.tup [lsO E,lsO es]):=by
 unfold ot;rw[h,aw,qJ,aw,a];rfl
def RL(h:wp F (eE n E) λr=>EJ r=aa o):pZ n F E=aa o:=by
 have(r,e,k):=h;unfold pZ;rw[e,aw];show k
def RM(hn:n<=60)(g:es.length=n)(y:∀r∈rs,RuK n r/\(grd r).length<=q)(hz:rs.length<=250)(B:∀b∈bars,bL n b)(u:bars.length<=1000)(L:64*q*rs.length+3840*bars.length+3840<=c)(J:n*(c+1)+n+rs.length+bars.length<=S1)(p:S1+c<16777216):
  SpJ n c S1 rs (eO es rs bars)/\uM [pl0 v rs,.lst (bars.map bv),.lst (es.map shD)]=aa (.tup [lsO ((stF rs c (Me c (eO es rs bars)+1) (eO es rs bars)).2.es.map shD),lsO ((stF rs c (Me c (eO es rs bars)+1) (eO es rs bars)).2.st++mW (stF rs c (Me c (eO es rs bars)+1) (eO es rs bars)).1)]):=by
 have i:=λr h=>(y r h).1;have a:=vd hn bars _ _ B (vc hn g y);have(m,f):=q5 bars _;have m:(bars.foldl Spt.bar (spT es rs)).bs=bars:=m;have f:(bars.foldl Spt.bar _).es=es:=f;have j:=λl=>RI (v:=v) hn g y hz B (by lia) u l;unfold eO;generalize bars.foldl Spt.bar _=s at a m f j ⊢;have H:=Rm es;have C:fK es*_<=n*(c+1):=Nat.mul_le_mul_right _ (by lia);have e:SpJ n c S1 rs s:=⟨a.es,a.bk,(a.tw.wk.le (by lia),a.tw.vl,a.tw.br),a.wv,a.ms,by rw[a.wl,m,f];lia,by rw[a.st,f,length_nil];lia,λd hd=>by rw[a.st]at hd;nomatch hd⟩;show(e,?_);have mB:=e.mB;have A:=vb i (by lia) _ s e (cR _);have G:=λl=>RH (l:=l) i (by lia) hn p e (cR _) (by change fK s.es*_+s.wt.length+1<_;lia);generalize stF rs c _ s=R at A G ⊢;have I:=A.ok.sB;apply RL;change wp _ [.im _,.im _,.im _,.no,.no,.no] _;apply am;show xQ (Qz rfl j) ?_;apply am;show qN (RJ rfl rfl rfl rfl G) ?_;apply am;show RK (E:=R.2.st) rfl (by decide) ?_;walk_at "nrm";apply am
 cases hR:R.1 with
 |none=>
  show aM rfl (λz=>by nomatch z) (λ_=>bc ?_);show EK (GY (E:=R.2.es.map shD) (es:=R.2.st) rfl rfl) ?_;rw[show mW ac=[]from rfl,bB]
  rfl
 |some w=>
  have x:dQ w .non=aa (.bl ab):=by
   have(E,rfl):=A.tp w hR;rfl
  show aM (bJ (aG rfl rfl x)) (λ_=>?_) (λz=>by nomatch z);show jO rfl rfl (by lia) ?_;walk_at "nrm";show EK (GY (E:=R.2.es.map shD) (es:=R.2.st++[.tup [.non,w]]) rfl rfl) rfl
variable{b:Bool}
def GZ{e:LOB}{p:Prt}(c:p.Ok e.length)(t0:0<=t)(t1:t<(e.length:Int))(a:opn e t=ab)(h:t∉nmP p\/d5 p≠b):p.sure (put e t.toNat b)=p.sure e:=by
 rcases h with h |h
 .show QD c (by grind)
 .have d:=k9 a
  cases p with
  |inn u=>
   cases b with
   |true=>show absurd rfl h
   |false=>
    change((put e t.toNat ae).getD u.toNat ac==aa ab)=(e.getD u.toNat ac==aa ab)
    by_cases q:u.toNat=t.toNat
    .rw[q,jn e ae (by lia),d];rfl
    .rw[fJ e ae q]
  |out u=>
   cases b with
   |false=>show absurd rfl h
   |true=>
    change((put e t.toNat ab).getD u.toNat ac==aa ae)=(e.getD u.toNat ac==aa ae)
    by_cases q:u.toNat=t.toNat
    .rw[q,jn e ab (by lia),d];rfl
    .rw[fJ e ab q]
  |least k L=>
   cases b with
   |true=>show absurd rfl h
   |false=>
    change decide _=decide _;rw[uZ c.1 t0 t1 a ae]
    simp
  |most k L=>
   cases b with
   |false=>show absurd rfl h
   |true=>
    change decide _=decide _;rw[u3 c.1 t0 t1 a ab];simp
nonrec abbrev oI(G:List Prt)(es:LOB):Prop:=∀p∈G,p.sure es=ab
structure dS(G:List Prt)(es:LOB)(S:LI0):Prop where
 ns:¬oI G es
 np:∀(t:Int) (b:Bool),0<=t->t<(es.length:Int)->opn es t=ab->oI G (put es t.toNat (!b))->t∈S
variable{S:LI0}
def dS.pt(h:dS G es (t::S))(i:∀p∈G,p.Ok es.length)(t0:0<=t)(t1:t<(es.length:Int))(j:opn es t=ab)(hn:∀p∈G,t∉nmP p\/d5 p≠b):dS G (put es t.toNat b) S:=by
 show(λq=>h.ns λp a=>by rw[<- GZ (i p a) t0 t1 j (hn p a)];show q p a,λu c f l d q=>?_);rw[dG]at l
 have ne:u≠t:=λe=>by
  unfold opn at d;rw[e,jn es b (by lia)]at d
  nomatch d
 have g:opn es u=ab:=by rw[<- BE f t0 ne];show d
 have:=h.np u c f l g λp a=>by
  have e:=GZ (e:=put es u.toNat (!c)) (by rw[dG];show i p a) t0 (by rw[dG];show t1) (BG t0 f (λe=>ne e.symm) j) (hn p a);rw[<- e,BF (by lia)];show q p a
 rcases aW.mp this with e |e
 .show absurd e ne
 .show e
def dS.of_prs(d:∀p∈G,p.Ok es.length)(h:prs G es=aa ps):dS G es (ps.map (·.1)):=by
 have(_,c,p,f,a):=qP d h;show((λq=>by rw[q p f]at a;nomatch a),λt b t0 t1 e q=>(aO.mpr (_,(c (t,b,)).mpr ((t0,t1),e,q),rfl)))
def Wch(rs:LRu)(bs:LLP)(tw:Wt)(y:Wy):Prop:=∀p∈b6 rs bs y,∀t∈nmL p,y∈look tw (t,d5 p,)
def Jq(rs:LRu)(s:Spt)(y0:Wy)(S:LI0):Prop:=∀y∈gys rs.length s.bs.length,Wch rs s.bs s.tw y->y∈s.wt\/dS (b6 rs s.bs y) s.es (if y=y0 then S else [])
def dS.more{f:LI0}(h:dS G es S)(g:∀t∈S,t∈f):dS G es f:=(h.ns,λt b a c d e=>g t (h.np t b a c d e))
variable{y0:Wy}
def Jq.pt(i:∀r∈rs,RuK n r)(k:SpJ n c S1 rs s)(h:Jq rs s y0 (t::S))(t0:0<=t)(t1:t<(n:Int))(g:opn s.es t=ab):Jq rs (s.pt t b w) y0 S:=λy j e=>by
 have f:∀p∈b6 rs s.bs y,p.Ok s.es.length:=by rw[k.es];show qU i k.bk
 rcases h y j e with q |q
 .show .inl (dO _ q)
 .by_cases hn:∀p∈b6 rs s.bs y,t∉nmP p\/d5 p≠b
  .show .inr (dS.pt (q.more ?_) f t0 (by rw[k.es];show t1) g hn)
   grind
  .have(p,a):=Classical.not_forall.mp hn;have(a,d):=Classical.not_imp.mp a;show .inl (cV _ ?_);have:=e p a t (qz.mpr (Classical.not_not.mp λz=>d (.inl z)));rw[(Classical.not_not.mp λz=>d (.inr z))]at this;show this
def Jq.puts{n c S1:Nat}{rs:LRu}{y0:Wy}{w:D}(d:∀r∈rs,RuK n r):∀{ps:List Pr} {s:Spt},SpJ n c S1 rs s->e8 s.es ps->Jq rs s y0 (ps.map (·.1))->Jq rs (puts s w ps) y0 []
 | [],_,_,_,h=>h
 |z::ps,s,k,p,h=>by
  have((a,b),e):=p.op z aB;have b:z.1<n:=by rw[<- k.es];show b
  show Jq.puts d (ps:=ps) (k.pt a b e).1 p.tail (Jq.pt d k h a b e)
def Jr(rs:LRu)(s:Spt):Prop:=∀y0,Jq rs s y0 []
def Jr.of(h:Jq rs s y0 []):Jr rs s:=λ_ y b a=>by
 rcases h y b a with q |q
 .grind
 .grind
def G0{n c S1:Nat}{rs:LRu}(d:∀r∈rs,RuK n r):∀(k:Nat) (s:Spt),SpJ n c S1 rs s->Me c s<k->Jr rs s->(lrF rs k s).1=ac->Jr rs (lrF rs k s).2
 | 0,_,_,h,_,_=>absurd h (iA _)
 |k+1,s,h,hk,hj,he=>by
  cases b:s.wt with
  |nil=>rw[qR b];show hj
  |cons y wt=>
   have(g,u,v):=h.pop b;have i:∀p∈b6 rs s.bs y,p.Ok s.es.length:=by rw[h.es];show qU d h.bk
   cases a:prs _ s.es with
   |none=>rw[qS b a]at he;cases he
   |some ps=>
    rw[qT b a]at he ⊢;have(j,w,_):=qP i a;have(m,z):=oG g j;show G0 d k _ m (by lia) (Jr.of (Jq.puts (y0:=y) d g j ?_)) he;intro x l f
    by_cases e:x=y
    .rw[if_pos e];show .inr (by rw[e];show dS.of_prs i a)
    .rw[if_neg e]
     rcases hj x x l f with q |q
     .grind
     .grind
def G1{n c S1:Nat}{rs:LRu}{wo:LB0}(d:∀r∈rs,RuK n r):∀{ts:LI0} {s:Spt},SpJ n c S1 rs s->e8 s.es (ts.map λt=>(t,ae,))->Jr rs s->Jr rs (fL rs wo s ts)
 | [],_,_,_,h=>h
 |t::ts,s,k,p,h=>by
  have((a,b),e):=p.op _ aB;have b:t<n:=by rw[<- k.es];show b
  show G1 d (ts:=ts) (k.pt a b e).1 p.tail (Jr.of (y0:=(ae,0,)) (Jq.pt d k (λy i g=>?_) a b e))
  rcases h y y i g with q |q
  .show .inl q
  .rw[if_pos rfl]at q;show .inr (q.more λu f=>nomatch f)
def ve(rs:LRu)(es:LOB):Prop:=∀wo,Grp rs es wo->∀i,wo.getD i ae=ae
def RN(hm:gh es.length ms)(pm:ms.Perm (g5 rs))(g:Grp rs es wo)(i:Nat)(hi:wo.getD i ae=ab):(b5 es ms).1.getD i ae=ab:=by
 have(l,_):=Gm hm.ne;show Ge hm.ok l.pe (by rw[g.len];unfold dz;rw[aH]) (λj a=>?_) (λj a=>by rw[getD_nil]at a;nomatch a) (λr f h=>?_) i hi
 .have c:=g.no j a
  have b:j<es.length:=by
   rw[<- g.len];show Nat.lt_of_not_le λq=>?_;rw[bM,dB q]at a
   nomatch a
  unfold dz;rw[bM,bN,cI b];rw[bM,cI b]at c;have c:es[j]≠aa ae:=c;change(!_)=ab;rw[beq_false_of_ne c];rfl
 .have(_,e,d):=qE h;rw[g.up r (pm.mem_iff.mp f) e]at d
  nomatch d
def RO(wo:LB0)(es:LOB)(m:wo.length=es.length)(i:Nat):(qQ es wo).getD i ac=if wo.getD i ae=ab then aa ae else es.getD i ac:=by
 unfold qQ
 have gen:∀(ts:LI0) e,e.length=es.length->(∀t∈ts,0<=t/\t<es.length)->(ts.foldl (λes t=>put es t.toNat ae) e).getD i ac=if (i:Int)∈ts then aa ae else e.getD i ac:=by
  intro ts
  induction ts with
  |nil=>intro e _ _;rfl
  |cons t ts l=>
   intro e g c;have(a,b):=c t aB;rw[d6,l _ (by rw[dG];show g) λu j=>c u (be _ j)]
   by_cases d:(i:Int)∈ts
   .grind
   .rw[if_neg d]
    by_cases f:i=t
    .rw[if_pos (by grind),show i=t.toNat by lia,jn e ae (by lia)]
    .rw[if_neg (λq=>by rcases aW.mp q with z |z;show f z;show d z),fJ e ae (by lia)]
 rw[gen _ es rfl λt c=>?_]
 .by_cases h:wo.getD i ae=ab
  .rw[if_pos h,if_pos ((uO wo i).mpr (by lia,by rw[dA];show h))]
  .rw[if_neg h,if_neg (λq=>h (by have:=((uO wo i).mp q).2;rwa [dA]at this))]
 .have(t0,tw):=(uO wo t).mp c
  grind
variable{dy:LB0}
def BL{p:Prt}(h:p.Ok es.length)(b:∀i,es.getD i ac=aa ab->es'.getD i ac=aa ab)(c:∀i,(es.getD i ac=aa ae\/wo.getD i ae=ab)->(es'.getD i ac=aa ae\/dy.getD i ae=ab))(s:p.lost es wo=ab):p.lost es' dy=ab:=by
 cases p with
 |inn t=>
  have s:(_ || wo.getD t.toNat ae)=ab:=s;change(_ || dy.getD t.toNat ae)=ab;rw[iZ]at s ⊢
  rcases c t.toNat (s.imp beq_iff_eq.mp id)with q |q
  .show .inl (beq_iff_eq.mpr q)
  .show .inr q
 |out t=>show beq_iff_eq.mpr (b _ (beq_iff_eq.mp s))
 |least k L=>
  have s:=of_decide_eq_true (s);show decide_eq_true (vo (mm λz hz=>((h.1 z hz).2.2,λq=>?_)) s)
  cases a:(!_ && !_)with
  |true=>rfl
  |false=>
   have:es.getD z.1.toNat ac=aa ae\/wo.getD z.1.toNat ae=ab:=by
    cases ha:(es.getD z.1.toNat ac==aa ae)with
    |true=>show .inl (beq_iff_eq.mp ha)
    |false=>
     rw[ha]at a
     cases d:wo.getD z.1.toNat ae with
     |true=>show .inr rfl
     |false=>rw[d]at a;nomatch a
   rcases c _ this with u |u
   .rw[u]at q;nomatch q
   .rw[u,Bool.and_comm]at q;nomatch q
 |most k L=>
  show decide_eq_true (vp (of_decide_eq_true (s)) ?_);rw[nH,nH];show mm λz hz=>((h.1 z hz).2.2,λq=>beq_iff_eq.mpr (b _ (beq_iff_eq.mp q)))
def RP(N:∀r∈rs,RuK n r)(hz:rs.length<=1000)(h:SpJ n c S1 rs s)(A:(bF rs s).1=ac):ve rs (bF rs s).2.es:=by
 have hm:=gh.of N hz h.ms;have(L,l,pm,v):=h.rem' hm;unfold bF at A ⊢
 cases G:inL s.es (b5 s.es s.ms).1 with
 |cons x B=>simp only[G]at A;nomatch A
 |nil=>
  have(_,_,T,_,_,_):=u9 L (qZ l.1 G v);rw[T,u8];change ve rs (qQ s.es (b5 s.es s.ms).1);have a:=RO (b5 s.es s.ms).1 s.es l.1;have m:gh s.es.length s.ms:=by rw[h.es];show hm
  have C:=λwo i=>RN (wo:=wo) m h.ms (i:=i);generalize (b5 s.es s.ms).1=wo at *
  have d:(qQ s.es wo).length=s.es.length:=by
   have:∀(ts:LI0) e,(ts.foldl (λes t=>put es t.toNat ae) e).length=e.length:=by
    intro ts
    induction ts with
    |nil=>intro e;rfl
    |cons t ts Q=>intro e;rw[d6,Q,dG]
   show this _ _
  intro y g i
  cases hi:y.getD i ae with
  |false=>rfl
  |true=>
   exfalso
   have b:∀j,(m3 (· || ·) wo y).getD j ae=(wo.getD j ae || y.getD j ae):=λj=>by
    have M:y.length=wo.length:=by rw[g.len,d,l.1]
    simp only[bM,bM,bM,List.getElem?_zipWith]
    by_cases q:j<wo.length
    .rw[cI q,cI (by lia)];rfl
    .rw[dB (by lia),dB (by lia)];rfl
   have J:Grp rs s.es (m3 (· || ·) wo y):=by
    show(by rw[length_zipWith,g.len,d,l.1,rF],λj H=>?_,λr f I=>?_)
    .rw[b]at H
     rcases(iZ _ _).mp H with q |q
     .show v j q
     .intro e;show g.no j q ?_;rw[a];split
      .rfl
      .show e
    .have w:=m.ok r (h.ms.mem_iff.mpr f);rw[b]at I
     rcases(iZ _ _).mp I with q |q
     .show pU (λp E z=>BL (w.ps p E) (λj e=>e) (λj e=>e.imp id λu=>by rw[b,u];rfl) z) (l.2 r (h.ms.mem_iff.mpr f) q)
     .show pU (λp E z=>BL (by rw[d];show w.ps p E) (λj e=>?_) (λj e=>?_) z) (g.up r f q)
      .rw[a]at e;split at e
       .nomatch e
       .show e
      .rw[b]
       rcases e with e |e
       .rw[a]at e;split at e
        .rename_i u;show .inr (by rw[u];rfl)
        .show .inl e
       .show .inr (by rw[e];show oO _)
   show g.no i hi ?_;rw[a,if_pos (C _ i J (by rw[b,hi];show oO _))]
def RQ(e:∀r∈rs,RuK n r)(hz:rs.length<=1000)(h:SpJ n c S1 rs s)(i:Jr rs s)(a:(bF rs s).1=ac):Jr rs (bF rs s).2:=by
 have(f,g,pm,b):=h.rem' (gh.of e hz h.ms);unfold bF at a ⊢
 cases d:inL s.es (b5 s.es s.ms).1 with
 |cons x B=>rw[d]at a;nomatch a
 |nil=>show G1 e f (qZ g.1 d b) i
def G2{n c S1:Nat}{rs:LRu}(g:∀r∈rs,RuK n r)(hz:rs.length<=1000):∀(k:Nat) (s:Spt),SpJ n c S1 rs s->Me c s<k->Jr rs s->(stF rs c k s).1=ac->Jr rs (stF rs c k s).2/\(stF rs c k s).2.wt=[]/\ve rs (stF rs c k s).2.es/\(stF rs c k s).2.tw=s.tw
 | 0,_,_,h,_,_=>absurd h (iA _)
 |k+1,s,h,hk,hj,he=>by
  have l:=qV g _ s h (cR _);have u:=G0 g _ s h (cR _) hj
  have lt:(lrF rs (Me c s+1) s).2.tw=s.tw:=by
   have gen:∀k s,(lrF rs k s).2.tw=s.tw:=by
    intro k
    induction k with
    |zero=>intro s;rfl
    |succ k m=>
     intro s
     cases j:s.wt with
     |nil=>rw[qR j]
     |cons y wt=>
      cases q:prs _ s.es with
      |none=>rw[qS j q]
      |some ps=>rw[qT j q,m];show(BH _ ps _).2.1
   show gen _ _
  unfold stF at he ⊢;generalize lrF rs _ s=R at l u lt he ⊢
  by_cases i:R.1.isSome=ab
  .rw[if_pos i]at he;have(y,z):=rG.mp i;rw[z]at he;cases he
  .rw[if_neg i]at he ⊢;have(A,G,H,I,B,J):=va g hz l.ok;have v:=RQ g hz l.ok (u (none_of i));have pg:=RP g hz l.ok
   have pt:(bF rs R.2).2.tw=R.2.tw:=by
    have gen:∀wo ts s,(fL rs wo s ts).tw=s.tw:=by
     intro wo ts
     induction ts with
     |nil=>intro s;rfl
     |cons t ts m=>intro s;show m _
    unfold bF;split
    .rfl
    .show gen _ _ _
   have E:=l.le;generalize bF rs R.2=P at *
   by_cases f:(P.1.isSome || P.2.wt.isEmpty)=ab
   .rw[if_pos f]at he ⊢;rw[he]at f;show(v he,isEmpty_iff.mp f,pg he,pt.trans lt)
   .rw[if_neg f]at he ⊢;have p:=none_of λe=>f (by rw[e];rfl);have x:P.2.wt≠[]:=λe=>f (by rw[e];show oO _);have C:=B p (l.no (none_of i)) x;have(a,b,w,d):=G2 g hz k P.2 A (by lia) (v p) he;show(a,b,w,d.trans (pt.trans lt))
def Ind(bs:LLP)(tw:Wt)(j:Nat):Prop:=∀p,cn tw p (ab,j,)=if p∈bs.getD j [] then 1 else 0
structure Dm(rs:LRu)(s:Spt):Prop where
 ru:∀i,i<rs.length->Wch rs s.bs s.tw (ae,i,)
 br:∀j,j<s.bs.length->Ind s.bs s.tw j\/∃j2,j<j2/\j2<s.bs.length/\∀p∈s.bs.getD j2 [],p∈s.bs.getD j []
 al:∀y∈gys rs.length s.bs.length,y∈s.wt
def RS{p q:Pr}{z:Wy}(h:z∈look tw q):z∈look (gq p y tw) q:=by
 rw[qM];split
 .show dO _ h
 .show h
def BM{b:Bool}{q:Pr}{y z:Wy}:∀(ts:LI0) {tw:Wt},z∈look tw q->z∈look (ts.foldl (λtw t=>gq (t,b,) y tw) tw) q
 | [],_,h=>h
 |t::ts,tw,h=>BM ts (RS h)
def vf{q:Pr}{y z:Wy}:∀(ps:List Prt) {tw:Wt},z∈look tw q->z∈look (gf y ps tw) q
 | [],_,h=>h
 |p::ps,tw,h=>vf ps (BM _ h)
def G3{y:Wy}:∀(ps:List Prt) {tw:Wt} {p:Prt} {t:Int},p∈ps->t∈nmL p->y∈look (gf y ps tw) (t,d5 p,)
 | [],_,_,_,h,_=>nomatch h
 |q::ps,tw,p,t,h,ht=>by
  rcases aW.mp h with e |e
  .show vf ps ?_;rw[<- e]
   have gen:∀(ts:LI0) tw,t∈ts->y∈look (ts.foldl (λtw t=>gq (t,d5 p,) y tw) tw) (t,d5 p,):=by
    intro ts
    induction ts with
    |nil=>intro tw h;nomatch h
    |cons u ts a=>
     intro tw h
     rcases aW.mp h with e |e
     .show BM ts ?_;rw[qM,if_pos (by rw[e])];show cV _ aB
     .show a _ e
   show gen _ tw ht
  .show G3 ps e ht
def G4{q:Pr}{z:Wy}:∀(rs:LRu) (i:Nat) {tw:Wt},z∈look tw q->z∈look (mT i rs tw) q
 | [],_,_,h=>h
 |r::rs,i,tw,h=>G4 rs _ (vf _ h)
def G5:∀(rs:LRu) (i j:Nat) (tw:Wt) (r:Rul),rs[j]?=aa r->∀p∈grd r,∀t∈nmL p,(ae,i+j,)∈look (mT i rs tw) (t,d5 p,)
 | [],_,_,_,_,h,_,_,_,_=>by cases h
 |r'::rs,i,0,tw,r,h,p,hp,t,ht=>by
  cases h
  show G4 rs _ (G3 _ hp ht)
 |r'::rs,i,j+1,tw,r,h,p,hp,t,ht=>by
  have:=G5 rs (i+1) j (gf (ae,i,) (grd r') tw) r h p hp t ht;rw[show i+1+j=i+(j+1) by lia]at this;show this
def RT(es:LOB)(rs:LRu):Dm rs (spT es rs):=by
 show(λi hi p c t d=>?_,λj b=>absurd b (iA _),λy f=>?_)
 .have e:b6 rs [] (ae,i,)=grd rs[i]:=by
   change((rs[i]?).map grd).getD []=_;rw[cI hi];rfl
  have c:p∈b6 rs [] _:=c;rw[e]at c;have:=G5 rs 0 i [] rs[i] (cI hi) p c t d;rw[jw]at this;show this
 .have(a,j):=y;have b:=ix.mp f
  cases a with
  |true=>show absurd b (iA _)
  |false=>show aO.mpr (j,dW.mpr b,rfl)
def G6{bs:LLP}(a:∀b∈bs,b.Nodup)(p:Pr)(i:Nat):∀(S3:List Wy) (tw:Wt),cn (S3.foldl (iY bs) tw) p (ae,i,)=cn tw p (ae,i,)
 | [],_=>rfl
 |y::S3,tw=>by
  rw[d6,G6 a p i S3,oF a,if_neg (λx=>by rw[<- x.2.2]at x;cases x.1)]
def Dm.bar{b:List Pr}(h:Dm rs s)(k:SpB n c rs s)(v:bL n b):Dm rs (s.bar b):=by
 have a:=λb q=>(k.bk b q).pd;show(λi hi p d t w=>?_,λj l=>?_,λy g=>?_)
 .have:=h.ru i hi p d t w;show vf _ (gK.mpr ?_);unfold oE;rw[G6 a];show gK.mp this
 .have l:j<(s.bs++[b]).length:=l;rw[bf,dN]at l;have r:∀p,j≠s.bs.length->cn (s.bar b).tw p _=cn _ p (ab,j,):=λp e=>mU (λz=>e (oW z).2) p _ _;change(∀p,cn (s.bar b).tw p _=if p∈(s.bs++[b]).getD j [] then 1 else 0)\/∃j2,j<j2/\j2<(s.bs++[b]).length/\∀p∈(s.bs++[b]).getD j2 [],p∈(s.bs++[b]).getD j []
  by_cases e:j=s.bs.length
  .show .inl λp=>?_;rw[mV,if_pos e,e]
   have u:cn _ p (ab,s.bs.length,)=0:=Nat.eq_zero_of_not_pos λq=>by
    have:s.bs.length<s.bs.length:=ix.mp ((k.tw.dropped a b).vl p _ (gK.mpr q));show gN _ this
   change cn (gf _ _ _) p _=_;rw[Bx,u,jw,v.pd.count]
  .have f:j<s.bs.length:=by lia
   rw[mV,if_neg e]
   by_cases m:(ab,j,)∈wider s.tw b
   .show .inr (s.bs.length,f,by rw[bf,dN];lia,λp d=>?_);rw[mV,if_pos rfl]at d;show(k.tw.wide m).2.2.1 p d
   .rcases h.br j f with q |⟨j2,q1,q2,q3⟩
    .show .inl λp=>?_;rw[r p e];unfold oE;rw[u6 a p _ _ _ m];show q p
    .show .inr (j2,q1,by rw[bf,dN];lia,λp d=>?_);rw[mV,if_neg (by lia)]at d;show q3 p d
 .have g:y∈gys rs.length (s.bs++[b]).length:=g;rw[bf,dN,qK]at g
  rcases bI.mp g with q |q
  .show dO _ (h.al y q)
  .show cV _ q
def G7{n:Nat}{rs:LRu}(hn:n<=60):∀(bars:LLP) (s:Spt) (c:Nat),(∀b∈bars,bL n b)->SpB n c rs s->Dm rs s->Dm rs (bars.foldl Spt.bar s)
 | [],_,_,_,_,h=>h
 |b::bars,s,c,hb,k,h=>G7 hn bars _ _ (λx a=>hb x (be _ a)) (k.bar (hb b aB) hn) (h.bar k (hb b aB))
structure vg(rs:LRu)(bars:LLP)(es:LOB):Prop where
 ru:∀r∈rs,dS (grd r) es []
 br:∀b∈bars,dS (brg b) es []
 gr:ve rs es
def dS.sub{g:List Prt}(h:dS G es S)(i:∀p∈G,p∈g):dS g es S:=(λq=>h.ns λp f=>q p (i p f),λt b a c d e=>h.np t b a c d λp f=>e p (i p f))
def Ind.wch{bs:LLP}(h:Ind bs tw j):Wch rs bs tw (ab,j,):=λp c t a=>by
 have(z,hz,rfl):=aO.mp c
 have e:t=z.1/\d5 (brP z)=z.2:=by
  have(u,b):=z
  cases b with
  |true=>show(cB.mp a,rfl)
  |false=>show(cB.mp a,rfl)
 rw[e.1,e.2];show gK.mpr ?_;rw[h z,if_pos hz];show Nat.one_pos
def RU(hn:n<=60)(C:es.length=n)(J:∀r∈rs,RuK n r/\(grd r).length<=q)(hz:rs.length<=250)(L:∀b∈bars,bL n b)(w:SpJ n c S1 rs (eO es rs bars))(M:(stF rs c (Me c (eO es rs bars)+1) (eO es rs bars)).1=ac):vg rs bars (stF rs c (Me c (eO es rs bars)+1) (eO es rs bars)).2.es:=by
 have l:=λr h=>(J r h).1;have x:Dm rs (eO es rs bars):=G7 hn bars _ _ L (vc hn C J) (RT es rs);have H:(eO es rs bars).bs=bars:=(q5 bars _).1;have jr:Jr rs _:=λ_ y G _=>.inl (x.al y G);have k1:=vb l (by lia) _ _ w (cR _);have(Y,j2,j3,j4):=G2 l (by lia) _ _ w (cR _) jr M;generalize eO es rs bars=s at *;generalize stF rs c _ s=R at *;have A:=k1.bs.trans H
 have I:∀y∈gys rs.length bars.length,Wch rs bars s.tw y->dS _ R.2.es []:=λy G T=>by
  rcases Y y y (by rw[A];show G) (by rw[A,j4];show T)with z |z
  .rw[j2]at z;nomatch z
  .rw[if_pos rfl,A]at z;show z
 have v:=x.ru;have d:=x.br;rw[H]at v d
 have a:∀(m j:Nat),bars.length-j=m->j<bars.length->dS (brg (bars.getD j [])) R.2.es []:=by
  intro m
  induction m using Nat.strongRecOn  with
  |ind m U=>
   intro j hm f
   rcases d j f with z |⟨j2,z1,z2,z3⟩
   .show I _ (ix.mpr f) z.wch
   .show(U _ (by lia) j2 rfl z2).sub λp N=>?_;have(u,Q,rfl):=aO.mp N;show aO.mpr (u,z3 u Q,rfl)
 show(λr E=>?_,λb B=>?_,j3)
 .have(i,hi):=j8 E;have g:=(cA.mp hi).1;have:=I _ (ix.mpr g) (v i g)
  have e:b6 rs bars (ae,i,)=grd r:=by
   change((rs[i]?).map grd).getD []=_;rw[hi];rfl
  rw[e]at this;show this
 .have(j,f):=j8 B;have:=a _ j rfl ((cA.mp f).1);rw[bM,f]at this;show this
inductive Wh where
 |gd (y:Wy)
 |gp (ks:LI0)
abbrev Wh.D:Wh->L2.D
 |.gd y=>wyD y
 |.gp ks=>.tup [.str "group",.lst (ks.map .int)]
def mkS(n:Nat)(ks:LI0):LB0:=(bw n).map (inS ks)
def G8(n:Nat)(ks:LI0):(mkS n ks).length=n:=by unfold mkS;rw[aH,cq]
variable{ks:LI0}
def G9(t0:0<=t)(t1:t<(n:Int)):(mkS n ks).getD t.toNat ae=ab↔t∈ks:=by
 delta mkS inS
 rw[bM,bN,mZ (by lia)];change(ks.any λx=>x==_)=ab↔_;rw[any_eq_true];constructor
 .rintro⟨x,a,e⟩
  rwa [show t=x by lia]
 .intro h;show(t,h,by rw[beq_iff_eq];lia)
structure GpR(n:Nat)(rs:LRu)(es:LOB)(ks:LI0):Prop where
 nn:∀x∈ks,0<=x/\x<(n:Int)
 nd:ks.Nodup
 i:∃x∈ks,es.getD x.toNat ac=aa ab
 up:∀r∈g5 rs,r.hd∈ks->r.bodyLost es (mkS n ks)=ab
abbrev Rt(n:Nat)(rs:LRu)(bs:LLP)(es:LOB):Wh->Prop
 |.gd y=>y∈gys rs.length bs.length/\oI (b6 rs bs y) es
 |.gp ks=>GpR n rs es ks
nonrec def Stp:=Pr×Wh
nonrec abbrev LSp:=List Stp
def stD(x:Stp):D:=.tup [prD x.1,x.2.D]
abbrev cU(e0:LOB):LSp->LOB
 | []=>e0
 |x::st=>put (cU e0 st) x.1.1.toNat x.1.2
abbrev Mo(rs:LRu)(bs:LLP)(es:LOB)(z:Pr):Wh->Prop
 |.gd y=>(∃p∈b6 rs bs y,p.sure es=ae)/\(y.1=ab->(z.1,!z.2,)∈bs.getD y.2 [])
 |.gp ks=>z.2=ae/\z.1∈ks/\∃wo,Grp rs es wo/\wo.getD z.1.toNat ae=ab
structure Ha(n:Nat)(rs:LRu)(bs:LLP)(es:LOB)(x:Stp):Prop where
 t0:0<=x.1.1
 t1:x.1.1<(n:Int)
 op:opn es x.1.1=ab
 rt:Rt n rs bs (put es x.1.1.toNat (!x.1.2)) x.2
 mo:Mo rs bs es x.1 x.2
abbrev Tr(n:Nat)(rs:LRu)(bs:LLP)(e0:LOB):LSp->Prop
 | []=>True
 |x::st=>Tr n rs bs e0 st/\Ha n rs bs (cU e0 st) x
structure TrS(n:Nat)(rs:LRu)(e0:LOB)(s:Spt)(st:LSp):Prop where
 sv:s.st=st.reverse.map stD
 es:s.es=cU e0 st
 tr:Tr n rs s.bs e0 st
def TrM(n:Nat)(rs:LRu)(e0:LOB)(s:Spt):Prop:=∃st,TrS n rs e0 s st
def TrM.pt{w:Wh}(h:TrM n rs e0 s)(t0:0<=t)(t1:t<(n:Int))(a:opn s.es t=ab)(k:Rt n rs s.bs (put s.es t.toNat (!b)) w)(m:Mo rs s.bs s.es (t,b,) w):TrM n rs e0 (s.pt t b w.D):=by
 have(st,h):=h;show(((t,b,),w,)::st,?_,?_,h.tr,t0,t1,h.es▸a,h.es▸k,h.es▸m)
 .change s.st++[_]=_;rw[h.sv,reverse_cons,bn];rfl
 .change put s.es _ _=_;rw[h.es];rfl
def TrM.same{s':Spt}(h:TrM n rs e0 s)(a:s'.st=s.st)(b:s'.es=s.es)(c:s'.bs=s.bs):TrM n rs e0 s':=by
 have(st,h):=h;show(st,by rw[a];show h.sv,by rw[b];show h.es,by rw[c];show h.tr)
variable{p:Prt}{z:Pr}
def Hb(h:z∈tps es p):z.2=d5 p:=by
 cases p with
 |inn t=>unfold tps at h;grind [d5]
 |out t=>unfold tps at h;grind [d5]
 |least k L=>unfold tps at h;grind [d5]
 |most k L=>unfold tps at h;grind [d5]
def adv(d:p.Ok es.length)(f:p.sure es=ae)(t0:0<=t)(t1:t<(es.length:Int))(c:opn es t=ab)(h:p.sure (put es t.toNat (!b))=ab):p.sure (put es t.toNat b)=ae:=by
 cases e:p.sure (put es t.toNat b)with
 |false=>rfl
 |true=>
  have g:(!b)=_:=Hb ((qI d f _ _).mpr ((t0,t1),c,h));have a:b=_:=Hb ((qI d f _ _).mpr ((t0,t1),c,e));rw[<- g]at a
  cases b <;> nomatch a
def RV{w:Pr}(d:0<=w.1)(t0:0<=t)(t1:t<(es.length:Int))(a:(brP w).sure es=ae)(h:(brP w).sure (put es t.toNat b)=ab):w=(t,b,):=by
 have(u,c):=w;have d:0<=u:=d
 have a:(es.getD u.toNat ac==aa c)=ae:=by cases c <;> show a
 have h:((put es t.toNat b).getD u.toNat ac==aa c)=ab:=by cases c <;> show h
 by_cases e:u=t
 .subst e;rw[jn es b (by lia)]at h;have:b=c:=by simpa using h
  rw[this]
 .rw[fJ es b (by lia),a]at h
  nomatch h
def Hc{n:Nat}{rs:LRu}{y:Wy}{e0:LOB}:∀{ps:List Pr} {s:Spt},y∈gys rs.length s.bs.length->s.es.length=n->(∀p∈b6 rs s.bs y,p.Ok s.es.length)->e8 s.es ps->(∀z∈ps,oI (b6 rs s.bs y) (put s.es z.1.toNat (!z.2)))->(∃p∈b6 rs s.bs y,p.sure s.es=ae)->(∀z∈ps,y.1=ab->(z.1,!z.2,)∈s.bs.getD y.2 [])->TrM n rs e0 s->TrM n rs e0 (puts s (wyD y) ps)
 | [],_,_,_,_,_,_,_,_,h=>h
 |z::ps,s,hy,hl,hG,k,hp,hn,hb,h=>by
  have((a,b),e):=k.op z aB;have(f,i):=bW.mp k.nd;show Hc (s:=s.pt z.1 z.2 _) hy ((dG _ _ _).trans hl) (λp q=>by change p.Ok (put s.es z.1.toNat z.2).length;rw[dG];show hG p q) k.tail (λx c p q=>?_) ?_ (λx c=>hb x (be _ c)) (h.pt (w:=.gd y) a (by lia) e (hy,hp z aB) (hn,hb z aB))
  .have((g,j),l):=k.op x (be _ c);have ne:z.1≠x.1:=λe=>f (aO.mpr (x,c,e.symm));change p.sure (put (put s.es z.1.toNat z.2) x.1.toNat _)=ab;rw[BF (by lia)];show Bt (by rw[dG];show hG p q) a (by rw[dG];show b) (BG a g ne e) _ (hp x (be _ c) p q)
  .have(p,q,d):=hn;show(p,q,adv (hG p q) d a b e (hp z aB p q))
def RW{bs:LLP}(h:y.1=ab):b6 rs bs y=brg (bs.getD y.2 []):=by
 unfold b6
 rw[h];rfl
def Hd{n c S1:Nat}{rs:LRu}{e0:LOB}(f:∀r∈rs,RuK n r):∀(k:Nat) (s:Spt),SpJ n c S1 rs s->TrM n rs e0 s->TrM n rs e0 (lrF rs k s).2
 | 0,_,_,h=>h
 |k+1,s,h,q=>by
  cases a:s.wt with
  |nil=>rw[qR a];show q
  |cons y wt=>
   have(l,_,u):=h.pop a;have e:∀p∈b6 rs s.bs y,p.Ok s.es.length:=by rw[h.es];show qU f h.bk
   cases d:prs _ s.es with
   |none=>rw[qS a d];show q.same rfl rfl rfl
   |some ps=>
    rw[qT a d];have(g,i,p,b,j):=qP e d;show Hd f k _ (oG l g).1 (Hc u h.es e g (λz hz=>((i z).mp hz).2.2) (p,b,j) (λz hz m=>?_) (q.same rfl rfl rfl));have((v,x),_,A):=(i z).mp hz;have B:=A p b;rw[RW m]at b;have(w,a,rfl):=aO.mp b;rw[<- RV ((BC h.bk y.2).nn w a).1 v x j B];show a
def RX(h:p.Ok es.length)(a:∀t∈nmP p,es.getD t.toNat ac=aa ab->es'.getD t.toNat ac=aa ab)(b:∀t∈nmP p,(es.getD t.toNat ac=aa ae\/wo.getD t.toNat ae=ab)->(es'.getD t.toNat ac=aa ae\/dy.getD t.toNat ae=ab))(s:p.lost es wo=ab):p.lost es' dy=ab:=by
 cases p with
 |inn t=>
  have s:(_ || wo.getD t.toNat ae)=ab:=s;change(_ || dy.getD t.toNat ae)=ab;rw[iZ]at s ⊢
  rcases b t aB (s.imp beq_iff_eq.mp id)with q |q
  .grind
  .grind
 |out t=>show beq_iff_eq.mpr (a _ aB (beq_iff_eq.mp s))
 |least k L=>
  show decide_eq_true (vo (mm λz hz=>((h.1 z hz).2.2,λq=>?_)) (of_decide_eq_true s))
  cases c:(!_ && !_)with
  |true=>rfl
  |false=>
   have:es.getD z.1.toNat ac=aa ae\/wo.getD z.1.toNat ae=ab:=by
    grind
   rcases b z.1 (aO.mpr (z,hz,rfl)) this with u |u
   .grind
   .grind
 |most k L=>
  show decide_eq_true (vp (of_decide_eq_true s) ?_);rw[nH,nH];show mm λz hz=>((h.1 z hz).2.2,λq=>beq_iff_eq.mpr (a _ (aO.mpr (z,hz,rfl)) (beq_iff_eq.mp q)))
def RY{r:Rul}(g:es.length=n)(l:r.Ok n)(h:Kp es wo ks r):r.bodyLost es (mkS n ks)=ab:=by
 subst g;have(p,c,m,a):=h;have b:=l.ps p c;show any_eq_true.mpr (p,c,?_);unfold kpL at a
 by_cases d:p.lost es ((bw es.length).map (inS []))=ab
 .show tM (ik.refl _) (by rw[G8,aH,cq],λi hi=>?_) b d;rw[bM,bN]at hi
  cases e:(bw es.length)[i]? with
  |none=>rw[e]at hi;nomatch hi
  |some j=>rw[e]at hi;nomatch hi
 .rw[if_neg d]at a;show RX b (λ_ _ e=>e) (λt f e=>e.imp id λw=>?_) m;have(t0,t1):=oC b t f;show(G9 t0 t1).mpr (a t (cQ.mpr (qz.mpr f,w)))
def qW.gp(h:qW es wo ms t ks)(b:es.length=n)(hm:∀r∈ms,r.Ok n)(pm:ms.Perm (g5 rs))(f:ik es es')(hi:es'.getD t.toNat ac=aa ab):GpR n rs es' ks:=by
 subst b;show(λx d=>(h.el x d).1,h.nd,(t,h.mt,hi),λr a hd=>?_);have a:=pm.mem_iff.mpr a;show pU (λp c z=>tM f (mn.refl _) ((hm r a).ps p c) z) (RY rfl (hm r a) (h.kp r a hd))
def vh(wo:LB0)(k i:Nat):(wo.set k ae).getD i ae=if i=k then ae else wo.getD i ae:=by
 rw[bM,bM,List.getElem?_set]
 grind
def Grp.cut(g:Grp rs es wo)(hok:∀r∈g5 rs,r.Ok es.length)(t0:0<=t)(t1:t<(es.length:Int))(b:opn es t=ab):Grp rs (put es t.toNat ae) (wo.set t.toNat ae):=by
 show(by rw[g7,dG];show g.len,λi hi=>?_,λr a hd=>?_)
 .rw[vh]at hi
  by_cases e:i=t.toNat
  .rw[if_pos e]at hi;nomatch hi
  .rw[if_neg e]at hi;rw[fJ es ae e];show g.no i hi
 .rw[vh]at hd;split at hd
  .nomatch hd
  .show pU (λp c z=>BL ((hok r a).ps p c) (λi h=>?_) (λi h=>?_) z) (g.up r a hd)
   .rw[fJ es ae (λe=>by rw[e,k9 b]at h;nomatch h)];show h
   .by_cases e:i=t.toNat
    .rw[e,jn es ae (by lia)];show .inl rfl
    .rw[fJ es ae e,vh,if_neg e];show h
def He{n c S1:Nat}{rs:LRu}{wo:LB0}{e0:LOB}(hn:n<=60)(hok:∀r∈g5 rs,r.Ok n):∀{ts:LI0} {s:Spt},SpJ n c S1 rs s->gh n s.ms->GpL s.ms s.es wo->(∀t∈ts,wo.getD t.toNat ae=ab)->e8 s.es (ts.map λt=>(t,ae,))->(∃dy,Grp rs s.es dy/\∀t∈ts,dy.getD t.toNat ae=ab)->TrM n rs e0 s->TrM n rs e0 (fL rs wo s ts)
 | [],_,_,_,_,_,_,_,h=>h
 |t::ts,s,h,hm,hg,hw,k,q7_,q=>by
  have(dy,i,j):=q7_;have((a,f),e):=k.op _ aB;have b:t<n:=by rw[<- h.es];show f
  have a:0<=t:=a;have(ks,m,g):=GU hn h.es hm hg a b (hw t aB);show He hn hok (s:=s.pt t ae _) (h.pt a b e).1 hm (hg.up (BJ a e) (by rw[h.es];show hm.ok)) (λu d=>hw u (be _ d)) k.tail (_,i.cut (by rw[h.es];show hok) a f e,λu d=>?_) ?_
  .have(p,_):=bW.mp k.nd;have((l,_),_):=k.op (u,ae,) (be _ (aO.mpr (u,d,rfl)));have l:0<=u:=l;have ne:u≠t:=λe=>p (aO.mpr ((u,ae,),aO.mpr (u,d,rfl),e));rw[vh,if_neg (by lia)];show j u (be _ d)
  .unfold qY;rw[m];show(q.pt (w:=.gp ks) a b e (g.gp h.es hm.ok h.ms (BJ a e) (jn s.es ab (by rw[h.es];lia))) (rfl,g.mt,dy,i,j t aB))
def RZ(C:∀r∈rs,RuK n r)(hz:rs.length<=1000)(hn:n<=60)(h:SpJ n c S1 rs s)(q:TrM n rs e0 s):TrM n rs e0 (bF rs s).2/\∀w,(bF rs s).1=aa w->∃ks,w=(Wh.gp ks).D/\GpR n rs (bF rs s).2.es ks:=by
 have hm:=gh.of C hz h.ms;have(g,i,pm,d):=h.rem' hm;have a:gh n (reM s).ms:=(λr q=>hm.ok r (pm.mem_iff.mp q),λr q=>hm.nm r (pm.mem_iff.mp q),λr q=>hm.ne r (pm.mem_iff.mp q),by rw[pm.length_eq];show hm.len);have b:GpL (reM s).ms (reM s).es (b5 s.es s.ms).1:=(i.1,λr q=>i.2 r (pm.mem_iff.mp q));have u:TrM n rs e0 (reM s):=q.same rfl rfl rfl;unfold bF
 cases m:inL s.es (b5 s.es s.ms).1 with
 |cons x B=>
  show(u,λw e=>?_);cases e;have E:x∈inL s.es (b5 s.es s.ms).1:=by rw[m];show aB
  have(p,A,rfl):=aO.mp E;have(f,j):=cQ.mp A;have (h4,h5):=(bV _ _).mp j;have z:=(cA.mp (oH f)).1;have(ks,v,y):=GU (t:=p.1) hn g.es a b (by lia) (by rw[<- h.es];lia) (by rw[dA];show h4);show(ks,?_,y.gp g.es a.ok g.ms (ik.refl _) ?_)
  .unfold qY;rw[v];rfl
  .change s.es.getD (p.1:Int).toNat ac=aa ab;rw[dA,bM,(oH f)]
   show eq_of_beq h5
 |nil=>show⟨He hn (λr q=>hm.ok r (h.ms.mem_iff.mpr q)) g a b (λt l=>(BK.mp l).2) (qZ i.1 m d) (_,i.grp h.ms d,λt l=>(BK.mp l).2) u,λw e=>nomatch e⟩
def Hg{n c S1:Nat}{rs:LRu}{e0:LOB}(a:∀r∈rs,RuK n r)(hz:rs.length<=1000)(hn:n<=60):∀(k:Nat) (s:Spt),SpJ n c S1 rs s->TrM n rs e0 s->TrM n rs e0 (stF rs c (k+1) s).2/\∀w,(stF rs c (k+1) s).1=aa w->∃d:Wh,w=d.D/\Rt n rs s.bs (stF rs c (k+1) s).2.es d
 |k,s,h,q=>by
  have lt:=Hd a (Me c s+1) s h q;have l:=qV a _ s h (cR _);dsimp only[stF];generalize lrF rs _ s=R at l lt;split
  .rename_i j;have(y,b):=rG.mp j;show(lt,λw e=>?_);rw[b]at e;cases e;show(.gd y,rfl,l.ye y b)
  .have(p,u,_):=va a hz l.ok;have(pt,v):=RZ a hz hn l.ok lt;generalize bF rs R.2=P at *;split
   .show(pt,λw e=>?_);have(ks,g,i):=v w e;show(.gp ks,g,i)
   .cases k with
    |zero=>show⟨pt,λw e=>nomatch e⟩
    |succ k=>
     have(m,f):=Hg a hz hn k P.2 p pt;show(m,λw e=>by rw[<- (u.trans l.bs)];show f w e)
def R0(hn:n<=60)(a:es.length=n)(l:∀r∈rs,RuK n r/\(grd r).length<=q)(hz:rs.length<=250)(u:∀b∈bars,bL n b)(z:bars.length<=1000)(I:64*q*rs.length+3840*bars.length+3840<=c)(H:n*(c+1)+n+rs.length+bars.length<=S1)(p:S1+c<16777216):
  ∃(st:LSp) (w:Option Wh),uM [pl0 v rs,.lst (bars.map bv),.lst (es.map shD)]=aa (.tup [lsO ((cU es st).map shD),lsO (st.reverse.map stD++mW (w.map Wh.D))])/\Tr n rs bars es st/\(∀g,w=aa g->Rt n rs bars (cU es st) g)/\(w=ac->vg rs bars (cU es st))/\st.length<16777216:=by
 have(f,e):=RM (v:=v) hn a l hz u z I H p;have j:=λr h=>(l r h).1;have y:=vd hn bars _ _ u (vc hn a l);have(i,m):=q5 bars (spT es rs);have i:(eO es rs bars).bs=bars:=i;have t0:TrM n rs es (eO es rs bars):=([],y.st,m,trivial);have((st,t1),C):=Hg j (by lia) hn (Me c _) _ f t0;have A:=vb j (by lia) (Me c _+1) _ f (cR _);have cl:=RU hn a l hz u f;have J:=A.ok.sB;have B:=A.bs;rw[i]at B C;generalize stF rs c _ _=R at *
 have L:∃w:Option Wh,R.1=w.map Wh.D/\∀g,w=aa g->Rt n rs bars R.2.es g:=by
  cases hR:R.1 with
  |none=>show⟨ac,rfl,λ_ h=>nomatch h⟩
  |some d=>
   have(g,i,m):=C d hR;show(aa g,by rw[i];rfl,λx h=>by cases h;show m)
 have(w,E,G):=L;have tr:=t1.tr;rw[B]at tr;rw[t1.es]at G cl e;rw[t1.sv,E]at e;show(st,w,e,tr,G,λh=>cl (by rw[E,h];rfl),?_);have:=congrArg List.length t1.sv;rw[aH,length_reverse]at this
 lia
def R1{a:Type}(f:a->Bool)(B:List a):kP [.lst (B.map λx=>D.bl (f x))]=aa (.bl (B.all f)):=by
 have e:(B.map λx=>D.bl (f x))=(B.map f).map D.bl:=by rw[map_map];rfl
 rw[e];change(f6 _).map _=_;rw[tK,vC,oQ];rfl
def R3(e:Option Bool)(b:Bool):dEq (shD e) (.bl b)=aa (.bl (e==aa b)):=by
 cases e with
 |none=>cases b <;> rfl
 |some c=>cases b <;> cases c <;> rfl
def R4(B:LI0)(n:Int)(a:0<=n)(h:n<=(B.length:Int)):((B.drop (HT.sIx B.length 0 ac)).take (HT.sIx B.length B.length (aa n)-HT.sIx B.length 0 ac)).length=n.toNat:=by
 obtain⟨k,rfl⟩:∃k:Nat,n=k:=(n.toNat,by lia);rw[show HT.sIx B.length 0 ac=0 from rfl,HT.sIx_nat,i4,j9,dA];lia
def q9{a:Type}(f:a->Bool)(B:List a):f7 [.lst (B.map λx=>D.bl (f x))]=aa (.bl (B.any f)):=by
 have e:(B.map λx=>D.bl (f x))=(B.map f).map D.bl:=by rw[map_map];rfl
 rw[e];change(f6 ((B.map f).map D.bl)).map (λbs=>D.bl (bs.any id))=_;rw[tK,vC,oR];rfl
def R5(p:Prt)(h:p.Ok es.length)(b:wo.length=es.length):zP [p.toD,.lst (es.map shD),.lst (wo.map D.bl)]=aa (.bl (p.lost es wo)):=by
 cases p with
 |inn t=>show ci (jJ (jK rfl (cF (pS (aG (ay rfl (ay rfl rfl rfl) (c8 h.1 h.2)) rfl (ij _ _)) (ay rfl (ay rfl rfl rfl) (jL h.1 (by rw[b];show h.2)))))))
 |out t=>show ci (eG (fY rfl rfl) (jJ (jK rfl (cF (aG (ay rfl (ay rfl rfl rfl) (c8 h.1 h.2)) rfl (ij _ _))))))
 |least k L=>
  show ci (eG (fY rfl rfl) (eG (fY rfl rfl) (jJ (jK rfl (eG (DN (bm (fH L itD (λz=>!(es.getD z.1.toNat ac==aa ae) && !(wo.getD z.1.toNat ae)) (λz=>D.int z.2) (cG (ay rfl rfl rfl) rfl) (by have:=h.2;lia) λz hz=>?_))) (cF (aG (aD rfl (nR (λt=>!(es.getD t.toNat ac==aa ae) && !(wo.getD t.toNat ae)) L)) (ay rfl rfl rfl) rfl)))))));have a:=h.1 z hz
  show dR rfl (tI (bJ (aG (ay rfl rfl (c8 a.1 a.2.1)) rfl (pT _ _))) (gE (cP (ay rfl rfl (jL a.1 (by rw[b];show a.2.1))) rfl))) λ_=>rfl
 |most k L=>
  show ci (eG (fY rfl rfl) (eG (fY rfl rfl) (eG (fY rfl rfl) (cF (aG (aD (ao (bm (fH L itD (λz=>es.getD z.1.toNat ac==aa ab) (λz=>D.int z.2) (cG (ay rfl rfl rfl) rfl) (by have:=h.2;lia) λz hz=>?_)) rfl) (nR (λt=>es.getD t.toNat ac==aa ab) L)) (ay rfl rfl rfl) rfl)))));have a:=h.1 z hz;show dR rfl (bJ (aG (ay rfl rfl (c8 a.1 a.2.1)) rfl (ij _ _))) λ_=>rfl
def Hh(r:Rul)(h:r.Ok es.length)(d:wo.length=es.length):uA [r.toD,.lst (es.map shD),.lst (wo.map D.bl)]=aa (.bl (hup es wo r)):=by
 apply eY;unfold uz;change wp _ [.im r.toD,.im (.lst (es.map shD)),.im (.lst (wo.map D.bl))] _
 by_cases hn:r.w=.never
 .apply am;show aM (b:=ab) (tG (bJ (aG (ay rfl rfl rfl) rfl (by rw[xi,hn];rfl)))) (λ_=>c9 rfl (cH ?_)) (λz=>by cases z);unfold hup;rw[hn];rfl
 .have(a,e):=h.hd hn
  have e0:(r.w.s == "never")=ae:=by
   have(w,hd,ps):=r
   cases w <;> first |rfl |show absurd rfl hn
  apply am;show aM (b:=!(wo.getD r.hd.toNat ae)) (eI (bJ (aG (ay rfl rfl rfl) rfl (by rw[xi,e0]))) (gE (cP (ay rfl (ay rfl rfl (Gb hn)) (jL a (by lia))) rfl))) (λz=>c9 rfl (cH ?_)) (λz=>bc ?_)
  .have z:wo.getD r.hd.toNat ae=ae:=by simpa using z
   unfold hup;rw[z,Bool.false_and,oM]
  .have z:wo.getD r.hd.toNat ae=ab:=by simpa using z
   walk_at "nrm";show c9 (kO (aD (ao (bm (dq r.ps Prt.toD (λp=>D.bl (p.lost es wo)) (cG (ay rfl rfl rfl) rfl) (by have:=h.len;lia) λp c=>cZ rfl rfl (aD rfl (R5 p (h.ps p c) d)))) rfl) (any_map _ _))) (cH ?_);unfold hup;rw[z,qC hn,oN,oN];rfl
def R6(p:Prt)(h:p.Ok es.length):ux [p.toD,.lst (es.map shD)]=aa (.bl (p.sure es)):=by
 cases p with
 |inn t=>show ci (jJ (jK rfl (cF (aG (ay rfl (ay rfl rfl rfl) (c8 h.1 h.2)) rfl (ij _ _)))))
 |out t=>show ci (eG (fY rfl rfl) (jJ (jK rfl (cF (aG (ay rfl (ay rfl rfl rfl) (c8 h.1 h.2)) rfl (ij _ _))))))
 |least k L=>
  show ci (eG (fY rfl rfl) (eG (fY rfl rfl) (jJ (jK rfl (cF (aG (aD (ao (bm (fH L itD (λz=>es.getD z.1.toNat ac==aa ab) (λz=>D.int z.2) (cG (ay rfl rfl rfl) rfl) (by have:=h.2;lia) λz hz=>?_)) rfl) (nR (λt=>es.getD t.toNat ac==aa ab) L)) (ay rfl rfl rfl) rfl))))));have a:=h.1 z hz
  show dR rfl (bJ (aG (ay rfl rfl (c8 a.1 a.2.1)) rfl (ij _ _))) λ_=>rfl
 |most k L=>
  show ci (eG (fY rfl rfl) (eG (fY rfl rfl) (eG (fY rfl rfl) (cF (aG (aD (ao (bm (fH L itD (λz=>!(es.getD z.1.toNat ac==aa ae)) (λz=>D.int z.2) (cG (ay rfl rfl rfl) rfl) (by have:=h.2;lia) λz hz=>?_)) rfl) (nR (λt=>!(es.getD t.toNat ac==aa ae)) L)) (ay rfl rfl rfl) rfl)))));have a:=h.1 z hz;show dR rfl (bJ (aG (ay rfl rfl (c8 a.1 a.2.1)) rfl (pT _ _))) λ_=>rfl
def vi(r:Rul)(h:r.Ok es.length):ox [r.toD,.lst (es.map shD)]=aa (.bl (r.surely es)):=by
 have a:∀U:LS,U=[.im r.toD,.im (.lst (es.map shD))]->(ar kP (ag (aE (aV 1 [1] (aL (mIx (ai 0) (kI 2))) (av 0) kY (ar ux (ag (af 0) (ag (af 1) nZ))))) nZ)) U=aa (.bl (r.bodySure es)):=λU e=>by
  subst e;show aD (ao (bm (dq r.ps Prt.toD (λp=>D.bl (p.sure es)) (cG (ay rfl rfl rfl) rfl) (by have:=h.len;lia) λp g=>cZ rfl rfl (aD rfl (R6 p (h.ps p g))))) rfl) (all_map _ _)
 have f:=h.hd;have a:=a _ rfl;have(w,hd,ps):=r
 cases w with
 |may=>show ci (jJ (jK (tG rfl) rfl))
 |never=>show ci (eG (fY (eI rfl (tE rfl)) rfl) (cF a))
 |make=>
  have(c,d):=f (λz=>by cases z)
  have e:mB (m2 dQ (mIx (ai 1) (mIx (ai 0) (kI 1))) (kBl ae)) [.im (Rul.toD (.make,hd,ps)),.im (.lst (es.map shD))]=aa (!(es.getD hd.toNat ac==aa ae)):=
   bJ (aG (ay rfl (ay rfl rfl rfl) (c8 c d)) rfl (pT _ _))
  cases b:(es.getD hd.toNat ac==aa ae)with
  |true=>
   rw[b]at e;show(ci (eG (fY (eI rfl (tB rfl e)) rfl) (cF a))).trans ?_;change _=aa (D.bl ((es.getD hd.toNat ac==aa ae) && _));rw[b]
   rfl
  |false=>
   rw[b]at e;show(ci (jJ (jK (eI rfl (tB rfl e)) rfl))).trans ?_;change _=aa (D.bl ((es.getD hd.toNat ac==aa ae) && _));rw[b];rfl
def Hi(b:Bool)(t0:0<=t)(t1:t<(es.length:Int))(c:es.length<=60):qj [.lst (es.map shD),.int t,.bl b]=aa (.lst ((put es t.toNat b).map shD)):=by
 obtain⟨k,rfl⟩:∃k:Nat,t=(k:Int):=(t.toNat,by lia);have a:k<es.length:=by lia
 have e:put es (k:Int).toNat b=es.take k++[aa b]++es.drop (k+1):=by
  unfold put;rw[dA,set_eq_take_append_cons_drop,if_pos a,cX];rfl
 rw[e,bn,bn];show mf ?_;show congrArg (Option.map Fl.rtO) (uN (bm (uN (bm ?_) (bm (ao rfl rfl)) ?_)) (bm ?_) ?_)
 .have:=mr (f:=af 0) (l:=λ_=>aa ac) (h:=mPt (af 1)) (U:=[.im (.lst (es.map shD)),.im (.int k),.im (.bl b)]) (g:=shD) (B:=es) (lo:=ac) (hi:=aa (k:Int)) rfl rfl rfl;rw[show HT.sIx es.length 0 ac=0 from rfl,HT.sIx_nat,drop_zero,Nat.sub_zero,Nat.min_eq_left (eS a)]at this;show this
 .rw[aH,i4];change _+1<=_;lia
 .have:=mr (f:=af 0) (l:=mPt (m2 cy (af 1) (kI 1))) (h:=λ_=>aa ac) (U:=[.im (.lst (es.map shD)),.im (.int k),.im (.bl b)]) (g:=shD) (B:=es) (lo:=aa ((k+1:Nat):Int)) (hi:=ac) rfl rfl rfl;rw[show HT.sIx es.length es.length ac=es.length from rfl,HT.sIx_nat,Nat.min_eq_left a,take_of_length_le (by rw[j9];lia)]at this;show this
 .rw[bf,aH,aH,i4,j9];change(_+1)+_<=_;lia
def R7{a:List Pr}(h:bL es.length a)(hz:es.length<=60):z5 [.lst (es.map shD),bv a]=aa (.bl (a.all λz=>es.getD z.1.toNat ac==aa z.2)):=
 ci (cF (aD (ao (bm (dq a prD (λz=>D.bl (es.getD z.1.toNat ac==aa z.2)) rfl (by have:=h.len;lia) λz hz=>cZ rfl rfl (aG (ay rfl rfl (c8 (h.nn z hz).1 (h.nn z hz).2)) rfl (R3 _ _)))) rfl) (R1 _ _)))
def vj(r:Rul)(es:LOB):r.surely es=ab↔oI (grd r) es:=by
 have(w,hd,ps):=r
 cases w with
 |may=>
  show((λh=>nomatch h),λh=>?_);have:=h (.least 1 []) aB
  show absurd (show(1:Int)<=0 from of_decide_eq_true this) (by decide)
 |make=>
  change((es.getD hd.toNat ac==aa ae) && ps.all λp=>p.sure es)=ab↔∀p∈ps++[.out hd],p.sure es=ab;rw[bV,all_eq_true];constructor
  .rintro⟨b,c⟩ p a
   rcases bI.mp a with q |q
   .show c p q
   .rw[cB.mp q];show b
  .intro h
   show(h (.out hd) (cV _ aB),λp a=>h p (dO _ a))
 |never=>change(ps.all λp=>p.sure es)=ab↔∀p∈ps,p.sure es=ab;show all_eq_true
def BN(b:List Pr)(es:LOB):(b.all λz=>es.getD z.1.toNat ac==aa z.2)=ab↔oI (brg b) es:=by
 have e:∀z:Pr,(brP z).sure es=(es.getD z.1.toNat ac==aa z.2):=λz=>by
  have(t,c):=z
  cases c <;> rfl
 rw[all_eq_true];constructor
 .intro h p a;have(z,hz,rfl):=aO.mp a;rw[e];show h z hz
 .intro h z hz;rw[<- e];show h _ (aO.mpr (z,hz,rfl))
def R8(h:(dz es).getD i ae=ab):es.getD i ac≠aa ae:=by
 unfold dz at h;intro e
 grind
def Hj(rs:LRu)(es:LOB)(Q:es.length<=60)(hok:∀r∈rs,r.Ok es.length):∃wo:LB0,m_9 [.lst (rs.map Rul.toD),.lst (es.map shD)]=aa (.lst (wo.map D.bl))/\Grp rs es wo/\∀dy,Grp rs es dy->∀i,dy.getD i ae=ab->wo.getD i ae=ab:=by
 have n:(dz es).length=es.length:=by unfold dz;rw[aH]
 have:∃d,m_9 [.lst (rs.map Rul.toD),.lst (es.map shD)]=aa d/\∃wo:LB0,d=.lst (wo.map D.bl)/\iu rs es (dz es) wo/\∀r∈rs,hup es wo r=ae:=by
  apply kS;apply am;show iU (Gg rfl (by lia)) ?_;walk_at "nrm";apply am;show bH (d:=.bl ab) rfl ?_;walk_at "nrm";apply am;show nW (λm U=>∃(wo:LB0) (ch:Bool) (f:Sl),U=[.im (.lst (rs.map Rul.toD)),.im (.lst (es.map shD)),.own (wo.map D.bl),.im (.bl ch),f]/\iu rs es (dz es) wo/\ct wo+(if ch then 1 else 0)=m/\(ch=ae->∀r∈rs,hup es wo r=ae)) ?_ _ (ct (dz es)+1) _ ⟨dz es,ab,.no,rfl,.refl,rfl,λh=>nomatch h⟩ (by have:=Gf (dz es);lia);rintro m U ⟨wo,ch,f,rfl,u,hm,C⟩;show(ch,rfl,?_,?_)
  .rintro rfl;apply am;show bH (d:=.bl ae) rfl ?_;walk_at "nrm";show da rs Rul.toD (λpre U=>∃(dy:LB0) (ch:Bool) (f:Sl),U=[.im (.lst (rs.map Rul.toD)),.im (.lst (es.map shD)),.own (dy.map D.bl),.im (.bl ch),f]/\iu rs es (dz es) dy/\ct dy+(if ch then 1 else 0)<=ct wo/\(ch=ae->∀r∈pre,hup es dy r=ae)) rfl ⟨wo,ae,f,rfl,u,aP _,λ_ r w=>nomatch w⟩ ?_ ?_
   .rintro pre r post U ex ⟨dy,ch,f,rfl,c,A,l⟩;have p:r∈rs:=by rw[ex];simp
    have E:dy.length=es.length:=c.len.trans n;have H:=Hh (wo:=dy) r (hok r p) E;show(_,rfl,?_);walk_at "nrm";show aM (cP (Ez (ao rfl (ao rfl (ao rfl rfl))) H rfl) rfl) (λz=>?_) (λz=>?_)
    .have(a,b,_):=qE z;have(I,v):=(hok r p).hd a;have J:=Bo dy r.hd.toNat b;apply am;show xG (k:=r.hd) (B:=dy.map D.bl) rfl (ay rfl rfl (Gb a)) rfl I (by rw[aH];lia) ?_;walk_at "nrm";show bH rfl ?_;show⟨dy.set r.hd.toNat ae,ab,.im r.toD,by rw[i5];rfl,.step c p z,?_,λh=>nomatch h⟩;rw[if_pos rfl];have:ct dy<=ct wo:=cJ (vB _ _) A;lia
    .show bc (dy,ch,.im r.toD,rfl,c,A,λh q M=>?_)
     rcases bI.mp M with k |k
     .show l h q k
     .rw[cB.mp k];show z
   .rintro U ⟨dy,ch,f,rfl,c,A,l⟩;rw[if_pos rfl]at hm;show(_,by lia,dy,ch,f,rfl,c,rfl,l)
  .rintro rfl;show nY rfl (ga (wo,rfl,u,C rfl))
 have(d,e,wo,rfl,u,C):=this;show(wo,e,(u.len.trans n,λi hi=>R8 (u.sub i hi),λr w hd=>?_),λdy g i hi=>?_)
 .have(v,y):=cQ.mp w;have:=C r v;unfold hup at this;rw[y,hd]at this
  simpa using this
 .show Ge hok u (by rw[g.len,n]) (λj x=>?_) (λj x=>by rw[getD_nil]at x;nomatch x) (λr w N=>?_) i hi
  .have v:=g.no j x
   have L:j<es.length:=by
    rw[<- g.len]
    grind
   unfold dz
   grind
  .have(v,y,G):=qE N;rw[g.up r (cQ.mpr (w,qC v)) y]at G
   nomatch G
def R9(rs:LRu)(hz:rs.length<=1000)(i:∀r∈rs,r.ps.length<=1000):zE [.lst (rs.map Rul.toD)]=aa (rs.map Rul.toD):=by
 suffices h:wp uu (eE 7 [.lst (rs.map Rul.toD)]) (λr=>r=.rtO (rs.map Rul.toD)) by
  have(r,e,rfl):=h;show uc e
 walk_at "set";apply am;show da rs Rul.toD (λpre U=>∃c d f g a,U=[.im _,.own (pre.map Rul.toD),c,d,f,g,a]) rfl (_,_,_,_,_,rfl) ?_ ?_
 .rintro pre r post U ex ⟨c,d,f,g,a,rfl⟩;have m:r∈rs:=by rw[ex];simp
  have j:pre.length<rs.length:=by rw[ex];simp
  have i:=i r m;show(_,rfl,?_);walk_at "nrm";apply am;show iU rfl ?_;walk_at "nrm";apply am;show da r.ps Prt.toD (λpr U=>∃a,U=[.im _,.own _,.im _,.im r.hdD,.im _,.own (pr.map Prt.toD),a]) rfl (_,rfl) ?_ ?_
  .rintro pr p po U b ⟨a,rfl⟩;have l:pr.length<r.ps.length:=by rw[b];simp
   show(_,rfl,?_);walk_at "nrm";show MD (λρ'=>ρ'=[.im (.lst (rs.map Rul.toD)),.own (pre.map Rul.toD),.im (.str r.w.s),.im r.hdD,.im (.lst (r.ps.map Prt.toD)),.own (pr.map Prt.toD),.im p.toD]) ?_ ?_
   .cases p with
    |inn t=>show aM rfl (λz=>by nomatch z) (λ_=>bc (k_J rfl))
    |out t=>show aM rfl (λz=>by nomatch z) (λ_=>bc (k_J rfl))
    |least k L=>show aM rfl (λ_=>bH (eJ (ao (ay rfl rfl rfl) (ao (ay rfl rfl rfl) (ao (bm (cG (ay rfl rfl rfl) rfl)) rfl)))) (k_J rfl)) (λz=>by nomatch z)
    |most k L=>show aM rfl (λ_=>bH (eJ (ao (ay rfl rfl rfl) (ao (ay rfl rfl rfl) (ao (bm (cG (ay rfl rfl rfl) rfl)) rfl)))) (k_J rfl)) (λz=>by nomatch z)
   .rintro ρ' rfl;show jO rfl rfl (by rw[aH];lia) (.im p.toD,by rw[bn];rfl)
  .rintro U ⟨a,rfl⟩;show jO (eJ (ao rfl (ao rfl (ao rfl rfl)))) rfl (by rw[aH];lia) (.im _,.im r.hdD,.im _,.im _,a,by rw[bn];rfl)
 .rintro U ⟨c,d,f,g,a,rfl⟩;show nY rfl rfl
def BO{k:Int}(h:0<=k):qk [.int k]=aa (.bl ab):=by
 show ci (cF ((ig (a:=ab) rfl (ig (a:=ab) rfl (aG rfl rfl t9))).trans ?_));rw[decide_eq_true h];rfl
def Sa(x:Int)(l:LI0):eX (.int x) (.lst (l.map D.int))=aa (.bl (decide (x∈l))):=by
 have e:∀l:LI0,d3 (.int x) (l.map D.int)=aa (decide (x∈l)):=by
  intro l
  induction l with
  |nil=>rfl
  |cons z l a=>
   change((deq 19 (.int z) (.int x)).bind λb=>(d3 _ _).map λr=>b || r)=_;rw[a,show deq 19 (.int z) (.int x)=aa (z==x)from rfl]
   grind
 change((d3 _ _).map D.bl)=_;rw[e];rfl
def Sb(a:0<=z.1)(c:z.1<(n:Int)):zX [prD z,.int n]=aa (.bl ab):=by
 apply eY;apply am;show aM (b:=ae) rfl (λz=>nomatch z) (λ_=>bc ?_);show c9 (ig (aD (ao (ay rfl rfl rfl) rfl) (BO a)) (ig (aG (ay rfl rfl rfl) rfl t7) (b:=ab) rfl)) (cH ?_);rw[decide_eq_true c];rfl
def Sc(nd:ks.Nodup):(b4 ks).length=ks.length:=by
 have:(b4 ks).Perm ks:=by
  show(perm_ext_iff_of_nodup ((jN _).imp λh=>by lia) nd).mpr λx=>iq _ _
 show this.length_eq
variable{w:Wh}
def Hk{bs:LLP}(hn:n<=60)(h:Rt n rs bs es w):zZ [w.D,.int n]=aa (.bl ab):=by
 apply eY
 cases w with
 |gd y=>
  have(a,j):=y;apply am
  show aM (b:=ae) (by cases a <;> rfl) (λz=>nomatch z) (λ_=>bc ?_)
  apply am
  show aM (b:=ab) (by cases a <;> rfl) (λ_=>?_) (λz=>nomatch z)
  show c9 (aD (ao (ay rfl rfl rfl) rfl) (BO (k:=j) (by lia))) (cH rfl)
 |gp ks=>
  have h:GpR n rs es ks:=h;have d:=u5 h.nd h.nn;apply am;show aM (b:=ae) rfl (λz=>nomatch z) (λ_=>bc ?_);apply am;show aM (b:=ae) rfl (λz=>nomatch z) (λ_=>bc ?_);apply am;show aM (b:=ae) rfl (λz=>nomatch z) (λ_=>bc ?_);apply am;show aM (b:=ae) (cP (aD (ao (bm (dq ks D.int (λ_=>D.bl ae) (cG (ay rfl rfl rfl) rfl) (by lia) λx c=>cZ rfl rfl ((pS (kO (aD rfl (BO (h.nn x c).1))) (aG rfl rfl t9)).trans ?_))) rfl) (q9 (λ_=>ae) ks)) ?_) (λz=>nomatch z) (λ_=>bc ?_)
  .rw[decide_eq_false (by have:=(h.nn x c).2;lia)];rfl
  .rw[show(ks.any λ_=>ae)=ae by simp];rfl
  .show c9 (aG (MP (ns:=ks) (ay rfl rfl rfl) (by lia)) (aD (ao (ay rfl rfl rfl) rfl) (eZ ks D.int)) (kM _ _)) (cH ?_);rw[Sc h.nd,beq_self_eq_true]
def Sd(hn:n<=1000)(hi:fi U=aa ((bw n).map λ(i:Nat)=>D.int i))(a:∀i:Nat,fe ((gC k js U).set 0 (.im (.int i)))=aa (.bl (inS ks i))):aV k js fi (av 0) kY fe U=aa ((mkS n ks).map D.bl):=by
 unfold mkS;rw[map_map];show dq (bw n) (λ(i:Nat)=>D.int i) (λi=>D.bl (inS ks i)) hi (by rw[cq];lia) λi _=>cZ rfl rfl (a i)
def Hl{bs:LLP}(E:es.length=n)(hok:∀r∈rs,r.Ok n)(hz:rs.length<=1000)(A:∀b∈bs,bL n b)(u:n<=60)(h:Rt n rs bs es w):m_5 [.lst (rs.map Rul.toD),.lst [],.lst (bs.map bv),.lst (es.map shD),w.D]=aa (.bl ab):=by
 subst E;apply eY;change wp _ [.im (.lst (rs.map Rul.toD)),.im (.lst []),.im (.lst (bs.map bv)),.im (.lst (es.map shD)),.im w.D,.no,.no,.no] _
 cases w with
 |gd y=>
  have(a,j):=y;have(q,g):=h;have l:=ix.mp q
  cases a with
  |false=>
   have l:j<rs.length:=l;apply am;show n4 rfl rfl ?_;walk_at "nrm";apply am;have(r,d,p):=cz (f:=Rul.toD) (B:=rs) (i:=(j:Int)) (by lia) (by lia);rw[dA]at d
   have e:b6 rs bs (ae,j,)=grd r:=by
    change((rs[j]?).map grd).getD []=_;rw[d];rfl
   rw[e]at g;show aM (b:=ab) rfl (λ_=>c9 (ig (aG rfl (aD rfl (eZ rs Rul.toD)) t7) (aD (ao (ay rfl rfl p) (ao rfl rfl)) (vi r (hok r (cW d))))) (cH ?_)) (λz=>nomatch z);rw[decide_eq_true (by lia),(vj r es).mpr g]
   rfl
  |true=>
   have l:j<bs.length:=l;apply am;show n4 rfl rfl ?_;walk_at "nrm";apply am;show aM (b:=ae) rfl (λz=>nomatch z) (λ_=>bc ?_);apply am;have(b,d,p):=cz (f:=bv) (B:=bs) (i:=(j:Int)) (by lia) (by lia);rw[dA]at d
   have e:b6 rs bs (ab,j,)=brg b:=by
    change brg (bs.getD j [])=_;rw[bM,d];rfl
   rw[e]at g;show aM (b:=ab) rfl (λ_=>c9 (ig (aG rfl (aD rfl (eZ bs bv)) t7) (aD (ao rfl (ao (ay rfl rfl p) rfl)) (R7 (A b (cW d)) u))) (cH ?_)) (λz=>nomatch z);rw[decide_eq_true (by lia),(BN b es).mpr g]
   rfl
 |gp ks=>
  have h:GpR es.length rs es ks:=h;have C:=u5 h.nd h.nn;apply am;show n4 rfl rfl ?_;walk_at "nrm";apply am;show aM (b:=ae) rfl (λz=>nomatch z) (λ_=>bc ?_);apply am;show aM (b:=ae) rfl (λz=>nomatch z) (λ_=>bc ?_);apply am;show aM (b:=ae) (tE rfl) (λz=>nomatch z) (λ_=>bc ?_);apply am;show aM (b:=ae) rfl (λz=>nomatch z) (λ_=>bc ?_);apply am
  have hi:(ks.any λx=>es.getD x.toNat ac==aa ab)=ab:=by
   have(x,m,e):=h.i;show any_eq_true.mpr (x,m,by rw[e];rfl)
  show aM (gE (cP (aD (ao (bm (dq ks D.int (λx=>D.bl (es.getD x.toNat ac==aa ab)) rfl (by lia) λx m=>cZ rfl rfl (aG (ay rfl rfl (c8 (h.nn x m).1 (h.nn x m).2)) rfl (ij _ _)))) rfl) (q9 _ _)) rfl)) (λz=>?_) (λz=>bc ?_)
  .rw[hi]at z
   nomatch z
  .apply am;show bH (bm (Sd (ks:=ks) (n:=es.length) (by lia) (mi (n:=(es.length:Int)) (ao (aD rfl (eZ es shD)) rfl) (by lia) (by lia)) λi=>aG rfl rfl (Qg ks i))) ?_;walk_at "nrm";show c9 (kO (aD (ao (bm (dq rs Rul.toD (λr=>D.bl (hup es (mkS es.length ks) r)) rfl (by lia) λr d=>cZ rfl rfl (aD rfl (Hh r (hok r d) (G8 _ _))))) rfl) (q9 _ _))) (cH ?_)
   have:(rs.any λr=>hup es (mkS es.length ks) r)=ae:=by
    rw[any_eq_false];intro r d G;have(a,b,c):=qE G;have(v,q):=(hok r d).hd a;rw[h.up r (cQ.mpr (d,qC a)) ((G9 v q).mp b)]at c
    nomatch c
   rw[this];rfl
def Se{bs:LLP}(d:es.length=n)(hok:∀r∈rs,r.Ok n)(hz:rs.length<=1000)(e:∀b∈bs,bL n b)(a:n<=60)(h:Rt n rs bs es w):uB [.lst (rs.map Rul.toD),.lst (bs.map bv),.lst (es.map shD),.tup [.non,w.D]]=aa (.bl ab):=by
 have c:=Hk a h;rw[<- d]at c;apply eY;apply am;show aM (b:=ae) (eI rfl (eI rfl (gE (b:=ab) (cP (aD (ao (ay rfl rfl rfl) (ao (aD rfl (eZ es shD)) rfl)) c) rfl)))) (λz=>nomatch z) (λ_=>bc ?_);apply am;show n4 rfl rfl ?_;walk_at "nrm";apply am;show aM (b:=ab) rfl (λ_=>c9 (aD rfl (Hl d hok hz e a h)) (cH rfl)) (λz=>nomatch z)
def Sf{bs:LLP}{x:Stp}(d:es.length=n)(hok:∀r∈rs,r.Ok n)(hz:rs.length<=1000)(N:∀b∈bs,bL n b)(m:n<=60)(h:Ha n rs bs es x):uB [.lst (rs.map Rul.toD),.lst (bs.map bv),.lst (es.map shD),stD x]=aa (.bl ab):=by
 have((t,c),w):=x;have t0:0<=t:=h.t0;have t1:t<(n:Int):=h.t1;have E:=Hk m h.rt;have G:=Sb (z:=(t,c,)) t0 t1;have J:qj [.lst (es.map shD),.int t,.bl !c]=aa _:=Hi (es:=es) (!c) t0 (by rw[d];show t1) (by lia);have L:m_5 [_,_,_,.lst ((put es t.toNat !c).map shD),_]=aa _:=Hl ((dG _ _ _).trans d) hok hz N m h.rt;rw[<- d]at E G;have C:=k9 h.op;have mo:=h.mo;apply eY;change wp _ [.im (.lst (rs.map Rul.toD)),.im (.lst (bs.map bv)),.im (.lst (es.map shD)),.im (.tup [prD (t,c,),w.D]),.no,.no,.no,.no] _;apply am;show aM (b:=ae) (eI rfl (eI rfl (gE (b:=ab) (cP (aD (ao (ay rfl rfl rfl) (ao (aD rfl (eZ es shD)) rfl)) E) rfl)))) (λz=>nomatch z) (λ_=>bc ?_);apply am;show n4 rfl rfl ?_;walk_at "nrm";apply am;show aM (b:=ae) rfl (λz=>nomatch z) (λ_=>bc ?_);apply am;show aM (b:=ae) (eI (gE (b:=ab) (cP (aD (ao rfl (ao (aD rfl (eZ es shD)) rfl)) G) rfl)) (bJ (aG (ay rfl (ay rfl rfl rfl) (c8 t0 (by rw[d];show t1))) rfl (by have C:es.getD t.toNat ac=ac:=C;rw[C];rfl)))) (λz=>nomatch z) (λ_=>bc ?_);apply am;show n4 rfl rfl ?_;walk_at "nrm";apply am;show aM (b:=ae) (gE (b:=ab) (cP (aD (ao rfl (ao rfl (ao rfl (ao (aD (ao rfl (ao rfl (ao (kO rfl) rfl))) J) (ao rfl rfl))))) L) rfl)) (λz=>nomatch z) (λ_=>bc ?_)
 cases w with
 |gd y=>
  have(a,j):=y;have((p,H,I),m2):=mo;have q:=ix.mp h.rt.1
  cases a with
  |false=>
   have q:j<rs.length:=q;have(r,l,u):=cz (f:=Rul.toD) (B:=rs) (i:=(j:Int)) (by lia) (by lia);rw[dA]at l
   have e:b6 rs bs (ae,j,)=grd r:=by
    change((rs[j]?).map grd).getD []=_;rw[l];rfl
   rw[e]at H;apply am;show aM (b:=ab) rfl (λ_=>c9 (kO (aD (ao (ay rfl (ay rfl rfl rfl) u) (ao rfl rfl)) (vi r (by rw[d];show hok r (cW l))))) (cH ?_)) (λz=>nomatch z)
   cases Q:r.surely es with
   |false=>rfl
   |true=>rw[(vj r es).mp Q p H]at I;nomatch I
  |true=>
   have q:j<bs.length:=q;have(b,l,u):=cz (f:=bv) (B:=bs) (i:=(j:Int)) (by lia) (by lia);rw[dA]at l;have m2:(t,!c,)∈bs.getD j []:=m2 rfl;rw[bM,l]at m2;have m2:(t,!c,)∈b:=m2;apply am;show aM (b:=ae) rfl (λz=>nomatch z) (λ_=>bc ?_);apply am;show aM (b:=ab) rfl (λ_=>c9 (aG (eJ (ao rfl (ao (kO rfl) rfl))) (ay rfl (ay rfl rfl rfl) u) (Gs (t,!c,) b)) (cH ?_)) (λz=>nomatch z)
   rw[decide_eq_true m2]
 |gp ks=>
  have(rfl,A,wo,g,v):=mo;have A:t∈ks:=A;have v:wo.getD t.toNat ae=ab:=v;have(wl,el,gl,M):=Hj rs es (by lia) (by rw[d];show hok);apply am;show aM (b:=ae) rfl (λz=>nomatch z) (λ_=>bc ?_);apply am;show aM (b:=ae) rfl (λz=>nomatch z) (λ_=>bc ?_);show c9 (ig (a:=ab) rfl (ig (aG rfl (ay rfl rfl rfl) (Sa t ks)) (ay (cG (aD rfl el) rfl) rfl (jL t0 (by rw[gl.len,d];show t1))))) (cH ?_);rw[decide_eq_true A,M wo g _ v];rfl
def Hm(e:Option Bool):dIs (shD e) .non=aa (.bl (e==ac)):=by cases e <;> rfl
def Sg{r:Rul}(hok:r.Ok es.length)(e:es.length<=60)(h:dS (grd r) es []):zS [r.toD,.lst (es.map shD)]=aa (.bl ae):=by
 apply eY;apply am;show da (bw es.length) (λ(i:Nat)=>D.tup [.int i,shD (es.getD i ac)]) (λ_ U=>∃f g a,U=[.im r.toD,.im (.lst (es.map shD)),f,g,a]) (MA ac rfl) (_,_,_,rfl) ?_ ?_
 .rintro pre i post U ex ⟨f,g,a,rfl⟩;have hi:i<es.length:=dW.mp (by rw[ex];simp);show(_,rfl,?_);walk_at "nrm";show aM (bJ (aG rfl rfl (Hm _))) (λz=>?_) (λ_=>bc (_,_,_,rfl));show da [ab,ae] D.bl (λ_ U=>∃a,U=[.im r.toD,.im (.lst (es.map shD)),.im (.int i),.im (shD (es.getD i ac)),a]) rfl (_,rfl) ?_ ?_
  .rintro pr c po U _ ⟨a,rfl⟩;show(_,rfl,?_);walk_at "nrm";show aM (b:=ae) (cP (aD (ao rfl (ao (aD (ao rfl (ao rfl (ao rfl rfl))) (Hi (t:=i) c (by lia) (by lia) e)) rfl)) (vi r (by rw[dG];show hok))) ?_) (λz=>nomatch z) (λ_=>bc (_,rfl))
   cases d:r.surely (put es (i:Int).toNat c)with
   |false=>rfl
   |true=>
    have d:=(vj r _).mp d;rw[<- rj c]at d;show nomatch h.np i (!c) (by lia) (by lia) (by unfold opn;rw[dA];show z) d
  .rintro U ⟨a,rfl⟩;show(_,_,_,rfl)
 .rintro U ⟨f,g,a,rfl⟩;show c9 rfl (cH rfl)
def Sh(e:Option Bool)(b:Bool):dNe (shD e) (.bl b)=aa (.bl (!(e==aa b))):=by
 cases e with
 |none=>rfl
 |some c=>cases b <;> cases c <;> rfl
def Si{b:List Pr}(c:bL es.length b)(h:dS (brg b) es []):(b.filter λz=>!(es.getD z.1.toNat ac==aa z.2))≠[]/\∀z,(b.filter λz=>!(es.getD z.1.toNat ac==aa z.2))=[z]->es.getD z.1.toNat ac≠ac:=by
 show(λe=>h.ns ((BN b es).mp (all_eq_true.mpr λz hz=>?_)),λz e n=>?_)
 .have:=filter_eq_nil_iff.mp e z hz
  simpa using this
 .have hz:z∈b:=(cQ.mp (by rw[e];show aB)).1;have(q,r):=c.nn z hz;show nomatch h.np z.1 (!z.2) q r (by unfold opn;rw[n];rfl) ((BN b _).mp (all_eq_true.mpr λy g=>?_));rw[rj]
  by_cases a:y.1=z.1
  .have:y=z:=by
    have nd:=c.nd;have(i,hi):=j8 g;have(j,f):=j8 hz;have l:(b.map (·.1))[i]?=aa y.1:=by rw[bN,hi];rfl
    have m:(b.map (·.1))[j]?=aa y.1:=by rw[bN,f,a];rfl
    have d:=(cA.mp l).1;have:i=j:=(List.getElem?_inj d nd).mp (l.trans m.symm);subst this;rw[hi]at f;show cS f
   rw[this,jn es z.2 (by lia)];show beq_self_eq_true _
  .have y0:=(c.nn y g).1;rw[fJ es z.2 (by lia)]
   cases p:(es.getD y.1.toNat ac==aa y.2)with
   |true=>rfl
   |false=>
    have:y∈b.filter λz=>!(es.getD z.1.toNat ac==aa z.2):=cQ.mpr (g,by rw[p];rfl);rw[e]at this;rw[cB.mp this]at a;show absurd rfl a
def Sj{bs:LLP}(x:es.length=n)(hok:∀r∈rs,r.Ok n)(hz:rs.length<=1000)(v:∀b∈bs,bL n b)(d:n<=60)(h:vg rs bs es):zU [.lst (rs.map Rul.toD),.lst (bs.map bv),.lst (es.map shD)]=aa (.bl ab):=by
 subst x;have(wl,el,gl,_):=Hj rs es d hok;apply eY;apply am;show da rs Rul.toD (λ_ U=>∃f,U=[.im (.lst (rs.map Rul.toD)),.im (.lst (bs.map bv)),.im (.lst (es.map shD)),f,.no,.no]) rfl (_,rfl) ?_ ?_
 .rintro pre r post U ex ⟨f,rfl⟩;have e:r∈rs:=by rw[ex];simp
  show(_,rfl,?_);walk_at "nrm";show aM (b:=ae) (eI (cP (aD rfl (vi r (hok r e))) ?_) (cP (aD rfl (Sg (hok r e) d (h.ru r e))) rfl)) (λz=>nomatch z) (λ_=>bc (_,rfl))
  cases A:r.surely es with
  |false=>rfl
  |true=>show absurd ((vj r es).mp A) (h.ru r e).ns
 .rintro U ⟨f,rfl⟩;apply am;show da bs bv (λ_ U=>∃j m,U=[.im (.lst (rs.map Rul.toD)),.im (.lst (bs.map bv)),.im (.lst (es.map shD)),f,j,m]) rfl (_,_,rfl) ?_ ?_
  .rintro pre b post U ex ⟨j,m,rfl⟩;have c:b∈bs:=by rw[ex];simp
   have a:=v b c;have w:=a.len;have(p,u):=Si a (h.br b c);show(_,rfl,?_);walk_at "nrm";apply am;show bH (bm (fH b prD (λz=>!(es.getD z.1.toNat ac==aa z.2)) (λz=>D.int z.1) rfl (by lia) λz hz=>dR rfl (bJ (aG (ay rfl rfl (c8 (a.nn z hz).1 (a.nn z hz).2)) rfl (Sh _ _))) λ_=>rfl)) ?_;walk_at "nrm";have hm:∀z∈b.filter λz=>!(es.getD z.1.toNat ac==aa z.2),0<=z.1/\z.1<(es.length:Int):=λz hz=>a.nn z (cQ.mp hz).1;generalize b.filter _=S3 at p u hm
   cases S3 with
   |nil=>show absurd rfl p
   |cons z S3=>
    cases S3 with
    |nil=>
     have(B,C):=hm z aB;show aM (b:=ae) (eI rfl (tB rfl (bJ (aG (ay rfl (ay rfl rfl rfl) (c8 B C)) rfl ?_)))) (λz=>nomatch z) (λ_=>bc (_,_,rfl))
     rw[Hm,beq_false_of_ne (u z rfl)]
    |cons y S3=>
     show aM (b:=ae) (eI rfl (tE (bJ (aG (aD (ao rfl rfl) (eZ (z::y::S3) λz=>D.int z.1)) rfl ?_)))) (λz=>nomatch z) (λ_=>bc (_,_,rfl));rw[kM,beq_false_of_ne];rw[cr,cr]
     lia
  .rintro U ⟨j,m,rfl⟩;show c9 (kO (aD (ao (aD rfl el) rfl) ((congrArg (λl=>f7 [D.lst l]) (show wl.map D.bl=wl.map λb=>D.bl (id b)from rfl)).trans (q9 id wl)))) (cH ?_)
   have:wl.any id=ae:=by
    rw[any_eq_false];intro b g q;have q:b=ab:=q;have(i,hi):=j8 g;have:=h.gr wl gl i;rw[bM,hi,q]at this
    nomatch this
   rw[this];rfl
def BP(es:LOB)(S3:LD):D:=.tup [.lst (es.map shD),.lst S3]
def BQ(e0:LOB):∀st:LSp,(cU e0 st).length=e0.length
 | []=>rfl
 |x::st=>by rw[cU,dG,BQ e0 st]
def Ho{n:Nat}{rs:LRu}{bs:LLP}{e0:LOB}:∀{a b:LSp},Tr n rs bs e0 (a++b)->Tr n rs bs e0 b
 | [],_,h=>h
 | _::_,_,h=>Ho h.1
def Sk(es:LOB):dNe (.lst (es.map shD)) (.lst (es.map shD))=aa (.bl ae):=DU ((xj es).le (by decide))
variable{st:LSp}
def Sm{bs:LLP}{w:Option Wh}(hl:e0.length=n)(hok:∀r∈rs,r.Ok n)(hz:rs.length<=1000)(L:∀b∈bs,bL n b)(p:n<=60)(tr:Tr n rs bs e0 st)(hw:∀j,w=aa j->Rt n rs bs (cU e0 st) j)(hc:w=ac->vg rs bs (cU e0 st)):uC [.lst (rs.map Rul.toD),.lst (bs.map bv),.lst (e0.map shD),BP (cU e0 st) (st.reverse.map stD++mW (w.map Wh.D))]=aa (.bl ab):=by
 have Q:=(BQ e0 st).trans hl;generalize v:BP (cU e0 st) _=F;apply eY;apply am;show aM (b:=ae) (by subst v;rfl) (λz=>nomatch z) (λ_=>bc ?_);apply am;show aM (b:=ae) (by subst v;rfl) (λz=>nomatch z) (λ_=>bc ?_);apply am;show iU (d:=e0.map shD) rfl ?_;walk_at "nrm";apply am;show bH (d:=.bl ae) rfl ?_;walk_at "nrm";apply am
 let C:Stp ⊕ Wh->D:=λx=>match x with
  |.inl x=>stD x
  |.inr w=>.tup [.non,w.D]
 have eL:st.reverse.map stD++mW (w.map Wh.D)=(st.reverse.map fT++w.toList.map jd).map C:=by
  rw[bn,map_map,map_map]
  congr 1
  cases w <;> rfl
 show da (st.reverse.map fT++w.toList.map jd) C (λpre U=>∃(en:Bool) (v6:Sl) (a b:LSp) (u:List Wh),pre=a.reverse.map fT++u.map jd/\st=b++a/\(u≠[]->b=[]/\en=ab/\w.toList=u)/\(u=[]->en=ae)/\U=[.im (.lst (rs.map Rul.toD)),.im (.lst (bs.map bv)),.im (.lst (e0.map shD)),.im F,.own ((cU e0 a).map shD),.im (.bl en),v6]) (by rw[<- eL];subst v;rfl) (ae,_,[],st,[],rfl,(bB _).symm,(λh=>absurd rfl h),(λ_=>rfl),rfl) ?_ ?_
 .rintro pre x post U ex ⟨en,v6,a,b,u,rfl,c,E,l,rfl⟩;show(_,rfl,?_);walk_at "nrm"
  have T:u=[]:=by
   cases u with
   |nil=>rfl
   |cons w1 u=>
    have(q,_,I):=E (λh=>nomatch h);subst q;rw[c,nil_append,I,cX]at ex;have:=congrArg List.length ex;simp at this
  subst T;rw[l rfl];rw[iz,bB]at ex;rw[c,reverse_append,bn,cX]at ex;have ex:=append_cancel_left ex;have sl:(cU e0 a).length=n:=(BQ e0 a).trans hl;rw[c]at tr
  cases x with
  |inl x=>
   have N:∃G,b=G++[x]:=by
    cases f:b.reverse with
    |nil=>
     rw[f]at ex
     cases w with
     |none=>nomatch ex
     |some j=>nomatch (ka ex).1
    |cons y ys=>
     rw[f]at ex;have:=rZ (ka ex).1;show(ys.reverse,by rw[<- reverse_reverse b,f,this,reverse_cons])
   have(G,rfl):=N;rw[cX]at tr;have Y:=(Ho tr).2;apply am;show aM (b:=ae) (eI rfl (gE (b:=ab) (cP (aD rfl (Sf sl hok hz L p Y)) rfl))) (λz=>nomatch z) (λ_=>bc ?_);show aM (b:=ae) rfl (λz=>nomatch z) (λ_=>?_);show xG (k:=x.1.1) (d:=.bl x.1.2) (B:=(cU e0 a).map shD) (ay (cG (ay rfl rfl rfl) rfl) rfl rfl) (ay (cG (ay rfl rfl rfl) rfl) rfl rfl) rfl Y.t0 (by rw[aH,sl];show Y.t1) ?_;show(ae,.im (stD x),x::a,G,[],?_,by rw[c,cX];rfl,(λh=>absurd rfl h),(λ_=>rfl),?_)
   .rw[reverse_cons,bn,iz,bB,bB];rfl
   .have:((cU e0 a).map shD).set x.1.1.toNat (.bl x.1.2)=(cU e0 (x::a)).map shD:=by
     change _=(put (cU e0 a) _ _).map shD;unfold put;rw[i5];rfl
    rw[<- this]
    rfl
  |inr j=>
   have M:b=[]/\w=aa j:=by
    cases f:b.reverse with
    |nil=>
     rw[f]at ex
     cases w with
     |none=>nomatch ex
     |some w'=>show(reverse_eq_nil_iff.mp f,by rw[jd.inj (ka ex).1])
    |cons y ys=>
     rw[f]at ex
     nomatch (ka ex).1
   have(rfl,A):=M;rw[nil_append]at c;apply am;show aM (b:=ae) (eI rfl (gE (b:=ab) (cP (aD rfl (Se sl hok hz L p (by rw[<- c];show hw j A))) rfl))) (λz=>nomatch z) (λ_=>bc ?_);show aM (b:=ab) rfl (λ_=>?_) (λz=>nomatch z);show bH (d:=.bl ab) rfl (ab,.im (.tup [.non,j.D]),a,[],[j],?_,c,(λ_=>(rfl,rfl,by rw[A];rfl)),(λh=>nomatch h),rfl);rw[iz,bB];rfl
 .rintro U ⟨en,v6,a,b,u,g,c,E,l,rfl⟩
  have J:b=[]/\w.toList=u:=by
   rw[c,reverse_append,bn,cX]at g;have g:=append_cancel_left g
   cases u with
   |nil=>
    have(q,H):=append_eq_nil_iff.mp g
    show(reverse_eq_nil_iff.mp (map_eq_nil_iff.mp q),map_eq_nil_iff.mp H)
   |cons w1 u=>
    have(q,_,I):=E (λh=>nomatch h);show(q,I)
  have(rfl,i):=J;rw[nil_append]at c;subst c;apply am;show nV rfl ?_
  show aM (b:=ae) (eI (cP (aD (ao (bm (dq (cU e0 st) shD (λ_=>D.bl ae) (cG (ay (by subst v;rfl) rfl rfl) rfl) (by lia) λe _=>cZ rfl rfl (by cases e <;> rfl))) rfl) (q9 (λ_=>ae) _)) ?_) (bJ (aG (ay (by subst v;rfl) rfl rfl) rfl (Sk _)))) (λz=>nomatch z) (λ_=>bc ?_)
  .rw[show((cU e0 st).any λ_=>ae)=ae by simp];rfl
  .show nV rfl ?_
   cases m:w with
   |none=>
    rw[m]at i;rw[l i.symm]
    show c9 (pS (a:=ae) rfl (aD rfl (Sj Q hok hz L p (hc m)))) (cH rfl)
   |some j=>
    rw[m]at i;have(_,H,_):=E (by rw[<- i];show λh=>nomatch h);rw[H];show c9 (d:=.bl ab) rfl (cH rfl)
def rb(r:Rul):Prop:=∀p∈r.ps,(nmP p).length<=3
def BR{c:Type}{B:List c}{a b:Nat}{x:c}(h:x∈(B.drop a).take b):x∈B:=mem_of_mem_drop (mem_of_mem_take h)
def Sn(l:Bool)(c n:Int)(n0:0<=n)(C:n<=60):∃d,zH [.int c,.int n,.bl l]=aa d/\∃r:Rul,d=r.toD/\r.Ok n.toNat/\r.ps.length<=3/\rb r:=by
 apply kS;have(d,em,B,rfl,hl,M):=qv c 33 (by decide) (by decide);have(G,h0,e0):=cz (B:=B) (i:=0) (by decide) (by lia);have(E,h1,e1):=cz (B:=B) (i:=1) (by decide) (by lia);have(j,h2,e2):=cz (B:=B) (i:=2) (by decide) (by lia);walk_at "set";apply am;walk_at "if0"
 .intro u;have hn:n=0:=by simpa using u
  subst hn;have(wd,A,I):=cz (f:=D.str) (B:=["least","most"]) (dU _ (by decide)) (e9 _ (by decide));have a:=cW A;simp only[aW,bO,or_false]at a
  obtain⟨p,m,b,e⟩:∃p:Prt,p.toD=.tup [.str wd,.int (E % 3-1),.lst []]/\p.Ok 0/\(nmP p).length<=3:=by
   rcases a with rfl |rfl
   .show(.least _ [],rfl,((λz hz=>nomatch hz),by decide),cK _)
   .show(.most _ [],rfl,((λz hz=>nomatch hz),by decide),cK _)
  have es:mSl (aE (ag (bj (ag (mIx (ag (kSt "least") (ag (kSt "most") nZ)) (m2 bu (mIx (ai 3) (kI 0)) (kI 2))) (ag (m2 lV (m2 bu (mIx (ai 3) (kI 1)) (kI 3)) (kI 1)) (ag (aE nZ) nZ)))) nZ)) (λ_=>aa ac) (mPt (m2 bu (mIx (ai 3) (kI 2)) (kI 6))) [.im (.int c),.im (.int 0),.im (.bl l),.im (.lst (B.map D.int)),.no]=aa ((([p].drop (HT.sIx [p].length 0 ac)).take (HT.sIx [p].length [p].length (aa (j % 6))-HT.sIx [p].length 0 ac)).map Prt.toD):=by
   show mr (B:=[p]) (g:=Prt.toD) ?_ rfl ?_
   .rw[bP,iz,m];walk_at "ev"
   .unfold mPt;rw[show(m2 bu (mIx (ai 3) (kI 2)) (kI 6)) [.im (.int c),.im (.int 0),.im (.bl l),.im (.lst (B.map D.int)),.no]=aa (.int (j % 6)) by walk_at "ev"];rfl
  show c9 (eJ (ao rfl (ao rfl (ao (bm es) rfl)))) (cH ((.never,0,_),rfl,(λh=>absurd rfl h,λq v=>?_,?_),?_,λq v=>?_))
  .have:q=p:=by simpa using BR v
   rw[this];show b
  .change(List.take _ (List.drop _ [p])).length<=_;rw[i4,j9];change min _ (1-_)<=_;lia
  .change(List.take _ (List.drop _ [p])).length<=_;rw[i4,j9];change min _ (1-_)<=_;lia
  .have:q=p:=by simpa using BR v
   rw[this];show e
 .intro u;have hn:n≠0:=by simpa using u
  have T:1<=n:=by lia
  apply bc;walk_at "nrm";have(t,J,et):=cz (f:=D.int) (B:=[1,1,2,2,3,0]) (i:=G % 6) (dU _ (by decide)) (e9 _ (by decide))
  have Y:0<=t/\t<=3:=by
   have:∀x∈([1,1,2,2,3,0]:LI0),0<=x/\x<=3:=by decide
   show this t (cW J)
  have(ps,m,Q,b):=Bg (k:=1) (js:=[1,3]) (fi:=(fF (ag (mIx (ag (kI 1) (ag (kI 1) (ag (kI 2) (ag (kI 2) (ag (kI 3) (ag (kI 0) nZ)))))) (m2 bu (mIx (ai 3) (kI 0)) (kI 6))) nZ))) (g:=av 0) (ft:=λ_=>aa ab) (fe:=(ar m_8 (ag (aE (mSl (af 2) (mPt (m2 cy (kI 3) (m2 dJ (kI 10) (af 0)))) (mPt (m2 cy (kI 13) (m2 dJ (kI 10) (af 0)))))) (ag (af 1) nZ)))) (U:=[.im (.int c),.im (.int n),.im (.bl l),.im (.lst (B.map D.int)),.no]) (bw t.toNat) (λ(i:Nat)=>D.int i) Prt.toD (λp=>p.Ok n.toNat/\(nmP p).length<=3) (mi (by walk_at "ev") Y.1 (by lia)) (by rw[cq];lia) λi hi=>by
   have hi:=dW.mp hi
   have es:mSl (af 2) (mPt (m2 cy (kI 3) (m2 dJ (kI 10) (af 0)))) (mPt (m2 cy (kI 13) (m2 dJ (kI 10) (af 0)))) [.im (.int i),.im (.int n),.im (.lst (B.map D.int))]=aa ((((B.drop (HT.sIx B.length 0 (aa (3+10*(i:Int)))))).take (HT.sIx B.length B.length (aa (13+10*(i:Int)))-HT.sIx B.length 0 (aa (3+10*(i:Int))))).map D.int):=by
    show mr rfl ?_ ?_
    .unfold mPt;rfl
    .unfold mPt;rfl
   have (d,H,p,rfl,b,e):=Qf ((B.drop (HT.sIx B.length 0 (aa (3 + 10 * (i:Int))))).take (HT.sIx B.length B.length (aa (13 + 10 * (i:Int))) - HT.sIx B.length 0 (aa (3 + 10 * (i:Int))))) n (by
    rw[i4,j9,show(3+10*(i:Int))=((3+10*i:Nat):Int) by lia,show(13+10*(i:Int))=((13+10*i:Nat):Int) by lia,HT.sIx_nat,HT.sIx_nat];lia) (λy N=>M y (BR N)) T C
   show(p,(b,e),cZ rfl rfl (aD (ao (bm es) (ao rfl rfl)) H))
  rw[cq]at Q;apply am;show bH (bm m) ?_;walk_at "nrm";apply am;walk_at "if0"
  .intro _;walk_at "if0";show cH ((.never,0,ps),rfl,(λh=>absurd rfl h,λp h=>(b p h).1,by change ps.length<=_;lia),by change ps.length<=3;lia,λp h=>(b p h).2)
  .intro _;apply bc;walk_at "nrm";have(w,L,I):=cz (f:=λw:Wrd=>D.str w.s) (B:=[.make,.may]) (i:=E / 8 % 2) (dU _ (by decide)) (e9 _ (by decide));have q1:=e9 (j / 4) (show 0<n by lia);walk_at "if0";show cH ((w,j / 4 % n,ps),?_,(λ_=>((dU (j / 4) (show n≠0 by lia)),by change j / 4 % n<_;lia),λp h=>(b p h).1,by change ps.length<=_;lia),by change ps.length<=3;lia,λp h=>(b p h).2);have a:=cW L;simp only[aW,bO,or_false]at a
   rcases a with rfl |rfl <;> rfl
def So(kind k a n:Int)(e:0<=kind)(c:kind<5)(b:0<=k)(f:k<n)(d:0<=a)(o1:a<n):(atI [D.non,.tup [.str "in",.int k],.tup [.str "out",.int k],.tup [.str "least",.int 2,.lst [.tup [.int k,.int 2],.tup [.int a,.int 1]]],.tup [.str "most",.int 0,.lst [.tup [.int k,.int 1]]]] kind=aa .non)\/∃p:Prt,(p.Ok n.toNat/\(nmP p).length<=3)/\atI [D.non,.tup [.str "in",.int k],.tup [.str "out",.int k],.tup [.str "least",.int 2,.lst [.tup [.int k,.int 2],.tup [.int a,.int 1]]],.tup [.str "most",.int 0,.lst [.tup [.int k,.int 1]]]] kind=aa p.toD:=by
 have:kind=0\/kind=1\/kind=2\/kind=3\/kind=4:=by lia
 rcases this with rfl |rfl |rfl |rfl |rfl
 .show .inl rfl
 .show .inr (.inn k,((b,by lia),by change 1<=3;decide),rfl)
 .show .inr (.out k,((b,by lia),by change 1<=3;decide),rfl)
 .show .inr (.least 2 [(k,2,),(a,1,)],((λz hz=>?_,by change 2<=100000;decide),by change 2<=3;decide),rfl);simp only[aW,bO,or_false]at hz
  rcases hz with rfl |rfl
  .show(b,by change k<_;lia,by change _<=2;decide)
  .show(d,by change a<_;lia,by change _<=1;decide)
 .show .inr (.most 0 [(k,1,)],((λz hz=>?_,by change 1<=100000;decide),by change 1<=3;decide),rfl);have:z=(k,1,):=by simpa using hz
  subst this;show(b,by change k<_;lia,by change _<=1;decide)
def Sq(kind n:Int)(x:0<=kind)(d:kind<5)(E:0<=n)(G:n<=60):∃rs:LRu,zF [.int kind,.int n]=aa (rs.map Rul.toD)/\(∀r∈rs,r.Ok n.toNat/\r.ps.length<=3/\rb r)/\rs.length<=60:=by
 have h:wp uv (eE 6 [.int kind,.int n]) (λo=>∃rs:LRu,o=.rtO (rs.map Rul.toD)/\(∀r∈rs,r.Ok n.toNat/\r.ps.length<=3/\rb r)/\rs.length<=60):=by
  walk_at "set";apply am
  show da _ _ (λpre U=>∃(rs:LRu) (j l m:Sl),U=[.im _,.im _,.own (rs.map Rul.toD),j,l,m]/\(∀r∈rs,r.Ok n.toNat/\r.ps.length<=3/\rb r)/\rs.length<=pre.length)
   (mi (by walk_at "ev") E (by lia)) ([],.no,.no,.no,rfl,(λz hz=>nomatch hz),aP _) ?_ ?_
  .rintro pre i post U ex ⟨rs,j,l,m,rfl,a,b⟩;have hi:i<n.toNat:=dW.mp (by rw[ex];simp)
   have y:pre.length<n.toNat:=by
    have:pre.length<(bw n.toNat).length:=by rw[ex];simp
    simpa using this
   have hn:0<n:=by lia
   have u:=dU (i+1) (show n≠0 by lia);have H:=e9 (i+1) hn;show(_,rfl,?_);walk_at "nrm";walk_at "set"
   rcases So kind i _ n x d (by lia) (by lia) u H with e |⟨p,hp,e⟩
   .apply am;show bH (by walk_at "ev") ?_;walk_at "nrm";show aM rfl (λh=>by nomatch h) (λ_=>bc (rs,_,_,_,rfl,a,by rw[bf];show Nat.le_succ_of_le b))
   .apply am;show bH (by walk_at "ev") ?_;walk_at "nrm";clear e;have I:0<=i*kind % 5 / 4:=Int.ediv_nonneg (dU _ (by decide)) (by decide)
    have J:i*kind % 5 / 4<2:=by
     lia
    have(w,C,v):=cz (f:=λw:Wrd=>D.str w.s) (B:=[.make,.may]) I J
    show aM (bJ (aG rfl rfl (by cases p <;> rfl))) (λ_=>?_) (λh=>by nomatch h)
    show jO (eJ (ao (ay (by walk_at "ev") (by walk_at "ev") v) (ao rfl (ao (bm (ao rfl rfl)) rfl)))) rfl (by rw[aH];lia) ?_;have c:=cW C;simp only[aW,bO,or_false]at c;show(rs++[(w,(i+1) % n,[p])],.im (.int i),.im (.int ((i+1) % n)),.im p.toD,?_,λr A=>?_,by rw[bf,bf];show Nat.add_le_add_right b 1)
    .rw[bn]
     rcases c with rfl |rfl <;> rfl
    .rcases bI.mp A with h |h
     .show a r h
     .have:r=(w,(i+1) % n,[p]):=by simpa using h
      subst this;show((λ_=>(u,by change _ % n<_;lia),λq g=>?_,by change 1<=_;decide),by change 1<=3;decide,λq g=>?_)
      .have:q=p:=by simpa using g
       subst this;show hp.1
      .have:q=p:=by simpa using g
       subst this;show hp.2
  .rintro U ⟨rs,j,l,m,rfl,a,b⟩;rw[cq]at b;show nY rfl (rs,rfl,a,by lia)
 have(o,e,rs,rfl,a,b):=h;show(rs,uc e,a,b)
def Sr(c n:Int)(e:0<=n)(l:n<=60):∃d,zK [.int c,.int n]=aa d/\∃es:LOB,d=.lst (es.map shD)/\(es.length:Int)=n:=by
 apply kS;have(d,em,B,rfl,h,i):=qv c (n+1) (by lia) (by lia);apply am;show bH (aD (ao rfl (ao (aG rfl rfl nX) rfl)) em) ?_;walk_at "nrm";have(y,j,f):=cz (B:=B) e (by lia);have g:=R4 B n e (by lia);generalize b:(B.drop _).take _=a at g
 have es:mSl (af 2) (λ_=>aa ac) (mPt (af 1)) [.im (.int c),.im (.int n),.im (.lst (B.map D.int))]=aa (a.map D.int):=by
  rw[<- b];show mr rfl rfl rfl
 apply am;show aM (bJ (aG (aG (ay rfl rfl f) rfl (kU (by decide))) rfl (kM _ _))) (λ_=>?_) (λ_=>bc ?_)
 .show gF (dq a D.int _ (cG (bm es) rfl) (by lia) λx _=>cZ rfl rfl rfl) (ga (a.map λx=>ac,by rw[map_map];rfl,by rw[aH];lia))
 .walk_at "nrm";show gF (dq a D.int _ (cG (bm es) rfl) (by lia) λx _=>cZ rfl rfl (ay rfl (aG rfl rfl (kU (by decide))) (c8 (es:=[ac,ac,ac,aa ab,aa ae]) (dU _ (by decide)) (e9 _ (by decide))))) (ga (a.map λx=>[ac,ac,ac,aa ab,aa ae].getD (x % 5).toNat ac,by rw[map_map];rfl,by rw[aH];lia))
def Ss{a n:Int}(hi:(i:Int)<n)(d:(j:Int)<n)(h:(a+i) % n=(a+j) % n):i=j:=by
 have b:n ∣ _-(a+j):=Int.dvd_of_emod_eq_zero (by rw[Int.sub_emod,h,Int.sub_self,Int.zero_emod]);have(k,e):=b;have c:i-j=n*k:=by lia
 rcases Int.lt_trichotomy k 0 with q |q |q
 .have:n*k<=n*(-1):=BX (by lia) (by lia);lia
 .rw[q,Int.mul_zero]at c;lia
 .have:n*1<=n*k:=BX (by lia) (by lia);lia
def Su(c n:Int)(C:0<=n)(E:n<=60):∃d,ut [.int c,.int n]=aa d/\∃b:List Pr,d=bv b/\bL n.toNat b:=by
 apply kS;have(d,em,B,rfl,y,A):=qv c 6 (by decide) (by decide);apply am;show bH (aD (ao rfl (ao rfl rfl)) em) ?_;walk_at "nrm";have(u,v,e0):=cz (B:=B) (i:=0) (by decide) (by lia);have(f,w,p):=cz (B:=B) (i:=1) (by decide) (by lia);have(g,x,q):=cz (B:=B) (i:=2) (by decide) (by lia);apply am
 by_cases hn:n=0
 .show aM (tG (bJ (aG rfl rfl (by rw[hn];rfl)))) (λ_=>(gF rfl (ga ([],rfl,bL.nil _)))) (λz=>by nomatch z)
 .have a:0<n:=by lia
  show aM (eI (bJ (aG rfl rfl (by rw[kM,beq_false_of_ne hn]))) (bJ (aG (aG (ay rfl rfl e0) rfl (kU (by decide))) rfl (kM _ _)))) (λ_=>(gF rfl (ga ([],rfl,bL.nil _)))) (λ_=>bc ?_)
  have hm:0<(if n<3 then n else 3):=by split <;> lia
  have t0:=dU f (show(if n<3 then n else 3)≠0 by lia);have t1:=e9 f hm;generalize r:1+f % (if n<3 then n else 3)=t;have l:t<=n/\t<=3/\0<=t:=by lia
  show gF (d:=((bw t.toNat).map λi:Nat=>((g+i) % n,B.getD (3+(i:Int)).toNat 0 % 2==0,)).map prD) ?_ (ga (_,rfl,(λz hz=>?_,?_)))
  .rw[map_map];show dq _ _ _ (mi (ao (aG rfl (aG (ay rfl rfl p) (aD (ao rfl (ao rfl rfl)) rfl) (kU hm)) (by rw[nX,r])) rfl) l.2.2 (by lia)) (by rw[cq];lia) λi hi=>?_;have hi:=dW.mp hi;show cZ rfl rfl (eJ (ao (aG (aG (ay rfl rfl q) rfl nX) rfl (kU a)) (ao (aG (aG (ay rfl (aG rfl rfl nX) (mh 0 (by lia) (by lia))) rfl (kU (by decide))) rfl (kM _ _)) rfl)))
  .have(i,hi,rfl):=aO.mp hz;have:=dU (g+i) hn;have:=e9 (g+i) a;lia
  .rw[map_map];show pairwise_map.mpr (List.Pairwise.imp_of_mem ?_ nodup_range);intro i j hi m h e;have hi:=dW.mp hi;have m:=dW.mp m;show h (Ss (by lia) (by lia) e)
def BS{f:LS->Option O}{g:LS->Option (List O)}(h:f U=aa o)(h':g U=aa os):jm f g U=aa (o::os):=by
 unfold jm;rw[h,aw,h'];rfl
def Sv{f:MF2}{g:LS->Option O}(h:f U=aa E)(h':g U=aa o):mz f g U=aa (.tup (E.map .fz++[o])):=by
 unfold mz;rw[h,aw,h'];rfl
def Sw{g:LS->Option (List O)}(h:g U=aa os):mE g U=aa (.lst os):=by
 unfold mE;rw[h];rfl
def BU{p:Xp}(h:p U=aa (o,R,))(hn:o.ni=ab):pN p U=aa o.toD:=by
 unfold pN;rw[h,aw,if_pos hn]
def Hq{p:Xp}(h:p U=aa (.lst os,R,))(k:K (.nx (U.set i (.deep (R (.lst [])))))):wp (mK i p) U K:=(_,by
 unfold mK;rw[h];rfl,k)
def vm(h:U[i]?=aa (.deep o))(a:o.kn=ab):c6 i U=aa o.toD:=by
 unfold c6;rw[h];show if_pos a
def Hr:∀E:LD,O.nis (E.map .fz)=ab
 | []=>by rw[iz,O.nis]
 |d::E=>by rw[bP,O.nis,Hr E,O.ni];rfl
def BV(h:∀d∈E,d.nint=ab):(lsO E).ni=ab:=by
 unfold lsO;rw[O.ni,Hr,rh]
 cases E with
 |nil=>rfl
 |cons d E=>show h d aB
def BW:∀{E:LD},(∀d∈E,d.gl=ab)->O.gls (E.map .fz)=ab
 | [],_=>by rw[iz,O.gls]
 |d::E,h=>by rw[bP,O.gls,BW λx a=>h x (be _ a),O.gl,h d aB];rfl
def jp(E:LD):(lsO E).toD=.lst E:=by unfold lsO;rw[O.toD,wM]
def rf(E:LD):(lsO E).kn=ab:=by unfold lsO;rw[O.kn,jW]
def Hs:∀ks:LI0,allInt (ks.map D.int)=ab
 | []=>rfl
 | _::ks=>Hs ks
def Ht{bs:LLP}(h:Rt n rs bs es w):w.D.gl=ab:=by
 cases w with
 |gd y=>simp[Wh.D,wyD,D.gl,gls]
 |gp ks=>
  have(x,a,_):=GpR.i h
  cases ks with
  |nil=>nomatch a
  |cons k ks=>simp[Wh.D,D.gl,gls,Hs]
def Hu{n:Nat}{rs:LRu}{bs:LLP}{e0:LOB}:∀{st:LSp},Tr n rs bs e0 st->∀x∈st,(stD x).gl=ab
 | [],_,_,h=>nomatch h
 |y::st,t,x,h=>by
  rcases aW.mp h with e |e
  .subst e;have:=Ht t.2.rt;simp[stD,prD,D.gl,gls,this]
  .show Hu t.1 x e
def Sx{bs:LLP}{w:Option Wh}(t:Tr n rs bs e0 st)(f:∀a,w=aa a->Rt n rs bs (cU e0 st) a):(O.tup [lsO ((cU e0 st).map shD),lsO (st.reverse.map stD++mW (w.map Wh.D))]).gl=ab:=by
 have b:(lsO ((cU e0 st).map shD)).gl=ab:=by
  unfold lsO;rw[O.gl];show BW λd hd=>?_;have(e,_,rfl):=aO.mp hd
  cases e <;> simp[shD,D.gl]
 have c:(lsO (st.reverse.map stD++mW (w.map Wh.D))).gl=ab:=by
  unfold lsO;rw[O.gl];show BW λd hd=>?_
  rcases bI.mp hd with q |q
  .have(x,g,rfl):=aO.mp q;show Hu t x (mem_reverse.mp g)
  .cases w with
   |none=>nomatch q
   |some a=>
    have:=Ht (f a rfl);rw[cB.mp q];simp[D.gl,gls,this]
 rw[O.gl,O.gls,O.gls,O.gls,b,c];rfl
def Sy(b:List Pr):du 3 (bv b):=λx c=>by
 have(z,_,rfl):=aO.mp c;intro y a;simp only[aW,bO,or_false]at a
 rcases a with rfl |rfl <;> show rfl
def Sz{n:Int}{bs:LLP}:du 20 (.lst [pl0 n rs,.lst (bs.map bv),.lst (es.map shD)]):=by
 have:du 11 (.lst [pl0 n rs,.lst (bs.map bv),.lst (es.map shD)]):=λx b=>by
  simp only[aW,bO,or_false]at b
  rcases b with rfl |rfl |rfl
  .intro y a;simp only[aW,bO,or_false]at a
   rcases a with rfl |rfl
   .show rfl
   .intro z hz;have(r,_,rfl):=aO.mp hz;show(LB r).le (by decide)
  .intro y a;have(r,_,rfl):=aO.mp a;show(Sy r).le (by decide)
  .show(xj es).le (by decide)
 show this.le (by decide)
def SA(ns:LI0)(hns:ns.length<=63):m_1 [.kl (ns.map D.int)]=aa (.bl ab):=by
 apply eY;change wp _ [.im (.kl (ns.map D.int)),.no,.no,.no,.no,.no,.no,.no,.no] _;have(c0,k0):=Bf ns 0 (by decide);have(c1,k1):=Bf ns 1 (by decide);have(c2,k2):=Bf ns 2 (by decide);have(d,em,A,rfl,hl,hx):=qv c0 4 (by decide) (by decide);have(J,h0,e0):=cz (f:=D.int) (B:=A) (i:=0) (by decide) (by lia);have(a1,h1,e1):=cz (f:=D.int) (B:=A) (i:=1) (by decide) (by lia);have(a2,h2,e2):=cz (f:=D.int) (B:=A) (i:=2) (by decide) (by lia);have(L,h3,e3):=cz (f:=D.int) (B:=A) (i:=3) (by decide) (by lia);walk_at "set";walk_at "set";have b0:0<=J % 20:=dU _ (by decide);have b1:J % 20<20:=e9 _ (by decide);have b2:0<=L % 5:=dU _ (by decide);have b3:L % 5<5:=e9 _ (by decide);generalize hn:(J % 20+2) / 3=n;have I:0<=n:=by lia
 have n7:n<=7:=by lia
 have j:n<=60:=by lia
 have(rs0,T,hr0,hl0):=Sq (a1 % 5) n (dU _ (by decide)) (e9 _ (by decide)) I j;apply am;show iU (ub (by walk_at "ev") T) ?_;walk_at "nrm"
 have hcl:((ns.drop (HT.sIx ns.length 0 (aa 3))).take (HT.sIx ns.length ns.length (aa 33)-HT.sIx ns.length 0 (aa 3))).length<=30:=by
  rw[i4,show(aa 33:Option Int)=aa ((33:Nat):Int)from rfl,show(aa 3:Option Int)=aa ((3:Nat):Int)from rfl,HT.sIx_nat,HT.sIx_nat];lia
 generalize hcs:(ns.drop (HT.sIx ns.length 0 (aa 3))).take (HT.sIx ns.length ns.length (aa 33)-HT.sIx ns.length 0 (aa 3))=cs at hcl;apply am;show da cs D.int (λpre U=>∃(rs:LRu) (l:Sl),U=[.im (.kl (ns.map D.int)),.im (.lst (A.map D.int)),.im (.int n),.own (rs.map Rul.toD),l,.no,.no,.no,.no]/\(∀r∈rs,r.Ok n.toNat/\r.ps.length<=3/\rb r)/\rs.length<=60+pre.length) (by rw[<- hcs];show cG (bm (EB rfl rfl rfl)) rfl) (rs0,_,rfl,hr0,by simpa using hl0) ?_ ?_
 .rintro pre c post U ex ⟨rs,l,rfl,a,hlr⟩;have hpl:pre.length<cs.length:=by rw[ex];simp
  have(d,er,r,rfl,u,hr3,hrf):=Sn (a2 % 2==0) c n I j;show(_,rfl,?_);walk_at "nrm";show jO (aD (ao rfl (ao rfl (ao (aG (aG (ay rfl rfl e2) rfl (kU (by decide))) rfl (kM _ _)) rfl))) er) rfl (by rw[aH];lia) ?_;show(rs++[r],.im (.int c),by rw[bn];rfl,λq hq=>?_,by rw[bf,bf];change _+1<=60+(_+1);lia)
  rcases bI.mp hq with h |h
  .show a q h
  .have:q=r:=by simpa using h
   subst this;show(u,hr3,hrf)
 .rintro U ⟨rs,l,rfl,a,hlr⟩;walk_at "nrm";have(d,Y,es,rfl,hes):=Sr c1 n I j;apply am;show bH (aD (by walk_at "ev") Y) ?_;walk_at "nrm";have(d,Q,ys,rfl,hly,hy):=qv c2 (L % 5) b2 (by lia)
  have(bars,eb,lb,H):=Bg (k:=1) (js:=[2]) (fi:=(aL (ar m_3 (ag (ar ow (ag (af 0) (ag (kI 2) nZ))) (ag (m2 bu (mIx (ai 1) (kI 3)) (kI 5)) nZ))))) (g:=av 0) (ft:=λ_=>aa ab) (fe:=(ar ut (ag (af 0) (ag (af 1) nZ)))) (U:=[.im (.kl (ns.map D.int)),.im (.lst (A.map D.int)),.im (.int n),.own (rs.map Rul.toD),l,.im (.lst (es.map shD)),.no,.no,.no]) ys D.int bv (λb=>bL n.toNat b) (cG (aD (by walk_at "ev") Q) rfl) (by lia) λy _=>by
   have(d,e,b,rfl,H):=Su y n I j;show(b,H,cZ rfl rfl (aD (ao rfl (ao rfl rfl)) e))
  apply am;show bH (bm eb) ?_;walk_at "nrm";have G:es.length=n.toNat:=by lia
  have hrk:∀r∈rs,RuK n.toNat r/\(grd r).length<=4:=λr u=>by
   have(r1,r2,r3):=a r u;show((r1,λp hp=>by have:=r3 p hp;lia,by lia),?_);have(w,hd,ps):=r;have r2:ps.length<=3:=r2
   cases w with
   |may=>show(by decide:1<=4)
   |make=>change(ps++[Prt.out hd]).length<=4;rw[bf,dN];lia
   |never=>change ps.length<=4;lia
  obtain⟨M,hcc⟩:∃c:Nat,c=100000:=(_,rfl);obtain⟨BB,hBB⟩:∃c:Nat,c=1000000:=(_,rfl);have hnc:n.toNat*(M+1)<=7*(M+1):=Nat.mul_le_mul_right _ (by lia);have N:=R9 rs (by lia) λr u=>by have:=(a r u).2.1;lia
  have m:n.toNat<=60:=by lia
  have hok:∀r∈rs,r.Ok n.toNat:=λr u=>(a r u).1;have(st,w,esp,tr,hw,C,hsl):=R0 (v:=n) (q:=4) (c:=M) (S1:=BB) (es:=es) m G hrk (by lia) H (by lia) (by lia) (by lia) (by lia);have ew:=Sm G hok (by lia) H m tr hw C;have hgl:=Sx tr hw;apply am;show nV rfl ?_;show xQ (Sw (BS (Sv (ao rfl rfl) (mN (ub rfl N))) (BS (mN (dq bars bv bv rfl (by lia) λb _=>cZ rfl rfl (bm rfl))) (BS (mN (E:=es.map shD) rfl) rfl)))) ?_;change wp _ [.im _,.im _,.im _,.im (.lst (rs.map Rul.toD)),l,.im _,.im _,.deep (.lst [.tup [.fz (.int n),lsO (rs.map Rul.toD)],lsO (bars.map bv),lsO (es.map shD)]),.no] _
  have n1:(O.tup [.fz (.int n),lsO (rs.map Rul.toD)]).ni=ab:=by
   rw[O.ni,O.nis,O.nis,O.nis,O.ni,BV λd hd=>by have(r,_,rfl):=aO.mp hd;rfl];rfl
  have t1:(O.tup [.fz (.int n),lsO (rs.map Rul.toD)]).toD=pl0 n rs:=by
   rw[O.toD,O.toDs,O.toDs,O.toDs,O.toD,jp];rfl
  apply am
  show xQ (N8 (ao ((BU rfl n1).trans (congrArg aa t1)) (ao ((BU rfl (BV λd hd=>by have(r,_,rfl):=aO.mp hd;rfl)).trans (congrArg aa (jp _))) (ao ((BU rfl (BV λd hd=>by have(r,_,rfl):=aO.mp hd;cases r <;> rfl)).trans (congrArg aa (jp _))) rfl))) esp hgl) ?_
  change wp _ [.im _,.im _,.im _,.im (.lst (rs.map Rul.toD)),l,.im _,.im _,.deep (.lst [.tup [.fz (.int n),lsO (rs.map Rul.toD)],lsO (bars.map bv),lsO (es.map shD)]),.deep (.tup [lsO _,lsO _])] _
  have tF:∀S3:LD,(O.tup [lsO ((cU es st).map shD),lsO S3]).toD=BP (cU es st) S3:=λS3=>by
   rw[O.toD,O.toDs,O.toDs,O.toDs,jp,jp];rfl
  have kF:∀S3:LD,(O.tup [lsO ((cU es st).map shD),lsO S3]).kn=ab:=λS3=>by
   rw[O.kn,O.kns,O.kns,O.kns,rf,rf];rfl
  have tH:(O.lst [.tup [.fz (.int n),lsO (rs.map Rul.toD)],lsO (bars.map bv),lsO (es.map shD)]).toD=.lst [pl0 n rs,.lst (bars.map bv),.lst (es.map shD)]:=by
   rw[O.toD,O.toDs,O.toDs,O.toDs,O.toDs,t1,jp,jp]
  have kH:∀x y z:LD,(O.lst [.tup [.fz (.int n),lsO x],lsO y,lsO z]).kn=ab:=λx y z=>by
   rw[O.kn,O.kns,O.kns,O.kns,O.kns,O.kn,O.kns,O.kns,O.kns,O.kn,rf,rf,rf];rfl
  apply am;show nV rfl ?_;show aM (b:=ae) (eI (gE (b:=ab) (cP (aD (ao rfl (ao rfl (ao rfl (ao ((vm rfl (kF _)).trans (congrArg aa (tF _))) rfl)))) ew) rfl)) (bJ (aG ((vm rfl (kH _ _ _)).trans (congrArg aa tH)) (bm (ao (eJ (ao rfl (ao rfl rfl))) (ao rfl (ao rfl rfl)))) (DU Sz)))) (λz=>nomatch z) (λ_=>bc ?_);apply am;show Hq (os:=(rs.map Rul.toD).map .fz) rfl ?_;change wp _ [.im _,.im _,.im _,.im (.lst (rs.map Rul.toD)),l,.im _,.im _,.deep (.lst [.tup [.fz (.int n),lsO []],lsO (bars.map bv),lsO (es.map shD)]),.deep (.tup [lsO _,lsO _])] _;apply am;show Hq (os:=(bars.map bv).map .fz) rfl ?_;change wp _ [.im _,.im _,.im _,.im (.lst (rs.map Rul.toD)),l,.im _,.im _,.deep (.lst [.tup [.fz (.int n),lsO []],lsO [],lsO (es.map shD)]),.deep (.tup [lsO _,lsO _])] _;apply am;show uQ (E:=es.map shD) rfl rfl (by rw[aH];lia) ?_;change wp _ [.im _,.im _,.im _,.im (.lst (rs.map Rul.toD)),l,.im _,.im _,.deep (.lst [.tup [.fz (.int n),lsO []],lsO [],lsO (es.map shD++[.bl ab])]),.deep (.tup [lsO _,lsO _])] _;apply am;show nV rfl ?_;show aM (b:=ae) (gE (b:=ab) (cP (aD (ao rfl (ao rfl (ao rfl (ao ((vm rfl (kF _)).trans (congrArg aa (tF _))) rfl)))) ew) rfl)) (λz=>nomatch z) (λ_=>bc ?_);apply am;show M0 rfl rfl ?_
  have tH2:(O.lst [.tup [.fz (.int n),lsO []],lsO [],lsO (es.map shD++[.bl ab])]).toD=.lst [.tup [.int n,.lst []],.lst [],.lst ((es++[aa ab]).map shD)]:=by
   rw[O.toD,O.toDs,O.toDs,O.toDs,O.toDs,jp,jp,O.toD,O.toDs,O.toDs,O.toDs,O.toD,jp,bn];rfl
  show c9 (d:=.bl ab) (aG (ay (cG ((vm rfl (kH _ _ _)).trans (congrArg aa tH2)) rfl) rfl rfl) (bm (uN rfl (bm (ao rfl rfl)) (by rw[aH];change _+1<=_;lia))) ?_) (cH rfl);rw[show es.map shD++[D.bl ab]=(es++[aa ab]).map shD by rw[bn];rfl];show Lp ((xj _).le (by decide))
def sp_law(K:aU):Sp:=λvs H Q _=>∃(a:Addr) (ns:LI0),vs=[.ref a]/\SqL K H a (ns.map V.int)/\ns.length<=63/\∀H',Q (.bl ab) H'
variable{K:aU}
def sp_law_of{H:Hp}{a:Addr}{S5:XK}(c:ns.length<=63)(b:SqL K H a (ns.map V.int)):sp_law K [.ref a] H (λv _=>v=.bl ab) S5:=(a,ns,rfl,b,c,λ_=>rfl)
variable{w:World}
def law_ok{a:Wa}(W:Wd K mg a):cM P w K mg base CX0 9 a.e_1.1 a.e_1.2 ["_law_script"] (sp_law K):=(Qb W).ok.imp λvs H Q S5 (a,ns,b,c,d,k)=>
 (H,[.kl (ns.map D.int)],.bl ab,aq.refl _,(.ref a,[],b,(a,_,rfl,c,ak.ints ns),rfl),rfl,SA ns d,λv C H' x r=>by rw[show v=V.bl ab from r];show k H')
variable{P:LVa->Prop}
def rg(h:P []):∀us:LVa,us.length=0->P us:=λus e=>by
 rw[eq_nil_of_length_eq_zero e];show h
def gi(h:∀a (us:LVa),us.length=n->P (a::us)):∀us:LVa,us.length=n+1->P us:=λus e=>by
 cases us with
 |nil=>cases e
 |cons a us=>show h a us (Nat.succ.inj e)
def Hv(h:∀a:Value,P [a]):∀us:LVa,us.length=1->P us:=gi (P:=λus=>P (us)) λa=>rg (h a)
def SB(h:∀a b:Value,P [a,b]):∀us:LVa,us.length=2->P us:=gi (P:=λus=>P (us)) λa=>gi (P:=λus=>P (a::us)) λb=>rg (h a b)
def SC(h:∀a b c:Value,P [a,b,c]):∀us:LVa,us.length=3->P us:=gi (P:=λus=>P (us)) λa=>gi (P:=λus=>P (a::us)) λb=>gi (P:=λus=>P (a::b::us)) λc=>rg (h a b c)
def SD(h:∀a b c d:Value,P [a,b,c,d]):∀us:LVa,us.length=4->P us:=gi (P:=λus=>P (us)) λa=>gi (P:=λus=>P (a::us)) λb=>gi (P:=λus=>P (a::b::us)) λc=>gi (P:=λus=>P (a::b::c::us)) λd=>rg (h a b c d)
def SE(h:∀a b c d e:Value,P [a,b,c,d,e]):∀us:LVa,us.length=5->P us:=gi (P:=λus=>P (us)) λa=>gi (P:=λus=>P (a::us)) λb=>gi (P:=λus=>P (a::b::us)) λc=>gi (P:=λus=>P (a::b::c::us)) λd=>gi (P:=λus=>P (a::b::c::d::us)) λe=>rg (h a b c d e)
local macro_rules | `(tactic| walk_at "bd")=>`(tactic| exact λ_ _ _ _ _ _=>by first | exact Hv λ_=>rfl | exact SB λ_ _=>rfl | exact SC λ_ _ _=>rfl | exact SD λ_ _ _ _=>rfl | exact SE λ_ _ _ _ _=>rfl)
set_option autoImplicit true in
def all_mk{ad ae af ag ai:Addr}{h:Heap}{bl ao ap L x aq M N bm Q ar au bn av y bo z bp T U Y aw A ax B bq ay br C az aA aB aC aD aE aF aG E bs aH aI aJ aK aL aM aN aO aP aQ aR aS aT aU aV aW aX aY aZ a0 a1 a2 a3 a4 bu H a5 w a6 a7 I a8 J bv a9 ba:dg}{fa:Addr}(X:K.In h)(G:h.Ns b9 mg)(hfa:mg "law"=aa (.ref fa))
 (bw:dC K b9 "In"=aa (aa (.ref ad)))
 (bb:dC K b9 "Out"=aa (aa (.ref ae)))
 (l:dC K b9 "Least"=aa (aa (.ref af)))
 (u:dC K b9 "Most"=aa (aa (.ref ag)))
 (b:dC K b9 "Spreading"=aa (aa (.ref ai)))
 (cH:Dq K "marks" s_4 f_4 bl)
 (bD:Dq K "part_of" yf f_37 ao)
 (bE:Dq K "things_of" yg f_38 ap)
 (bF:Dq K "worth_in" yh f_21 L)
 (bG:Dq K "worth_not_out" yi f_11 x)
 (bH:Dq K "outside" yj f_52 aq)
 (bI:Dq K "heavy" ym f_22 M)
 (bJ:Dq K "weights_of" yn f_23 N)
 (cI:Dq K "body_of" s_0 f_0 bm)
 (bK:Dq K "guard_of" yo f_24 Q)
 (bL:Dq K "guard_of_bar" yp f_53 ar)
 (bM:Dq K "pressed_by" yq f_74 au)
 (cJ:Dq K "lost_part" s_7 f_7 bn)
 (bN:Dq K "spread" yr f_54 av)
 (bO:Dq K "_law_cell_at" yt f_12 y)
 (cK:Dq K "_law_mixed" s_3 f_3 bo)
 (bP:Dq K "_law_worth" yu f_13 z)
 (cL:Dq K "_law_part" s_8 f_8 bp)
 (bQ:Dq K "_law_rule" yv f_25 T)
 (bR:Dq K "_law_ring" yw f_26 U)
 (bS:Dq K "_law_copy" yx f_27 Y)
 (bT:Dq K "_law_part_sure" yy f_39 aw)
 (bU:Dq K "_law_broken" yA f_14 A)
 (bV:Dq K "_law_part_lost" yB f_40 ax)
 (bW:Dq K "_law_holds_up" yC f_15 B)
 (cM:Dq K "_law_loose" s_9 f_9 bq)
 (bX:Dq K "_law_fits" yD f_55 ay)
 (cN:Dq K "_law_right" s_5 f_5 br)
 (bY:Dq K "_law_with" yE f_16 C)
 (bZ:Dq K "_law_bar" yF f_28 az)
 (b0:Dq K "_law_sheet" yG f_41 aA)
 (b1:Dq K "_law_number" yH f_29 aB)
 (b2:Dq K "_law_is_why" yI f_56 aC)
 (b3:Dq K "_law_is_pair" yJ f_57 aD)
 (b4:Dq K "_law_of_a_sort" yK f_30 aE)
 (b5:Dq K "_law_presses" yL f_42 aF)
 (b6:Dq K "_law_at_rest" yM f_31 aG)
 (b7:Dq K "_law_walked" yN f_17 E)
 (b8:Dq K "law" s_1 f_1 bs)
 (bc:Dp K ad "__init__" "In.__init__" yO f_70 aH)
 (ca:Dp K ad "named" "In.named" yP f_43 aI)
 (cb:Dp K ad "wants" "In.wants" yQ f_58 aJ)
 (cc:Dp K ad "sure" "In.sure" yR f_59 aK)
 (cd:Dp K ad "tips" "In.tips" yS f_60 aL)
 (ce:Dp K ad "lost" "In.lost" yT f_32 aM)
 (bd:Dp K ae "__init__" "Out.__init__" yU f_71 aN)
 (cf:Dp K ae "named" "Out.named" yV f_44 aO)
 (cg:Dp K ae "wants" "Out.wants" yW f_61 aP)
 (ch:Dp K ae "sure" "Out.sure" yX f_62 aQ)
 (ci:Dp K ae "tips" "Out.tips" yY f_63 aR)
 (cj:Dp K ae "lost" "Out.lost" yZ f_33 aS)
 (be:Dp K af "__init__" "Least.__init__" y3 f_72 aT)
 (ck:Dp K af "named" "Least.named" y4 f_45 aU)
 (cm:Dp K af "wants" "Least.wants" y6 f_64 aV)
 (cn:Dp K af "sure" "Least.sure" y7 f_65 aW)
 (co:Dp K af "tips" "Least.tips" y8 f_46 aX)
 (cp:Dp K af "lost" "Least.lost" y9 f_34 aY)
 (bf:Dp K ag "__init__" "Most.__init__" za f_73 aZ)
 (cq:Dp K ag "named" "Most.named" zb f_47 a0)
 (cr:Dp K ag "wants" "Most.wants" zc f_66 a1)
 (cs:Dp K ag "sure" "Most.sure" zd f_67 a2)
 (ct:Dp K ag "tips" "Most.tips" ze f_48 a3)
 (cu:Dp K ag "lost" "Most.lost" zf f_35 a4)
 (cv:Dp K ai "__init__" "Spreading.__init__" s_6 f_6 bu)
 (cx:Dp K ai "take_guard" "Spreading.take_guard" zg f_18 H)
 (cy:Dp K ai "take_bar" "Spreading.take_bar" zh f_49 a5)
 (cz:Dp K ai "drop_wider" "Spreading.drop_wider" zi f_10 w)
 (cA:Dp K ai "put" "Spreading.put" zj f_50 a6)
 (cB:Dp K ai "settle" "Spreading.settle" zk f_51 a7)
 (cC:Dp K ai "look_round" "Spreading.look_round" zl f_19 I)
 (cD:Dp K ai "put_loose_out" "Spreading.put_loose_out" zm f_36 a8)
 (cE:Dp K ai "loose_marks" "Spreading.loose_marks" zn f_20 J)
 (cO:Dp K ai "kernel" "Spreading.kernel" s_2 f_2 bv)
 (cF:Dp K ai "lost_parts" "Spreading.lost_parts" zo f_68 a9)
 (cG:Dp K ai "keeping" "Spreading.keeping" zp f_69 ba)
 (bx:jC K ad nj=ab)
 (bz:ki K ad=ab)
 (bA:lI K ad=ab)
 (bB:cw K (.ref ad) "__setattr__"=aa (aa (.builtin "object.__setattr__")))
 (lp:lJ K ad=ab)
 (bC:iG K (.ref ad)=ab)
 (hI:cw K (.ref ad) "thing"=aa ac)
 (bg:jC K ae nj=ab)
 (bh:ki K ae=ab)
 (bi:lI K ae=ab)
 (bj:cw K (.ref ae) "__setattr__"=aa (aa (.builtin "object.__setattr__")))
 (li:lJ K ae=ab)
 (bk:iG K (.ref ae)=ab)
 (g2:cw K (.ref ae) "thing"=aa ac)
 (p:jC K af nj=ab)
 (m:ki K af=ab)
 (q:lI K af=ab)
 (r:cw K (.ref af) "__setattr__"=aa (aa (.builtin "object.__setattr__")))
 (j0:lJ K af=ab)
 (n:iG K (.ref af)=ab)
 (ge:cw K (.ref af) "bound"=aa ac)
 (fy:cw K (.ref af) "pieces"=aa ac)
 (aj:jC K ag nj=ab)
 (ak:ki K ag=ab)
 (al:lI K ag=ab)
 (am:cw K (.ref ag) "__setattr__"=aa (aa (.builtin "object.__setattr__")))
 (ky:lJ K ag=ab)
 (an:iG K (.ref ag)=ab)
 (gw:cw K (.ref ag) "bound"=aa ac)
 (gm:cw K (.ref ag) "pieces"=aa ac)
 (f:jC K ai nj=ab)
 (c:ki K ai=ab)
 (g:lI K ai=ab)
 (j:cw K (.ref ai) "__setattr__"=aa (aa (.builtin "object.__setattr__")))
 (hY:lJ K ai=ab)
 (d:iG K (.ref ai)=ab)
 (eF:cw K (.ref ai) "sheet"=aa ac)
 (ff:cw K (.ref ai) "steps"=aa ac)
 (fx:cw K (.ref ai) "bars"=aa ac)
 (eD:cw K (.ref ai) "guards"=aa ac)
 (as:cw K (.ref ai) "watches"=aa ac)
 (dl:cw K (.ref ai) "waiting"=aa ac)
 (eH:cw K (.ref ai) "makers"=aa ac)
 (l0:dC K b9 "all"=aa ac)
 (ii:dC K b9 "any"=aa ac)
 (lj:dC K b9 "bool"=aa ac)
 (hO:dC K b9 "enumerate"=aa ac)
 (nk:dC K b9 "int"=aa ac)
 (e6:dC K b9 "isinstance"=aa ac)
 (md:dC K b9 "len"=aa ac)
 (h7:dC K b9 "list"=aa ac)
 (nl:dC K b9 "min"=aa ac)
 (h9:dC K b9 "range"=aa ac)
 (mu:dC K b9 "set"=aa ac)
 (h8:dC K b9 "sorted"=aa ac)
 (nq:dC K b9 "str"=aa ac)
 (i1:dC K b9 "sum"=aa ac)
 (kT:dC K b9 "tuple"=aa ac)
 (j1:iP K "bool")
 (lk:iP K "int")
 (ld:iP K "list")
 (ll:iP K "str")
 (kr:iP K "tuple")
  : ∃a:Wa,∃W:Wd K mg a,a.e_1.1=fa/\∀(s:ah) (v:Value),BindsTo s a.e_1.2 ([v],[]) [("_law_script",v,)]:=by
 have e:=hfa.symm.trans (W.mg_of X G b8.a);cases e;have hc:∃cl:Str->Addr,ad=cl "In" /\ ae=cl "Out" /\ af=cl "Least" /\ ag=cl "Most" /\ ai=cl "Spreading":=(λs=>if s="In" then ad else if s="Out" then ae else if s="Least" then af else if s="Most" then ag else if s="Spreading" then ai else 0,rfl,rfl,rfl,rfl,rfl);have(cl,rfl,rfl,rfl,rfl,rfl):=hc
 show(((f_4,bl,),(f_37,ao,),(f_38,ap,),(f_21,L,),(f_11,x,),(f_52,aq,),(f_22,M,),(f_23,N,),(f_0,bm,),(f_24,Q,),(f_53,ar,),(f_74,au,),(f_7,bn,),(f_54,av,),(f_12,y,),(f_3,bo,),(f_13,z,),(f_8,bp,),(f_25,T,),(f_26,U,),(f_27,Y,),(f_39,aw,),(f_14,A,),(f_40,ax,),(f_15,B,),(f_9,bq,),(f_55,ay,),(f_5,br,),(f_16,C,),(f_28,az,),(f_41,aA,),(f_29,aB,),(f_56,aC,),(f_57,aD,),(f_30,aE,),(f_42,aF,),(f_31,aG,),(f_17,E,),(f_1,bs,),(f_70,aH,),(f_43,aI,),(f_58,aJ,),(f_59,aK,),(f_60,aL,),(f_32,aM,),(f_71,aN,),(f_44,aO,),(f_61,aP,),(f_62,aQ,),(f_63,aR,),(f_33,aS,),(f_72,aT,),(f_45,aU,),(f_64,aV,),(f_65,aW,),(f_46,aX,),(f_34,aY,),(f_73,aZ,),(f_47,a0,),(f_66,a1,),(f_67,a2,),(f_48,a3,),(f_35,a4,),(f_6,bu,),(f_18,H,),(f_49,a5,),(f_10,w,),(f_50,a6,),(f_51,a7,),(f_19,I,),(f_36,a8,),(f_20,J,),(f_2,bv,),(f_68,a9,),(f_69,ba,),cl),(cH.mk2 X G,bD.mk2 X G,bE.mk2 X G,bF.mk2 X G,bG.mk2 X G,bH.mk2 X G,bI.mk2 X G,bJ.mk2 X G,cI.mk2 X G,bK.mk2 X G,bL.mk2 X G,bM.mk2 X G,cJ.mk2 X G,bN.mk2 X G,bO.mk2 X G,cK.mk2 X G,bP.mk2 X G,cL.mk2 X G,bQ.mk2 X G,bR.mk2 X G,bS.mk2 X G,bT.mk2 X G,bU.mk2 X G,bV.mk2 X G,bW.mk2 X G,cM.mk2 X G,bX.mk2 X G,cN.mk2 X G,bY.mk2 X G,bZ.mk2 X G,b0.mk2 X G,b1.mk2 X G,b2.mk2 X G,b3.mk2 X G,b4.mk2 X G,b5.mk2 X G,b6.mk2 X G,b7.mk2 X G,b8.mk2 X G,bc.mk2,ca.mk2,cb.mk2,cc.mk2,cd.mk2,ce.mk2,bd.mk2,cf.mk2,cg.mk2,ch.mk2,ci.mk2,cj.mk2,be.mk2,ck.mk2,cm.mk2,cn.mk2,co.mk2,cp.mk2,bf.mk2,cq.mk2,cr.mk2,cs.mk2,ct.mk2,cu.mk2,cv.mk2,cx.mk2,cy.mk2,cz.mk2,cA.mk2,cB.mk2,cC.mk2,cD.mk2,cE.mk2,cO.mk2,cF.mk2,cG.mk2,W.mg_of X G bw,(bx,bz,bA,bB),(lp,bc.a,bc.i,bC),hI,W.mg_of X G bb,(bg,bh,bi,bj),(li,bd.a,bd.i,bk),g2,W.mg_of X G l,(p,m,q,r),(j0,be.a,be.i,n),ge,fy,W.mg_of X G u,(aj,ak,al,am),(ky,bf.a,bf.i,an),gw,gm,W.mg_of X G b,(f,c,g,j),(hY,cv.a,cv.i,d),eF,ff,fx,eD,as,dl,eH,fS X G l0,fS X G ii,fS X G lj,fS X G hO,fS X G nk,fS X G e6,fS X G md,fS X G h7,fS X G nl,fS X G h9,fS X G mu,fS X G h8,fS X G nq,fS X G i1,fS X G kT,j1,lk,ld,ll,kr),rfl,b8.bt (λ_ _ _ _ _ _=>Hv λ_=>rfl))
end N_k35
structure PySem.W.Fast:Prop where
 (tw18063167558647860778 tw18069571331916448308 tw3295326965548314928 tw14837564775806213510 tw2312191747428560643 tw9993374092054554954 tw1956994339589549759 tw3609107654355111139 tw3332782191076375447 tw15013314884070191798 te6562295813918167417 te14344739394939868365 te6282477543896762631 te17852715271613583405 te5494671076879320998 te14640324294689681434 te7604109844063042879 te13954433511823022003 te2897070605727392214 te17022059964200066870 te1561834567057974300 te16221058896016223381 te8430400663771643296 te12293167846439255713 te5800001867635713871 te3759846065470054292 te11629684035369117098 te11186039160419055572 te8255585805539228764 te16493269003917672199 te17809699764235989309 te18295491646499819826 te10816059398550698390 te17346040117143623904 te13664090845660752461 te6644204812727558812 te12670706104443022844 te17188663706944063973 te4682531817137153685 te2291099468552172110 te3456500646832515146 te7875434585003749449 te16948949479801312811 te9546428849976178218 te13559028847833340785 te13577103229084836408 te13565948930582753241 te16578235673728165660 te3922169314619259415 te2007891302543743479 te2519133604889209962 te17673071877033759879 te17627607713147103453 te15852182645858064061 te13124556819717574470 te14308231687238632090 te10432122594873879480 te7715377940474434768 te16300832650921339073 te11010770308600086187 te15168173748803784742 te8025820837295874714 te3461960539940048871 te3078946364320249106 te2612900403705276709 te5900253995693079923 te18177518188024925699 te13760857827137898682 te10806232926898446330 te16460999005052383704 te7265443393980282247 te17710031941385731654 te226941646974173704 te16339889818363764432 te4897044650341415769 te15528475493369993601 te16764851833948606708 te15814334009290998846 te2694288787507570880 te11821597262951157044 te17690781760896870319 te9167245741575589979 te354420903230812365 te14166264776855842443 te10683049109707575075 te11097406616425903383 te14571075562073446139 te5121137079237309999 te176637534136043274 te6345615562865658144 te3514172711505156898 te14835034944629934812 te16585140149622939218 te7839463622427563388 te979047202464103001 te11900631516638554263 te18109467108914716912 te12063740373906630442 te9650169537477506408 te407664862606450140 te14131953954982269223 te6839483503146630292 te5614937436824877046 te4310601444818862440 te17260079348765880825 te10115070335492330297 te11524004590537439166 te1694903270692634268 te2829342693616006081 te15218633732677474105 te8934486098737135683 te6299782927300638017 te10722205975920320492 te565869589456434783 te6067321531956255800 te394563764731289876 te11717868336196161490 te9623942472770056111 te11043450567865351986 te5261459780874557630 te18369581841161660589 te7783907138501202031 te9454574580086229364 te10686618056688443354 te10535095867573984287 te8340785891998789278 te3657811492520993994 te7262548042938438425 te9848762134994466236 te14009284190075946476 te9604241415980816600 te11964174068095539821 te13810883151081248603 te10778293724327792474 te3988119288987248709 te1416730941811330079 te2949130005731913088 te2279446817760356413 te13946025498111277008 te12148156196840851038 te11141236152181469125 te13397079639767179312 te102693215663960402 te17642207931461127730 te6674387895828949419 te3497952355826028622 te5630731262658821397 te4745059767946209289 te16172339734319849146 te14908331992805300646 te7121726495344759399 te9766179236546486827 te8370429418953126687 te18069651553472770104 te7738459007280593397 te7999680074648265612 te366071036263410735 te16584348822179205570 te6246279075329062603 te7623609813923441222 te4133291042664809233 te15914984824736755706 te17470323474657945999 te14563707155761403529 te3450743479353842548 te15941752426259438772 te15012775955255410649 te8590349546178131485 te6987634404285447978 te3381843347190931227 te11073078196497227948 te9554049521063738606 te17845586319934559570 te12251120296879067407 te6337687244024936480 te9996725083726077818 te18166532851422001481 te4134409753407835594 te6186279664884148937 te14417226402964517145 te8521857147221447759 te9527325021878960088 te12262143436335810957 te17087924861453636408 te6373772294852320424 te17139625851739493534 te1739035110033265679 te10436101591891201566 te6985004717300911736 te3196100811396135120 te14585918175840609655 te16177944316223060262 te1884783596691574307 te12050174004028513300 te12576745273784960323 te13721329560637546451 te12764723035631632698 te122926049444584237 te2421272478012710015 te167167955095784102 te16708361648574216428 te18124352328366010543 te5318515992865473207 te17572183114808690193 te12339457182175496974 te3727270189822594958 te5052701726906218874 te11069094772565347529 te7943779115948486916 te6711074795771108262 te5953022246714110454 te14353803332390286843 te17174398287149920143 te10502292245535017195 te2315255249816598299 te17954186284281965704 te9995820216994316819 te3110563537587313166 te1897070259572094619 te17964661105095887288 te682953667988417055 te802515389017809246 te5256068211586492514 te10604123607541024894 te8805666613066976901 te176355638613580019 te3358577074081043670 te15592331679344887561 te10975167258730985113 te10178834305882888600 te9229077116565927306 te6375429450705315015 te8239061268638972005 te3601260640210981889 te4783503905381725070 te5916946928488826466 te13283293682596571827 te6739178117108028598 te17142991037028433294 te9973634053262107267 te10728074325676838410 te621066591070753785 te1854786531761391357 te10442904006563555368 te8398167241486371892 te8320169202268914942 te6378673690839666747 te3325085272995397852 te14962330852355349733 te9507958695925438601 te940626068512136397 te5808798887387582115 te17103430866386226124 te14268416151465316924 te13091273281321915559 te6166466181168784518 te4938497260178157736 te10332134796646656217 te431308344306778308 te15701023468876852183 te13977085437568334548 te690594416796956219 te3765742849888376854 te10725814061471089753 te7389817627644833640 te18120024967432171690 te8095409123307730276 te4284525375790958468 te1963504036296578097 te16929752929658104471 te1584558717456414668 te2923581412090633942 te15321718909755312119 te12089053728273236443 te10678522589857536074 te4096725226212213870 te14472318314298255076 te13893664911665343594 te5031256796015311649 te10691962219420736643 te3521790987571772981 te4464507005414800446 te14345419075816529475 te6131614945689443317 te13902755574806172614 te12962374236410174127 te8087587406097461899 te5993403624027734036 te2312840947303501797 te16818783799102380273 te8662695437375806600 te13899653519355230659 te9952209240375420004 te6955220542724762742 te18325747777425103946 te11616133293500431287 te10965420957014692325 te16737415232653746057 te13882437722075361293 te11619861187105928380 te4495858316117772483 te17261236858697590580 te16113999311706929314 te3229201448871774450 te1653110822632331048 te1147331000537222010 te2724771616013825601 te17027085360977596325 te13925338537819305602 te11461711826502269887 te9170290848011896905 te5710699826181242933 te15732265212346683800 te12651749325893255066 te10758845292644189078 te7900099677853215841 te2649191091622686450 te15221712312695354102 te5469592799631446148 te3677318666969805620 te7695204484182835360 te7310485027399753527 te2447462811984905144 te8506353600915722960 te2018763207749052723 te6940030315897027389 te3730758111542784075 te3322424899350204238 te15892782572855149485 te13418219777921854643 te11105186328013165618 te5412049028513055047 te2735050005659335321 te11808598772598231902 te2431583411081974205 te8845978024893269722 te1753104644476122541 te5640263302281298056 te2854335990086793327 te3882599219858572194 te4792921678115919405 te15917161275810080878 te4731813088224309519 te9927704635170066624 te7512718687249144488 te9227551582835442266 te2945363569526189676 te14711005365250387232 te11596570949875649131 te8011740663222768819 te10520758879700380584 te6532699360055862862 te16794254773043673801 te13093924589630925095 te12548704799009248845 te17671744784116483330 te5637123341875678717 te10592343181392178616 te9109386024121803793 te6465009473170306819 te17821789946658131980 te12551928624443179811 te9570081118458779233 te4960988974147630762 te2087045817348361393 te13106461644986436266 te12488972551195130537 te832099647365204498 te455476230073105072 te1286436022936929237 te12419020753971602125 te16542480183576449562 te8646808953687738463 te11498036928398563803 te9620222767401791960 te12030905130189892732 te12881033698837521466 te8737240420256228423 te6244583000212658021 te5145139808322279945 te4981633563021315061 te5642749864626502489 te3614672144367724186 te1635417104756981417 te13042981776310985436 te9071213459099563054 te9954212163958934750 te16871298889308130545 te9609409323560837799 te10815942098813789272 te9452706135577610749 te8633538380855675296 te8186581307866431902 te17959158832562992647 te16239144952725685544 te10119559167057787471 te5262967552915838087 te9432067807498269595 te12558707220459463857 te790614001234681771 te103762220793685405 te9775698607343009422 te7997154286576766143 te7180918065390156587 te6168773162089844757 te6011164707904515734 te2965783118972782636 te2356764693282593329 te17491867516370861686 te17283418054481231926 te17248373148984784940 te10797616855856215262 te10636298729158516742 te10026525221585824238 te9560309115251617179 te2861466769442870857 te1826756205377105732 te17876542377245187233 te12645765018194576767 te11847213891505403302 te7684649902793484246 te5768782193672759036 te4436640264944080014 te13463065221971808000 te9604348143046149763 te4629708194301460583 te42566589585743817 te3732342314302812612 te15246051132691753990 te14977189889511013026 te9979207237011383190 te9791784470390016477 te9750897799784047460 te9679327212965284744 te9503960909781640479 te9494732789492378901 te9400469019631639977 te9313784840616134674 te9290618140403513011 te9102119783995626689 te8954618048636768342 te8927119273801322063 te8813675130059808480 te8700256001952777706 te8517791510020579287 te8461288795602512167 te8343007338351165850 te8317190103006074800 te831542243377049281 te8270025286920094270 te8243468180407299959 te8167026779460119487 te7949433552860281530 te7860244078691844090 te7735404067499695300 te7690268443250242546 te7448386526817180420 te7350262084146710146 te7346535542215228116 te7222690034617478919 te7124264732705533474 te6890095838236081950 te6877062448547852657 te6836703787550991667 te6756649615374011463 te6478048155802350583 te647570511158651254 te6415183298196481655 te6253092008748602076 te6134108472616870328 te6127180794216329004 te6105822480655218265 te6020359057153885561 te6017906090649835905 te579476046103766831 te5731162198541015729 te5721425904277615004 te5683657834955175540 te5659056217150345838 te5428836682404454214 te5420516622231136766 te532355640094500561 te5168639266331261839 te4933835076367348199 te4829929453127962833 te482487276446933589 te4556371182999183648 te4224347029142769690 te3995780087013999650 te3938082542820026203 te3738400845957407369 te3688442081518081311 te3221112597479389930 te3149346182229891891 te3138673429087474228 te2386986552242380456 te2313185227739309650 te2307827487183818 te2286639992608854367 te226375047500329279 te2255202210215645062 te2139704133323313743 te2018964731096881209 te1990393274065899221 te1984074755080996743 te1930048009981132567 te1897207066638963598 te18433075059333655425 te18364574808956755072 te18348001862478726217 te18191597373281316467 te18173928538173339013 te18125159091048495141 te1808002530572793449 te18030681217390105187 te17932225796375083193 te17894518990469303866 te17804476769426685154 te1736535568011350607 te17337641042165638685 te17284409547034086420 te17277143896676732032 te17231617698869459829 te17218734594302835370 te16799683763664267010 te16734782082632621822 te16554519244017247192 te16489955931018168199 te16385184330443077851 te16205086235098041469 te16156967641413591729 te16061274170602446677 te15734623215126102660 te15715880175088400644 te15663462802766654563 te15624899826656227997 te15546615113645642154 te15374184768153722167 te15229983447845815301 te14828041503037110734 te14628634433767522393 te14451775046498014094 te14426086804355767288 te14347926048099174568 te1405396431247264520 te14048850964263150990 te13988371734595800478 te13919356926182464568 te13770123813711645408 te13752154744360731988 te13696561627070072336 te1361089483660129894 te1347806643924614391 te13417696187928811872 te13280598647077724089 te13140049977019508864 te1309589798728264719 te1306147558241468644 te13027655340860242996 te12897517529887476499 te12836336682264319904 te12825973289818776550 te12707166109631727854 te12594004080841066708 te12589261314013676581 te12152255291221798218 te1208429976821653228 te11998402266735207535 te1196198197660590637 te11930195299426145700 te11721478207516898499 te11668685111317207087 te11579981501556539433 te11462292742470631211 te1139176779181533014 te11362649133633696748 te11213633373144155724 te11053726635100895133 te11033188400796901387 te10960011721387083300 te10880884797642680508 te10821319908061818915 te10816932177716350843 te10773965396209945892 te10771443656400969832 te10635686770960961631 te1038203195566697572 te10263266312070383951 te10243114770694643186 te10183273048958001326 te10087518534484181581 te10008938797388514850:True)
open PySem PySem.W PyProof.Rows
set_option maxRecDepth 100000 in
set_option maxHeartbeats 0 in
theorem PySem.Challenge.cw_standstill_k35_spread_walked_holds : PySem.Challenge.rw_standstill_k35_spread_walked.Holds := by
 w_on; o_law; k_head; (case hw=>w_witness2)
 k_fill
 refine L2.walk_ofK (l:=PySem.Challenge.rw_standstill_k35_spread_walked) (n:=63) (k:=9) (x:="_law_script") (CX:=L2.CX0) (sp:=N_k35.sp_law) rfl (by decide) rfl ⟨rfl,by decide,by decide⟩ (fun w h Y=>PySem.W.kIn_of Y) ?F (fun _ _ a ns hl _ hS=>N_k35.sp_law_of hl hS) (fun _ _ _ _ z=>z)
 case F =>
  intro w mg fa h KX G hmg
  have TT : ∃ a : N_k35.Wa,∃ W : N_k35.Wd (L2.KOf KX) mg a,a.e_1.1=fa /\ ∀ (s:Shared) (v:Value),BindsTo s a.e_1.2 ⟨[v],[]⟩ [("_law_script",v)]:=by
   dsimp only [L2.KOf]
   refine' N_k35.all_mk KX G hmg ..
   all_goals first | k_is | kit_is | k_exc | exact ⟨by k_is,L2.fun_mk (by k_is) (by k_is) (by k_is)⟩ | exact ⟨by k_is,by k_is,L2.fun_mk (by k_is) (by k_is) (by k_is)⟩ | (intro t ht; simp only [List.mem_cons,List.not_mem_nil,or_false] at ht; rcases ht with rfl | rfl | rfl | rfl | rfl | rfl | rfl <;> kit_is) | skip
  obtain ⟨a,W,e1,hb⟩:=TT
  subst e1
  exact ⟨_,hb,fun base kb nb=>N_k35.law_ok W⟩
