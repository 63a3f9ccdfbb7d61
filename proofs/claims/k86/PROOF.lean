import PyProof.Rows.All
import Wide.All
import OpenK.AllK
import Wide.FinOn
import Lean
import PyProof.EqAt
import PyProof.EqKinds
import PyProof.TupleCall
import PyProof.NeKinds
import PySem.Challenge.RW_standstill_k86_shown_and_put_again
set_option Elab.async false
set_option genSizeOf false
set_option linter.all false
set_option compiler.extract_closed false
set_option bootstrap.genMatcherCode false
local macro_rules
|`(def $d:declId $b* :$t $v:declVal)=>`(theorem $d $b* :$t $v:declVal)
|`(nonrec def $d:declId $s:optDeclSig $v:declVal)=>`(@[reducible] noncomputable def $d $s:optDeclSig $v:declVal)
|`(abbrev $d:declId $s:optDeclSig $v:declVal)=>`(noncomputable def $d $s:optDeclSig $v:declVal)
set_option maxRecDepth 100000
open Array renaming getElem?_toList->uC,length_toList->uD,getElem?_eq_none->yR
open Bool renaming false->ag,true->ac,false_ne_true->cq,and_eq_true->cV,or_eq_true->gV,eq_iff_iff->iA,false_eq_true->lZ,noConfusion->qN,or_eq_false_iff->uE,and_false->uF
open False renaming elim->iB
open ForInStep renaming yield->oU
open Int renaming toNat_natCast->qO,emod_lt_of_pos->yS
open List renaming length_append->aI,length_map->ay,mem_singleton->bi,getElem?_eq_some_iff->dD,length_cons->bg,getElem?_eq_getElem->dE,mem_cons_self->bB,mem_cons_of_mem->cD,map_append->bF,getD_eq_getElem?_getD->fF,append_assoc->cL,length_singleton->e7,append_nil->cr,not_mem_nil->cO,mem_map->bp,mem_append->cM,getElem?_map->gf,mem_cons->bZ,range->cW,length_range->e8,getElem?_set_ne->iO,replicate->gm,getElem?_set_self->jV,mem_append_right->h7,getElem?_append_right->l5,length->fG,flatMap_append->gX,mem_flatMap->f8,getElem?_append_left->m8,map_cons->eL,zip_cons_cons->iP,length_pos_iff->jW,flatMap_cons->iQ,length_nil->gY,nodup_nil->gp,length_take->iR,take_of_length_le->m9,getElem_mem->na,reverse_cons->jX,nodup_append->jY,length_replicate->nc,length_eq_zero_iff->oV,reverse_reverse->ng,length_zip->jl,nil_append->jm,map_congr_left->nh,getElem?_cons_succ->uG,getElem?_toArray->uH,drop_eq_nil_of_le->qP,mem_reverse->l6,any_cons->iS,nodup_iff_pairwise_ne->uI,drop_eq_getElem_cons->uJ,mem_of_getElem?->qQ,map_fst_zip->ni,getElem?_replicate->yT,ext_getElem?->oW,length_reverse->qR,mem_filter->nj,mem_range->l7,getElem?_eq_none->yU,lookup_cons->oX,length_filter_le->uK,getElem?_range->yV,take_add_one->qS,all_cons->l8,length_drop->qT,cons_append->qU,filter_cons_of_pos->yW,filter_cons_of_neg->yX
open List.Nodup renaming length_le_of_subset->yY
open Nat renaming le_refl->bh,ne_of_lt->cu,le_trans->cP,lt_of_lt_of_le->f9,zero_le->gg,lt_irrefl->jZ,le_of_ble_eq_true->oY,pow_le_pow_right->oZ,le_of_lt->k9,add_zero->lb,lt_succ_self->o0,ne_of_gt->ma,le_succ_of_le->uL,lt_succ_of_lt->uM,le_of_not_lt->uN,min_self->qV,succ_mul->qW,mul_le_mul_right->yZ,le_succ->qX,le_of_eq->uO,zero_add->uP,le_add_right->y0
open Ne renaming symm->cE
open Option renaming some->aa,bind_some->aG,none->ab,bind_eq_some_iff->cI,map_eq_some_iff->nk
open Option.some renaming inj->cN
open Or renaming inr->bP,inl->cF
open PyProof.Rows renaming callWith_type1->nq,slot_tuple_getitem->y3,joinParts_cons->qY,callWith_builtin1->EY,envOfC->iC,AllBare->lf
open PySem renaming wpAny_bind->aE,wpAny_pure->bq,sizeLine->be,starEach->bf,Shared->aL,mainGlobals->cQ,sizeLine_eq->c6,boot_len->ga,wpAny_holding->fH,foldedSetIterable->iD,compareOp->dP,assignEach->fI,swapsWith->fo,bootBuiltins->h8,Program->du,Builtin->EZ,wpAny_mono->gr,wpAny_Call_Name_kw->md,wpAny_truthy_bool->me,wpAny_passesOwn->lg,FuncData->fT,sysModules->h9,binaryOp->gh,backTo->d5,holding->gb,keywordEach->j0,codeAny_builtin->nr,wpAny_pyIter_list->o2,attributeBase->mf,NameKind->gZ,mem_of_lookup->qZ,wpAny_loadName_local->q9,wpAny_field->lh,Around->dQ,wpAny_typeOf->mh,wpAny_execs_nil->o3,behindInMarks->nt,wpAny_getItem_str_slice->uQ,codeAny->g3,wpAny_execs_cons->rf,plainId_quiet->o4,call_meets->mi,sliceBounds->nu,Builtin->fc,codeAny_mono->o5,backToKw->j1,getattributeRaised->uR,valueAt->iT,wpAny_seqItems->rg,typeIs_str->nw,standAt->jo,swapsWithSole->rh,swappedStores->rj,wpAny_callSpecial?_slot->y4,intText?->uS,wpAny_pyNext_list_item->y6,assign->iE,PassesOwn->nA,wpAny_pyNext_list_end->y7,getMethod->nB,Keyword->j2,post_val_or_str->uT,builtinLookup_eq_fast->y8,wpAny_notOrdered_dict->y9,wpAny_Name->o6,typeLookup->o7,wpAny_rule->o8,Spec->WF,JoinOk->uU,subscripted->rm,getItem->li,wpAny_standAt->uV,stored->jq,strValues->o9
open PySem.Around renaming under_plainId->uW,in1_units->za
open PySem.Builtin.Dict renaming updateFrom->uX,selfAndRest->E1,pairItems->E2
open PySem.Builtin.Int renaming intBits->uY
open PySem.Builtin.List renaming listExtendWith->uZ,listTooLong->E3,listItems->E4
open PySem.Builtin.Slice renaming slicePlaces->zb,sliceAdjust->E5
open PySem.Builtin.SmallTypes renaming ownedTupleIsFree->u4,nextOf->zc
open PySem.Builtin.Str renaming strSliceIndices->zd,occurrences->E6
open PySem.Calls renaming spliced_cons->lj,spliced_nil->u5,callWith_builtin->ze,evalArgs_plain->zf,Constant_str->zg
open PySem.F renaming plainAttrs_list->eM,slot_list_append->fU,type_list_append->fV,plainAttrs_str->iF,slot_str_join->ll,type_str_join->lm,slot_list_extend->rp,type_list_extend->rq,called_set->mj,slot_list_getattribute->zh,slot_zip_getattribute->zi,plainAttrs_dict->zj,slot_dict_get->zk,slot_zip_next->u6,slot_dict_setdefault->E7,args_str_split_2->zl,slot_str_startswith->E8,type_str_startswith->E9,kt_typeCall_dict_1->Fa,entry_str_split->zm
open PySem.Heap renaming get?_push_of_some->cj,lt_size->bT,get?_push_size->eW,get?_update_other->nC,get?_update_self->rA,SameBut->jr,size_push->rB
open PySem.Heap.DictOf renaming new->zn
open PySem.Heap.IsSliceOf renaming new->Fb
open PySem.NameKind renaming free->gE,cell->nE
open PySem.Obj renaming mapSeq->iG
open PySem.PassesOwn renaming never->c9
open PySem.SeqAt renaming EqAt->dR
open PySem.SeqAt.EqAt renaming same->zo
open PySem.Str renaming empty->jt,ofString->nF,join->j3
open PySem.StrLaws renaming split_free->zp,join_split->zq
open PySem.Txt renaming slice->iH,split->ju,join->u7,startswith->u8,slice_le->u9
open PySem.Value renaming bool->g4,ref->gt,type->ln,none->pb
open PySem.W renaming Frag->br,mg_none_of->g5,nsIn->eN,findIn->ia,kia_one->jv,emptyDict->mm,instObj->mo,mg_of->jw,keepIn->nG,plainGet->rC
open PySem.W.KIN renaming signs_num->zr
open Sum renaming inr->j4
open Sum.inr renaming inj->va
open ToString renaming toString->lq
open True renaming intro->jx
nonrec abbrev LB0:=List Bool
nonrec abbrev LI0:=List Int
nonrec abbrev LII:=List (Int×Int)
nonrec abbrev LOB:=List (Option Bool)
nonrec abbrev PRS:=PySem.Value->PySem.Shared->Prop
nonrec abbrev MGT:=PySem.Str->Option PySem.Value
nonrec abbrev PNS:=List (PySem.Addr×PySem.Obj)
nonrec abbrev LN:=List Nat
nonrec abbrev L2N:=List LN
nonrec abbrev LSt:=List PySem.Str
nonrec abbrev LVa:=List PySem.Value
nonrec abbrev LAd:=List PySem.Addr
nonrec abbrev LEx:=List PySem.Expr
namespace L2
open List
open PySem PySem.Spec PyProof.Rows
nonrec def Key:=Sum Int Str
abbrev nH:Key->Value->Bool
 |.inl k,v=>Value.isInt k v
 |.inr x,v=>Value.isStrOf x v
abbrev LU(w:World):Key->Int
 |.inl k=>hashInt k
 |.inr x=>hashStr w x
def j5:∀{k:Key} {v:Value},nH k v=ac->(∃i t,k=Sum.inl i/\v=Value.int i t)\/(∃x t,k=j4 x/\v=Value.str x t)
 |.inl i,v,h=>by
  obtain⟨t,e⟩:=Value.isInt_shape h
  exact .inl ⟨i,t,rfl,e⟩
 |.inr x,v,h=>by
  obtain⟨t,e⟩:=Value.isStrOf_shape h;exact .inr ⟨x,t,rfl,e⟩
def LV(i:Int)(t:Tok):nH (.inl i) (.int i t)=ac:=by simp[nH,Value.isInt]
def LW(x:Str)(t:Tok):nH (.inr x) (.str x t)=ac:=by simp[nH,Value.isStrOf]
def LX(a b:Int):decide ((Sum.inl a:Key)=Sum.inl b)=(a==b):=by grind
def LY(a b:Str):decide ((j4 a:Key)=j4 b)=decide (a=b):=by grind
def LZ(a:Int)(b:Str):decide ((Sum.inl a:Key)=j4 b)=ag:=decide_eq_false (λq=>nomatch q)
def L0(a:Str)(b:Int):decide ((j4 a:Key)=Sum.inl b)=ag:=decide_eq_false (λq=>nomatch q)
abbrev dF(prog:du)(w:World):PySem.KeyKind prog w Key where
 is:=nH
 hash:=LU w
 inj:=λv a b ha hb=>by
  rcases j5 ha with⟨i,t,rfl,rfl⟩ |⟨x,t,rfl,rfl⟩
  .rcases j5 hb with⟨W6,u,rfl,e⟩ |⟨y,u,rfl,e⟩
   .injection e with e1 _;rw[e1]
   .exact nomatch e
  .rcases j5 hb with⟨W6,u,rfl,e⟩ |⟨y,u,rfl,e⟩
   .exact nomatch e
   .injection e with e1 _;rw[e1]
 byValue:=λk v h=>by
  rcases j5 h with⟨i,t,rfl,rfl⟩ |⟨x,t,rfl,rfl⟩ <;> rfl
 pyHash:=λhv h=>by
  rcases j5 hv with⟨i,t,rfl,rfl⟩ |⟨x,t,rfl,rfl⟩
  .exact wpAny_pyHash_int h
  .exact wpAny_pyHash_str h
 eqBool:=λhu hv h=>by
  rcases j5 hu with⟨i,t,rfl,rfl⟩ |⟨x,t,rfl,rfl⟩
  .rcases j5 hv with⟨W6,u,rfl,rfl⟩ |⟨y,u,rfl,rfl⟩
   .rw[LX]at h;exact wpAny_eqBool_int h
   .rw[LZ]at h;exact dR.int_str i t y u _ _ _ _ h
  .rcases j5 hv with⟨W6,u,rfl,rfl⟩ |⟨y,u,rfl,rfl⟩
   .rw[L0]at h;exact dR.str_int x t W6 u _ _ _ _ h
   .rw[LY]at h;exact wpAny_eqBool_str h
 «strs»:=λk x t v h=>by
  rcases j5 h with⟨i,u,rfl,e⟩ |⟨y,u,rfl,e⟩
  .exact nomatch e
  .injection e with e1 _
   subst e1
   cases v <;> rfl
def Fc(prog:du)(w:World)(i:Int)(t:Tok):(dF prog w).is (.inl i) (.int i t)=ac:=LV i t
def Fd(prog:du)(w:World)(x:Str)(t:Tok):(dF prog w).is (.inr x) (.str x t)=ac:=LW x t
inductive V where
 |non |bl (b:Bool) |int (i:Int) |str (x:Str) |byt (b:Array UInt8) |flt (b:UInt64) |ref (a:Addr) |ty (n:String)
 deriving DecidableEq
nonrec abbrev LVv:=List V
abbrev aZ:V->Value->Prop
 |.non,u=>u=pb
 |.bl b,u=>u=g4 b
 |.int i,u=>∃t,u=Value.int i t
 |.str x,u=>∃t,u=Value.str x t
 |.byt b,u=>∃t,u=Value.bytes b t
 |.flt b,u=>∃t,u=Value.float b t
 |.ref a,u=>u=gt a
 |.ty n,u=>u=ln n
nonrec abbrev ba:LVv->LVa->Prop:=Paired aZ
variable{M:LVv}{us:LVa}
def ba.length(r:ba M us):M.length=us.length:=Paired.length r
def ba.get:∀{M:LVv} {us:LVa} {i:Nat} {x:V},ba M us->M[i]?=aa x->∃u,us[i]?=aa u/\aZ x u
 | _,_,_,_,.nil,e=>by simp at e
 | _,_,0,_,.cons r _,e=>by simp at e;subst e;exact⟨_,rfl,r⟩
 | _,_,i+1,x,.cons _ t,e=>by
  obtain⟨u,a,b⟩:=ba.get t (by simpa using e);exact⟨u,by simpa using a,b⟩
def ba.set{x:V}{u:Value}(r:aZ x u):∀{M:LVv} {us:LVa} (i:Nat),ba M us->ba (M.set i x) (us.set i u)
 | _,_,_,.nil=>.nil
 | _,_,0,.cons _ t=>.cons r t
 | _,_,i+1,.cons q t=>.cons q (ba.set r i t)
def ba.append:∀{M a:LVv} {us ws:LVa},ba M us->ba a ws->ba (M++a) (us++ws)
 | _,_,_,_,.nil,s=>s
 | _,_,_,_,.cons r t,s=>.cons r (ba.append t s)
def ba.take:∀{M:LVv} {us:LVa} (n:Nat),ba M us->ba (M.take n) (us.take n)
 | _,_,0,_=>.nil
 | _,_,_+1,.nil=>.nil
 | _,_,n+1,.cons r t=>.cons r (ba.take n t)
def ba.drop:∀{M:LVv} {us:LVa} (n:Nat),ba M us->ba (M.drop n) (us.drop n)
 | _,_,0,r=>r
 | _,_,_+1,.nil=>.nil
 | _,_,n+1,.cons _ t=>ba.drop n t
abbrev gF:Option V->Option Value->Prop
 |some v,aa u=>aZ v u
 |none,ab=>True
 | _,_=>False
abbrev KV{a:Type}:List (a×V)->List (a×Value)->Prop:=Paired λ(p:a×V) (q:a×Value)=>p.1=q.1/\aZ p.2 q.2
abbrev kV:Key->V
 |.inl i=>.int i
 |.inr x=>.str x
inductive HO where
 |lst (M:LVv)
 |tup (M:LVv)
 |dK (kvs:List (Key×V)) |dT (kvs:List (List Key×V))
 |set (S:Int->Bool) (n:Nat)
 |ins (W4 dx:Addr) (fs:List (Str×V))
 |own (x:Addr)
 |xd (fs:List (Str×V))
 |met (f x:Addr)
 |rng (lo hi:Int)
 |frz (o:Obj) (u:HO)
 |tbl (ps:Array Value)
 |ext (φ:Heap->Prop)
nonrec def Hp:=Addr->Option HO
abbrev upd(H:Hp)(a:Addr)(o:HO):Hp:=λb=>if b=a then aa o else H b
variable{H:Hp}{a:Addr}{o:HO}
def bL:upd H a o a=aa o:=by unfold upd;rw[if_pos rfl]
variable{b:Addr}
def bG(h:b≠a):upd H a o b=H b:=by unfold upd;rw[if_neg h]
def g6(h:H a=aa o)(h':H b=ab):a≠b:=by
 intro e;subst e;rw[h]at h';cases h'
section
variable(P:du)(w:World)
abbrev gc(H:Hp)(h:Heap)(a:Addr):HO->Prop
 |.lst M=>M.length<=be/\∃(its:LVa) (n:Nat),ba M its/\h.get? a=aa {cls:=.type "list",data:=.seq its.toArray n}
 |.tup M=>M.length<=be/\∃its:LVa,ba M its/\IsTup h a its.toArray
 |.dK kvs=>kvs.length<=be/\(a==h9)=ag/\∃L,KV kvs L/\h.DictOf (dF P w) a L
 |.dT kvs=>kvs.length<=be/\(a==h9)=ag/\∃M:List (List Key×Addr×Value),
   Paired (λ(p:List Key×V) (q:List Key×Addr×Value)=>p.1=q.1/\H q.2.1=aa (.tup (p.1.map kV))/\aZ p.2 q.2.2) kvs M /\
   ∃o es d,h.get? a=aa o/\o.ExactDict/\o.data=.dict es d/\es.toList=M.map (entryOfKey (tupleKind (dF P w)))/\(M.map (·.1)).Nodup
 |.set S n=>h.SetOf (intKind P w) a S n
 |.ins W4 dx fs=>H dx=aa (.own a)/\fs.length<=1000/\dx≠a/\h.get? a=aa (mo W4 dx) /\
   ∃mA,h.Ns1 dx mA/\(∀f,gF (fs.lookup f) (mA f))/\PySem.Within mA (fs.map (·.1))
 |.own _=>∃o,h.get? a=aa o
 |.xd fs=>∃mA,h.Ns1 a mA/\∀f,gF (fs.lookup f) (mA f)
 |.rng lo hi=>∃t u v,h.get? a=aa {cls:=.type "range",data:=.fields #[.int lo t,.int hi u,.int 1 v]}
 |.frz o u=>h.get? a=aa o/\gc H h a u
 |.tbl ps=>h.get? a=aa {cls:=.none,data:=.fields ps}
 |.met f x=>h.get? a=aa (W.methodObj (.ref f) (.ref x))
 |.ext φ=>φ h/\(∃o,h.get? a=aa o)/\∀b c:Heap,φ b->(∀o,b.get? a=aa o->c.get? a=aa o)->φ c
abbrev HOk(H:Hp)(h:Heap):Prop:=∀a o,H a=aa o->gc P w H h a o
end
variable{P:du}{w:World}{h:Heap}
def gc.lt(x:gc P w H h a o):a<h.objs.size:=by
 cases o with
 |lst M=>obtain⟨_,_,_,_,e⟩:=x;exact bT e
 |tup M=>obtain⟨_,_,_,p⟩:=x;exact p.lt
 |dK kvs=>obtain⟨_,_,_,_,o,_,_,e,_⟩:=x;exact bT e
 |dT kvs=>obtain⟨_,_,_,_,o,_,_,e,_⟩:=x;exact bT e
 |set S n=>obtain⟨o,_,_,_,e,_⟩:=x;exact bT e
 |ins W4 dx fs=>obtain⟨_,_,_,e,_⟩:=x;exact bT e
 |own y=>obtain⟨_,e⟩:=x;exact bT e
 |xd fs=>obtain⟨_,⟨_,_,_,e,_⟩,_⟩:=x;exact bT e
 |rng lo hi=>obtain⟨_,_,_,e⟩:=x;exact bT e
 |frz b u=>obtain⟨e,_⟩:=x;exact bT e
 |tbl ps=>exact bT (x)
 |met f y=>exact bT (x)
 |ext φ=>obtain⟨_,⟨_,e⟩,_⟩:=x;exact bT e
def Paired.mapP{c d:Type}{F G:c->d->Prop}:∀{l₁:List c} {l₂:List d},Paired F l₁ l₂->(∀a b,F a b->G a b)->Paired G l₁ l₂
 | _,_,.nil,_=>.nil
 | _,_,.cons r t,f=>.cons (f _ _ r) (Paired.mapP t f)
variable{H':Hp}{h':Heap}
def gc.stay(x:gc P w H h a o)(k:∀b u,(b=a\/H b=aa (.own a))->h.get? b=aa u->h'.get? b=aa u)
 (l:∀b,H b=aa (.own a)->H' b=aa (.own a))(m:∀b M,H b=aa (.tup M)->H' b=aa (.tup M)):gc P w H' h' a o:=by
 induction o with
 |lst M=>obtain⟨z,its,n,r,e⟩:=x;exact⟨z,its,n,r,k _ _ (.inl rfl) e⟩
 |tup M=>obtain⟨z,its,r,g,e,c⟩:=x;exact⟨z,its,r,g,k _ _ (.inl rfl) e,c⟩
 |dK kvs=>obtain⟨z,y,L,r,g,es,i,e,c⟩:=x;exact⟨z,y,L,r,g,es,i,k _ _ (.inl rfl) e,c⟩
 |dT kvs=>
  obtain⟨z,y,M,r,g,es,i,e,c⟩:=x
  exact⟨z,y,M,Paired.mapP r λp q z=>⟨z.1,m _ _ z.2.1,z.2.2⟩,g,es,i,k _ _ (.inl rfl) e,c⟩
 |set S n=>obtain⟨g,es,i,t,e,c⟩:=x;exact⟨g,es,i,t,k _ _ (.inl rfl) e,c⟩
 |ins W4 dx fs=>
  obtain⟨d,z,ne,e,mA,⟨od,es,i,j,c⟩,r⟩:=x
  exact⟨l _ d,z,ne,k _ _ (.inl rfl) e,mA,⟨od,es,i,k _ _ (.inr d) j,c⟩,r⟩
 |own y=>obtain⟨g,e⟩:=x;exact⟨g,k _ _ (.inl rfl) e⟩
 |xd fs=>obtain⟨mA,⟨od,es,i,e,c⟩,r⟩:=x;exact⟨mA,⟨od,es,i,k _ _ (.inl rfl) e,c⟩,r⟩
 |rng lo hi=>obtain⟨t,u,v,e⟩:=x;exact⟨t,u,v,k _ _ (.inl rfl) e⟩
 |frz g u s=>obtain⟨e,q⟩:=x;exact⟨k _ _ (.inl rfl) e,s q⟩
 |tbl ps=>
  have e:=x
  exact k a _ (.inl rfl) e
 |met f y=>
  have e:=x
  exact k a _ (.inl rfl) e
 |ext φ=>obtain⟨p,⟨o,e⟩,st⟩:=x;exact⟨st _ _ p λo q=>k _ _ (.inl rfl) q,⟨o,k _ _ (.inl rfl) e⟩,st⟩
def HOk.lt(x:HOk P w H h)(e:H a=aa o):a<h.objs.size:=(x a o e).lt
def HOk.fresh(x:HOk P w H h)(e:h.objs.size<=a):H a=ab:=by
 cases q:H a with
 |none=>rfl
 |some u=>exact absurd (f9 (x.lt q) e) (jZ _)
def HOk.kept(x:HOk P w H h)(k:∀b u,h.get? b=aa u->h'.get? b=aa u):HOk P w H h':=λa o e=>
 (x a o e).stay (λb u _ q=>k b u q) (λ_ q=>q) λ_ _ q=>q
def HOk.laid(x:HOk P w H h)(k:∀b u,h.get? b=aa u->h'.get? b=aa u)(f:h.objs.size<=a)(new:gc P w (upd H a o) h' a o):HOk P w (upd H a o) h':=λb u e=>by
 have hn:=x.fresh f
 by_cases d:b=a
 .subst d;rw[bL]at e;cases e;exact new
 .rw[bG d]at e;exact(x b u e).stay (λc v _ q=>k c v q) (λc q=>by rw[bG (g6 q hn)];exact q) λc M q=>by rw[bG (g6 q hn)];exact q
abbrev Rd(H:Hp)(a:Addr)(u:HO):Prop:=H a=aa u\/∃o,H a=aa (.frz o u)
variable{u:HO}
def Rd.of(h:H a=aa u):Rd H a u:=.inl h
def Rd.ok(r:Rd H a u)(x:HOk P w H h):gc P w H h a u:=by
 rcases r with r |⟨o,r⟩
 .exact x a u r
 .obtain⟨_,q⟩:=x a _ r;exact q
abbrev Mut:Option HO->Prop
 |some (.lst _)=>True
 |some (.dK _)=>True
 |some (.dT _)=>True
 |some (.set _ _)=>True
 |some (.ins _ _ _)=>True
 |some (.ext _)=>True
 | _=>False
variable{x e:Addr}{o':HO}
def HOk.write(ok:HOk P w H h)(f:Mut (H x))(o:e=x\/H e=aa (.own x))(k:∀b u,b≠e->h.get? b=aa u->h'.get? b=aa u)(i:∃u,h'.get? e=aa u)
 (new:gc P w (upd H x o') h' x o'):HOk P w (upd H x o') h':=λb u q=>by
 have a:∀c y,H c=aa (.own y)->c≠x:=λc y r z=>by subst z;rw[r]at f;exact f
 have d:∀c M,H c=aa (.tup M)->c≠x:=λc M r z=>by subst z;rw[r]at f;exact f
 by_cases j:b=x
 .subst j;rw[bL]at q;grind
 .rw[bG j]at q
  by_cases g:b=e
  .have l:H b=aa (.own x):=by
    grind
   rw[q]at l;cases l;obtain⟨v,m⟩:=i;exact⟨v,by rw[g];exact m⟩
  .refine(ok b u q).stay (λc v n r=>k c v ?_ r) (λc r=>by rw[bG (a c b r)];exact r) λc M r=>by rw[bG (d c M r)];exact r
   grind
structure Un(fs ex:LAd)(H H':Hp)(h h':Heap):Prop where
 keep:∀b o,h.get? b=aa o->H b=ab->b∉fs->b∉ex->h'.get? b=aa o
 slot:∀b o,h.get? b=aa o->H b=ab->b∈fs->b∉ex->∃sl,h'.get? b=aa {o with slots:=sl}
 free:∀b o,h.get? b=aa o->H b=ab->b∉ex->H' b=ab
 there:∀b o,h.get? b=aa o->b∉ex->∃o',h'.get? b=aa o'
 tups:∀b M,H b=aa (.tup M)->H' b=aa (.tup M)
 frzs:∀b o u,H b=aa (.frz o u)->H' b=aa (.frz o u)
 tbls:∀b ps,H b=aa (.tbl ps)->∃more,H' b=aa (.tbl (ps++more))
variable{ex:LAd}{H1:Hp}{h1:Heap}
def Un.any{fs:LAd}(u:Un fs ex H H1 h h1){a:Obj}(q:h.get? b=aa a)(n:H b=ab)(d:b∉ex):∃sl,h1.get? b=aa {a with slots:=sl}:=by
 by_cases c:b∈fs
 .exact u.slot b a q n c d
 .exact⟨a.slots,u.keep b a q n c d⟩
variable{H2:Hp}{h2:Heap}
def Un.trans{fs:LAd}(a:Un fs ex H H1 h h1)(b:Un fs ex H1 H2 h1 h2):Un fs ex H H2 h h2 where
 keep:=λc ob q n hc hx=>b.keep c ob (a.keep c ob q n hc hx) (a.free c ob q n hx) hc hx
 slot:=λc ob q n hc hx=>by
  obtain⟨sl,e1⟩:=a.slot c ob q n hc hx;obtain⟨sl',e2⟩:=b.slot c _ e1 (a.free c ob q n hx) hc hx;exact⟨sl',e2⟩
 free:=λc ob q n hx=>by
  obtain⟨o',e1⟩:=a.there c ob q hx;exact b.free c o' e1 (a.free c ob q n hx) hx
 there:=λc ob q hx=>by
  obtain⟨o',e1⟩:=a.there c ob q hx;exact b.there c o' e1 hx
 tups:=λc M q=>b.tups c M (a.tups c M q)
 frzs:=λc ob M q=>b.frzs c ob M (a.frzs c ob M q)
 tbls:=λc ps q=>by
  obtain⟨m1,e1⟩:=a.tbls c ps q;obtain⟨m2,e2⟩:=b.tbls c _ e1;exact⟨m1++m2,by rw[e2,Array.append_assoc]⟩
def Un.kept{fs:LAd}(k:∀b u,h.get? b=aa u->h'.get? b=aa u):Un fs ex H H h h':=
 ⟨λb a q _ _ _=>k b a q,λb a q _ _ _=>⟨a.slots,k b a q⟩,λ_ _ _ n _=>n,λb a q _=>⟨a,k b a q⟩,λ_ _ q=>q,λ_ _ _ q=>q,λ_ ps q=>⟨#[],by rw[q];simp⟩⟩
def Un.refl{fs:LAd}:Un fs ex H H h h:=Un.kept λ_ _ q=>q
def Un.laid{fs:LAd}(k:∀b u,h.get? b=aa u->h'.get? b=aa u)(hp:h.objs.size<=a)(hn:H a=ab):Un fs ex H (upd H a o) h h' where
 keep:=λb u q _ _ _=>k b u q
 slot:=λb u q _ _ _=>⟨u.slots,k b u q⟩
 free:=λb u q n _=>by rw[bG (cu (f9 (bT q) hp))];exact n
 there:=λb u q _=>⟨u,k b u q⟩
 tups:=λb M q=>by rw[bG (g6 q hn)];exact q
 frzs:=λb u M q=>by rw[bG (g6 q hn)];exact q
 tbls:=λb ps q=>⟨#[],by rw[bG (g6 q hn),q];simp⟩
def Un.write{fs:LAd}(a:Mut (H x))(g:e=x\/H e=aa (.own x))(k:∀b u,b≠e->h.get? b=aa u->h'.get? b=aa u)(d:∃u,h'.get? e=aa u):Un fs ex H (upd H x o) h h':=by
 have f:∀b,H b=ab->b≠x:=λb n z=>by subst z;rw[n]at a;exact a
 have c:∀b,H b=ab->b≠e:=λb n z=>by
  grind
 have hm:∀b u,H b=aa u->¬Mut (aa u)->b≠x:=λb u q nm z=>by subst z;rw[q]at a;exact nm a
 refine⟨λb u q n _ _=>k b u (c b n) q,λb u q n _ _=>⟨u.slots,k b u (c b n) q⟩,λb u q n _=>by rw[bG (f b n)];exact n,λb u q _=>?_,
  λb M q=>by rw[bG (hm b _ q λz=>z)];exact q,λb u M q=>by rw[bG (hm b _ q λz=>z)];exact q,λb ps q=>⟨#[],by rw[bG (hm b _ q λz=>z),q];simp⟩⟩
 grind
abbrev trk(h:Heap)(H:Hp):LAd:=(cW h.objs.size).filter λa=>(H a).isSome
abbrev pc(h:Heap)(H:Hp):Heap:=W.hideAll h (trk h H)
def L1(h:Heap)(H:Hp):(pc h H).objs.size=h.objs.size:=W.hideAll_size _ _
variable{o:Obj}
def L3(e:h.get? b=aa o)(n:H b=ab):(pc h H).get? b=aa o:=
 W.hideAll_get _ e λhm=>by
  have q:=(nj.mp hm).2
  grind
def L4(e:(pc h H).get? b=aa o):h.get? b=aa o/\H b=ab:=by
 have a:=W.of_hideAll _ e;refine⟨a,?_⟩
 cases q:H b with
 |none=>rfl
 |some x=>
  have hm:b∈trk h H:=nj.mpr ⟨l7.mpr (bT a),by simp[q]⟩;have z:(pc h H).get? b=ab:=W.hideAll_none _ hm
  grind
abbrev L5(g h:Heap)(W3:Addr):PNS:=(cW h.objs.size).filterMap λa=>if a=W3\/(g.get? a).isSome=ac then ab else (h.get? a).map λo=>(a,o)
abbrev bH(g h:Heap)(W3 d:Addr):PNS:=(L5 g h W3).filter λp=>decide (p.1≠d)
structure Mod(K:br)(mg:MGT)(base:Heap):Prop where
 kin:K.In base
 glob:base.Ns cQ mg
 blt:∃mb,base.Ns builtinsNs mb/\∀x:Str,x ≠ "__name__" -> mb x=h8 x
 nolimit:base.NoLimit
set_option genInjectivity false in
structure Cx where
 prog:du
 w:World
 K:br
 mg:Str->Option Value
 base:Heap
 A:dQ
 N:LSt
 s₀:aL
 H₀:Hp
 env:Env
 outer:List Env
 stack:List Env
 ex:LAd
 fn:Str->Bool
 calm:Bool
 pn:PNS
 xe:Value->aL->Prop
nonrec abbrev NDb(x:Str):=(x==("__debug__":Str))=ag
nonrec abbrev NCd(x:Str):=(x==("__classdict__":Str))=ag
nonrec abbrev StE(X:Cx)(e:Expr)(es:LEx):=bf (e::es) X.env=(ag,eval e X.env)::bf es X.env
nonrec abbrev BkE(X:Cx)(pos:Pos)(es:LEx):=(d5 pos (bf es X.env)).any (·.1)=ag
nonrec abbrev LcF(X:Cx)(x:Str):=X.fn x=ac\/X.env.scope.names.lookup x=aa .local
abbrev frs(l:List Env):LAd:=l.filterMap (·.frame)
nonrec def Cx.fs(X:Cx):LAd:=frs X.outer
abbrev Vis(sc:Scope)(x:Str):Prop:=sc.names.lookup x=aa .local\/sc.names.lookup x=aa .cell\/sc.names.lookup x=aa .free
abbrev Loc(sc:Scope)(x:Str):Prop:=sc.names.lookup x=aa .local\/sc.names.lookup x=aa .cell
abbrev L6(env:Env)(h:Heap)(m:MGT)(x:Str)(u:Value):Prop:=
 (env.kindOf x=aa .local/\m x=aa u)\/((env.kindOf x=aa .cell\/env.kindOf x=aa .free)/\∃c,env.cells.lookup x=aa c/\h.IsCell c (aa u))
structure Cx.Ok(X:Cx):Prop where
 mod:Mod X.K X.mg X.base
 kind:X.env.scope.kind=.function
 glob:X.env.globals=cQ
 blt:X.env.builtins=builtinsNs
 above:X.s₀.heap.objs.size<=X.env.locals
 inj:∀x y c,X.env.cells.lookup x=aa c->X.env.cells.lookup y=aa c->x=y
 has:∀x,(X.env.kindOf x=aa .cell\/X.env.kindOf x=aa .free)->∃c,X.env.cells.lookup x=aa c
 cab:∀x c,X.fn x=ac->X.env.cells.lookup x=aa c->X.s₀.heap.objs.size<=c
 hd:X.calm=ac->X.A.handled=ab
 frames:X.A.frames=aa X.stack
 stk:X.stack=X.outer\/(X.stack=X.env::X.outer/\X.env.frame=aa X.env.locals)
 exf:∀b∈X.ex,b≠X.env.locals/\∀x c,X.env.cells.lookup x=aa c->c≠b
 bs:∀b o,X.base.get? b=aa o->X.s₀.heap.get? b=aa o/\X.H₀ b=ab
 bsz:X.base.objs.size<=X.s₀.heap.objs.size
 noex:∀b o,X.base.get? b=aa o->b∉X.ex
 exfs:∀b∈X.ex,b∉X.fs
 funs:X.s₀.heap.FunFrames X.base X.outer
 frf:∀b∈X.fs,X.H₀ b=ab
structure Inv(X:Cx)(B:PNS)(J:List (Option V))(H:Hp)(s:aL):Prop where
 ok:X.Ok
 os:s.os=X.s₀.os
 bare:lf s.gens
 base:Un X.fs X.ex X.H₀ H X.s₀.heap s.heap
 loc:∃m,s.heap.Ns X.env.locals m/\∀(i:Nat) (x:Str) (v:V),X.N[i]?=aa x->J[i]?=aa (aa v)->Vis X.env.scope x->∃u,aZ v u/\L6 X.env s.heap m x u
 cell:∀x c,X.env.cells.lookup x=aa c->∃v,s.heap.IsCell c v
 free:H X.env.locals=ab
 freeC:∀x c,X.env.cells.lookup x=aa c->H c=ab
 pin:∀p∈X.pn++B,s.heap.get? p.1=aa p.2/\H p.1=ab/\p.1≠X.env.locals/\p.1∉X.fs/\∀v,p.2.data≠.cell v
 hok:HOk X.prog X.w H s.heap
 len:J.length=X.N.length
variable{X:Cx}
def Cx.Ok.nofr(ok:X.Ok)(e:X.base.get? b=aa o):b∉X.fs:=λa=>by
 have:=(ok.funs.mem a).1
 grind
variable{B:PNS}{J:List (Option V)}{s:aL}
def Inv.bs(I:Inv X B J H s):∀b o,X.base.get? b=aa o->s.heap.get? b=aa o/\H b=ab:=λb o e=>
 ⟨I.base.keep b o (I.ok.bs b o e).1 (I.ok.bs b o e).2 (I.ok.nofr e) (I.ok.noex b o e),I.base.free b o (I.ok.bs b o e).1 (I.ok.bs b o e).2 (I.ok.noex b o e)⟩
def Inv.bk(I:Inv X B J H s):∀b o,X.base.get? b=aa o->s.heap.get? b=aa o:=λb o e=>(I.bs b o e).1
def Inv.mod(I:Inv X B J H s):Mod X.K X.mg X.base:=I.ok.mod
def Inv.kIn(I:Inv X B J H s):X.K.In s.heap:=I.ok.mod.kin.keeps I.bk
def Inv.lt(I:Inv X B J H s):X.env.locals<s.heap.objs.size:=let ⟨_,hn,_⟩:=I.loc;hn.lt
def Inv.sz(I:Inv X B J H s):X.s₀.heap.objs.size<=s.heap.objs.size:=cP I.ok.above (k9 I.lt)
def Inv.nofs(I:Inv X B J H s)(h:s.heap.objs.size<=a):a∉X.fs:=λb=>by
 obtain⟨_,o,c,_⟩:=I.ok.funs.mem b;exact absurd (f9 (bT c) (cP I.sz h)) (jZ _)
def Inv.cne(I:Inv X B J H s):∀x c,X.env.cells.lookup x=aa c->c≠X.env.locals:=λx c e z=>by
 obtain⟨v,o,f,hd⟩:=I.cell x c e;obtain⟨m,⟨o',es,d,b,a,_⟩,_⟩:=I.loc
 grind
def Inv.funs(I:Inv X B J H s):s.heap.FunFrames X.base X.outer:=by
 have all:∀l,(∀b∈frs l,b∈X.fs)->X.s₀.heap.FunFrames X.base l->s.heap.FunFrames X.base l:=by
  intro l
  induction l with
  |nil=>intro _ _;trivial
  |cons env r m=>
   intro f h;obtain⟨g,⟨W3,o,d,hn,i,hd⟩,j⟩:=h;have a:=f W3 (by unfold frs;rw[filterMap_cons,d];exact bB);obtain⟨sl,e⟩:=I.base.slot W3 o i (I.ok.frf W3 a) a λz=>I.ok.exfs W3 z a;exact⟨g,⟨W3,_,d,hn,e,hd⟩,m (λb c=>f b (by unfold frs;rw[filterMap_cons,d];exact cD _ c)) j⟩
 exact all X.outer (λ_ c=>c) I.ok.funs
def Inv.stack(I:Inv X B J H s):s.heap.FunFrames X.base X.stack:=by
 rcases I.ok.stk with e |⟨e,hf⟩
 .rw[e];exact I.funs
 .rw[e];obtain⟨m,hn,_⟩:=I.loc;exact .cons (by rw[I.ok.kind];decide) hf hn (Heap.get?_none_of_le (cP I.ok.bsz I.ok.above)) I.funs
def Inv.stkSub(I:Inv X B J H s):∀b∈frs X.stack,b∈X.env.locals::X.fs:=λb a=>by
 rcases I.ok.stk with e |⟨e,hf⟩
 .rw[e]at a;exact cD _ a
 .rw[e]at a;unfold frs at a;rw[filterMap_cons,hf]at a;exact a
def Inv.stkFree(I:Inv X B J H s):∀b∈frs X.stack,H b=ab:=λb a=>by
 rcases bZ.mp (I.stkSub b a)with e |a
 .rw[e];exact I.free
 .obtain⟨_,o,c,_⟩:=I.ok.funs.mem a;exact I.base.free b o c (I.ok.frf b a) λz=>I.ok.exfs b z a
variable{g':Array GenState}{t':Nat}{d':Drawn}{ch:LAd}
def Inv.step(I:Inv X B J H s)
 (g:∀b∈ch,(b∈X.ex\/X.s₀.heap.objs.size<=b)/\b≠X.env.locals/\(∀x c,X.env.cells.lookup x=aa c->c≠b)/\∀p∈X.pn++B,p.1≠b)
 (keep:∀b o,b≠X.env.locals->b∉X.fs->b∉ch->s.heap.get? b=aa o->H b=ab->h'.get? b=aa o)
 (slot:∀b o,b≠X.env.locals->b∈X.fs->b∉ch->s.heap.get? b=aa o->H b=ab->∃sl,h'.get? b=aa {o with slots:=sl})(free:∀b o,b∉ch->s.heap.get? b=aa o->H b=ab->H' b=ab)
 (there:∀b o,b∉ch->s.heap.get? b=aa o->∃o',h'.get? b=aa o')
 (tups:∀b M,H b=aa (.tup M)->H' b=aa (.tup M))(frzs:∀b o u,H b=aa (.frz o u)->H' b=aa (.frz o u))(tbls:∀b ps,H b=aa (.tbl ps)->∃more,H' b=aa (.tbl (ps++more)))
 (ns:∀m,s.heap.Ns X.env.locals m->h'.Ns X.env.locals m)(hok:HOk X.prog X.w H' h')(T:lf g'):
  Inv X B J H' {s with heap:=h',gens:=g',drawn:=d',toks:=t'}:=by
 have neL:∀b o,X.s₀.heap.get? b=aa o->b≠X.env.locals:=λb o e=>cu (f9 (bT e) I.ok.above)
 have t:∀b o,X.s₀.heap.get? b=aa o->b∉X.ex->b∉ch:=λb o e a y=>by
  rcases(g b y).1 with z |z
  .exact a z
  .exact absurd (f9 (bT e) z) (jZ _)
 have f:∀x c,X.env.cells.lookup x=aa c->∀v,s.heap.IsCell c v->h'.IsCell c v:=λx c e v Y=>by
  obtain⟨o,A,hd⟩:=Y;have h:=λz=>(g c z).2.2.1 x c e rfl
  by_cases G:c∈X.fs
  .obtain⟨sl,q⟩:=slot c o (I.cne x c e) G h A (I.freeC x c e);exact⟨_,q,hd⟩
  .exact⟨o,keep c o (I.cne x c e) G h A (I.freeC x c e),hd⟩
 refine⟨I.ok,I.os,T,⟨λb o e n y a=>(keep b o (neL b o e) y (t b o e a) (I.base.keep b o e n y a) (I.base.free b o e n a)),λb o e n y a=>?_,λb o e n a=>?_,λb o e a=>?_,λb M e=>tups b M (I.base.tups b M e),λb o M e=>frzs b o M (I.base.frzs b o M e),λb ps e=>?_⟩,?_,λx c e=>?_,?_,λx c e=>?_,λp L=>?_,hok,I.len⟩
 .obtain⟨sl,j⟩:=I.base.slot b o e n y a;obtain⟨E,C⟩:=slot b _ (neL b o e) y (t b o e a) j (I.base.free b o e n a);exact⟨E,C⟩
 .obtain⟨o',j⟩:=I.base.there b o e a;exact free b o' (t b o e a) j (I.base.free b o e n a)
 .obtain⟨o',j⟩:=I.base.there b o e a;exact there b o' (t b o e a) j
 .obtain⟨m1,j⟩:=I.base.tbls b ps e;obtain⟨m2,C⟩:=tbls b _ j;exact⟨m1++m2,by rw[C,Array.append_assoc]⟩
 .obtain⟨m,hn,U⟩:=I.loc;refine⟨m,ns m hn,λi x v j C Q=>?_⟩;obtain⟨u,r,l⟩:=U i x v j C Q;refine⟨u,r,?_⟩
  rcases l with l |⟨k,c,e,z⟩
  .exact .inl l
  .exact .inr ⟨k,c,e,f x c e _ z⟩
 .obtain⟨v,z⟩:=I.cell x c e;exact⟨v,f x c e v z⟩
 .obtain⟨m,⟨o,_,_,A,_⟩,_⟩:=I.loc;exact free _ o (λz=>(g _ z).2.1 rfl) A I.free
 .obtain⟨v,o,A,hd⟩:=I.cell x c e;exact free c o (λz=>(g c z).2.2.1 x c e rfl) A (I.freeC x c e)
 .obtain⟨e,n,ne,N,d⟩:=I.pin p L;have h:=λz=>(g p.1 z).2.2.2 p L rfl;exact⟨keep p.1 p.2 ne N h e n,free p.1 p.2 h e n,ne,N,d⟩
def Inv.un(I:Inv X B J H s)(u:Un X.fs [] H H' s.heap h')(hok:HOk X.prog X.w H' h'):Inv X B J H' {s with heap:=h',toks:=t'}:=by
 obtain⟨m,⟨o,es,j,g,r⟩,_⟩:=id I.loc;obtain⟨sl,h⟩:=u.any g I.free (by simp)
 exact I.step (ch:=[]) (λ_ z=>nomatch z) (λb o _ f _ e n=>u.keep b o e n f (by simp)) (λb o _ f _ e n=>u.slot b o e n f (by simp)) (λb o _ e n=>u.free b o e n (by simp)) (λb o _ e=>u.there b o e (by simp)) u.tups u.frzs u.tbls (λl hm=>by
  obtain⟨o',d,c,a,i⟩:=hm;rw[g]at a;cases a;exact⟨_,d,c,h,i⟩) hok I.bare
def Inv.call(I:Inv X B J H s)(u:Un (frs X.stack) ch H H' s.heap h')(hok:HOk X.prog X.w H' h')(q:lf g')
 (d:∀b∈ch,(b∈X.ex\/X.s₀.heap.objs.size<=b)/\b≠X.env.locals/\(∀x c,X.env.cells.lookup x=aa c->c≠b)/\∀p∈X.pn++B,p.1≠b):
  Inv X B J H' {s with heap:=h',gens:=g',drawn:=d',toks:=t'}:=by
 obtain⟨m,⟨o,es,v,j,r⟩,_⟩:=id I.loc;obtain⟨sl,i⟩:=u.any j I.free λz=>(d _ z).2.1 rfl
 exact I.step d (λb o i l a e n=>u.keep b o e n (λz=>(bZ.mp (I.stkSub b z)).elim i l) a) (λb o _ _ a e n=>u.any e n a) (λb o a e n=>u.free b o e n a) (λb o a e=>u.there b o e a) u.tups u.frzs u.tbls (λy hm=>by
  obtain⟨o',h,g,f,t⟩:=hm;rw[j]at f;cases f;exact⟨_,h,g,i,t⟩) hok q
variable{it:Addr}
def Inv.turned(I:Inv X B J H s)(k:∀b o,b≠it->s.heap.get? b=aa o->h'.get? b=aa o)(hn:H it=ab)(f:it≠X.env.locals)
 (h1:it∈X.ex\/X.s₀.heap.objs.size<=it)(h2:∀x c,X.env.cells.lookup x=aa c->c≠it)(h:∀p∈X.pn++B,p.1≠it):Inv X B J H {s with heap:=h',toks:=t'}:=by
 have d:∀b u,H b=aa u->b≠it:=λb u e z=>by rw[z,hn]at e;nomatch e
 refine I.step (ch:=[it]) (λb i=>?_) (λb o _ _ a e _=>k b o (λz=>a (by simp[z])) e) (λb o _ _ a e _=>⟨o.slots,k b o (λz=>a (by simp[z])) e⟩) (λ_ _ _ _ n=>n)
  (λb o a e=>⟨o,k b o (λz=>a (by simp[z])) e⟩) (λ_ _ e=>e) (λ_ _ _ e=>e) (λb ps e=>⟨#[],by rw[e];simp⟩) (λm hm=>?_) (λb u e=>?_) I.bare
 .have e:b=it:=by simpa using i
  subst e;exact⟨h1,f,h2,h⟩
 .obtain⟨o,es,g,j,r⟩:=hm;exact⟨o,es,g,k _ o (cE f) j,r⟩
 .refine(I.hok b u e).stay (λc v a q=>k c v ?_ q) (λ_ q=>q) λ_ _ q=>q
  rcases a with z |z
  .rw[z];exact d b u e
  .exact d c _ z
def Inv.tok(I:Inv X B J H s)(t:Nat):Inv X B J H {s with toks:=t}:=I.un Un.refl I.hok
def Inv.kept(I:Inv X B J H s)(k:∀b u,s.heap.get? b=aa u->h'.get? b=aa u):Inv X B J H {s with heap:=h',toks:=t'}:=I.un (Un.kept k) (I.hok.kept k)
def Inv.laid{o:HO}(I:Inv X B J H s)(k:∀b u,s.heap.get? b=aa u->h'.get? b=aa u)(c:s.heap.objs.size<=a)(new:gc X.prog X.w (upd H a o) h' a o):
  Inv X B J (upd H a o) {s with heap:=h',toks:=t'}:=I.un (Un.laid k c (I.hok.fresh c)) (I.hok.laid k c new)
def Inv.write{o:HO}(I:Inv X B J H s)(d:Mut (H x))(c:e=x\/H e=aa (.own x))(k:∀b u,b≠e->s.heap.get? b=aa u->h'.get? b=aa u)(a:∃u,h'.get? e=aa u)
 (new:gc X.prog X.w (upd H x o) h' x o):Inv X B J (upd H x o) {s with heap:=h',toks:=t'}:=I.un (Un.write d c k a) (I.hok.write d c k a new)
def Inv.pins_of{a:PNS}(I:Inv X B J H s)(h:∀p∈a,s.heap.get? p.1=aa p.2/\H p.1=ab/\p.1≠X.env.locals/\p.1∉X.fs/\∀v,p.2.data≠.cell v):Inv X a J H s:=
 ⟨I.ok,I.os,I.bare,I.base,I.loc,I.cell,I.free,I.freeC,λp b=>(cM.mp b).elim (λz=>I.pin p (mem_append_left _ z)) (h p),I.hok,I.len⟩
variable{N:LSt}{i:Nat}{x:Str}
def zt(e:N.Nodup){W6:Nat}(a:N[i]?=aa x)(b:N[W6]?=aa x):i=W6:=by
 obtain⟨h1,c⟩:=dD.mp a;obtain⟨h2,d⟩:=dD.mp b;exact(List.getElem_inj e).mp (c.trans d.symm)
variable{W1:Model}{A:dQ}{W5:PRS}{v:V}{u:Value}{Q:Unit->aL->Prop}
def Fe(I:Inv X B J H s)(hN:X.N.Nodup)(hi:X.N[i]?=aa x)(l:Loc X.env.scope x)(r:aZ v u)
 (h:∀s',Inv X B (J.set i (aa v)) H s'->(∃a,jr a s.heap s'.heap/\(a=X.env.locals\/X.env.cells.lookup x=aa a))->Q () s')(hf:LcF X x:=by first |exact .inl rfl |exact .inr rfl |assumption):wpAny W1 A (storeName X.env x u) Q W5 s:=by
 obtain⟨m,hn,hl⟩:=id I.loc;have Y:(X.env.scope.kind==.class || (X.env.scope.kind==.module && X.env.locals != X.env.globals))=ag:=by rw[I.ok.kind];rfl
 have E:i<J.length:=by rw[I.len];exact(dD.mp hi).1
 have cne:=I.cne
 have j:∀{a:Addr} {h':Heap},(∃o,s.heap.get? a=aa o/\H a=ab)->jr a s.heap h'->HOk X.prog X.w H h':=λ{a h'} ha f b ob e=>by
  obtain⟨_,_,hfree⟩:=ha;refine(I.hok b ob e).stay (λc w' t q=>(f.2 c ?_).trans q) (λ_ q=>q) λ_ _ q=>q
  grind
 rcases l with hk |hk
 .refine wpAny_storeName_local hk hn (λh' hn' f=>?_) Y;obtain⟨oL,_,_,hoL,_⟩:=id hn;refine h _ ⟨I.ok,I.os,I.bare,⟨λb o e n G l=>((f.2 b (cu (f9 (bT e) I.ok.above))).trans (I.base.keep b o e n G l)),λb o e n G l=>?_,I.base.free,λb o e l=>?_,I.base.tups,I.base.frzs,I.base.tbls⟩,⟨_,hn',λW6 y v' g C e3=>?_⟩,λy c e=>?_,I.free,I.freeC,λp hp=>?_,j ⟨oL,hoL,I.free⟩ f,by simpa using I.len⟩ ⟨_,f,.inl rfl⟩
  .obtain⟨sl,g⟩:=I.base.slot b o e n G l;exact⟨sl,(f.2 b (cu (f9 (bT e) I.ok.above))).trans g⟩
  .obtain⟨o',g⟩:=I.base.there b o e l;exact⟨o',(f.2 b (cu (f9 (bT e) I.ok.above))).trans g⟩
  .by_cases M:W6=i
   .subst M;rw[hi]at g;cases g;rw[jV E]at C;cases C;exact⟨u,r,.inl ⟨hk,by simp⟩⟩
   .rw[iO (cE M)]at C;obtain⟨u',r',q⟩:=hl W6 y v' g C e3;refine⟨u',r',?_⟩
    rcases q with⟨k,e⟩ |⟨k,c,e,z⟩
    .refine .inl ⟨k,?_⟩;have:y≠x:=λe=>M (zt hN g (e▸hi))
     grind
    .exact .inr ⟨k,c,e,z.sameBut f (cne y c e)⟩
  .obtain⟨w',z⟩:=I.cell y c e;exact⟨w',z.sameBut f (cne y c e)⟩
  .obtain⟨e,n,ne,nf,d⟩:=I.pin p hp;exact⟨(f.2 p.1 ne).trans e,n,ne,nf,d⟩
 .have L:X.fn x=ac:=by
   grind
  obtain⟨c,t⟩:=I.ok.has x (.inl hk);obtain⟨w',z⟩:=I.cell x c t;refine wpAny_storeName_cell I.ok.kind hk t z (λh' T f=>?_);obtain⟨oc,hoc,hocd⟩:=id z
  refine h {s with heap:=h'} ⟨I.ok,I.os,I.bare,⟨λb o e n G l=>((f.2 b (cu (f9 (bT e) (I.ok.cab x c L t)))).trans (I.base.keep b o e n G l)),λb o e n G l=>?_,I.base.free,λb o e l=>?_,I.base.tups,I.base.frzs,I.base.tbls⟩,⟨m,hn.sameBut f (cE (cne x c t)),λW6 y v' g C e3=>?_⟩,λy c' e=>?_,I.free,I.freeC,λp hp=>?_,j ⟨oc,hoc,I.freeC x c t⟩ f,by simpa using I.len⟩ ⟨c,f,.inr t⟩
  .obtain⟨sl,g⟩:=I.base.slot b o e n G l;exact⟨sl,(f.2 b (cu (f9 (bT e) (I.ok.cab x c L t)))).trans g⟩
  .obtain⟨o',g⟩:=I.base.there b o e l;exact⟨o',(f.2 b (cu (f9 (bT e) (I.ok.cab x c L t)))).trans g⟩
  .by_cases M:W6=i
   .subst M;rw[hi]at g;cases g;rw[jV E]at C;cases C;exact⟨u,r,.inr ⟨.inl hk,c,t,T⟩⟩
   .rw[iO (cE M)]at C;obtain⟨u',r',q⟩:=hl W6 y v' g C e3;refine⟨u',r',?_⟩
    rcases q with q |⟨k,c',e,z'⟩
    .exact .inl q
    .refine .inr ⟨k,c',e,z'.sameBut f ?_⟩;rintro rfl;exact M (zt hN g (I.ok.inj _ _ _ e t▸hi))
  .by_cases U:c'=c
   .subst U;exact⟨_,T⟩
   .obtain⟨w2,z2⟩:=I.cell y c' e;exact⟨w2,z2.sameBut f U⟩
  .obtain⟨e,n,ne,nf,d⟩:=I.pin p hp;refine⟨(f.2 p.1 ?_).trans e,n,ne,nf,d⟩;intro q;rw[q,hoc]at e;exact d w' (by rw[<- (cN e)];exact hocd)
def zu(I:Inv X B J H s)(b:X.N.Nodup)(hi:X.N[i]?=aa x)(d:Loc X.env.scope x)(r:aZ v u)
 (h:∀s',Inv X B (J.set i (aa v)) H s'->Q () s')(c:LcF X x:=by first |exact .inl rfl |exact .inr rfl |assumption):wpAny W1 A (storeName X.env x u) Q W5 s:=
 Fe I b hi d r (λs' a _=>h s' a) c
variable{s':aL}
def Inv.call'(I:Inv X B J H s)(e:s'.os=s.os)(u:Un (frs X.stack) ch H H' s.heap s'.heap)(hok:HOk X.prog X.w H' s'.heap)(d:lf s'.gens)
 (a:∀b∈ch,(b∈X.ex\/X.s₀.heap.objs.size<=b)/\b≠X.env.locals/\(∀x c,X.env.cells.lookup x=aa c->c≠b)/\∀p∈X.pn++B,p.1≠b):Inv X B J H' s':=by
 obtain⟨h',g',d',t',o'⟩:=s';subst e;exact I.call u hok d a
nonrec def XK:=Value->Option Addr->Hp->Prop
nonrec def St:=List (Option V)
nonrec def VK:=V->Hp->Prop
nonrec def TE:=St->Hp->VK->Prop
nonrec def TT:=St->Hp->(Bool->Hp->Prop)->Prop
nonrec def TA:=St->Hp->(LVv->Hp->Prop)->Prop
structure lr where
 nx:St->Hp->Prop
 rt:VK
 bk:St->Hp->Prop:=λ_ _=>False
 ct:St->Hp->Prop:=λ_ _=>False
nonrec def TS:=lr->St->Hp->Prop
abbrev EP(X:Cx)(B:PNS)(J:St)(Q:VK)(u:Value)(s':aL):Prop:=∃v H',Inv X B J H' s'/\aZ v u/\Q v H'
abbrev TP(X:Cx)(B:PNS)(J:St)(Q:Bool->Hp->Prop)(b:Bool)(s':aL):Prop:=∃H',Inv X B J H' s'/\Q b H'
abbrev AP(X:Cx)(B:PNS)(J:St)(Q:LVv->Hp->Prop)(us:LVa)(s':aL):Prop:=∃L H',Inv X B J H' s'/\ba L us/\Q L H'
abbrev SP(X:Cx)(B:PNS)(D:lr)(f:Flow)(s':aL):Prop:=
 match f with
 |.next=>∃σ' H',Inv X B σ' H' s'/\D.nx σ' H'
 |.brk=>∃σ' H',Inv X B σ' H' s'/\D.bk σ' H'
 |.cont=>∃σ' H',Inv X B σ' H' s'/\D.ct σ' H'
 |.ret u=>∃v σ' H',Inv X B σ' H' s'/\aZ v u/\D.rt v H'
abbrev PE(X:Cx)(e:Expr)(t:TE):Prop:=
 ∀(B:PNS) (s:aL) (J:St) (H:Hp) (Q:VK),Inv X B J H s->t J H Q->wpAny (model X.prog X.w) X.A (eval e X.env) (EP X B J Q) X.xe s
abbrev PT(X:Cx)(e:Expr)(t:TT):Prop:=
 ∀(B:PNS) (s:aL) (J:St) (H:Hp) (Q:Bool->Hp->Prop),Inv X B J H s->t J H Q->wpAny (model X.prog X.w) X.A (isTrue e X.env (eval e X.env)) (TP X B J Q) X.xe s
abbrev PW(X:Cx)(e:Expr)(t:TT):Prop:=
 ∀(a:Sem Value) (B:PNS) (s:aL) (J:St) (H:Hp) (Q:Bool->Hp->Prop),Inv X B J H s->t J H Q->wpAny (model X.prog X.w) X.A (isTrue e X.env a) (TP X B J Q) X.xe s
variable{e:Expr}
def PW.pt{t:TT}(h:PW X e t):PT X e t:=h _
abbrev PA(X:Cx)(es:LEx)(t:TA):Prop:=
 ∀(pos:Pos) (B:PNS) (s:aL) (J:St) (H:Hp) (Q:LVv->Hp->Prop),Inv X B J H s->t J H Q->wpAny (model X.prog X.w) X.A (spliced (d5 pos (bf es X.env))) (AP X B J Q) X.xe s
abbrev PS(X:Cx)(st:Stmt)(t:TS):Prop:=
 ∀(B:PNS) (s:aL) (J:St) (H:Hp) (D:lr),Inv X B J H s->t D J H->wpAny (model X.prog X.w) X.A (exec st X.env) (SP X B D) X.xe s
abbrev PSs(X:Cx)(st:List Stmt)(t:TS):Prop:=
 ∀(B:PNS) (s:aL) (J:St) (H:Hp) (D:lr),Inv X B J H s->t D J H->wpAny (model X.prog X.w) X.A (execs st X.env) (SP X B D) X.xe s
def thn{c:Type}{t:Sem c}{Q b:c->aL->Prop}(h:wpAny W1 A t Q W5 s)(d:∀a s,Q a s->b a s):wpAny W1 A t b W5 s:=gr h d λ_ _ x=>x
abbrev eO(i:Nat):TE:=λJ H Q=>∃v,J[i]?=aa (aa v)/\Q v H
abbrev tC(v:V):TE:=λ_ H Q=>Q v H
def lu{pos:Pos}(j:X.N[i]?=aa x)(o:Vis X.env.scope x)(hd:NDb x:=by decide)(f:NCd x:=by decide):PE X (.Name x pos) (eO i):=by
 intro B s J H Q I h;obtain⟨v,e,h⟩:=h;obtain⟨m,hn,n⟩:=I.loc;obtain⟨u,r,l⟩:=n i x v j e o;have b:EP X B J Q u s:=⟨v,H,I,r,h⟩
 rcases l with⟨d,hm⟩ |⟨d,c,g,a⟩
 .exact o6 (q9 I.ok.kind d hn hm b) hd
 .rcases d with d |d
  .exact o6 (wpAny_loadName_cell I.ok.kind d g a b) hd
  .exact o6 (wpAny_loadName_free I.ok.kind d g a b f) hd
def L7{i W6 pos}:PE X (.Constant (.int i) W6 pos) (tC (.int i)):=λ_ _ _ H _ I h=>wpAny_Constant_int ⟨.int i,H,I.tok _,⟨_,rfl⟩,h⟩
def L8{b W6 pos}:PE X (.Constant (.bool b) W6 pos) (tC (.bl b)):=λ_ _ _ H _ I h=>Constant_bool ⟨.bl b,H,I,rfl,h⟩
def L9{W6 pos}:PE X (.Constant .none W6 pos) (tC .non):=λ_ _ _ H _ I h=>Constant_none ⟨.non,H,I,rfl,h⟩
def Ma{x W6 pos}:PE X (.Constant (.str x) W6 pos) (tC (.str x)):=λ_ _ _ H _ I h=>zg ⟨.str x,H,I.tok _,⟨_,rfl⟩,h⟩
abbrev Gl(X:Cx)(x:Str):Prop:=X.env.kindOf x=aa .globalImplicit
variable{J:St}
def vb{pos:Pos}{Q:PRS}(I:Inv X B J H s)(a:Gl X x)(hm:X.mg x=aa u)(h:Q u s)
 (hd:NDb x:=by decide):wpAny (model X.prog X.w) X.A (eval (.Name x pos) X.env) Q W5 s:=
 Calls.Name_function_global I.ok.kind a (Calls.loadGlobal_global (by rw[I.ok.glob];exact I.mod.glob.keeps I.bk) hm h) hd
def j6{pos:Pos}{Q:PRS}(I:Inv X B J H s)(a:Gl X x)(hm:X.mg x=ab)(b:h8 x=aa u)(h:Q u s)
 (hn:x ≠ "__name__":=by decide)(hd:NDb x:=by decide):wpAny (model X.prog X.w) X.A (eval (.Name x pos) X.env) Q W5 s:=by
 obtain⟨mb,h1,h2⟩:=I.mod.blt;exact Calls.Name_function_global I.ok.kind a (Calls.loadGlobal_builtin (by rw[I.ok.glob];exact I.mod.glob.keeps I.bk) hm (by rw[I.ok.blt];exact h1.keeps I.bk) ((h2 x hn).trans b) h) hd
def zw{pos:Pos}(a:Gl X x)(hm:X.mg x=aa u)(r:aZ v u)(hd:NDb x:=by decide):PE X (.Name x pos) (tC v):=
 λ_ _ _ H _ I h=>vb I a hm ⟨v,H,I,r,h⟩ hd
def Mb{pos:Pos}(a:Gl X x)(hm:X.mg x=ab)(b:h8 x=aa u)(r:aZ v u)(hn:x ≠ "__name__":=by decide)(hd:NDb x:=by decide):PE X (.Name x pos) (tC v):=
 λ_ _ _ H _ I h=>j6 I a hm b ⟨v,H,I,r,h⟩ hn hd
abbrev Mc(t u:TT):TT:=λJ H Q=>t J H λc H1=>if c=ac then u J H1 Q else Q ag H1
abbrev tOr(t u:TT):TT:=λJ H Q=>t J H λc H1=>if c=ac then Q ac H1 else u J H1 Q
abbrev Md(t:TT):TT:=λJ H Q=>t J H λc H1=>Q (!c) H1
variable{a:Expr}{tA:TT}
def Ff{pos:Pos}(ha:PT X a tA):PW X (.BoolOp .And [a] pos) tA:=by
 intro b B s J H Q I h;refine isTrue_and (thn (ha B s J H Q I h) λc s1 e=>?_)
 cases c with
 |true=>exact isTrue_and_nil e
 |false=>exact e
def Me{pos:Pos}(ha:PT X a tA):PW X (.BoolOp .Or [a] pos) tA:=by
 intro b B s J H Q I h;refine isTrue_or (thn (ha B s J H Q I h) λc s1 e=>?_)
 cases c with
 |false=>exact isTrue_or_nil e
 |true=>exact e
variable{b:Expr}{tB':TT}
def Fg{pos:Pos}{bH:LEx}(ha:PT X a tA)(f:PW X (.BoolOp .And (b::bH) pos) tB'):PW X (.BoolOp .And (a::b::bH) pos) (Mc tA tB'):=by
 intro i B s J H Q I h;refine isTrue_and (thn (ha B s J H _ I h) λc s1 g=>?_);obtain⟨H1,d,e⟩:=g
 cases c with
 |true=>exact f i B s1 J H1 Q d e
 |false=>exact⟨H1,d,e⟩
def Mf{pos:Pos}{bH:LEx}(ha:PT X a tA)(f:PW X (.BoolOp .Or (b::bH) pos) tB'):PW X (.BoolOp .Or (a::b::bH) pos) (tOr tA tB'):=by
 intro i B s J H Q I h;refine isTrue_or (thn (ha B s J H _ I h) λc s1 g=>?_);obtain⟨H1,d,e⟩:=g
 cases c with
 |true=>exact⟨H1,d,e⟩
 |false=>exact f i B s1 J H1 Q d e
def Fh{pos:Pos}(ha:PT X a tA):PT X (.UnaryOp .Not a pos) (Md tA):=by
 intro B s J H Q I h;exact isTrue_not (ha B s J H _ I h)
abbrev Mg(a b:TE):TE:=λJ H Q=>a J H λx H1=>∃c,x=.bl c/\if c=ac then b J H1 Q else Q (.bl ag) H1
abbrev Mh(a b:TE):TE:=λJ H Q=>a J H λx H1=>∃c,x=.bl c/\if c=ac then Q (.bl ac) H1 else b J H1 Q
abbrev Mi(a:TE):TE:=λJ H Q=>a J H λx H1=>∃c,x=.bl c/\Q (.bl (!c)) H1
def Mj{pos:Pos}{op}{t:TE}(h:PE X a t):PE X (.BoolOp op [a] pos) t:=λB s J H Q I b=>BoolOp_one (h B s J H Q I b)
variable{ta tb:TE}
def Ml{pos:Pos}{bH:LEx}(ha:PE X a ta)(f:PE X (.BoolOp .And (b::bH) pos) tb):PE X (.BoolOp .And (a::b::bH) pos) (Mg ta tb):=by
 intro B s J H Q I h;refine BoolOp_and (thn (ha B s J H _ I h) λv s1 g=>?_);obtain⟨x,H1,e,i,d⟩:=g;obtain⟨c,rfl,d⟩:=d;subst i;refine me ?_
 cases c with
 |true=>exact f B s1 J H1 Q e d
 |false=>exact⟨.bl ag,H1,e,rfl,d⟩
def Mm{pos:Pos}{bH:LEx}(ha:PE X a ta)(f:PE X (.BoolOp .Or (b::bH) pos) tb):PE X (.BoolOp .Or (a::b::bH) pos) (Mh ta tb):=by
 intro B s J H Q I h;refine BoolOp_or (thn (ha B s J H _ I h) λv s1 g=>?_);obtain⟨x,H1,e,i,d⟩:=g;obtain⟨c,rfl,d⟩:=d;subst i;refine me ?_
 cases c with
 |false=>exact f B s1 J H1 Q e d
 |true=>exact⟨.bl ac,H1,e,rfl,d⟩
def Mn{pos:Pos}(ha:PE X a ta):PE X (.UnaryOp .Not a pos) (Mi ta):=by
 intro B s J H Q I h;refine UnaryOp_ (thn (ha B s J H _ I h) λv s1 e=>?_);obtain⟨x,H1,d,f,b⟩:=e;obtain⟨c,rfl,b⟩:=b;subst f;exact not_of (me ⟨.bl (!c),H1,d,rfl,b⟩)
abbrev tIf(t:TT)(ta tb:TE):TE:=λJ H Q=>t J H λc H1=>if c=ac then ta J H1 Q else tb J H1 Q
variable{c:Expr}
def zx{pos:Pos}(i:PT X c tA)(ha:PE X a ta)(g:PE X b tb):PE X (.IfExp c a b pos) (tIf tA ta tb):=by
 intro B s J H Q I h;refine wpAny_IfExp (thn (i B s J H _ I h) λd s1 j=>?_);obtain⟨H1,e,f⟩:=j
 cases d with
 |true=>exact ha B s1 J H1 Q e f
 |false=>exact g B s1 J H1 Q e f
abbrev SqL(K:br)(H:Hp)(a:Addr)(M:LVv):Prop:=
 Rd H a (.lst M) \/
  ∃(o:Obj) (its:Array Value) (n:Nat),K.lookup a=aa o/\o.cls=.type "list" /\ o.dict=ab/\o.data=.seq its n/\its.size<=be/\ba M its.toList
abbrev SqT(K:br)(H:Hp)(a:Addr)(M:LVv):Prop:=
 Rd H a (.tup M) \/
  ∃(o:Obj) (its:Array Value) (n:Nat),K.lookup a=aa o/\o.cls=.type "tuple" /\ o.data=.seq its n/\its.size<=be/\ba M its.toList
abbrev Mp:Value->Option V
 |.none=>aa .non
 |.bool b=>aa (.bl b)
 |.int i _=>aa (.int i)
 |.str x _=>aa (.str x)
 |.bytes b _=>aa (.byt b)
 |.float b _=>aa (.flt b)
 |.ref a=>aa (.ref a)
 |.type n=>aa (.ty n)
 | _=>ab
def aZ.abs{x:V}(r:aZ x u):Mp u=aa x:=by
 cases x with
 |non=>subst r;rfl
 |bl _=>subst r;rfl
 |int _=>obtain⟨t,rfl⟩:=r;rfl
 |str _=>obtain⟨t,rfl⟩:=r;rfl
 |byt _=>obtain⟨t,rfl⟩:=r;rfl
 |flt _=>obtain⟨t,rfl⟩:=r;rfl
 |ref _=>subst r;rfl
 |ty _=>subst r;rfl
variable{y:V}
def aZ.inj{x:V}(r:aZ x u)(q:aZ y u):x=y:=cN (r.abs.symm.trans q.abs)
def ba.inj:∀{M a:LVv} {us:LVa},ba M us->ba a us->M=a
 | _,_,_,.nil,.nil=>rfl
 | _,_,_,.cons r t,.cons r' t'=>by rw[r.inj r',ba.inj t t']
variable{a:Addr}{K:br}
def SqL.of(h:H a=aa (.lst M)):SqL K H a M:=.inl (.inl h)
def SqT.of(h:H a=aa (.tup M)):SqT K H a M:=.inl (.inl h)
def Inv.list(I:Inv X B J H s)(h:SqL X.K H a M):∃its:LVa,ba M its/\PlainL s.heap a its.toArray/\M.length<=be:=by
 rcases h with h |⟨o,its,n,hk,hc,hd,hs,hz,r⟩
 .obtain⟨z,its,n,r,e⟩:=h.ok I.hok;exact⟨its,r,⟨_,n,e,rfl,rfl,rfl⟩,z⟩
 .refine⟨its.toList,r,⟨o,n,I.kIn a o hk,hc,hd,by simpa using hs⟩,?_⟩;have e:=r.length
  grind
def Inv.tuple(I:Inv X B J H s)(h:SqT X.K H a M):∃its:LVa,ba M its/\IsTup s.heap a its.toArray/\M.length<=be:=by
 rcases h with h |⟨o,its,n,hk,hc,hs,hz,r⟩
 .obtain⟨z,its,r,p⟩:=h.ok I.hok;exact⟨its,r,p,z⟩
 .refine⟨its.toList,r,⟨o,I.kIn a o hk,hc,n,by simpa using hs⟩,?_⟩;have e:=r.length;simp only[uD]at e
  lia
variable{ys:LVv}
def Inv.list_inj(I:Inv X B J H s)(h:SqL X.K H a M)(h':SqL X.K H a ys):M=ys:=by
 obtain⟨its,r,⟨o,n,e,_,_,d⟩,_⟩:=I.list h;obtain⟨b,f,⟨o',g,c,_,_,d'⟩,_⟩:=I.list h';rw[e]at c;cases c;rw[d]at d'
 injection d' with d1 _
 have:its=b:=by simpa using congrArg Array.toList d1
 subst this;exact r.inj f
def Inv.tuple_inj(I:Inv X B J H s)(h:SqT X.K H a M)(h':SqT X.K H a ys):M=ys:=by
 obtain⟨its,r,⟨o,e,_,n,d⟩,_⟩:=I.tuple h;obtain⟨b,f,⟨o',c,_,g,d'⟩,_⟩:=I.tuple h';rw[e]at c;cases c;rw[d]at d'
 injection d' with d1 _
 have:its=b:=by simpa using congrArg Array.toList d1
 subst this;exact r.inj f
nonrec def Cx.wish(X:Cx)(W5:PRS):Cx:={X with xe:=W5}
nonrec def Cx.nox(X:Cx):Cx:=X.wish λ_ _=>False
def Cx.Ok.wish(ok:X.Ok)(W5:PRS):(X.wish W5).Ok:=
 ⟨ok.mod,ok.kind,ok.glob,ok.blt,ok.above,ok.inj,ok.has,ok.cab,ok.hd,ok.frames,ok.stk,ok.exf,ok.bs,ok.bsz,ok.noex,ok.exfs,ok.funs,ok.frf⟩
def Cx.Ok.unwish(ok:(X.wish W5).Ok):X.Ok:=
 ⟨ok.mod,ok.kind,ok.glob,ok.blt,ok.above,ok.inj,ok.has,ok.cab,ok.hd,ok.frames,ok.stk,ok.exf,ok.bs,ok.bsz,ok.noex,ok.exfs,ok.funs,ok.frf⟩
def Inv.wish(I:Inv X B J H s)(W5:PRS):Inv (X.wish W5) B J H s:=⟨I.ok.wish W5,I.os,I.bare,I.base,I.loc,I.cell,I.free,I.freeC,I.pin,I.hok,I.len⟩
def Inv.unwish(I:Inv (X.wish W5) B J H s):Inv X B J H s:=⟨I.ok.unwish,I.os,I.bare,I.base,I.loc,I.cell,I.free,I.freeC,I.pin,I.hok,I.len⟩
def SP.unwish{D:lr}{f:Flow}(h:SP (X.wish W5) B D f s'):SP X B D f s':=by
 cases f with
 |next=>obtain⟨σ',H',I,q⟩:=h;exact⟨σ',H',I.unwish,q⟩
 |brk=>obtain⟨σ',H',I,q⟩:=h;exact⟨σ',H',I.unwish,q⟩
 |cont=>obtain⟨σ',H',I,q⟩:=h;exact⟨σ',H',I.unwish,q⟩
 |ret u=>obtain⟨v,σ',H',I,r,q⟩:=h;exact⟨v,σ',H',I.unwish,r,q⟩
variable{t:TS}
def PSs.nox{st:List Stmt}(h:PSs X.nox st t):PSs X st t:=λB s J H D I a=>
 gr (h B s J H D (I.wish _) a) (λ_ _ q=>q.unwish) λ_ _ z=>iB z
abbrev Mq:TS:=λD J H=>D.nx J H
abbrev Mr(t u:TS):TS:=λD J H=>t {D with nx:=u D} J H
def Fi:PSs X [] Mq:=λ_ _ J H _ I h=>o3 ⟨J,H,I,h⟩
variable{st:Stmt}{u:TS}
def Fj{bH:List Stmt}(h1:PS X st t)(h2:PSs X bH u):PSs X (st::bH) (Mr t u):=by
 intro B s J H D I h
 refine rf (thn (h1 B s J H {D with nx:=u D} I h) λf s1 q=>?_)
 cases f with
 |next=>
  obtain⟨σ',H',a,q⟩:=q
  exact h2 B s1 σ' H' D a q
 |ret v=>exact q
 |brk=>exact q
 |cont=>exact q
def Ms(h1:PS X st t):PSs X [st] t:=by
 intro B s J H D I h;refine rf (thn (h1 B s J H D I h) λf s1 q=>?_)
 cases f with
 |next=>exact o3 q
 |ret v=>exact q
 |brk=>exact q
 |cont=>exact q
def Inv.quiet(I:Inv X B J H s):interactive X.env=ag:=by simp[interactive,I.ok.kind]
abbrev pd(te:TE):TS:=λD J H=>te J H λ_ H1=>D.nx J H1
variable{te:TE}
def dG{pos:Pos}(b:PE X e te)(c:fo e ab pos.line X.env=pure ag:=by rfl):PS X (.Expr e pos) (pd te):=by
 intro B s J H D I h;exact wpAny_Expr_any (thn (b B s J H _ I h) λv s1 ⟨x,H1,a,f,d⟩=>⟨J,H1,a,d⟩) I.quiet c
abbrev Mt(te:TE):TS:=λD J H=>te J H D.rt
def rE{pos:Pos}(b:PE X e te):PS X (.Return (aa e) pos) (Mt te):=by
 intro B s J H D I h;exact wpAny_Return_some (thn (b B s J H _ I h) λv s1 ⟨x,H1,a,d,c⟩=>⟨x,J,H1,a,d,c⟩)
abbrev Mu(c:TT)(t u:TS):TS:=λD J H=>c J H λb H1=>if b=ac then t D J H1 else u D J H1
variable{tc:TT}
def Fk{pos:Pos}{a b:List Stmt}(i:PT X c tc)(ha:PSs X a t)(g:PSs X b u):PS X (.If c a b pos) (Mu tc t u):=by
 intro B s J H D I h;refine wpAny_If (thn (i B s J H _ I h) λd s1 j=>?_);obtain⟨H1,e,f⟩:=j
 cases d with
 |true=>exact ha B s1 J H1 D e f
 |false=>exact g B s1 J H1 D e f
nonrec def TG:=V->St->Hp->(St->Hp->Prop)->Prop
nonrec def TGs:=LVv->St->Hp->(St->Hp->Prop)->Prop
abbrev PG(X:Cx)(a:Expr)(t:TG):Prop:=
 ∀(B:PNS) (s:aL) (J:St) (H:Hp) (v:V) (u:Value) (Q:St->Hp->Prop),Inv X B J H s->aZ v u->t v J H Q ->
  wpAny (model X.prog X.w) X.A (iE a X.env u) (λ_ s'=>∃σ' H',Inv X B σ' H' s'/\Q σ' H') X.xe s
abbrev PGs(X:Cx)(a:LEx)(t:TGs):Prop:=
 ∀(B:PNS) (s:aL) (J:St) (H:Hp) (L:LVv) (us:LVa) (Q:St->Hp->Prop),Inv X B J H s->ba L us->t L J H Q ->
  wpAny (model X.prog X.w) X.A (assignInOrder ((fI a X.env).map (·.2)) us) (λ_ s'=>∃σ' H',Inv X B σ' H' s'/\Q σ' H') X.xe s
nonrec def zy:=V->V->V->Hp->(Hp->Prop)->Prop
abbrev Fm(X:Cx)(t:zy):Prop:=
 ∀(B:PNS) (s:aL) (J:St) (H:Hp) (o i v:V) (ov a u:Value) (Q:Hp->Prop),Inv X B J H s->aZ o ov->aZ i a->aZ v u->t o i v H Q ->
  wpAny (model X.prog X.w) X.A (setItem ov a u) (λ_ s'=>∃H',Inv X B J H' s'/\Q H') X.xe s
nonrec def TIp:=V->V->Hp->VK->Prop
abbrev PIp(X:Cx)(a:Operator)(t:TIp):Prop:=
 ∀(B:PNS) (s:aL) (J:St) (H:Hp) (x y:V) (v u:Value) (Q:VK),Inv X B J H s->aZ x v->aZ y u->t x y H Q ->
  wpAny (model X.prog X.w) X.A (inplaceOp a v u) (EP X B J Q) X.xe s
abbrev mq(i:Nat):TG:=λv J H Q=>Q (J.set i (aa v)) H
def Fo{pos:Pos}(b:X.N.Nodup)(hi:X.N[i]?=aa x)(d:Loc X.env.scope x)(c:LcF X x:=by first |exact .inl rfl |exact .inr rfl |assumption):PG X (.Name x pos) (mq i):=by
 intro B s J H v u Q I r h;exact wpAny_assign_Name (zu I b hi d r (λs' a=>⟨_,H,a,h⟩) c)
abbrev Mv:TGs:=λL J H Q=>L=[]/\Q J H
abbrev Mw(t:TG)(u:TGs):TGs:=λL J H Q=>∃v r,L=v::r/\t v J H λσ' H'=>u r σ' H' Q
def Mx:PGs X [] Mv:=by
 intro B s J H L us Q I r h;obtain⟨e,h⟩:=h;exact assignInOrder_nil ⟨J,H,I,h⟩
variable{es:LEx}
def My{t:TG}{u:TGs}(h1:PG X e t)(h2:PGs X es u)
 (d:(fI (e::es) X.env).map (·.2)=iE e X.env::(fI es X.env).map (·.2):=by rfl):PGs X (e::es) (Mw t u):=by
 intro B s J H L us Q I r h;obtain⟨v,vr,c,h⟩:=h;subst c
 cases r with
 |cons r g=>
  rw[d];exact assignInOrder_cons (thn (h1 B s J H _ _ _ I r h) λ_ s1 ⟨a,H1,b,f⟩=>(h2 B s1 a H1 _ _ Q b g f))
abbrev Mz(K:br)(n:Nat)(t:TGs):TG:=λv J H Q=>∃a M,v=.ref a/\SqT K H a M/\M.length=n/\t M J H Q
def MA{pos:Pos}{k:Nat}{t:TGs}{n:Nat}(i:X.calm=ac)(h:PGs X es t)
 (hn:(fI es X.env).length=n:=by rfl)(c:(fI es X.env).findIdx? (·.1)=ab:=by rfl):PG X (.Tuple es k pos) (Mz X.K n t):=by
 intro B s J H v u Q I r d;obtain⟨a,M,g,l,j,d⟩:=d;subst g;subst r;obtain⟨its,f,m,hz⟩:=I.tuple l;refine assign_Tuple_tuple (I.ok.hd i) m (by simp[hn,<- j,f.length]) c λh' p=>?_;exact h B _ J H M _ Q (I.kept λb o e=>p b o (cu (bT e)) e) (by simpa using f) d
abbrev zA(to b:TE)(t:zy):TG:=λv J H Q=>to J H λo H1=>b J H1 λi H2=>t o i v H2 λa=>Q J a
def Fp{pos:Pos}{o i:Expr}{to c:TE}{t:zy}(j:PE X o to)(hi:PE X i c)(l:Fm X t)
 (ha:∀ v,iE (.Subscript o i pos) X.env v=(do
   let ov <- gb [v] (eval o X.env)
   let a <- gb [v,ov] (eval i X.env)
   jo pos
   gb [v,ov,a] (setItem ov a v)
   release [v,ov,a] []):=by intro _;rfl):PG X (.Subscript o i pos) (zA to c t):=by
 intro B s J H v u Q I r h;refine aE (fH (thn (j B s J H _ I h) λov s1 b=>?_));obtain⟨x,H1,e,q,m⟩:=b;refine aE (fH (thn (hi B s1 J H1 _ e m) λa s2 b=>?_));obtain⟨y,H2,f,w,n⟩:=b;exact aE (uV (aE (fH (thn (l B s2 J H2 x y v ov a u _ f q w r n) λ_ z ⟨d,g,p⟩=>(wpAny_release ⟨J,d,g,p⟩)))))
abbrev mr(te:TE)(g:TG):TS:=λD J H=>te J H λx H1=>g x J H1 D.nx
variable{tg:Expr}{g:TG}
def vc{pos:Pos}(b:PE X e te)(c:PG X tg g)(d:rh [tg] e pos.line X.env=pure ag:=by rfl)(f:rj [tg] e X.env=pure ab:=by rfl)
 (h1:(fI [tg] X.env).map (·.2)=[iE tg X.env]:=by rfl):PS X (.Assign [tg] e pos) (mr te g):=by
 intro B s J H D I h;refine wpAny_Assign_stores (thn (b B s J H _ I h) λv s1 j=>?_) d f;obtain⟨x,H1,a,l,i⟩:=j;rw[h1];exact thn (c B s1 J H1 x v _ a l i) λ_ s2 q=>q
variable{bb:Pos}
def mv{pos:Pos}(c:X.N.Nodup)(hi:X.N[i]?=aa x)(j:Loc X.env.scope x)(d:PE X e te)(g:fo e (aa (.Name x bb)) pos.line X.env=pure ag:=by rfl)(f:LcF X x:=by first |exact .inl rfl |exact .inr rfl |assumption):
  PS X (.Assign [.Name x bb] e pos) (mr te (mq i)):=by
 intro B s J H D I h;exact wpAny_Assign_Name (thn (d B s J H _ I h) λv s1 ⟨y,H1,a,m,l⟩=>(zu a c hi j m (λs2 b=>⟨_,H1,b,l⟩) f)) g
abbrev MB(i:Nat)(te:TE)(a:TIp):TS:=λD J H=>∃x,J[i]?=aa (aa x)/\te J H λy H1=>a x y H1 λz H2=>D.nx (J.set i (aa z)) H2
variable{op:Operator}
def Fq{pos:Pos}{n:TIp}(C:X.N.Nodup)(hi:X.N[i]?=aa x)(g:Loc X.env.scope x)(G:PE X e te)(Q:PIp X op n)(L:LcF X x:=by first |exact .inl rfl |exact .inr rfl |assumption):
  PS X (.AugAssign (.Name x bb) op e pos) (MB i te n):=by
 intro B s J H D I h;obtain⟨v,t,h⟩:=h;obtain⟨m,hn,M⟩:=I.loc
 have j:Vis X.env.scope x:=by rcases g with k |k;exact .inl k;exact .inr (.inl k)
 obtain⟨u,r,l⟩:=M i x v hi t j;refine wpAny_AugAssign_Name ?_
 have go:wpAny (model X.prog X.w) X.A (eval e X.env) (λw d=>wpAny (model X.prog X.w) X.A (inplaceOp op u w) (λr f=>wpAny (model X.prog X.w) X.A (storeName X.env x r) (λ_=>SP X B D .next) X.xe f) X.xe d) X.xe s:=by
  refine thn (G B s J H _ I h) λw s1 Y=>?_;obtain⟨y,H1,o,r1,T⟩:=Y;exact thn (Q B s1 J H1 v y u w _ o r r1 T) λz s2 ⟨zv,H2,p,r2,U⟩=>(zu p C hi g r2 (λs3 q=>⟨_,H2,q,U⟩) L)
 rcases l with⟨a,hm⟩ |⟨a,c,E,b⟩
 .exact q9 I.ok.kind a hn hm go
 .rcases a with a |a
  .exact wpAny_loadName_cell I.ok.kind a E b go
  .rcases g with k |k
   .have:X.env.scope.names.lookup x=aa .free:=a;rw[k]at this;nomatch this
   .have:X.env.scope.names.lookup x=aa .free:=a;rw[k]at this;nomatch this
abbrev ipI(f:Int->Int->Int):TIp:=λx y H Q=>∃i W6,x=.int i/\y=.int W6/\Q (.int (f i W6)) H
def MC:PIp X .Add (ipI λi W6=>i+W6):=by
 intro B s J H x y v u Q I c d h;obtain⟨i,W6,a,b,q⟩:=h;subst a;subst b;obtain⟨t,rfl⟩:=c;obtain⟨t',rfl⟩:=d;exact iadd_int ⟨.int _,H,I.tok _,⟨_,rfl⟩,q⟩
abbrev MD(c:TT)(tb:TS):TS:=λD J H=>∃W:Nat->St->Hp->Prop,(∃m,W m J H)/\∀m J H,W m J H ->
 c J H λb H1=>if b=ac then ∃N:St->Hp->Prop,(∀σ' H',N σ' H'->∃a,a<m/\W a σ' H')/\tb {D with nx:=N,ct:=N,bk:=D.nx} J H1 else D.nx J H1
variable{body:List Stmt}
def ME{pos:Pos}{tb:TS}(t:nA (model X.prog X.w) X.A X.env X.xe)(y:PT X c tc)(x:PSs X body tb):PS X (.While c body [] pos) (MD tc tb):=by
 intro B s J H D I h;obtain⟨W,⟨z,E⟩,g⟩:=h;refine wpAny_While (codeAny_whileLoop (λn s'=>∃σ' H',Inv X B σ' H' s'/\W n σ' H') ?_ z ⟨J,H,I,E⟩);rintro n s1 ⟨d,H1,u,G⟩;refine lg t (thn (y B s1 d H1 _ u (g n d H1 G)) λb s2 C=>?_);obtain⟨H2,q,i⟩:=C
 cases b with
 |true=>
  obtain⟨N,r,i⟩:=i;refine lg t (thn (x B s2 d H2 _ q i) λf L j=>?_)
  cases f with
  |next=>
   obtain⟨a,e,l,o⟩:=j;obtain⟨m,hm,p⟩:=r a e o
   exact⟨m,hm,a,e,l,p⟩
  |cont=>
   obtain⟨a,e,l,o⟩:=j;obtain⟨m,hm,p⟩:=r a e o
   exact⟨m,hm,a,e,l,p⟩
  |brk=>exact j
  |ret v=>exact j
 |false=>
  exact o3 ⟨d,H2,q,i⟩
structure It where
 go:Nat->Hp->Prop
 yld:Nat->Hp->V->Hp->Prop
 stop:Nat->Hp->Prop
abbrev ib(X:Cx)(B:PNS)(H:Hp)(b:Addr):Prop:=
 H b=ab/\b≠X.env.locals/\b∉X.fs/\(b∈X.ex\/X.s₀.heap.objs.size<=b)/\(∀x c,X.env.cells.lookup x=aa c->c≠b)/\∀p∈X.pn++B,p.1≠b
def Inv.fpOk{b:Addr}(I:Inv X B J H s)(a:s.heap.objs.size<=b)(hn:H' b=ab):ib X B H' b:=by
 refine⟨hn,ma (f9 I.lt a),I.nofs a,.inr (cP I.sz a),λx c e z=>?_,λp d z=>(absurd (f9 (bT (I.pin p d).1) (by rw[z];exact a)) (jZ _))⟩;obtain⟨v,q⟩:=I.cell x c e;exact absurd (f9 q.lt (by rw[z];exact a)) (jZ _)
structure mw(P:du)(w:World)(K:br)(tg:Expr)(W2:It)(fp:LAd)(it:Addr)(tn:Nat->Heap->Prop):Prop where
 mem:it∈fp
 obj:∀i h,tn i h->∀b∈fp,∃o,h.get? b=aa o/\∀v,o.data≠.cell v
 keep:∀i h h',tn i h->(∀b∈fp,∀o,h.get? b=aa o->h'.get? b=aa o)->tn i h'
 item:∀(X:Cx),X.prog=P->X.w=w->X.K=K->X.calm=ac->∀(i:Nat) (B:PNS) (s:aL) (J:St) (H:Hp) (W5:PRS),Inv X B J H s->(∀b∈fp,ib X B H b)->tn i s.heap->W2.go i H ->
  wpAny (model P w) X.A (pyNext (.ref it)) (λr s1=>∃ u,r=aa u /\
   wpAny (model P w) X.A (letOwnedTupleGo tg (.ref it) u) (λ_ s2=>∃x H',Inv X B J H' s2/\aZ x u/\W2.yld i H x H'/\tn (i+1) s2.heap/\∀b∈fp,H' b=ab) W5 s1) W5 s
 done:∀(X:Cx),X.prog=P->X.w=w->X.K=K->X.calm=ac->∀(i:Nat) (B:PNS) (s:aL) (J:St) (H:Hp) (W5:PRS),Inv X B J H s->(∀b∈fp,ib X B H b)->tn i s.heap->W2.stop i H ->
  wpAny (model P w) X.A (pyNext (.ref it)) (λr s1=>r=ab/\Inv X B J H s1) W5 s
 self:∀(A:dQ) (i:Nat) (s:aL) (Q:PRS) (W5:PRS),tn i s.heap->Q (.ref it) s->wpAny (model P w) A (pyIter (.ref it)) Q W5 s
nonrec def TI:=St->Hp->(It->Hp->Prop)->Prop
abbrev PIE(X:Cx)(B:PNS)(J:St)(tg:Expr)(R:It->Hp->Prop)(a:Value)(s2:aL):Prop:=
 ∃(it:Addr) (fp:LAd) (tn:Nat->Heap->Prop) (W2:It) (H':Hp),a=.ref it/\Inv X B J H' s2/\mw X.prog X.w X.K tg W2 fp it tn/\tn 0 s2.heap/\(∀b∈fp,ib X B H' b)/\R W2 H'
abbrev PI(X:Cx)(tg iter:Expr)(a:TI):Prop:=
 ∀(B:PNS) (s:aL) (J:St) (H:Hp) (R:It->Hp->Prop),Inv X B J H s->a J H R ->
  wpAny (model X.prog X.w) X.A (eval iter X.env) (λv s1=>wpAny (model X.prog X.w) X.A (pyIter v) (PIE X B J tg R) X.xe s1) X.xe s
def rF{u:Value}{n:String}{L:Array Value}(c:s.heap.get? it = aa o)(b:o.cls = .type n)(hd:o.data = .fields L)
   (hn:["enumerate", "zip", "dict_itemiterator", "dict_reverseitemiterator", "odict_iterator", "itertools.zip_longest", "itertools.pairwise"].contains n = ag)(a:Q () s):wpAny W1 A (letOwnedTupleGo tg (.ref it) u) Q W5 s:= by
  cases tg <;> first
    |exact bq a
    | (cases u <;> first
        |exact bq a
        | (refine aE (wpAny_load c ?_)
           rw[b, hd];show wpAny W1 A (if _ = ac then _ else _) Q W5 s;rw[if_neg (by intro h;rw[hn, Bool.false_and]at h;nomatch h)];exact bq a))
abbrev Itl(K:br)(a:Addr):It:=
 ⟨λi H=>∃M x,SqL K H a M/\M[i]?=aa x,λi H x H'=>H'=H/\∀M,SqL K H a M->M[i]?=aa x,λi H=>∃M,SqL K H a M/\M.length<=i⟩
abbrev Itt(K:br)(a:Addr):It:=
 ⟨λi H=>∃M x,SqT K H a M/\M[i]?=aa x,λi H x H'=>H'=H/\∀M,SqT K H a M->M[i]?=aa x,λi H=>∃M,SqT K H a M/\M.length<=i⟩
abbrev Itr(lo:Int)(n:Nat):It:=⟨λi _=>i<n,λi H x H'=>H'=H/\x=.int (lo+i),λi _=>n<=i⟩
def MF(a it:Addr):mw P w K tg (Itl K a) [it] it (λi h=>h.IsListIter it a i) where
 mem:=by simp
 obj:=λi h st b hb=>by
  have e:b=it:=by simpa using hb
  subst e;obtain⟨o,e,c,d⟩:=st;exact⟨o,e,λv z=>by rw[d]at z;nomatch z⟩
 keep:=λi h h' st k=>st.at λo e=>k it (by simp) o e
 item:=by
  intro X hP hw hK hc i B s J H W5 I hf st hg;subst hP hw hK;obtain⟨M,x,hq,hx⟩:=hg;obtain⟨its,rv,p,hz⟩:=I.list hq;obtain⟨u,hu,ru⟩:=rv.get hx;obtain⟨f0,f1,f2,f3,f4,f5⟩:=hf it (by simp);refine y6 st p.isList (by simpa using hu) λh' dq sb=>?_;obtain⟨o,e,c,d⟩:=id dq;exact⟨u,rfl,rF e c d (rfl) ⟨x,H,(I.turned (λb o hb e=>(sb.2 b hb).trans e) f0 f1 f3 f4 f5),ru,⟨rfl,λys hy=>by rw[I.list_inj hy hq];exact hx⟩,dq,λb hb=>(hf b hb).1⟩⟩
 done:=by
  intro X hP hw hK hc i B s J H W5 I hf st hg;subst hP hw hK;obtain⟨M,hq,hx⟩:=hg;obtain⟨its,rv,p,hz⟩:=I.list hq;obtain⟨f0,f1,f2,f3,f4,f5⟩:=hf it (by simp);have hl:=rv.length;exact y7 (I.ok.hd hc) st p.isList (by simp;lia) λh' eb=>⟨rfl,I.turned (λb o hb e=>eb b o hb e) f0 f1 f3 f4 f5⟩
 self:=λ_ _ _ _ _ st h=>wpAny_pyIter_listiter st h
def MG(a it:Addr):mw P w K tg (Itt K a) [it] it (λi h=>h.IsTupleIter it a i) where
 mem:=by simp
 obj:=λi h st b hb=>by
  have e:b=it:=by simpa using hb
  subst e;obtain⟨o,e,c,d⟩:=st;exact⟨o,e,λv z=>by rw[d]at z;nomatch z⟩
 keep:=λi h h' st k=>st.at λo e=>k it (by simp) o e
 item:=by
  intro X hP hw hK hc i B s J H W5 I hf st hg;subst hP hw hK;obtain⟨M,x,hq,hx⟩:=hg;obtain⟨its,rv,p,hz⟩:=I.tuple hq;obtain⟨u,hu,ru⟩:=rv.get hx;obtain⟨f0,f1,f2,f3,f4,f5⟩:=hf it (by simp);refine wpAny_pyNext_tuple_item st (p) (by simpa using hu) λh' dq sb=>?_;obtain⟨o,e,c,d⟩:=id dq;exact⟨u,rfl,rF e c d (rfl) ⟨x,H,(I.turned (λb o hb e=>(sb.2 b hb).trans e) f0 f1 f3 f4 f5),ru,⟨rfl,λys hy=>by rw[I.tuple_inj hy hq];exact hx⟩,dq,λb hb=>(hf b hb).1⟩⟩
 done:=by
  intro X hP hw hK hc i B s J H W5 I hf st hg;subst hP hw hK;obtain⟨M,hq,hx⟩:=hg;obtain⟨its,rv,p,hz⟩:=I.tuple hq;obtain⟨f0,f1,f2,f3,f4,f5⟩:=hf it (by simp);have hl:=rv.length;exact wpAny_pyNext_tuple_end (I.ok.hd hc) st (p) (by simp;lia) λh' eb=>⟨rfl,I.turned (λb o hb e=>eb b o hb e) f0 f1 f3 f4 f5⟩
 self:=λ_ _ _ _ _ st h=>wpAny_pyIter_tupleiter st h
def MH(it:Addr)(lo:Int)(n:Nat):mw P w K tg (Itr lo n) [it] it (λi h=>IsRangeIter h it (lo+(i:Nat)*1) ((n:Int)-(i:Nat)) 1) where
 mem:=by simp
 obj:=λi h st b hb=>by
  have e:b=it:=by simpa using hb
  subst e
  exact⟨_,st,λv z=>by
   nomatch z⟩
 keep:=λi h h' st k=>k it (by simp) _ st
 item:=by
  intro X hP hw hK hc i B s J H W5 I hf st hg;obtain⟨f0,f1,f2,f3,f4,f5⟩:=hf it (by simp);refine(Walks.range (I.ok.hd hc) it lo 1 n).item i s _ _ hg st λv h' tk hv dq kk=>?_;obtain⟨t,rfl⟩:=hv
  have I1:Inv X B J H {s with heap:=h',toks:=tk}:=I.turned (λb o hb e=>kk b o (by simpa using hb) e) f0 f1 f3 f4 f5
  refine⟨_,rfl,rF dq rfl rfl (rfl) ⟨.int _,H,I1,⟨t,?_⟩,⟨rfl,rfl⟩,dq,λb hb=>(hf b hb).1⟩⟩;rw[Int.mul_one]
 done:=by
  intro X hP hw hK hc i B s J H W5 I hf st hg;obtain⟨f0,f1,f2,f3,f4,f5⟩:=hf it (by simp);exact wpAny_pyNext_range_end (I.ok.hd hc) st (by have:n<=i:=hg;lia) λh' eb=>⟨rfl,I.turned (λb o hb e=>eb b o hb e) f0 f1 f3 f4 f5⟩
 self:=λ_ _ _ _ _ st h=>wpAny_pyIter_rangeiter st h
abbrev MI(K:br)(tl:TE):TI:=λJ H R=>tl J H λx H1=>∃a,x=.ref a/\(∃M,SqL K H1 a M)/\R (Itl K a) H1
abbrev MJ(K:br)(tl:TE):TI:=λJ H R=>tl J H λx H1=>∃a,x=.ref a/\(∃M,SqT K H1 a M)/\R (Itt K a) H1
variable{l:Expr}{tl:TE}
def zB(f:PE X l tl):PI X tg l (MI X.K tl):=by
 intro B s J H R I h;refine thn (f B s J H _ I h) λv s1 j=>?_;obtain⟨x,H1,c,m,i⟩:=j;obtain⟨a,e,⟨M,g⟩,q⟩:=i;subst e;subst m;obtain⟨its,n,p,hz⟩:=c.list g;refine o2 p.isList ?_;refine⟨s1.heap.objs.size,_,_,_,H1,rfl,c.kept λb o e=>cj _ e,MF a _,⟨_,eW _ rfl,rfl,rfl⟩,λb d=>?_,q⟩;have e:b=s1.heap.objs.size:=by simpa using d
 subst e;exact c.fpOk (bh _) (c.hok.fresh (bh _))
def MK(f:PE X l tl):PI X tg l (MJ X.K tl):=by
 intro B s J H R I h;refine thn (f B s J H _ I h) λv s1 j=>?_;obtain⟨x,H1,c,m,i⟩:=j;obtain⟨a,e,⟨M,g⟩,q⟩:=i;subst e;subst m;obtain⟨its,n,p,hz⟩:=c.tuple g;refine wpAny_pyIter_tuple (p) ?_;refine⟨s1.heap.objs.size,_,_,_,H1,rfl,c.kept λb o e=>cj _ e,MG a _,⟨_,eW _ rfl,rfl,rfl⟩,λb d=>?_,q⟩;have e:b=s1.heap.objs.size:=by simpa using d
 subst e;exact c.fpOk (bh _) (c.hok.fresh (bh _))
def ML{R:It->Hp->Prop}{lo hi:Int}{t u v:Tok}{c:Nat}(I:Inv X B J H s)(h1:-(2 ^ 62)<=lo)(h2:lo<2 ^ 62)(g:-(2 ^ 62)<=hi)(h:hi<2 ^ 62)
 (q:R (Itr lo (hi-lo).toNat) H):wpAny (model X.prog X.w) X.A (pyIter (.ref s.heap.objs.size)) (PIE X B J tg R) W5 {s with heap:=s.heap.push {cls:=.type "range",data:=.fields #[.int lo t,.int hi u,.int 1 v]},toks:=c}:=by
 refine wpAny_pyIter_range (IsRange.new ..) (small_one h1 h2 g h) ?_
 have a:Inv X B J H {s with heap:=s.heap.push {cls:=.type "range",data:=.fields #[.int lo t,.int hi u,.int 1 v]},toks:=c}:=I.kept λb o e=>cj _ e
 refine⟨(s.heap.push {cls:=.type "range",data:=.fields #[.int lo t,.int hi u,.int 1 v]}).objs.size,_,_,_,H,rfl,
  a.kept λb o e=>cj _ e,MH _ lo (hi-lo).toNat,?_,λb i=>?_,q⟩
 .have d:lo+((0:Nat):Int)*1=lo:=by simp
  have f:(((hi-lo).toNat:Nat):Int)-((0:Nat):Int)=fc.Range.rangeSize lo hi 1:=by rw[rangeSize_one];split <;> lia
  rw[d,f];exact eW _ rfl
 .have e:b=(s.heap.push {cls:=.type "range",data:=.fields #[.int lo t,.int hi u,.int 1 v]}).objs.size:=by simpa using i
  subst e;exact a.fpOk (bh _) (a.hok.fresh (bh _))
abbrev MM(ta:TA):TI:=λJ H R=>ta J H λL H1=>∃W6:Int,L=[.int W6]/\-(2 ^ 62)<=W6/\W6<2 ^ 62/\R (Itr 0 W6.toNat) H1
variable{a:Expr}
def Fs{ta:TA}{p pos:Pos}(d:Gl X "range")(hm:X.mg "range"=ab)(ha:PA X [a] ta)(f:bf [a] X.env=[(ag,eval a X.env)]:=by rfl):PI X tg (.Call (.Name "range" p) [a] [] pos) (MM ta):=by
 intro B s J H R I h;refine Call_ (j6 I d hm boot_range (nq (thn (ha pos B s J H _ I h) λus s1 ⟨L,H1,c,i,b⟩=>?_) f rfl));obtain⟨W6,e,b,g,q⟩:=b;subst e
 cases i with
 |cons r j=>
  cases j;obtain⟨t,rfl⟩:=r;exact call_range_1 (ML c (by lia) (by lia) b g (by simpa using q))
abbrev MN(c:TI)(g:TG)(tb:TS):TS:=λD J H=>c J H λW2 H1=>∃W:Nat->Nat->St->Hp->Prop,(∃m,W 0 m J H1)/\∀i m J H,W i m J H ->
 (W2.stop i H/\D.nx J H)\/(W2.go i H/\∃N:St->Hp->Prop,(∀σ' H',N σ' H'->∃b,b<m/\W (i+1) b σ' H')/\∀x H',W2.yld i H x H'->g x J H' λa H2=>tb {D with nx:=N,ct:=N,bk:=D.nx} a H2)
abbrev vd(fp:LAd)(h:Heap):PNS:=fp.filterMap λb=>(h.get? b).map λo=>(b,o)
variable{fp:LAd}
def rG{b:Addr}(a:b∈fp)(e:h.get? b=aa o):(b,o)∈vd fp h:=mem_filterMap.mpr ⟨b,a,by rw[e];rfl⟩
def MO{p:Addr×Obj}(a:p∈vd fp h):p.1∈fp/\h.get? p.1=aa p.2:=by
 obtain⟨b,c,e⟩:=mem_filterMap.mp a
 cases q:h.get? b with
 |none=>rw[q]at e;nomatch e
 |some o=>
  grind
def Inv.pinned(I:Inv X B J H s)(c:∀b∈fp,ib X B H b)(i:∀b∈fp,∃o,s.heap.get? b=aa o/\∀v,o.data≠.cell v):Inv X (B++vd fp s.heap) J H s:=
 I.pins_of λp d=>(cM.mp d).elim (λz=>I.pin p (h7 _ z)) λz=>by
  obtain⟨a,e⟩:=MO z;obtain⟨f,g,h,_⟩:=c p.1 a
  grind
def Inv.unpinned{pl:PNS}(I:Inv X (B++pl) J H s):Inv X B J H s:=I.pins_of λp a=>I.pin p (h7 _ (mem_append_left _ a))
variable{iter:Expr}{wi:TI}
def Ft{tb:TS}{pos:Pos}(C:nA (model X.prog X.w) X.A X.env X.xe)(hc:X.calm=ac)(hi:PI X tg iter wi)(hg:PG X tg g)(l:PSs X body tb)
 (hs:∀x,iD iter X.env x=pure x:=by intro _;rfl):PS X (.For tg iter body [] pos) (MN wi g tb):=by
 intro B s J H D I h;refine wpAny_For (thn (hi B s J H _ I h) λv s1 h1=>thn h1 λitv s2 h2=>?_) hs;obtain⟨it,fp,tn,W2,H2,e,I2,T,st2,f2,W,⟨m0,w0⟩,M⟩:=h2;subst e;have p:∀{H':Hp},(∀b∈fp,H' b=ab)->∀b∈fp,ib X B H' b:=λhn b l=>⟨hn b l,(f2 b l).2⟩;refine codeAny_forLoop_any (λn s'=>∃i σ' H',Inv X B σ' H' s'/\tn i s'.heap/\(∀b∈fp,H' b=ab)/\W i n σ' H') ?_ m0 ⟨0,J,H2,I2,st2,λb l=>(f2 b l).1,w0⟩;rintro n s3 ⟨i,q,Q,I3,L,z,w3⟩
 rcases M i n q Q w3 with⟨stop,qn⟩ |⟨go,N,hN,step⟩
 .refine lg C (thn (T.done X rfl rfl rfl hc i B s3 q Q X.xe I3 (p z) L stop) λr s4 ⟨Y,I4⟩=>?_);subst Y;exact o3 ⟨q,Q,I4,qn⟩
 .refine lg C (thn (T.item X rfl rfl rfl hc i B s3 q Q X.xe I3 (p z) L go) λr s4 G=>?_);obtain⟨u,Y,h4⟩:=G;subst Y;refine lg C (thn h4 λ_ s5 G=>?_);obtain⟨x,H5,I5,r5,y5,y,U⟩:=G;refine lg C (thn (hg _ s5 q H5 x u _ (I5.pinned (p U) (T.obj _ _ y)) r5 (step x H5 y5)) λ_ s6 G=>?_);obtain⟨σ6,H6,I6,q6⟩:=G;refine lg C (thn (l _ s6 σ6 H6 _ I6 q6) λf s7 t=>?_)
  have again:∀{a:St} {c:Hp},Inv X _ a c s7->N a c->∃m,m<n/\∃i σ' H',Inv X B σ' H' s7/\tn i s7.heap/\(∀b∈fp,H' b=ab)/\W i m σ' H':=λ{a c} j E=>by
   obtain⟨m',hm,w7⟩:=hN a c E;refine⟨m',hm,i+1,a,c,j.unpinned,T.keep _ _ _ y λb l o e=>(j.pin _ (h7 _ (h7 _ (rG l e)))).1,λb l=>?_,w7⟩;obtain⟨o,e,d⟩:=T.obj _ _ y b l;exact(j.pin _ (h7 _ (h7 _ (rG l e)))).2.1
  cases f with
  |next=>obtain⟨a,c,j,E⟩:=t;exact again j E
  |cont=>obtain⟨a,c,j,E⟩:=t;exact again j E
  |brk=>obtain⟨a,c,j,t⟩:=t;exact⟨a,c,j.unpinned,t⟩
  |ret v=>obtain⟨x7,a,c,j,r7,t⟩:=t;exact⟨x7,a,c,j.unpinned,r7,t⟩
nonrec def R2:=V->V->Hp->VK->Prop
abbrev OpR(X:Cx)(f:Value->Value->Sem Value)(r:R2):Prop:=
 ∀(B:PNS) (s:aL) (J:St) (H:Hp) (x y:V) (v u:Value) (Q:VK),Inv X B J H s->aZ x v->aZ y u->r x y H Q ->
  wpAny (model X.prog X.w) X.A (f v u) (EP X B J Q) X.xe s
abbrev UnR(X:Cx)(f:Value->Sem Value)(r:V->Hp->VK->Prop):Prop:=
 ∀(B:PNS) (s:aL) (J:St) (H:Hp) (x:V) (v:Value) (Q:VK),Inv X B J H s->aZ x v->r x H Q ->
  wpAny (model X.prog X.w) X.A (f v) (EP X B J Q) X.xe s
abbrev gi(X:Cx)(f:Value)(r:LVv->Hp->VK->Prop):Prop:=
 ∀(B:PNS) (s:aL) (J:St) (H:Hp) (M:LVv) (us:LVa) (Q:VK),Inv X B J H s->ba M us->r M H Q ->
  wpAny (model X.prog X.w) X.A (call f us) (EP X B J Q) X.xe s
abbrev MP(X:Cx)(r:V->Hp->(Bool->Hp->Prop)->Prop):Prop:=
 ∀(B:PNS) (s:aL) (J:St) (H:Hp) (x:V) (v:Value) (Q:Bool->Hp->Prop),Inv X B J H s->aZ x v->r x H Q ->
  wpAny (model X.prog X.w) X.A (truthy v) (TP X B J Q) X.xe s
abbrev tOp(r:R2)(ta tb:TE):TE:=λJ H Q=>ta J H λx H1=>tb J H1 λy H2=>r x y H2 Q
abbrev tUn(r:V->Hp->VK->Prop)(ta:TE):TE:=λJ H Q=>ta J H λx H1=>r x H1 Q
abbrev rI(W4:Int->Int->Prop)(g:Int->Int->V):R2:=λx y H Q=>∃i W6,x=.int i/\y=.int W6/\W4 i W6/\Q (g i W6) H
abbrev rI0(g:Int->Int->V):R2:=λx y H Q=>∃i W6,x=.int i/\y=.int W6/\Q (g i W6) H
abbrev rU(g:Int->V):V->Hp->VK->Prop:=λx H Q=>∃i,x=.int i/\Q (g i) H
variable{f:Value->Value->Sem Value}
def ve(ha:PE X a ta)(i:PE X b tb){R:V->V->Hp->Prop}(I:Inv X B J H s)
 (h:ta J H λx H1=>tb J H1 λy H2=>R x y H2){Q:PRS}
 (j:∀v u s2 x y H2,Inv X B J H2 s2->aZ x v->aZ y u->R x y H2->wpAny (model X.prog X.w) X.A (f v u) Q X.xe s2):
  wpAny (model X.prog X.w) X.A (eval a X.env) (λv c=>wpAny (model X.prog X.w) X.A (eval b X.env) (λu d=>wpAny (model X.prog X.w) X.A (f v u) Q X.xe d) X.xe c) X.xe s:=by
 refine thn (ha B s J H _ I h) λv s1 n=>?_;obtain⟨x,H1,e,o,l⟩:=n;exact thn (i B s1 J H1 _ e l) λu s2 ⟨y,H2,g,p,m⟩=>(j v u s2 x y H2 g o p m)
def zC{pos:Pos}{r:R2}(e:OpR X (gh op) r)(ha:PE X a ta)(d:PE X b tb):PE X (.BinOp a op b pos) (tOp r ta tb):=by
 intro B s J H Q I h;exact wpAny_BinOp (ve ha d I h λv u s2 x y H2 c f g q=>e B s2 J H2 x y v u Q c f g q)
def MQ{pos:Pos}{op:UnaryOp}{r:V->Hp->VK->Prop}(c:UnR X (unaryOp op) r)(ha:PE X a ta):PE X (.UnaryOp op a pos) (tUn r ta):=by
 intro B s J H Q I h;exact UnaryOp_ (thn (ha B s J H _ I h) λv s1 ⟨x,H1,b,e,d⟩=>c B s1 J H1 x v Q b e d)
def opI{W4:Int->Int->Prop}{g:Int->Int->Int}
 (rule:∀(i W6:Int) (t u:Tok) (s:aL) (Q:PRS) (W5:PRS),W4 i W6->Q (.int (g i W6) s.toks) {s with toks:=s.toks+1}->wpAny (model X.prog X.w) X.A (f (.int i t) (.int W6 u)) Q W5 s):
  OpR X f (rI W4 λi W6=>.int (g i W6)):=by
 intro B s J H x y v u Q I b c h;obtain⟨i,W6,rfl,rfl,a,q⟩:=h;obtain⟨t,rfl⟩:=b;obtain⟨t',rfl⟩:=c;exact rule i W6 t t' s _ _ a ⟨.int _,H,I.tok _,⟨_,rfl⟩,q⟩
def Fu{g:Int->Int->Int}
 (rule:∀(i W6:Int) (t u:Tok) (s:aL) (Q:PRS) (W5:PRS),Q (.int (g i W6) s.toks) {s with toks:=s.toks+1}->wpAny (model X.prog X.w) X.A (f (.int i t) (.int W6 u)) Q W5 s):
  OpR X f (rI0 λi W6=>.int (g i W6)):=by
 intro B s J H x y v u Q I a b h;obtain⟨i,W6,rfl,rfl,q⟩:=h;obtain⟨t,rfl⟩:=a;obtain⟨t',rfl⟩:=b;exact rule i W6 t t' s _ _ ⟨.int _,H,I.tok _,⟨_,rfl⟩,q⟩
def zD{g:Int->Int->Bool}
 (rule:∀(i W6:Int) (t u:Tok) (s:aL) (Q:PRS) (W5:PRS),Q (.bool (g i W6)) s->wpAny (model X.prog X.w) X.A (f (.int i t) (.int W6 u)) Q W5 s):
  OpR X f (rI0 λi W6=>.bl (g i W6)):=by
 intro B s J H x y v u Q I a b h;obtain⟨i,W6,rfl,rfl,q⟩:=h;obtain⟨t,rfl⟩:=a;obtain⟨t',rfl⟩:=b;exact rule i W6 t t' s _ _ ⟨.bl _,H,I,rfl,q⟩
abbrev rH(i W6:Int):Prop:=0<W6/\W6<1073741824
abbrev rJ(i W6:Int):Prop:=0<=W6/\W6<=1000000/\i.natAbs<2 ^ 64
abbrev rK(i W6:Int):Prop:=(-(2 ^ 64)<i/\i<2 ^ 64)\/(-(2 ^ 64)<W6/\W6<2 ^ 64)
variable{W6:Int}
def rK.ok{i:Int}(h:rK i W6):IntMulOk i W6:=by
 rcases h with⟨h1,h2⟩ |⟨h1,h2⟩
 .exact .of_left (intBits_le_64 h1 h2)
 .exact .of_right (intBits_le_64 h1 h2)
def MR:OpR X (gh .Add) (rI0 λi W6=>.int (i+W6)):=Fu λ_ _ _ _ _ _ _ q=>add_int q
def MS:OpR X (gh .Sub) (rI0 λi W6=>.int (i-W6)):=Fu λ_ _ _ _ _ _ _ q=>sub_int q
def MT:OpR X (gh .FloorDiv) (rI rH λi W6=>.int (i / W6)):=opI λi W6 _ _ _ _ _ a q=>by
 have h1:=a.1;have h2:=a.2;exact floordiv_int (by lia) (by rw[Int.fdiv_eq_ediv_of_nonneg i (by lia)];exact q) (.inl (PyProof.noPylong_small (by lia)))
def MU:OpR X (gh .Mod) (rI (λ_ W6=>0<W6) λi W6=>.int (i % W6)):=opI λi W6 _ _ _ _ _ a q=>by
 exact mod_int' (by lia) (by rw[Int.fmod_eq_emod_of_nonneg i (by lia)];exact q)
def MV:OpR X (gh .Pow) (rI rJ λi W6=>.int (i ^ W6.toNat)):=opI λ_ _ _ _ _ _ _ a q=>pow_int_small a.1 a.2.1 a.2.2 q
def unI{f:Value->Sem Value}{g:Int->Int}
 (rule:∀(i:Int) (t:Tok) (s:aL) (Q:PRS) (W5:PRS),Q (.int (g i) s.toks) {s with toks:=s.toks+1}->wpAny (model X.prog X.w) X.A (f (.int i t)) Q W5 s):
  UnR X f (rU λi=>.int (g i)):=by
 intro B s J H x v Q I a h;obtain⟨i,rfl,q⟩:=h;obtain⟨t,rfl⟩:=a;exact rule i t s _ _ ⟨.int _,H,I.tok _,⟨_,rfl⟩,q⟩
def MW:UnR X (unaryOp .USub) (rU λi=>.int (-i)):=unI λ_ _ _ _ _ q=>neg_int q
abbrev zE:V->V->Bool
 |.non,.non=>ac |.non,.int _=>ac |.int _,.non=>ac |.non,.bl _=>ac |.bl _,.non=>ac |.non,.str _=>ac |.str _,.non=>ac
 |.int _,.int _=>ac |.bl _,.bl _=>ac |.str _,.str _=>ac |.byt _,.byt _=>ac
 |.int _,.str _=>ac |.str _,.int _=>ac |.bl _,.str _=>ac |.str _,.bl _=>ac
 | _,_=>ag
abbrev rEq:R2:=λx y H Q=>zE x y=ac/\Q (.bl (decide (x=y))) H
abbrev rNe:R2:=λx y H Q=>zE x y=ac/\Q (.bl (!decide (x=y))) H
def zF{i:Int}:decide (V.int i=V.int W6)=(i==W6):=by
 rw[iA];simp
def vf{i W6:Bool}:decide (V.bl i=V.bl W6)=(i==W6):=by
 rw[iA];simp
def zG{i W6:Str}:decide (V.str i=V.str W6)=(i==W6):=by
 rw[iA];simp
def Fv{i W6:Array UInt8}:decide (V.byt i=V.byt W6)=(i.toList==W6.toList):=by
 rw[iA];cases i;cases W6;simp
def cX{Q:VK}{k a:Bool}(I:Inv X B J H s)(q:Q (.bl k) H)(e:k=a):EP X B J Q (.bool a) s:=by
 subst e;exact⟨.bl k,H,I,rfl,q⟩
def MX:OpR X (dP .Eq) rEq:=by
 intro B s J H x y v u Q I c a h;obtain⟨b,q⟩:=h
 cases x with
 |non=>
  cases c
  cases y with
  |non=>subst a;exact PySem.EqNone.eq_none_none (cX I q (by rfl))
  |bl W6=>subst a;exact PySem.EqNone.eq_none_bool (cX I q (by rfl))
  |int W6=>obtain⟨t',rfl⟩:=a;exact PySem.EqNone.eq_none_int (cX I q (by rfl))
  |str W6=>obtain⟨t',rfl⟩:=a;exact PySem.EqNone.eq_none_str (cX I q (by rfl))
  | _=>exact absurd (b) cq
 |bl i=>
  subst c
  cases y with
  |non=>subst a;exact PySem.EqNone.eq_bool_none (cX I q (by simp))
  |bl W6=>subst a;exact eq_bool (cX I q vf)
  |str W6=>obtain⟨t',rfl⟩:=a;exact PySem.EqMixed.eq_bool_str (cX I q (by simp))
  | _=>exact absurd (b) cq
 |int i=>
  obtain⟨t,rfl⟩:=c
  cases y with
  |non=>subst a;exact PySem.EqNone.eq_int_none (cX I q (by simp))
  |int W6=>obtain⟨t',rfl⟩:=a;exact eq_int (cX I q zF)
  |str W6=>obtain⟨t',rfl⟩:=a;exact PySem.EqMixed.eq_int_str (cX I q (by simp))
  | _=>exact absurd (b) cq
 |str i=>
  obtain⟨t,rfl⟩:=c
  cases y with
  |non=>subst a;exact PySem.EqNone.eq_str_none (cX I q (by simp))
  |bl W6=>subst a;exact PySem.EqMixed.eq_str_bool (cX I q (by simp))
  |int W6=>obtain⟨t',rfl⟩:=a;exact PySem.EqMixed.eq_str_int (cX I q (by simp))
  |str W6=>obtain⟨t',rfl⟩:=a;exact eq_str (cX I q zG)
  | _=>exact absurd (b) cq
 |byt i=>
  obtain⟨t,rfl⟩:=c
  cases y with
  |byt W6=>obtain⟨t',rfl⟩:=a;exact W.eq_bytes (cX I q Fv)
  | _=>exact absurd (b) cq
 | _=>cases y <;> exact absurd (show ag=ac from b) cq
def MY:OpR X (dP .NotEq) rNe:=by
 intro B s J H x y v u Q I c a h;obtain⟨b,q⟩:=h
 cases x with
 |non=>
  cases c
  cases y with
  |non=>subst a;exact PySem.EqNone.ne_none_none (cX I q (by rfl))
  |bl W6=>subst a;exact PySem.EqNone.ne_none_bool (cX I q (by rfl))
  |int W6=>obtain⟨t',rfl⟩:=a;exact PySem.EqNone.ne_none_int (cX I q (by rfl))
  |str W6=>obtain⟨t',rfl⟩:=a;exact PySem.EqNone.ne_none_str (cX I q (by rfl))
  | _=>exact absurd (b) cq
 |bl i=>
  subst c
  cases y with
  |non=>subst a;exact PySem.EqNone.ne_bool_none (cX I q (by rfl))
  |bl W6=>subst a;exact ne_bool (cX I q (congrArg not vf))
  |str W6=>obtain⟨t',rfl⟩:=a;exact PySem.EqMixed.ne_bool_str (cX I q (by simp))
  | _=>exact absurd (b) cq
 |int i=>
  obtain⟨t,rfl⟩:=c
  cases y with
  |non=>subst a;exact PySem.EqNone.ne_int_none (cX I q (by simp))
  |int W6=>obtain⟨t',rfl⟩:=a;exact ne_int (cX I q (congrArg not zF))
  |str W6=>obtain⟨t',rfl⟩:=a;exact PySem.EqMixed.ne_int_str (cX I q (by simp))
  | _=>exact absurd (b) cq
 |str i=>
  obtain⟨t,rfl⟩:=c
  cases y with
  |non=>subst a;exact PySem.EqNone.ne_str_none (cX I q (by simp))
  |bl W6=>subst a;exact PySem.EqMixed.ne_str_bool (cX I q (by simp))
  |int W6=>obtain⟨t',rfl⟩:=a;exact PySem.EqMixed.ne_str_int (cX I q (by simp))
  |str W6=>obtain⟨t',rfl⟩:=a;exact ne_str (cX I q (congrArg not zG))
  | _=>exact absurd (b) cq
 |byt i=>
  obtain⟨t,rfl⟩:=c
  cases y with
  |byt W6=>obtain⟨t',rfl⟩:=a;exact W.ne_bytes (cX I q (congrArg not Fv))
  | _=>exact absurd (show ag=ac from b) cq
 | _=>cases y <;> exact absurd (show ag=ac from b) cq
def MZ:OpR X (dP .Lt) (rI0 λi W6=>.bl (decide (i<W6))):=zD λ_ _ _ _ _ _ _ q=>lt_int q
def M0:OpR X (dP .LtE) (rI0 λi W6=>.bl (decide (i<=W6))):=zD λ_ _ _ _ _ _ _ q=>le_int q
def M1:OpR X (dP .Gt) (rI0 λi W6=>.bl (decide (W6<i))):=zD λ_ _ _ _ _ _ _ q=>gt_int q
def M3:OpR X (dP .Is) (λx y H Q=>y=.non/\Q (.bl (decide (x=.non))) H):=by
 intro B s J H x y v u Q I a b h;obtain⟨rfl,q⟩:=h;subst b;refine is_none_gen (cX I q ?_)
 cases x <;> first
  |(subst a;rfl)
  |(obtain⟨t,rfl⟩:=a;rfl)
variable{op:CmpOp}
def zH(b:Expr)(h:op≠.In:=by decide)(h2:op≠.NotIn:=by decide):nt op b=ag:=by
 have a:(op==CmpOp.In)=ag:=by grind
 have c:(op==CmpOp.NotIn)=ag:=by grind
 cases b <;> simp[nt,a,c]
variable{r:R2}
def M4{pos:Pos}(e:OpR X (dP op) r)(ha:PE X a ta)(d:PE X b tb)(hm:nt op b=ag):PE X (.Compare a [op] [b] pos) (tOp r ta tb):=by
 intro B s J H Q I h;exact wpAny_Compare1 (ve ha d I h λv u s2 x y H2 c f g q=>e B s2 J H2 x y v u Q c f g q) hm
abbrev M5(t:TE):TT:=λJ H Q=>t J H λx H'=>∃k,x=.bl k/\Q k H'
def Fw{pos:Pos}(l:OpR X (dP op) r)(ha:PE X a ta)(j:PE X b tb)(hm:nt op b=ag):PT X (.Compare a [op] [b] pos) (M5 (tOp r ta tb)):=by
 intro B s J H Q I h
 refine wpAny_isTrue_Compare1 (thn (ha B s J H _ I h) λv s1 ⟨x,H1,f,p,m⟩=>thn (j B s1 J H1 _ f m) λu s2 ⟨y,H2,g,q,n⟩ =>
  thn (l B s2 J H2 x y v u _ g p q n) λc w ⟨z,d,i,t,k,e,o⟩=>?_) hm
 subst e;subst t;exact me ⟨d,i,o⟩
abbrev M6(r c:R2)(ta tb tc:TE):TE:=λJ H Q=>ta J H λx H1=>tb J H1 λy H2=>r x y H2 λz a=>∃k,z=.bl k /\
 (if k=ac then tc J a λd b=>c y d b Q else Q (.bl ag) a)
variable{tc:TE}{op':CmpOp}{r':R2}
def M7{pos:Pos}(w:OpR X (dP op) r)(f:OpR X (dP op') r')(ha:PE X a ta)(q:PE X b tb)(t:PE X c tc)
 (hm:lastMarks [op,op'] [b,c]=ag:=by with_unfolding_all rfl):PE X (.Compare a [op,op'] [b,c] pos) (M6 r r' ta tb tc):=by
 intro B s J H Q I h
 refine Compare_chain (thn (ha B s J H _ I h) λv s1 ⟨x,H1,n,G,A⟩=>chain_link (thn (q B s1 J H1 _ n A) λu s2 ⟨y,H2,o,l,C⟩ =>
  thn (w B s2 J H2 x y v u _ o G l C) λd N ⟨z,g,i,L,k,e,j⟩=>?_)) hm
 subst e;subst L;refine me ?_
 cases k with
 |false=>exact ite_ff ⟨.bl ag,g,i,rfl,j⟩
 |true=>exact ite_tt (chain_last (thn (t B N J g _ i j) λU T ⟨Y,m,p,M,E⟩=>f B T J m y Y u U Q p l M E))
abbrev zI(K:br)(x:V)(H:Hp)(k:Bool):Prop:=
 match x with
 |.non=>k=ag
 |.bl b=>k=b
 |.int i=>k=(i != 0)
 |.str y=>y.length<=be/\k=((y.length:Int) != 0)
 |.byt y=>y.size<=be/\k=((y.size:Int) != 0)
 |.ref p=>(∃M,SqL K H p M/\k=!M.isEmpty)\/(∃M,SqT K H p M/\k=!M.isEmpty)\/∃kvs,H p=aa (.dK kvs)/\k=!kvs.isEmpty
 | _=>False
def M8{a:Type}{kvs:List (a×V)}{L:List (a×Value)}(r:KV kvs L):(!L.isEmpty)=!kvs.isEmpty:=by
 cases r <;> rfl
def Fx{its:LVa}(r:ba M its):(!its.toArray.isEmpty)=!M.isEmpty:=by
 cases r <;> simp
def rL:(be:Nat)<2 ^ 63:=by rw[c6];decide
def M9:MP X (λx H Q=>∃k,zI X.K x H k/\Q k H):=by
 intro B s J H x v Q I d h;obtain⟨k,e,q⟩:=h;have l:=c6
 cases x with
 |non=>
  subst d;have a:=e;subst a
  exact truthy_none ⟨H,I,q⟩
 |bl b=>
  subst d;have a:=e;subst a
  exact me ⟨H,I,q⟩
 |int i=>
  obtain⟨t,rfl⟩:=d;have a:=e;subst a
  exact PySem.P.truthy_int ⟨H,I,q⟩
 |str y=>
  obtain⟨t,rfl⟩:=d;obtain⟨j,a⟩:y.length<=be/\k=_:=e;subst a
  exact PySem.P.truthy_str (by lia) ⟨H,I.tok _,q⟩
 |byt y=>
  obtain⟨t,rfl⟩:=d;obtain⟨j,a⟩:y.size<=be/\k=_:=e;subst a
  exact W.truthy_bytes (by lia) ⟨H,I.tok _,q⟩
 |ref p=>
  subst d;have a:=e
  rcases a with⟨M,f,a⟩ |⟨M,f,a⟩ |⟨kvs,f,a⟩
  .subst a;obtain⟨its,r,pl,hz⟩:=I.list f;have c:=r.length;exact wpAny_truthy_list pl.isList (by simp only[size_toArray];lia) ⟨H,I.tok _,by rw[Fx r];exact q⟩
  .subst a;obtain⟨its,r,pl,hz⟩:=I.tuple f;have c:=r.length;exact truthy_tuple pl (by simp only[size_toArray];lia) ⟨H,I.tok _,by rw[Fx r];exact q⟩
  .subst a;obtain⟨hz,g,L,r,m⟩:kvs.length<=be/\(p==h9)=ag/\∃L,KV kvs L/\s.heap.DictOf (dF X.prog X.w) p L:=I.hok p _ f;have c:=Paired.length r
   exact wpAny_truthy_dict g m (by lia) ⟨H,I.tok _,by rw[M8 r];exact q⟩
 | _=>exact(show False from e).elim
def Fy(ha:PE X a ta)(d:∀b,isTrue a X.env b=(do let v <- b;jo a.pos;gb [v] (truthy v))):
  PT X a (λJ H Q=>ta J H λx H'=>∃k,zI X.K x H' k/\Q k H'):=by
 intro B s J H Q I h;exact isTrue_plain (thn (ha B s J H _ I h) λv s1 ⟨x,H1,c,f,e⟩=>M9 B s1 J H1 x v Q c f e) (d _)
def Na:OpR X (gh .Add) (λx y H Q=>∃i W6,x=.str i/\y=.str W6/\i.length+W6.length<=be/\Q (.str (i++W6)) H):=by
 intro B s J H x y v u Q I a b h;obtain⟨i,W6,rfl,rfl,hz,q⟩:=h;obtain⟨t,rfl⟩:=a;obtain⟨t',rfl⟩:=b;exact add_str (λt' c=>⟨.str _,H,I.tok _,⟨_,rfl⟩,q⟩) hz
def Nb:OpR X (inplaceOp .Add) (λx y H Q=>∃i W6,x=.str i/\y=.str W6/\i.length+W6.length<=be/\Q (.str (i++W6)) H):=by
 intro B s J H x y v u Q I a b h;obtain⟨i,W6,rfl,rfl,hz,q⟩:=h;obtain⟨t,rfl⟩:=a;obtain⟨t',rfl⟩:=b;exact iadd_str (λt' c=>⟨.str _,H,I.tok _,⟨_,rfl⟩,q⟩) hz
abbrev Fz(b:Expr):Prop:=∀o i,rm b ag o i=operate [o,i] (li o i)
def Nd{pos:Pos}(ha:PE X a ta)(l:PE X b tb)(n:Fz b):
  PE X (.Subscript a b pos) (tOp (λx y H Q=>∃z i c,x=.str z/\y=.int i/\0<=i/\i<2 ^ 63/\i<z.length/\z.cps[i.toNat]?=aa c/\Q (.str ⟨#[c]⟩) H) ta tb):=by
 intro B s J H Q I h;refine Subscript_ (ve ha l I h λv u s2 x y H2 d o p q=>?_);obtain⟨z,i,c,rfl,rfl,g,j,h1,m,q⟩:=q;obtain⟨t,rfl⟩:=o;obtain⟨t',rfl⟩:=p
 exact tail_any (nw s2 z t) slot_str_getitem.lookup (getItem_str (by
  have e:decide (i < -(2 ^ 63:Int))=ag:=decide_eq_false (by lia);have f:decide (i≥2 ^ 63)=ag:=decide_eq_false (by lia)
  rw[e,f] <;> rfl) (by rw[(PySem.StrLaws.seqIndex_nonneg g h1)];exact m) ⟨.str ⟨#[c]⟩,H2,d.tok _,⟨_,rfl⟩,q⟩) (n _ _)
def iU{x:V}(r:ba [x] us):∃u,us=[u]/\aZ x u:=by
 cases r with
 |cons a b=>cases b;exact⟨_,rfl,a⟩
def zJ{x:V}(r:ba [x,y] us):∃u a,us=[u,a]/\aZ x u/\aZ y a:=by
 cases r with
 |cons b c=>
  cases c with
  |cons d e=>cases e;exact⟨_,_,rfl,b,d⟩
def Nf:gi X (.type "str") (λM H Q=>∃i,M=[.int i]/\i.natAbs.log2<1920/\Q (.str (lq i)) H):=by
 intro B s J H M us Q I r h;obtain⟨i,rfl,hz,q⟩:=h;obtain⟨u,rfl,t,rfl⟩:=iU r;exact PySem.P.str_of_int hz ⟨.str _,H,I.tok _,⟨_,rfl⟩,q⟩
structure nI(h:Heap)(x dx W4:Addr)(mA:MGT):Prop where
 obj:h.get? x=aa (mo W4 dx)
 ns:h.Ns1 dx mA
 ne:dx≠x
variable{mA:MGT}
def Ng{dx:Addr}(n:h.Ns1 dx mA):∃od,h.get? dx=aa od/\∀name,W.lookIn name od=aa (mA name):=by
 obtain⟨o,es,g,d,hd,c,_,hm⟩:=n;refine⟨o,d,λname=>?_⟩;have e:=hm name;unfold nsFind findBy at e;rw[<- Array.find?_toList]at e;unfold W.lookIn;rw[hd];dsimp only;split
 .grind
 .rename_i q;rw[q]at e
  have a:es.toList.any (·.refKey)=ag:=by
   rw[any_eq_false];intro y f;obtain⟨z,t,b⟩:=c y (Array.mem_toList_iff.mp f);simp[DictEntry.refKey,b]
  grind
def nI.look{x dx W4:Addr}(I:nI h x dx W4 mA):∃od,W.InstAt h x (mo W4 dx) W4 (aa od)/\∀name,W.lookIn name od=aa (mA name):=
 let ⟨od,ho,hl⟩:=Ng I.ns
 ⟨od,⟨I.obj,rfl,rfl,ho⟩,hl⟩
variable{prog:du}{x W4:Addr}{name:Str}{v:Value}
def Nh{dx:Addr}{a:Bool}{Q:PRS}(X:K.In s.heap)(I:nI s.heap x dx W4 mA)(c:rC K W4 name=ac)(d:W.hasDictIn K W4=ac)
 (ha:ia K (.ref W4) name=aa ab)(f:mA name=aa v)(b:W.handedIn v=ac)(h:Q v {s with toks:=s.toks+1}):
  wpAny (model prog w) A (getAttr (.ref x) name a) Q W5 s:=by
 obtain⟨od,W2,e⟩:=I.look;exact W.get_value X W2 (W.plainGet_of c).1 (W.findObj_own d ha rfl (by rw[e,f])) b h
variable{f:Addr}{pl:Sem Bool}
def Ni{dx:Addr}{Q:Value×LVa->aL->Prop}(X:K.In s.heap)(I:nI s.heap x dx W4 mA)(a:rC K W4 name=ac)
 (b:ia K (.ref W4) name=aa (aa (.ref f)))(d:W.isFn K (.ref f)=ac)(e:mA name=ab)(h:Q (.ref f,[.ref x]) s):
  wpAny (model prog w) A (nB (.ref x) name pl) Q W5 s:=by
 obtain⟨od,W2,c⟩:=I.look;exact W.method_fn X W2 (W.plainGet_of a).1 (W.plainGet_of a).2 b (beq_iff_eq.mp d) (by show(W.lookIn name od).map (·.isSome)=aa ag;rw[c,e];rfl) h
def Nj{dx:Addr}{ns:LSt}(X:K.In s.heap)(I:nI s.heap x dx W4 mA)
 (n:ia K (.ref W4) "__setattr__"=aa (aa (.builtin "object.__setattr__")))(m:W.plainOver K W4=ac)(o:W.takerIn K W4 name=aa ab)(l:W.hasDictIn K W4=ac)
 (p:PySem.Within mA ns)(hsz:ns.length<=be)
 (h:∀h',nI h' x dx W4 (λy=>if y=name then aa v else mA y)->jr dx s.heap h'->Q () {s with heap:=h',toks:=s.toks+2}):
  wpAny (model prog w) A (setAttr (.ref x) name v) Q W5 s:=by
 obtain⟨od,W2,r⟩:=I.look;refine W.set_plain X W2 n (W.osa_open X W2 m o λb=>?_);obtain⟨q,j,e⟩:=W.any_some l;refine aE (bq (aE (aE (wpAny_loadPart I.obj (aE (W.Looks.here (W.looks_clsIn X j) ?_))))));rw[e];refine bq (aE (bq (aE ?_)));refine wpAny_nsSet1 I.ns λh' a c=>?_;obtain⟨t,i,g,f,hdD,d⟩:=a.count (PySem.Within.cons name v p);exact aE (wpAny_lookBehind f (by rw[hdD];exact pastItsLine_dict (cP d (by rw[bg];lia))) (bq (h _ ⟨(c.2 _ (cE I.ne)).trans I.obj,a,I.ne⟩ c)))
variable{R:Result->aL->Prop}{kw:List (Str×Value)}
def Nk{L:LVa}(X:K.In s.heap)(hm:W.makesIn K W4=ac)
 (hi:ia K (.ref W4) "__init__"=aa (aa (.ref f)))(a:W.typeIn K (.ref f)=aa (.type "function"))
 (h:g3 (model prog w) (A.under (.builtin "type.__call__" ⟨.ref W4::L,kw⟩)) (.call (.ref f) ⟨.ref (s.heap.objs.size + 1)::L,kw⟩) (W.InitBack (s.heap.objs.size + 1) R)
   {s with heap:=(s.heap.push mm).push (mo W4 s.heap.objs.size)}):
  g3 (model prog w) A (.call (.ref W4) ⟨L,kw⟩) R s:=by
 exact W.make_core (W.makes_of X hm) (W.looks_findIn X hi) (λself=>W.bind_fn X self a) (.inl rfl) h
abbrev fJ(f:Str)(v:V):List (Str×V)->List (Str×V)
 | []=>[(f,v)]
 |(g,x)::r=>if g=f then (g,v)::r else (g,x)::fJ f v r
def FA(f g:Str)(v:V):∀fs:List (Str×V),(fJ f v fs).lookup g=if g=f then aa v else fs.lookup g
 | []=>by
  show List.lookup g [_]=_
  grind
 |(k,x)::r=>by
  rw[show fJ f v _=(if k=f then _::r else _::fJ f v r)from rfl]
  by_cases b:k=f
  .grind
  .rw[if_neg b]
   by_cases h:g=k
   .grind
   .have a:=beq_eq_false_iff_ne.mpr h;simp only[List.lookup,a];exact(FA f g v r)
def zK(f:Str)(v:V):∀fs:List (Str×V),f∈(fJ f v fs).map (·.1)/\∀g,g∈fs.map (·.1)->g∈(fJ f v fs).map (·.1)
 | []=>⟨by simp[fJ],λg h=>by simp at h⟩
 |(k,x)::r=>by
  obtain⟨a,b⟩:=zK f v r;rw[show fJ f v _=(if k=f then _::r else _::fJ f v r)from rfl]
  grind
def FB(f:Str)(v:V):∀fs:List (Str×V),(fJ f v fs).length<=fs.length+1
 | []=>by simp[fJ]
 |(k,x)::r=>by
  have a:=FB f v r;rw[show fJ f v _=(if k=f then _::r else _::fJ f v r)from rfl]
  grind
variable{v:V}
def gF.some_of{o:Option Value}(r:gF (aa v) o):∃u,o=aa u/\aZ v u:=by
 cases o with
 |none=>exact(r).elim
 |some u=>exact⟨u,rfl,r⟩
def gF.none_of{o:Option Value}(r:gF ab o):o=ab:=by
 cases o with
 |none=>rfl
 |some u=>exact(r).elim
variable{u:Value}
def Nl(r:aZ v u):W.handedIn u=ac:=by
 cases v with
 |non=>cases (r);rfl
 |bl b=>cases (r);rfl
 |int i=>obtain⟨t,e⟩:=(r);subst e;rfl
 |str x=>obtain⟨t,e⟩:=(r);subst e;rfl
 |byt b=>obtain⟨t,e⟩:=(r);subst e;rfl
 |flt b=>obtain⟨t,e⟩:=(r);subst e;rfl
 |ref a=>cases (r);rfl
 |ty n=>cases (r);rfl
variable{a:Addr}{fs:List (Str×V)}
def vg{dx:Addr}(hok:HOk P w H h)(e:H a=aa (.ins W4 dx fs)):∃mA,nI h a dx W4 mA/\(∀f,gF (fs.lookup f) (mA f))/\PySem.Within mA (fs.map (·.1))/\fs.length<=1000/\H dx=aa (.own a):=by
 obtain⟨d,z,ne,b,mA,n,r,q⟩:=(hok a _ e);exact⟨mA,⟨b,n,ne⟩,r,q,z,d⟩
structure Cls(K:br)(W4:Addr):Prop where
 pg:rC K W4 jt=ac
 hd:W.hasDictIn K W4=ac
 po:W.plainOver K W4=ac
 sa:ia K (.ref W4) "__setattr__"=aa (aa (.builtin "object.__setattr__"))
def Cls.get(c:Cls K W4)(f:Str):rC K W4 f=ac:=c.pg
abbrev iV(K:br)(W4:Addr)(f:Str):Prop:=ia K (.ref W4) f=aa ab
variable{f:Str}
def iV.taker(n:iV K W4 f):W.takerIn K W4 f=aa ab:=by
 unfold W.takerIn;rw[show ia K _ f=aa ab from n];rfl
structure rM(K:br)(W4:Addr)(m:Str)(f:Addr):Prop where
 at_:ia K (.ref W4) m=aa (aa (.ref f))
 fn:W.isFn K (.ref f)=ac
 kp:nG K (.ref f)=ac
def FC{dx:Addr}{b:Bool}{Q:PRS}(I:Inv X B J H s)(e:H a=aa (.ins W4 dx fs))(c:Cls X.K W4)(n:iV X.K W4 f)(l:fs.lookup f=aa v)
 (h:∀u s',Inv X B J H s'->aZ v u->Q u s'):wpAny (model X.prog X.w) A (getAttr (.ref a) f b) Q W5 s:=by
 obtain⟨mA,O,r,_,_,_⟩:=vg I.hok e;obtain⟨u,d,ru⟩:=gF.some_of (by rw[<- l];exact r f);exact Nh I.kIn O (c.get f) c.hd n d (Nl ru) (h u _ (I.tok _) ru)
variable{m:Str}
def FD{dx:Addr}{g:Addr}{Q:Value×LVa->aL->Prop}(I:Inv X B J H s)(e:H a=aa (.ins W4 dx fs))(c:Cls X.K W4)(k:rM X.K W4 m g)(l:fs.lookup m=ab)
 (h:Q (.ref g,[.ref a]) s):wpAny (model X.prog X.w) A (nB (.ref a) m pl) Q W5 s:=by
 obtain⟨mA,O,r,_,_,_⟩:=vg I.hok e;exact Ni I.kIn O (c.get m) k.at_ k.fn (gF.none_of (by rw[<- l];exact r m)) h
def FE{dx:Addr}(I:Inv X B J H s)(e:H a=aa (.ins W4 dx fs))(c:Cls X.K W4)(n:iV X.K W4 f)(t:fs.length<1000)(m:aZ y u)
 (h:∀s',Inv X B J (upd H a (.ins W4 dx (fJ f y fs))) s'->Q () s'):wpAny (model X.prog X.w) A (setAttr (.ref a) f u) Q W5 s:=by
 obtain⟨mA,O,r,wi,_,i⟩:=vg I.hok e;have hz:(fs.map (·.1)).length<=be:=by rw[ay,c6];lia
 refine Nj I.kIn O c.sa c.po n.taker c.hd wi hz λh' d p=>h _ ?_;have hd:∃o,h'.get? dx=aa o:=let ⟨o,_,_,e',_⟩:=d.ns;⟨o,e'⟩;refine I.write (by rw[e];exact jx) (.inr i) (λb q j z=>(p.2 b j).trans z) hd ?_;refine⟨by rw[bG O.ne];exact i,?_,O.ne,d.obj,_,d.ns,λg=>?_,λg l=>?_⟩
 .have:=FB f y fs;lia
 .show gF _ _;rw[FA]
  by_cases q:g=f
  .rw[if_pos q,if_pos q];exact m
  .grind
 .by_cases q:g=f
  .rw[q];exact(zK f y fs).1
  .refine(zK f y fs).2 g (wi g λz=>l ?_)
   grind
def Inv.made(I:Inv X B J H s):Inv X B J (upd (upd H s.heap.objs.size (.own (s.heap.objs.size+1))) (s.heap.objs.size+1) (.ins W4 s.heap.objs.size []))
  {s with heap:=(s.heap.push mm).push (mo W4 s.heap.objs.size)}:=by
 have a:(s.heap.push mm).get? s.heap.objs.size=aa mm:=eW s.heap rfl
 have c:((s.heap.push mm).push (mo W4 s.heap.objs.size)).get? (s.heap.objs.size+1)=aa (mo W4 s.heap.objs.size):=by
  have:=eW (s.heap.push mm) (o:=mo W4 s.heap.objs.size) rfl
  simp_all
 have d:(s.heap.push mm).Ns s.heap.objs.size _:=⟨mm,#[],_,a,rfl,(λe f=>absurd f (by simp)),λ_=>rfl⟩;refine(I.laid (o:=.own _) (t':=s.toks) (λb u q=>cj _ q) (bh _) ⟨_,a⟩).laid (λb u q=>cj _ q) (uO (rB _ _)) ?_;have ne:s.heap.objs.size≠s.heap.objs.size+1:=cu (o0 _);refine⟨by rw[bG ne,bL],gg _,ne,c,λ_=>ab,(Heap.Ns1.of_empty d).at λo q=>cj _ q,λ_=>jx,λy g=>absurd rfl g⟩
variable{env:Env}
def Nm{pos:Pos}{Q:PRS}(b:mf e f env (eval e env)=eval e env)
 (h:wpAny (model prog w) A (eval e env) (λo a=>wpAny (model prog w) A (getAttr o f ac) Q W5 a) W5 s):wpAny (model prog w) A (eval (.Attribute e f pos) env) Q W5 s:=
 Attribute_any_ h (by rw[arm_eval_Attribute,b])
abbrev Nn(K:br)(ta:TE)(f:Str):TE:=λJ H Q=>ta J H λx H1=>∃a W4 dx fs v,x=.ref a/\H1 a=aa (.ins W4 dx fs)/\Cls K W4/\iV K W4 f/\fs.lookup f=aa v/\Q v H1
abbrev No(K:br)(ta b:TE)(f:Str):TS:=λD J H=>b J H λy H1=>ta J H1 λx H2=>∃a W4 dx fs,x=.ref a/\H2 a=aa (.ins W4 dx fs)/\Cls K W4/\iV K W4 f/\fs.length<1000 /\
 D.nx J (upd H2 a (.ins W4 dx (fJ f y fs)))
abbrev Np(X:Cx)(op:Operator)(rd:V->V->Hp->VK->Prop):Prop:=
 ∀(B:PNS) (s:aL) (J:St) (H:Hp) (x y:V) (u v:Value) (Q:VK),Inv X B J H s->aZ x u->aZ y v->rd x y H Q->wpAny (model X.prog X.w) X.A (inplaceOp op u v) (EP X B J Q) X.xe s
abbrev Nq(K:br)(ta e:TE)(rd:V->V->Hp->VK->Prop)(f:Str):TS:=λD J H=>ta J H λx H1=>∃a W4 dx fs v,x=.ref a/\H1 a=aa (.ins W4 dx fs)/\Cls K W4/\iV K W4 f/\fs.lookup f=aa v /\
 e J H1 λy H2=>rd v y H2 λz d=>∃c b,d a=aa (.ins W4 c b)/\b.length<1000/\D.nx J (upd d a (.ins W4 c (fJ f z b)))
def Nr{pos:Pos}(j:PE X e ta)(i:mf e f X.env (eval e X.env)=eval e X.env):PE X (.Attribute e f pos) (Nn X.K ta f):=by
 intro B s J H Q I h;refine Nm i (thn (j B s J H _ I h) λu s1 m=>?_);obtain⟨x,H1,b,o,a,W4,dx,fs,v,ex,g,c,n,l,q⟩:=m;subst ex;obtain rfl:u=gt a:=o;exact FC b g c n l λp s2 d ru=>⟨v,H1,d,ru,q⟩
variable{o value:Expr}{tv:TE}
def Nt{pos:Pos}(ha:PE X o ta)(j:PE X value tv)(i:fo value (aa (.Attribute o f bb)) pos.line X.env=pure ag):PS X (.Assign [.Attribute o f bb] value pos) (No X.K ta tv f):=by
 intro B s J H D I h;refine plainObj_wpAny_Assign_Attribute (thn (j B s J H _ I h) λu s1 ⟨y,H1,b,t,q⟩=>thn (ha B s1 J H1 _ b q) λov s2 p=>?_) i;obtain⟨x,H2,d,r,a,W4,dx,fs,ex,g,c,n,l,m⟩:=p;subst ex;obtain rfl:ov=gt a:=r;exact FE d g c n l t λv e=>⟨J,_,e,m⟩
variable{d6:Pos}
def Nu{pos:Pos}{op:Operator}{rd:V->V->Hp->VK->Prop}(ha:PE X o ta)(w:PE X value tv)(d:Np X op rd):PS X (.AugAssign (.Attribute o f d6) op value pos) (Nq X.K ta tv rd f):=by
 intro B s J H D I h;refine wpAny_AugAssign_AttributeAny (thn (ha B s J H _ I h) λov s1 G=>?_);obtain⟨x,H1,e,L,a,W4,dx,fs,v,ex,r,c,n,l,q⟩:=G;subst ex;obtain rfl:ov=gt a:=L;exact FC e r c n l λu s2 g ru=>thn (w B s2 J H1 _ g q) λT Q ⟨y,H2,i,M,C⟩=>thn (d B Q J H2 v y u T _ i ru M C) λw4 Y ⟨z,U,j,N,p,t,b,A,E⟩=>(FE j b c n A N λs5 m=>⟨J,_,m,E⟩)
inductive ic(K:br)(H:Hp):V->Value->Prop where
 |non:ic K H .non (.type "NoneType")
 |bl (x:Bool):ic K H (.bl x) (.type "bool")
 |int (i:Int):ic K H (.int i) (.type "int")
 |str (x:Str):ic K H (.str x) (.type "str")
 |flt (x:UInt64):ic K H (.flt x) (.type "float")
 |lst {a:Addr} {M:LVv} (e:H a=aa (.lst M)):ic K H (.ref a) (.type "list")
 |frz {a:Addr} {o:Obj} {M:LVv} (e:H a=aa (.frz o (.lst M))):ic K H (.ref a) (.type "list")
 |tup {a:Addr} {M:LVv} (e:H a=aa (.tup M)):ic K H (.ref a) (.type "tuple")
 |dK {a:Addr} {kvs:List (Key×V)} (e:H a=aa (.dK kvs)):ic K H (.ref a) (.type "dict")
 |dT {a:Addr} {kvs:List (List Key×V)} (e:H a=aa (.dT kvs)):ic K H (.ref a) (.type "dict")
 |ins {a W4 dx:Addr} {fs:List (Str×V)} (e:H a=aa (.ins W4 dx fs)) (cl:Cls K W4) (ha:ia K (.ref W4) "__class__"=aa (aa (.builtin "object.__class__")))
   (hn:W.specialIn K (.builtin "object.__class__") "__get__"=aa (aa (.builtin "getset_descriptor.__get__"))) (htk:W.takesIn K (.builtin "object.__class__")=aa ac)
   (hm:W.mroIn K W4 (.type "object")=aa ac):ic K H (.ref a) (.ref W4)
variable{Q:PRS}{c:Value}{b:Bool}
def Nv{x:V}{t:Value}(I:Inv X B J H s)(f:aZ x u)(ty:ic X.K H x t)(e:W.kitOne X.K t c=aa b)(h:∀j,Q (.bool b) {s with toks:=j}):
  wpAny (model X.prog X.w) A (call (.builtin "isinstance") [u,c]) Q W5 s:=by
 cases ty with
 |non=>cases (f);exact jv W.kitx_none I.kIn jx e (λz=>nomatch z) h
 |bl y=>cases (f);exact jv W.kitx_bool I.kIn jx e (λz=>nomatch z) h
 |int i=>obtain⟨t,q⟩:=(f);subst q;exact jv W.kitx_int I.kIn jx e (λz=>nomatch z) h
 |str y=>obtain⟨t,q⟩:=(f);subst q;exact jv W.kitx_str I.kIn jx e (λz=>nomatch z) h
 |flt y=>obtain⟨t,q⟩:=(f);subst q;exact jv W.kitx_float I.kIn jx e (λz=>nomatch z) h
 | @lst a M d=>
  cases (f);obtain⟨_,_,n,_,h1⟩:=(I.hok a _ d)
  exact jv W.kitx_list I.kIn ⟨_,h1,rfl⟩ e (λz=>nomatch z) h
 | @frz a l M d=>
  cases (f);obtain⟨_,_,_,n,_,h1⟩:=(I.hok a _ d)
  exact jv W.kitx_list I.kIn ⟨_,h1,rfl⟩ e (λz=>nomatch z) h
 | @tup a M d=>
  cases (f);obtain⟨_,_,_,p⟩:=(I.hok a _ d);obtain⟨o,h1,h2,_⟩:=p
  exact jv W.kitx_tuple I.kIn ⟨o,h1,h2⟩ e (λz=>nomatch z) h
 | @dK a kvs d=>
  cases (f);obtain⟨_,_,L,_,p⟩:=(I.hok a _ d);obtain⟨o,es,g,h1,h2,_⟩:=p
  exact jv W.kitx_dict I.kIn ⟨o,h1,h2.1⟩ e (λz=>nomatch z) h
 | @dT a kvs d=>
  cases (f);obtain⟨_,_,M,_,o,es,g,h1,h2,_⟩:=(I.hok a _ d)
  exact jv W.kitx_dict I.kIn ⟨o,h1,h2.1⟩ e (λz=>nomatch z) h
 | @ins a W4 dx fs d cl ha hn htk hm=>
  cases (f);obtain⟨mA,O,_⟩:=vg I.hok d;obtain⟨od,W2,_⟩:=O.look;exact jv (W.kitx_own (cl.get _) cl.hd ha hn htk hm) I.kIn W2 e (λz=>nomatch z) h
structure cG(k:Nat)(A:dQ):Prop where
 hd:A.handled=ab
 dp:A.depth+3*k+5<recursionLimit
 un:A.units+16*k+200<cLine
def cG.mono{W6 k:Nat}(r:cG k A)(h:W6<=k):cG W6 A:=⟨r.hd,by have:=r.dp;lia,by have:=r.un;lia⟩
def cG.deeper{k:Nat}(r:cG (k+1) A)(env:Env):cG k (A.deeper env):=
 ⟨r.hd,by have:=r.dp;show A.depth+1+3*k+5<_;lia,by have:=r.un;show A.units+3+16*k+200<_;lia⟩
def Nw:(A.under (.builtin "type.__call__" ⟨.ref W4::us,kw⟩)).depth=A.depth+1:=by
 first |rfl |simp[dQ.under]
def Nx:(A.under (.builtin "type.__call__" ⟨.ref W4::us,kw⟩)).units=A.units+1:=by
 first |rfl |simp[dQ.under]
def cG.make{k:Nat}(r:cG (k+1) A)(W4:Addr)(us:LVa)(kw:List (Str×Value)):cG k (A.under (.builtin "type.__call__" ⟨.ref W4::us,kw⟩)):=
 ⟨r.hd,by have:=r.dp;rw[Nw];lia,by have:=r.un;rw[Nx];lia⟩
def cG.depth{k:Nat}(r:cG k A):A.depth<recursionLimit:=by have:=r.dp;lia
def cG.units{k:Nat}(r:cG k A):A.units+64<cLine:=by have:=r.un;lia
abbrev j7:TA:=λ_ H Q=>Q [] H
abbrev j8(ta:TE)(a:TA):TA:=λJ H Q=>ta J H λx H1=>a J H1 λM H2=>Q (x::M) H2
def bM:PA X [] j7:=λ_ _ _ _ H Q I h=>u5 ⟨[],H,I,.nil,h⟩
variable{t:TA}
def bC(ha:PE X e te)(c:PA X es t)(d:StE X e es:=by rfl):PA X (e::es) (j8 te t):=by
 intro pos B s J H Q I h;rw[d];exact lj (thn (ha B s J H _ I h) λu s1 ⟨x,H1,a,i,f⟩=>(thn (c pos B s1 J H1 _ a f) λus s2 ⟨M,H2,b,j,g⟩=>⟨x::M,H2,b,.cons i j,g⟩))
abbrev Ny(t:TA):TE:=λJ H Q=>t J H λM H1=>M.length<=be/\∀p,H1 p=ab->Q (.ref p) (upd H1 p (.tup M))
abbrev Nz(t:TA):TE:=λJ H Q=>t J H λM H1=>M.length<=be/\∀p,H1 p=ab->Q (.ref p) (upd H1 p (.lst M))
def FF{pos:Pos}{x1}(h:PA X es t):PE X (.Tuple es x1 pos) (Ny t):=by
 intro B s J H Q I c;refine wpAny_Tuple_spliced (thn (h pos B s J H _ I c) λus s1 ⟨M,H1,a,r,z,q⟩=>⟨by rw[<- r.length];exact z,?_⟩);refine⟨.ref s1.heap.objs.size,upd H1 s1.heap.objs.size _,a.laid (λb u e=>cj _ e) (bh _) ?_,rfl,q _ (a.hok.fresh (bh _))⟩;exact⟨z,us,r,⟨_,eW _ rfl,rfl,_,rfl⟩⟩
def rO{pos:Pos}(h:PA X es t):PE X (.List es pos) (Nz t):=by
 intro B s J H Q I c;refine wpAny_List_spliced (thn (h pos B s J H _ I c) λus s1 ⟨M,H1,a,r,z,q⟩=>⟨by rw[<- r.length];exact z,?_⟩);refine⟨.ref s1.heap.objs.size,upd H1 s1.heap.objs.size _,a.laid (λb u e=>cj _ e) (bh _) ?_,rfl,q _ (a.hok.fresh (bh _))⟩;exact⟨z,us,0,r,eW _ rfl⟩
nonrec def Sp:=LVv->Hp->VK->XK->Prop
nonrec def CXT:=List Env->Hp->aL->XK->PRS
structure nJ(P:du)(w:World)(K:br)(mg:MGT)(base:Heap)(A:dQ)(outer:List Env)(s:aL)(H:Hp):Prop where
 frames:A.frames=aa outer
 mod:Mod K mg base
 bs:∀b o,base.get? b=aa o->s.heap.get? b=aa o/\H b=ab
 bsz:base.objs.size<=s.heap.objs.size
 funs:s.heap.FunFrames base outer
 frf:∀b∈frs outer,H b=ab
 hok:HOk P w H s.heap
 bare:lf s.gens
abbrev CE(outer:List Env)(P:du)(w:World)(H:Hp)(s:aL)(Q:VK)(u:Value)(s':aL):Prop:=
 ∃v H',s'.os=s.os/\lf s'.gens/\Un (frs outer) [] H H' s.heap s'.heap/\HOk P w H' s'.heap/\aZ v u/\Q v H'
abbrev CR(CX:CXT)(outer:List Env)(P:du)(w:World)(H:Hp)(s:aL)(Q:VK)(W5:XK)(r:Result)(s':aL):Prop:=
 match r with
 |.ok (.ret u)=>CE outer P w H s Q u s'
 |.ok _=>False
 |.error e=>CX outer H s W5 e s'
structure eX(P:du)(w:World)(K:br)(mg:MGT)(base:Heap)(CX:CXT)(k:Nat)(f:Addr)(fd:fT)(ps:LSt)(sp:Sp):Prop where
 len:∀L H Q W5,sp L H Q W5->L.length=ps.length
 run:∀(A:dQ) (outer:List Env) (s:aL) (H:Hp) (args:Args) (us:LVa) (L:LVv) (Q:VK) (W5:XK),cG k A->nJ P w K mg base A outer s H->BindsTo s fd args (ps.zip us)->ba L us->sp L H Q W5 ->
  g3 (model P w) A (.call (.ref f) args) (CR CX outer P w H s Q W5) s
variable{mg:MGT}{base:Heap}{CX:CXT}{f:Addr}{fd:fT}{ps:LSt}{sp:Sp}
def eX.imp{k:Nat}{a:Sp}(F:eX P w K mg base CX k f fd ps sp)
 (h:∀L H Q W5,a L H Q W5->sp L H Q W5):eX P w K mg base CX k f fd ps a:=
 ⟨λL H Q W5 q=>F.len L H Q W5 (h _ _ _ _ q),λA outer s H args us L Q W5 d c b g e=>F.run A outer s H args us L Q W5 d c b g (h _ _ _ _ e)⟩
variable{outer:List Env}
def nJ.make(e:nJ P w K mg base A outer s H)(W4:Addr)(us:LVa)(kw:List (Str×Value)):
  nJ P w K mg base (A.under (.builtin "type.__call__" ⟨.ref W4::us,kw⟩)) outer s H:=⟨by first |exact e.frames |(simpa[dQ.under]using e.frames),e.mod,e.bs,e.bsz,e.funs,e.frf,e.hok,e.bare⟩
def Inv.env0(I:Inv X B J H s):nJ X.prog X.w X.K X.mg X.base X.A X.stack s H:=
 ⟨I.ok.frames,I.ok.mod,I.bs,cP I.ok.bsz I.sz,I.stack,I.stkFree,I.hok,I.bare⟩
variable{Q:VK}
def Inv.after(I:Inv X B J H s)(h:CE X.stack X.prog X.w H s Q u s'):EP X B J Q u s':=by
 obtain⟨v,H',os,bare,un,hok,r,q⟩:=h;obtain⟨c,g,d,t,a⟩:=s';obtain rfl:a=s.os:=os;exact⟨v,H',I.call un hok bare (λb z=>absurd z (by simp)),r,q⟩
abbrev NA(sp:Sp)(a:LVv)(W5:XK)(t:TA):TE:=λJ H Q=>t J H λL H1=>sp (L++a) H1 Q W5
abbrev vh(W4:Addr)(m:Str)(sp:Sp)(b:LVv)(W5:XK)(ta:TE)(t:TA):TE:=λJ H Q=>ta J H λx H1=>∃a dx fs,x=.ref a/\H1 a=aa (.ins W4 dx fs)/\fs.lookup m=ab /\
 t J H1 λL H2=>sp (x::(L++b)) H2 Q W5
abbrev NB(W4:Addr)(sp:Sp)(a:LVv)(W5:XK)(t:TA):TE:=λJ H Q=>t J H λL H1=>∀x dx,H1 x=ab->H1 dx=ab->dx≠x ->
 sp (.ref x::(L++a)) (upd (upd H1 dx (.own x)) x (.ins W4 dx [])) (λv H2=>v=.non/\Q (.ref x) H2) W5
abbrev ie(K:br)(fd:fT)(ps:LSt)(ds:LVa):Prop:=
 ∀(s:aL) (us:LVa),K.In s.heap->(us++ds).length=ps.length->BindsTo s fd ⟨us,[]⟩ (ps.zip (us++ds))
def ie.all(h:∀us:LVa,us.length=ps.length->bindArgs fd ⟨us,[]⟩=pure (ps.zip us)):ie K fd ps []:=λs us _ a=>by
 rw[cr]at a ⊢;exact .of_eq (h us a)
abbrev nK(CX:CXT)(X:Cx)(W5:XK):Prop:=∀(B:PNS) (J:St) (H:Hp) (s:aL) (e:Value) (s':aL),Inv X B J H s->CX X.stack H s W5 e s'->X.xe e s'
variable{dV L:LVv}{ds:LVa}{W5:XK}
def zL{k:Nat}(F:eX X.prog X.w X.K X.mg X.base CX k f fd ps sp)(g:cG k X.A)(c:ie X.K fd ps ds)(hd:ba dV ds)(i:nK CX X W5)
 (I:Inv X B J H s)(r:ba L us)(h:sp (L++dV) H Q W5):wpAny (model X.prog X.w) X.A (call (.ref f) us) (EP X B J Q) X.xe s:=by
 have b:=r.append hd;have d:(us++ds).length=ps.length:=by rw[<- b.length];exact F.len _ _ _ _ h
 refine wpAny_call (o5 (F.run X.A X.stack s H ⟨us,[]⟩ _ _ Q W5 g I.env0 (c s us I.kIn d) b h) λr s' a=>?_)
 cases r with
 |error e=>exact i B J H s e s' I a
 |ok fl=>
  cases fl with
  |ret u=>exact I.after a
  |next=>exact iB a
  |brk=>exact iB a
  |cont=>exact iB a
variable{x:Str}{p:Pos}
def ph{k:Nat}{pos:Pos}(F:eX X.prog X.w X.K X.mg X.base CX k f fd ps sp)(l:cG k X.A)(i:Gl X x)(hm:X.mg x=aa (.ref f))(j:nG X.K (.ref f)=ac)(d:ie X.K fd ps ds)(hd:ba dV ds)(m:nK CX X W5)
 (ha:PA X (e::es) t)(a:NDb x:=by decide)(g:StE X e es:=by rfl)(b:BkE X pos es:=by rfl):
  PE X (.Call (.Name x p) (e::es) [] pos) (NA sp dV W5 t):=by
 intro B s J H Q I h;refine md (vb I i hm ?_ a);exact W.callWith_K I.ok.mod.kin j (thn (ha pos B s J H _ I h) λus s1 ⟨L,H1,c,r,q⟩=>⟨c.kIn,(zL F l d hd m c r q)⟩) g b
variable{apos:Pos}
def NC{k:Nat}{pos:Pos}(p:PE X o ta)(c:Cls X.K W4)(hm:rM X.K W4 m f)(F:eX X.prog X.w X.K X.mg X.base CX k f fd ps sp)(v:cG k X.A)(n:ie X.K fd ps ds)(hd:ba dV ds)(z:nK CX X W5)(ha:PA X (e::es) t)
 (d:StE X e es:=by rfl)(b:BkE X pos es:=by rfl)
 (y:eval (.Call (.Attribute o m apos) (e::es) [] pos) X.env=(do
   let ov <- eval o X.env
   jo apos.atName
   let (f,first) <- gb [ov] (nB ov m pl)
   callWith pos f first (d5 pos (bf (e::es) X.env)) (j1 pos (j0 [] X.env))):=by rfl):
  PE X (.Call (.Attribute o m apos) (e::es) [] pos) (vh W4 m sp dV W5 ta t):=by
 intro B s J H Q I h;refine W.methodCall_KW (thn (p B s J H _ I h) λu s1 E=>?_) y;obtain⟨x,H1,g,G,a,dx,fs,ex,j,l,q⟩:=E;subst ex;obtain rfl:u=gt a:=G;refine FD g j c hm l ?_;exact W.callWith_K I.ok.mod.kin hm.kp (thn (ha pos B s1 J H1 _ g q) λus s2 ⟨L,H2,i,r,C⟩=>⟨i.kIn,(zL (L:=.ref a::L) F v n hd z i (.cons rfl r) C)⟩) d b
def FG{k:Nat}{pos:Pos}(g:PE X o ta)(c:Cls X.K W4)(hm:rM X.K W4 m f)(F:eX X.prog X.w X.K X.mg X.base CX k f fd ps sp)(i:cG k X.A)(e:ie X.K fd ps ds)(hd:ba dV ds)(n:nK CX X W5)
 (j:eval (.Call (.Attribute o m apos) [] [] pos) X.env=(do
   let ov <- eval o X.env
   jo apos.atName
   let (f,first) <- gb [ov] (nB ov m pl)
   callWith pos f first (d5 pos (bf [] X.env)) (j1 pos (j0 [] X.env))):=by rfl):
  PE X (.Call (.Attribute o m apos) [] [] pos) (vh W4 m sp dV W5 ta j7):=by
 intro B s J H Q I h;refine W.methodCall_KW (thn (g B s J H _ I h) λu s1 p=>?_) j;obtain⟨x,H1,b,r,a,dx,fs,ex,d,l,q⟩:=p;subst ex;obtain rfl:u=gt a:=r;exact FD b d c hm l (W.callWith_K0 b.kIn hm.kp (zL (L:=[.ref a]) F i e hd n b (.cons rfl .nil) q))
structure Mk(K:br)(W4 f:Addr):Prop where
 makes:W.makesIn K W4=ac
 init:ia K (.ref W4) "__init__"=aa (aa (.ref f))
 fn:W.isFn K (.ref f)=ac
 kp:nG K (.ref W4)=ac
def ND{k:Nat}(W1:Mk X.K W4 f)(F:eX X.prog X.w X.K X.mg X.base CX k f fd ps sp)(m:cG (k+1) X.A)(j:ie X.K fd ps ds)(hd:ba dV ds)
 (n:nK CX X W5)(I:Inv X B J H s)(r:ba L us)
 (h:∀x dx,H x=ab->H dx=ab->dx≠x->sp (.ref x::(L++dV)) (upd (upd H dx (.own x)) x (.ins W4 dx [])) (λv H2=>v=.non/\Q (.ref x) H2) W5):
  wpAny (model X.prog X.w) X.A (call (.ref W4) us) (EP X B J Q) X.xe s:=by
 have c:=h _ s.heap.objs.size (I.hok.fresh (qX _)) (I.hok.fresh (bh _)) (cu (o0 _));have b:=Inv.made (W4:=W4) I;have d:ba (V.ref _::_) (gt (s.heap.objs.size+1)::_):=.cons rfl (r.append hd)
 have l:(gt (s.heap.objs.size+1)::us++ds).length=ps.length:=by
  have e:=d.length;rw[F.len _ _ _ _ c]at e;exact e.symm
 refine wpAny_call (Nk I.kIn W1.makes W1.init (beq_iff_eq.mp W1.fn) (o5 (F.run _ X.stack _ _ ⟨gt _::us,[]⟩ _ _ _ W5 (m.make W4 us [])
  (b.env0.make W4 us []) (j _ _ b.kIn l) d c) λr s' a=>?_))
 cases r with
 |error e=>exact n B J _ _ e s' b a
 |ok fl=>
  cases fl with
  |ret u=>
   obtain⟨v,H',g,p,i,o⟩:=b.after a;subst i
   exact⟨p,⟨V.ref _,H',g,rfl,o⟩⟩
  |next=>exact iB a
  |brk=>exact iB a
  |cont=>exact iB a
def NE{k:Nat}{pos:Pos}(W1:Mk X.K W4 f)(F:eX X.prog X.w X.K X.mg X.base CX k f fd ps sp)(j:cG (k+1) X.A)(i:Gl X x)(hm:X.mg x=aa (.ref W4))(d:ie X.K fd ps ds)(hd:ba dV ds)(l:nK CX X W5)
 (ha:PA X (e::es) t)(a:NDb x:=by decide)(g:StE X e es:=by rfl)(b:BkE X pos es:=by rfl):
  PE X (.Call (.Name x p) (e::es) [] pos) (NB W4 sp dV W5 t):=by
 intro B s J H Q I h;refine md (vb I i hm ?_ a);exact W.callWith_K I.ok.mod.kin W1.kp (thn (ha pos B s J H _ I h) λus s1 ⟨L,H1,c,r,q⟩=>⟨c.kIn,(ND W1 F j d hd l c r q)⟩) g b
structure aT(N P:LSt)(sc:Scope):Prop where
 kind:sc.kind=.function
 co:sc.isCoroutine=ag
 gen:sc.isGenerator=ag
 nd:N.Nodup
 pre:N.take P.length=P
 par:∀x∈P,sc.names.lookup x=aa .local\/sc.names.lookup x=aa .cell
 nofree:∀y∈sc.names,y.2≠.free
def FH{kindOf:Str->Option gZ}{x:Str}:∀{binds:List (Str×Value)} {m:MGT},(∀v,(x,v)∉binds)->bindL kindOf binds m x=m x
 | [],_,_=>rfl
 |(n,v)::r,m,h=>by
  unfold bindL;rw[FH λw a=>h w (cD _ a)];split
  .grind
  .rfl
def FI{kindOf:Str->Option gZ}{x:Str}:∀{binds:List (Str×Value)} {m:MGT},(∀v,(x,v)∉binds)->bindC kindOf binds m x=m x
 | [],_,_=>rfl
 |(n,v)::r,m,h=>by
  unfold bindC;rw[FI λw a=>h w (cD _ a)];split
  .rfl
  .grind
def FJ{kindOf:Str->Option gZ}{x:Str}{v:Value}:∀{P:LSt} {L:LVa} {i:Nat} {m:MGT},P.Nodup->P[i]?=aa x->L[i]?=aa v->kindOf x=aa .local ->
  bindL kindOf (P.zip L) m x=aa v
 | [],_,_,_,_,h,_,_=>by simp at h
 | _::_,[],_,_,_,_,h,_=>by simp at h
 |p::P,w::L,0,m,nd,h1,h2,hk=>by
  simp at h1 h2;subst h1;subst h2;show bindL kindOf (_::P.zip L) m p=_;dsimp only[bindL];rw[FH λv a=>(nodup_cons.mp nd).1 (of_mem_zip a).1,if_pos hk]
  simp
 |p::P,w::L,i+1,m,nd,h1,h2,hk=>by
  show bindL kindOf (_::P.zip L) m x=_;exact FJ (nodup_cons.mp nd).2 (by simpa using h1) (by simpa using h2) hk
def FK{kindOf:Str->Option gZ}{x:Str}{v:Value}:∀{P:LSt} {L:LVa} {i:Nat} {m:MGT},P.Nodup->P[i]?=aa x->L[i]?=aa v->kindOf x≠aa .local ->
  bindC kindOf (P.zip L) m x=aa v
 | [],_,_,_,_,h,_,_=>by simp at h
 | _::_,[],_,_,_,_,h,_=>by simp at h
 |p::P,w::L,0,m,nd,h1,h2,hk=>by
  simp at h1 h2;subst h1;subst h2;show bindC kindOf (_::P.zip L) m p=_;dsimp only[bindC];rw[FI λv a=>(nodup_cons.mp nd).1 (of_mem_zip a).1,if_neg hk]
  simp
 |p::P,w::L,i+1,m,nd,h1,h2,hk=>by
  show bindC kindOf (_::P.zip L) m x=_;exact FK (nodup_cons.mp nd).2 (by simpa using h1) (by simpa using h2) hk
abbrev start(N:LSt)(L:LVv):St:=L.map aa++gm (N.length-L.length) ab
abbrev j9(CX:CXT)(P:du)(w:World)(K:br)(mg:MGT)(base:Heap)(N:LSt)(qual:Str)(scope:Scope)(f:Addr)(cd:Value)(A:dQ)(outer:List Env)(s:aL)(H:Hp)(W5:XK):Cx where
 prog:=P
 w:=w
 K:=K
 mg:=mg
 base:=base
 A:=A.deeper (iC qual scope s.heap.objs.size f cd)
 N:=N
 s₀:=s
 H₀:=H
 env:=iC qual scope s.heap.objs.size f cd
 outer:=outer
 stack:=iC qual scope s.heap.objs.size f cd::outer
 ex:=[]
 calm:=ac
 fn:=λ_=>ac
 pn:=[]
 xe:=λe s'=>wpAny (model P w) (A.deeper (iC qual scope s.heap.objs.size f cd)) (leaving (iC qual scope s.heap.objs.size f cd) e) (λ_ s''=>CX outer H s W5 e s'') (λe' s''=>CX outer H s W5 e' s'') s'
variable{n:Nat}
def FL{sc:Scope}(h:sc.names.lookup x=aa .cell):∃c,(cellsFrom n sc.names []).lookup x=aa c:=by
 exact Option.isSome_iff_exists.mp (W.cellsFrom_some sc.names n [] (.inl h))
variable{qual:Str}{scope:Scope}
def NF{n:Value}{s1:aL}
 (S:aT N ps scope)(hd:A.handled=ab)(d:nJ P w K mg base A outer s H)(G:L.length=ps.length)(r:ba L us)
 (x:InCallC s s.heap.objs.size (bindL (iC qual scope s.heap.objs.size f n).kindOf (ps.zip us) λ_=>ab) (cellsFrom (s.heap.objs.size+1) scope.names []) (bindC (iC qual scope s.heap.objs.size f n).kindOf (ps.zip us) λ_=>ab) s1):
  Inv (j9 CX P w K mg base N qual scope f n A outer s H W5) [] (start N L) H s1:=by
 have B:ps.length<=N.length:=by have:=congrArg fG S.pre;rw[iR]at this;lia
 obtain⟨h1,I,rfl,o⟩:=x.done;have j:∀b:Addr,b∉(j9 CX P w K mg base N qual scope f n A outer s H W5).ex:=λb z=>absurd (show b∈([]:LAd)from z) (by simp)
 refine⟨⟨d.mod,S.kind,rfl,rfl,bh _,λy z c h1 h2=>?_,λy g=>?_,λy c _ h=>?_,λ_=>hd,dQ.frames_deeper d.frames,.inr ⟨rfl,rfl⟩,λb z=>absurd z (j b),d.bs,d.bsz,λb _ _=>j b,λb z=>absurd z (j b),d.funs,d.frf⟩,
  rfl,d.bare,Un.kept o,⟨_,x.toInCall.ns,λi y v h1 h2 E=>?_⟩,λy c h=>⟨_,x.cell y c h⟩,d.hok.fresh (bh _),λy c h=>?_,λp l=>absurd (show p∈([]:List _)from l) (by simp),d.hok.kept o,?_⟩
 .exact name_of_addr x.apart (qZ h1) (qZ h2)
 .have g:=g
  rcases g with g |g
  .exact FL g
  .exact absurd rfl (S.nofree _ (qZ g))
 .exact k9 (x.above y c (qZ h))
 .have hi:i<L.length:=by
   unfold start at h2
   by_cases hi:i<L.length
   .exact hi
   .rw[l5 (by simpa using hi)]at h2;rw[yT]at h2
    split at h2 <;> nomatch h2
  have ha:L[i]?=aa v:=by
   unfold start at h2;rw[m8 (by simpa using hi),gf]at h2
   cases e:L[i]? with
   |none=>rw[e]at h2;nomatch h2
   |some a=>rw[e]at h2;cases h2;rfl
  obtain⟨u,t,C⟩:=r.get ha
  have l:ps[i]?=aa y:=by
   rw[<- S.pre,List.getElem?_take_of_lt (by lia)];exact h1
  have m:ps.Nodup:=by rw[<- S.pre];exact S.nd.sublist (take_sublist _ _)
  refine⟨u,C,?_⟩
  rcases S.par y (qQ l)with k |k
  .exact .inl ⟨k,FJ m l t k⟩
  .obtain⟨c,e⟩:=FL k;refine .inr ⟨.inl k,c,e,?_⟩;have q:=x.cell y c e;rw[FK m l t (by show scope.names.lookup y≠_;rw[k];decide)]at q;exact q
 .exact d.hok.fresh (k9 (x.above y c (qZ h)))
 .unfold start;show _=N.length;rw[aI,ay,nc]
  lia
variable{an od:Option Addr}{osl:Array (Option Value)}
def NG{k:Nat}{params:Arguments}{z kV doc pm cdv ct oc:Value}
  (M:K.lookup f=aa ⟨oc,od,.func (W.fnOf name qual params body scope z kV doc pm an cdv ct),osl⟩)(j:W.codeIn K cdv qual=ac)(S:aT N ps scope)
 (len:∀L H Q W5,sp L H Q W5->L.length=ps.length)
 (a:∀ (A:dQ) (outer:List Env) (s:aL) (H:Hp) (L:LVv) (Q:VK) (W5:XK),cG k (A.deeper (iC qual scope s.heap.objs.size f cdv))->sp L H Q W5 ->
   ∃t,PSs (j9 CX P w K mg base N qual scope f cdv A outer s H W5) body t/\t {nx:=λ_ H'=>Q .non H',rt:=Q} (start N L) H):
  eX P w K mg base CX (k+1) f (W.fnOf name qual params body scope z kV doc pm an cdv ct) ps sp:=by
 refine⟨len,λA outer s H args us L Q W5 l g B r i=>?_⟩;have p:=g.mod.kin.keeps λb o e=>(g.bs b o e).1
 have c:∀y∈ps.zip us,scope.names.lookup y.1=aa .local\/(scope.names.lookup y.1=aa .cell/\((cellsFrom (s.heap.objs.size+1) scope.names []).lookup y.1).isSome=ac):=λ⟨n,v⟩ J=>by
  rcases S.par n (of_mem_zip J).1 with q |q
  .exact .inl q
  .exact .inr ⟨q,W.cellsFrom_some _ _ _ (.inl q)⟩
 refine codeAny_call_function l.depth (p _ _ M) rfl S.co S.gen rfl (W.codeRec_of p j) (B _ _ _ _ ?_);refine wpAny_newFunctionEnv_cells S.kind c λenv C s1 x=>?_;subst C;refine⟨(g.mod.nolimit.keeps λb o e=>(g.bs b o e).1).keeps x.toInCall.keep,codeAny_func ?_⟩;obtain⟨t,G,E⟩:=a A outer s H L Q W5 (l.deeper _) i;have I:Inv (j9 CX P w K mg base N qual scope f cdv A outer s H W5) [] _ H s1:=NF S l.hd g (len _ _ _ _ i) r x;refine gr (G [] s1 _ H _ I E) (λfl s' d=>?_) λe s' d=>d
 have h:∀{σ':St} {H':Hp} {v:V} {u:Value},Inv (j9 CX P w K mg base N qual scope f cdv A outer s H W5) [] σ' H' s'->aZ v u->Q v H'->CE outer P w H s Q u s':=
  λ{σ' H' v u} W2 m q=>⟨v,H',W2.os,W2.bare,W2.base,W2.hok,m,q⟩
 cases fl with
 |ret u=>
  obtain⟨v,σ',H',W2,m,q⟩:=d
  exact h W2 m q
 |next=>
  obtain⟨σ',H',W2,q⟩:=d
  exact h (v:=V.non) W2 rfl q
 |brk=>
  obtain⟨_,_,_,q⟩:=d
  exact iB q
 |cont=>
  obtain⟨_,_,_,q⟩:=d;exact iB q
abbrev tCB(r:LVv->Hp->VK->Prop)(t:TA):TE:=λJ H Q=>t J H λL H1=>r L H1 Q
variable{r:LVv->Hp->VK->Prop}
def vi{pos:Pos}{id:String}(d:gi X (.builtin id) r)(g:Gl X x)(hm:X.mg x=ab)(i:h8 x=aa (.builtin id))(ha:PA X (e::es) t)(hn:x ≠ "__name__":=by decide)(a:NDb x:=by decide)
 (f:StE X e es:=by rfl)(b:BkE X pos es:=by rfl):PE X (.Call (.Name x p) (e::es) [] pos) (tCB r t):=by
 intro B s J H Q I h;exact md (j6 I g hm i (EY (thn (ha pos B s J H _ I h) λus s1 ⟨L,H1,c,l,j⟩=>d B s1 J H1 L us Q c l j) f b) hn a)
variable{T:String}
def pi{pos:Pos}(d:gi X (.type T) r)(g:Gl X x)(hm:X.mg x=ab)(i:h8 x=aa (.type T))(ha:PA X (e::es) t)(hn:x ≠ "__name__":=by decide)(a:NDb x:=by decide)
 (f:StE X e es:=by rfl)(b:BkE X pos es:=by rfl):PE X (.Call (.Name x p) (e::es) [] pos) (tCB r t):=by
 intro B s J H Q I h;exact md (j6 I g hm i (nq (thn (ha pos B s J H _ I h) λus s1 ⟨L,H1,c,l,j⟩=>d B s1 J H1 L us Q c l j) f b) hn a)
end L2
namespace HT
open List
open PySem PyProof.Rows
open PySem.SeqAt
open PySem.AutoSeq1 (wpAny_loadPart')
open PySem.MeetsSeq PySem.MeetsSeq2 PySem.MeetsSeq3
abbrev sIx(n d:Nat):Option Int->Nat
 |none=>d
 |some v=>if v<0 then (v+(n:Int)).toNat else min v.toNat n
def sIx_none(n d:Nat):sIx n d ab=d:=rfl
def sIx_nat(n d k:Nat):sIx n d (aa (k:Int))=min k n:=by rfl
def FM(v:Int)(n d:Nat):(if v<0 then max (v+(n:Int)) 0 else min v (n:Int))=((sIx n d (aa v):Nat):Int):=by
 show _=(((if v<0 then (v+_).toNat else min v.toNat n):Nat):Int)
 grind
def NH(lo hi:Option Int)(n:Nat):E5 lo hi 1 (n:Int)=(((sIx n 0 lo:Nat):Int),((sIx n n hi:Nat):Int)):=by
 refine Prod.ext ?_ ?_
 .cases lo with
  |none=>rfl
  |some v=>exact FM v n 0
 .cases hi with
  |none=>rfl
  |some v=>exact FM v n n
def NI(i W6:Nat):zb (i:Int) (W6:Int) 1=W6-i:=by
 unfold zb
 split <;> lia
variable{prog:du}{w:World}{A:dQ}{W5:PRS}{s:aL}{v:Value}
def FN{o:Option Int}{Q:Option Int->aL->Prop}(p:IsPart v o)(h:Q o s):wpAny (model prog w) A (fc.Slice.slicePartIndex v) Q W5 s:=by
 cases p with
 |none=>exact slicePart_none h
 |int i t=>exact slicePart_int h
variable{sl:Addr}{vl vu:Value}{lo hi:Option Int}{n:Nat}
def NJ{Q:Int×Int×Nat->aL->Prop}(d:s.heap.IsSliceOf sl vl vu .none)(pl:IsPart vl lo)(e:IsPart vu hi)
 (h:Q (((sIx n 0 lo:Nat):Int),1,sIx n n hi-sIx n 0 lo) s):wpAny (model prog w) A (fc.Slice.sliceApplied (.ref sl) (pure (n:Int))) Q W5 s:=by
 obtain⟨os,b,c,a⟩:=id d;refine aE (aE (lh b a rfl (aE (lh b a rfl (aE (lh b a rfl (bq ?_)))))));refine aE (slicePart_none ?_);refine aE (FN pl (aE (FN e (aE (bq ?_)))))
 show wpAny _ _ (match E5 lo hi 1 _ with |(lo,hi)=>pure (lo,_,zb lo hi 1)) _ _ s
 rw[NH lo hi n];show wpAny _ _ (pure _) _ _ s;rw[NI];exact bq h
def NK(M:Array Value)(i k:Nat):((cW k).filterMap λ(m:Nat)=>M[((i:Int)+(m:Int)*1).toNat]?).toArray=((M.toList.drop i).take k).toArray:=by
 have e:(λ(m:Nat)=>M[(i+(m:Int)*1).toNat]?)=λm=>M[i+m]?:=by
  funext m;have:(i+(m:Int)*1).toNat=i+m:=by lia
  rw[this]
 rw[e];have:=pick_run M i k;rw[filterMap_map]at this;have a:(_ ∘ λx=>i+x)=λm=>M[i+m]?:=rfl;rw[a]at this;rw[this]
variable{items:Array Value}{Q:PRS}
def getItem_tuple_cut{t:Addr}(b:IsTup s.heap t items)(g:s.heap.IsSliceOf sl vl vu .none)(pl:IsPart vl lo)(l:IsPart vu hi)
 (j:¬(sIx items.size 0 lo=0/\sIx items.size items.size hi=items.size))
 (h:Q (.ref s.heap.objs.size) {s with heap:=s.heap.push {cls:=.type "tuple",data:=.seq ((items.toList.drop (sIx items.size 0 lo)).take (sIx items.size items.size hi-sIx items.size 0 lo)).toArray}})
 (hsz:items.size<=be):wpAny (model prog w) A (li (.ref t) (.ref sl)) Q W5 s:=by
 have a:sizeOk (.seq ((items.toList.drop (sIx items.size 0 lo)).take (sIx items.size items.size hi-sIx items.size 0 lo)).toArray):=by
  show((items.toList.drop _).take _).toArray.size<=be;simp only[size_toArray,iR,qT,uD];lia
 obtain⟨os,f,d,i⟩:=id g;have c:s.TypeIs (.ref sl) "slice":=⟨os,f,d⟩;unfold li
 try with_reducible refine fH ?_
 first |refine aE _ |skip
 refine aE (wpAny_sequenceKey b.typeIs (rfl) ?_)
 refine aE (y4 b.typeIs y3
  (wpAny_call_entry y3 b.typeIs entry_tuple_getitem ?_ (args_tuple_getitem _ _)))
 show wpAny _ _ (fc.Tuple.tupleItemsOf _ >>= _) _ _ s;refine aE (tupleItemsOf_ b ?_);refine aE (mh c ?_);refine aE (NJ g pl l ?_)
 have e:¬((((sIx items.size 0 lo:Nat):Int)==0 && (1:Int)==1 && (sIx items.size items.size hi-sIx items.size 0 lo)==items.size)=ac):=by
  intro q;exact j ⟨by lia,by lia⟩
 show wpAny _ _ (if _=ac then _ else _) _ _ s;rw[if_neg e,NK]
 first
  |exact aE _
  |exact aE (wpAny_newObj_type (aE (bq (bq ⟨_,rfl,bq h⟩))) a)
  |exact aE _
  |exact aE _
end HT
namespace L2
open List
open PySem PySem.Spec PyProof.Rows
nonrec def TO:=St->Hp->(Option Int->Hp->Prop)->Prop
abbrev PO(X:Cx)(e:Option Expr)(t:TO):Prop:=
 ∀(B:PNS) (s:aL) (J:St) (H:Hp) (Q:Option Int->Hp->Prop),Inv X B J H s->t J H Q ->
  wpAny (model X.prog X.w) X.A (evalPart e X.env) (λu s'=>∃o H',Inv X B J H' s'/\IsPart u o/\Q o H') X.xe s
abbrev NL:TO:=λ_ H Q=>Q ab H
abbrev NM(t:TE):TO:=λJ H Q=>t J H λx a=>∃i,x=.int i/\Q (aa i) a
variable{X:Cx}
def zM:PO X ab NL:=by
 intro B s J H Q I h;exact bq ⟨ab,H,I,.none,h⟩
variable{e:Expr}{te:TE}
def FO(h:PE X e te):PO X (aa e) (NM te):=by
 intro B s J H Q I c;refine thn (h B s J H _ I c) λu s1 f=>?_;obtain⟨x,a,b,g,d⟩:=f;obtain⟨i,rfl,q⟩:=d;obtain⟨t,rfl⟩:=g;exact⟨aa i,a,b,.int i t,q⟩
variable{lo hi:Option Expr}
abbrev SlR(X:Cx)(r:V->Option Int->Option Int->Hp->VK->Prop):Prop:=
 ∀(B:PNS) (s:aL) (J:St) (H:Hp) (x:V) (v a b:Value) (lo hi:Option Int) (sl:Addr) (Q:VK),Inv X B J H s->aZ x v->s.heap.IsSliceOf sl a b .none->IsPart a lo->IsPart b hi->r x lo hi H Q ->
  ∃T id,o7 (.type T) "__getitem__"=pure (aa (.builtin id))/\s.TypeIs v T/\wpAny (model X.prog X.w) X.A (li v (.ref sl)) (EP X B J Q) X.xe s
abbrev tSl(r:V->Option Int->Option Int->Hp->VK->Prop)(te:TE)(tl d:TO):TE:=λJ H Q=>te J H λx a=>tl J a λl b=>d J b λu c=>r x l u c Q
variable{tl th:TO}{p2:Pos}
def zN{pos:Pos}{r:V->Option Int->Option Int->Hp->VK->Prop}(A:SlR X r)(w:PE X e te)(z:PO X lo tl)(E:PO X hi th):PE X (.Subscript e (.Slice lo hi ab p2) pos) (tSl r te tl th):=by
 intro B s J H Q I h;refine Subscript_ (thn (w B s J H _ I h) λv s1 c=>?_);obtain⟨x,i,m,U,L⟩:=c;refine wpAny_Slice (thn (z B s1 J i _ m L) λd s2 ⟨l,j,n,pl,M⟩=>thn (E B s2 J j _ n M) λf a c=>?_);obtain⟨u,g,o,G,N⟩:=c;refine bq ?_
 have p:Inv X B J g {a with heap:=a.heap.push {cls:=.type "slice",data:=.fields #[d,f,.none]}}:=o.kept λb Y q=>cj _ q
 obtain⟨T,id,t,C,y⟩:=A B {a with heap:=a.heap.push {cls:=.type "slice",data:=.fields #[d,f,.none]}} J g x v d f l u a.heap.objs.size Q p U (Fb ..) pl G N
 exact tail_any C t y (by with_unfolding_all rfl)
abbrev nL(M:LVv)(lo hi:Option Int):LVv:=(M.drop (HT.sIx M.length 0 lo)).take (HT.sIx M.length M.length hi-HT.sIx M.length 0 lo)
def FP(M:LVv)(lo hi:Option Int):(nL M lo hi).length<=M.length:=by
 unfold nL;rw[iR,qT]
 lia
abbrev NN(K:br):V->Option Int->Option Int->Hp->VK->Prop:=λx lo hi H Q=>∃a M,x=.ref a/\SqT K H a M /\
 ¬(HT.sIx M.length 0 lo=0/\HT.sIx M.length M.length hi=M.length)/\∀p,H p=ab->Q (.ref p) (upd H p (.tup (nL M lo hi)))
def NO:SlR X (NN X.K):=by
 intro B s J H x v m n lo hi sl Q I j e pl i h;obtain⟨a,M,rfl,g,f,q⟩:=h;subst j;obtain⟨its,r,d,hz⟩:=I.tuple g;have c:its.toArray.size=M.length:=by rw[size_toArray];exact r.length.symm
 refine⟨"tuple",_,y3.lookup,d.typeIs,?_⟩;refine HT.getItem_tuple_cut d e pl i (by rw[c];exact f) ?_ (by rw[c];exact hz);rw[c];refine⟨.ref s.heap.objs.size,_,I.laid (λb l q=>cj _ q) (bh _) ?_,rfl,q _ (I.hok.fresh (bh _))⟩;exact⟨cP (FP M lo hi) hz,_,(r.drop _).take _,IsTup.new _ _⟩
abbrev ixN(n:Nat)(i:Int):Option Nat:=if 0<=i then (if i<n then aa i.toNat else ab) else if -(n:Int)<=i then aa (i+n).toNat else ab
abbrev atI{a:Type}(M:List a)(i:Int):Option a:=(ixN M.length i).bind λW6=>M[W6]?
variable{n W6:Nat}{i:Int}
def FQ(h:ixN n i=aa W6):seqIndex? i n=aa W6/\W6<n/\-(n:Int)<=i/\i<n:=by
 unfold ixN at h
 by_cases b:0<=i
 .rw[if_pos b]at h
  by_cases a:i<n
  .rw[if_pos a]at h;have e:=cN h;exact⟨by rw[seqIndex_of b a,e],by lia,by lia,a⟩
  .rw[if_neg a]at h;nomatch h
 .rw[if_neg b]at h
  by_cases a:-n<=i
  .rw[if_pos a]at h;have e:=cN h;exact⟨by rw[seqIndex_neg (by lia) a,e],by lia,a,by lia⟩
  .rw[if_neg a]at h;nomatch h
def FR{a:Type}{M:List a}{v:a}(h:atI M i=aa v):∃W6,seqIndex? i M.length=aa W6/\M[W6]?=aa v/\W6<M.length/\-(M.length:Int)<=i/\i<M.length:=by
 unfold atI at h
 cases e:ixN M.length i with
 |none=>rw[e]at h;nomatch h
 |some W6=>
  rw[e]at h;obtain⟨b,c,d,f⟩:=FQ e;exact⟨W6,b,h,c,d,f⟩
def NP{a:Type}{M:List a}{v:a}(h:M[W6]?=aa v):atI M (W6:Int)=aa v:=by
 have b:=(dD.mp h).1
 have e:ixN M.length W6=aa W6:=by
  unfold ixN;rw[if_pos (by lia),if_pos (by lia)];simp
 unfold atI;rw[e];exact h
abbrev zO(b:Expr):Prop:=∀o i,rm b ag o i=operate [o,i] (li o i)
abbrev IxR(X:Cx)(r:R2):Prop:=
 ∀(value slice:Expr) (B:PNS) (s:aL) (J:St) (H:Hp) (x y:V) (v u:Value) (Q:VK),Inv X B J H s->aZ x v->aZ y u->r x y H Q ->
  rm slice ag v u=operate [v,u] (li v u)->wpAny (model X.prog X.w) X.A (subscriptTail value slice v u) (EP X B J Q) X.xe s
abbrev MtR(X:Cx)(id:String)(r:V->LVv->Hp->VK->Prop):Prop:=
 ∀(B:PNS) (s:aL) (J:St) (H:Hp) (x:V) (M:LVv) (v:Value) (us:LVa) (Q:VK),Inv X B J H s->aZ x v->ba M us->r x M H Q ->
  wpAny (model X.prog X.w) X.A (call (.builtin id) (v::us)) (EP X B J Q) X.xe s
variable{r r':R2}
def IxR.or(h:IxR X r)(h':IxR X r'):IxR X (λx y H Q=>r x y H Q\/r' x y H Q):=by
 intro value slice B s J H x y v u Q I b c q a
 rcases q with q |q
 .exact h value slice B s J H x y v u Q I b c q a
 .exact h' value slice B s J H x y v u Q I b c q a
variable{a b:Expr}{ta tb:TE}
def FS{pos:Pos}(f:IxR X r)(ha:PE X a ta)(e:PE X b tb)(g:zO b):PE X (.Subscript a b pos) (tOp r ta tb):=by
 intro B s J H Q I h;exact Subscript_ (ve ha e I h λv u s2 x y c d i j q=>f a b B s2 J c x y v u Q d i j q (g _ _))
abbrev NQ(K:br):R2:=λx y H Q=>∃p M i v,x=.ref p/\y=.int i/\SqL K H p M/\atI M i=aa v/\Q v H
abbrev NR(K:br):R2:=λx y H Q=>∃p M i v,x=.ref p/\y=.int i/\SqT K H p M/\atI M i=aa v/\Q v H
def FT:IxR X (NQ X.K):=by
 intro value slice B s J H x y v u Q I C E h g;obtain⟨p,M,i,z,rfl,rfl,A,n,q⟩:=h;subst C;obtain⟨t,rfl⟩:=E;obtain⟨its,r,pl,hz⟩:=I.list A;obtain⟨W6,b,j,G,l,m⟩:=FR n;obtain⟨w,e,d⟩:=r.get j;have o:=r.length;have hn:=rL;have a:EP X B J Q w s:=⟨z,H,I,d,q⟩
 by_cases f:0<=i
 .have c:i.toNat=W6:=by
   rw[seqIndex_of f m]at b;exact cN b
  exact item_listR pl.isList f (by lia) (by rw[c];simpa using e) a g
 .have c:(i+its.toArray.size).toNat=W6:=by
   rw[seqIndex_neg (by lia) l]at b;rw[size_toArray,<- o];exact cN b
  exact subscriptTail_builtinR pl.isList.typeIs slot_list_getitem.lookup
   (wpAny_getItem_list_neg pl.isList (by lia) (by rw[size_toArray] <;> lia) (by lia) (by rw[c];simpa using e) ⟨rfl,a⟩) g
def FU:IxR X (NR X.K):=by
 intro value slice B s J H x y v u Q I l m h j;obtain⟨p,M,i,z,rfl,rfl,g,f,q⟩:=h;subst l;obtain⟨t,rfl⟩:=m;obtain⟨its,r,pl,hz⟩:=I.tuple g;obtain⟨W6,d,e,n,o,A⟩:=FR f;obtain⟨w,c,b⟩:=r.get e;have hn:=rL;have a:EP X B J Q w s:=⟨z,H,I,b,q⟩
 exact subscriptTail_builtinR pl.typeIs slot_tuple_getitem.lookup
  (getItem_tuple pl (by lia) (by lia) (by rw[size_toArray,<- r.length];exact d) (by simpa using c) ⟨rfl,a⟩) j
def NS(its:LVa)(n W6:Nat)(u:Value):iG (·.setIfInBounds W6 u) {cls:=.type "list",data:=.seq its.toArray n}={cls:=.type "list",data:=.seq (its.set W6 u).toArray n}:=by
 simp[iG]
variable{B:PNS}{J:St}{H:Hp}{s:aL}{p:Addr}{M:LVv}
def Inv.lst(I:Inv X B J H s)(h:H p=aa (.lst M)):
  ∃(its:LVa) (n:Nat),ba M its/\s.heap.get? p=aa {cls:=.type "list",data:=.seq its.toArray n}/\M.length<=be:=by
 obtain⟨z,its,n,r,e⟩:=I.hok p _ h;exact⟨its,n,r,e,z⟩
variable{ys:LVv}{n':Nat}
def Inv.lstUpd{its a:LVa}{f:Obj->Obj}(I:Inv X B J H s)(h:H p=aa (.lst M))
 (g:s.heap.get? p=aa {cls:=.type "list",data:=.seq its.toArray n})(c:f {cls:=.type "list",data:=.seq its.toArray n}={cls:=.type "list",data:=.seq a.toArray n'})(r:ba ys a)(hz:ys.length<=be)(t:Nat):
  Inv X B J (upd H p (.lst ys)) {s with heap:=s.heap.update p f,toks:=t}:=by
 have e:(s.heap.update p f).get? p=aa {cls:=.type "list",data:=.seq a.toArray n'}:=by
  rw[rA f g (by rw[c] <;> rfl),c]
 exact I.write (by rw[h];trivial) (.inl rfl) (λb u d q=>(nC _ _ (cE d)).trans q) ⟨_,e⟩ ⟨hz,a,n',r,e⟩
abbrev zP:V->V->V->Hp->(Hp->Prop)->Prop:=λo i v H Q=>∃p M k W6,o=.ref p/\i=.int k/\H p=aa (.lst M)/\ixN M.length k=aa W6/\Q (upd H p (.lst (M.set W6 v)))
def FV:Fm X zP:=by
 intro B s J H o i v ov A u Q I x w y h;obtain⟨p,M,k,W6,rfl,rfl,l,m,q⟩:=h;subst x;obtain⟨t,rfl⟩:=w;obtain⟨its,n,r,d,hz⟩:=I.lst l;obtain⟨a,z,g,j⟩:=FQ m;have c:=r.length;have hn:=rL
 have e:Inv X B J _ {s with heap:=s.heap.update p _}:=
  I.lstUpd l d (NS its n W6 u) (r.set y W6) (by rw[length_set];exact hz) s.toks
 by_cases f:0<=k
 .have b:k.toNat=W6:=by
   rw[seqIndex_of f j]at a;exact cN a
  exact W.ki_setAt d f (by lia) (by rw[size_toArray,<- c];exact j) (by rw[b];exact⟨_,e,q⟩)
 .have b:(k+its.toArray.size).toNat=W6:=by
   rw[seqIndex_neg (by lia) g]at a;rw[size_toArray,<- c];exact cN a
  exact W.ki_setBack d (by lia) (by rw[size_toArray,<- c];exact g) (by lia) (by rw[b];exact⟨_,e,q⟩)
def NT(lo hi:Option Int)(n:Nat):(nu lo hi ab n).1=((HT.sIx n 0 lo:Nat):Int)/\(nu lo hi ab n).2.1=((HT.sIx n n hi:Nat):Int)/\(nu lo hi ab n).2.2=1:=by
 refine⟨?_,?_,rfl⟩
 .cases lo with
  |none=>simp[nu,HT.sIx]
  |some i=>
   simp only[nu,HT.sIx,Option.getD_none]
   grind
 .cases hi with
  |none=>simp[nu,HT.sIx]
  |some i=>
   simp only[nu,HT.sIx,Option.getD_none]
   grind
def FW(its:LVa)(lo hi:Option Int):slicePick its.toArray lo hi ab=((its.drop (HT.sIx its.length 0 lo)).take (HT.sIx its.length its.length hi-HT.sIx its.length 0 lo)).toArray:=by
 obtain⟨a,b,c⟩:=NT lo hi its.toArray.size;unfold slicePick;rw[a,b,c]
 simp only[sliceRange_one,pick_run] <;> rfl
abbrev NU(K:br):V->Option Int->Option Int->Hp->VK->Prop:=λx lo hi H Q=>∃a M,x=.ref a/\SqL K H a M/\∀p,H p=ab->Q (.ref p) (upd H p (.lst (nL M lo hi)))
def NV:SlR X (NU X.K):=by
 intro B s J H x v l m lo hi sl Q I i e pl g h;obtain⟨a,M,rfl,f,q⟩:=h;subst i;obtain⟨its,r,d,hz⟩:=I.list f;have c:=r.length;refine⟨"list",_,slot_list_getitem.lookup,d.isList.typeIs,?_⟩;refine wpAny_getItem_list_slice d.isList e pl g .none (by simp) ?_ (by grind);rw[FW,<- c];refine⟨.ref s.heap.objs.size,_,I.laid (λb j q=>cj _ q) (bh _) ?_,rfl,q _ (I.hok.fresh (bh _))⟩;exact⟨cP (FP M lo hi) hz,_,0,(r.drop _).take _,eW _ rfl⟩
abbrev gG:V->Bool
 |.non=>ac
 |.bl _=>ac
 |.int _=>ac
 |.str _=>ac
 | _=>ag
abbrev eqV:V->V->Bool
 |.non,.non=>ac
 |.bl a,.bl b=>a==b
 |.bl a,.int b=>(if a then 1 else 0)==b
 |.int a,.bl b=>a==(if b then 1 else 0)
 |.int a,.int b=>a==b
 |.str a,.str b=>a==b
 | _,_=>ag
variable{y x:V}{u v:Value}
def FX{A:dQ}(e:aZ y u)(c:aZ x v)(f:gG y=ac)(d:gG x=ac):dR A s u v (eqV y x):=by
 cases y with
 |non=>
  cases e
  cases x with
  |non=>subst c;exact zo _
  |bl b=>subst c;exact dR.none_bool b
  |int b=>obtain⟨t,rfl⟩:=c;exact dR.none_int b t
  |str b=>obtain⟨t,rfl⟩:=c;exact dR.none_str b t
  | _=>exact absurd (d) cq
 |bl a=>
  subst e
  cases x with
  |non=>subst c;exact dR.bool_none a
  |bl b=>subst c;exact dR.bool_bool a b
  |int b=>obtain⟨t,rfl⟩:=c;exact dR.bool_int a b t
  |str b=>obtain⟨t,rfl⟩:=c;exact dR.bool_str a b t
  | _=>exact absurd (d) cq
 |int a=>
  obtain⟨t',rfl⟩:=e
  cases x with
  |non=>subst c;exact dR.int_none a t'
  |bl b=>subst c;exact dR.int_bool a t' b
  |int b=>obtain⟨t,rfl⟩:=c;exact dR.int_int a t' b t
  |str b=>obtain⟨t,rfl⟩:=c;exact dR.int_str a t' b t
  | _=>exact absurd (d) cq
 |str a=>
  obtain⟨t',rfl⟩:=e
  cases x with
  |non=>subst c;exact dR.str_none a t'
  |bl b=>subst c;exact dR.str_bool a t' b
  |int b=>obtain⟨t,rfl⟩:=c;exact dR.str_int a t' b t
  |str b=>obtain⟨t,rfl⟩:=c;exact dR.str_str a t' b t
  | _=>exact absurd (d) cq
 | _=>exact absurd (f) cq
abbrev eqU(x:V)(u:Value):Bool:=match u with
 |.none=>eqV .non x
 |.bool b=>eqV (.bl b) x
 |.int i _=>eqV (.int i) x
 |.str z _=>eqV (.str z) x
 | _=>ag
def FY(r:aZ y u)(f:gG y=ac):eqU x u=eqV y x:=by
 cases y with
 |non=>subst r;rfl
 |bl b=>subst r;rfl
 |int i=>obtain⟨t,rfl⟩:=r;rfl
 |str z=>obtain⟨t,rfl⟩:=r;rfl
 | _=>exact absurd (f) cq
def rP{x:V}:∀{M:LVv} {us:LVa},ba M us->M.all gG=ac->us.any (eqU x)=M.any λy=>eqV y x
 | _,_,.nil,_=>rfl
 |y::M,u::us,.cons r t,f=>by
  rw[l8,cV]at f;rw[iS,iS,FY r f.1,rP t f.2]
def rQ{A:dQ}{s:aL}{x:V}{v:Value}(c:aZ x v)(b:gG x=ac):∀{M:LVv} {us:LVa},ba M us->M.all gG=ac->∀u∈us,dR A s u v (eqU x u)
 | _,_,.nil,_=>λu a=>by nomatch a
 |y::M,u::us,.cons r t,f=>λd a=>by
  simp only[l8,cV]at f
  rcases bZ.mp a with rfl |a
  .rw[FY r f.1];exact FX r c f.1 b
  .exact rQ c b t f.2 d a
abbrev inV(x:V)(M:LVv):Bool:=M.any λy=>eqV y x
abbrev rIn(K:br)(neg:Bool):R2:=λx y H Q=>∃p M,y=.ref p/\(SqL K H p M\/SqT K H p M)/\gG x=ac/\M.all gG=ac/\Q (.bl (if neg then !inV x M else inV x M)) H
def NW:OpR X (dP .In) (rIn X.K ag):=by
 intro B s J H x y v u Q I d e h;obtain⟨p,M,rfl,a,c,fs,q⟩:=h;subst e
 rcases a with a |a
 .obtain⟨its,r,pl,hz⟩:=I.list a;refine SeqAt.in_listAt _ pl.isList (λw b=>rQ d c r fs w (by simpa using b)) ⟨.bl _,H,I,rfl,?_⟩;rw[show its.toArray.any _=its.any (eqU x) by simp,rP r fs];exact q
 .obtain⟨its,r,pl,hz⟩:=I.tuple a;refine SeqAt.in_tupleAt _ pl (λw b=>rQ d c r fs w (by simpa using b)) ⟨.bl _,H,I,rfl,?_⟩;rw[show its.toArray.any _=its.any (eqU x) by simp,rP r fs];exact q
def NX:OpR X (dP .NotIn) (rIn X.K ac):=by
 intro B s J H x y v u Q I d e h;obtain⟨p,M,rfl,a,c,fs,q⟩:=h;subst e
 rcases a with a |a
 .obtain⟨its,r,pl,hz⟩:=I.list a;refine SeqAt.notIn_listAt _ pl.isList (λw b=>rQ d c r fs w (by simpa using b)) ⟨.bl _,H,I,rfl,?_⟩;rw[show its.toArray.any _=its.any (eqU x) by simp,rP r fs];exact q
 .obtain⟨its,r,pl,hz⟩:=I.tuple a;refine SeqAt.notIn_tupleAt _ pl (λw b=>rQ d c r fs w (by simpa using b)) ⟨.bl _,H,I,rfl,?_⟩;rw[show its.toArray.any _=its.any (eqU x) by simp,rP r fs];exact q
def NY:gi X (.builtin "len") (λM H Q=>∃p ys,M=[.ref p]/\(SqL X.K H p ys\/SqT X.K H p ys)/\Q (.int ys.length) H):=by
 intro B s J H M us Q I r h;obtain⟨p,ys,rfl,b,q⟩:=h;obtain⟨u,rfl,c⟩:=iU r;subst c;have hn:=rL
 rcases b with b |b
 .obtain⟨its,r',pl,hz⟩:=I.list b;have a:=r'.length;exact Calls.call_len_list pl.isList (by grind) ⟨.int ys.length,H,I.tok _,⟨s.toks+1,by rw[size_toArray,a]⟩,q⟩
 .obtain⟨its,r',pl,hz⟩:=I.tuple b;have a:=r'.length;exact len_tuple pl (by grind) ⟨.int ys.length,H,I.tok _,⟨s.toks+1,by rw[size_toArray,a]⟩,q⟩
def NZ:gi X (.builtin "len") (λM H Q=>∃z,M=[.str z]/\z.length<=be/\Q (.int z.length) H):=by
 intro B s J H M us Q I r h;obtain⟨z,rfl,hz,q⟩:=h;obtain⟨u,rfl,t,rfl⟩:=iU r;have hn:=rL;exact len_str (by lia) ⟨.int z.length,H,I.tok _,⟨_,rfl⟩,q⟩
def N0:gi X (.type "list") (λM H Q=>∃p ys,M=[.ref p]/\(SqL X.K H p ys\/SqT X.K H p ys)/\∀l,H l=ab->Q (.ref l) (upd H l (.lst ys))):=by
 intro B s J H M us Q I r h;obtain⟨p,ys,rfl,d,q⟩:=h;obtain⟨u,rfl,i⟩:=iU r;subst i
 have b:∀its,ba ys its->ys.length<=be->∀h' a,_ ->
   h'.get? s.heap.objs.size=aa {cls:=.type "list",dict:=ab,data:=.seq its.toArray a,slots:=#[]}->EP X B J Q _ {s with heap:=h'}:=λits r' hz h' a kp e=>
  ⟨.ref s.heap.objs.size,_,I.laid kp (bh _) (show gc X.prog X.w _ h' _ (.lst ys)from⟨hz,its,a,r',e⟩),rfl,q _ (I.hok.fresh (bh _))⟩
 rcases d with d |d
 .obtain⟨its,r',pl,hz⟩:=I.list d;have c:=r'.length;obtain⟨o,g,f,n,hd⟩:=pl.isList;exact call_list_seq p (.inl rfl) g f hd (λh' a kp e=>b its r' hz h' a kp e) (by grind)
 .obtain⟨its,r',pl,hz⟩:=I.tuple d;have c:=r'.length;obtain⟨o,g,f,n,hd⟩:=pl;exact call_list_seq p (.inr rfl) g f hd (λh' a kp e=>b its r' hz h' a kp e) (by grind)
abbrev tyV(K:br)(T:String)(x:V)(H:Hp):Prop:=match x with
 |.str _=>T="str"
 |.int _=>T="int"
 |.ref p=>(T="list" /\ ∃M,SqL K H p M)\/(T="tuple" /\ ∃o,K.lookup p=aa o/\o.cls=.type "tuple" /\ o.dict=ab) \/
   (T="dict" /\ ((∃kvs,H p=aa (.dK kvs))\/∃kvs,H p=aa (.dT kvs)))\/(T="set" /\ ∃S n,H p=aa (.set S n))
 | _=>False
variable{T:String}
def N1(I:Inv X B J H s)(r:aZ x v)(ty:tyV X.K T x H):
  s.TypeIs v T/\∀a,v=.ref a->∃f,s.heap.get? a=aa f/\f.dict=ab:=by
 cases x with
 |str z=>
  obtain⟨t,rfl⟩:=r;cases (ty)
  exact⟨nw s z t,λ_ e=>nomatch e⟩
 |int i=>
  obtain⟨t,rfl⟩:=r;cases (ty)
  exact⟨typeIs_int s i t,λ_ e=>nomatch e⟩
 |ref p=>
  subst r
  rcases ty with⟨rfl,M,h⟩ |⟨rfl,o,b,g,hd⟩ |⟨rfl,b⟩ |⟨rfl,S,n,b⟩
  .obtain⟨its,_,pl,_⟩:=I.list h;refine⟨pl.isList.typeIs,λa e=>?_⟩;cases e;obtain⟨o,n,e,c,hd,_⟩:=pl;exact⟨o,e,hd⟩
  .refine⟨⟨o,I.kIn p o b,g⟩,λa e=>?_⟩;cases e;exact⟨o,I.kIn _ o b,hd⟩
  .have z:∃o,s.heap.get? p=aa o/\o.ExactDict:=by
    rcases b with⟨kvs,b⟩ |⟨kvs,b⟩
    .obtain⟨_,_,_,_,o,_,_,e,ex,_⟩:=I.hok p _ b;exact⟨o,e,ex⟩
    .obtain⟨_,_,_,_,o,_,_,e,ex,_⟩:=I.hok p _ b;exact⟨o,e,ex⟩
   obtain⟨o,e,ex⟩:=z;refine⟨⟨o,e,ex.1⟩,λa d=>?_⟩;cases d;exact⟨o,e,ex.2.1⟩
  .obtain⟨o,_,_,_,e,ex,_⟩:=I.hok p _ b;refine⟨⟨o,e,ex.1⟩,λa d=>?_⟩;cases d
   exact⟨o,e,ex.2.1⟩
 | _=>exact iB ty
abbrev tBM(K:br)(T:String)(r:V->LVv->Hp->VK->Prop)(to:TE)(t:TA):TE:=λJ H Q=>to J H λx a=>tyV K T x a/\t J a λM b=>r x M b Q
variable{o:Expr}{es:LEx}{t:TA}{name:Str}{apos cpos:Pos}{r:V->LVv->Hp->VK->Prop}
def cA{to:TE}{id:String}(pa:PlainAttrs T)(slot:Slot T name id)(f:typeOf (.builtin id)=pure (.type "method_descriptor"))(hm:MtR X id r)(u:PE X o to)(ha:PA X (e::es) t)
 (b:mf o name X.env (eval o X.env)=eval o X.env:=by rfl)
 (d:((d5 cpos (bf (e::es) X.env)).all (λx=>!x.1) && (j1 cpos (j0 [] X.env)).all (λx=>x.1.isSome)
   && decide ((e::es).length+([]:List j2).length+(if ([]:List j2).isEmpty then 0 else 1)<30))=ac:=by rfl)
 (c:(apos.endLine==cpos.line)=ac:=by rfl)(w:StE X e es:=by rfl)(a:(d5 cpos (bf es X.env)).any (·.1)=ag:=by rfl):
  PE X (.Call (.Attribute o name apos) (e::es) [] cpos) (tBM X.K T r to t):=by
 intro B s J H Q I h;refine wpAny_Call_method_late b d c rfl (thn (u B s J H _ I h) λv s1 A=>?_);obtain⟨x,l,g,j,ty,y⟩:=A;obtain⟨p,q⟩:=N1 g j ty;refine⟨T,id,pa,slot,f,p,q,?_⟩;have i:=ha cpos B s1 J l _ g y;rw[w]at i ⊢
 exact ze (by show(ag || (d5 cpos _).any (·.1))=ag;rw[a] <;> rfl) (zf (thn i λus s2 ⟨L,m,n,C,z⟩=>hm B s2 J m x L v us Q n j C z))
abbrev MtM(X:Cx)(id:String)(r:V->LVv->Hp->VK->Prop):Prop:=
 ∀(B:PNS) (s:aL) (J:St) (H:Hp) (x:V) (M:LVv) (v:Value) (us:LVa) (Q:VK),Inv X B J H s->aZ x v->ba M us->r x M H Q ->
  wpAny (model X.prog X.w) X.A (call (.builtin id) (v::us)) (EP X B J Q) X.xe s
def ba.one:∀{x:V} {us:LVa},ba [x] us->∃u,us=[u]/\aZ x u
 | _,_,.cons r .nil=>⟨_,rfl,r⟩
def ba.two:∀{x y:V} {us:LVa},ba [x,y] us->∃u v,us=[u,v]/\aZ x u/\aZ y v
 | _,_,_,.cons r (.cons q .nil)=>⟨_,_,rfl,r,q⟩
variable{us:LVa}
def ba.reverse(h:ba M us):ba M.reverse us.reverse:=by
 induction h with
 |nil=>exact .nil
 |cons r t a=>rw[jX,jX];exact ba.append a (.cons r .nil)
variable{l:Addr}{t':Nat}
def Inv.lset{its a:LVa}{f:Array Value->Array Value}(I:Inv X B J H s)(b:H l=aa (.lst M))
 (e:s.heap.get? l=aa {cls:=.type "list",data:=.seq its.toArray n})(d:f its.toArray=a.toArray)(h:ba ys a)(hz:ys.length<=be):
  Inv X B J (upd H l (.lst ys)) {s with heap:=s.heap.update l (iG f),toks:=t'}:=by
 have q:=PySem.IsL.update e f;rw[d]at q;exact I.write (by rw[b];exact trivial) (.inl rfl) (λi u c g=>(nC s.heap _ (cE c)).trans g) ⟨_,q⟩ ⟨hz,a,_,h,q⟩
def Inv.lnew{its:LVa}(I:Inv X B J H s)(a:ba ys its)(hz:ys.length<=be):
  Inv X B J (upd H s.heap.objs.size (.lst ys)) {s with heap:=s.heap.push {cls:=.type "list",data:=.seq its.toArray},toks:=t'}:=
 I.laid (λ_ _ q=>cj _ q) (bh _) ⟨hz,its,0,a,eW _ rfl⟩
def Inv.fresh(I:Inv X B J H s):H s.heap.objs.size=ab:=I.hok.fresh (bh _)
def Inv.lstM(I:Inv X B J H s)(a:H l=aa (.lst M)):M.length<=be/\∃(its:LVa) (n:Nat),ba M its/\M.length=its.length/\s.heap.get? l=aa {cls:=.type "list",data:=.seq its.toArray n}:=by
 obtain⟨z,its,n,r,e⟩:=I.hok l _ a;exact⟨z,its,n,r,r.length,e⟩
def FZ(h:n<=be):E3 n=ag:=by
 exact decide_eq_false (by lia)
abbrev zQ:V->LVv->Hp->VK->Prop:=λx L H Q=>∃l M y,x=.ref l/\L=[y]/\H l=aa (.lst M)/\M.length<be/\Q .non (upd H l (.lst (M++[y])))
def fW:MtM X "list.append" zQ:=by
 intro B s J H x L v us Q I c b h;obtain⟨l,M,y,rfl,rfl,a,hz,q⟩:=h;subst c;obtain⟨u,rfl,ru⟩:=b.one;obtain⟨z,its,n,r,d,e⟩:=I.lstM a;refine mi F.slot_list_append ⟨_,e,rfl⟩ F.entry_list_append (F.args_list_append_2 _ _) (PySem.list_append l its.toArray n u (by rw[size_toArray];lia)) ⟨e,?_⟩;refine⟨.non,_,I.lset a e (by simp) (r.append (.cons ru .nil)) ?_,rfl,q⟩;rw[aI,e7]
 lia
abbrev F0:V->LVv->Hp->VK->Prop:=λx L H Q=>∃l b M a,x=.ref l/\L=[.ref b]/\H l=aa (.lst M)/\H b=aa (.lst a)/\M.length+a.length<=be/\Q .non (upd H l (.lst (M++a)))
def rR:MtM X "list.extend" F0:=by
 intro B s J H x L v us Q I p o h;obtain⟨l,b,M,y,rfl,rfl,d,g,hz,q⟩:=h;subst p;obtain⟨u,rfl,ru⟩:=o.one;subst ru;obtain⟨z,its,n,r,t,e⟩:=I.lstM d;obtain⟨w,a,j,m,i,f⟩:=I.lstM g;have hsz:its.toArray.size+a.toArray.size<=be:=by grind
 have c:¬(!its.toArray.isEmpty && E3 (its.toArray.size+a.toArray.size))=ac:=by
  rw[FZ hsz,uF]
  grind
 refine mi F.slot_list_extend ⟨_,e,rfl⟩ F.entry_list_extend (F.args_list_extend_2 _ _)
  (AutoSeq1.list_extend_list_list_0 l its.toArray n b a.toArray j c (by grind) (by lia)) ⟨e,f,?_⟩
 refine⟨.non,_,I.lset d e (by simp) (r.append m) ?_,rfl,q⟩
 grind
abbrev N2:R2:=λx y H Q=>∃l b M a,x=.ref l/\y=.ref b/\H l=aa (.lst M)/\H b=aa (.lst a)/\M.length+a.length<=be/\∀p,H p=ab->Q (.ref p) (upd H p (.lst (M++a)))
def F1:OpR X (gh .Add) N2:=by
 intro B s J H x y v u Q I m o h;obtain⟨l,b,M,A,rfl,rfl,g,f,hz,q⟩:=h;subst m;subst o;obtain⟨z,its,n,r,p,e⟩:=I.lstM g;obtain⟨w,a,t,j,i,c⟩:=I.lstM f;refine PySem.P.add_list e c ?_ (by grind);have d:its.toArray++a.toArray=(its++a).toArray:=by simp
 rw[d];exact⟨.ref _,_,I.lnew (r.append j) (by grind),rfl,q _ I.fresh⟩
end L2
namespace Att
open List
open PySem PySem.W PySem.Calls PyProof.Rows
variable{P:Params}{h:Heap}
def N3:∀(ns:LI0) (L:LVa),WellAll P h L (ns.map WData.int)->IntsAre L ns:=by
 intro ns
 induction ns with
 |nil=>
  intro L w;cases w
  exact .nil
 |cons n ns c=>
  intro L w
  cases w with
  |cons a b=>
   cases a;exact .cons _ _ (c _ b)
variable{l:OpenLaw}{n:Nat}
def N4(hn:l.most=aa n){args:List WData}{c:LVa}
 (b:l.row.toRowW.claim.pre args=ac)(i:WellAll P h c args):
  ∃a L ns,c=[gt a]/\args=[WData.list (ns.map WData.int)]/\h.get? a=aa {cls:=.type "list",data:=.seq L.toArray}/\IntsAre L ns/\ns.length<=n:=by
 obtain⟨d,r,rfl,j,m⟩:=hasAllW_cons ((pre_splitW b).1);obtain rfl:=hasAllW_nil m;obtain⟨M,rfl,o⟩:=hasW_list j;obtain⟨ns,rfl⟩:=items_int o
 have f:ns.length<=n:=by
  have g:(WTm.not (.lt (.lit (.int n)) (.len (.arg 0)))).holds [] {args:=[.list (ns.map .int)]}=ac:=by
   have g:=(holds_andW ((pre_splitW b).2)).1;rw[hn]at g;exact g
  have t:=condW_of g (w_not (w_lt w_lit (w_len_list (w_arg rfl))))
  grind
 cases i with
 |cons q s=>
  cases s
  cases q with
  |list p e=>exact⟨_,_,ns,rfl,rfl,p,N3 ns _ e,f⟩
def N5(l:OpenLaw)(args:List WData):l.row.toRowW.claim.post args (.bool ac) args=ac:=
 postW_of
  (show WShape.has [] _ .bool=ac by first |rfl |decide |simp[WShape.has])
  (w_eq_bool (w_res rfl) w_lit) rfl
variable{q:du}{c5:LSt}{XP:MGT->Heap->Prop}{YP:World->Heap->Prop}{d:DefRec}
def attach_call
 (hn:l.most=aa n)(m:d.params.defaults=[])
 (call:∀ (w:World) (s₀ b:aL) (mg mb:MGT) (fa:Addr) (o:Obj) (pm i doc:Value) (a:Addr) (L:LVa) (ns:LI0),
   Ground q c5 [] XP w s₀ mg mb b.heap->YP w b.heap ->
   b.heap.get? fa=aa o->o.data=.func (docDef d.name d.params d.body d.scope pm i doc)->b.heap.CodeRec i d.name->mg d.name=aa (.ref fa) ->
   b.heap.get? a=aa {cls:=.type "list",data:=.seq L.toArray}->IntsAre L ns->ns.length<=n->b.gens=#[] ->
   g3 (model l.prog w) callerA (.call (.ref fa) ⟨[.ref a],[]⟩) (λr s'=>r=.ok (.ret (.bool ac))/\OldK b.heap s'.heap/\s'.os=b.os/\lf s'.gens) b):
  WalkO q c5 XP YP l.row.toRowW d [] (λf L=>PySem.call f L):=by
 intro w s₀ b mg mb G Y fa o pm i doc x kV E hd j t p B args v J h u I s C;obtain rfl:x=.none:=Dflts.none t m;obtain rfl:kV=.none:=Dflts.noKw t;obtain⟨a,L,ns,rfl,rfl,g,c,e⟩:=N4 hn h s;refine enter_call (o5 (call w s₀ b mg mb fa o pm i doc a L ns G Y E (fd_plain hd) j p g c e B) λr s' H=>?_);obtain⟨rfl,y,z,A⟩:=H;exact⟨.inl ⟨.bool ac,.bool ac,[],rfl,λ_=>rfl,.bool ac,N5 l _,λ_=>⟨List.Pairwise.nil,λ_ hm=>(nomatch hm)⟩⟩,y,z,A⟩
end Att
namespace L2
open List
open PySem PySem.Spec PyProof.Rows
def F2:∀{L:LVa} {ns:LI0},IntsAre L ns->ba (ns.map V.int) L
 | _,_,.nil=>.nil
 | _,_,.cons n t h=>.cons ⟨t,rfl⟩ (F2 h)
abbrev vj(H:Hp):Prop:=∀b,H b=ab\/∃o M,H b=aa (.frz o (.lst M))
variable{P:du}{w:World}{K:br}{mg:MGT}{a:Addr}{fd:fT}{x:Str}
def N6{mb:MGT}{CX:CXT}{k:Nat}{fa:Addr}{sp:Sp}{c:aL}{L:LVa}{ns:LI0}
 (Q:K.In c.heap)(y:c.heap.Ns cQ mg)(l:c.heap.Ns builtinsNs mb)(E:∀x:Str,x ≠ "__name__" -> mb x=h8 x)(t:c.heap.NoLimit)(hg:c.gens=#[])
 (ha:c.heap.get? a=aa {cls:=.type "list",data:=.seq L.toArray})(hi:IntsAre L ns)(hl:ns.length<=be)(hr:cG k callerA)
 (F:∀base:Heap,K.In base->base.Ns cQ mg->eX P w K mg base CX k fa fd [x] sp)(j:∀(s:aL) (u:Value),BindsTo s fd ⟨[u],[]⟩ [(x,u)])
 (I:∀H:Hp,vj H->SqL K H a (ns.map V.int)->sp [.ref a] H (λv _=>v=.bl ac) λ_ _ _=>False)
 (C:∀H e s',CX [] H c (λ_ _ _=>False) e s'->False):
  g3 (model P w) callerA (.call (.ref fa) ⟨[.ref a],[]⟩) (λr s'=>r=.ok (.ret (.bool ac))/\OldK c.heap s'.heap/\s'.os=c.os/\lf s'.gens) c:=by
 have rv:=F2 hi
 have i:∀H:Hp,vj H->SqL K H a (ns.map V.int)->HOk P w H c.heap->(∀b,H b≠ab->b=a)->(H a≠ab->K.lookup a=ab) ->
   g3 (model P w) callerA (.call (.ref fa) ⟨[.ref a],[]⟩) (λr s'=>r=.ok (.ret (.bool ac))/\OldK c.heap s'.heap/\s'.os=c.os/\lf s'.gens) c:=by
  intro H T hS hok hA hK;have f:∀{b:Addr} {o:Obj},c.heap.get? b=aa o->H b=ab->(pc c.heap H).get? b=aa o:=λe n=>L3 e n
  have J:∀{b:Addr} {o:Obj} {es:Array DictEntry} {B:Nat},c.heap.get? b=aa o->o.data=.dict es B->H b=ab:=λ{b o es B} e d=>by
   grind
  have g:∀{b:Addr} {m:MGT},c.heap.Ns b m->(pc c.heap H).Ns b m:=λ{b m} ⟨o,es,B,e,d,r⟩=>⟨o,es,B,f e (J e d),d,r⟩
  have p:=λb o e=>f (Q b o e) (by
   cases q:H b with
   |none=>rfl
   |some u=>
    have U:=hA b (by grind);subst U;rw[hK (by grind)]at e;nomatch e)
  have hM:Mod K mg _:=⟨p,g y,⟨mb,g l,E⟩,let ⟨mc,h1,h2⟩:=t;⟨mc,g h1,h2⟩⟩;have Y:nJ P w K mg _ callerA [] c H:=⟨rfl,hM,λb o e=>L4 e,uO (L1 _ _),trivial,λb l=>absurd (show b∈([]:LAd)from l) (by simp),hok,.of_eq hg⟩;refine o5 ((F _ p (g y)).run callerA [] c H ⟨[.ref a],[]⟩ _ [.ref a] _ _ hr Y (j c _) (.cons rfl .nil) (I H T hS)) λr s' h=>?_
  cases r with
  |error e=>exact(C H e s' h).elim
  |ok fl=>
   cases fl with
   |next=>exact iB h
   |brk=>exact iB h
   |cont=>exact iB h
   |ret u=>
    obtain⟨v,H',os,bare,un,A,r',q⟩:=h;subst q;obtain rfl:u=g4 ac:=r';refine⟨rfl,OldK.of_keep λb o e=>?_,os,bare⟩
    cases q:H b with
    |none=>exact un.keep b o e q (by intro z;exact absurd (show b∈([]:LAd)from z) (by simp)) (by simp)
    |some u=>
     rcases T b with z |⟨ob,M,z⟩
     .grind
     .have z2:=un.frzs b ob _ z;obtain⟨e1,_⟩:=hok b _ z;obtain⟨e2,_⟩:=A b _ z2
      grind
 cases G:K.lookup a with
 |some o=>
  have e:=Q a o G;rw[ha]at e;cases e
  refine i _ (λ_=>.inl rfl) (.inr ⟨_,L.toArray,_,G,rfl,rfl,rfl,by rw[size_toArray,hi.length];grind⟩) (λb u z=>by have N:_=aa u:=z;nomatch N) (λb z=>absurd rfl z) λz=>absurd rfl z
 |none=>
  refine i (λb=>if b=a then aa _ else ab) (λb=>?_) (.inl (.inr ⟨{cls:=.type "list",data:=.seq L.toArray},if_pos rfl⟩)) (λb u z=>?_) (λb z=>?_) λ_=>G
  .grind
  .by_cases l:b=a
   .have N:=(if_pos l).symm.trans z;cases N;subst l;exact⟨ha,by rw[ay];exact hl,L,_,rv,ha⟩
   .grind
  .grind
variable{h:Heap}
nonrec def KOf(_:K.In h):br:=K
variable{l:W.OpenLaw}{q:du}{c5:LSt}{XP:MGT->Heap->Prop}{YP:World->Heap->Prop}{d:DefRec}
def N7{n k:Nat}{K:Params->br}{CX:World->CXT}{sp:World->Sp}
 (hn:l.most=aa n)(y:n<=be)(r:d.params.defaults=[])(Q:cG k callerA)
 (I:∀(w:World) (h:Heap),YP w h->(K w.params).In h)
 (F:∀ (w:World) (mg:MGT) (fa:Addr) (h:Heap),(K w.params).In h->h.Ns cQ mg->mg d.name=aa (.ref fa) ->
   ∃fd:fT,(∀(s:aL) (u:Value),BindsTo s fd ⟨[u],[]⟩ [(x,u)]) /\
    ∀base:Heap,(K w.params).In base->base.Ns cQ mg->eX l.prog w (K w.params) mg base (CX w) k fa fd [x] (sp w))
 (z:∀(w:World) (H:Hp) (a:Addr) (ns:LI0),ns.length<=n->vj H->SqL (K w.params) H a (ns.map V.int)->sp w [.ref a] H (λv _=>v=.bl ac) λ_ _ _=>False)
 (p:∀(w:World) (H:Hp) (s:aL) (e:Value) (s':aL),CX w [] H s (λ_ _ _=>False) e s'->False):
  W.WalkO q c5 XP YP l.row.toRowW d [] (λf L=>PySem.call f L):=by
 refine Att.attach_call hn r λw s₀ m mg mb fa o pm U doc a L ns G Y ho hd M t j i c N=>?_;have A:=I w _ Y;obtain⟨fd,J,B⟩:=F w mg fa _ A G.T.g t;exact N6 A G.T.g G.T.b G.T.builtins G.T.nolimit N j i (cP c y) Q B J (λH C E=>z w H a ns c C E) λH e s'=>p w H m e s'
variable{CX:CXT}
def walk_ofK{n k:Nat}{K:Params->br}{sp:br->Sp}
 (hn:l.most=aa n)(g:n<=be)(c:d.params.defaults=[])(r:cG k callerA)
 (p:∀(w:World) (h:Heap),YP w h->(K w.params).In h)
 (F:∀ (w:World) (mg:MGT) (fa:Addr) (h:Heap),(K w.params).In h->h.Ns cQ mg->mg d.name=aa (.ref fa) ->
   ∃fd:fT,(∀(s:aL) (u:Value),BindsTo s fd ⟨[u],[]⟩ [(x,u)]) /\
    ∀base:Heap,(K w.params).In base->base.Ns cQ mg->eX l.prog w (K w.params) mg base CX k fa fd [x] (sp (K w.params)))
 (i:∀(K:br) (H:Hp) (a:Addr) (ns:LI0),ns.length<=n->vj H->SqL K H a (ns.map V.int)->sp K [.ref a] H (λv _=>v=.bl ac) λ_ _ _=>False)
 (b:∀(H:Hp) (s:aL) (e:Value) (s':aL),CX [] H s (λ_ _ _=>False) e s'->False):
  W.WalkO q c5 XP YP l.row.toRowW d [] (λf L=>PySem.call f L):=
 N7 hn g c r p F (λw H a ns j m o=>i _ H a ns j m o) λ_ H s e s'=>b H s e s'
abbrev dS(s:Stmt)(W6:Nat):Stmt:=match s with
 |.ClassDef _ _ _ body _ _ _ _ _ _ _=>body.getD W6 (.Pass ⟨0,0,0,0⟩)
 | _=>.Pass ⟨0,0,0,0⟩
abbrev rS(s:Stmt):Arguments:=match s with
 |.FunctionDef _ a _ _ _ _ _ _ _ _=>a
 | _=>{posonlyargs:=[],args:=[],vararg:=ab,kwonlyargs:=[],kw_defaults:=[],kwarg:=ab,defaults:=[]}
abbrev ka(s:Stmt):List Stmt:=match s with
 |.FunctionDef _ _ b _ _ _ _ _ _ _=>b
 | _=>[]
abbrev aO(s:Stmt):Scope:=match s with
 |.FunctionDef _ _ _ _ _ _ sc _ _ _=>sc
 | _=>{kind:=.function,names:=[],isGenerator:=ag,isCoroutine:=ag}
nonrec abbrev CX0:CXT:=λ_ _ _ _ _ _=>False
nonrec abbrev E0:XK:=λ_ _ _=>False
variable{X:Cx}
def kc:nK CX0 X E0:=λ_ _ _ _ _ _ _ h=>h.elim
structure Fun(K:br)(x qual:Str)(st:Stmt)(f:Addr)(fd:fT):Prop where
 ex:∃(oc:Value) (od:Option Addr) (kV doc pm:Value) (an:Option Addr) (cdv ct:Value) (osl:Array (Option Value)),
  fd=W.fnOf x qual (rS st) (ka st) (aO st) .none kV doc pm an cdv ct/\K.lookup f=aa ⟨oc,od,.func fd,osl⟩/\W.codeIn K cdv qual=ac
 kp:nG K (.ref f)=ac
variable{base:Heap}{qual:Str}{st:Stmt}{f:Addr}{N ps:LSt}{sp:Sp}
def Fun.ok{k:Nat}(F:Fun K x qual st f fd)(S:aT N ps (aO st))(len:∀L H Q W5,sp L H Q W5->L.length=ps.length)
 (a:∀ (cdv:Value) (A:dQ) (outer:List Env) (s:aL) (H:Hp) (L:LVv) (Q:VK) (W5:XK),cG k (A.deeper (iC qual (aO st) s.heap.objs.size f cdv))->sp L H Q W5 ->
   ∃t,PSs (j9 CX0 P w K mg base N qual (aO st) f cdv A outer s H W5).nox (ka st) t/\t {nx:=λ_ H'=>Q .non H',rt:=Q} (start N L) H):eX P w K mg base CX0 (k+1) f fd ps sp:=by
 obtain⟨oc,od,kV,doc,pm,an,cdv,ct,osl,rfl,e,b⟩:=F.ex;refine NG e b S len λA outer s H L Q W5 d c=>?_;obtain⟨t,h,q⟩:=a cdv A outer s H L Q W5 d c;exact⟨t,h.nox,q⟩
def Fun.binds(F:Fun K x qual st f fd)
 (h:∀(kV doc pm:Value) (an:Option Addr) (cdv ct:Value) (us:LVa),us.length=ps.length->bindArgs (W.fnOf x qual (rS st) (ka st) (aO st) .none kV doc pm an cdv ct) ⟨us,[]⟩=pure (ps.zip us)):ie K fd ps []:=by
 obtain⟨oc,od,kV,doc,pm,an,cdv,ct,osl,rfl,b,a⟩:=F.ex;exact .all (h kV doc pm an cdv ct)
def fun_mk{oc:Value}{od an:Option Addr}{osl:Array (Option Value)}{kV doc pm cdv ct:Value}(l:K.lookup f=aa ⟨oc,od,.func (W.fnOf x qual (rS st) (ka st) (aO st) .none kV doc pm an cdv ct),osl⟩)
 (c:W.codeIn K cdv qual=ac)(k:nG K (.ref f)=ac):Fun K x qual st f (W.fnOf x qual (rS st) (ka st) (aO st) .none kV doc pm an cdv ct):=⟨⟨oc,od,kV,doc,pm,an,cdv,ct,osl,rfl,l,c⟩,k⟩
structure Df(K:br)(mg:MGT)(x:Str)(st:Stmt)(ps:LSt)(e:Addr×fT):Prop where
 F:Fun K x x st e.1 e.2
 b:ie K e.2 ps []
 g:mg x=aa (.ref e.1)
structure Dm(K:br)(W4:Addr)(x q:Str)(st:Stmt)(ps:LSt)(e:Addr×fT):Prop where
 F:Fun K x q st e.1 e.2
 b:ie K e.2 ps []
 m:rM K W4 x e.1
structure Pk(P:du)(w:World)(K:br)(mg:MGT)(base:Heap)(CX:CXT)(k:Nat)(x:Str)(e:Addr×fT)(ps:LSt)(sp:Sp):Prop where
 ok:eX P w K mg base CX k e.1 e.2 ps sp
 g:mg x=aa (.ref e.1)
 kp:nG K (.ref e.1)=ac
 b:ie K e.2 ps []
structure Pm(P:du)(w:World)(K:br)(mg:MGT)(base:Heap)(CX:CXT)(k:Nat)(W4:Addr)(x:Str)(e:Addr×fT)(ps:LSt)(sp:Sp):Prop where
 ok:eX P w K mg base CX k e.1 e.2 ps sp
 c:Cls K W4
 m:rM K W4 x e.1
 b:ie K e.2 ps []
variable{e:Addr×fT}
def Df.pk{k:Nat}(W5:Df K mg x st ps e)(o:eX P w K mg base CX k e.1 e.2 ps sp):Pk P w K mg base CX k x e ps sp:=⟨o,W5.g,W5.F.kp,W5.b⟩
variable{q:Str}{W4:Addr}
def Dm.pk{k:Nat}(W5:Dm K W4 x q st ps e)(c:Cls K W4)(o:eX P w K mg base CX k e.1 e.2 ps sp):Pm P w K mg base CX k W4 x e ps sp:=⟨o,c,W5.m,W5.b⟩
structure Dq(K:br)(x:Str)(st:Stmt)(f:Addr)(fd:fT):Prop where
 a:eN K cQ x=aa (aa (.ref f))
 F:Fun K x x st f fd
structure Dp(K:br)(W4:Addr)(x q:Str)(st:Stmt)(f:Addr)(fd:fT):Prop where
 a:ia K (.ref W4) x=aa (aa (.ref f))
 i:W.isFn K (.ref f)=ac
 F:Fun K x q st f fd
nonrec abbrev zR(x q:Str)(st:Stmt)(ps:LSt):Prop:=∀(kV doc pm:Value) (an:Option Addr) (cdv ct:Value) (us:LVa),us.length=ps.length->bindArgs (W.fnOf x q (rS st) (ka st) (aO st) .none kV doc pm an cdv ct) ⟨us,[]⟩=pure (ps.zip us)
def Dq.mk2(d:Dq K x st f fd)(X:K.In h)(G:h.Ns cQ mg)(b:zR x x st ps:=by walk_at "bd"):Df K mg x st ps (f,fd):=⟨d.F,d.F.binds b,jw X G d.a⟩
def Dp.mk2(d:Dp K W4 x q st f fd)(b:zR x q st ps:=by walk_at "bd"):Dm K W4 x q st ps (f,fd):=⟨d.F,d.F.binds b,⟨d.a,d.i,d.F.kp⟩⟩
def Dq.bt{p:Str}(d:Dq K x st f fd)(b:zR x x st [p])(s:aL)(v:Value):BindsTo s fd ⟨[v],[]⟩ [(p,v)]:=by
 obtain⟨oc,od,kV,doc,pm,an,cdv,ct,osl,rfl,c,a⟩:=d.F.ex;exact .of_eq (b kV doc pm an cdv ct [v] rfl)
variable{n:Nat}
def pj(h:n<=1000):n<be:=Nat.lt_of_le_of_lt h (by decide)
def pv(i:Nat){pos:Pos}(b:X.N[i]?=aa x:=by rfl)(c:Vis X.env.scope x:=by first |exact cF rfl |exact bP (cF rfl) |exact bP (bP rfl))(hd:NDb x:=by decide)
 (a:NCd x:=by decide):PE X (.Name x pos) (eO i):=lu b c hd a
def F3{A a:Prop}(h:A):if ac=ac then A else a:=by
 rw[if_pos rfl];exact h
abbrev aR(H H':Hp):Prop:=∀b o,H b=aa o->H' b=aa o
def aR.refl(H:Hp):aR H H:=λ_ _ h=>h
variable{H H1 H2:Hp}
def aR.trans(a:aR H H1)(b:aR H1 H2):aR H H2:=λc o h=>b c o (a c o h)
variable{H':Hp}{l:Addr}
def aR.free(e:aR H H')(h:H' l=Option.none):H l=Option.none:=by
 cases q:H l with
 |none=>rfl
 |some o=>
  rw[e l o q]at h
  nomatch h
def aR.seq{M:LVv}(e:aR H H')(h:SqL K H a M):SqL K H' a M:=by
 rcases h with(h |⟨o,h⟩) |h
 .exact .inl (.inl (e _ _ h))
 .exact .inl (.inr ⟨o,e _ _ h⟩)
 .exact .inr h
section
variable{κ:Type}[DecidableEq κ]
abbrev fK(kvs:List (κ×V))(k:κ):Option V:=(kvs.find? λa=>decide (a.1=k)).map (·.2)
abbrev gu(kvs:List (κ×V))(k:κ)(v:V):List (κ×V):=
 if (kvs.any λa=>decide (a.1=k))=ac then kvs.map (λa=>if a.1=k then (a.1,v) else a) else kvs++[(k,v)]
def vk{p:κ×V}{r:List (κ×V)}{k:κ}(e:p.1=k):fK (p::r) k=aa p.2:=by simp[fK,find?_cons,e]
def vm{p:κ×V}{r:List (κ×V)}{k:κ}(e:¬p.1=k):fK (p::r) k=fK r k:=by simp[fK,find?_cons,e]
def zS(k:κ):∀kvs:List (κ×V),(kvs.any λa=>decide (a.1=k))=(fK kvs k).isSome
 | []=>rfl
 |p::r=>by
  rw[iS]
  by_cases e:p.1=k
  .simp only[vk e,decide_eq_true e,Bool.true_or,Option.isSome_some]
  .rw[vm e,decide_eq_false e,Bool.false_or];exact zS k r
def F4(kvs:List (κ×V))(k:κ)(v:V):(gu kvs k v).length<=kvs.length+1:=by
 unfold gu;split
 .rw[ay];lia
 .simp only[aI,bg,gY];lia
def N8{kvs:List (κ×V)}{k:κ}(v:V)(h:fK kvs k=ab):gu kvs k v=kvs++[(k,v)]:=by
 unfold gu;rw[zS,h];exact if_neg (by decide)
def gF.getD{o:Option V}{u:Option Value}{d:V}{d':Value}(r:gF o u)(rd:aZ d d'):aZ (o.getD d) (u.getD d'):=by
 cases o with
 |none=>cases u with
  |none=>exact rd
  |some _=>exact(r).elim
 |some _=>cases u with
  |none=>exact(r).elim
  |some _=>exact r
def KV.val{kvs:List (κ×V)}{L:List (κ×Value)}(r:KV kvs L)(k:κ):gF (fK kvs k) (iT L k):=by
 induction r with
 |nil=>exact jx
 | @cons p q ps c h t g=>
  obtain⟨d,f⟩:=h
  by_cases e:p.1=k
  .have a:=d.symm.trans e;have b:iT (q::c) k=aa q.2:=by simp[iT,a]
   rw[vk e,b];exact f
  .have a:¬q.1=k:=λz=>e (d.trans z);have b:iT (q::c) k=iT c k:=by simp[iT,a]
   rw[vm e,b];exact g
def KV.any{kvs:List (κ×V)}{L:List (κ×Value)}(r:KV kvs L)(k:κ):(kvs.any λa=>decide (a.1=k))=L.any λa=>decide (a.1=k):=by
 induction r with
 |nil=>rfl
 |cons h t b=>simp only[iS,iS,b,h.1]
def KV.repl{kvs:List (κ×V)}{L:List (κ×Value)}(r:KV kvs L)(k:κ){y:V}{u:Value}(f:aZ y u):
  KV (kvs.map λa=>if a.1=k then (a.1,y) else a) (L.map λa=>if a.1=k then (a.1,u) else a):=by
 induction r with
 |nil=>exact .nil
 | @cons p q ps g h t d=>
  rw[eL,eL];refine .cons ?_ d;obtain⟨b,c⟩:=h
  by_cases e:p.1=k
  .rw[if_pos e,if_pos (b.symm.trans e)];exact⟨b,f⟩
  .rw[if_neg e,if_neg (λz=>e (b.trans z))];exact⟨b,c⟩
def KV.put{kvs:List (κ×V)}{L:List (κ×Value)}(r:KV kvs L)(k:κ){y:V}{u:Value}(a:aZ y u):KV (gu kvs k y) (jq L k u):=by
 unfold gu jq;rw[r.any k]
 by_cases e:(L.any λb=>decide (b.1=k))=ac
 .rw[if_pos e,if_pos e];exact r.repl k a
 .rw[if_neg e,if_neg e];exact Paired.snoc r ⟨rfl,a⟩
def KV.length{kvs:List (κ×V)}{L:List (κ×Value)}(r:KV kvs L):kvs.length=L.length:=Paired.length r
end
def rT{k:Key}{u:Value}(r:aZ (kV k) u):(dF P w).is k u=ac:=by
 cases k with
 |inl i=>obtain⟨t,e⟩:=(r);subst e;exact Fc P w i t
 |inr x=>obtain⟨t,e⟩:=(r);subst e;exact Fd P w x t
def F5{P:du}{w:World}:∀{C:List Key} {us:LVa},ba (C.map kV) us->ItemsAre (dF P w) C us
 | [],_,r=>by rw[map_nil]at r;cases r;exact .nil
 |k::C,_,r=>by
  cases r with
  |cons h t=>exact .cons (rT h) (F5 t)
nonrec abbrev KT(H:Hp):List (List Key×V)->List (List Key×Addr×Value)->Prop:=Paired λp q=>p.1=q.1/\H q.2.1=aa (.tup (p.1.map kV))/\aZ p.2 q.2.2
def KT.val{kvs:List (List Key×V)}{M:List (List Key×Addr×Value)}(r:KT H kvs M)(k:List Key):gF (fK kvs k) ((atKey M k).map (·.2)):=by
 induction r with
 |nil=>exact jx
 | @cons p q ps c h t g=>
  obtain⟨d,_,f⟩:=h
  by_cases e:p.1=k
  .have a:=d.symm.trans e;have b:atKey (q::c) k=aa q.2:=by simp[atKey,a]
   rw[vk e,b];exact f
  .have a:¬q.1=k:=λz=>e (d.trans z);have b:atKey (q::c) k=atKey c k:=by simp[atKey,a]
   rw[vm e,b];exact g
def F6{u:HO}(ok:HOk P w H h)(e:Rd H a u):gc P w H h a u:=e.ok ok
variable{kvs:List (Key×V)}
def mx(ok:HOk P w H h)(e:Rd H a (.dK kvs)):kvs.length<=be/\(a==h9)=ag/\∃L,KV kvs L/\h.DictOf (dF P w) a L:=
 show gc P w H h a (.dK kvs)from F6 ok e
def zU(ok:HOk P w H h)(e:H a=aa (.dK kvs)):kvs.length<=be/\(a==h9)=ag/\∃L,KV kvs L/\h.DictOf (dF P w) a L:=mx ok (.inl e)
variable{C:List Key}
def zV(ok:HOk P w H h)(e:H a=aa (.tup (C.map kV))):(tupleKind (dF P w)).is h C a:=by
 obtain⟨_,its,r,o,b,c,n,d⟩:=(ok a _ e);exact⟨o,its.toArray,n,b,c,d,by simpa using F5 r⟩
def vn{kvs:List (List Key×V)}(ok:HOk P w H h)(e:Rd H a (.dT kvs)):kvs.length<=be/\(a==h9)=ag /\
  ∃M,KT H kvs M/\h.DictOfH (tupleKind (dF P w)) a M:=by
 obtain⟨z,y,M,r,o,es,d,f,g,i,j,n⟩:=(F6 ok e);refine⟨z,y,M,r,o,es,d,f,g,i,j,λx b=>?_,n⟩
 have all:∀{l:List _} {m:List _},KT H l m->∀x∈m,(tupleKind (dF P w)).is h x.1 x.2.1:=by
  intro l m q
  induction q with
  |nil=>intro x b;exact nomatch b
  | @cons p q ps u c t s=>
   intro x b
   rcases bZ.mp b with e |b
   .subst e;exact zV ok (by rw[<- c.1];exact c.2.1)
   .exact s x b
 exact all r x b
abbrev nM(H:Hp)(a:Addr)(y:V)(r:Option V):Prop:=
 (∃kvs k,Rd H a (.dK kvs)/\y=kV k/\r=fK kvs k)\/∃kvs k b,Rd H a (.dT kvs)/\y=.ref b/\H b=aa (.tup (k.map kV))/\r=fK kvs k
abbrev F7(H:Hp)(a:Addr)(y v:V)(H':Hp):Prop:=
 (∃kvs k,H a=aa (.dK kvs)/\y=kV k/\kvs.length<be/\H'=upd H a (.dK (gu kvs k v))) \/
 ∃kvs k b,H a=aa (.dT kvs)/\y=.ref b/\H b=aa (.tup (k.map kV))/\kvs.length<be/\H'=upd H a (.dT (gu kvs k v))
def nM.k{k:Key}(e:H a=aa (.dK kvs)):nM H a (kV k) (fK kvs k):=.inl ⟨kvs,k,.inl e,rfl,rfl⟩
variable{v:V}
def F7.k{k:Key}(e:H a=aa (.dK kvs))(b:kvs.length<be):F7 H a (kV k) v (upd H a (.dK (gu kvs k v))):=.inl ⟨kvs,k,e,rfl,b,rfl⟩
variable{B:PNS}{J:St}{s:aL}
def Inv.big(I:Inv X B J H s):h9<s.heap.objs.size:=by
 exact Nat.lt_trans (by decide) ((I.mod.glob.keeps I.bk).lt)
variable{y:V}{u:Value}{A:dQ}{W5 Q:PRS}
def N9(t:A.units+1<cLine)(I:Inv X B J H s)(g:nM H a y (aa v))(o:aZ y u)(h:∀f s',Inv X B J H s'->aZ v f->Q f s'):
  wpAny (model X.prog X.w) A (li (.ref a) u) Q W5 s:=by
 rcases g with⟨kvs,k,e,j,l⟩ |⟨kvs,k,b,e,j,q,l⟩
 .subst j;obtain⟨z,hd,L,c,i⟩:=mx I.hok e;obtain⟨f,n,d⟩:=gF.some_of (by rw[l];exact c.val k);exact wpAny_getItem_of (rT o) i.mapOf n (h f _ (I.tok _) d)
 .subst j;cases (o);obtain⟨z,hd,M,c,i⟩:=vn I.hok e;obtain⟨f,n,d⟩:=gF.some_of (by rw[l];exact c.val k);obtain⟨p,r,m⟩:=nk.mp n;refine wpAny_getItem_heap (tupleKind_room_in1 t) (zV I.hok q) i r ?_;rw[m];exact h f _ (I.tok _) d
variable{h':Heap}{t':Nat}
def F8{c:HO}(I:Inv X B J H s)(g:Mut (H a))(f:jr a s.heap h')(e:∃q,h'.get? a=aa q)(new:gc X.prog X.w (upd H a c) h' a c):
  Inv X B J (upd H a c) {s with heap:=h',toks:=t'}:=
 I.write g (.inl rfl) (λb q d z=>(f.2 b d).trans z) e new
def zW{L:List (Key×Value)}(z:kvs.length<=be)(hd:(a==h9)=ag)(b:KV kvs L)(c:h'.DictOf (dF P w) a L):
  gc P w H' h' a (.dK kvs):=⟨z,hd,L,b,c⟩
def Oa(I:Inv X B J H s)(e:Rd H a (.dK kvs))(h:∀t s',Inv X B J H s'->Q (.int kvs.length t) s'):wpAny (model X.prog X.w) A (call (.builtin "len") [.ref a]) Q W5 s:=by
 obtain⟨z,hd,L,b,c⟩:=mx I.hok e;refine call_len_dict hd c (by rw[<- b.length];rw[c6]at z;lia) ?_;rw[<- b.length];exact h _ _ (I.tok _)
abbrev zX(i:Expr):Prop:=∀ov a,rm i ag ov a=operate [ov,a] (li ov a)
variable{prog:du}{env:Env}{value:Expr}
def Ob{slice:Expr}{pos:Pos}{T id:String}
 (l:o7 (.type T) "__getitem__"=pure (aa (.builtin id)))(m:zX slice)
 (h:wpAny (model prog w) A (eval value env) (λo c=>wpAny (model prog w) A (eval slice env) (λi a=>a.TypeIs o T/\wpAny (model prog w) A (li o i) Q W5 a) W5 c) W5 s):
  wpAny (model prog w) A (eval (.Subscript value slice pos) env) Q W5 s:=by
 refine Subscript_ (gr h (λo c f=>gr f (λi a b=>?_) λ_ _ x=>x) λ_ _ x=>x);obtain⟨j,b⟩:=b;refine aE ?_;refine aE (wpAny_specialOf j l ?_)
 have e:wpAny (model prog w) A (rm slice ag o i) (λr d=>wpAny (model prog w) A (letTemporaryGo value o r >>= λ_=>pure r) Q W5 d) W5 a:=by
  rw[m o i];exact wpAny_operating (gr b (λr d g=>aE (wpAny_letTemporaryGo (bq g))) λ_ _ x=>x)
 first
  |exact bq (aE e)
  |exact aE _
  |exact aE e
def Oc{o:Option V}(I:Inv X B J H s)(g:nM H a y o):s.TypeIs (.ref a) "dict":=by
 rcases g with⟨kvs,k,e,_,_⟩ |⟨kvs,k,b,e,_,_,_⟩
 .obtain⟨_,_,L,_,c⟩:=mx I.hok e;exact c.typeIs
 .obtain⟨_,_,M,_,c⟩:=vn I.hok e;exact c.typeIs
abbrev Od(b ty:TE):TE:=λJ H Q=>b J H λx H1=>ty J H1 λy H2=>∃a v,x=.ref a/\nM H2 a y (aa v)/\Q v H2
variable{o i:Expr}{td ty:TE}
def Oe{pos:Pos}(l:X.A.units+1<cLine)(f:PE X o td)(hi:PE X i ty)(j:zX i):PE X (.Subscript o i pos) (Od td ty):=by
 intro B s J H Q I h;refine Ob PySem.F.slot_dict_getitem.lookup j (thn (f B s J H _ I h) λu s1 ⟨x,H1,d,q,m⟩=>thn (hi B s1 J H1 _ d m) λt s2 p=>?_);obtain⟨y,H2,c,r,a,v,ex,g,n⟩:=p;subst ex;obtain rfl:u=gt a:=q;exact⟨Oc c g,N9 l c g r λz w e b=>⟨v,H2,e,b,n⟩⟩
def Of(h:Heap)(a:h9<h.objs.size):gc P w H (h.push {cls:=.type "dict",data:=.dict #[]}) h.objs.size (.dK []):=
 ⟨gg _,beq_eq_false_iff_ne.mpr (cE (cu a)),[],.nil,zn h⟩
abbrev F9:TE:=λ_ H Q=>∀p,H p=ab->Q (.ref p) (upd H p (.dK []))
def Ga{pos:Pos}:PE X (.Dict [] [] pos) F9:=λB s J H Q I h=>
 wpAny_Dict_empty ⟨.ref s.heap.objs.size,_,I.laid (λ_ _ q=>cj _ q) (bh _) (Of s.heap I.big),rfl,h _ (I.hok.fresh (bh _))⟩
structure M2(X:Cx)(o:Expr)(m:Str)(apos:Pos)(e f:Expr)(cpos:Pos):Prop where
 base:mf o m X.env (eval o X.env)=eval o X.env
 few : ((d5 cpos (bf [e,f] X.env)).all (λx=>!x.1) && (j1 cpos (j0 [] X.env)).all (λx=>x.1.isSome)
  && decide (([e,f]:LEx).length+([]:List j2).length+(if ([]:List j2).isEmpty then 0 else 1)<30))=ac
 line:(apos.endLine==cpos.line)=ac
 trees:d5 cpos (bf [e,f] X.env)=[(ag,eval e X.env),(ag,eval f X.env)]
abbrev IsD(H:Hp)(a:Addr):Prop:=(∃kvs,Rd H a (.dK kvs))\/∃kvs,Rd H a (.dT kvs)
def Og(I:Inv X B J H s)(d:IsD H a):
  s.TypeIs (.ref a) "dict" /\ (∀b,gt a=.ref b->∃c,s.heap.get? b=aa c/\c.dict=ab)/\(a==h9)=ag:=by
 rcases d with⟨kvs,e⟩ |⟨kvs,e⟩
 .obtain⟨_,hd,L,_,f⟩:=mx I.hok e;refine⟨f.typeIs,λb q=>?_,hd⟩;cases q;obtain⟨c,_,_,g,h,_⟩:=f;exact⟨c,g,h.2.1⟩
 .obtain⟨_,hd,M,_,f⟩:=vn I.hok e;refine⟨f.typeIs,λb q=>?_,hd⟩;cases q;obtain⟨c,_,_,g,h,_⟩:=f;exact⟨c,g,h.2.1⟩
variable{d:V}{r:Value}{o:Option V}
def Oh(p:A.units+1<cLine)(I:Inv X B J H s)(g:nM H a y o)(j:aZ y u)(rd:aZ d r)(h:∀m s',Inv X B J H s'->aZ (o.getD d) m->Q m s'):
  wpAny (model X.prog X.w) A (call (.builtin "dict.get") [.ref a,u,r]) Q W5 s:=by
 rcases g with⟨kvs,k,e,i,l⟩ |⟨kvs,k,b,e,i,n,l⟩
 .subst i;obtain⟨z,hd,L,c,f⟩:=mx I.hok e;refine call_meetsIn zk f.typeIs PySem.F.entry_dict_get (PySem.F.args_dict_get_3 _ _ _) (meets_dict_get_default _ a (rT j) hd r) ⟨_,f.mapOf,h _ _ (I.tok _) ?_⟩;rw[l];exact(c.val k).getD rd
 .subst i;cases (j);obtain⟨z,hd,M,c,f⟩:=vn I.hok e;refine call_meetsIn zk f.typeIs PySem.F.entry_dict_get (PySem.F.args_dict_get_3 _ _ _) (meetsH_dict_get_default _ a b hd r) ⟨tupleKind_room_in1 p,k,M,zV I.hok n,f,h _ _ (I.tok _) ?_⟩;rw[l];exact(c.val k).getD rd
abbrev Oi(td ty tx:TE):TE:=λJ H Q=>td J H λx H1=>∃a,x=.ref a/\IsD H1 a/\ty J H1 λy H2=>tx J H2 λz b=>∃o,nM b a y o/\Q (o.getD z) b
variable{o e f:Expr}{apos cpos:Pos}
def Oj{tx:TE}(t:X.A.units+1<cLine)(r:PE X o td)(p:PE X e ty)(q:PE X f tx)(m:M2 X o "get" apos e f cpos):PE X (.Call (.Attribute o "get" apos) [e,f] [] cpos) (Oi td ty tx):=by
 intro B s J H Q I h;refine wpAny_Call_method m.base m.few m.line zj zk PySem.F.type_dict_get (thn (r B s J H _ I h) λu s1 E=>?_);obtain⟨x,H1,c,G,a,ex,d,v⟩:=E;subst ex;obtain rfl:u=gt a:=G;obtain⟨N,T,_⟩:=Og c d;refine⟨N,T,?_⟩;rw[m.trees]
 refine ze rfl (zf (lj (thn (p B s1 J H1 _ c v) λY s2 ⟨y,H2,j,L,w⟩ =>
  lj (thn (q B s2 J H2 _ j w) λU s3 ⟨z,i,l,M,ov,g,C⟩=>u5 ?_))))
 exact Oh t l g L M λw' s4 n b=>⟨_,i,n,b,C⟩
def Ol(I:Inv X B J H s)(e:Rd H a (.dK kvs))(h:∀p s',H p=ab->Inv X B J (upd H p (.dK kvs)) s'->Q (.ref p) s'):wpAny (model X.prog X.w) A (call (.type "dict") [.ref a]) Q W5 s:=by
 obtain⟨z,hd,L,c,g⟩:=mx I.hok e;refine kt_call_dict hd g (by rw[<- c.length];exact z) λh' d i=>?_;exact h _ _ (I.hok.fresh (bh _)) (I.laid (λb q f=>((i.2 b (cu (bT f))).trans (cj _ f))) (bh _) (zW z (beq_eq_false_iff_ne.mpr (cE (cu I.big))) c d))
section
variable{κ:Type}[DecidableEq κ]
end
end L2
set_option maxHeartbeats 4000000
namespace L2
open List
open PySem
def zY{env:Env}(f:(Str×gZ)->List (Str×Addr)->Sem (ForInStep (List (Str×Addr))))
 (i:∀n k r,k≠gE->f (n,k) r=pure (.yield r))
 (j:∀n r c,env.cells.lookup n=aa c->f (n,.free) r=pure (.yield ((n,c)::r))):
  ∀(l:List (Str×gZ)) (a:List (Str×Addr)),(∀x∈l,x.2=.free->∃c,env.cells.lookup x.1=aa c) ->
   (∀x c,a.lookup x=aa c->env.cells.lookup x=aa c) ->
   ∃cl,forIn l a f=(pure cl:Sem _)/\(∀x c,cl.lookup x=aa c->env.cells.lookup x=aa c) /\
    (∀x,((∃c,a.lookup x=aa c)\/(x,gE)∈l)->∃c,cl.lookup x=aa c)
 | [],a,_,ha=>⟨a,rfl,ha,λx d=>d.elim id (λz=>nomatch z)⟩
 |(n,k)::l,a,hl,ha=>by
  have b:=λx d=>hl x (cD _ d)
  by_cases s:k=.free
  .subst s;obtain⟨c,p⟩:=hl _ bB rfl;have q:=p
   have h:∀x g,((n,c)::a).lookup x=aa g->env.cells.lookup x=aa g:=λx g d=>by
    grind
   obtain⟨cl,e,m,o⟩:=zY f i j l _ b h
   grind
  .obtain⟨cl,e,m,o⟩:=zY f i j l a b ha
   grind
variable{scope:Scope}{env:Env}
def Gb(h:∀x∈scope.names,x.2=.free->∃c,env.cells.lookup x.1=aa c):
  ∃cl,closureFor scope env=pure cl/\(∀x c,cl.lookup x=aa c->env.cells.lookup x=aa c)/\(∀x,(x,gE)∈scope.names->∃c,cl.lookup x=aa c):=by
 obtain ⟨cl,e,b,d⟩:=zY (λx r=>(match x with
   |(name,kind)=>if (kind==gE)=ac then (do let a <- cellOf env name;pure (oU ((name,a)::r))) else (pure (oU r):Sem _)))
  (λn k r g=>by
   have:(k==gE)=ag:=by simpa using g
   simp only[this,lZ,if_false])
  (λn r c f=>by
   simp only[beq_self_eq_true,if_true,cellOf,f,pure_bind])
  scope.names [] h (λx c z=>by nomatch z)
 refine⟨cl,?_,b,λx i=>d x (.inr i)⟩;refine(congrArg _ ?_).trans ((congrArg (λt=>t >>= pure) e).trans (pure_bind _ _));rfl
nonrec abbrev E00:Value->aL->Prop:=λ_ _=>False
variable{prog:du}{w:World}{A:dQ}{R:Result->aL->Prop}{s:aL}{b7 iter:Expr}{cc:LEx}
def Om{a:Expr}{pos:Pos}{it p:Value}(I:Nat->aL->Prop)
 (y:∀ n s,I n s->wpAny (model prog w) A (pyNext it) (λr b=>match r with
   |none=>R (.ok .next) b
   | some v=>wpAny (model prog w) A (letOwnedTupleGo a it v) (λ_ d=>wpAny (model prog w) A (iE a env v) (λ_ i =>
     wpAny (model prog w) A (forIn cc ac λc r=>if r=ac then do let ok <- isTrue c env (eval c env); pure (oU ok) else pure (oU r)) (λok e =>
      if ok=ac then wpAny (model prog w) A (eval b7 env) (λx j =>
       wpAny (model prog w) A (call (.builtin "list.append") [p,x]) (λ_ l=>∃m,m<n/\I m l) (notedBy (model prog w) A env λx s'=>R (.error x) s') j) (notedBy (model prog w) A env λx s'=>R (.error x) s') e
      else ∃m,m<n/\I m e) (notedBy (model prog w) A env λx s'=>R (.error x) s') i) (notedBy (model prog w) A env λx s'=>R (.error x) s') d) (notedBy (model prog w) A env λx s'=>R (.error x) s') b) (notedBy (model prog w) A env λx s'=>R (.error x) s') s)
 (n:Nat)(h:I n s):
  g3 (model prog w) A (.compLoop (.ListComp b7 [⟨a,iter,cc,0⟩] scope pos) 0 it p env) R s:=by
 refine codeAny_loop rfl I (λn s z=>?_) n h;refine wpAny_noted ?_;refine aE (uV (aE (gr (y n s z) (λr b f=>?_) λ_ _ h'=>h')))
 cases r with
 |none=>exact bq f
 |some v=>
  refine aE (gr f (λ_ d o=>?_) λ_ _ h'=>h');refine aE (gr o (λ_ i q=>aE (gr q (λok e g=>?_) λ_ _ h'=>h')) λ_ _ h'=>h')
  cases ok with
  |false=>exact bq ⟨rfl,g⟩
  |true=>
   exact aE (aE (gr g (λx j t=>aE (gr t (λ_ l u=>bq (bq ⟨rfl,u⟩)) λ_ _ h'=>h')) λ_ _ h'=>h'))
open PySem.Spec PyProof.Rows
nonrec def Cx.comp(X:Cx)(scope:Scope)(Nc:LSt)(cl:List (Str×Addr))(W4:Addr)(ex:LAd)(b:aL)(a:Hp):Cx:=
 {X with N:=Nc,s₀:=b,H₀:=a,env:=compEnvC scope cl W4 X.env,outer:=X.stack,ex:=ex,fn:=λ_=>ag,pn:=[],xe:=E00}
def zZ{env:Env}:∀{names:List (Str×gZ)} {x:Str},names.lookup x=aa .free ->
  (names.map λ(n,k)=>if (k==gE && env.scope.kind==.function && env.kindOf n==aa .cell) then (n,nE) else (n,k)).lookup x=aa .cell \/
  (names.map λ(n,k)=>if (k==gE && env.scope.kind==.function && env.kindOf n==aa .cell) then (n,nE) else (n,k)).lookup x=aa .free
 | [],_,h=>by simp at h
 |(n,k)::r,x,h=>by
  have a:=@zZ env r x
  grind
def z5{env:Env}{a:gZ}(b:a=.cell\/a=.free):∀{names:List (Str×gZ)} {x:Str},
  (names.map λ(n,k)=>if (k==gE && env.scope.kind==.function && env.kindOf n==aa .cell) then (n,nE) else (n,k)).lookup x=aa a ->
  (x,gE)∈names\/(x,nE)∈names
 | [],_,h=>by simp at h
 |(n,k)::r,x,h=>by
  have h':List.lookup x ((if _=ac then _ else _)::_)=aa a:=h
  cases c:x==n with
  |true=>
   have e:=eq_of_beq c;subst e;split at h'
   .rename_i d
    have g:k=.free:=by
     rw[cV,cV]at d;exact eq_of_beq d.1.1
    subst g;exact .inl bB
   .simp only[oX,c]at h';have e:=cN h';subst e
    rcases b with z |z
    .subst z;exact .inr bB
    .subst z;exact .inl bB
  |false=>
   have f:(r.map λ(n,k)=>if (k==gE && env.scope.kind==.function && env.kindOf n==aa .cell) then (n,nE) else (n,k)).lookup x=aa a:=by
    split at h' <;> (rw[oX,c]at h';exact h')
   rcases(@z5 env a b r x) f with z |z
   .exact .inl (cD _ z)
   .exact .inr (cD _ z)
abbrev kf(scope:Scope)(outer:List (Str×gZ))(N Nc:LSt)(k:Nat)(js:LN):Bool:=
 scope.names.all (λx=>(x.2 != .free || outer.lookup x.1==aa .cell || outer.lookup x.1==aa .free) && x.2 != .cell && (x.2 != .local || scope.names.lookup x.1==aa .local)) &&
 scope.kind==.function && Nc.length==k+js.length &&
 (cW js.length).all (λi=>match Nc[k + i]?,js[i]? with
  |some x,aa W6=>N[W6]?==aa x && scope.names.lookup x==aa .free
  | _,_=>ag)
structure pw(scope:Scope)(outer:List (Str×gZ))(N Nc:LSt)(k:Nat)(js:LN):Prop where
 free:∀x∈scope.names,x.2=.free->outer.lookup x.1=aa .cell\/outer.lookup x.1=aa .free
 nocell:∀x∈scope.names,x.2≠.cell
 loc:∀x∈scope.names,x.2=.local->scope.names.lookup x.1=aa .local
 kind:scope.kind=.function
 len:Nc.length=k+js.length
 at':∀i W6,js[i]?=aa W6->∃x,Nc[k+i]?=aa x/\N[W6]?=aa x/\scope.names.lookup x=aa .free
variable{N Nc:LSt}{k:Nat}{js:LN}
def pw.of{outer:List (Str×gZ)}(h:kf scope outer N Nc k js=ac):pw scope outer N Nc k js:=by
 unfold kf at h;rw[cV,cV,cV]at h;obtain⟨⟨⟨b,d⟩,f⟩,c⟩:=h;rw[all_eq_true]at b c;refine⟨λx a e=>?_,λx a e=>?_,λx a e=>?_,eq_of_beq d,eq_of_beq f,λi W6 e=>?_⟩
 .have:=b x a;simp only[cV,gV,bne_iff_ne,beq_iff_eq]at this
  rcases this.1.1 with(z |z) |z
  .exact absurd e z
  .exact .inl z
  .exact .inr z
 .have:=b x a;simp only[cV,bne_iff_ne]at this;exact this.1.2 e
 .have:=b x a;simp only[cV,gV,bne_iff_ne,beq_iff_eq]at this
  rcases this.2 with z |z
  .exact absurd e z
  .exact z
 .have hi:=(dD.mp e).1;have:=c i (l7.mpr hi);rw[e]at this
  cases q:Nc[k+i]? with
  |none=>simp only[q]at this;nomatch this
  |some x=>
   rw[q]at this;simp only[cV,beq_iff_eq]at this;exact⟨x,rfl,this.1,this.2⟩
abbrev ig(k:Nat)(js:LN)(J:St):St:=gm k ab++js.map λW6=>(J[W6]?).getD ab
abbrev PTs(X:Cx)(cc:LEx)(t:TT):Prop:=
 ∀(B:PNS) (s:aL) (J:St) (H:Hp) (Q:Bool->Hp->Prop),Inv X B J H s->t J H Q ->
  wpAny (model X.prog X.w) X.A (forIn cc ac λc r=>if r=ac then do let ok <- isTrue c X.env (eval c X.env);pure (oU ok) else pure (oU r)) (TP X B J Q) X.xe s
abbrev On:TT:=λ_ H Q=>Q ac H
variable{X:Cx}
def Oo:PTs X [] On:=λ_ _ _ H _ I h=>wpAny_tests_nil ⟨H,I,h⟩
def Gd{c:Expr}{t:TT}(h:PT X c t):PTs X [c] t:=λB s J H Q I q=>wpAny_tests_one (h B s J H Q I q)
abbrev z6(W2:It)(g:TG)(tt:TT)(te:TE)(h:St)(j:Hp)(Q:VK):Prop:=
 ∃W:Nat->Nat->LVv->St->Hp->Prop,(∃m,W 0 m [] h j)/\∀i m c σ' H',W i m c σ' H' ->
  (W2.stop i H'/\c.length<=be/\∀D,j D=ab->H' D=ab->Q (.ref D) (upd H' D (.lst c))) \/
  (W2.go i H'/\c.length<=be/\∃ N : LVv->St->Hp->Prop,(∀ e f d,N e f d->∃ n,n < m/\W (i + 1) n e f d) /\
   ∀x d,W2.yld i H' x d->g x σ' d λa o=>tt a o λb l=>if b=ac then te a l λy p=>N (c++[y]) a p else N c a l)
abbrev pz(k:Nat)(js:LN)(b:TI)(g:TG)(tt:TT)(te:TE):TE:=λJ H Q=>b J H λW2 a=>z6 W2 g tt te (ig k js J) a Q
nonrec def Cx.to(X:Cx)(pn:PNS)(xe:PRS):Cx:={X with pn:=pn,xe:=xe}
variable{Y:Cx}{xe:PRS}{B:PNS}{J:St}{H:Hp}
def Ge(I:Inv Y B J H s):Inv {Y with xe:=xe} B J H s:=
 ⟨⟨I.ok.mod,I.ok.kind,I.ok.glob,I.ok.blt,I.ok.above,I.ok.inj,I.ok.has,I.ok.cab,I.ok.hd,I.ok.frames,I.ok.stk,I.ok.exf,I.ok.bs,I.ok.bsz,I.ok.noex,I.ok.exfs,I.ok.funs,I.ok.frf⟩,I.os,I.bare,I.base,I.loc,I.cell,I.free,I.freeC,I.pin,I.hok,I.len⟩
def Gf(I:Inv {Y with xe:=xe} B J H s):Inv Y B J H s:=
 ⟨⟨I.ok.mod,I.ok.kind,I.ok.glob,I.ok.blt,I.ok.above,I.ok.inj,I.ok.has,I.ok.cab,I.ok.hd,I.ok.frames,I.ok.stk,I.ok.exf,I.ok.bs,I.ok.bsz,I.ok.noex,I.ok.exfs,I.ok.funs,I.ok.frf⟩,I.os,I.bare,I.base,I.loc,I.cell,I.free,I.freeC,I.pin,I.hok,I.len⟩
variable{e:Expr}{t:TE}
def PE.to0(h:PE {Y with pn:=[],xe:=E00} e t):PE {Y with pn:=[],xe:=xe} e t:=λB s J H Q I q=>
 gr (h B s J H Q (Gf I) q) (λu s' ⟨v,H',a,r,b⟩=>⟨v,H',Ge a,r,b⟩) λ_ _ z=>z.elim
nonrec def kg(us:LVa)(n:Nat):Obj:={cls:=.type "list",data:=.seq us.toArray n}
variable{tg:Expr}{g:TG}{tt:TT}{te:TE}{H2:Hp}{s2:aL}{it:Addr}{fp:LAd}{tn:Nat->Heap->Prop}{W2:It}{cl:List (Str×Addr)}{Q:VK}{RR:Value->Addr->Result->aL->Prop}{W5:PRS}
def Op{pos:Pos}{PX:Cx->Prop}
 (hc:X.calm=ac)(ck:pw scope X.env.scope.names X.N Nc k js)
 (hg:∀cl W4 ex C t,PG (X.comp scope Nc cl W4 ex C t) tg g)(ht:∀cl W4 ex C t,PTs (X.comp scope Nc cl W4 ex C t) cc tt)(he:∀cl W4 ex C t xe,PX ((X.comp scope Nc cl W4 ex C t).to [] xe)->PE ((X.comp scope Nc cl W4 ex C t).to [] xe) b7 te)
 (a1:∀x c,cl.lookup x=aa c->X.env.cells.lookup x=aa c)(a2:∀x,(x,gE)∈scope.names->∃c,cl.lookup x=aa c)
 (s:Inv X B J H2 s2)(T:mw X.prog X.w X.K tg W2 fp it tn)(st2:tn 0 s2.heap)(f2:∀b∈fp,ib X B H2 b)(hW:z6 W2 g tt te (ig k js J) H2 Q)
 (hRR:∀(D W4:Addr) (s':aL) (H':Hp),Inv X B J H' s'->(∃m,s'.heap.Ns W4 m)->ib X B H' W4->Q (.ref D) H'->RR (.ref D) W4 (.ok .next) s')
 (hPX:∀D W4,s2.heap.objs.size=D->D<W4->(∀b∈frs X.stack,b<D)->PX ((X.comp scope Nc cl W4 fp s2 H2).to [] (notedBy (model X.prog X.w) X.A (compEnvC scope cl W4 X.env) λx s'=>RR (.ref D) W4 (.error x) s'))):
  wpAny (model X.prog X.w) X.A (newList []) (λacc s₃=>wpAny (model X.prog X.w) X.A (newFunctionEnv scope X.env.globals cl [] X.env.qual ab .none (aa X.env)) (λcenv s₄ =>
   g3 (model X.prog X.w) X.A (.compStart (.ListComp b7 [⟨tg,iter,cc,0⟩] scope pos) 0 (.ref it) acc {cenv with scope:=relabel scope X.env}) (RR acc cenv.locals) s₄) W5 s₃) W5 s2:=by
 obtain⟨W,⟨m0,w0⟩,turn⟩:=hW;refine wpAny_newObj_type (wpAny_newFunctionEnv ck.nocell (by intro y hy;simp at hy) (λI j h=>?_) ck.kind);dsimp only at j h ⊢;generalize hP:s2.heap.push {cls:=.type "list",dict:=ab,data:=.seq ([]:LVa).toArray}=P at j h ⊢;generalize hD:s2.heap.objs.size=D at hP j h ⊢;have hCs:P.objs.size=D+1:=by rw[<- hP,rB,hD]
 generalize hC:P.objs.size=W4 at hCs j h ⊢;have H:D<W4:=by rw[hCs];exact o0 _
 have hDC:D≠W4:=cu H;have below:∀b o,s2.heap.get? b=aa o->b<D:=λb o e=>hD▸bT e
 have U:∀b o,s2.heap.get? b=aa o->I.get? b=aa o:=λb o e=>by
  have f:=below b o e;exact h.extBut b o (cu (Nat.lt_trans f H)) (cj _ (hP▸cj _ e))
 have hDo:I.get? D=aa (kg [] 0):=h.extBut _ _ hDC (cj _ (by rw[<- hP,<- hD];exact eW _ rfl));have Hn:∀b,D<=b->H2 b=ab:=λb f=>s.hok.fresh (by lia);have fpo:∀b∈fp,b<D:=λb f=>by obtain⟨o,e,_⟩:=T.obj 0 _ st2 b f;exact below b o e
 have clo:∀x c,cl.lookup x=aa c->c<D:=λx c e=>by
  obtain⟨v,o,ho,_⟩:=s.cell x c (a1 x c e);exact below c o ho
 have stko:∀b∈frs X.stack,b<D:=λb f=>by
  obtain⟨_,o,ho,_⟩:=s.stack.mem f;exact below b o ho
 let Y:Cx:=X.comp scope Nc cl W4 fp s2 H2
 have yk:Y.Ok:=by
  refine⟨s.ok.mod,ck.kind,s.ok.glob,s.ok.blt,?_,?_,?_,?_,s.ok.hd,s.ok.frames,.inl rfl,?_,s.bs,?_,?_,?_,s.stack,s.stkFree⟩
  .show s2.heap.objs.size<=W4;lia
  .exact λx y c h1 h2=>s.ok.inj x y c (a1 x c h1) (a1 y c h2)
  .intro x hx
   have:(x,gE)∈scope.names\/(x,nE)∈scope.names:=by
    rcases hx with hx |hx
    .exact z5 (.inl rfl) hx
    .exact z5 (.inr rfl) hx
   rcases this with z |z
   .exact a2 x z
   .exact absurd rfl (ck.nocell _ z)
  .exact λx c z=>nomatch z
  .intro b f;refine⟨?_,λx c e=>?_⟩
   .exact cu (Nat.lt_trans (fpo b f) H)
   .exact(f2 b f).2.2.2.2.1 x c (a1 x c e)
  .exact cP s.ok.bsz s.sz
  .intro b o e f
   rcases(f2 b f).2.2.2.1 with z |z
   .exact s.ok.noex b o e z
   .exact absurd (f9 (bT e) (cP s.ok.bsz z)) (jZ _)
  .intro b f z
   rcases bZ.mp (s.stkSub b z)with e |e
   .exact(f2 b f).2.1 e
   .exact(f2 b f).2.2.1 e
 have I4:Inv Y [(D,kg [] 0)] (ig k js J) H2 {s2 with heap:=I,toks:=s2.toks+([]:List (Str×Value)).length}:=by
  refine⟨yk,rfl,s.bare,Un.kept U,⟨_,j,λi x v e1 E e3=>?_⟩,λx c e=>?_,Hn W4 (by lia),λx c e=>s.freeC x c (a1 x c e),λp G=>?_,s.hok.kept U,?_⟩
  .have e1:Nc[i]?=aa x:=e1;unfold ig at E
   have hik:k<=i:=by
    rcases Nat.lt_or_ge i k with z |z
    .rw[m8 (by simpa using z),yT]at E;simp[z]at E
    .exact z
   rw[l5 (by simpa using hik),gf]at E;simp only[nc]at E
   cases q:js[i-k]? with
   |none=>rw[q]at E;cases E
   |some W6=>
    rw[q]at E;obtain⟨x',q1,q2,q3⟩:=ck.at' _ _ q;rw[show k+(i-k)=i by lia,e1]at q1;cases q1;have E:(J[W6]?).getD ab=aa v:=cN E
    have e2':J[W6]?=aa (aa v):=by
     cases z:J[W6]? with
     |none=>rw[z]at E;nomatch E
     |some y=>rw[z]at E;rw[show y=aa v from E]
    have hmem:(x,gE)∈scope.names:=by
     have:∀l:List (Str×gZ),l.lookup x=aa .free->(x,gE)∈l:=by
      intro l
      induction l with
      |nil=>intro z;nomatch z
      |cons a l ih=>
       intro z;obtain⟨n,kk⟩:=a;simp only[oX]at z
       cases f:x==n with
       |true=>
        rw[f]at z;cases z
        rw[eq_of_beq f];exact bB
       |false=>rw[f]at z;exact cD _ (ih z)
     exact this _ q3
    have hout:X.env.kindOf x=aa .cell\/X.env.kindOf x=aa .free:=ck.free _ hmem rfl;obtain⟨m,hn,hl⟩:=s.loc
    have vis:Vis X.env.scope x:=by
     rcases hout with z |z
     .exact .inr (.inl z)
     .exact .inr (.inr z)
    obtain⟨u,r,l⟩:=hl W6 x v q2 e2' vis;refine⟨u,r,.inr ⟨zZ q3,?_⟩⟩
    rcases l with⟨z,_⟩ |⟨_,c,hcl,hcell⟩
    .rcases hout with y |y <;> (rw[y]at z;nomatch z)
    .obtain⟨c',hc'⟩:=a2 x hmem;have:=a1 x c' hc';rw[hcl]at this;cases this;exact⟨c,hc',hcell.keeps U⟩
  .obtain⟨v,z⟩:=s.cell x c (a1 x c e);exact⟨v,z.keeps U⟩
  .have G:p∈[(D,kg [] 0)]:=(cM.mp G).elim (λz=>nomatch (show p∈([]:PNS)from z)) id;have G:=bi.mp G;subst G;refine⟨hDo,Hn D (bh _),hDC,λz=>?_,λv z=>by nomatch z⟩;exact absurd (stko D z) (jZ _)
  .show(ig k js J).length=Nc.length;rw[ck.len];simp[ig]
 have st1:=T.keep 0 _ _ st2 λb _ o e=>U b o e
 have fpY:∀{H':Hp} {p:PNS},(∀q∈p,q.1=D)->(∀b∈fp,H' b=ab)->∀b∈fp,ib Y p H' b:=λ{H' p} G hn b f=>by
  refine⟨hn b f,(yk.exf b f).1,yk.exfs b f,.inl f,λx c e=>(yk.exf b f).2 x c e,λq hq=>?_⟩;rw[G q hq];exact ma (fpo b f)
 let xe:Value->aL->Prop:=notedBy (model X.prog X.w) X.A (compEnvC scope cl W4 X.env) λx s'=>RR (.ref D) W4 (.error x) s'
 have G:=hPX D W4 hD H stko
 have loop:g3 (model X.prog X.w) X.A (.compLoop (.ListComp b7 [⟨tg,iter,cc,0⟩] scope pos) 0 (.ref it) (.ref D) (compEnvC scope cl W4 X.env)) (RR (.ref D) W4) {s2 with heap:=I,toks:=s2.toks+([]:List (Str×Value)).length}:=by
  refine Om (λn s'=>∃i ys us nn σ' H',Inv Y [(D,kg us nn)] σ' H' s'/\tn i s'.heap/\(∀b∈fp,H' b=ab)/\ba ys us/\W i n ys σ' H') ?_ m0
   ⟨0,[],[],0,ig k js J,H2,I4,st1,λb f=>(f2 b f).1,.nil,w0⟩
  rintro n s3 ⟨i,ys,us,nn,σ3,H3,I3,st3,fr3,rv,w3⟩
  have one:∀q∈[(D,kg us nn)],q.1=D:=λq hq=>by
   have:q=(D,kg us nn):=by simpa using hq
   rw[this]
  rcases turn i n ys σ3 H3 w3 with⟨stop,hz,qn⟩ |⟨go,hz,N,hN,step⟩
  .refine thn (T.done Y rfl rfl rfl hc i _ s3 σ3 H3 _ I3 (fpY one fr3) st3 stop) λr s4 ⟨hr,I5⟩=>?_;subst hr;obtain⟨pD,nD,_,_,_⟩:=I5.pin (D,kg us nn) (by simp);have bs:=I5.base;have h2D:∀b o,H2 b=aa o->b≠D:=λb o e z=>by rw[z,Hn D (bh _)]at e;nomatch e
   have I6:Inv X B J (upd H3 D (.lst ys)) s4:=by
    refine s.call' (ch:=fp) I5.os ⟨bs.keep,bs.slot,λb o e n hx=>?_,bs.there,λb M e=>?_,λb o u e=>?_,λb ps e=>?_⟩ (λb u e=>?_) I5.bare λb f=>?_
    .rw[bG (cu (below b o e))];exact bs.free b o e n hx
    .rw[bG (h2D b _ e)];exact bs.tups b M e
    .rw[bG (h2D b _ e)];exact bs.frzs b o u e
    .rw[bG (h2D b _ e)];exact bs.tbls b ps e
    .by_cases f:b=D
     .subst f;rw[bL]at e;cases e;exact⟨hz,us,nn,rv,pD⟩
     .rw[bG f]at e;exact(I5.hok b u e).stay (λc v _ q=>q) (λc q=>by rw[bG (g6 q nD)];exact q) λc M q=>by rw[bG (g6 q nD)];exact q
    .obtain⟨_,f1,_,f3,f4,f5⟩:=f2 b f;exact⟨f3,f1,f4,f5⟩
   obtain⟨m,hn,_⟩:=I5.loc;refine hRR D W4 s4 _ I6 ⟨m,hn⟩ (s.fpOk (by lia) ?_) (qn D (Hn D (bh _)) nD);rw[bG hDC.symm];exact I5.free
  .refine thn (T.item Y rfl rfl rfl hc i _ s3 σ3 H3 _ I3 (fpY one fr3) st3 go) λr s4 q_=>?_;obtain⟨u,hr,h4⟩:=q_;subst hr;refine thn h4 λ_ s5 q_=>?_;obtain⟨x,H5,I5,r5,y5,st5,fr5⟩:=q_;have I5':=I5.pinned (fpY one fr5) (T.obj _ _ st5);refine gr (hg cl W4 fp s2 H2 _ s5 σ3 H5 x u _ I5' r5 (step x H5 y5)) (λ_ s6 ⟨L,H6,I6,q6⟩=>?_) λ_ _ z=>z.elim;refine gr (ht cl W4 fp s2 H2 _ s6 L H6 _ I6 q6) (λb s7 ⟨H7,I7,q7⟩=>?_) λ_ _ z=>z.elim
   have kp:∀{H8:Hp} {s8:aL},Inv Y ([(D,kg us nn)]++vd fp s5.heap) L H8 s8->tn (i+1) s8.heap/\(∀b∈fp,H8 b=ab):=λ{H8 s8} I8=>by
    refine⟨T.keep _ _ _ st5 λb f o e=>(I8.pin (b,o) (h7 _ (h7 _ (rG f e)))).1,λb f=>?_⟩;obtain⟨o,e,d⟩:=T.obj _ _ st5 b f;exact(I8.pin (b,o) (h7 _ (h7 _ (rG f e)))).2.1
   cases b with
   |false=>
    obtain⟨m',hm,w7⟩:=hN _ _ _ q7;obtain⟨st7,fr7⟩:=kp I7
    exact⟨m',hm,i+1,ys,us,nn,L,H7,I7.unpinned,st7,fr7,rv,w7⟩
   |true=>
    refine thn (he cl W4 fp s2 H2 xe G _ s7 L H7 _ (Ge I7) q7) λuy s8 q_=>?_;obtain⟨y,H8,I8',r8,q8⟩:=q_;have I8:=Gf I8';obtain⟨m',hm,w8⟩:=hN _ _ _ q8;obtain⟨st8,fr8⟩:=kp I8;obtain⟨pD,nD,pC,pF,_⟩:=I8.pin (D,kg us nn) (by simp);have hl:=rv.length
    refine wpAny_list_append_plain (items:=us.toArray) ⟨nn,pD⟩ (λh' hl' sb=>?_) (by simp only[size_toArray] <;> lia)
    obtain⟨n',e'⟩:=hl';have I8n:Inv Y [] L H8 s8:=I8.pins_of (λ_ z=>nomatch z);have I9:=I8n.turned (t':=s8.toks) (it:=D) (λb o f e=>(sb.2 b f).trans e) nD pC (.inr (by show s2.heap.objs.size<=D;lia)) (λx c e=>cu (clo x c e)) (λp G=>nomatch G);refine⟨m',hm,i+1,ys++[y],us++[uy],n',L,H8,I9.pins_of (λp G=>?_),?_,fr8,rv.append (.cons r8 .nil),w8⟩
    .have G:p=(D,kg (us++[uy]) n'):=by simpa using G
     subst G;refine⟨?_,nD,pC,pF,λv z=>by nomatch z⟩;have E:=e';rw[E];simp
    .exact T.keep _ _ _ st8 λb f o e=>(sb.2 b (cu (fpo b f))).trans e
 exact codeAny_compStart_list loop (T.self X.A 0 _ _ _ st1 loop)
def Gg{pos:Pos}
 (t:X.calm=ac)(q:pw scope X.env.scope.names X.N Nc k js)
 (v:∀cl W4 ex d a,PG (X.comp scope Nc cl W4 ex d a) tg g)(y:∀cl W4 ex d a,PTs (X.comp scope Nc cl W4 ex d a) cc tt)(u:∀cl W4 ex d a,PE (X.comp scope Nc cl W4 ex d a) b7 te)
 (o:∀x c,cl.lookup x=aa c->X.env.cells.lookup x=aa c)(p:∀x,(x,gE)∈scope.names->∃c,cl.lookup x=aa c)
 (n:Inv X B J H2 s2)(T:mw X.prog X.w X.K tg W2 fp it tn)(l:tn 0 s2.heap)(r:∀b∈fp,ib X B H2 b)(s:z6 W2 g tt te (ig k js J) H2 Q)
 (j:∀(D W4:Addr) (s':aL) (H':Hp),Inv X B J H' s'->(∃m,s'.heap.Ns W4 m)->ib X B H' W4->Q (.ref D) H'->RR (.ref D) W4 (.ok .next) s'):
  wpAny (model X.prog X.w) X.A (newList []) (λf h=>wpAny (model X.prog X.w) X.A (newFunctionEnv scope X.env.globals cl [] X.env.qual ab .none (aa X.env)) (λe i =>
   g3 (model X.prog X.w) X.A (.compStart (.ListComp b7 [⟨tg,iter,cc,0⟩] scope pos) 0 (.ref it) f {e with scope:=relabel scope X.env}) (RR f e.locals) i) W5 h) W5 s2:=
 Op (PX:=λ_=>True) t q v y (λcl W4 ex d a xe _=>PE.to0 (u cl W4 ex d a)) o p n T l r s j λ_ _ _ _ _=>trivial
variable{wi:TI}
def Gh{pos:Pos}(k:Nat)(js:LN)(Nc:LSt)(U:X.calm=ac)(hi:PI X tg iter wi)
 (hg:∀cl W4 ex c a,PG (X.comp scope Nc cl W4 ex c a) tg g)(ht:∀cl W4 ex c a,PTs (X.comp scope Nc cl W4 ex c a) cc tt)(Y:∀cl W4 ex c a,PE (X.comp scope Nc cl W4 ex c a) b7 te)
 (d:kf scope X.env.scope.names X.N Nc k js=ac:=by rfl)(hs:∀x,iD iter X.env x=pure x:=by intro _;rfl):
  PE X (.ListComp b7 [⟨tg,iter,cc,0⟩] scope pos) (pz k js wi g tt te):=by
 intro B s J H Q I h;have d:=pw.of d;obtain⟨cl,f,p,r⟩:=Gb λx hx e=>I.ok.has x.1 (d.free x hx e);refine wpAny_comprehension_free rfl hs f d.kind d.loc (thn (hi B s J H _ I h) λv s1 E=>thn E λitv s2 G=>?_);obtain⟨it,fp,tn,W2,H2,e,n,T,j,w,L⟩:=G;subst e;refine Gg U d hg ht Y p r n T j w L λD W4 s' H' l ⟨m,hn⟩ C q=>?_;obtain⟨t,u,_,y,z,A⟩:=C;exact⟨m,hn,λh' i=>⟨.ref D,H',l.turned (λb o M e=>(i.2 b M).trans e) t u y z A,rfl,q⟩⟩
variable{i:Nat}{x:Str}{bb b5:Pos}
def vo{pos:Pos}(k:Nat)(js:LN)(Nc:LSt)(hN:X.N.Nodup)(p:X.N[i]?=aa x)(u:Loc X.env.scope x)(hc:X.calm=ac)(hi:PI X tg iter wi)
 (hg:∀cl W4 ex d c,PG (X.comp scope Nc cl W4 ex d c) tg g)(ht:∀cl W4 ex d c,PTs (X.comp scope Nc cl W4 ex d c) cc tt)(he:∀cl W4 ex d c,PE (X.comp scope Nc cl W4 ex d c) b7 te)
 (t:fo (.ListComp b7 [⟨tg,iter,cc,0⟩] scope pos) (aa (.Name x bb)) b5.line X.env=pure ac:=by rfl)
 (f:kf scope X.env.scope.names X.N Nc k js=ac:=by rfl)(hs:∀x,iD iter X.env x=pure x:=by intro _;rfl)
 (hf:LcF X x:=by first |exact .inl rfl |exact .inr rfl |assumption):
  PS X (.Assign [.Name x bb] (.ListComp b7 [⟨tg,iter,cc,0⟩] scope pos) b5) (mr (pz k js wi g tt te) (mq i)):=by
 intro B s J H D I h;have f:=pw.of f;rw[exec_Assign_Name_used _ _ _ _ t];refine aE (uV (aE ?_));obtain⟨cl,n,L,M⟩:=Gb λx u e=>I.ok.has x.1 (f.free x u e)
 refine aE (gr (wpAny_comprehension_free rfl hs n f.kind f.loc
  (thn (hi B s J H _ I h) λv s1 h1=>thn h1 λitv s2 h2=>?_)) (λ_ s' hq=>bq (bq hq)) λ_ _ e=>e)
 obtain⟨it,fp,tn,W2,H2,e,G,T,w,U,hW⟩:=h2;subst e;refine Gg hc f hg ht he L M G T w U hW λC W4 s' H' E ⟨m,hn⟩ fC q=>?_;obtain⟨Q,y,Y,f3,A,f5⟩:=fC;refine wpAny_assign_Name (Fe (v:=.ref C) E hN p u rfl (λs'' j ⟨a,sb,ha⟩=>?_) hf)
 have l:W4≠a:=by
  rcases ha with z |z
  .rw[z];exact y
  .exact(A x a z).symm
 exact⟨m,hn.sameBut sb l,λh' r=>⟨_,H',j.turned (λb o hb e=>(r.2 b hb).trans e) Q y f3 A f5,q⟩⟩
def Gi:OpR X (dP .Is) (λx y H Q=>∃b,y=.bl b/\(x=.non\/∃c,x=.bl c)/\Q (.bl (decide (x=.bl b))) H):=by
 intro B s J H x y v u Q I a e h;obtain⟨b,rfl,d,q⟩:=h;subst e
 rcases d with rfl |⟨c,rfl⟩
 .subst a
  exact wpAny_is_plain rfl (cX I q (by cases b <;> rfl))
 .subst a
  exact wpAny_is_plain rfl (cX I q (by cases b <;> cases c <;> rfl))
def Oq:gi X (.builtin "isinstance") (λM H Q=>∃x T t b,M=[x,.ty T]/\ic X.K H x t/\W.kitOne X.K t (.type T)=aa b/\Q (.bl b) H):=by
 intro B s J H M us Q I r h;obtain⟨x,T,t,b,rfl,ty,e,q⟩:=h;obtain⟨u,f,rfl,c,a⟩:=zJ r;cases (a);exact Nv I c ty e λd=>⟨.bl b,H,I.tok d,rfl,q⟩
variable{M:LVv}
def ba.at'{us:LVa}{u:Value}(r:ba M us)(e:us[i]?=aa u):∃x,M[i]?=aa x/\aZ x u:=by
 have c:=r.length;have hi:i<M.length:=by have:=(dD.mp e).1;lia
 refine⟨M[i],by simp[hi],?_⟩;obtain⟨d,a,b⟩:=r.get (i:=i) (x:=M[i]) (by simp[hi]);rw[e]at a;cases a;exact b
def pB{env:Env}{a:gZ}(b:a≠.free):∀{names:List (Str×gZ)} {x:Str},names.lookup x=aa a ->
  (names.map λ(n,k)=>if (k==gE && env.scope.kind==.function && env.kindOf n==aa .cell) then (n,nE) else (n,k)).lookup x=aa a
 | [],_,h=>by simp at h
 |(n,k)::r,x,h=>by
  have c:=@pB env a b r x
  grind
def Os(h:Vis scope x):Vis (relabel scope env) x:=by
 rcases h with h |h |h
 .exact .inl (pB (by decide) h)
 .exact .inr (.inl (pB (by decide) h))
 .rcases zZ h with z |z
  .exact .inr (.inl z)
  .exact .inr (.inr z)
variable{W4:Addr}{ex:LAd}{a8:aL}{a9:Hp}
def pvc(i:Nat){pos:Pos}(b:Nc[i]?=aa x:=by rfl)(c:Vis scope x:=by first |exact cF rfl |exact bP (cF rfl) |exact bP (bP rfl))(hd:NDb x:=by decide)
 (a:NCd x:=by decide):PE (X.comp scope Nc cl W4 ex a8 a9) (.Name x pos) (eO i):=lu b (Os c) hd a
def pgc(i:Nat){pos:Pos}(b:Nc.Nodup:=by decide +kernel)(hi:Nc[i]?=aa x:=by rfl)(a:scope.names.lookup x=aa .local:=by rfl):PG (X.comp scope Nc cl W4 ex a8 a9) (.Name x pos) (mq i):=
 Fo b hi (.inl (pB (by decide) a)) (.inr (pB (by decide) a))
def glc(h:scope.names.lookup x=aa .globalImplicit):Gl (X.comp scope Nc cl W4 ex a8 a9) x:=pB (by decide) h
variable{p:Addr}{o:HO}
def cJ(h:H p=ab):aR H (upd H p o):=λb u e=>by rw[bG (g6 e h)];exact e
variable{K:br}{H':Hp}{a:Addr}
def aR.tup(e:aR H H')(h:SqT K H a M):SqT K H' a M:=by
 rcases h with(h |⟨o,h⟩) |h
 .exact .inl (.inl (e _ _ h))
 .exact .inl (.inr ⟨o,e _ _ h⟩)
 .exact .inr h
abbrev mz(p:Addr)(H H':Hp):Prop:=∀b o,H b=aa o->b≠p->H' b=aa o
def mz.refl(p:Addr)(H:Hp):mz p H H:=λ_ _ h _=>h
variable{H1:Hp}
def mz.trans(a:mz p H H1)(b:mz p H1 H2):mz p H H2:=λc o h n=>b c o (a c o h n) n
def mz.seq(e:mz p H H')(n:a≠p)(h:SqL K H a M):SqL K H' a M:=by
 rcases h with(h |⟨o,h⟩) |h
 .exact .inl (.inl (e _ _ h n))
 .exact .inl (.inr ⟨o,e _ _ h n⟩)
 .exact .inr h
abbrev Gj(p:Option Bool->Bool)(es:LOB)(its:LII):Int:=((its.filter λz=>p (es.getD z.1.toNat ab)).map (·.2)).sum
inductive Prt where
 |inn (t:Int) |out (t:Int) |least (k:Int) (its:LII) |most (k:Int) (its:LII)
abbrev bs(l:LB0):LOB:=l.map aa
abbrev Prt.holds(rs ws:LB0):Prt->Bool
 |.inn t=>(rs.getD t.toNat ag)
 |.out t=>!(ws.getD t.toNat ag)
 |.least k its=>decide (k<=Gj (·==aa ac) (bs rs) its)
 |.most k its=>decide (Gj (·==aa ac) (bs ws) its<=k)
variable{h':Heap}
def Inv.turnedMany{t':Nat}{ch:LAd}(I:Inv X B J H s)(k:∀b o,b∉ch->s.heap.get? b=aa o->h'.get? b=aa o)(d:∀b∈ch,ib X B H b):Inv X B J H {s with heap:=h',toks:=t'}:=by
 refine I.step (λb l=>?_) (λb o _ _ a e _=>k b o a e) (λb o _ _ a e _=>⟨o.slots,k b o a e⟩) (λ_ _ _ _ n=>n)
  (λb o a e=>⟨o,k b o a e⟩) (λ_ _ e=>e) (λ_ _ _ e=>e) (λb ps e=>⟨#[],by rw[e];simp⟩) (λm hm=>?_) (λb u e=>?_) I.bare
 .obtain⟨_,g,_,h,i,j⟩:=d b l;exact⟨h,g,i,j⟩
 .obtain⟨o,es,f,p,r⟩:=hm;exact⟨o,es,f,k _ o (λz=>(d _ z).2.1 rfl) p,r⟩
 .refine(I.hok b u e).stay (λc v a q=>k c v (λz=>?_) q) (λ_ q=>q) λ_ _ q=>q;have hn:=(d c z).1
  rcases a with y |y
  .rw[y,e]at hn;nomatch hn
  .rw[hn]at y;nomatch y
def Inv.track(I:Inv X B J H s)(f:ib X B H p)(r:gc X.prog X.w (upd H p o) s.heap p o):Inv X B J (upd H p o) s:=by
 obtain⟨g,h,t,i,j,l⟩:=f;have ne:∀b u,H b=aa u->b≠p:=λb u e=>g6 e g;have one:∀b:Addr,b∉[p]->b≠p:=λb a z=>a (by rw[z];simp)
 refine I.step (ch:=[p]) (λb a=>?_) (λb o _ _ d e _=>e) (λb o _ _ d e _=>⟨o.slots,e⟩) (λb o d e n=>?_)
  (λb o d e=>⟨o,e⟩) (λb M e=>?_) (λb o u e=>?_) (λb ps e=>⟨#[],?_⟩) (λm hm=>hm) (λb u e=>?_) I.bare
 .have e:b=p:=by simpa using a
  subst e;exact⟨i,h,j,l⟩
 .rw[bG (one b d)];exact n
 .rw[bG (ne b _ e)];exact e
 .rw[bG (ne b _ e)];exact e
 .rw[bG (ne b _ e),e];rfl
 .by_cases a:b=p
  .subst a;rw[bL]at e;cases e;exact r
  .rw[bG a]at e;exact(I.hok b u e).stay (λc v _ q=>q) (λc q=>by rw[bG (ne c _ q)];exact q) λc M q=>by rw[bG (ne c _ q)];exact q
inductive D where
 |non
 |bl (b:Bool)
 |int (i:Int)
 |str (x:Str)
 |lst (M:List D)
 |tup (M:List D)
 |kl (M:List D)
 |kt (M:List D)
 |dic (C:List Key) (M:List D)
 |ins (c:Str) (ns:LSt) (M:List D)
 |kd (C:List Key) (M:List D)
 |dT (C:List (List Key)) (M:List D)
 deriving Inhabited
nonrec abbrev OD:=Option D
nonrec abbrev LD:=List D
nonrec abbrev OLD:=Option LD
set_option genInjectivity false in
structure Gc where
 K:br
 cl:Str->Addr
mutual
def Rep(G:Gc)(H:Hp):D->V->Prop
 |.non,v=>v=.non
 |.bl b,v=>v=.bl b
 |.int i,v=>v=.int i
 |.str x,v=>v=.str x
 |.lst ds,v=>∃a L,v=.ref a/\H a=aa (.lst L)/\aF G H ds L
 |.tup ds,v=>∃a L,v=.ref a/\H a=aa (.tup L)/\aF G H ds L
 |.kl ds,v=>∃a L,v=.ref a/\SqL G.K H a L/\aF G H ds L
 |.kt ds,v=>∃a L,v=.ref a/\SqT G.K H a L/\aF G H ds L
 |.dic C ds,v=>∃a L,v=.ref a/\H a=aa (.dK (C.zip L))/\C.length=L.length/\aF G H ds L
 |.ins c ns ds,v=>∃a dx L,v=.ref a/\H a=aa (.ins (G.cl c) dx (ns.zip L))/\ns.length=L.length/\aF G H ds L
 |.kd C ds,v=>∃a od L,v=.ref a/\H a=aa (.frz od (.dK (C.zip L)))/\C.length=L.length/\aF G H ds L
 |.dT C ds,v=>∃a L,v=.ref a/\H a=aa (.dT (C.zip L))/\C.length=L.length/\aF G H ds L
def aF(G:Gc)(H:Hp):LD->LVv->Prop
 | [],L=>L=[]
 |d::ds,L=>∃v r,L=v::r/\Rep G H d v/\aF G H ds r
end
mutual
theorem Rep.upM(s:aR H H'):∀(d:D) (v:V),Rep G H d v->Rep G H' d v
 |.non,_,h=>h
 |.bl _,_,h=>h
 |.int _,_,h=>h
 |.str _,_,h=>h
 |.lst ds,_,h_=>by obtain⟨a,L,e,q,r⟩:=h_;exact⟨a,L,e,s _ _ q,aF.upM s ds L r⟩
 |.tup ds,_,h_=>by obtain⟨a,L,e,q,r⟩:=h_;exact⟨a,L,e,s _ _ q,aF.upM s ds L r⟩
 |.kl ds,_,h_=>by obtain⟨a,L,e,q,r⟩:=h_;exact⟨a,L,e,s.seq q,aF.upM s ds L r⟩
 |.kt ds,_,h_=>by obtain⟨a,L,e,q,r⟩:=h_;exact⟨a,L,e,s.tup q,aF.upM s ds L r⟩
 |.dic _ ds,_,h_=>by obtain⟨a,L,e,q,l,r⟩:=h_;exact⟨a,L,e,s _ _ q,l,aF.upM s ds L r⟩
 |.ins _ _ ds,_,h_=>by obtain⟨a,dx,L,e,q,l,r⟩:=h_;exact⟨a,dx,L,e,s _ _ q,l,aF.upM s ds L r⟩
 |.kd _ ds,_,h_=>by obtain⟨a,od,L,e,q,l,r⟩:=h_;exact⟨a,od,L,e,s _ _ q,l,aF.upM s ds L r⟩
 |.dT _ ds,_,h_=>by obtain⟨a,L,e,q,l,r⟩:=h_;exact⟨a,L,e,s _ _ q,l,aF.upM s ds L r⟩
theorem aF.upM(s:aR H H'):∀(ds:LD) (L:LVv),aF G H ds L->aF G H' ds L
 | [],_,h=>h
 |d::ds,_,h_=>by obtain⟨v,r,e,a,b⟩:=h_;exact⟨v,r,e,Rep.upM s d v a,aF.upM s ds r b⟩
end
variable{G:Gc}{d:D}{v:V}
def Rep.up(r:Rep G H d v)(s:aR H H'):Rep G H' d v:=Rep.upM s d v r
variable{ds:LD}{L:LVv}
def aF.up(r:aF G H ds L)(s:aR H H'):aF G H' ds L:=aF.upM s ds L r
def aF.nil:aF G H [] []:=rfl
def aF.cons(h:Rep G H d v)(t:aF G H ds L):aF G H (d::ds) (v::L):=⟨v,L,rfl,h,t⟩
def aF.length:∀{ds:LD} {L:LVv},aF G H ds L->ds.length=L.length
 | [],_,h=>by cases (h);rfl
 |d::ds,_,⟨v,r,e,_,h⟩=>by subst e;simp[aF.length h]
def aF.append:∀{ds es:LD} {L us:LVv},aF G H ds L->aF G H es us->aF G H (ds++es) (L++us)
 | [],_,_,_,h,t=>by cases (h);exact t
 |d::ds,_,_,_,⟨v,r,e,h1,h2⟩,t=>by subst e;exact⟨v,r++_,rfl,h1,aF.append h2 t⟩
def aF.get:∀{ds:LD} {L:LVv} {i:Nat} {d:D},aF G H ds L->ds[i]?=aa d->∃v,L[i]?=aa v/\Rep G H d v
 | [],_,_,_,_,e=>by simp at e
 |d::ds,_,0,_,⟨v,r,e,h1,_⟩,e'=>by subst e;simp at e';subst e';exact⟨v,rfl,h1⟩
 |d::ds,_,i+1,d',q4_,e'=>by
  obtain⟨v,r,e,_,c⟩:=q4_;subst e;obtain⟨u,a,b⟩:=aF.get c (by simpa using e');exact⟨u,by simpa using a,b⟩
def aF.get':∀{ds:LD} {L:LVv} {i:Nat} {v:V},aF G H ds L->L[i]?=aa v->∃d,ds[i]?=aa d/\Rep G H d v:=λ{ds L i v} h e=>by
 have c:=h.length;have hi:i<ds.length:=by have:=(dD.mp e).1;lia
 obtain⟨u,a,b⟩:=h.get (i:=i) (d:=ds[i]) (by simp[hi]);rw[e]at a;cases a;exact⟨ds[i],by simp[hi],b⟩
def aF.ints:∀(ns:LI0),aF G H (ns.map D.int) (ns.map V.int)
 | []=>rfl
 |n::ns=>⟨_,_,rfl,rfl,aF.ints ns⟩
def aF.take:∀{ds:LD} {L:LVv} (n:Nat),aF G H ds L->aF G H (ds.take n) (L.take n)
 | _,_,0,_=>rfl
 | [],_,n+1,h=>by cases (h);rfl
 |d::ds,_,n+1,⟨v,r,e,h1,h2⟩=>by subst e;exact⟨v,r.take n,rfl,h1,aF.take n h2⟩
def aF.drop:∀{ds:LD} {L:LVv} (n:Nat),aF G H ds L->aF G H (ds.drop n) (L.drop n)
 | _,_,0,h=>h
 | [],_,n+1,h=>by cases (h);rfl
 |d::ds,_,n+1,⟨v,r,e,h1,h2⟩=>by subst e;exact aF.drop n h2
def aF.reverse:∀{ds:LD} {L:LVv},aF G H ds L->aF G H ds.reverse L.reverse
 | [],_,h=>by cases (h);rfl
 |d::ds,_,q2_=>by
  obtain⟨v,r,e,a,b⟩:=q2_;subst e;rw[jX,jX];exact(aF.reverse b).append (.cons a .nil)
def aF.set:∀{ds:LD} {L:LVv} (i:Nat) {d:D} {v:V},aF G H ds L->Rep G H d v->aF G H (ds.set i d) (L.set i v)
 | [],_,_,_,_,h,_=>by cases (h);exact .nil
 |e::ds,_,0,_,_,⟨v,r,e',_,h2⟩,q=>by subst e';exact⟨_,r,rfl,q,h2⟩
 |e::ds,_,i+1,_,_,⟨v,r,e',h1,h2⟩,q=>by subst e';exact⟨v,r.set i _,rfl,h1,aF.set i h2 q⟩
abbrev mC:HO->Bool
 |.tup _=>ac
 | _=>ag
structure Ext(Hf H j H':Hp):Prop where
 f:aR Hf j
 h:aR H H'
 s:aR j H'
 n:∀l o,H l=aa o->mC o=ag->j l=Hf l
variable{Hf:Hp}
def Ext.refl(s:aR Hf H):Ext Hf H Hf H:=⟨aR.refl _,aR.refl _,s,λ_ _ _ _=>rfl⟩
variable{al a0:Hp}
def Ext.trans(a:Ext Hf H al H1)(b:Ext al H1 a0 H2):Ext Hf H a0 H2:=⟨a.f.trans b.f,a.h.trans b.h,b.s,λl o e t=>(b.n l o (a.h l o e) t).trans (a.n l o e t)⟩
def Ext.new(s:aR Hf H)(h:H p=ab):Ext Hf H (upd Hf p o) (upd H p o):=
 ⟨cJ (s.free h),cJ h,λb u e=>by
  by_cases a:b=p
  .subst a;rw[bL]at e ⊢;exact e
  .rw[bG a]at e ⊢;exact s b u e,λl u e _=>by rw[bG (g6 e h)]⟩
def Ext.tmp(s:aR Hf H)(h:H p=ab):Ext Hf H Hf (upd H p o):=⟨aR.refl _,cJ h,s.trans (cJ h),λ_ _ _ _=>rfl⟩
def Ext.grow(s:aR Hf H)(g:aR H H1):Ext Hf H Hf H1:=⟨aR.refl _,g,s.trans g,λ_ _ _ _=>rfl⟩
def Ext.fix(a:Ext Hf H al H1)(hn:H p=ab)(d:al p=ab)(g:H1 p=aa o):Ext Hf H (upd al p o) H1:=
 ⟨a.f.trans (cJ d),a.h,λb u e=>by
  by_cases c:b=p
  .subst c;rw[bL]at e;rw[g];exact e
  .rw[bG c]at e;exact a.s b u e,λl u e t=>by rw[bG (g6 e hn)];exact a.n l u e t⟩
inductive O where
 |fz (d:D)
 |lst (M:List O)
 |tup (M:List O)
 |dic (C:List Key) (M:List O)
 |ins (c:Str) (ns:LSt) (M:List O)
 |jnk (n:Nat)
 |dT (C:List (List Key)) (M:List O)
 |at (l:Addr) (o:O)
 |any
 deriving Inhabited
mutual
def OT(G:Gc)(Hf H:Hp):O->V->LAd->Prop
 |.fz d,v,fp=>Rep G Hf d v/\fp=[]
 |.lst os,v,fp=>∃a L fs,v=.ref a/\H a=aa (.lst L)/\OTs G Hf H os L fs/\fp=a::fs
 |.tup os,v,fp=>∃a L,v=.ref a/\H a=aa (.tup L)/\OTs G Hf H os L fp
 |.dic C os,v,fp=>∃a L fs,v=.ref a/\H a=aa (.dK (C.zip L))/\C.length=L.length/\OTs G Hf H os L fs/\fp=a::fs
 |.ins c ns os,v,fp=>∃a dx L fs,v=.ref a/\H a=aa (.ins (G.cl c) dx (ns.zip L))/\ns.length=L.length/\OTs G Hf H os L fs/\fp=a::fs
 |.jnk n,v,fp=>∃a L,v=.ref a/\H a=aa (.lst L)/\L.length<=n/\fp=[a]
 |.dT C os,v,fp=>∃a L fs,v=.ref a/\H a=aa (.dT (C.zip L))/\C.length=L.length/\OTs G Hf H os L fs/\fp=a::fs
 |.at l o,v,fp=>v=.ref l/\OT G Hf H o v fp
 |.any,_,fp=>fp=[]
def OTs(G:Gc)(Hf H:Hp):List O->LVv->LAd->Prop
 | [],L,fp=>L=[]/\fp=[]
 |o::os,L,fp=>∃v r a b,L=v::r/\OT G Hf H o v a/\OTs G Hf H os r b/\fp=a++b
end
mutual
noncomputable def O.toD:O->D
 |.fz d=>d
 |.lst os=>.lst (O.toDs os)
 |.tup os=>.tup (O.toDs os)
 |.dic C os=>.dic C (O.toDs os)
 |.ins c ns os=>.ins c ns (O.toDs os)
 |.at _ o=>o.toD
 |.jnk _=>.non
 |.dT C os=>.dT C (O.toDs os)
 |.any=>.non
noncomputable def O.toDs:List O->LD
 | []=>[]
 |o::os=>o.toD::O.toDs os
end
mutual
noncomputable def O.kn:O->Bool
 |.fz _=>ac
 |.lst os=>O.kns os
 |.tup os=>O.kns os
 |.dic _ os=>O.kns os
 |.ins _ _ os=>O.kns os
 |.at _ o=>o.kn
 |.jnk _=>ag
 |.dT _ os=>O.kns os
 |.any=>ag
noncomputable def O.kns:List O->Bool
 | []=>ac
 |o::os=>o.kn && O.kns os
end
mutual
theorem OT.frameM(f:aR Hf j):∀(o:O) (v:V) (fp:LAd),OT G Hf H o v fp->(∀b u,H b=aa u->(mC u=ac\/b∈fp)->H' b=aa u)->OT G j H' o v fp
 |.fz d,_,_,h,_=>⟨h.1.up f,h.2⟩
 |.lst os,_,fp,h_,k=>by obtain⟨a,L,fs,e,q,r,g⟩:=h_;exact⟨a,L,fs,e,k _ _ q (.inr (by rw[g];exact bB)),OTs.frameM f os L fs r (λb u i hm=>k b u i (hm.imp_right λz=>by rw[g];exact cD _ z)),g⟩
 |.tup os,_,fp,h_,k=>by obtain⟨a,L,e,q,r⟩:=h_;exact⟨a,L,e,k _ _ q (.inl rfl),OTs.frameM f os L fp r k⟩
 |.dic C os,_,fp,h_,k=>by obtain⟨a,L,fs,e,q,z,r,g⟩:=h_;exact⟨a,L,fs,e,k _ _ q (.inr (by rw[g];exact bB)),z,OTs.frameM f os L fs r (λb u i hm=>k b u i (hm.imp_right λz=>by rw[g];exact cD _ z)),g⟩
 |.ins c ns os,_,fp,h_,k=>by obtain⟨a,dx,L,fs,e,q,z,r,g⟩:=h_;exact⟨a,dx,L,fs,e,k _ _ q (.inr (by rw[g];exact bB)),z,OTs.frameM f os L fs r (λb u i hm=>k b u i (hm.imp_right λz=>by rw[g];exact cD _ z)),g⟩
 |.jnk n,_,fp,h_,k=>by obtain⟨a,L,e,q,z,g⟩:=h_;exact⟨a,L,e,k _ _ q (.inr (by rw[g];exact bB)),z,g⟩
 |.dT C os,_,fp,h_,k=>by obtain⟨a,L,fs,e,q,z,r,g⟩:=h_;exact⟨a,L,fs,e,k _ _ q (.inr (by rw[g];exact bB)),z,OTs.frameM f os L fs r (λb u i hm=>k b u i (hm.imp_right λz=>by rw[g];exact cD _ z)),g⟩
 |.at _ o,v,fp,h_,k=>by obtain⟨e,r⟩:=h_;exact⟨e,OT.frameM f o v fp r k⟩
 |.any,_,_,h,_=>h
theorem OTs.frameM(f:aR Hf j):∀(os:List O) (L:LVv) (fp:LAd),OTs G Hf H os L fp->(∀b u,H b=aa u->(mC u=ac\/b∈fp)->H' b=aa u)->OTs G j H' os L fp
 | [],_,_,h,_=>h
 |o::os,_,fp,h_,k=>by obtain⟨v,r,d,g,e,i,l,a⟩:=h_;exact⟨v,r,d,g,e,OT.frameM f o v d i (λb u c hm=>k b u c (hm.imp_right λz=>by rw[a];exact mem_append_left _ z)),OTs.frameM f os r g l (λb u c hm=>k b u c (hm.imp_right λz=>by rw[a];exact h7 _ z)),a⟩
end
variable{j:Hp}{o:O}
def OT.frame(h:OT G Hf H o v fp)(f:aR Hf j)(k:∀b u,H b=aa u->(mC u=ac\/b∈fp)->H' b=aa u):OT G j H' o v fp:=OT.frameM f o v fp h k
def OT.up(h:OT G Hf H o v fp)(f:aR Hf j)(s:aR H H'):OT G j H' o v fp:=h.frame f λb u e _=>s b u e
def vp{a b:Type}:∀{C:List a} {L us:List b},C.length=L.length->C.length=us.length->C.zip L=C.zip us->L=us
 | [],[],[],_,_,_=>rfl
 |k::C,v::L,u::us,h1,h2,e=>by
  injection e with e1 e2
  injection e1 with _ e3
  rw[e3,vp (by simpa using h1) (by simpa using h2) e2]
 | [],_::_,_,h,_,_=>by cases h
 | [],[],_::_,_,h,_=>by cases h
 | _::_,[],_,h,_,_=>by cases h
 | _::_,_::_,[],_,h,_=>by cases h
mutual
theorem OT.funM:∀(o:O) (v:V) (f t:LAd),OT G Hf H o v f->OT G j H o v t->f=t
 |.fz d,_,_,_,h,h'=>h.2.trans h'.2.symm
 |.lst os,_,_,_,q4_,q5_=>by
  obtain⟨a,L,fs,e,q,r,p⟩:=q4_;obtain⟨w,m,g,l,i,s,b⟩:=q5_;subst e p b;cases l;rw[q]at i;cases i
  rw[OTs.funM os L fs g r s]
 |.tup os,_,f,t,q4_,q5_=>by
  obtain⟨a,L,e,q,r⟩:=q4_;obtain⟨w,m,l,i,s⟩:=q5_;subst e;cases l;rw[q]at i;cases i
  exact OTs.funM os L f t r s
 |.dic C os,_,_,_,q4_,q5_=>by
  obtain⟨a,L,fs,e,q,z,r,p⟩:=q4_;obtain⟨w,m,g,l,i,u,s,b⟩:=q5_;subst e p b;cases l;rw[q]at i;have:=vp z u (HO.dK.inj (cN i));subst this
  rw[OTs.funM os L fs g r s]
 |.ins c ns os,_,_,_,q4_,q5_=>by
  obtain⟨a,dx,L,fs,e,q,z,r,p⟩:=q4_;obtain⟨w,x,m,g,l,i,u,s,b⟩:=q5_;subst e p b;cases l;rw[q]at i;have:=vp z u (HO.ins.inj (cN i)).2.2;subst this
  rw[OTs.funM os L fs g r s]
 |.jnk n,_,_,_,q4_,q5_=>by
  obtain⟨a,L,e,q,z,p⟩:=q4_;obtain⟨w,m,l,i,u,b⟩:=q5_;subst e p b;cases l
  rfl
 |.dT C os,_,_,_,q4_,q5_=>by
  obtain⟨a,L,fs,e,q,z,r,p⟩:=q4_;obtain⟨w,m,g,l,i,u,s,b⟩:=q5_;subst e p b;cases l;rw[q]at i;have:=vp z u (HO.dT.inj (cN i));subst this
  rw[OTs.funM os L fs g r s]
 |.at _ o,v,f,t,h,h'=>OT.funM o v f t h.2 h'.2
 |.any,_,_,_,h,h'=>(show _=[]from h).trans (show _=[]from h').symm
theorem OTs.funM:∀(os:List O) (L:LVv) (f i:LAd),OTs G Hf H os L f->OTs G j H os L i->f=i
 | [],_,_,_,h,h'=>h.2.trans h'.2.symm
 |o::os,_,_,_,q4_,q5_=>by
  obtain⟨v,r,n,p,e,q,s,m⟩:=q4_;obtain⟨u,t,b,c,l,d,g,a⟩:=q5_;subst e m a;cases l;rw[OT.funM o v n b q d,OTs.funM os r p c s g]
end
mutual
theorem OT.memM:∀(o:O) (v:V) (f:LAd),OT G Hf H o v f->∀a∈f,∃u,H a=aa u/\mC u=ag
 |.fz d,_,_,h,a,ha=>by rw[h.2]at ha;cases ha
 |.lst os,_,_,q3_,b,hb=>by
  obtain⟨a,L,fs,e,q,r,g⟩:=q3_;subst g
  rcases bZ.mp hb with z |z
  .subst z;exact⟨_,q,rfl⟩
  .exact OTs.memM os L fs r b z
 |.tup os,_,f,⟨a,L,e,q,r⟩,b,hb=>OTs.memM os L f r b hb
 |.dic C os,_,_,q3_,b,hb=>by
  obtain⟨a,L,fs,e,q,z,r,g⟩:=q3_;subst g
  rcases bZ.mp hb with z |z
  .subst z;exact⟨_,q,rfl⟩
  .exact OTs.memM os L fs r b z
 |.ins c ns os,_,_,q3_,b,hb=>by
  obtain⟨a,dx,L,fs,e,q,z,r,g⟩:=q3_;subst g
  rcases bZ.mp hb with z |z
  .subst z;exact⟨_,q,rfl⟩
  .exact OTs.memM os L fs r b z
 |.jnk n,_,_,q3_,b,hb=>by
  obtain⟨a,L,e,q,z,g⟩:=q3_;subst g;rw[bi.mp hb]
  exact⟨_,q,rfl⟩
 |.dT C os,_,_,q3_,b,hb=>by
  obtain⟨a,L,fs,e,q,z,r,g⟩:=q3_;subst g
  rcases bZ.mp hb with z |z
  .subst z;exact⟨_,q,rfl⟩
  .exact OTs.memM os L fs r b z
 |.at _ o,v,f,h,a,ha=>OT.memM o v f h.2 a ha
 |.any,_,_,h,a,ha=>by rw[show _=[]from h]at ha;cases ha
theorem OTs.memM:∀(os:List O) (L:LVv) (f:LAd),OTs G Hf H os L f->∀a∈f,∃u,H a=aa u/\mC u=ag
 | [],_,_,h,a,ha=>by rw[h.2]at ha;cases ha
 |o::os,_,_,q3_,a,ha=>by
  obtain⟨v,r,c,d,e,g,i,b⟩:=q3_;subst b
  rcases cM.mp ha with z |z
  .exact OT.memM o v c g a z
  .exact OTs.memM os r d i a z
end
mutual
theorem OT.repM(s:aR Hf H):∀(o:O) (v:V) (f:LAd),o.kn=ac->OT G Hf H o v f->Rep G H o.toD v
 |.fz d,_,_,_,h=>by rw[O.toD];exact h.1.up s
 |.lst os,_,_,hk,h_=>by obtain⟨a,L,fs,e,q,r,b⟩:=h_;rw[O.kn]at hk;rw[O.toD];exact⟨a,L,e,q,OTs.repM s os L fs hk r⟩
 |.tup os,_,f,hk,h_=>by obtain⟨a,L,e,q,r⟩:=h_;rw[O.kn]at hk;rw[O.toD];exact⟨a,L,e,q,OTs.repM s os L f hk r⟩
 |.dic C os,_,_,hk,h_=>by obtain⟨a,L,fs,e,q,z,r,b⟩:=h_;rw[O.kn]at hk;rw[O.toD];exact⟨a,L,e,q,z,OTs.repM s os L fs hk r⟩
 |.ins c ns os,_,_,hk,h_=>by obtain⟨a,dx,L,fs,e,q,z,r,b⟩:=h_;rw[O.kn]at hk;rw[O.toD];exact⟨a,dx,L,e,q,z,OTs.repM s os L fs hk r⟩
 |.at _ o,v,f,hk,h=>by rw[O.kn]at hk;rw[O.toD];exact OT.repM s o v f hk h.2
 |.jnk _,_,_,hk,_=>by rw[O.kn]at hk;cases hk
 |.dT C os,_,_,hk,h_=>by obtain⟨a,L,fs,e,q,z,r,b⟩:=h_;rw[O.kn]at hk;rw[O.toD];exact⟨a,L,e,q,z,OTs.repM s os L fs hk r⟩
 |.any,_,_,hk,_=>by rw[O.kn]at hk;cases hk
theorem OTs.repM(s:aR Hf H):∀(os:List O) (L:LVv) (f:LAd),O.kns os=ac->OTs G Hf H os L f->aF G H (O.toDs os) L
 | [],_,_,_,h=>by rw[O.toDs];exact h.1
 |o::os,_,_,hk,h_=>by
  obtain⟨v,r,a,b,e,c,d,g⟩:=h_;rw[O.kns,cV]at hk;rw[O.toDs];exact⟨v,r,e,OT.repM s o v a hk.1 c,OTs.repM s os r b hk.2 d⟩
end
def OT.rep{f:LAd}(h:OT G Hf H o v f)(s:aR Hf H)(a:o.kn=ac):Rep G H o.toD v:=OT.repM s o v f a h
inductive Sl where
 |no
 |im (d:D)
 |own (M:LD)
 |ownd (C:List Key) (M:LD)
 |obj (c:Str) (ns:LSt) (M:LD)
 |pin (l:Addr) (M:LD)
 |pind (l:Addr) (C:List Key) (M:LD)
 |pino (l:Addr) (c:Str) (ns:LSt) (M:LD)
 |deep (o:O)
 |val (u:V)
nonrec abbrev LS:=List Sl
nonrec def nZ{a:Type}:LS->Option (List a):=λ_=>aa []
nonrec def kY:LS->Option Bool:=λ_=>aa ac
nonrec def kN:LS->OD:=λ_=>aa .non
nonrec def kI(i:Int):LS->OD:=λ_=>aa (.int i)
nonrec def kSt(x:Str):LS->OD:=λ_=>aa (.str x)
nonrec def kBl(b:Bool):LS->OD:=λ_=>aa (.bl b)
nonrec abbrev MF1:=LS->OD
nonrec abbrev MF2:=LS->OLD
nonrec abbrev MF4:=LS->Option Bool
abbrev Sl.isOwn:Sl->Bool
 |.own _=>ac
 |.ownd _ _=>ac
 |.obj _ _ _=>ac
 |.pin _ _=>ac
 |.pind _ _ _=>ac
 |.pino _ _ _ _=>ac
 | _=>ag
abbrev Sl.calm:Sl->Bool
 |.no=>ac
 |.im _=>ac
 | _=>ag
abbrev iW(G:Gc)(Hf H:Hp)(l:Addr):Sl->Prop
 |.own ds=>∃L,H l=aa (.lst L)/\aF G Hf ds L
 |.ownd C ds=>∃L,H l=aa (.dK (C.zip L))/\C.length=L.length/\aF G Hf ds L
 |.obj c ns ds=>∃dx L,H l=aa (.ins (G.cl c) dx (ns.zip L))/\ns.length=L.length/\aF G Hf ds L
 |.pin a ds=>l=a/\∃L,H l=aa (.lst L)/\aF G Hf ds L
 |.pind a C ds=>l=a/\∃L,H l=aa (.dK (C.zip L))/\C.length=L.length/\aF G Hf ds L
 |.pino a c ns ds=>l=a/\∃dx L,H l=aa (.ins (G.cl c) dx (ns.zip L))/\ns.length=L.length/\aF G Hf ds L
 | _=>False
variable{l:Addr}{s:Sl}
def iW.there2(h:iW G Hf H l s):∃o,H l=aa o/\mC o=ag:=by
 cases s with
 |own ds=>obtain⟨L,h,_⟩:=h;exact⟨_,h,rfl⟩
 |ownd C ds=>obtain⟨L,h,_⟩:=h;exact⟨_,h,rfl⟩
 |obj c ns ds=>obtain⟨dx,L,h,_⟩:=h;exact⟨_,h,rfl⟩
 |pin a ds=>obtain⟨_,L,h,_⟩:=h;exact⟨_,h,rfl⟩
 |pind a C ds=>obtain⟨_,L,h,_⟩:=h;exact⟨_,h,rfl⟩
 |pino a c ns ds=>obtain⟨_,dx,L,h,_⟩:=h;exact⟨_,h,rfl⟩
 | _=>exact h.elim
def iW.up(h:iW G Hf H l s)(f:aR Hf j)(e:∀o,H l=aa o->H' l=aa o):iW G j H' l s:=by
 cases s with
 |own ds=>obtain⟨L,h,r⟩:=h;exact⟨L,e _ h,r.up f⟩
 |ownd C ds=>obtain⟨L,h,z,r⟩:=h;exact⟨L,e _ h,z,r.up f⟩
 |obj c ns ds=>obtain⟨dx,L,h,z,r⟩:=h;exact⟨dx,L,e _ h,z,r.up f⟩
 |pin a ds=>obtain⟨q,L,h,r⟩:=h;exact⟨q,L,e _ h,r.up f⟩
 |pind a C ds=>obtain⟨q,L,h,z,r⟩:=h;exact⟨q,L,e _ h,z,r.up f⟩
 |pino a c ns ds=>obtain⟨q,dx,L,h,z,r⟩:=h;exact⟨q,dx,L,e _ h,z,r.up f⟩
 | _=>exact h.elim
abbrev iI(G:Gc)(H0 Hf H:Hp)(v:Option V):Sl->Prop
 |.no=>True
 |.im d=>∃u,v=aa u/\Rep G Hf d u
 |.deep o=>∃u fp,v=aa u/\OT G Hf H o u fp/\fp.Nodup/\∀a∈fp,H0 a=ab/\Hf a=ab
 |.val u=>v=aa u
 |s=>∃l,v=aa (.ref l)/\H0 l=ab/\Hf l=ab/\iW G Hf H l s
variable{H0:Hp}
def iI.own{v:Option V}(a:s.isOwn=ac)(h:iI G H0 Hf H v s):∃l,v=aa (.ref l)/\H0 l=ab/\Hf l=ab/\iW G Hf H l s:=by
 cases s <;> first |exact h |cases a
def iI.ofOwn{v:Option V}(a:s.isOwn=ac)(h:∃l,v=aa (.ref l)/\H0 l=ab/\Hf l=ab/\iW G Hf H l s):iI G H0 Hf H v s:=by
 cases s <;> first |exact h |cases a
abbrev Holds(G:Gc)(Hf H:Hp)(s:Sl)(v:V)(a:Addr):Prop:=match s with
 |.deep o=>∃fp,OT G Hf H o v fp/\a∈fp
 |s=>s.isOwn=ac/\v=.ref a
def Holds.own(b:s.isOwn=ac):Holds G Hf H s v a↔v=.ref a:=by
 cases s <;> first |exact⟨λh=>h.2,λh=>⟨rfl,h⟩⟩ |nomatch b
def Holds.calm(h:Holds G Hf H s v a)(b:s.calm=ac):False:=by
 cases s <;> first |exact qN h.1 |nomatch b
def iI.back(q:iI G H0 Hf H (aa v) s)(k:∀o fp,s=.deep o->OT G Hf H o v fp->OT G j H' o v fp)(h:Holds G j H' s v a):Holds G Hf H s v a:=by
 cases s with
 |deep o=>
  obtain⟨u,fp,e,r,_⟩:=q;cases e;obtain⟨b,c,ha⟩:=h;have:=OT.funM o v fp b (k o fp rfl r) c;subst this
  exact⟨fp,r,ha⟩
 | _=>exact h
def iI.there(q:iI G H0 Hf H (aa v) s)(h:Holds G Hf H s v a):∃o,H a=aa o/\mC o=ag:=by
 cases b:s.isOwn with
 |true=>
  obtain⟨l,e,_,_,c⟩:=q.own b;cases e;cases ((Holds.own b).mp h)
  exact c.there2
 |false=>
  cases s with
  |deep o=>
   obtain⟨fp,r,ha⟩:=h
   exact OT.memM o v fp r a ha
  | _=>first |exact qN h.1 |nomatch b
structure aM(G:Gc)(E H0 Hf H:Hp)(J:St)(U:LS):Prop where
 ext:Ext E H0 Hf H
 len:J.length=U.length
 at':∀(i:Nat) (v:Option V) (s:Sl),J[i]?=aa v->U[i]?=aa s->iI G H0 Hf H v s
 dj:∀(i W6:Nat) (s t:Sl) (v w:V) (a:Addr),U[i]?=aa s->U[W6]?=aa t->J[i]?=aa (aa v)->J[W6]?=aa (aa w)->Holds G Hf H s v a->Holds G Hf H t w a->i=W6
variable{E:Hp}{U:LS}
def aM.sub(h:aM G E H0 Hf H J U):aR Hf H:=h.ext.s
def aM.inj(h:aM G E H0 Hf H J U)(i W6:Nat)(s t:Sl)(l:Addr)(a:U[i]?=aa s)(b:U[W6]?=aa t)(e:s.isOwn=ac)(f:t.isOwn=ac)(c:J[i]?=aa (aa (.ref l)))(d:J[W6]?=aa (aa (.ref l))):i=W6:=
 h.dj i W6 s t _ _ l a b c d ((Holds.own e).mpr rfl) ((Holds.own f).mpr rfl)
variable{ρ':LS}
def aM.re{d g:Hp}(h:aM G E H0 Hf H J U)(x:Ext d g j H')(n:ρ'.length=U.length)(ha:∀(i:Nat) (v:Option V) (s:Sl),J[i]?=aa v->ρ'[i]?=aa s->iI G g j H' v s)
 (hd:∀(i:Nat) (s:Sl) (v:V) (a:Addr),ρ'[i]?=aa s->J[i]?=aa (aa v)->Holds G j H' s v a->∃t,U[i]?=aa t/\Holds G Hf H t v a):aM G d g j H' J ρ':=
 ⟨x,h.len.trans n.symm,ha,λi W6 s t v w a b c e f p q=>by
  obtain⟨u,l,o⟩:=hd i s v a b e p;obtain⟨y,m,r⟩:=hd W6 t w a c f q;exact h.dj i W6 u y v w a l m e f o r⟩
def aM.step(h:aM G E H0 Hf H J U)(e:Ext Hf H j H'):aM G E H0 j H' J U:=by
 refine h.re (h.ext.trans e) rfl (λi v s a b=>?_) λi s v a b c d=>⟨s,b,(h.at' i _ s c b).back (λo fp _ r=>r.up e.f e.h) d⟩;have q:=h.at' i v s a b
 cases p:s.isOwn with
 |true=>
  obtain⟨l,g,x,y,w⟩:=q.own p;obtain⟨o,m,t⟩:=w.there2
  exact .ofOwn p ⟨l,g,x,by rw[e.n l o m t];exact y,w.up e.f λo m=>e.h _ _ m⟩
 |false=>
  cases s with
  |no=>trivial
  |im d=>obtain⟨u,g,r⟩:=q;exact⟨u,g,r.up e.f⟩
  |val u=>exact q
  |deep o=>
   obtain⟨u,fp,g,r,n,z⟩:=q;refine⟨u,fp,g,r.up e.f e.h,n,λa ha=>⟨(z a ha).1,?_⟩⟩;obtain⟨A,m,t⟩:=OT.memM o u fp r a ha;rw[e.n a A m t]
   exact(z a ha).2
  | _=>nomatch p
def aM.slot(h:aM G E H0 Hf H J U)(e:U[i]?=aa s):∃v,J[i]?=aa v/\iI G H0 Hf H v s:=by
 have hi:i<J.length:=by rw[h.len];exact(dD.mp e).1
 exact⟨J[i],by simp[hi],h.at' i _ s (by simp[hi]) e⟩
def aM.imm(h:aM G E H0 Hf H J U)(e:U[i]?=aa (.im d)):∃v,J[i]?=aa (aa v)/\Rep G Hf d v:=by
 obtain⟨v,a,u,b,r⟩:=h.slot e;subst b;exact⟨u,a,r⟩
def aM.ownAt(c:s.isOwn=ac)(h:aM G E H0 Hf H J U)(e:U[i]?=aa s):∃l,J[i]?=aa (aa (.ref l))/\H0 l=ab/\Hf l=ab/\iW G Hf H l s:=by
 obtain⟨v,a,q⟩:=h.slot e;obtain⟨l,b,d⟩:=q.own c;rw[b]at a;exact⟨l,a,d⟩
variable{W6:Nat}
def d7{b:Type}{l:List b}{x y:b}(h:(l.set i x)[W6]?=aa y):(W6=i/\y=x/\i<l.length)\/(W6≠i/\l[W6]?=aa y):=by
 by_cases a:W6=i
 .subst a;left;have hi:W6<l.length:=by have:=(dD.mp h).1;simpa using this
  rw[jV hi]at h;exact⟨rfl,(cN h).symm,hi⟩
 .right;rw[iO (cE a)]at h;exact⟨a,h⟩
def aM.setIm(h:aM G E H0 Hf H J U)(r:Rep G Hf d v):aM G E H0 Hf H (J.set i (aa v)) (U.set i (.im d)):=by
 refine⟨h.ext,by simpa using h.len,λW6 u s a b=>?_,λW6 k s t u w l a b c d' p q=>?_⟩
 .rcases d7 b with⟨e,f,_⟩ |⟨e,b⟩
  .subst e f
   rcases d7 a with⟨_,f,_⟩ |⟨e,_⟩
   .subst f;exact⟨v,rfl,r⟩
   .exact absurd rfl e
  .rcases d7 a with⟨f,_⟩ |⟨_,a⟩
   .exact absurd f e
   .exact h.at' W6 u s a b
 .rcases d7 a with⟨e,f,_⟩ |⟨e,a⟩
  .subst f;exact(p.calm rfl).elim
  .rcases d7 b with⟨g,f,_⟩ |⟨g,b⟩
   .subst f;exact(q.calm rfl).elim
   .rcases d7 c with⟨f,_⟩ |⟨_,c⟩
    .exact absurd f e
    .rcases d7 d' with⟨f,_⟩ |⟨_,d'⟩
     .exact absurd f g
     .exact h.dj W6 k s t u w l a b c d' p q
variable{u:V}
def aM.setNew(h:aM G E H0 Hf H J U)(e:Ext Hf H j H')(x:iI G H0 j H' (aa u) s)(hn:∀a,Holds G j H' s u a->H a=ab):
  aM G E H0 j H' (J.set i (aa u)) (U.set i s):=by
 have h':=h.step e
 have no:∀W6 t w a,U[W6]?=aa t->J[W6]?=aa _->Holds G j H' t w a->Holds G j H' s u a->False:=λW6 t w a b c p q=>by
  obtain⟨o,x,_⟩:=(h.at' W6 _ t c b).there ((h.at' W6 _ t c b).back (λo fp _ r=>r.up e.f e.h) p);rw[hn a q]at x;nomatch x
 refine⟨h'.ext,by simpa using h.len,λW6 w t a b=>?_,λW6 k t t' v w l a b c d' p q=>?_⟩
 .rcases d7 b with⟨e,d,_⟩ |⟨e,b⟩
  .subst e d
   rcases d7 a with⟨_,d,_⟩ |⟨e,_⟩
   .subst d;exact x
   .exact absurd rfl e
  .rcases d7 a with⟨d,_⟩ |⟨_,a⟩
   .exact absurd d e
   .exact h'.at' W6 w t a b
 .rcases d7 a with⟨n,y,_⟩ |⟨n,a⟩
  .rcases d7 b with⟨g,m,_⟩ |⟨g,b⟩
   .rw[n,g]
   .rcases d7 c with⟨_,d,_⟩ |⟨d,_⟩
    .cases d;rw[y]at p
     rcases d7 d' with⟨d,_⟩ |⟨_,d'⟩
     .exact absurd d g
     .exact(no k t' w l b d' q p).elim
    .exact absurd n d
  .rcases d7 c with⟨d,_⟩ |⟨_,c⟩
   .exact absurd d n
   .rcases d7 b with⟨g,m,_⟩ |⟨g,b⟩
    .rcases d7 d' with⟨_,d,_⟩ |⟨d,_⟩
     .cases d;rw[m]at q;exact(no W6 t v l a c p q).elim
     .exact absurd g d
    .rcases d7 d' with⟨d,_⟩ |⟨_,d'⟩
     .exact absurd d g
     .exact h'.dj W6 k t t' v w l a b c d' p q
def aM.setOwn(b:s.isOwn=ac)(h:aM G E H0 Hf H J U)(e:Ext Hf H j H')(hn:H l=ab)(c:j l=ab)(d:iW G j H' l s):
  aM G E H0 j H' (J.set i (aa (.ref l))) (U.set i s):=
 h.setNew e (.ofOwn b ⟨l,rfl,h.ext.h.free hn,c,d⟩) λa p=>by cases (Holds.own b).mp p;exact hn
variable{s':Sl}
def aM.chg(h:aM G E H0 Hf H J U)(e:U[i]?=aa s)(L:J[i]?=aa (aa v))(k:∀b u,H b=aa u->Holds G Hf H s v b\/H' b=aa u)(ho:iI G H0 Hf H' (aa v) s')
 (hh:∀a,Holds G Hf H' s' v a->Holds G Hf H s v a\/∀(W6:Nat) (t:Sl) (w:V),U[W6]?=aa t->J[W6]?=aa (aa w)->Holds G Hf H t w a->False):aM G E H0 Hf H' J (U.set i s'):=by
 have q:=h.at' i _ s L e
 have j:∀b,Holds G Hf H s v b->H0 b=ab/\Hf b=ab:=λb p=>by
  cases hs:s.isOwn with
  |true=>
   obtain⟨l,I,h0,hf,_⟩:=q.own hs;have m:=(Holds.own hs).mp p;cases I;cases m
   exact⟨h0,hf⟩
  |false=>
   cases s with
   |deep o=>
    obtain⟨u,fp,I,r,n,z⟩:=q;cases I;obtain⟨fp',r',ha⟩:=p;have:=OT.funM o v fp fp' r r';subst this
    exact z b ha
   | _=>first |exact qN p.1 |nomatch hs
 have fr:∀W6 t w,W6≠i->U[W6]?=aa t->J[W6]?=aa (aa w)->∀o fp,t=.deep o->OT G Hf H o w fp->OT G Hf H' o w fp:=λW6 t w hj b c o fp et r=>by
  subst et;refine r.frame (aR.refl _) λx u hx hm=>?_
  rcases k x u hx with z |z
  .rcases hm with hm |hm
   .obtain⟨o',g,M⟩:=q.there z;rw[hx]at g;cases g;rw[hm]at M
    nomatch M
   .exact absurd (h.dj W6 i _ s w v x b e c L ⟨fp,r,hm⟩ z) hj
  .exact z
 refine⟨⟨h.ext.f,λb u e=>?_,λb u e=>?_,h.ext.n⟩,by simpa using h.len,λW6 u t a b=>?_,λW6 j' t t' w w' a b c b' Q p p'=>?_⟩
 .rcases k b u (h.ext.h b u e)with z |z
  .rw[(j b z).1]at e;nomatch e
  .exact z
 .rcases k b u (h.ext.s b u e)with z |z
  .rw[(j b z).2]at e;nomatch e
  .exact z
 .rcases d7 b with⟨T,m,_⟩ |⟨Y,b⟩
  .subst T m;rw[L]at a;cases a;exact ho
  .have q':=h.at' W6 u t a b
   cases ht:t.isOwn with
   |false=>
    cases t with
    |no=>trivial
    |im d=>exact q'
    |val u=>exact q'
    |deep o=>
     obtain⟨w,fp,I,r,n,z⟩:=q';subst I
     exact⟨w,fp,rfl,fr W6 _ w Y b a o fp rfl r,n,z⟩
    | _=>nomatch ht
   |true=>
    obtain⟨l2,m,e3,e4,q2⟩:=q'.own ht;subst m;refine .ofOwn ht ⟨l2,rfl,e3,e4,q2.up (aR.refl _) λo' g=>?_⟩
    rcases k l2 o' g with z |z
    .exact absurd (h.dj W6 i t s _ v l2 b e a L ((Holds.own ht).mpr rfl) z) Y
    .exact z
 .have A:∀W6 t w,_[W6]?=aa t->J[W6]?=aa (aa w)->Holds G Hf H' t w a->(W6=i/\∀W6 t w,U[W6]?=aa t->J[W6]?=aa (aa w)->Holds G Hf H t w a->False)\/∃N,U[W6]?=aa N/\Holds G Hf H N w a:=λW6 t w b y p=>by
   rcases d7 b with⟨T,m,_⟩ |⟨Y,b⟩
   .rw[m]at p;rw[T,L]at y;cases y;rw[T]
    rcases hh a p with z |z
    .exact .inr ⟨s,e,z⟩
    .exact .inl ⟨rfl,z⟩
   .exact .inr ⟨t,b,(h.at' W6 _ t y b).back (fr W6 t w Y b y) p⟩
  rcases A W6 t w b b' p with⟨z1,z2⟩ |⟨N,z1,z2⟩
  .rcases A j' t' w' c Q p' with⟨B,C⟩ |⟨t1,B,C⟩
   .rw[z1,B]
   .exact(z2 j' t1 w' B Q C).elim
  .rcases A j' t' w' c Q p' with⟨B,C⟩ |⟨t1,B,C⟩
   .exact(C W6 N w z1 b' z2).elim
   .exact h.dj W6 j' N t1 w w' a z1 B b' Q z2 C
def aM.mutd{o:HO}(d:s.isOwn=ac)(c:s'.isOwn=ac)(h:aM G E H0 Hf H J U)(e:U[i]?=aa s)(g:J[i]?=aa (aa (.ref l)))(t:iW G Hf (upd H l o) l s'):
  aM G E H0 Hf (upd H l o) J (U.set i s'):=by
 obtain⟨v,f,m,r,q⟩:=h.ownAt d e;rw[g]at f;cases f;refine h.chg e g (λb u n=>?_) (.ofOwn c ⟨l,rfl,m,r,t⟩) λa p=>.inl ((Holds.own d).mpr ((Holds.own c).mp p))
 by_cases j:b=l
 .subst j;exact .inl ((Holds.own d).mpr rfl)
 .exact .inr (by rw[bG j];exact n)
def aM.fixd{o:HO}(C:s.isOwn=ac)(h:aM G E H0 Hf H J U)(e:U[i]?=aa s)(j:J[i]?=aa (aa (.ref l)))(ho:H l=aa o)(hr:Rep G (upd Hf l o) d (.ref l)):
  aM G E H0 (upd Hf l o) H J (U.set i (.im d)):=by
 obtain⟨l',f,h0,g,q⟩:=h.ownAt C e;rw[j]at f;cases f;refine h.re (h.ext.fix h0 g ho) (by simp) (λW6 u t a b=>?_) λW6 t v a b c p=>?_
 .rcases d7 b with⟨e,A,_⟩ |⟨L,b⟩
  .subst e A;rw[j]at a;cases a;exact⟨_,rfl,hr⟩
  .have q:=h.at' W6 u t a b
   cases m:t.isOwn with
   |false=>
    cases t with
    |no=>trivial
    |im d=>obtain⟨N,f,r⟩:=q;exact⟨N,f,r.up (cJ g)⟩
    |val N=>exact q
    |deep o=>
     obtain⟨w,fp,f,r,n,z⟩:=q;subst f;refine⟨w,fp,rfl,r.up (cJ g) (aR.refl _),n,λx I=>⟨(z x I).1,?_⟩⟩;rw[bG (λy=>?_)]
     .exact(z x I).2
     .subst y
      exact L (h.dj W6 i _ s w _ x b e a j ⟨fp,r,I⟩ ((Holds.own C).mpr rfl))
    | _=>nomatch m
   |true=>
    obtain⟨M,Q,T,Y,q2⟩:=q.own m;subst Q;refine .ofOwn m ⟨M,rfl,T,?_,q2.up (cJ g) λo' B=>B⟩;rw[bG (λz=>?_)]
    .exact Y
    .subst z;exact L (h.inj W6 i t s M b e m C a j)
 .rcases d7 b with⟨_,A,_⟩ |⟨_,b⟩
  .subst A;exact(p.calm rfl).elim
  .exact⟨t,b,(h.at' W6 _ t c b).back (λo fp _ r=>r.up (cJ g) (aR.refl _)) p⟩
def PE.imp{t':TE}(h:PE X e t)(i:∀J H Q,t' J H Q->t J H Q):PE X e t':=λB s J H Q I q=>h B s J H Q I (i J H Q q)
variable{t':TT}
def PT.imp{t:TT}(h:PT X e t)(i:∀J H Q,t' J H Q->t J H Q):PT X e t':=λB s J H Q I q=>h B s J H Q I (i J H Q q)
def PW.imp{t:TT}(h:PW X e t)(i:∀J H Q,t' J H Q->t J H Q):PW X e t':=λa B s J H Q I q=>h a B s J H Q I (i J H Q q)
variable{es:LEx}
def PA.imp{t t':TA}(h:PA X es t)(i:∀J H Q,t' J H Q->t J H Q):PA X es t':=λpos B s J H Q I q=>h pos B s J H Q I (i J H Q q)
def PS.imp{st:Stmt}{t t':TS}(h:PS X st t)(i:∀W5 J H,t' W5 J H->t W5 J H):PS X st t':=λB s J H W5 I q=>h B s J H W5 I (i W5 J H q)
def PSs.imp{st:List Stmt}{t t':TS}(h:PSs X st t)(i:∀W5 J H,t' W5 J H->t W5 J H):PSs X st t':=λB s J H W5 I q=>h B s J H W5 I (i W5 J H q)
def PG.imp{t t':TG}(h:PG X e t)(i:∀v J H Q,t' v J H Q->t v J H Q):PG X e t':=λB s J H v u Q I r q=>h B s J H v u Q I r (i v J H Q q)
def PGs.imp{t t':TGs}(h:PGs X es t)(i:∀v J H Q,t' v J H Q->t v J H Q):PGs X es t':=λB s J H v u Q I r q=>h B s J H v u Q I r (i v J H Q q)
def PI.imp{t t':TI}(h:PI X tg e t)(i:∀J H R,t' J H R->t J H R):PI X tg e t':=λB s J H R I q=>h B s J H R I (i J H R q)
def PTs.imp{t:TT}(h:PTs X cc t)(i:∀J H Q,t' J H Q->t J H Q):PTs X cc t':=λB s J H Q I q=>h B s J H Q I (i J H Q q)
def OpR.imp{f:Value->Value->Sem Value}{r a:R2}(h:OpR X f r)(i:∀x y H Q,a x y H Q->r x y H Q):OpR X f a:=λB s J H x y v u Q I b c q=>h B s J H x y v u Q I b c (i x y H Q q)
def gi.imp{f:Value}{r a:LVv->Hp->VK->Prop}(h:gi X f r)(i:∀M H Q,a M H Q->r M H Q):gi X f a:=λB s J H M us Q I b q=>h B s J H M us Q I b (i M H Q q)
nonrec def Gx(c:Str->Addr)(X:Cx):Gc:=⟨X.K,c⟩
inductive tD(G:Gc)(f:MF1)(J:St)(H:Hp)(Q:VK):Prop
 |mk:∀E H0 Hf U d,aM G E H0 Hf H J U->f U=aa d->(∀v j H',Ext Hf H j H'->Rep G j d v->Q v H')->tD G f J H Q
inductive tDB(G:Gc)(f:MF1)(J:St)(H:Hp)(Q:VK):Prop
 |mk:∀E H0 Hf U d,aM G E H0 Hf H J U->f U=aa d->(∀v j H',Ext Hf H j H'->Rep G H' d v->Q v H')->tDB G f J H Q
inductive tDC(G:Gc)(f:MF2)(J:St)(H:Hp)(Q:VK):Prop
 |mk:∀E H0 Hf U ds,aM G E H0 Hf H J U->f U=aa ds->(∀a L j H',Ext Hf H j H'->(SqL G.K H' a L\/SqT G.K H' a L)->aF G j ds L->Q (.ref a) H')->tDC G f J H Q
inductive tDO(G:Gc)(f:MF2)(J:St)(H:Hp)(Q:VK):Prop
 |mk:∀E H0 Hf U ds,aM G E H0 Hf H J U->f U=aa ds->(∀l L j H',Ext Hf H j H'->H l=ab->j l=ab->H' l=aa (.lst L)->aF G j ds L->Q (.ref l) H')->tDO G f J H Q
inductive tDA(G:Gc)(f:MF2)(J:St)(H:Hp)(Q:LVv->Hp->Prop):Prop
 |mk:∀E H0 Hf U ds,aM G E H0 Hf H J U->f U=aa ds->(∀L j H',Ext Hf H j H'->aF G j ds L->Q L H')->tDA G f J H Q
inductive Gk(G:Gc)(f:MF2)(J:St)(H:Hp)(Q:LVv->Hp->Prop):Prop
 |mk:∀E H0 Hf U ds,aM G E H0 Hf H J U->f U=aa ds->(∀L j H',Ext Hf H j H'->aF G H' ds L->Q L H')->Gk G f J H Q
inductive tDT(G:Gc)(f:MF4)(J:St)(H:Hp)(Q:Bool->Hp->Prop):Prop
 |mk:∀E H0 Hf U b,aM G E H0 Hf H J U->f U=aa b->(∀j H',Ext Hf H j H'->Q b H')->tDT G f J H Q
abbrev DE(c:Str->Addr)(X:Cx)(e:Expr)(f:MF1):Prop:=PE X e (tD (Gx c X) f)
abbrev DB(c:Str->Addr)(X:Cx)(e:Expr)(f:MF1):Prop:=PE X e (tDB (Gx c X) f)
abbrev DC(c:Str->Addr)(X:Cx)(e:Expr)(f:MF2):Prop:=PE X e (tDC (Gx c X) f)
abbrev DO(c:Str->Addr)(X:Cx)(e:Expr)(f:MF2):Prop:=PE X e (tDO (Gx c X) f)
structure DA(c:Str->Addr)(X:Cx)(es:LEx)(f:MF2):Prop where
 pa:PA X es (tDA (Gx c X) f)
 len:∀U ds,f U=aa ds->ds.length=es.length
structure DAB(c:Str->Addr)(X:Cx)(es:LEx)(f:MF2):Prop where
 pa:PA X es (Gk (Gx c X) f)
 len:∀U ds,f U=aa ds->ds.length=es.length
abbrev DT(c:Str->Addr)(X:Cx)(e:Expr)(f:MF4):Prop:=PT X e (tDT (Gx c X) f)
abbrev DW(c:Str->Addr)(X:Cx)(e:Expr)(f:MF4):Prop:=PW X e (tDT (Gx c X) f)
abbrev D.scalar:D->Bool
 |.non=>ac
 |.bl _=>ac
 |.int _=>ac
 |.str _=>ac
 | _=>ag
def Rep.sc(a:d.scalar=ac)(r:Rep G H d v):Rep G H' d v:=by
 cases d <;> first |exact r |cases a
abbrev kh:D->OLD
 |.lst M=>aa M
 |.tup M=>aa M
 |.kl M=>aa M
 |.kt M=>aa M
 | _=>ab
def vq(e:kh d=aa ds)(r:Rep G H d v):∃a L,v=.ref a/\(SqL G.K H a L\/SqT G.K H a L)/\aF G H ds L:=by
 cases d with
 |lst M=>cases e;obtain⟨a,L,b,q,r⟩:=r;exact⟨a,L,b,.inl (SqL.of q),r⟩
 |tup M=>cases e;obtain⟨a,L,b,q,r⟩:=r;exact⟨a,L,b,.inr (SqT.of q),r⟩
 |kl M=>cases e;obtain⟨a,L,b,q,r⟩:=r;exact⟨a,L,b,.inl q,r⟩
 |kt M=>cases e;obtain⟨a,L,b,q,r⟩:=r;exact⟨a,L,b,.inr q,r⟩
 | _=>nomatch e
def z7(s:aR H H')(h:SqL K H a L\/SqT K H a L):SqL K H' a L\/SqT K H' a L:=h.imp s.seq s.tup
abbrev aU(f:MF2)(U:LS):OD:=(f U).map .lst
abbrev bJ(f:MF2)(U:LS):OD:=(f U).map .tup
abbrev bn(f:MF1)(U:LS):OLD:=(f U).bind kh
abbrev pE(f g:MF1)(U:LS):OD:=(f U).or (g U)
variable{c:Str->Addr}{f:MF1}
def DE.db(h:DE c X e f):DB c X e f:=PE.imp h λJ H Q b=>by
 obtain⟨E,H0,Hf,U,d,st,a,k⟩:=b;exact(⟨E,H0,Hf,U,d,st,a,λv j H' x r=>k v j H' x (r.up x.s)⟩)
def DE.dc(h:DE c X e f):DC c X e (bn f):=PE.imp h λJ H Q l=>by
 obtain⟨E,H0,Hf,U,ds,st,b,k⟩:=l;unfold bn at b
 cases g:f U with
 |none=>rw[g]at b;nomatch b
 |some d=>
  rw[g]at b;refine⟨E,H0,Hf,U,d,st,g,λv j H' x r=>?_⟩;obtain⟨a,L,i,q,rs⟩:=vq b r;subst i;exact k a L j H' x (z7 x.s q) rs
def DO.de{f:MF2}(h:DO c X e f):DE c X e (aU f):=PE.imp h λJ H Q m=>by
 obtain⟨E,H0,Hf,U,d,st,a,k⟩:=m;unfold aU at a
 cases b:f U with
 |none=>rw[b]at a;nomatch a
 |some ds=>
  rw[b]at a;have a:=cN a;subst a;exact⟨E,H0,Hf,U,ds,st,b,λl L j H' x hn g i r=>k _ _ H' (x.fix hn g i) ⟨l,L,rfl,bL,r.up (cJ g)⟩⟩
def DO.dc{f:MF2}(h:DO c X e f):DC c X e f:=PE.imp h λJ H Q d=>by
 obtain ⟨E,H0,Hf,U,ds,st,a,k⟩:=d;exact (
 ⟨E,H0,Hf,U,ds,st,a,λl L j H' x hn g b r=>k l L j H' x (.inl (SqL.of b)) r⟩)
def DE.orE{g:MF1}(h:DE c X e f)(h':DE c X e g):DE c X e (pE f g):=λB s J H Q I i=>by
 obtain⟨E,H0,Hf,U,d,st,a,k⟩:=i;unfold pE at a
 cases b:f U with
 |some d'=>
  rw[b]at a;cases a
  exact h B s J H Q I ⟨E,H0,Hf,U,_,st,b,k⟩
 |none=>
  rw[b]at a;exact h' B s J H Q I ⟨E,H0,Hf,U,d,st,a,k⟩
abbrev ae(i:Nat)(U:LS):OD:=match U[i]? with
 |some (.im d)=>aa d
 | _=>ab
abbrev jy(i:Nat)(U:LS):OD:=match U[i]? with
 |some (.im d)=>aa d
 |some (.own M)=>aa (.lst M)
 |some (.ownd C M)=>aa (.dic C M)
 |some (.deep o)=>if o.kn then aa o.toD else ab
 | _=>ab
abbrev au(i:Nat)(U:LS):OLD:=match U[i]? with
 |some (.im d)=>kh d
 |some (.own M)=>aa M
 | _=>ab
def Ot(h:ae i U=aa d):U[i]?=aa (.im d):=by
 unfold ae at h
 grind
def z8(h:PE X e (eO i)):DE c X e (ae i):=PE.imp h λJ H Q f=>by
 obtain⟨E,H0,Hf,U,d,st,b,k⟩:=f;obtain⟨v,a,r⟩:=st.imm (Ot b);exact⟨v,a,k v Hf H (Ext.refl st.sub) r⟩
def Gm(h:PE X e (eO i)):DC c X e (au i):=PE.imp h λJ H Q j=>by
 obtain⟨E,H0,Hf,U,ds,st,b,k⟩:=j;unfold au at b
 cases es:U[i]? with
 |none=>rw[es]at b;nomatch b
 |some s=>
  rw[es]at b
  cases s with
  |im d=>
   obtain⟨v,f,r⟩:=st.imm es;obtain⟨a,L,g,q,rs⟩:=vq b r;subst g
   exact⟨_,f,k a L Hf H (Ext.refl st.sub) (z7 st.sub q) rs⟩
  |own M=>
   cases b;obtain⟨l,f,_,_,L,q,r⟩:=st.ownAt rfl es
   exact⟨_,f,k l L Hf H (Ext.refl st.sub) (.inl (SqL.of q)) r⟩
  | _=>nomatch b
def Ou(h:PE X e (eO i)):DB c X e (jy i):=PE.imp h λJ H Q j=>by
 obtain⟨E,H0,Hf,U,d,st,a,k⟩:=j;unfold jy at a
 cases es:U[i]? with
 |none=>simp only[es]at a;nomatch a
 |some s=>
  rw[es]at a
  cases s with
  |im d=>
   cases a;obtain⟨v,b,r⟩:=st.imm es
   exact⟨_,b,k v Hf H (Ext.refl st.sub) (r.up st.sub)⟩
  |own M=>
   cases a;obtain⟨l,b,_,_,L,q,r⟩:=st.ownAt rfl es
   exact⟨_,b,k _ Hf H (Ext.refl st.sub) ⟨l,L,rfl,q,r.up st.sub⟩⟩
  |ownd C M=>
   cases a;obtain⟨l,b,_,_,L,q,z,r⟩:=st.ownAt rfl es
   exact⟨_,b,k _ Hf H (Ext.refl st.sub) ⟨l,L,rfl,q,z,r.up st.sub⟩⟩
  |deep o=>
   replace a:(if o.kn=ac then aa o.toD else ab)=aa d:=a;split at a
   .rename_i g;cases a;obtain⟨v,b,u,fp,f,r,_⟩:=st.slot es;subst f;exact⟨_,b,k _ Hf H (Ext.refl st.sub) (r.rep st.sub g)⟩
   .nomatch a
  | _=>nomatch a
def vv(h:PE X e (tC v))(r:∀G H,Rep G H d v):DE c X e (λ_=>aa d):=PE.imp h λJ H Q b=>by
 obtain⟨E,H0,Hf,U,d',st,a,k⟩:=b;cases a;exact k v Hf H (Ext.refl st.sub) (r _ _)
def aj{pos:Pos}{i:Int}{W6}:DE c X (.Constant (.int i) W6 pos) (λ_=>aa (.int i)):=vv L7 λ_ _=>rfl
def rV{pos:Pos}{i:Bool}{W6}:DE c X (.Constant (.bool i) W6 pos) (λ_=>aa (.bl i)):=vv L8 λ_ _=>rfl
def pG{pos:Pos}{W6}:DE c X (.Constant .none W6 pos) kN:=vv L9 λ_ _=>rfl
def aB{pos:Pos}{i:Str}{W6}:DE c X (.Constant (.str i) W6 pos) (λ_=>aa (.str i)):=vv Ma λ_ _=>rfl
def dv{pos:Pos}(i:Nat)(b:X.N[i]?=aa x:=by rfl)(d:Vis X.env.scope x:=by first |exact cF rfl |exact bP (cF rfl) |exact bP (bP rfl))(hd:NDb x:=by decide)
 (a:NCd x:=by decide):DE c X (.Name x pos) (ae i):=z8 (lu b d hd a)
def dvC{pos:Pos}(i:Nat)(b:X.N[i]?=aa x:=by rfl)(d:Vis X.env.scope x:=by first |exact cF rfl |exact bP (cF rfl) |exact bP (bP rfl))(hd:NDb x:=by decide)
 (a:NCd x:=by decide):DC c X (.Name x pos) (au i):=Gm (lu b d hd a)
def dvB{pos:Pos}(i:Nat)(b:X.N[i]?=aa x:=by rfl)(d:Vis X.env.scope x:=by first |exact cF rfl |exact bP (cF rfl) |exact bP (bP rfl))(hd:NDb x:=by decide)
 (a:NCd x:=by decide):DB c X (.Name x pos) (jy i):=Ou (lu b d hd a)
abbrev af(f:MF1)(g:MF2)(U:LS):OLD:=(f U).bind λd=>(g U).map λds=>d::ds
variable{g:MF2}
def vw(h:af f g U=aa ds):∃d r,f U=aa d/\g U=aa r/\ds=d::r:=by
 unfold af at h
 cases a:f U with
 |none=>rw[a]at h;nomatch h
 |some d=>
  cases b:g U with
  |none=>rw[a,b]at h;nomatch h
  |some r=>rw[a,b]at h;cases h;exact⟨d,r,rfl,rfl,rfl⟩
def ap:DA c X [] nZ:=⟨PA.imp bM λJ H Q b=>by obtain⟨E,H0,Hf,U,ds,st,a,k⟩:=b;cases a;exact k [] Hf H (Ext.refl st.sub) rfl,λU ds h=>by cases h;rfl⟩
def ah(ha:DE c X e f)(i:DA c X es g)(n:StE X e es:=by rfl):DA c X (e::es) (af f g):=by
 refine⟨PA.imp (bC ha i.pa n) λJ H Q o=>?_,λU ds h=>?_⟩
 .obtain⟨E,H0,Hf,U,ds,st,m,k⟩:=o;obtain⟨d,r,b,a,rfl⟩:=vw m;exact⟨E,H0,Hf,U,d,st,b,λv al H1 j p=>⟨E,H0,al,U,r,st.step j,a,λL a0 H2 l q=>k _ a0 H2 (j.trans l) (.cons (p.up l.f) q)⟩⟩
 .obtain⟨d,r,b,a,rfl⟩:=vw h;simp[i.len U r a]
def ff:DAB c X [] nZ:=⟨PA.imp bM λJ H Q b=>by obtain⟨E,H0,Hf,U,ds,st,a,k⟩:=b;cases a;exact k [] Hf H (Ext.refl st.sub) rfl,λU ds h=>by cases h;rfl⟩
def dU(ha:DB c X e f)(i:DAB c X es g)(n:StE X e es:=by rfl):DAB c X (e::es) (af f g):=by
 refine⟨PA.imp (bC ha i.pa n) λJ H Q o=>?_,λU ds h=>?_⟩
 .obtain⟨E,H0,Hf,U,ds,st,m,k⟩:=o;obtain⟨d,r,b,a,rfl⟩:=vw m;exact⟨E,H0,Hf,U,d,st,b,λv al H1 j p=>⟨E,H0,al,U,r,st.step j,a,λL a0 H2 l q=>k _ a0 H2 (j.trans l) (.cons (p.up l.h) q)⟩⟩
 .obtain⟨d,r,b,a,rfl⟩:=vw h;simp[i.len U r a]
def bD{pos:Pos}{f:MF2}(h:DA c X es f)(hz:es.length<=1000:=by exact oY rfl):DO c X (.List es pos) f:=PE.imp (rO h.pa) λJ H Q d=>by
 obtain ⟨E,H0,Hf,U,ds,st,b,k⟩:=d;exact (
 ⟨E,H0,Hf,U,ds,st,b,λL j H' x r=>⟨by
  rw[<- r.length,h.len U ds b];exact k9 (pj hz),λp a=>k p L j _ (x.trans (Ext.tmp x.s a)) (x.h.free a) (x.s.free a) bL r⟩⟩)
variable{k':Nat}
def cb{pos:Pos}{f:MF2}(h:DA c X es f)(hz:es.length<=1000:=by exact oY rfl):DE c X (.Tuple es k' pos) (bJ f):=PE.imp (FF h.pa) λJ H Q g=>by
 obtain⟨E,H0,Hf,U,d,st,a,k⟩:=g;unfold bJ at a
 cases b:f U with
 |none=>rw[b]at a;nomatch a
 |some ds=>
  rw[b]at a;have a:=cN a;subst a
  exact⟨E,H0,Hf,U,ds,st,b,λL j H' x r=>⟨by
   rw[<- r.length,h.len U ds b];exact k9 (pj hz),λp e=>k _ _ _ (x.trans (Ext.new x.s e)) ⟨p,L,rfl,bL,r.up (cJ (x.s.free e))⟩⟩⟩
abbrev rD(G:Gc)(m:D->D->OD):R2:=λa b H Q=>∃Hf x y d,aR Hf H/\Rep G Hf x a/\Rep G Hf y b/\m x y=aa d/\∀v j H',Ext Hf H j H'->Rep G j d v->Q v H'
nonrec abbrev OpD(c:Str->Addr)(X:Cx)(f:Value->Value->Sem Value)(m:D->D->OD):Prop:=OpR X f (rD (Gx c X) m)
abbrev m2(m:D->D->OD)(f g:MF1)(U:LS):OD:=(f U).bind λx=>(g U).bind λy=>m x y
variable{m:D->D->OD}{g:MF1}
def pH(h:m2 m f g U=aa d):∃x y,f U=aa x/\g U=aa y/\m x y=aa d:=by
 unfold m2 at h
 cases a:f U with
 |none=>rw[a]at h;nomatch h
 |some x=>
  cases b:g U with
  |none=>rw[a,b]at h;nomatch h
  |some y=>rw[a,b]at h;exact⟨x,y,rfl,rfl,h⟩
variable{r:R2}
def two(p:∀x y H Q,rD (Gx c X) m x y H Q->r x y H Q)(h:tD (Gx c X) (m2 m f g) J H Q):tOp r (tD (Gx c X) f) (tD (Gx c X) g) J H Q:=by
 obtain⟨E,H0,Hf,U,d,st,o,k⟩:=h;obtain⟨x,y,j,l,n⟩:=pH o;exact⟨E,H0,Hf,U,x,st,j,λv al H1 e q=>⟨E,H0,al,U,y,st.step e,l,λu a0 H2 b t=>p _ _ _ _ ⟨a0,x,y,d,b.s,q.up b.f,t,n,λw a i A z=>k w a i ((e.trans b).trans A) z⟩⟩⟩
def Gn(p:∀x y H Q,rD (Gx c X) m x y H Q->r x y H Q)(q:∀x y d,m x y=aa d->d.scalar=ac)(h:tD (Gx c X) (m2 m f g) J H Q):tOp r (tDB (Gx c X) f) (tDB (Gx c X) g) J H Q:=by
 obtain⟨E,H0,Hf,U,d,st,o,k⟩:=h;obtain⟨x,y,l,n,b⟩:=pH o
 exact⟨E,H0,Hf,U,x,st,l,λv al H1 e t=>⟨E,H0,al,U,y,st.step e,n,λu a0 H2 a z=>p _ _ _ _ ⟨H2,x,y,d,aR.refl _,t.up a.h,z,b,λw j i B A=>
  k w a0 i ((e.trans a).trans (Ext.grow a.s B.h)) (A.sc (q _ _ _ b))⟩⟩⟩
variable{a b:Expr}
def bW{pos:Pos}{d:Operator}(i:OpD c X (gh d) m)(ha:DE c X a f)(e:DE c X b g):DE c X (.BinOp a d b pos) (m2 m f g):=
 PE.imp (zC i ha e) λ_ _ _ h=>two (λ_ _ _ _ h=>h) h
variable{op:CmpOp}
def ki{pos:Pos}(i:OpD c X (dP op) m)(j:∀x y d,m x y=aa d->d.scalar=ac)(ha:DB c X a f)(e:DB c X b g)(hm:nt op b=ag:=by first |exact zH _ |rfl):
  DE c X (.Compare a [op] [b] pos) (m2 m f g):=PE.imp (M4 i ha e hm) λ_ _ _ h=>Gn (λ_ _ _ _ h=>h) j h
abbrev mB(f:MF1)(U:LS):Option Bool:=(f U).bind λd=>match d with
 |.bl b=>aa b
 | _=>ab
def vz{b:Bool}(h:mB f U=aa b):f U=aa (.bl b):=by
 unfold mB at h
 cases e:f U with
 |none=>rw[e]at h;nomatch h
 |some d=>rw[e]at h;cases d <;> cases h;rfl
def bv{pos:Pos}(l:OpD c X (dP op) m)(n:∀x y d,m x y=aa d->d.scalar=ac)(ha:DB c X a f)(i:DB c X b g)(hm:nt op b=ag:=by first |exact zH _ |rfl):
  DT c X (.Compare a [op] [b] pos) (mB (m2 m f g)):=PT.imp (Fw l ha i hm) λJ H Q o=>by
 obtain ⟨E,H0,Hf,U,b,st,e,k⟩:=o;exact (
 Gn (λ_ _ _ _ h=>h) n ⟨E,H0,Hf,U,.bl b,st,vz e,λv j H' x r=>⟨b,r,k j H' x⟩⟩)
abbrev nN:D->Option Bool
 |.non=>aa ag
 |.bl b=>aa b
 |.int i=>aa (i != 0)
 |.str x=>if x.length<=16777216 then aa ((x.length:Int) != 0) else ab
 |.lst M=>aa (!M.isEmpty)
 |.tup M=>aa (!M.isEmpty)
 |.kl M=>aa (!M.isEmpty)
 |.kt M=>aa (!M.isEmpty)
 |.dic C _=>aa (!C.isEmpty)
 | _=>ab
def aF.empty(r:aF G H ds L):ds.isEmpty=L.isEmpty:=by
 cases ds with
 |nil=>cases (r);rfl
 |cons d ds=>obtain⟨v,a,e,_⟩:=r;subst e;rfl
def Ov{a b:Type}{C:List a}{L:List b}(h:C.length=L.length):(C.zip L).isEmpty=C.isEmpty:=by
 cases C <;> cases L <;> first |rfl |cases h
def Go{b:Bool}(e:nN d=aa b)(r:Rep G H d v):zI G.K v H b:=by
 cases d with
 |non=>cases e;subst r;rfl
 |bl x=>cases e;subst r;rfl
 |int i=>cases e;subst r;rfl
 |str x=>
  subst r;replace e:(if x.length<=16777216 then aa _ else ab)=aa b:=e;split at e
  .rename_i f;cases e;exact⟨by rw[c6];exact f,rfl⟩
  .grind
 |lst M=>cases e;obtain⟨a,L,c,q,r⟩:=r;subst c;exact .inl ⟨L,SqL.of q,by rw[r.empty]⟩
 |tup M=>cases e;obtain⟨a,L,c,q,r⟩:=r;subst c;exact .inr (.inl ⟨L,SqT.of q,by rw[r.empty]⟩)
 |kl M=>cases e;obtain⟨a,L,c,q,r⟩:=r;subst c;exact .inl ⟨L,q,by rw[r.empty]⟩
 |kt M=>cases e;obtain⟨a,L,c,q,r⟩:=r;subst c;exact .inr (.inl ⟨L,q,by rw[r.empty]⟩)
 |dic C M=>cases e;obtain⟨a,L,c,q,l,r⟩:=r;subst c;exact .inr (.inr ⟨_,q,by rw[Ov l]⟩)
 |ins _ _ _=>nomatch e
 |kd _ _=>nomatch e
 |dT _ _=>nomatch e
abbrev gj(f:MF1)(U:LS):Option Bool:=(f U).bind nN
def iX(ha:DB c X a f)(i:∀e,isTrue a X.env e=(do let v <- e;jo a.pos;gb [v] (truthy v)):=by intro _;rfl):DT c X a (gj f):=
 PT.imp (Fy ha i) λJ H Q l=>by
  obtain⟨E,H0,Hf,U,b,st,g,k⟩:=l;unfold gj at g
  cases h:f U with
  |none=>rw[h]at g;nomatch g
  |some d=>
   rw[h]at g;exact⟨E,H0,Hf,U,d,st,h,λv j H' x r=>⟨b,Go g r,k j H' x⟩⟩
abbrev jz(f g:MF4)(U:LS):Option Bool:=(f U).bind λb=>if b then g U else aa ag
abbrev mOr(f g:MF4)(U:LS):Option Bool:=(f U).bind λb=>if b then aa ac else g U
abbrev lv(f:MF4)(U:LS):Option Bool:=(f U).map not
variable{f:MF4}
def DW.dt(h:DW c X e f):DT c X e f:=PW.pt h
def vA{pos:Pos}(h:DT c X a f):DW c X (.BoolOp .And [a] pos) f:=Ff h
def Ow{pos:Pos}(h:DT c X a f):DW c X (.BoolOp .Or [a] pos) f:=Me h
def vB{pos:Pos}{g:MF4}{bH:LEx}(h:DT c X a f)(h':DW c X (.BoolOp .And (b::bH) pos) g):DW c X (.BoolOp .And (a::b::bH) pos) (jz f g):=PW.imp (Fg h h') λJ H Q j=>by
 obtain⟨E,H0,Hf,U,b,st,d,k⟩:=j;unfold jz at d
 cases e:f U with
 |none=>rw[e]at d;nomatch d
 |some x=>
  rw[e]at d;refine⟨E,H0,Hf,U,x,st,e,λal H1 i=>?_⟩
  cases x with
  |true=>rw[if_pos rfl];exact⟨E,H0,al,U,b,st.step i,d,λa0 H2 l=>k a0 H2 (i.trans l)⟩
  |false=>cases d;rw[if_neg cq];exact k al H1 i
def Ox{pos:Pos}{g:MF4}{bH:LEx}(h:DT c X a f)(h':DW c X (.BoolOp .Or (b::bH) pos) g):DW c X (.BoolOp .Or (a::b::bH) pos) (mOr f g):=PW.imp (Mf h h') λJ H Q j=>by
 obtain⟨E,H0,Hf,U,b,st,d,k⟩:=j;unfold mOr at d
 cases e:f U with
 |none=>rw[e]at d;nomatch d
 |some x=>
  rw[e]at d;refine⟨E,H0,Hf,U,x,st,e,λal H1 i=>?_⟩
  cases x with
  |false=>rw[if_neg cq];exact⟨E,H0,al,U,b,st.step i,d,λa0 H2 l=>k a0 H2 (i.trans l)⟩
  |true=>cases d;rw[if_pos rfl];exact k al H1 i
def rW{pos:Pos}(h:DT c X a f):DT c X (.UnaryOp .Not a pos) (lv f):=PT.imp (Fh h) λJ H Q g=>by
 obtain⟨E,H0,Hf,U,b,st,d,k⟩:=g;unfold lv at d
 cases e:f U with
 |none=>rw[e]at d;nomatch d
 |some x=>
  rw[e]at d;cases d;exact⟨E,H0,Hf,U,x,st,e,λal H1 i=>k al H1 i⟩
abbrev mD(f g:MF1)(U:LS):OD:=(mB f U).bind λb=>if b then g U else aa (.bl ag)
abbrev vOr(f g:MF1)(U:LS):OD:=(mB f U).bind λb=>if b then aa (.bl ac) else g U
abbrev rX(f:MF1)(U:LS):OD:=(mB f U).map λb=>.bl (!b)
variable{f:MF1}
def rY{pos:Pos}{op}(h:DE c X a f):DE c X (.BoolOp op [a] pos) f:=Mj h
def vC{pos:Pos}{bH:LEx}(h:DE c X a f)(h':DE c X (.BoolOp .And (b::bH) pos) g):DE c X (.BoolOp .And (a::b::bH) pos) (mD f g):=PE.imp (Ml h h') λJ H Q l=>by
 obtain⟨E,H0,Hf,U,d,st,e,k⟩:=l;unfold mD at e
 cases i:mB f U with
 |none=>rw[i]at e;nomatch e
 |some x=>
  rw[i]at e;refine⟨E,H0,Hf,U,.bl x,st,vz i,λv al H1 j m=>⟨x,m,?_⟩⟩
  cases x with
  |true=>rw[if_pos rfl];exact⟨E,H0,al,U,d,st.step j,e,λv a0 H2 o n=>k v a0 H2 (j.trans o) n⟩
  |false=>cases e;rw[if_neg cq];exact k _ al H1 j rfl
def Oy{pos:Pos}{bH:LEx}(h:DE c X a f)(h':DE c X (.BoolOp .Or (b::bH) pos) g):DE c X (.BoolOp .Or (a::b::bH) pos) (vOr f g):=PE.imp (Mm h h') λJ H Q l=>by
 obtain⟨E,H0,Hf,U,d,st,e,k⟩:=l;unfold vOr at e
 cases i:mB f U with
 |none=>rw[i]at e;nomatch e
 |some x=>
  rw[i]at e;refine⟨E,H0,Hf,U,.bl x,st,vz i,λv al H1 j m=>⟨x,m,?_⟩⟩
  cases x with
  |false=>rw[if_neg cq];exact⟨E,H0,al,U,d,st.step j,e,λv a0 H2 o n=>k v a0 H2 (j.trans o) n⟩
  |true=>cases e;rw[if_pos rfl];exact k _ al H1 j rfl
def Oz{pos:Pos}(h:DE c X a f):DE c X (.UnaryOp .Not a pos) (rX f):=PE.imp (Mn h) λJ H Q g=>by
 obtain⟨E,H0,Hf,U,d,st,b,k⟩:=g;unfold rX at b
 cases e:mB f U with
 |none=>rw[e]at b;nomatch b
 |some x=>
  rw[e]at b;cases b;exact⟨E,H0,Hf,U,.bl x,st,vz e,λv al H1 j i=>⟨x,i,k _ al H1 j rfl⟩⟩
abbrev vIf(t:MF4)(f g:MF1)(U:LS):OD:=(t U).bind λb=>if b then f U else g U
variable{cd:Expr}
def nO{pos:Pos}{t:MF4}(m:DT c X cd t)(ha:DE c X a f)(l:DE c X b g):DE c X (.IfExp cd a b pos) (vIf t f g):=PE.imp (zx m ha l) λJ H Q n=>by
 obtain⟨E,H0,Hf,U,d,st,e,k⟩:=n;unfold vIf at e
 cases i:t U with
 |none=>rw[i]at e;nomatch e
 |some x=>
  rw[i]at e;refine⟨E,H0,Hf,U,x,st,i,λal H1 h=>?_⟩
  cases x with
  |true=>rw[if_pos rfl];exact⟨E,H0,al,U,d,st.step h,e,λv a0 H2 j r=>k v a0 H2 (h.trans j) r⟩
  |false=>rw[if_neg cq];exact⟨E,H0,al,U,d,st.step h,e,λv a0 H2 j r=>k v a0 H2 (h.trans j) r⟩
noncomputable instance {i W6:Int}:Decidable (rH i W6):=by unfold rH;infer_instance
noncomputable instance {i W6:Int}:Decidable (rJ i W6):=by unfold rJ;infer_instance
noncomputable instance {i W6:Int}:Decidable (rK i W6):=by unfold rK;infer_instance
abbrev dI(W4:Int->Int->Prop)[∀i W6,Decidable (W4 i W6)](g:Int->Int->D):D->D->OD
 |.int i,.int W6=>if W4 i W6 then aa (g i W6) else ab
 | _,_=>ab
abbrev dI0(g:Int->Int->D):D->D->OD
 |.int i,.int W6=>aa (g i W6)
 | _,_=>ab
abbrev cv:D->D->OD
 |.int i,.int W6=>aa (.int (i+W6))
 |.str a,.str b=>if a.length+b.length<=16777216 then aa (.str (a++b)) else ab
 |.lst a,.lst b=>if a.length+b.length<=16777216 then aa (.lst (a++b)) else ab
 | _,_=>ab
nonrec def kj:D->D->OD:=dI0 λi W6=>.int (i-W6)
nonrec def rZ:D->D->OD:=dI rH λi W6=>.int (i / W6)
nonrec def iY:D->D->OD:=dI (λ_ W6=>0<W6) λi W6=>.int (i % W6)
nonrec def nP:D->D->OD:=dI rJ λi W6=>.int (i ^ W6.toNat)
nonrec def dLt:D->D->OD:=dI0 λi W6=>.bl (decide (i<W6))
nonrec def dLe:D->D->OD:=dI0 λi W6=>.bl (decide (i<=W6))
nonrec def dGt:D->D->OD:=dI0 λi W6=>.bl (decide (W6<i))
variable{gd:Int->Int->D}
def vD{f:Value->Value->Sem Value}{W4:Int->Int->Prop}[∀i W6,Decidable (W4 i W6)]{g:Int->Int->V}(h:OpR X f (rI W4 g))(b:∀G H i W6,Rep G H (gd i W6) (g i W6)):OpD c X f (dI W4 gd):=by
 rintro B s J H p q v u Q I m n ⟨Hf,x,y,d,o,j,l,e,k⟩;unfold dI at e;split at e
 .split at e
  .rename_i a;cases e;exact h B s J H p q v u Q I m n ⟨_,_,j,l,a,k _ Hf H (Ext.refl o) (b _ _ _ _)⟩
  .nomatch e
 .nomatch e
def vE{f:Value->Value->Sem Value}{g:Int->Int->V}(h:OpR X f (rI0 g))(a:∀G H i W6,Rep G H (gd i W6) (g i W6)):OpD c X f (dI0 gd):=by
 rintro B s J H o p v u Q I l m ⟨Hf,x,y,d,n,b,j,e,k⟩;unfold dI0 at e;split at e
 .cases e;exact h B s J H o p v u Q I l m ⟨_,_,b,j,k _ Hf H (Ext.refl n) (a _ _ _ _)⟩
 .nomatch e
def da:OpD c X (gh .Add) cv:=by
 rintro B s J H m n v u Q I j l ⟨Hf,x,y,d,h,f,g,e,k⟩;unfold cv at e;split at e
 .cases e;exact MR B s J H m n v u Q I j l ⟨_,_,f,g,k _ Hf H (Ext.refl h) rfl⟩
 .split at e
  .rename_i i;cases e;exact Na B s J H m n v u Q I j l ⟨_,_,f,g,by rw[c6];exact i,k _ Hf H (Ext.refl h) rfl⟩
  .nomatch e
 .split at e
  .rename_i i;cases e;obtain⟨a,L,q,t,f⟩:=f;obtain⟨b,us,r,w,g⟩:=g
   exact F1 B s J H m n v u Q I j l ⟨a,b,L,us,q,r,h _ _ t,h _ _ w,by rw[c6,<- f.length,<- g.length];exact i,
    λp o=>k _ _ _ (Ext.new h o) ⟨p,_,rfl,bL,(f.append g).up (cJ (h.free o))⟩⟩
  .nomatch e
 .nomatch e
def nQ:OpD c X (gh .Sub) kj:=vE MS λ_ _ _ _=>rfl
def Gp:OpD c X (gh .FloorDiv) rZ:=vD MT λ_ _ _ _=>rfl
def lw:OpD c X (gh .Mod) iY:=vD MU λ_ _ _ _=>rfl
def r6:OpD c X (gh .Pow) nP:=vD MV λ_ _ _ _=>rfl
def r9:OpD c X (dP .Lt) dLt:=vE MZ λ_ _ _ _=>rfl
def Gq:OpD c X (dP .LtE) dLe:=vE M0 λ_ _ _ _=>rfl
def jA:OpD c X (dP .Gt) dGt:=vE M1 λ_ _ _ _=>rfl
def z9{g:Int->Int->D}(a:∀i W6,(g i W6).scalar=ac):∀x y d,dI0 g x y=aa d->d.scalar=ac:=by
 intro x y d e;unfold dI0 at e;split at e
 .cases e;exact a _ _
 .nomatch e
def se:∀x y d,dLt x y=aa d->d.scalar=ac:=z9 λ_ _=>rfl
def Gr:∀x y d,dLe x y=aa d->d.scalar=ac:=z9 λ_ _=>rfl
def lz:∀x y d,dGt x y=aa d->d.scalar=ac:=z9 λ_ _=>rfl
abbrev jB:D->OD
 |.int i=>aa (.int (-i))
 | _=>ab
abbrev m1(m:D->OD)(f:MF1)(U:LS):OD:=(f U).bind m
def nR{pos:Pos}(ha:DE c X a f):DE c X (.UnaryOp .USub a pos) (m1 jB f):=PE.imp (MQ MW ha) λJ H Q g=>by
 obtain⟨E,H0,Hf,U,d,st,b,k⟩:=g;unfold m1 at b
 cases e:f U with
 |none=>rw[e]at b;nomatch b
 |some y=>
  rw[e]at b
  cases y with
  |int i=>cases b;exact⟨E,H0,Hf,U,.int i,st,e,λv j H' x r=>⟨i,r,k _ j H' x rfl⟩⟩
  | _=>nomatch b
abbrev Gs:D->Bool
 |.non=>ac
 | _=>ag
def OA{x:D}(r:Rep G H x v):decide (v=.non)=Gs x:=by
 cases x with
 |non=>subst r;rfl
 |bl b=>subst r;rfl
 |int i=>subst r;rfl
 |str x=>subst r;rfl
 |lst _=>obtain⟨a,_,e,_⟩:=r;subst e;rfl
 |tup _=>obtain⟨a,_,e,_⟩:=r;subst e;rfl
 |kl _=>obtain⟨a,_,e,_⟩:=r;subst e;rfl
 |kt _=>obtain⟨a,_,e,_⟩:=r;subst e;rfl
 |dic _ _=>obtain⟨a,_,e,_⟩:=r;subst e;rfl
 |ins _ _ _=>obtain⟨a,_,_,e,_⟩:=r;subst e;rfl
 |kd _ _=>obtain⟨a,_,_,e,_⟩:=r;subst e;rfl
 |dT _ _=>obtain⟨a,_,e,_⟩:=r;subst e;rfl
abbrev isD(x y:D):Option Bool:=match y with
 |.non=>aa (Gs x)
 |.bl b=>match x with
  |.non=>aa ag
  |.bl a=>aa (a==b)
  | _=>ab
 | _=>ab
abbrev dIs(x y:D):OD:=(isD x y).map .bl
def Gu:OpD c X (dP .Is) dIs:=by
 rintro B s J H m l v u Q I h i ⟨Hf,x,y,d,j,f,g,e,k⟩
 cases y with
 |non=>
  cases e
  exact M3 B s J H m l v u Q I h i ⟨g,by rw[OA f];exact k _ Hf H (Ext.refl j) rfl⟩
 |bl b=>
  cases x with
  |non=>cases e;subst f;exact Gi B s J H _ l v u Q I h i ⟨b,g,.inl rfl,k _ Hf H (Ext.refl j) rfl⟩
  |bl a=>cases e;subst f;exact Gi B s J H _ l v u Q I h i ⟨b,g,.inr ⟨a,rfl⟩,by rw[vf];exact k _ Hf H (Ext.refl j) rfl⟩
  | _=>nomatch e
 | _=>nomatch e
def sh{x:Option Bool}{g:Bool->Bool}:∀d,x.map (λb=>D.bl (g b))=aa d->d.scalar=ac:=by
 intro d e
 cases x with
 |none=>nomatch e
 |some b=>cases e;rfl
def Gv:∀x y d,dIs x y=aa d->d.scalar=ac:=λ_ _ d e=>sh d e
abbrev eqF:D->D->Bool
 |.non,.non=>ac
 |.bl a,.bl b=>a==b
 |.int a,.int b=>a==b
 |.str a,.str b=>a==b
 | _,_=>ag
abbrev fL(f:D->D->Option Bool):LD->LD->Option Bool
 | [],[]=>aa ac
 |x::M,y::ys=>(f x y).bind λb=>(fL f M ys).map λr=>b && r
 | _,_=>aa ag
abbrev Aa:D->D->Bool
 |.bl _,.int _=>ac
 |.int _,.bl _=>ac
 | _,_=>ag
abbrev Ab(f:D->D->Option Bool):D->D->Option Bool
 |.lst M,.lst ys=>if M.length=ys.length then fL f M ys else aa ag
 |.tup M,.tup ys=>if M.length=ys.length then fL f M ys else ab
 |x,y=>if x.scalar && y.scalar && !Aa x y then aa (eqF x y) else ab
abbrev deq:Nat->D->D->Option Bool
 | 0,_,_=>ab
 |n+1,x,y=>Ab (deq n) x y
abbrev dEq(x y:D):OD:=(deq 20 x y).map .bl
abbrev dNe(x y:D):OD:=(deq 20 x y).map λb=>.bl (!b)
def cR:∀x y d,dEq x y=aa d->d.scalar=ac:=λ_ _ d e=>sh d e
def lA:∀x y d,dNe x y=aa d->d.scalar=ac:=λ_ _ d e=>sh d e
variable{x y:D}{M ys:LD}{b:Bool}
def Gw{f:D->D->Option Bool}(h:fL f (x::M) (y::ys)=aa b):∃a c,f x y=aa a/\fL f M ys=aa c/\b=(a && c):=by
 dsimp only[fL]at h
 cases d:f x y with
 |none=>rw[d]at h;nomatch h
 |some a=>
  cases e:fL f M ys with
  |none=>rw[d,e]at h;nomatch h
  |some c=>rw[d,e]at h;cases h;exact⟨a,c,rfl,rfl,rfl⟩
def nS{f:D->D->Option Bool}:∀{M ys:LD} {b:Bool},M.length=ys.length->fL f M ys=aa b->∃e:Nat->Bool,(∀W6 x y,M[W6]?=aa x->ys[W6]?=aa y->f x y=aa (e W6))/\(cW M.length).all e=b
 | [],[],b,_,h=>by cases h;exact⟨λ_=>ac,λW6 x y e=>by simp at e,rfl⟩
 |x::M,y::ys,b,hl,h=>by
  obtain⟨c,m,d,g,rfl⟩:=Gw h;obtain⟨e,i,ha⟩:=nS (by simpa using hl) g
  refine⟨λW6=>match W6 with | 0=>c |W6+1=>e W6,λW6 j l ex a=>?_,?_⟩
  .cases W6 with
   |zero=>simp at ex a;subst ex a;exact d
   |succ W6=>exact i W6 j l (by simpa using ex) (by simpa using a)
  .rw[bg,range_succ_eq_map,l8,all_map,<- ha]
   rfl
 | [],_::_,_,hl,_=>by cases hl
 | _::_,[],_,hl,_=>by cases hl
def vF(s:d.scalar=ac):d=.non\/(∃b,d=.bl b)\/(∃i,d=.int i)\/∃z,d=.str z:=by
 cases d with
 |non=>exact .inl rfl
 |bl b=>exact .inr (.inl ⟨b,rfl⟩)
 |int i=>exact .inr (.inr (.inl ⟨i,rfl⟩))
 |str z=>exact .inr (.inr (.inr ⟨z,rfl⟩))
 | _=>nomatch s
def vG(c:(x.scalar && y.scalar && !Aa x y)=ac)(d:Rep G H x v)(e:Rep G H y u):gG v=ac/\gG u=ac/\eqV v u=eqF x y/\zE v u=ac/\decide (v=u)=eqF x y:=by
 rw[cV,cV]at c
 rcases vF c.1.1 with rfl |⟨a,rfl⟩ |⟨a,rfl⟩ |⟨a,rfl⟩ <;> rcases vF c.1.2 with rfl |⟨b,rfl⟩ |⟨b,rfl⟩ |⟨b,rfl⟩ <;> first
  |(cases c.2;done)
  |(subst d;subst e;refine⟨rfl,rfl,rfl,rfl,?_⟩;first |exact vf |exact zF |exact zG |rfl)
variable{n:Nat}
def vH(a:¬(∃M ys,x=.lst M/\y=.lst ys)/\¬(∃M ys,x=.tup M/\y=.tup ys))(h:deq (n+1) x y=aa b):(x.scalar && y.scalar && !Aa x y)=ac/\b=eqF x y:=by
 replace h:Ab _ x y=aa b:=h;unfold Ab at h;split at h
 .exact absurd ⟨_,_,rfl,rfl⟩ a.1
 .exact absurd ⟨_,_,rfl,rfl⟩ a.2
 .split at h
  .rename_i c;cases h;exact⟨c,rfl⟩
  .nomatch h
def Gy:∀(n:Nat) {x y:D} {b:Bool} {v:V},deq n x y=aa b->Rep G H x v->Rep G H y v->b=ac:=by
 intro n
 induction n with
 |zero=>intro x y b v h;nomatch h
 |succ n E=>
  have all:∀(M ys:LD) L b,aF G H M L->aF G H ys L->fL (deq n) M ys=aa b->b=ac:=by
   intro M
   induction M with
   |nil=>
    intro ys L b d c h;cases (d);have:ys=[]:=oV.mp c.length;subst this
    cases h;rfl
   |cons x M m=>
    intro ys L b d c h;obtain⟨v,r,e,A,B⟩:=d;subst e
    cases ys with
    |nil=>cases (c)
    |cons y ys=>
     obtain⟨N,J,e,j,l⟩:=c;cases e;obtain⟨I,u,w,z,rfl⟩:=Gw h;rw[E w A j,m ys _ u B l z];rfl
  intro x y b v h d c
  by_cases p:∃M ys,x=.lst M/\y=.lst ys
  .obtain⟨M,ys,rfl,rfl⟩:=p;obtain⟨a,L,e,q,d⟩:=d;obtain⟨t,o,i,g,c⟩:=c;subst e;cases i;rw[q]at g;cases g;have f:=d.length.trans c.length.symm;replace h:(if M.length=ys.length then fL _ M ys else aa ag)=aa b:=h;rw[if_pos f]at h;exact all M ys L b d c h
  .by_cases s:∃M ys,x=.tup M/\y=.tup ys
   .obtain⟨M,ys,rfl,rfl⟩:=s;obtain⟨a,L,e,q,d⟩:=d;obtain⟨t,o,i,g,c⟩:=c;subst e;cases i;rw[q]at g;cases g;replace h:(if M.length=ys.length then fL _ M ys else ab)=aa b:=h;rw[if_pos (d.length.trans c.length.symm)]at h;exact all M ys L b d c h
   .obtain⟨C,rfl⟩:=vH ⟨p,s⟩ h;obtain⟨_,_,_,_,e⟩:=vG C d c;rw[<- e];exact decide_eq_true rfl
variable{s:aL}{us:LVv}
def pI{its a:LVa}{e:Nat->Bool}(t:aF G H M L)(z:aF G H ys us)(r:ba L its)(q:ba us a)
 (o:∀W6 x y,M[W6]?=aa x->ys[W6]?=aa y->deq n x y=aa (e W6))
 (p:∀{x y:D} {b:Bool} {v u:V} {w h:Value},deq n x y=aa b->Rep G H x v->Rep G H y u->aZ v w->aZ u h->dR A s w h b):
  ∀W6 (f:W6<its.toArray.size) (g:W6<a.toArray.size),dR A s its.toArray[W6] a.toArray[W6] (e W6):=λW6 f g=>by
 have c:W6<its.length:=by simpa using f
 have d:W6<a.length:=by simpa using g
 obtain⟨v,l,B⟩:=r.at' (i:=W6) (u:=its[W6]) (by simp[c]);obtain⟨u,j,ru⟩:=q.at' (i:=W6) (u:=a[W6]) (by simp[d]);obtain⟨x,ex,C⟩:=t.get' l;obtain⟨y,m,E⟩:=z.get' j;exact p (o W6 x y ex m) C E B ru
def Gz(I:Inv X B J H s):∀(n:Nat) {A:dQ} {x y:D} {b:Bool} {v u:V} {w r:Value},A.units+n<cLine->deq n x y=aa b->Rep (Gx c X) H x v->Rep (Gx c X) H y u->aZ v w->aZ u r->dR A s w r b:=by
 intro n
 induction n with
 |zero=>intro A x y b v u w r _ h;nomatch h
 |succ n ih=>
  intro A x y b v u w r hu h Y r2 rv ru;have t:∀{x y:D} {b:Bool} {v u:V} {w r:Value},deq n x y=aa b->Rep _ H x v->Rep _ H y u->aZ v w->aZ u r->dR A.in1 s w r b:=λh a b c d=>ih (by rw[za];lia) h a b c d
  by_cases hl:∃M ys,x=.lst M/\y=.lst ys
  .obtain⟨M,ys,rfl,rfl⟩:=hl;obtain⟨a,L,e,q,f⟩:=id Y;obtain⟨E,p,G,z,g⟩:=id r2;subst e G;cases rv;subst ru
   by_cases j:a=E
   .subst j;have:=Gy _ h (⟨a,L,rfl,q,f⟩) ⟨a,p,rfl,z,g⟩;subst this;exact zo _
   .refine dR.of_refs j ?_;obtain⟨its,C,pl,hz⟩:=I.list (SqL.of q);obtain⟨o,l,m,Q⟩:=I.list (SqL.of z);have T:=C.length;have l2:=l.length;have U:=f.length;have l4:=g.length;replace h:(if M.length=ys.length then fL _ M ys else aa ag)=aa b:=h;split at h
    .rename_i i;obtain⟨ee,N,ha⟩:=nS i h;have:=SeqAt.RcAt.lists pl.isList m.isList (by simp only[size_toArray];lia) (by lia) (pI f g C l N t);rw[size_toArray,<- T,<- U,ha]at this;exact this
    .rename_i i;cases h;exact SeqAt.RcAt.lists_lengths pl.isList m.isList (by simp only[size_toArray,bne_iff_ne];lia) (by lia)
  .by_cases ht:∃M ys,x=.tup M/\y=.tup ys
   .obtain⟨M,ys,rfl,rfl⟩:=ht;obtain⟨a,L,e,q,f⟩:=id Y;obtain⟨E,p,G,z,g⟩:=id r2;subst e G;subst rv;subst ru
    by_cases j:a=E
    .subst j;have:=Gy _ h (⟨a,L,rfl,q,f⟩) ⟨a,p,rfl,z,g⟩;subst this;exact zo _
    .refine dR.of_refs j ?_;obtain⟨its,C,pl,hz⟩:=I.tuple (SqT.of q);obtain⟨o,l,m,Q⟩:=I.tuple (SqT.of z);have T:=C.length;have l2:=l.length;have U:=f.length;have l4:=g.length;replace h:(if M.length=ys.length then fL _ M ys else ab)=aa b:=h;split at h
     .rename_i i;obtain⟨ee,N,ha⟩:=nS i h;have:=SeqAt.RcAt.tuples (pl) (m) (by lia) (pI f g C l N t);have hsz:its.toArray.size=o.toArray.size:=by simp only[size_toArray];lia
      rw[<- hsz,qV,beq_self_eq_true,Bool.and_true,size_toArray,<- T,<- U,ha]at this;exact this
     .nomatch h
   .obtain⟨hs,rfl⟩:=vH ⟨hl,ht⟩ h;obtain⟨f1,f2,e,_,_⟩:=vG hs Y r2;rw[<- e];exact FX rv ru f1 f2
def cK(hu:X.A.units+64<cLine):OpD c X (dP .Eq) dEq:=by
 rintro B s J H v u w z Q I rv ru ⟨Hf,x,y,d,s0,p,r,e,k⟩;unfold dEq at e
 cases h:deq 20 x y with
 |none=>rw[h]at e;nomatch e
 |some b=>
  rw[h]at e;cases e;have q0:=k _ Hf H (Ext.refl s0) rfl;have n:EP X B J Q _ s:=⟨.bl b,H,I,rfl,q0⟩;have p:=p.up s0;have r:=r.up s0;have o:∀{x y:D} {b:Bool} {v u:V} {w z:Value},deq 19 x y=aa b->Rep _ H x v->Rep (Gx c X) H y u->aZ v w->aZ u z->dR X.A.in1 s w z b:=λh a b c d=>Gz I 19 (by rw[za];lia) h a b c d
  by_cases hl:∃M ys,x=.lst M/\y=.lst ys
  .obtain⟨M,ys,rfl,rfl⟩:=hl;obtain⟨a,L,e,q,i⟩:=id p;obtain⟨a',vs',C,Y,j⟩:=id r;subst e C;cases rv;subst ru;obtain⟨its,t,pl,hz⟩:=I.list (SqL.of q);obtain⟨m,g,l,N⟩:=I.list (SqL.of Y);have T:=t.length;have l2:=g.length;have U:=i.length;have l4:=j.length;replace h:(if M.length=ys.length then fL _ M ys else aa ag)=aa b:=h;split at h
   .rename_i f;obtain⟨ee,E,ha⟩:=nS f h;refine SeqAt.eq_listAt pl.isList l.isList (by simp only[size_toArray];lia) (by lia) (pI i j t g E o) ?_;rw[size_toArray,<- T,<- U,ha];exact n
   .rename_i f;cases h;exact SeqAt.eq_list_lengthsAt pl.isList l.isList (by simp only[size_toArray,bne_iff_ne];lia) (by lia) n
  .by_cases ht:∃M ys,x=.tup M/\y=.tup ys
   .obtain⟨M,ys,rfl,rfl⟩:=ht;obtain⟨a,L,e,q,i⟩:=id p;obtain⟨a',vs',C,Y,j⟩:=id r;subst e C;subst rv;subst ru;obtain⟨its,t,pl,hz⟩:=I.tuple (SqT.of q);obtain⟨m,g,l,N⟩:=I.tuple (SqT.of Y);have T:=t.length;have l2:=g.length;have U:=i.length;have l4:=j.length;replace h:(if M.length=ys.length then fL _ M ys else ab)=aa b:=h;split at h
    .rename_i f;obtain⟨ee,E,ha⟩:=nS f h;refine SeqAt.eq_tupleAt (pl) (l) (by lia) (pI i j t g E o) ?_;have hsz:its.toArray.size=m.toArray.size:=by simp only[size_toArray];lia
     simp only[<- hsz,qV,beq_self_eq_true,Bool.and_true,size_toArray,<- T,<- U,ha];exact n
    .nomatch h
   .obtain⟨hs,rfl⟩:=vH ⟨hl,ht⟩ h;obtain⟨_,_,_,G,e⟩:=vG hs p r;exact MX B s J H v u w z Q I rv ru ⟨G,by rw[e];exact q0⟩
def jC(hu:X.A.units+64<cLine):OpD c X (dP .NotEq) dNe:=by
 rintro B s J H v u w z Q I rv ru ⟨Hf,x,y,d,s0,p,r,e,k⟩;unfold dNe at e
 cases h:deq 20 x y with
 |none=>rw[h]at e;nomatch e
 |some b=>
  rw[h]at e;cases e;have q0:=k _ Hf H (Ext.refl s0) rfl;have n:EP X B J Q _ s:=⟨.bl (!b),H,I,rfl,q0⟩;have p:=p.up s0;have r:=r.up s0;have o:∀{x y:D} {b:Bool} {v u:V} {w z:Value},deq 19 x y=aa b->Rep _ H x v->Rep (Gx c X) H y u->aZ v w->aZ u z->dR X.A.in1 s w z b:=λh a b c d=>Gz I 19 (by rw[za];lia) h a b c d
  by_cases hl:∃M ys,x=.lst M/\y=.lst ys
  .obtain⟨M,ys,rfl,rfl⟩:=hl;obtain⟨a,L,e,q,i⟩:=id p;obtain⟨a',vs',C,Y,j⟩:=id r;subst e C;cases rv;subst ru;obtain⟨its,t,pl,hz⟩:=I.list (SqL.of q);obtain⟨m,g,l,N⟩:=I.list (SqL.of Y);have T:=t.length;have l2:=g.length;have U:=i.length;have l4:=j.length;replace h:(if M.length=ys.length then fL _ M ys else aa ag)=aa b:=h;split at h
   .rename_i f;obtain⟨ee,E,ha⟩:=nS f h;refine SeqAt.RcNeAt.lists pl.isList l.isList (by simp only[size_toArray];lia) (by lia) (pI i j t g E o) X.prog X.w X.xe _ ?_;rw[size_toArray,<- T,<- U,ha];exact n
   .rename_i f;cases h;exact SeqAt.RcNeAt.lists_lengths pl.isList l.isList (by simp only[size_toArray,bne_iff_ne];lia) (by lia) X.prog X.w X.xe _ n
  .by_cases ht:∃M ys,x=.tup M/\y=.tup ys
   .obtain⟨M,ys,rfl,rfl⟩:=ht;obtain⟨a,L,e,q,i⟩:=id p;obtain⟨a',vs',C,Y,j⟩:=id r;subst e C;subst rv;subst ru;obtain⟨its,t,pl,hz⟩:=I.tuple (SqT.of q);obtain⟨m,g,l,N⟩:=I.tuple (SqT.of Y);have T:=t.length;have l2:=g.length;have U:=i.length;have l4:=j.length;replace h:(if M.length=ys.length then fL _ M ys else ab)=aa b:=h;split at h
    .rename_i f;obtain⟨ee,E,ha⟩:=nS f h;refine SeqAt.RcNeAt.tuples (pl) (l) (by lia) (pI i j t g E o) X.prog X.w X.xe _ ?_;have hsz:its.toArray.size=m.toArray.size:=by simp only[size_toArray];lia
     simp only[<- hsz,qV,beq_self_eq_true,Bool.and_true,size_toArray,<- T,<- U,ha];exact n
    .nomatch h
   .obtain⟨hs,rfl⟩:=vH ⟨hl,ht⟩ h;obtain⟨_,_,_,G,e⟩:=vG hs p r;exact MY B s J H v u w z Q I rv ru ⟨G,by rw[e];exact q0⟩
abbrev eqX:D->D->Bool
 |.non,.non=>ac
 |.bl a,.bl b=>a==b
 |.bl a,.int b=>(if a then 1 else 0)==b
 |.int a,.bl b=>a==(if b then 1 else 0)
 |.int a,.int b=>a==b
 |.str a,.str b=>a==b
 | _,_=>ag
abbrev inD(x y:D):Option Bool:=(kh y).bind λds=>if x.scalar && ds.all D.scalar then aa (ds.any λd=>eqX d x) else ab
abbrev dIn(x y:D):OD:=(inD x y).map .bl
abbrev iZ(x y:D):OD:=(inD x y).map λb=>.bl (!b)
def pJ:∀x y d,dIn x y=aa d->d.scalar=ac:=λ_ _ d e=>sh d e
def pK:∀x y d,iZ x y=aa d->d.scalar=ac:=λ_ _ d e=>sh d e
def OB(c:x.scalar=ac)(d:y.scalar=ac)(e:Rep G H x v)(f:Rep G H y u):gG v=ac/\gG u=ac/\eqV v u=eqX x y:=by
 rcases vF c with rfl |⟨a,rfl⟩ |⟨a,rfl⟩ |⟨a,rfl⟩ <;> rcases vF d with rfl |⟨b,rfl⟩ |⟨b,rfl⟩ |⟨b,rfl⟩ <;> (subst e;subst f;exact⟨rfl,rfl,rfl⟩)
def GA{G:Gc}{H:Hp}{x:D}{v:V}(b:x.scalar=ac)(r:Rep G H x v):∀{ds:LD} {L:LVv},ds.all D.scalar=ac->aF G H ds L->L.all gG=ac/\inV v L=ds.any λd=>eqX d x
 | [],_,_,h=>by cases (h);exact⟨rfl,rfl⟩
 |d::ds,_,ha,q3_=>by
  obtain⟨u,l,e,g,i⟩:=q3_;subst e;simp only[l8,cV]at ha;obtain⟨c,j,e⟩:=OB ha.1 b g r;obtain⟨f,a⟩:=GA b r ha.2 i;refine⟨by simp only[l8,c,f];rfl,?_⟩;unfold inV at a ⊢;simp only[iS,iS,e,a]
def GB(e:inD x y=aa b)(d:Rep G H x v)(j:Rep G H y u):∃p L,u=.ref p/\(SqL G.K H p L\/SqT G.K H p L)/\gG v=ac/\L.all gG=ac/\inV v L=b:=by
 unfold inD at e
 cases es:kh y with
 |none=>rw[es]at e;nomatch e
 |some ds=>
  rw[es]at e;replace e:(if _=ac then aa _ else ab)=aa b:=e;split at e
  .rename_i c;cases e;rw[cV]at c;obtain⟨a,L,g,q,r⟩:=vq es j;obtain⟨h,i⟩:=GA c.1 d c.2 r
   have f:gG v=ac:=by cases x <;> first |(subst d;rfl) |(cases c.1)
   exact⟨a,L,g,q,f,h,i⟩
  .nomatch e
def nT:OpD c X (dP .In) dIn:=by
 rintro B s J H v u w o Q I n ru ⟨Hf,x,y,d,a,l,m,e,k⟩;unfold dIn at e
 cases h:inD x y with
 |none=>rw[h]at e;nomatch e
 |some b=>
  rw[h]at e;cases e;obtain⟨p,L,f,q,i,j,g⟩:=GB h (l.up a) (m.up a);refine NW B s J H v u w o Q I n ru ⟨p,L,f,q,i,j,?_⟩;rw[if_neg cq,g];exact k _ Hf H (Ext.refl a) rfl
def pL:OpD c X (dP .NotIn) iZ:=by
 rintro B s J H v u w o Q I n ru ⟨Hf,x,y,d,a,l,m,e,k⟩;unfold iZ at e
 cases h:inD x y with
 |none=>rw[h]at e;nomatch e
 |some b=>
  rw[h]at e;cases e;obtain⟨p,L,f,q,i,j,g⟩:=GB h (l.up a) (m.up a);refine NX B s J H v u w o Q I n ru ⟨p,L,f,q,i,j,?_⟩;rw[if_pos rfl,g];exact k _ Hf H (Ext.refl a) rfl
def Ac{i:Int}(h:atI ds i=aa d)(r:aF G H ds L):∃v,atI L i=aa v/\Rep G H d v:=by
 unfold atI at h ⊢;rw[<- r.length]
 cases e:ixN ds.length i with
 |none=>rw[e]at h;nomatch h
 |some W6=>
  rw[e]at h;exact r.get h
abbrev ixD(ds:LD):D->OD
 |.int k=>atI ds k
 | _=>ab
abbrev mIx(f:MF2)(g:MF1)(U:LS):OD:=(f U).bind λds=>(g U).bind λi=>ixD ds i
variable{b:Expr}
def aC{pos:Pos}{f:MF2}(ha:DC c X a f)(w:DE c X b g)(x:zO b:=by exact λ_ _=>rfl):DE c X (.Subscript a b pos) (mIx f g):=
 PE.imp (FS (FT.or FU) ha w x) λJ H Q y=>by
  obtain⟨E,H0,Hf,U,d,st,e,k⟩:=y;unfold mIx at e
  cases m:f U with
  |none=>rw[m]at e;nomatch e
  |some ds=>
   cases p:g U with
   |none=>rw[m,p]at e;nomatch e
   |some i=>
    rw[m,p]at e
    cases i with
    |int n=>
     refine⟨E,H0,Hf,U,ds,st,m,λl L al H1 t q r=>⟨E,H0,al,U,.int n,st.step t,p,λu a0 H2 o z=>?_⟩⟩;cases (z);obtain⟨v,s,A⟩:=Ac e r;have j:=k v a0 H2 (t.trans o) (A.up o.f)
     rcases q with q |q
     .exact .inl ⟨l,L,n,v,rfl,rfl,o.h.seq q,s,j⟩
     .exact .inr ⟨l,L,n,v,rfl,rfl,o.h.tup q,s,j⟩
    | _=>nomatch e
abbrev pM(M:LD)(lo hi:Option Int):LD:=(M.drop (HT.sIx M.length 0 lo)).take (HT.sIx M.length M.length hi-HT.sIx M.length 0 lo)
abbrev lsD:D->OLD
 |.lst M=>aa M
 |.kl M=>aa M
 | _=>ab
def i0(e:lsD d=aa ds)(r:Rep G H d v):∃a L,v=.ref a/\SqL G.K H a L/\aF G H ds L:=by
 cases d with
 |lst M=>cases e;obtain⟨a,L,b,q,r⟩:=r;exact⟨a,L,b,SqL.of q,r⟩
 |kl M=>cases e;obtain⟨a,L,b,q,r⟩:=r;exact⟨a,L,b,q,r⟩
 | _=>nomatch e
inductive GC(G:Gc)(f:LS->Option (Option Int))(J:St)(H:Hp)(Q:Option Int->Hp->Prop):Prop
 |mk:∀E H0 Hf U i,aM G E H0 Hf H J U->f U=aa i->(∀j H',Ext Hf H j H'->Q i H')->GC G f J H Q
abbrev DPt(c:Str->Addr)(X:Cx)(e:Option Expr)(f:LS->Option (Option Int)):Prop:=PO X e (GC (Gx c X) f)
def si:DPt c X ab (λ_=>aa ab):=λB s J H Q I b=>by
 obtain⟨E,H0,Hf,U,i,st,a,k⟩:=b;exact(zM B s J H Q I (by cases a;exact k Hf H (Ext.refl st.sub)))
abbrev mPt(f:MF1)(U:LS):Option (Option Int):=(f U).bind λd=>match d with
 |.int i=>aa (aa i)
 | _=>ab
def sj(h:DE c X e f):DPt c X (aa e) (mPt f):=λB s J H Q I g=>by
 obtain⟨E,H0,Hf,U,i,st,a,k⟩:=g
 exact (FO h B s J H Q I (by
 unfold mPt at a
 cases b:f U with
 |none=>rw[b]at a;nomatch a
 |some d=>
  rw[b]at a
  cases d with
  |int n=>cases a;exact⟨E,H0,Hf,U,.int n,st,b,λv j H' x r=>⟨n,r,k j H' x⟩⟩
  | _=>nomatch a))
abbrev mSl(f:MF1)(l h:LS->Option (Option Int))(U:LS):OLD:=(f U).bind λd=>(lsD d).bind λds=>(l U).bind λlo=>(h U).map λhi=>pM ds lo hi
def GD(r:aF G H ds L)(lo hi:Option Int):aF G H (pM ds lo hi) (nL L lo hi):=by
 unfold pM nL;rw[r.length];exact(r.drop _).take _
variable{p2:Pos}
def OC{pos:Pos}{l h:LS->Option (Option Int)}{lo hi:Option Expr}(ha:DE c X e f)(G:DPt c X lo l)(C:DPt c X hi h):DO c X (.Subscript e (.Slice lo hi ab p2) pos) (mSl f l h):=
 PE.imp (zN NV ha G C) λJ H Q I=>by
  obtain⟨E,H0,Hf,U,rs,st,b,k⟩:=I;unfold mSl at b
  cases g:f U with
  |none=>rw[g]at b;nomatch b
  |some d=>
   cases i:lsD d with
   |none=>rw[g]at b;replace b:(lsD d).bind _=_:=b;rw[i]at b;nomatch b
   |some ds=>
    cases j:l U with
    |none=>rw[g]at b;replace b:(lsD d).bind _=_:=b;rw[i,j]at b;nomatch b
    |some w=>
     cases o:h U with
     |none=>rw[g]at b;replace b:(lsD d).bind _=_:=b;rw[i,j,o]at b;nomatch b
     |some t=>
      rw[g]at b;replace b:(lsD d).bind _=_:=b;rw[i,j,o]at b;cases b;refine⟨E,H0,Hf,U,d,st,g,λv al H1 m M=>⟨E,H0,al,U,w,st.step m,j,λa0 H2 z=>⟨E,H0,a0,U,t,(st.step m).step z,o,λn N A=>?_⟩⟩⟩;obtain⟨a,L,B,q,r⟩:=i0 i M;subst B;have x:=(m.trans z).trans A;have y:=(z.trans A);exact⟨a,L,rfl,(m.s.trans y.h).seq q,λp u=>(k p _ n _ (x.trans (Ext.tmp x.s u)) (x.h.free u) (x.s.free u) bL (GD (r.up y.f) _ _))⟩
abbrev rCD(G:Gc)(m:LD->OD):LVv->Hp->VK->Prop:=λL H Q=>∃Hf ds d,aR Hf H/\aF G Hf ds L/\m ds=aa d/\∀v j H',Ext Hf H j H'->Rep G j d v->Q v H'
nonrec abbrev nU(c:Str->Addr)(X:Cx)(f:Value)(m:LD->OD):Prop:=gi X f (rCD (Gx c X) m)
abbrev aJ(m:LD->OD)(f:MF2)(U:LS):OD:=(f U).bind m
variable{m:LD->OD}{f:MF2}
def GE(h:aJ m f U=aa d):∃ds,f U=aa ds/\m ds=aa d:=by
 unfold aJ at h
 cases e:f U with
 |none=>rw[e]at h;nomatch h
 |some ds=>rw[e]at h;exact⟨ds,rfl,h⟩
variable{p:Pos}{x:Str}
def fX{pos:Pos}{id:String}(n:nU c X (.builtin id) m)(t:∀ds d,m ds=aa d->d.scalar=ac)(q:Gl X x)(hm:X.mg x=ab)(u:h8 x=aa (.builtin id))(ha:DAB c X (e::es) f)(hn:x ≠ "__name__":=by decide)(a:NDb x:=by decide)
 (o:StE X e es:=by rfl)(b:BkE X pos es:=by rfl):
  DE c X (.Call (.Name x p) (e::es) [] pos) (aJ m f):=PE.imp (vi n q hm u ha.pa hn a o b) λJ H Q w=>by
 obtain⟨E,H0,Hf,U,d,st,l,k⟩:=w;obtain⟨ds,i,g⟩:=GE l;exact⟨E,H0,Hf,U,ds,st,i,λL j H' x r=>⟨H',ds,d,aR.refl _,r,g,λv a0 H2 z y=>k v j H2 (x.trans (Ext.grow x.s z.h)) (y.sc (t _ _ g))⟩⟩
abbrev cY:LD->OD
 | [.lst M]=>aa (.int M.length)
 | [.tup M]=>aa (.int M.length)
 | [.kl M]=>aa (.int M.length)
 | [.kt M]=>aa (.int M.length)
 | [.str x]=>if x.length<=16777216 then aa (.int x.length) else ab
 | _=>ab
def aF.one(r:aF G H [d] L):∃v,L=[v]/\Rep G H d v:=by
 obtain⟨v,a,e,h,q⟩:=r;cases (q);exact⟨v,e,h⟩
def aF.two{d':D}(r:aF G H [d,d'] L):∃v a,L=[v,a]/\Rep G H d v/\Rep G H d' a:=by
 obtain⟨v,c,e,h,q⟩:=r;obtain⟨a,b,h'⟩:=q.one;subst b;exact⟨v,a,e,h,h'⟩
def GF(e:cY ds=aa d):∃a,ds=[a]/\((∃M,kh a=aa M/\d=.int M.length)\/∃x,a=.str x/\x.length<=16777216/\d=.int x.length):=by
 cases ds with
 |nil=>nomatch e
 |cons a ds=>
  cases ds with
  |cons _ _=>cases a <;> nomatch e
  |nil=>
   refine⟨a,rfl,?_⟩
   cases a with
   |lst M=>cases e;exact .inl ⟨M,rfl,rfl⟩
   |tup M=>cases e;exact .inl ⟨M,rfl,rfl⟩
   |kl M=>cases e;exact .inl ⟨M,rfl,rfl⟩
   |kt M=>cases e;exact .inl ⟨M,rfl,rfl⟩
   |str x=>
    replace e:(if x.length<=16777216 then aa _ else ab)=aa d:=e
    grind
   | _=>nomatch e
def gv:nU c X (.builtin "len") cY:=by
 rintro B s J H L us Q I l ⟨Hf,ds,d,j,r,e,k⟩
 have o:∀b M,ds=[b]->kh b=aa M->d=.int M.length->wpAny _ X.A _ _ X.xe s:=λb M g es m=>by
  subst g m;obtain⟨v,f,i⟩:=r.one;subst f;obtain⟨a,ws,h,q,rs⟩:=vq es i;subst h;refine NY B s J H _ us Q I l ⟨a,ws,rfl,z7 j q,?_⟩;rw[<- rs.length];exact k _ Hf H (Ext.refl j) rfl
 obtain⟨b,g,⟨M,f,h⟩ |⟨x,rfl,n,rfl⟩⟩:=GF e
 .exact o b M g f h
 .subst g;obtain⟨v,f,i⟩:=r.one;subst f;exact NZ B s J H _ us Q I l ⟨_,by rw[show v=V.str _ from i],by rw[c6];exact n,k _ Hf H (Ext.refl j) rfl⟩
def gw:∀ds d,cY ds=aa d->d.scalar=ac:=by
 intro ds d e
 obtain⟨a,c,⟨M,b,rfl⟩ |⟨x,rfl,f,rfl⟩⟩:=GF e <;> rfl
def GG{pos:Pos}(o:h8 x=aa (.type "list"))(n:Gl X x)(hm:X.mg x=ab)(ha:DC c X e f)(i:bf [e] X.env=(ag,eval e X.env)::bf [] X.env:=by rfl)(hn:x ≠ "__name__":=by decide)(b:NDb x:=by decide)
 (g:(d5 pos (bf [] X.env)).any (·.1)=ag:=by rfl):DO c X (.Call (.Name x p) [e] [] pos) f:=
 PE.imp (pi N0 n hm o (bC ha bM i) hn b i g) λJ H Q t=>by
 obtain⟨E,H0,Hf,U,ds,st,m,k⟩:=t
 exact (
  ⟨E,H0,Hf,U,ds,st,m,λa L j H' x q r=>⟨a,L,rfl,q,λl d=>k l L j _ (x.trans (Ext.tmp x.s d)) (x.h.free d) (x.s.free d) bL r⟩⟩)
abbrev tyN:D->Option String
 |.non=>aa "NoneType"
 |.bl _=>aa "bool"
 |.int _=>aa "int"
 |.str _=>aa "str"
 |.lst _=>aa "list"
 |.tup _=>aa "tuple"
 |.dic _ _=>aa "dict"
 | _=>ab
abbrev Ad(T:String)(d:D):OD:=(tyN d).map λt=>.bl (t==T || (t == "bool" && T == "int"))
def OE{t:String}(e:tyN d=aa t)(r:Rep G H d v):ic G.K H v (.type t):=by
 cases d with
 |non=>cases e;subst r;exact .non
 |bl b=>cases e;subst r;exact .bl b
 |int i=>cases e;subst r;exact .int i
 |str x=>cases e;subst r;exact .str x
 |lst M=>cases e;obtain⟨a,L,c,q,r⟩:=r;subst c;exact .lst q
 |tup M=>cases e;obtain⟨a,L,c,q,r⟩:=r;subst c;exact .tup q
 |dic C M=>cases e;obtain⟨a,L,c,q,l,r⟩:=r;subst c;exact .dK q
 | _=>nomatch e
abbrev Ae(K:br)(T:String):Prop:=∀t∈["NoneType","bool","int","str","list","tuple","dict"],W.kitOne K (.type t) (.type T)=aa (t==T || (t == "bool" && T == "int"))
def OF{t:String}(e:tyN d=aa t):t∈["NoneType","bool","int","str","list","tuple","dict"]:=by
 cases d <;> first |(cases e;decide) |cases e
abbrev Af(T:String)(f:MF1)(U:LS):OD:=(f U).bind (Ad T)
def OG{pos:Pos}{f:MF1}{T:String}{b:Pos}{y:Str}(u:Ae X.K T)(s:Gl X "isinstance")(hm:X.mg "isinstance"=ab)(w:h8 y=aa (.type T))(l:Gl X y)(m:X.mg y=ab)(ha:DB c X e f)
 (q:bf [e,.Name y b] X.env=(ag,eval e X.env)::bf [.Name y b] X.env:=by rfl)(o:bf [.Name y b] X.env=(ag,eval (.Name y b) X.env)::bf [] X.env:=by rfl)
 (hn:y ≠ "__name__":=by decide)(i:(y==("__debug__":Str))=ag:=by decide)(n:(d5 pos (bf [.Name y b] X.env)).any (·.1)=ag:=by rfl):
  DE c X (.Call (.Name "isinstance" p) [e,.Name y b] [] pos) (Af T f):=
 PE.imp (vi Oq s hm boot_isinstance (bC ha (bC (Mb (v:=.ty T) l m w rfl hn i) bM o) q) (by decide) (by decide) q n) λJ H Q z=>by
  obtain⟨E,H0,Hf,U,d,st,a,k⟩:=z;unfold Af at a
  cases h:f U with
  |none=>rw[h]at a;nomatch a
  |some x=>
   rw[h]at a;replace a:Ad T x=aa d:=a;unfold Ad at a
   cases g:tyN x with
   |none=>rw[g]at a;nomatch a
   |some t=>
    rw[g]at a;cases a;exact⟨E,H0,Hf,U,x,st,h,λv j H' A r=>⟨v,T,.type t,_,rfl,OE g r,u t (OF g),k _ j H' A rfl⟩⟩
inductive tDG(G:Gc)(g:D->LS->Option LS)(v:V)(J:St)(H:Hp)(Q:St->Hp->Prop):Prop
 |mk:∀E H0 Hf U d ρ',aM G E H0 Hf H J U->Rep G Hf d v->g d U=aa ρ'->(∀σ',aM G E H0 Hf H σ' ρ'->Q σ' H)->tDG G g v J H Q
inductive GH(G:Gc)(g:LD->LS->Option LS)(L:LVv)(J:St)(H:Hp)(Q:St->Hp->Prop):Prop
 |mk:∀E H0 Hf U ds ρ',aM G E H0 Hf H J U->aF G Hf ds L->g ds U=aa ρ'->(∀σ',aM G E H0 Hf H σ' ρ'->Q σ' H)->GH G g L J H Q
structure DG(c:Str->Addr)(X:Cx)(tg:Expr)(k:Nat)(g:D->LS->Option LS):Prop where
 pg:PG X tg (tDG (Gx c X) g)
 len:∀d U ρ',g d U=aa ρ'->ρ'.length=U.length
 keep:∀d U ρ' i,g d U=aa ρ'->k<=i->ρ'[i]?=U[i]?
structure DGs(c:Str->Addr)(X:Cx)(tg:LEx)(k:Nat)(g:LD->LS->Option LS):Prop where
 pg:PGs X tg (GH (Gx c X) g)
 len:∀d U ρ',g d U=aa ρ'->ρ'.length=U.length
 keep:∀d U ρ' i,g d U=aa ρ'->k<=i->ρ'[i]?=U[i]?
 many:∀ds U ρ',g ds U=aa ρ'->ds.length=tg.length
abbrev aH(i:Nat)(d:D)(U:LS):Option LS:=aa (U.set i (.im d))
def GI(h:PG X e (mq i))(g:i<k):DG c X e k (aH i):=
 ⟨PG.imp h λv J H Q b=>by obtain⟨E,H0,Hf,U,d,ρ',st,r,a,q⟩:=b;cases a;exact q _ (st.setIm r),λd U ρ' h=>by cases h;simp,λd U ρ' W6 h f=>by
  cases h;rw[iO (by lia)]⟩
def cx{pos:Pos}(i k:Nat)(a:X.N.Nodup)(d:i<k:=by decide)(hi:X.N[i]?=aa x:=by rfl)(e:Loc X.env.scope x:=by first |exact cF rfl |exact bP rfl)(b:LcF X x:=by first |exact .inl rfl |exact .inr rfl):DG c X (.Name x pos) k (aH i):=
 GI (Fo a hi e b) d
abbrev cS(ds:LD)(U:LS):Option LS:=match ds with
 | []=>aa U
 | _=>ab
abbrev bo(g:D->LS->Option LS)(h:LD->LS->Option LS)(ds:LD)(U:LS):Option LS:=match ds with
 |d::ds=>(g d U).bind λρ1=>h ds ρ1
 | []=>ab
def eB:DGs c X [] k cS:=by
 refine⟨PGs.imp Mx λL J H Q f=>?_,λd U ρ' h=>?_,λd U ρ' i h _=>?_,λd U ρ' h=>?_⟩
 .obtain⟨E,H0,Hf,U,ds,ρ',st,r,e,q⟩:=f
  cases ds with
  |nil=>cases e;exact⟨r,q _ st⟩
  |cons d ds=>nomatch e
 .cases d with
  |nil=>cases h;rfl
  |cons a b=>nomatch h
 .cases d with
  |nil=>cases h;rfl
  |cons a b=>nomatch h
 .cases d with
  |nil=>cases h;rfl
  |cons a b=>nomatch h
variable{h:LD->LS->Option LS}
def vI{g:D->LS->Option LS}(e:bo g h ds U=aa ρ'):∃d r ρ1,ds=d::r/\g d U=aa ρ1/\h r ρ1=aa ρ':=by
 cases ds with
 |nil=>nomatch e
 |cons d r=>
  replace e:(g d U).bind _=_:=e
  cases a:g d U with
  |none=>rw[a]at e;nomatch e
  |some ρ1=>rw[a]at e;exact⟨d,r,ρ1,rfl,a,e⟩
def bN{g:D->LS->Option LS}(j:DG c X e k g)(f:DGs c X es k h)(o:(fI (e::es) X.env).map (·.2)=iE e X.env::(fI es X.env).map (·.2):=by rfl):DGs c X (e::es) k (bo g h):=by
 refine⟨PGs.imp (My j.pg f.pg o) λL J H Q p=>?_,λd U ρ' h=>?_,λd U ρ' i h hi=>?_,λd U ρ' h=>?_⟩
 .obtain⟨E,H0,Hf,U,ds,ρ',st,r,m,q⟩:=p;obtain⟨d,dr,ρ1,rfl,b,a⟩:=vI m;obtain⟨v,vr,n,t,s⟩:=r;exact⟨v,vr,n,E,H0,Hf,U,d,ρ1,st,t,b,λu l=>⟨E,H0,Hf,ρ1,dr,ρ',l,s,a,q⟩⟩
 .obtain⟨d,dr,ρ1,rfl,b,a⟩:=vI h;rw[f.len _ _ _ a,j.len _ _ _ b]
 .obtain⟨d,dr,ρ1,rfl,b,a⟩:=vI h;rw[f.keep _ _ _ _ a hi,j.keep _ _ _ _ b hi]
 .obtain⟨d,dr,ρ1,rfl,b,a⟩:=vI h;rw[bg,bg,f.many _ _ _ a]
abbrev tpD:D->OLD
 |.tup M=>aa M
 |.kt M=>aa M
 | _=>ab
def GJ(e:tpD d=aa ds)(r:Rep G H d v):∃a L,v=.ref a/\SqT G.K H a L/\aF G H ds L:=by
 cases d with
 |tup M=>cases e;obtain⟨a,L,b,q,r⟩:=r;exact⟨a,L,b,SqT.of q,r⟩
 |kt M=>cases e;obtain⟨a,L,b,q,r⟩:=r;exact⟨a,L,b,q,r⟩
 | _=>nomatch e
abbrev cT(g:LD->LS->Option LS)(d:D)(U:LS):Option LS:=(tpD d).bind λds=>g ds U
def Ag{g:LD->LS->Option LS}(h:cT g d U=aa ρ'):∃ds,tpD d=aa ds/\g ds U=aa ρ':=by
 unfold cT at h
 cases e:tpD d with
 |none=>rw[e]at h;nomatch h
 |some ds=>rw[e]at h;exact⟨ds,rfl,h⟩
variable{kk:Nat}
def eQ{pos:Pos}{g:LD->LS->Option LS}(n:X.calm=ac)(h:DGs c X es k g)(hn:(fI es X.env).length=es.length:=by rfl)(f:(fI es X.env).findIdx? (·.1)=ab:=by rfl):DG c X (.Tuple es kk pos) k (cT g):=by
 refine⟨PG.imp (MA n h.pg hn f) λv J H Q o=>?_,λd U ρ' h'=>?_,λd U ρ' i h' hi=>?_⟩
 .obtain⟨E,H0,Hf,U,d,ρ',st,r,m,q⟩:=o;obtain⟨ds,e,b⟩:=Ag m;obtain⟨a,L,l,p,j⟩:=GJ e r;exact⟨a,L,l,st.sub.tup p,by rw[<- j.length];exact h.many _ _ _ b,E,H0,Hf,U,ds,ρ',st,j,b,q⟩
 .obtain⟨ds,e,b⟩:=Ag h';exact h.len _ _ _ b
 .obtain⟨ds,e,b⟩:=Ag h';exact h.keep _ _ _ _ b hi
abbrev nV(G:Gc)(Hf:Hp)(W2:It)(ds:LD):Prop:=∀j H',aR Hf j->aR j H'->∀i:Nat,
 (∀d,ds[i]?=aa d->W2.go i H'/\∀x H2,W2.yld i H' x H2->∃a0,Ext j H' a0 H2/\Rep G a0 d x)/\(i=ds.length->W2.stop i H')
abbrev vJ(G:Gc)(Hf H:Hp)(W2:It)(ds:LD):Prop:=∀j H',Ext Hf H j H'->∀i:Nat,
 (∀d,ds[i]?=aa d->W2.go i H'/\∀x H2,W2.yld i H' x H2->∃a0,Ext j H' a0 H2/\Rep G a0 d x)/\(i=ds.length->W2.stop i H')
def nV.toE(h:nV G Hf W2 ds):vJ G Hf H W2 ds:=λj H' x i=>h j H' x.f x.s i
inductive tDI(G:Gc)(f:MF2)(J:St)(H:Hp)(R:It->Hp->Prop):Prop
 |mk:∀E H0 Hf U ds,aM G E H0 Hf H J U->f U=aa ds->(∀W2 j H',Ext Hf H j H'->nV G j W2 ds->R W2 H')->tDI G f J H R
inductive Ah(G:Gc)(f:MF2)(J:St)(H:Hp)(R:It->Hp->Prop):Prop
 |mk:∀E H0 Hf U ds,aM G E H0 Hf H J U->f U=aa ds->(∀W2 j H',Ext Hf H j H'->vJ G j H' W2 ds->R W2 H')->Ah G f J H R
abbrev DI(c:Str->Addr)(X:Cx)(tg iter:Expr)(f:MF2):Prop:=PI X tg iter (tDI (Gx c X) f)
abbrev DIe(c:Str->Addr)(X:Cx)(tg iter:Expr)(f:MF2):Prop:=PI X tg iter (Ah (Gx c X) f)
def DI.de(h:DI c X tg e f):DIe c X tg e f:=PI.imp h λJ H R b=>by
 obtain⟨E,H0,Hf,U,ds,st,a,k⟩:=b;exact(⟨E,H0,Hf,U,ds,st,a,λW2 j H' x i=>k W2 j H' x i.toE⟩)
def OH(q:SqL G.K H l L)(r:aF G Hf ds L):vJ G Hf H (Itl G.K l) ds:=λj H' b i=>by
 have a:=b.h.seq q;refine⟨λd g=>?_,λm=>⟨L,a,by rw[<- r.length,m];exact bh _⟩⟩;obtain⟨v,c,n⟩:=r.get g;refine⟨⟨L,v,a,c⟩,λx H2 ⟨e,y⟩=>?_⟩;subst e;have:=y L a;rw[c]at this;cases this;exact⟨j,Ext.refl b.s,n.up b.f⟩
def OI(q:SqT G.K Hf l L)(r:aF G Hf ds L):nV G Hf (Itt G.K l) ds:=λj H' f s i=>by
 have a:=(f.trans s).tup q;refine⟨λd e=>?_,λg=>⟨L,a,by rw[<- r.length,g];exact bh _⟩⟩;obtain⟨v,b,h⟩:=r.get e;refine⟨⟨L,v,a,b⟩,λx H2 ⟨c,y⟩=>?_⟩;subst c;have:=y L a;rw[b]at this;cases this;exact⟨j,Ext.refl s,h.up f⟩
def cg{f:MF1}(h:DE c X e f):DI c X tg e (bn f):=λB s J H R I A=>by
 obtain⟨E,H0,Hf,U,ds,st,b,k⟩:=A;unfold bn at b
 cases g:f U with
 |none=>rw[g]at b;nomatch b
 |some d=>
  rw[g]at b
  cases l:lsD d with
  |some m=>
   have:m=ds:=by cases d <;> first |(cases l;done) |(cases l;cases b;rfl)
   subst this;refine zB h B s J H R I ⟨E,H0,Hf,U,d,st,g,λv j H' x r=>?_⟩;obtain⟨a,L,o,q,rs⟩:=i0 l r
   exact⟨a,o,⟨L,x.s.seq q⟩,k _ j H' x λa0 H2 u s2 i=>by
    have p:=(u.trans s2).seq q;refine⟨λd w=>?_,λz=>⟨L,p,by rw[<- rs.length,z];exact bh _⟩⟩;obtain⟨v,t,C⟩:=rs.get w;refine⟨⟨L,v,p,t⟩,λx G ⟨n,y⟩=>?_⟩;subst n;have:=y L p;rw[t]at this;cases this
    exact⟨a0,Ext.refl s2,C.up u⟩⟩
  |none=>
   have n:tpD d=aa ds:=by cases d <;> first |(cases l;done) |(cases b;done) |(cases b;rfl)
   refine MK h B s J H R I ⟨E,H0,Hf,U,d,st,g,λv j H' x r=>?_⟩;obtain⟨a,L,o,q,rs⟩:=GJ n r;exact⟨a,o,⟨L,x.s.tup q⟩,k _ j H' x (OI q rs)⟩
def OJ(h:PE X e (eO i)):DIe c X tg e (au i):=λB s J H R I f=>by
 obtain⟨E,H0,Hf,U,ds,st,a,k⟩:=f
 cases es:U[i]? with
 |none=>unfold au at a;simp only[es]at a;nomatch a
 |some sl=>
  cases sl with
  |im d=>
   refine DI.de (cg (z8 h)) B s J H R I ⟨E,H0,Hf,U,ds,st,?_,k⟩;unfold au at a;rw[es]at a;unfold bn ae;rw[es]
   exact a
  |own M=>
   unfold au at a;rw[es]at a;cases a;obtain⟨l,b,_,_,L,q,r⟩:=st.ownAt rfl es
   exact zB h B s J H R I ⟨_,b,l,rfl,⟨L,SqL.of q⟩,k _ Hf H (Ext.refl st.sub) (OH (SqL.of q) r)⟩
  | _=>unfold au at a;simp only[es]at a;nomatch a
def GK{pos:Pos}(i:Nat)(b:X.N[i]?=aa x:=by rfl)(d:Vis X.env.scope x:=by first |exact cF rfl |exact bP (cF rfl) |exact bP (bP rfl))(hd:NDb x:=by decide)
 (a:NCd x:=by decide):DIe c X tg (.Name x pos) (au i):=OJ (lu b d hd a)
abbrev rng(lo:Int)(n:Nat):LD:=(cW n).map λ(i:Nat)=>.int (lo+i)
def GL{lo:Int}:nV G Hf (Itr lo n) (rng lo n):=λj H' f s i=>by
 refine⟨λd a=>?_,λb=>?_⟩
 .unfold rng at a;rw[gf]at a
  cases e:(cW n)[i]? with
  |none=>rw[e]at a;nomatch a
  |some W6=>
   rw[e]at a;obtain⟨hi,c⟩:=dD.mp e;rw[e8]at hi;rw[List.getElem_range]at c;subst c;cases a;exact⟨hi,λx H2 ⟨g,y⟩=>by subst g;exact⟨j,Ext.refl s,y⟩⟩
 .unfold rng at b;rw[ay,e8]at b;exact uO b.symm
abbrev mE:LD->OLD
 | [.int W6]=>if -(2 ^ 62)<=W6/\W6<2 ^ 62 then aa (rng 0 W6.toNat) else ab
 | [.int i,.int W6]=>if -(2 ^ 62)<=i/\i<2 ^ 62/\-(2 ^ 62)<=W6/\W6<2 ^ 62 then aa (rng i (W6-i).toNat) else ab
 | _=>ab
abbrev i3(f:MF2)(U:LS):OLD:=(f U).bind mE
def vK{pos:Pos}(i:Gl X "range")(hm:X.mg "range"=ab)(ha:DA c X [a] f)(m:bf [a] X.env=[(ag,eval a X.env)]:=by rfl):DI c X tg (.Call (.Name "range" p) [a] [] pos) (i3 f):=
 PI.imp (Fs i hm ha.pa m) λJ H R n=>by
  obtain⟨E,H0,Hf,U,ds,st,b,k⟩:=n;unfold i3 at b
  cases d:f U with
  |none=>rw[d]at b;nomatch b
  |some e=>
   rw[d]at b;replace b:mE e=aa ds:=b;have l:=ha.len U e d;refine⟨E,H0,Hf,U,e,st,d,λL j H' x r=>?_⟩;unfold mE at b;split at b
   .split at b
    .rename_i W6 g;cases b;obtain⟨v,h,o⟩:=r.one;cases (o);exact⟨W6,h,g.1,g.2,k _ j H' x GL⟩
    .nomatch b
   .nomatch l
   .nomatch b
abbrev df(k:Nat)(js:LN)(U:LS):LS:=gm k .no++js.map λW6=>(U[W6]?).getD .no
def aM.weak(h:aM G E H0 Hf H J U)(f:ρ'.length=U.length)(d:∀(i:Nat) (s:Sl),ρ'[i]?=aa s->s=.no\/U[i]?=aa s):aM G E H0 Hf H J ρ':=by
 refine h.re h.ext f (λi v s a b=>?_) λi s v a b c p=>?_
 .rcases d i s b with e |e
  .subst e;trivial
  .exact h.at' i v s a e
 .rcases d i s b with e |e
  .subst e;exact(p.calm rfl).elim
  .exact⟨s,e,p⟩
def mF{a:Type}{x:a}{l:List a}{y:a}(h:(gm k x++l)[i]?=aa y):(i<k/\y=x)\/(k<=i/\l[i-k]?=aa y):=by
 by_cases hi:i<k
 .left;rw[m8 (by simpa using hi),yT,if_pos hi]at h;exact⟨hi,(cN h).symm⟩
 .right;rw[l5 (by simpa using uN hi),nc]at h;exact⟨uN hi,h⟩
def mG{a b:Type}{f:a->b}{l:List a}{y:b}(h:(l.map f)[i]?=aa y):∃x,l[i]?=aa x/\y=f x:=by
 rw[gf]at h
 cases e:l[i]? with
 |none=>rw[e]at h;nomatch h
 |some x=>rw[e]at h;exact⟨x,rfl,(cN h).symm⟩
def OK(h:js.Nodup){x:Nat}(a:js[i]?=aa x)(b:js[W6]?=aa x):i=W6:=by
 obtain⟨e,c⟩:=dD.mp a;obtain⟨f,d⟩:=dD.mp b;exact(List.getElem_inj h).mp (c.trans d.symm)
def aM.comp(k:Nat)(h:aM G E H0 Hf H J U)(T:js.Nodup):aM G E H0 Hf H (ig k js J) (df k js U):=by
 have own:∀i s,(df k js U)[i]?=aa s->s.calm=ag->∃W6,k<=i/\js[i-k]?=aa W6/\U[W6]?=aa s:=λi s a n=>by
  rcases mF a with⟨_,e⟩ |⟨hi,a⟩
  .subst e;nomatch n
  .obtain⟨W6,f,es⟩:=mG a
   cases e:U[W6]? with
   |none=>rw[e]at es;subst es;nomatch n
   |some t=>rw[e]at es;replace es:s=t:=es;subst es;exact⟨W6,hi,f,e⟩
 have val:∀i v W6,(ig k js J)[i]?=aa v->k<=i->js[i-k]?=aa W6->v=(J[W6]?).getD ab:=λi v W6 a hi f=>by
  rcases mF a with⟨Q,_⟩ |⟨_,a⟩
  .lia
  .obtain⟨w,g,es⟩:=mG a;rw[f]at g;cases g;exact es
 refine⟨h.ext,by simp[ig,df],λi v s a b=>?_,λi W6 s t y z l a b c d p q=>?_⟩
 .rcases mF b with⟨_,e⟩ |⟨hi,b⟩
  .subst e;trivial
  .obtain⟨W6,f,es⟩:=mG b;have C:=val i v W6 a hi f
   cases e:U[W6]? with
   |none=>rw[e]at es;subst es;trivial
   |some t=>
    rw[e]at es;subst es;obtain⟨u,N,q⟩:=h.slot e;rw[N]at C;subst C;exact q
 .have n:s.calm=ag:=by
   cases o:s.calm with
   |true=>exact(p.calm o).elim
   |false=>rfl
  have Y:t.calm=ag:=by
   cases o:t.calm with
   |true=>exact(q.calm o).elim
   |false=>rfl
  obtain⟨I,hi,B,x⟩:=own i s a n;obtain⟨w,r,f,A⟩:=own W6 t b Y;have L:=val i _ I c hi B;have M:=val W6 _ w d r f;obtain⟨u1,j,_⟩:=h.slot x;obtain⟨u2,m,_⟩:=h.slot A;rw[j]at L;rw[m]at M;subst L M;have:=h.dj I w s t y z l x A j m p q;subst this;have:=OK T B f
  lia
abbrev iJ(h:D->Option OD):LD->OLD
 | []=>aa []
 |d::ds=>(h d).bind λo=>(iJ h ds).map λr=>match o with
  |some y=>y::r
  |none=>r
def OL{h:D->Option OD}{r:LD}(e:iJ h (d::ds)=aa r):∃o a,h d=aa o/\iJ h ds=aa a/\r=(match o with |some y=>y::a |none=>a):=by
 dsimp only[iJ]at e
 cases b:h d with
 |none=>rw[b]at e;nomatch e
 |some o=>
  cases c:iJ h ds with
  |none=>rw[b,c]at e;nomatch e
  |some a=>
   rw[b,c]at e;cases e;refine⟨o,a,rfl,rfl,?_⟩
   cases o <;> rfl
abbrev mH(g:D->LS->Option LS)(ft:MF4)(fe:MF1)(U:LS)(d:D):Option OD:=(g d U).bind λρ1=>(ft ρ1).bind λb=>if b then (fe ρ1).map aa else aa ab
abbrev bx(k:Nat)(js:LN)(a:MF2)(g:D->LS->Option LS)(ft:MF4)(fe:MF1)(U:LS):OLD:=
 (a U).bind λds=>if ds.length<=16777216 then iJ (mH g ft fe (df k js U)) ds else ab
def sk{a:Type}{l:List a}(h:i<l.length):∃x,l[i]?=aa x/\l.drop i=x::l.drop (i+1):=⟨l[i],by simp[h],(uJ h)⟩
abbrev DTs(c:Str->Addr)(X:Cx)(cc:LEx)(f:MF4):Prop:=PTs X cc (tDT (Gx c X) f)
def dh:DTs c X [] kY:=PTs.imp Oo λJ H Q d=>by
 obtain⟨E,H0,Hf,U,b,st,a,k⟩:=d;exact(by cases a;exact k Hf H (Ext.refl st.sub))
def vL{f:MF4}(h:DT c X e f):DTs c X [e] f:=Gd h
variable{g:D->LS->Option LS}{ft:MF4}{fe:MF1}{rs:LD}
def OM(hj:js.Nodup)(hk:∀d U ρ' i,g d U=aa ρ'->k<=i->ρ'[i]?=U[i]?)(A:∀d U ρ',g d U=aa ρ'->ρ'.length=U.length){ti:TI}(st:aM G E H0 Hf H J U)
 (hti:∀R:It->Hp->Prop,(∀W2 al H1,Ext Hf H al H1->vJ G al H1 W2 ds->R W2 H1)->ti J H R)(hz:ds.length<=16777216)(ef:iJ (mH g ft fe (df k js U)) ds=aa rs)
 (kq:∀l L j H',Ext Hf H j H'->H l=ab->j l=ab->H' l=aa (.lst L)->aF G j rs L->Q (.ref l) H'):pz k js ti (tDG G g) (tDT G ft) (tD G fe) J H Q:=by
 refine hti _ λW2 al H1 x1 it=>?_
 refine⟨λi m ys σ' H'=>m=ds.length-i/\i<=ds.length/\∃j p bH,Ext al H1 j H'/\aM G E H0 j H' σ' _/\aF G j p ys/\iJ _ (ds.drop i)=aa bH/\rs=p++bH/\p.length<=i,
  ⟨ds.length,rfl,gg _,al,[],rs,Ext.refl x1.s,(st.step x1).comp k hj,rfl,ef,rfl,bh _⟩,?_⟩
 rintro i m ys σ' H' ⟨rfl,hi,j,p,bH,x2,st2,ra,Y,er,hal⟩;have B:ys.length<=be:=by rw[c6,<- ra.length];lia
 obtain⟨it1,it2⟩:=it j H' x2 i
 by_cases r:i<ds.length
 .obtain⟨d,ed,edr⟩:=sk r;obtain⟨go,yl⟩:=it1 d ed
  refine .inr ⟨go,B,λI M H2=>ds.length-_=ds.length-_/\i+1<=ds.length/\∃j p bH,Ext al H1 j H2/\aM G E H0 j H2 M _/\aF G j p I/\iJ _ _=aa bH/\rs=p++bH/\p.length<=i+1,
   λI M H2 w=>⟨ds.length-(i+1),by lia,w⟩,λx H2 y=>?_⟩
  obtain⟨a0,x3,rx⟩:=yl x H2 y;rw[edr]at Y;obtain⟨o,r',a,u,n⟩:=OL Y;unfold mH at a
  cases z:g d _ with
  |none=>rw[z]at a;nomatch a
  |some ρ1=>
   rw[z]at a;replace a:(ft ρ1).bind _=_:=a
   cases et:ft ρ1 with
   |none=>rw[et]at a;nomatch a
   |some b=>
    rw[et]at a;refine⟨E,H0,a0,df k js U,d,ρ1,st2.step x3,rx,z,λN q=>⟨E,H0,a0,ρ1,b,q,et,λt H4 C=>?_⟩⟩
    have back:∀{c T:Hp},aM G E H0 c T N ρ1->aM G E H0 c T N _:=λ{c T} s5=>s5.weak (A _ _ _ z).symm λW6 s hs=>by
     rcases mF hs with⟨_,e⟩ |⟨hj',_⟩
     .exact .inl e
     .exact .inr (by rw[hk _ _ _ _ z hj'];exact hs)
    cases b with
    |true=>
     cases ee:fe ρ1 with
     |none=>rw[ee]at a;nomatch a
     |some y'=>
      rw[ee]at a;cases a;refine⟨E,H0,t,ρ1,y',q.step C,ee,λv c T x5 r5=>?_⟩;have x:=(x3.trans C).trans x5;refine⟨rfl,r,c,p++[y'],r',x2.trans x,back ((q.step C).step x5),(ra.up x.f).append (.cons r5 .nil),u,?_,by simp only[aI,e7];lia⟩;simp only[er,n,cL]
      rfl
    |false=>
     cases a;have x:=x3.trans C;exact⟨rfl,r,t,p,r',x2.trans x,back (q.step C),ra.up x.f,u,by rw[er,n],by lia⟩
 .have ei:i=ds.length:=by lia
  subst ei;refine .inl ⟨it2 rfl,B,λl h1 h2=>?_⟩;rw[qP (bh _)]at Y;cases Y;rw[cr]at er;subst er;have x:=x1.trans x2;exact kq l ys j _ (x.trans (Ext.tmp x.s h2)) (x.h.free h2) (x.s.free h2) bL ra
variable{fi:MF2}
def Ai(e:js.Nodup)(f:∀d U ρ' i,g d U=aa ρ'->k<=i->ρ'[i]?=U[i]?)(b:∀d U ρ',g d U=aa ρ'->ρ'.length=U.length)(h:tDO G (bx k js fi g ft fe) J H Q):
  pz k js (Ah G fi) (tDG G g) (tDT G ft) (tD G fe) J H Q:=by
 obtain⟨E,H0,Hf,U,rs,st,a,j⟩:=h;unfold bx at a
 cases c:fi U with
 |none=>rw[c]at a;nomatch a
 |some ds=>
  rw[c]at a;replace a:(if ds.length<=16777216 then iJ _ ds else ab)=aa rs:=a
  by_cases hz:ds.length<=16777216
  .rw[if_pos hz]at a;exact OM e f b st (λR q=>⟨E,H0,Hf,U,ds,st,c,λW2 al H1 l it=>q W2 al H1 l it⟩) hz a j
  .rw[if_neg hz]at a
   nomatch a
def fM{pos:Pos}(k:Nat)(js:LN)(Nc:LSt)(d:X.calm=ac)(hi:DIe c X tg iter fi)(a:∀cl W4 ex a8 a9,DG c (X.comp scope Nc cl W4 ex a8 a9) tg k g)(j:∀cl W4 ex a8 a9,DTs c (X.comp scope Nc cl W4 ex a8 a9) cc ft)
 (e:∀cl W4 ex a8 a9,DE c (X.comp scope Nc cl W4 ex a8 a9) b7 fe)(b:kf scope X.env.scope.names X.N Nc k js=ac:=by rfl)(i:∀x,iD iter X.env x=pure x:=by intro _;rfl)(f:js.Nodup:=by decide):
  DO c X (.ListComp b7 [⟨tg,iter,cc,0⟩] scope pos) (bx k js fi g ft fe):=
 PE.imp (Gh (tt:=tDT (Gx c X) ft) (te:=tD (Gx c X) fe) k js Nc d hi (λcl W4 ex a8 a9=>(a cl W4 ex a8 a9).pg) j e b i) λJ H Q h=>
  Ai f (a [] 0 [] X.s₀ X.H₀).keep (a [] 0 [] X.s₀ X.H₀).len h
def dvc(i:Nat){pos:Pos}(b:Nc[i]?=aa x:=by rfl)(d:Vis scope x:=by first |exact cF rfl |exact bP (cF rfl) |exact bP (bP rfl))(hd:NDb x:=by decide)
 (a:NCd x:=by decide):DE c (X.comp scope Nc cl W4 ex a8 a9) (.Name x pos) (ae i):=z8 (pvc i b d hd a)
def mI(i:Nat){pos:Pos}(b:Nc[i]?=aa x:=by rfl)(d:Vis scope x:=by first |exact cF rfl |exact bP (cF rfl) |exact bP (bP rfl))(hd:NDb x:=by decide)
 (a:NCd x:=by decide):DC c (X.comp scope Nc cl W4 ex a8 a9) (.Name x pos) (au i):=Gm (pvc i b d hd a)
def dgc(i k:Nat){pos:Pos}(b:i<k:=by decide)(a:Nc.Nodup:=by decide +kernel)(hi:Nc[i]?=aa x:=by rfl)(d:scope.names.lookup x=aa .local:=by rfl):DG c (X.comp scope Nc cl W4 ex a8 a9) (.Name x pos) k (aH i):=
 GI (pgc i a hi d) b
inductive Fl where
 |nx (U:LS)
 |bk (U:LS)
 |ct (U:LS)
 |rt (d:D)
 |rtO (ds:LD)
 |rtS (d:D) (U:LS)
 |rtT (o:O)
nonrec abbrev MF3:=LS->Option Fl
abbrev vM(G:Gc)(E H0 Hf:Hp)(W5:lr):Fl->Prop
 |.nx ρ'=>∀σ' j H',aR Hf j->aM G E H0 j H' σ' ρ'->W5.nx σ' H'
 |.bk ρ'=>∀σ' j H',aR Hf j->aM G E H0 j H' σ' ρ'->W5.bk σ' H'
 |.ct ρ'=>∀σ' j H',aR Hf j->aM G E H0 j H' σ' ρ'->W5.ct σ' H'
 |.rt d=>∀v j H',Ext E H0 j H'->Rep G j d v->W5.rt v H'
 |.rtO ds=>∀l L j H',Ext E H0 j H'->H0 l=ab->j l=ab->H' l=aa (.lst L)->aF G j ds L->W5.rt (.ref l) H'
 |.rtS d U=>∀v σ' j H',aM G E H0 j H' σ' U->Rep G j d v->W5.rt v H'
 |.rtT o=>∀u fp j H',Ext E H0 j H'->OT G j H' o u fp->fp.Nodup->(∀a∈fp,H0 a=ab/\j a=ab)->W5.rt u H'
inductive tDS(G:Gc)(F:MF3)(W5:lr)(J:St)(H:Hp):Prop
 |mk:∀E H0 Hf U o,aM G E H0 Hf H J U->F U=aa o->vM G E H0 Hf W5 o->tDS G F W5 J H
abbrev DS(c:Str->Addr)(X:Cx)(st:Stmt)(F:MF3):Prop:=PS X st (tDS (Gx c X) F)
abbrev DSs(c:Str->Addr)(X:Cx)(st:List Stmt)(F:MF3):Prop:=PSs X st (tDS (Gx c X) F)
abbrev bw(U:LS):Option Fl:=aa (.nx U)
abbrev am(F a:MF3)(U:LS):Option Fl:=(F U).bind λo=>match o with
 |.nx ρ'=>a ρ'
 |o=>aa o
abbrev bu(t:MF4)(F a:MF3)(U:LS):Option Fl:=(t U).bind λb=>if b then F U else a U
abbrev cp(i:Nat)(f:MF1)(U:LS):Option Fl:=(f U).map λd=>.nx (U.set i (.im d))
abbrev eS(i:Nat)(f:MF2)(U:LS):Option Fl:=(f U).map λd=>.nx (U.set i (.own d))
abbrev ce(f:MF1)(U:LS):Option Fl:=(f U).map .rt
abbrev ij(f:MF2)(U:LS):Option Fl:=(f U).map .rtO
abbrev fq(i:Nat)(U:LS):Option Fl:=match U[i]? with
 |some (.im d)=>aa (.rt d)
 |some (.own M)=>aa (.rtO M)
 | _=>ab
abbrev gy(f:MF1)(U:LS):Option Fl:=(f U).map λ_=>.nx U
abbrev i4(g:D->LS->Option LS)(F:MF3):LD->MF3
 | [],U=>aa (.nx U)
 |d::ds,U=>(g d U).bind λρ1=>(F ρ1).bind λo=>match o with
  |.nx a=>i4 g F ds a
  |.ct a=>i4 g F ds a
  |.bk a=>aa (.nx a)
  |.rt d=>aa (.rt d)
  |.rtO d=>aa (.rtO d)
  |.rtS d a=>aa (.rtS d a)
  |.rtT o=>aa (.rtT o)
abbrev dM(fi:MF2)(g:D->LS->Option LS)(F:MF3)(U:LS):Option Fl:=(fi U).bind λds=>i4 g F ds U
abbrev vN(i:Nat)(U:LS):LS:=match U[i]? with
 |some (.own M)=>U.set i (.im (.lst M))
 |some (.ownd C M)=>U.set i (.im (.dic C M))
 |some (.obj c ns M)=>U.set i (.im (.ins c ns M))
 | _=>U
abbrev fY(i:Nat)(F:MF3)(U:LS):Option Fl:=F (vN i U)
abbrev gH(i:Nat)(f:MF1)(U:LS):Option Fl:=(f U).bind λd=>match U[i]? with
 |some (.own M)=>if M.length<16777216 then aa (.nx (U.set i (.own (M++[d])))) else ab
 | _=>ab
abbrev km(f:MF1)(U:LS):OLD:=(f U).bind λd=>match d with
 |.lst M=>aa M
 | _=>ab
abbrev kr(i:Nat)(f:MF2)(U:LS):Option Fl:=(f U).bind λds=>match U[i]? with
 |some (.own M)=>if M.length+ds.length<=16777216 then aa (.nx (U.set i (.own (M++ds)))) else ab
 | _=>ab
def bA:DSs c X [] bw:=PSs.imp Fi λW5 J H b=>by
 obtain⟨E,H0,Hf,U,o,d,a,k⟩:=b;exact(by cases a;exact k J Hf H (aR.refl _) d)
variable{W5:lr}
def vM.up{o:Fl}(h:vM G E H0 Hf W5 o)(s:aR Hf j):vM G E H0 j W5 o:=by
 cases o with
 |nx U=>exact λσ' a0 H2 s2 q=>h σ' a0 H2 (s.trans s2) q
 |bk U=>exact λσ' a0 H2 s2 q=>h σ' a0 H2 (s.trans s2) q
 |ct U=>exact λσ' a0 H2 s2 q=>h σ' a0 H2 (s.trans s2) q
 |rt d=>exact h
 |rtO d=>exact h
 |rtS d U=>exact h
 |rtT o=>exact h
variable{st:Stmt}{sts:List Stmt}{F F':MF3}
def ar(g:DS c X st F)(h:DSs c X sts F'):DSs c X (st::sts) (am F F'):=PSs.imp (Fj g h) λW5 J H i=>by
 obtain⟨E,H0,Hf,U,o,j,a,k⟩:=i;unfold am at a
 cases b:F U with
 |none=>rw[b]at a;nomatch a
 |some f=>
  rw[b]at a;refine⟨E,H0,Hf,U,f,j,b,?_⟩
  cases f with
  |nx ρ1=>exact λl al H1 s1 e=>⟨E,H0,al,ρ1,o,e,a,k.up s1⟩
  |bk ρ1=>cases a;exact k
  |ct ρ1=>cases a;exact k
  |rt d=>cases a;exact k
  |rtO d=>cases a;exact k
  |rtS d ρ1=>cases a;exact k
  |rtT o'=>cases a;exact k
def av(a:DS c X st F):DSs c X [st] F:=Ms a
variable{a b:List Stmt}{t:MF4}
def bE{pos:Pos}(j:DT c X cd t)(ha:DSs c X a F)(i:DSs c X b F'):DS c X (.If cd a b pos) (bu t F F'):=PS.imp (Fk j ha i) λW5 J H l=>by
 obtain⟨E,H0,Hf,U,o,h,d,k⟩:=l;unfold bu at d
 cases g:t U with
 |none=>rw[g]at d;nomatch d
 |some x=>
  rw[g]at d;refine⟨E,H0,Hf,U,x,h,g,λal H1 e=>?_⟩
  cases x with
  |true=>rw[if_pos rfl];exact⟨E,H0,al,U,o,h.step e,d,k.up e.f⟩
  |false=>rw[if_neg cq];exact⟨E,H0,al,U,o,h.step e,d,k.up e.f⟩
def GM{f:MF1}(g:PS X st (mr te (mq i)))(hi:∀J H Q,tD (Gx c X) f J H Q->te J H Q):DS c X st (cp i f):=PS.imp g λW5 J H h=>by
 obtain⟨E,H0,Hf,U,o,e,a,k⟩:=h;unfold cp at a
 cases b:f U with
 |none=>rw[b]at a;nomatch a
 |some d=>
  rw[b]at a;cases a;exact hi _ _ _ ⟨E,H0,Hf,U,d,e,b,λv j H' x r=>k _ j H' x.f ((e.step x).setIm r)⟩
def GN(m:PS X st (mr te (mq i)))(hi:∀J H Q,tDO (Gx c X) f J H Q->te J H Q):DS c X st (eS i f):=PS.imp m λW5 J H n=>by
 obtain⟨E,H0,Hf,U,o,e,a,k⟩:=n;unfold eS at a
 cases b:f U with
 |none=>rw[b]at a;nomatch a
 |some d=>
  rw[b]at a;cases a;exact hi _ _ _ ⟨E,H0,Hf,U,d,e,b,λl L j H' x hn g h r=>k _ j H' x.f (e.setOwn rfl x hn g ⟨L,h,r⟩)⟩
def dH{pos:Pos}(i:Nat){f:MF1}(a:X.N.Nodup)(b:DE c X e f)(hi:X.N[i]?=aa x:=by rfl)(j:Loc X.env.scope x:=by first |exact cF rfl |exact bP rfl)(g:fo e (aa (.Name x bb)) pos.line X.env=pure ag:=by rfl)(d:LcF X x:=by first |exact .inl rfl |exact .inr rfl):
  DS c X (.Assign [.Name x bb] e pos) (cp i f):=GM (mv a hi j b g d) λ_ _ _ h=>h
def ik{pos:Pos}(i:Nat)(a:X.N.Nodup)(b:DO c X e f)(hi:X.N[i]?=aa x:=by rfl)(j:Loc X.env.scope x:=by first |exact cF rfl |exact bP rfl)(g:fo e (aa (.Name x bb)) pos.line X.env=pure ag:=by rfl)(d:LcF X x:=by first |exact .inl rfl |exact .inr rfl):
  DS c X (.Assign [.Name x bb] e pos) (eS i f):=GN (mv a hi j b g d) λ_ _ _ h=>h
def ON(h:tD G (aU f) J H Q):tDO G f J H Q:=by
 obtain⟨E,H0,Hf,U,d,st,a,k⟩:=h;unfold aU at a
 cases b:f U with
 |none=>rw[b]at a;nomatch a
 |some ds=>
  rw[b]at a;have a:=cN a;subst a;exact⟨E,H0,Hf,U,ds,st,b,λl L j H' x hn c e r=>k _ _ H' (x.fix hn c e) ⟨l,L,rfl,bL,r.up (cJ c)⟩⟩
def vO{pos:Pos}(i:Nat)(k:Nat)(js:LN)(Nc:LSt)(f:X.N.Nodup)(j:X.calm=ac)(hi:DIe c X tg iter fi)
 (a:∀cl W4 ex a8 a9,DG c (X.comp scope Nc cl W4 ex a8 a9) tg k g)(p:∀cl W4 ex a8 a9,DTs c (X.comp scope Nc cl W4 ex a8 a9) cc ft)(l:∀cl W4 ex a8 a9,DE c (X.comp scope Nc cl W4 ex a8 a9) b7 fe)
 (b:X.N[i]?=aa x:=by rfl)(q:Loc X.env.scope x:=by first |exact cF rfl |exact bP rfl)
 (d:fo (.ListComp b7 [⟨tg,iter,cc,0⟩] scope pos) (aa (.Name x bb)) b5.line X.env=pure ac:=by rfl)
 (e:kf scope X.env.scope.names X.N Nc k js=ac:=by rfl)(o:∀x,iD iter X.env x=pure x:=by intro _;rfl)(n:js.Nodup:=by decide)
 (m:LcF X x:=by first |exact .inl rfl |exact .inr rfl):
  DS c X (.Assign [.Name x bb] (.ListComp b7 [⟨tg,iter,cc,0⟩] scope pos) b5) (eS i (bx k js fi g ft fe)):=
 GN (vo (tt:=tDT (Gx c X) ft) (te:=tD (Gx c X) fe) k js Nc f b q j hi (λcl W4 ex a8 a9=>(a cl W4 ex a8 a9).pg) p l d e o m) λJ H Q h=>Ai n (a [] 0 [] X.s₀ X.H₀).keep (a [] 0 [] X.s₀ X.H₀).len h
def mJ{pos:Pos}(i:Nat)(k:Nat)(js:LN)(Nc:LSt)(f:X.N.Nodup)(j:X.calm=ac)(hi:DIe c X tg iter fi)
 (a:∀cl W4 ex a8 a9,DG c (X.comp scope Nc cl W4 ex a8 a9) tg k g)(p:∀cl W4 ex a8 a9,DTs c (X.comp scope Nc cl W4 ex a8 a9) cc ft)(l:∀cl W4 ex a8 a9,DE c (X.comp scope Nc cl W4 ex a8 a9) b7 fe)
 (b:X.N[i]?=aa x:=by rfl)(q:Loc X.env.scope x:=by first |exact cF rfl |exact bP rfl)
 (d:fo (.ListComp b7 [⟨tg,iter,cc,0⟩] scope pos) (aa (.Name x bb)) b5.line X.env=pure ac:=by rfl)
 (e:kf scope X.env.scope.names X.N Nc k js=ac:=by rfl)(o:∀x,iD iter X.env x=pure x:=by intro _;rfl)(n:js.Nodup:=by decide)
 (m:LcF X x:=by first |exact .inl rfl |exact .inr rfl):
  DS c X (.Assign [.Name x bb] (.ListComp b7 [⟨tg,iter,cc,0⟩] scope pos) b5) (cp i (aU (bx k js fi g ft fe))):=
 GM (vo (tt:=tDT (Gx c X) ft) (te:=tD (Gx c X) fe) k js Nc f b q j hi (λcl W4 ex a8 a9=>(a cl W4 ex a8 a9).pg) p l d e o m) λJ H Q h=>Ai n (a [] 0 [] X.s₀ X.H₀).keep (a [] 0 [] X.s₀ X.H₀).len (ON h)
def cy{pos:Pos}{f:MF1}(h:DE c X e f):DS c X (.Return (aa e) pos) (ce f):=PS.imp (rE h) λW5 J H i=>by
 obtain⟨E,H0,Hf,U,o,g,a,k⟩:=i;unfold ce at a
 cases b:f U with
 |none=>rw[b]at a;nomatch a
 |some d=>
  rw[b]at a;cases a;exact⟨E,H0,Hf,U,d,g,b,λv j H' x r=>k v j H' (g.ext.trans x) r⟩
abbrev dW(f:MF1)(U:LS):Option Fl:=(f U).map λd=>.rtS d U
def fg{pos:Pos}{f:MF1}(h:DE c X e f):DS c X (.Return (aa e) pos) (dW f):=PS.imp (rE h) λW5 J H i=>by
 obtain⟨E,H0,Hf,U,o,g,a,k⟩:=i;unfold dW at a
 cases b:f U with
 |none=>rw[b]at a;nomatch a
 |some d=>
  rw[b]at a;cases a;exact⟨E,H0,Hf,U,d,g,b,λv j H' x r=>k v J j H' (g.step x) r⟩
def ku{pos:Pos}(i:DO c X e f):DS c X (.Return (aa e) pos) (ij f):=PS.imp (rE i) λW5 J H p=>by
 obtain⟨E,H0,Hf,U,o,g,a,k⟩:=p;unfold ij at a
 cases b:f U with
 |none=>rw[b]at a;nomatch a
 |some d=>
  rw[b]at a;cases a;exact⟨E,H0,Hf,U,d,g,b,λl L j H' x hn m n r=>k l L j H' (g.ext.trans x) (g.ext.h.free hn) m n r⟩
def OO{pos:Pos}(h:PE X e (eO i)):DS c X (.Return (aa e) pos) (fq i):=PS.imp (rE h) λW5 J H m=>by
 obtain⟨E,H0,Hf,U,o,b,a,k⟩:=m;unfold fq at a
 cases es:U[i]? with
 |none=>rw[es]at a;nomatch a
 |some s=>
  rw[es]at a
  cases s with
  |im d=>
   cases a;obtain⟨v,f,r⟩:=b.imm es
   exact⟨_,f,k v Hf H b.ext r⟩
  |own M=>
   cases a;obtain⟨l,f,g,j,L,q,r⟩:=b.ownAt rfl es
   exact⟨_,f,k l L Hf H b.ext g j q r⟩
  | _=>nomatch a
def g7{pos:Pos}(i:Nat)(b:X.N[i]?=aa x:=by rfl)(d:Vis X.env.scope x:=by first |exact cF rfl |exact bP (cF rfl) |exact bP (bP rfl))(hd:NDb x:=by decide)
 (a:NCd x:=by decide):DS c X (.Return (aa (.Name x p)) pos) (fq i):=OO (lu b d hd a)
variable{f:MF1}
def kz{pos:Pos}(h:DE c X e f)(i:fo e ab pos.line X.env=pure ag:=by rfl):DS c X (.Expr e pos) (gy f):=PS.imp (dG h i) λW5 J H l=>by
 obtain⟨E,H0,Hf,U,o,g,a,k⟩:=l;unfold gy at a
 cases b:f U with
 |none=>rw[b]at a;nomatch a
 |some d=>
  rw[b]at a;cases a;exact⟨E,H0,Hf,U,d,g,b,λv j H' x r=>k J j H' x.f (g.step x)⟩
def fN{pos:Pos}(hp:nA (model X.prog X.w) X.A X.env X.xe)(hc:X.calm=ac)(hi:DI c X tg iter fi)(hg:DG c X tg kk g)(hb:DSs c X a F)(hs:∀x,iD iter X.env x=pure x:=by intro _;rfl):
  DS c X (.For tg iter a [] pos) (dM fi g F):=PS.imp (Ft hp hc hi hg.pg hb hs) λW5 J H q_=>by
 obtain⟨E,H0,Hf,U,o,Q,q,k⟩:=q_;unfold dM at q
 cases u:fi U with
 |none=>rw[u]at q;nomatch q
 |some ds=>
  rw[u]at q;refine⟨E,H0,Hf,U,ds,Q,u,λW2 al H1 M it=>?_⟩;refine⟨λi m σ' H'=>m=ds.length-i/\i<=ds.length/\∃j ρ',aM _ E H0 j H' σ' ρ'/\aR al j/\i4 g F (ds.drop i) ρ'=aa o,⟨ds.length,rfl,gg _,al,U,Q.step M,aR.refl _,q⟩,?_⟩;rintro i m σ' H' ⟨rfl,hi',j,ρ',n,s1,em⟩;obtain⟨C,G⟩:=it j H' s1 n.sub i
  by_cases l:i<ds.length
  .obtain⟨d,Y,z⟩:=sk l;obtain⟨go,yl⟩:=C d Y;rw[z]at em;dsimp only[i4]at em;refine .inr ⟨go,λs H2=>ds.length-_=ds.length-_/\i+1<=ds.length/\∃j ρ',aM _ E H0 j H2 s ρ'/\aR al j/\i4 g F _ ρ'=aa o,λs H2 w=>⟨ds.length-(i+1),by lia,w⟩,λx H2 y=>?_⟩;obtain⟨a0,T,rx⟩:=yl x H2 y
   cases B:g d ρ' with
   |none=>rw[B]at em;nomatch em
   |some ρ1=>
    rw[B]at em;replace em:(F ρ1).bind _=_:=em
    cases v:F ρ1 with
    |none=>rw[v]at em;nomatch em
    |some N=>
     rw[v]at em;refine⟨E,H0,a0,ρ',d,ρ1,n.step T,rx,B,λσ3 L=>⟨E,H0,a0,ρ1,N,L,v,?_⟩⟩;have I:=s1.trans T.f
     cases N with
     |nx h=>exact λp b t r e=>⟨rfl,l,b,h,e,I.trans r,em⟩
     |ct h=>exact λp b t r e=>⟨rfl,l,b,h,e,I.trans r,em⟩
     |bk h=>cases em;exact λp b t r e=>k p b t ((M.f.trans I).trans r) e
     |rt d=>cases em;exact k
     |rtO d=>cases em;exact k
     |rtS d h=>cases em;exact k
     |rtT o'=>cases em;exact k
  .have ei:i=ds.length:=by lia
   subst ei;rw[qP (bh _)]at em;cases em;exact .inl ⟨G rfl,k σ' j H' (M.f.trans s1) n⟩
def OP(h:tDS G (fY i F) W5 J H):tDS G F W5 J H:=by
 obtain⟨E,H0,Hf,U,o,b,c,k⟩:=h;unfold fY vN at c;split at c
 .rename_i M es;obtain⟨l,e,f,a,L,q,r⟩:=b.ownAt rfl es;exact⟨E,H0,_,_,o,b.fixd (d:=.lst M) rfl es e q ⟨l,L,rfl,bL,r.up (cJ a)⟩,c,k.up (cJ a)⟩
 .rename_i C M es;obtain⟨l,e,f,a,L,q,z,r⟩:=b.ownAt rfl es;exact⟨E,H0,_,_,o,b.fixd (d:=.dic C M) rfl es e q ⟨l,L,rfl,bL,z,r.up (cJ a)⟩,c,k.up (cJ a)⟩
 .rename_i g ns M es;obtain⟨l,e,f,a,dx,L,q,z,r⟩:=b.ownAt rfl es;exact⟨E,H0,_,_,o,b.fixd (d:=.ins g ns M) rfl es e q ⟨l,dx,L,rfl,bL,z,r.up (cJ a)⟩,c,k.up (cJ a)⟩
 .exact⟨E,H0,Hf,U,o,b,c,k⟩
def gJ(i:Nat)(h:DS c X st F):DS c X st (fY i F):=PS.imp h λ_ _ _=>OP
def kA(h:PS X st (pd (tBM X.K "list" zQ (eO i) (j8 (tD (Gx c X) f) j7)))):DS c X st (gH i f):=PS.imp h λW5 J H n=>by
 obtain⟨E,H0,Hf,U,o,e,a,k⟩:=n;unfold gH at a
 cases b:f U with
 |none=>rw[b]at a;nomatch a
 |some d=>
  rw[b]at a;split at a
  .rename_i M es;split at a
   .rename_i m;cases a;obtain⟨l,g,s,t,L,q,r⟩:=e.ownAt rfl es;refine⟨_,g,.inl ⟨rfl,_,SqL.of q⟩,E,H0,Hf,U,d,e,b,λv j H' x p=>?_⟩;refine⟨l,L,v,rfl,rfl,(x.h _ _ q),by rw[c6,<- r.length];exact m,k J j _ x.f ((e.step x).mutd rfl rfl es g ⟨L++[v],bL,(r.up x.f).append (.cons p .nil)⟩)⟩
   .nomatch a
  .nomatch a
def sn(h:PS X st (pd (tBM X.K "list" F0 (eO i) (j8 (tD (Gx c X) f) j7)))):DS c X st (kr i (km f)):=PS.imp h λW5 J H u=>by
 obtain⟨E,H0,Hf,U,o,g,b,k⟩:=u;unfold kr km at b
 cases e:f U with
 |none=>rw[e]at b;nomatch b
 |some d=>
  rw[e]at b
  cases d with
  |lst ds=>
   replace b:(match U[i]? with |some (.own M)=>if M.length+ds.length<=16777216 then aa _ else ab | _=>ab)=aa o:=b
   split at b
   .rename_i M es;split at b
    .rename_i t;cases b;obtain⟨l,m,z,A,L,q,r⟩:=g.ownAt rfl es;refine⟨_,m,.inl ⟨rfl,_,SqL.of q⟩,E,H0,Hf,U,.lst ds,g,e,λv j H' x y=>?_⟩;obtain⟨a,us,p,w,n⟩:=y;subst p;refine⟨l,a,L,us,rfl,rfl,(x.h _ _ q),x.s _ _ w,by rw[c6,<- r.length,<- n.length];exact t,k J j _ x.f ((g.step x).mutd rfl rfl es m ⟨L++us,bL,(r.up x.f).append n⟩)⟩
    .grind
   .grind
  | _=>nomatch b
abbrev GO:Fl->OD
 |.rt d=>aa d
 |.rtO ds=>aa (.lst ds)
 |.rtS d _=>aa d
 |.nx _=>aa .non
 | _=>ab
abbrev jD(n:Nat)(ds:LD):LS:=ds.map .im++gm (n-ds.length) .no
abbrev bz(n:Nat)(F:MF3)(ds:LD):OD:=(F (jD n ds)).bind GO
abbrev spD(G:Gc)(n:Nat)(m:LD->OD):Sp:=λL H Q _=>∃Hf ds d,aR Hf H/\aF G Hf ds L/\ds.length=n/\m ds=aa d/\∀v j H',Ext Hf H j H'->Rep G j d v->Q v H'
def aM.start(h:aR Hf H)(r:aF G Hf ds L):aM G Hf H Hf H (start N L) (jD N.length ds):=by
 have im:∀i (s:Sl),(jD N.length ds)[i]?=aa s->s=.no\/∃d,ds[i]?=aa d/\s=.im d:=λi s b=>by
  unfold jD at b
  by_cases hi:i<ds.length
  .rw[m8 (by simpa using hi)]at b;obtain⟨d,f,es⟩:=mG b;exact .inr ⟨d,f,es⟩
  .rw[l5 (by simpa using uN hi)]at b;obtain⟨_,e⟩:=dD.mp b;rw[List.getElem_replicate]at e;exact .inl e.symm
 refine⟨Ext.refl h,by simp[L2.start,jD,r.length],λi v s a b=>?_,λi W6 s t v w l a b c d p q=>?_⟩
 .rcases im i s b with e |⟨d,f,es⟩
  .subst e;trivial
  .subst es;obtain⟨u,g,ru⟩:=r.get f;refine⟨u,?_,ru⟩;unfold L2.start at a;rw[m8 (by simpa using ((dD.mp g).1)),gf,g]at a;exact(cN a).symm
 .rcases im i s a with e |⟨d,f,es⟩
  .subst e;exact(p.calm rfl).elim
  .subst es;exact(p.calm rfl).elim
variable{P:du}{mg:MGT}{base:Heap}{n_:Nat}{qual:Str}{f:Addr}{fd:fT}{ps:LSt}
def bQ(t:Fun K x qual st f fd)(S:aT N ps (aO st))
 (h:∀(cdv:Value) (A:dQ) (outer:List Env) (s:aL) (H:Hp) (W5:XK),cG k (A.deeper (iC qual (aO st) s.heap.objs.size f cdv))->DSs c (j9 CX0 P w K mg base N qual (aO st) f cdv A outer s H W5).nox (ka st) F)(i:N.length=n_:=by rfl):
  eX P w K mg base CX0 (k+1) f fd ps (spD ⟨K,c⟩ ps.length (bz n_ F)):=by
 subst i;refine t.ok S (λL H Q W5 m=>by obtain⟨Hf,ds,d,q,r,a,_⟩:=m;rw[<- r.length];exact a) λcdv A outer s H L Q W5 u m=>?_;obtain⟨Hf,ds,d,q,r,a,e,b⟩:=m;refine⟨_,h cdv A outer s H W5 u,?_⟩;unfold bz at e
 cases g:F _ with
 |none=>rw[g]at e;nomatch e
 |some o=>
  rw[g]at e;refine⟨Hf,H,Hf,_,o,aM.start q r,g,?_⟩
  cases o with
  |nx U=>cases e;exact λσ' j H' _ n=>b _ j H' n.ext rfl
  |bk U=>nomatch e
  |ct U=>nomatch e
  |rt d=>cases e;exact b
  |rtO rs=>cases e;exact λl L j H' x hn p a r=>b _ _ H' (x.fix hn p a) ⟨l,L,rfl,bL,r.up (cJ p)⟩
  |rtS d U=>cases e;exact λv σ' j H' n r=>b v j H' n.ext r
  |rtT o=>nomatch e
variable{fa:MF2}{k0:Nat}
def bc{pos:Pos}(pk:Pk X.prog X.w X.K X.mg X.base CX0 k x (f,fd) ps (spD (Gx c X) ps.length m))(l:cG k0 X.A)(ha:DA c X (e::es) fa)(y:(e::es).length=ps.length:=by rfl)(a:NDb x:=by decide)(t:StE X e es:=by rfl)(i:BkE X pos es:=by rfl)(h:k<=k0:=by decide)(u:Gl X x:=by first |rfl |exact glc rfl):
  DE c X (.Call (.Name x p) (e::es) [] pos) (aJ m fa):=PE.imp (ph pk.ok (l.mono h) u pk.g pk.kp pk.b .nil kc ha.pa a t i) λJ H Q B=>by
 obtain⟨E,H0,Hf,U,d,st,q,z⟩:=B;obtain⟨ds,n,o⟩:=GE q;refine⟨E,H0,Hf,U,ds,st,n,λL j H' x r=>?_⟩;rw[cr];exact⟨j,ds,d,x.s,r,(ha.len U ds n).trans y,o,λv a0 H2 G C=>z v a0 H2 (x.trans G) C⟩
def Aj{G:Gc}{H:Hp}{f:Str}{d:D}:∀{ns:LSt} {ds:LD} {L:LVv},(ns.zip ds).lookup f=aa d->aF G H ds L->∃v,(ns.zip L).lookup f=aa v/\Rep G H d v
 | [],_,_,e,_=>by simp at e
 |n::ns,[],_,e,_=>by simp at e
 |n::ns,x::ds,_,e,q4_=>by
  obtain⟨v,r,b,c,g⟩:=q4_;subst b;simp only[iP,oX]at e;simp only[iP,oX]
  cases a:f==n with
  |true=>rw[a]at e;cases e;exact⟨v,rfl,c⟩
  |false=>rw[a]at e;exact Aj e g
def Ak{f:Str}:∀{ns:LSt} {L:LVv},ns.contains f=ag->(ns.zip L).lookup f=ab
 | [],_,_=>by simp
 |n::ns,[],_=>by rfl
 |n::ns,v::L,h=>by
  rw[contains_cons,uE]at h;simp only[iP,oX,h.1];exact Ak h.2
abbrev vP:List (Str×(MF1))->LS->LSt->LD->Option (LSt×LD)
 | [],_,ns,ds=>aa (ns,ds)
 |(f,m)::r,U,ns,ds=>(m U).bind λd=>if ns.contains f then ab else vP r U (ns++[f]) (ds++[d])
abbrev OQ(G:Gc)(b:Str)(fs:List (Str×(MF1))):TS:=λW5 J H=>∃x dx E H0 Hf U ns us ds r,J[0]?=aa (aa (.ref x))/\(∀s∈U,Sl.calm s=ac)/\aM G E H0 Hf H J U/\H0 x=ab/\Hf x=ab /\
 H x=aa (.ins (G.cl b) dx (ns.zip us))/\ns.length=us.length/\ns.length+fs.length<=900/\aF G Hf ds us/\vP fs U ns ds=aa r /\
 ∀a j H',Ext E H0 j H'->j x=ab->H' x=aa (.ins (G.cl b) dx (r.1.zip a))->r.1.length=a.length->aF G j r.2 a->W5.nx J H'
abbrev DSI(c:Str->Addr)(X:Cx)(a:Str)(sts:List Stmt)(fs:List (Str×(MF1))):Prop:=PSs X sts (OQ (Gx c X) a fs)
def sr{f:Str}{v:V}:∀{ns:LSt} {us:LVv},ns.length=us.length->ns.contains f=ag->fJ f v (ns.zip us)=(ns++[f]).zip (us++[v])
 | [],[],_,_=>rfl
 |n::ns,u::us,hl,h=>by
  rw[contains_cons,uE]at h;have a:¬(n=f):=λz=>by rw[z,beq_self_eq_true]at h;cases h.1
  rw[iP];unfold fJ
  first
   |(rw[if_neg a,sr (by simpa using hl) h.2];rfl)
   |(rw[if_neg _,sr (by simpa using hl) h.2];rfl)
   |(rw[if_neg (by simpa using a),sr (by simpa using hl) h.2];rfl)
   |(rw[if_neg (by simpa using λz=>a _),sr (by simpa using hl) h.2];rfl)
 | [],_::_,hl,_=>by cases hl
 | _::_,[],hl,_=>by cases hl
variable{cn:Str}
def OR:DSI c X cn [] []:=PSs.imp Fi λW5 J H q=>by
 obtain⟨x,dx,E,H0,Hf,U,ns,us,ds,r,f,no,e,g,a,d,b,hz,rd,em,k⟩:=q;cases em;exact k us Hf H e.ext a d b rd
variable{o:Expr}{m:MF1}{fs:List (Str×(MF1))}
def GP{fl:Str}{pos:Pos}(N:Cls X.K (c cn))(hn:iV X.K (c cn) fl)(Y:PE X o (eO 0))(Q:DE c X e m)(h:DSI c X cn sts fs)(A:fo e (aa (.Attribute o fl bb)) pos.line X.env=pure ag:=by rfl):
  DSI c X cn (.Assign [.Attribute o fl bb] e pos::sts) ((fl,m)::fs):=PSs.imp (Fj (Nt Y Q A) h) λW5 J H q=>by
 obtain⟨x,dx,E,H0,Hf,U,ns,us,ds,r,C,no,M,G,T,L,I,hz,rd,em,k⟩:=q;unfold vP at em
 cases z:m U with
 |none=>rw[z]at em;nomatch em
 |some d=>
  rw[z]at em;split at em
  .grind
  .rename_i t;have t:ns.contains fl=ag:=by grind
   refine⟨E,H0,Hf,U,d,M,z,λv j H' y rv=>⟨_,C,x,c cn,dx,ns.zip us,rfl,y.h _ _ L,N,hn,?_,?_⟩⟩
   .grind
   .have l:j x=ab:=by rw[y.n _ _ L rfl];exact T
    have g:=M.step y
    have B:aM (Gx c X) E H0 j (upd H' x (.ins (c cn) dx (fJ fl v (ns.zip us)))) J U:=by
     refine g.re ⟨g.ext.f,λb u e=>?_,λb u e=>?_,g.ext.n⟩ rfl (λi w s a b=>?_) λi s w a b _ p=>(p.calm (no s (qQ b))).elim
     .rw[bG (g6 e G)];exact g.ext.h b u e
     .rw[bG (g6 e l)];exact g.ext.s b u e
     .have A:=no s (qQ b);have q:=g.at' i w s a b
      cases s with
      |no=>trivial
      |im d=>exact q
      | _=>nomatch A
    refine⟨x,dx,E,H0,j,U,ns++[fl],us++[v],ds++[d],r,C,no,B,G,l,?_,by rw[aI,aI,I];rfl,by rw[bg]at hz;rw[aI,e7];lia,(rd.up y.f).append (.cons rv .nil),em,k⟩;rw[bL,sr I t]
abbrev del(H:Hp)(x:Addr):Hp:=λb=>if b=x then ab else H b
def GQ{x:Addr}:del H x x=ab:=if_pos rfl
def GR{x b:Addr}(h:b≠x):del H x b=H b:=if_neg h
abbrev GS(n:Nat)(fs:List (Str×(MF1)))(a:LD):Option (LSt×LD):=vP fs (.no::(a.map .im++gm (n-1-a.length) .no)) [] []
abbrev spI(G:Gc)(cn:Str)(n:Nat)(m:LD->Option (LSt×LD)):Sp:=λL H Q _=>∃x dx Hf b a r,L=.ref x::a/\H x=aa (.ins (G.cl cn) dx [])/\Hf x=ab/\aR Hf H/\aF G Hf b a/\b.length+1=n/\m b=aa r /\
 ∀us j H',Ext Hf (del H x) j H'->j x=ab->H' x=aa (.ins (G.cl cn) dx (r.1.zip us))->r.1.length=us.length->aF G j r.2 us->Q .non H'
def OS(I:Fun K x qual st f fd)(S:aT N ps (aO st))
 (h:∀(cdv:Value) (A:dQ) (outer:List Env) (s:aL) (H:Hp) (W5:XK),cG k (A.deeper (iC qual (aO st) s.heap.objs.size f cdv))->DSI c (j9 CX0 P w K mg base N qual (aO st) f cdv A outer s H W5).nox cn (ka st) fs)
 (hz:fs.length<=900:=by decide)(z:N.length=n_:=by rfl):eX P w K mg base CX0 (k+1) f fd ps (spI ⟨K,c⟩ cn ps.length (GS n_ fs)):=by
 subst z;refine I.ok S (λL H Q W5 q=>by obtain⟨x,dx,Hf,g,B,r,y,_,_,_,m,G,_⟩:=q;subst y;rw[bg,<- m.length];exact G) λcdv A outer s H L Q W5 hr q=>⟨_,h cdv A outer s H W5 hr,?_⟩;obtain⟨x,dx,Hf,g,B,r,y,hx,Y,s0,m,G,e,kq⟩:=q;subst y;have la:=m.length
 have im:∀i s,(Sl.no::(g.map Sl.im++gm (N.length-1-g.length) .no))[i]?=aa s->s=.no\/∃d W6,i=W6+1/\g[W6]?=aa d/\s=.im d:=λi s b=>by
  cases i with
  |zero=>left;simpa using b.symm
  |succ i=>
   rw[uG]at b
   by_cases hi:i<g.length
   .rw[m8 (by simpa using hi)]at b;obtain⟨d,n,es⟩:=mG b;exact .inr ⟨d,i,rfl,n,es⟩
   .rw[l5 (by simpa using uN hi)]at b;obtain⟨_,e⟩:=dD.mp b;rw[List.getElem_replicate]at e;exact .inl e.symm
 have no:∀s∈_,Sl.calm s=ac:=λs hs=>by
  obtain⟨i,hi⟩:=List.getElem?_of_mem hs
  rcases im i s hi with e |⟨d,_,_,_,e⟩ <;> (subst e;rfl)
 refine⟨x,dx,Hf,del H x,Hf,_,[],[],[],r,rfl,no,⟨⟨aR.refl _,λb o e=>?_,s0,λ_ _ _ _=>rfl⟩,?_,λi v s a b=>?_,λi W6 s t v w l a b _ _ p _=>((p.calm (no s (qQ a))).elim)⟩,GQ,Y,hx,rfl,by simpa using hz,rfl,e,λus j H' xx J M T U=>kq us j H' xx J M T U⟩
 .by_cases E:b=x
  .subst E;rw[GQ]at e;nomatch e
  .rw[GR E]at e;exact e
 .unfold L2.start;simp only[aI,ay,bg,nc]
  lia
 .rcases im i s b with e |⟨d,W6,ei,n,es⟩
  .subst e;trivial
  .subst es ei;obtain⟨u,C,ru⟩:=m.get n;refine⟨u,?_,ru⟩;unfold L2.start at a;rw[eL,qU,uG,m8 (by simpa using ((dD.mp C).1)),gf,C]at a;exact(cN a).symm
def OU{f:MF1}(h:f U=aa d):cp i f U=aa (.nx (U.set i (.im d))):=by
 unfold cp;rw[h];rfl
def OV{f:MF2}{d:LD}(h:f U=aa d):eS i f U=aa (.nx (U.set i (.own d))):=by
 unfold eS;rw[h];rfl
def GT{f:MF1}(h:f U=aa d):ce f U=aa (.rt d):=by
 unfold ce;rw[h];rfl
def OW(h:F (jD n ds)=aa (.rt d)):bz n F ds=aa d:=by
 unfold bz;rw[h];rfl
def OX{d:LD}(h:F (jD n ds)=aa (.rtO d)):bz n F ds=aa (.lst d):=by
 unfold bz;rw[h];rfl
def aS{m:LD->OD}{f:MF2}(h:f U=aa ds)(h':m ds=aa d):aJ m f U=aa d:=by
 unfold aJ;rw[h];exact h'
def Al{a:Type}{h:D->Option OD}(f:a->D)(p:a->Bool)(q:a->D):∀(M:List a),(∀x∈M,h (f x)=aa (if p x then aa (q x) else ab))->iJ h (M.map f)=aa ((M.filter p).map q)
 | [],_=>rfl
 |x::M,hh=>by
  rw[eL];unfold iJ;rw[hh x bB,Al f p q M λy b=>hh y (cD _ b)]
  grind
def OY{a:Type}{h:D->Option OD}(f:a->D)(q:a->D)(M:List a)(b:∀x∈M,h (f x)=aa (aa (q x))):iJ h (M.map f)=aa (M.map q):=by
 have:=Al f (λ_=>ac) q M λx c=>(b x c).trans rfl;rw[this,filter_eq_self.mpr λ_ _=>rfl]
def su{a:Type}(M:List a)(f:a->D)(p:a->Bool)(q:a->D)
 (hi:fi U=aa (M.map f))(hz:M.length<=16777216)(b:∀x∈M,mH g ft fe (df k js U) (f x)=aa (if p x then aa (q x) else ab)):bx k js fi g ft fe U=aa ((M.filter p).map q):=by
 unfold bx;rw[hi];show(if (M.map f).length<=16777216 then _ else ab)=_;rw[ay,if_pos hz];exact Al f p q M b
def fZ{a:Type}(M:List a)(f:a->D)(q:a->D)
 (hi:fi U=aa (M.map f))(hz:M.length<=16777216)(b:∀x∈M,mH g ft fe (df k js U) (f x)=aa (aa (q x))):bx k js fi g ft fe U=aa (M.map q):=by
 unfold bx;rw[hi];show(if (M.map f).length<=16777216 then _ else ab)=_;rw[ay,if_pos hz];exact OY f q M b
def GU(lo:Int)(n:Nat):rng lo n=(cW n).map λ(i:Nat)=>D.int (lo+i):=rfl
variable{i:Int}
def OZ{b:Type}{f:b->D}{M:List b}(c:0<=i)(d:i<M.length):∃x,M[i.toNat]?=aa x/\atI (M.map f) i=aa (f x):=by
 have a:i.toNat<M.length:=by lia
 refine⟨M[i.toNat],by simp[a],?_⟩;have:=NP (M:=M.map f) (W6:=i.toNat) (v:=f M[i.toNat]) (by simp[a]);rw[show i.toNat=i by lia]at this;exact this
def O0{a:Type}{f:a->D}{M:List a}(d:a)(e:0<=i)(g:i<M.length):atI (M.map f) i=aa (f (M.getD i.toNat d)):=by
 obtain⟨x,b,c⟩:=OZ e g;rw[c,fF,b];rfl
abbrev kB:Nat->D->Prop
 | 0,_=>False
 |n+1,d=>match d with
  |.lst M=>∀x∈M,kB n x
  |.tup M=>∀x∈M,kB n x
  |d=>d.scalar=ac
def Am{f:D->D->Option Bool}:∀(M:LD),(∀x∈M,f x x=aa ac)->fL f M M=aa ac
 | [],_=>rfl
 |x::M,h=>by
  unfold fL;rw[h x bB,Am M λy a=>h y (cD _ a)];rfl
def vQ:∀(n:Nat) (d:D),kB n d->deq n d d=aa ac
 | 0,_,h=>h.elim
 |n+1,d,h=>by
  cases d with
  |lst M=>
   show(if M.length=M.length then fL _ M M else aa ag)=_;rw[if_pos rfl]
   exact Am M λx a=>vQ n x (h x a)
  |tup M=>
   show(if M.length=M.length then fL _ M M else ab)=_;rw[if_pos rfl]
   exact Am M λx a=>vQ n x (h x a)
  |non=>rfl
  |bl b=>show aa (b==b)=_;rw[beq_self_eq_true]
  |int b=>show aa (b==b)=_;rw[beq_self_eq_true]
  |str b=>show aa (b==b)=_;rw[beq_self_eq_true]
  | _=>cases h
def O1(h:kB 20 d):dEq d d=aa (.bl ac):=by
 unfold dEq;rw[vQ 20 d h];rfl
def GV(h:kB 20 d):dNe d d=aa (.bl ag):=by
 unfold dNe;rw[vQ 20 d h];rfl
def lB(i W6:Int):dEq (.int i) (.int W6)=aa (.bl (i==W6)):=rfl
def GW(i W6:Str):dEq (.str i) (.str W6)=aa (.bl (i==W6)):=rfl
def GX(i W6:Int):dNe (.int i) (.int W6)=aa (.bl (!(i==W6))):=rfl
def GY(i W6:Str):dNe (.str i) (.str W6)=aa (.bl (!(i==W6))):=rfl
variable{f:MF1}
def aA{m:D->D->OD}{g:MF1}{x:D}(a:f U=aa x)(b:g U=aa y)(c:m x y=aa d):m2 m f g U=aa d:=by
 unfold m2;rw[a,b];exact c
variable{b:Bool}
def aY(h:f U=aa (.bl b)):mB f U=aa b:=by
 unfold mB;rw[h];rfl
def il(h:f U=aa d)(h':nN d=aa b):gj f U=aa b:=by
 unfold gj;rw[h];exact h'
variable{f:MF4}
def sv(h:f U=aa b):lv f U=aa (!b):=by
 unfold lv;rw[h];rfl
variable{g:MF4}
def O2{r:Option Bool}(h:f U=aa ac)(h':g U=r):jz f g U=r:=by
 unfold jz;rw[h];exact h'
def O3(h:f U=aa ag):jz f g U=aa ag:=by
 unfold jz;rw[h];rfl
def O4(h:f U=aa ac):mOr f g U=aa ac:=by
 unfold mOr;rw[h];rfl
def O5{r:Option Bool}(h:f U=aa ag)(h':g U=r):mOr f g U=r:=by
 unfold mOr;rw[h];exact h'
variable{a:Bool}
def sw(h:f U=aa a)(h':g U=aa b):jz f g U=aa (a && b):=by
 cases a with
 |true=>exact O2 h h'
 |false=>exact O3 h
def GZ(h:f U=aa a)(h':g U=aa b):mOr f g U=aa (a || b):=by
 cases a with
 |true=>exact O4 h
 |false=>exact O5 h h'
variable{f:MF1}
def sx{g:MF1}(h:f U=aa (.bl a))(h':g U=aa (.bl b)):mD f g U=aa (.bl (a && b)):=by
 unfold mD;rw[aY h]
 grind
def G0{g:MF1}(h:f U=aa (.bl a))(h':g U=aa (.bl b)):vOr f g U=aa (.bl (a || b)):=by
 unfold vOr;rw[aY h]
 grind
def G1(h:f U=aa (.bl a)):rX f U=aa (.bl (!a)):=by
 unfold rX;rw[aY h];rfl
def ai{g:MF2}(h:f U=aa d)(h':g U=aa ds):af f g U=aa (d::ds):=by
 unfold af;rw[h,h'];rfl
variable{f:MF2}
def cH(h:f U=aa ds):bJ f U=aa (.tup ds):=by
 unfold bJ;rw[h];rfl
def b6(h:f U=aa ds):aU f U=aa (.lst ds):=by
 unfold aU;rw[h];rfl
def aw{g:MF1}{r:OD}(h:f U=aa ds)(h':g U=aa (.int i))(a:atI ds i=r):mIx f g U=r:=by
 unfold mIx;rw[h,h'];exact a
variable{W6:Int}
def vR{W4:Int->Int->Prop}[∀i W6,Decidable (W4 i W6)]{g:Int->Int->D}(h:W4 i W6):dI W4 g (.int i) (.int W6)=aa (g i W6):=by
 show(if W4 i W6 then aa _ else ab)=_;rw[if_pos h]
variable{i:Nat}{f:MF1}
def O6(h:f U=aa d)(h':U[i]?=aa (.own M))(a:M.length<16777216):gH i f U=aa (.nx (U.set i (.own (M++[d])))):=by
 unfold gH;rw[h,h'];show(if M.length<16777216 then _ else ab)=_;rw[if_pos a]
def O7(h:f U=aa d):gy f U=aa (.nx U):=by
 unfold gy;rw[h];rfl
variable{ρ1:LS}
def mK{g:D->LS->Option LS}(a:g d U=aa ρ1)(c:ft ρ1=aa b)(e:b=ac->fe ρ1=aa y):mH g ft fe U d=aa (if b then aa y else ab):=by
 unfold mH
 grind
def fu{g:D->LS->Option LS}(a:g d U=aa ρ1)(b:ft ρ1=aa ac)(c:fe ρ1=aa y):mH g ft fe U d=aa (aa y):=mK a b λ_=>c
def b8(h:f U=aa d)(h':kh d=aa ds):bn f U=aa ds:=by
 unfold bn;rw[h];exact h'
def O8{f:MF2}{n:Int}(h:f U=aa [.int n])(b:0<=n)(a:n<2 ^ 62):i3 f U=aa ((cW n.toNat).map λ(i:Nat)=>D.int i):=by
 unfold i3;rw[h];show(if -_<=n/\n<2 ^ 62 then aa _ else ab)=_;rw[if_pos ⟨by lia,a⟩,GU]
 grind
def An:∀{bs:LB0} {us:LVa},ba (bs.map V.bl) us->us=bs.map g4
 | [],_,.nil=>rfl
 |b::bs,_,.cons r t=>by
  rw[An t];cases (r);rfl
def O9(bs:LB0):((cW bs.length).all λi=>(bs[i]?).getD ac)=bs.all id:=by
 rw[iA,all_eq_true,all_eq_true];constructor
 .intro h b c;obtain⟨i,hi,e⟩:=List.getElem_of_mem c
  simp_all
 .intro h i hi;have a:=l7.mp hi;simp only[dE a];exact h _ (na a)
def Pb(bs:LB0):((cW bs.length).any λi=>(bs[i]?).getD ag)=bs.any id:=by
 rw[iA,any_eq_true,any_eq_true];constructor
 .rintro⟨i,hi,e⟩;have a:=l7.mp hi;simp only[dE a]at e;exact⟨_,na a,e⟩
 .rintro⟨b,c,e⟩;obtain⟨i,hi,rfl⟩:=List.getElem_of_mem c;exact⟨i,l7.mpr hi,by simp only[dE hi];exact e⟩
def G2{h:Heap}{o:Obj}(a:∀b x,b∉[h.objs.size]->(h.push o).get? b=aa x->h'.get? b=aa x):∀b x,h.get? b=aa x->h'.get? b=aa x:=
 λb x e=>a b x (λhm=>by rw[bi.mp hm]at e;exact jZ _ (bT e)) (cj _ e)
def Pc(j:X.calm=ac):gi X (.builtin "all") (λM H Q=>∃(p:Addr) (bs:LB0),M=[.ref p]/\SqL X.K H p (bs.map V.bl)/\Q (.bl (bs.all id)) H):=by
 intro B s J H M us Q I r h;obtain⟨l,bs,rfl,n,q⟩:=h;obtain⟨u,rfl,t⟩:=iU r;subst t;obtain⟨its,o,pl,hz⟩:=I.list n;have e:=An o;subst e;have c:=pl.isList;have d:l<s.heap.objs.size:=by obtain⟨_,e,_⟩:=c;exact bT e
 refine call_all_walk (o2 c ?_)
 refine⟨s.heap.objs.size,_,_,(bs.map g4).toArray.size,_,_,λi=>(bs[i]?).getD ac,rfl,Walks.list (A:=X.A.in1) (I.ok.hd j) _ l (cu d) (bs.map g4).toArray,
  ⟨⟨_,eW _ rfl,rfl,rfl⟩,c.push _⟩,λi v s' x w g f=>?_,λh' y m=>?_⟩
 .have a:(bs.map g4)[i]?=aa v:=by simpa using g
  obtain⟨b,e,rfl⟩:=mG a;simp only[e]at f;exact me f
 .have e:((cW (bs.map g4).toArray.size).all λi=>(bs[i]?).getD ac)=bs.all id:=by
   rw[size_toArray,ay];exact O9 bs
  rw[e];exact⟨.bl _,H,I.kept (G2 m),rfl,q⟩
def Pd(j:X.calm=ac):gi X (.builtin "any") (λM H Q=>∃(p:Addr) (bs:LB0),M=[.ref p]/\SqL X.K H p (bs.map V.bl)/\Q (.bl (bs.any id)) H):=by
 intro B s J H M us Q I r h;obtain⟨l,bs,rfl,n,q⟩:=h;obtain⟨u,rfl,t⟩:=iU r;subst t;obtain⟨its,o,pl,hz⟩:=I.list n;have e:=An o;subst e;have c:=pl.isList;have d:l<s.heap.objs.size:=by obtain⟨_,e,_⟩:=c;exact bT e
 refine call_any_walk (o2 c ?_)
 refine⟨s.heap.objs.size,_,_,(bs.map g4).toArray.size,_,_,λi=>(bs[i]?).getD ag,rfl,Walks.list (A:=X.A.in1) (I.ok.hd j) _ l (cu d) (bs.map g4).toArray,
  ⟨⟨_,eW _ rfl,rfl,rfl⟩,c.push _⟩,λi v s' x w g f=>?_,λh' y m=>?_⟩
 .have a:(bs.map g4)[i]?=aa v:=by simpa using g
  obtain⟨b,e,rfl⟩:=mG a;simp only[e]at f;exact me f
 .have e:((cW (bs.map g4).toArray.size).any λi=>(bs[i]?).getD ag)=bs.any id:=by
   rw[size_toArray,ay];exact Pb bs
  rw[e];exact⟨.bl _,H,I.kept (G2 m),rfl,q⟩
abbrev g8:LD->Option (LB0)
 | []=>aa []
 |.bl b::ds=>(g8 ds).map λr=>b::r
 | _=>ab
def G3:∀{ds:LD} {bs:LB0},g8 ds=aa bs->ds=bs.map D.bl
 | [],_,e=>by cases e;rfl
 |.bl b::ds,_,e=>by
  dsimp only[g8]at e
  cases es:g8 ds with
  |none=>rw[es]at e;cases e
  |some r=>rw[es]at e;cases e;rw[G3 es];rfl
 |.int _::_,_,e=>by cases e
 |.non::_,_,e=>by cases e
 |.str _::_,_,e=>by cases e
 |.lst _::_,_,e=>by cases e
 |.tup _::_,_,e=>by cases e
 |.kl _::_,_,e=>by cases e
 |.kt _::_,_,e=>by cases e
 |.dic _ _::_,_,e=>by cases e
 |.ins _ _ _::_,_,e=>by cases e
def aF.bls{G:Gc}{H:Hp}:∀{bs:LB0} {L:LVv},aF G H (bs.map D.bl) L->L=bs.map V.bl
 | [],_,h=>h
 |b::bs,_,q2_=>by
  obtain⟨v,r,e,a,c⟩:=q2_;subst e;rw[aF.bls c,show v=V.bl b from a];rfl
abbrev sy:LD->OD
 | [d]=>(lsD d).bind λds=>(g8 ds).map λbs=>.bl (bs.all id)
 | _=>ab
abbrev vS:LD->OD
 | [d]=>(lsD d).bind λds=>(g8 ds).map λbs=>.bl (bs.any id)
 | _=>ab
def vT{f:LB0->D}(e:(match ds with | [d]=>(lsD d).bind λds=>(g8 ds).map f | _=>ab)=aa d):∃a M bs,ds=[a]/\lsD a=aa M/\M=bs.map D.bl/\d=f bs:=by
 split at e
 .rename_i a
  cases b:lsD a with
  |none=>rw[b]at e;nomatch e
  |some M=>
   rw[b]at e;replace e:(g8 M).map f=aa d:=e
   cases c:g8 M with
   |none=>rw[c]at e;nomatch e
   |some bs=>rw[c]at e;cases e;exact⟨a,M,bs,rfl,b,G3 c,rfl⟩
 .nomatch e
def G4(i:X.calm=ac):nU c X (.builtin "all") sy:=by
 rintro B s J H L us Q I l ⟨Hf,ds,d,b,r,e,k⟩;obtain⟨m,M,bs,rfl,f,rfl,rfl⟩:=vT e;obtain⟨v,h,j⟩:=r.one;subst h;obtain⟨a,ws,g,q,rs⟩:=i0 f j;subst g;refine Pc i B s J H _ us Q I l ⟨a,bs,rfl,?_,k _ Hf H (Ext.refl b) rfl⟩;rw[<- rs.bls];exact b.seq q
def Pe(i:X.calm=ac):nU c X (.builtin "any") vS:=by
 rintro B s J H L us Q I l ⟨Hf,ds,d,b,r,e,k⟩;obtain⟨m,M,bs,rfl,f,rfl,rfl⟩:=vT e;obtain⟨v,h,j⟩:=r.one;subst h;obtain⟨a,ws,g,q,rs⟩:=i0 f j;subst g;refine Pd i B s J H _ us Q I l ⟨a,bs,rfl,?_,k _ Hf H (Ext.refl b) rfl⟩;rw[<- rs.bls];exact b.seq q
def G5:∀ds d,sy ds=aa d->d.scalar=ac:=λds d e=>by
 obtain⟨a,M,bs,rfl,b,rfl,rfl⟩:=vT e;rfl
def Pf:∀ds d,vS ds=aa d->d.scalar=ac:=λds d e=>by
 obtain⟨a,M,bs,rfl,b,rfl,rfl⟩:=vT e;rfl
abbrev Ite(K:br)(l:Addr):It:=
  ⟨λi H=> ∃M x, SqL K H l M/\M[i]? = aa x,
   λi H v H'=> ∃p x, v = .ref p/\H p = ab/\H' = upd H p (.tup [.int i, x])/\(∀M, SqL K H l M->M[i]? = aa x),
   λi H=> ∃M, SqL K H l M/\M.length<=i⟩
variable{dk:LEx}{kx:Nat}
def Pg{pos:Pos}(e it l:Addr)(ne:e≠it):
  mw P w K (.Tuple dk kx pos) (Ite K l) [e,it] e (λi h=>(∃old,IsEnum h e it (i:Int) old)/\h.IsListIter it l i) where
 mem:=by simp
 obj:=λi h st b hb=>by
  obtain⟨⟨old,he⟩,⟨o1,e1,_,d1⟩⟩:=st;simp only[bZ,cO,or_false]at hb
  rcases hb with rfl |rfl
  .exact⟨_,he,λv q=>by nomatch q⟩
  .exact⟨o1,e1,λv q=>by rw[d1]at q;nomatch q⟩
 keep:=λi h h' st k=>by
  obtain⟨⟨old,he⟩,h1⟩:=st;exact⟨⟨old,k e (by simp) _ he⟩,h1.at λo q=>k it (by simp) o q⟩
 item:=by
  intro X hP hw hK hc i B s J H W5 I hf st hg;subst hP hw hK;obtain⟨⟨old,he⟩,h1⟩:=st;obtain⟨M,x,q1,hx⟩:=hg;obtain⟨its1,r1,p1,z1⟩:=I.list q1;obtain⟨u1,e1,ru1⟩:=r1.get hx;refine wpAny_pyNext_enum_item he h1 p1.isList (by simpa using e1) ne λh' a1 a3 a5 a6 a7=>⟨_,rfl,?_⟩;refine wpAny_letOwnedTupleGo_enum a1 λh'' b1 b2=>?_
  have lt:∀b∈[e,it],b<s.heap.objs.size:=λb hb=>by
   simp only[bZ,cO,or_false]at hb
   rcases hb with rfl |rfl
   .exact bT he
   .obtain⟨o,e,_⟩:=h1;exact bT e
  have kk:∀b o,b∉[e,it]->s.heap.get? b=aa o->h''.get? b=aa o:=λb o hb e=>by
   simp only[bZ,cO,or_false,not_or]at hb;obtain⟨n1,n2⟩:=hb;exact(b2.2 b n1).trans (a7 b o n1 n2 e)
  have fr:=I.hok.fresh (bh _)
  have I2:Inv X B J (upd H s.heap.objs.size (.tup [.int i,x])) {s with heap:=h'',toks:=s.toks+1}:=
   (I.turnedMany kk hf).track (I.fpOk (bh _) fr) ⟨(by show 2<=be;decide),_,.cons ⟨s.toks,rfl⟩ (.cons ru1 .nil),⟨_,((b2.2 _ (ma (lt e (by simp)))).trans a5),rfl,_,rfl⟩⟩
  refine⟨.ref s.heap.objs.size,_,I2,rfl,⟨_,x,rfl,fr,rfl,λb4 h=>by rw[I.list_inj h q1];exact hx⟩,⟨⟨u1,?_⟩,(a3.at λo q=>(b2.2 it (cE ne)).trans q)⟩,λb hb=>?_⟩
  .have:((i+1:Nat):Int)=i+1:=by push_cast;rfl
   rw[this];exact b1
  .rw[bG (cu (lt b hb))];exact(hf b hb).1
 done:=by
  intro X hP hw hK hc i B s J H W5 I hf st hg;subst hP hw hK;obtain⟨⟨old,he⟩,h1⟩:=st;obtain⟨M,q1,hend⟩:=hg;obtain⟨its1,r1,p1,z1⟩:=I.list q1;have l1':=r1.length;refine wpAny_pyNext_enum_end (I.ok.hd hc) he h1 p1.isList (by simp;lia) λh' kk=>⟨rfl,I.turnedMany (λb o hb q=>?_) hf⟩;simp only[bZ,cO,or_false,not_or]at hb;exact kk b o hb.2 q
 self:=λ_ _ _ _ _ st h=>by obtain⟨⟨old,he⟩,_⟩:=st;exact wpAny_pyIter_enum he h
abbrev Ph(K:br)(a:TA):TI:=λJ H R=>a J H λL H1=>∃l,L=[.ref l]/\(∃M,SqL K H1 l M)/\R (Ite K l) H1
variable{d6:Pos}{a:Expr}{ta:TA}
def Pi{p pos:Pos}(r:Gl X "enumerate")(hm:X.mg "enumerate"=ab)(ha:PA X [a] ta)(t:bf [a] X.env=[(ag,eval a X.env)]:=by rfl):
  PI X (.Tuple dk kx d6) (.Call (.Name "enumerate" p) [a] [] pos) (Ph X.K ta):=by
 intro B s J H R I h;refine Call_ (j6 I r hm boot_enumerate (nq (thn (ha pos B s J H _ I h) λus s1 ⟨L,H1,d,j,w⟩=>?_) (by rw[t];rfl) (by rfl)));obtain⟨l,e,⟨M,o⟩,q⟩:=w;subst e;obtain⟨u,rfl,ru⟩:=iU j;subst ru;obtain⟨i,j,v,y⟩:=d.list o;refine call_enumerate_list v.isList λh' f m x n=>?_;refine wpAny_pyIter_enum f ?_;refine⟨_,_,_,_,H1,rfl,(d.kept n),Pg _ _ _ (Nat.succ_ne_self _),⟨⟨_,f⟩,m⟩,λb g=>?_,q⟩;simp only[bZ,cO,or_false]at g
 have c:s1.heap.objs.size<=b:=by
  rcases g with rfl |rfl
  .exact y0 _ _
  .exact bh _
 exact d.fpOk c (d.hok.fresh c)
abbrev nW:Nat->LD->LD
 | _,[]=>[]
 |i,x::M=>.tup [.int i,x]::nW (i+1) M
def G6:∀(i:Nat) (M:LD),(nW i M).length=M.length
 | _,[]=>rfl
 |i,x::M=>by simp only[nW,bg,bg,G6]
def Ao:∀(k:Nat) (M:LD) (i:Nat),(nW k M)[i]?=(M[i]?).map λx=>.tup [.int (k+i:Nat),x]
 | _,[],_=>rfl
 |k,x::M,0=>rfl
 |k,x::M,i+1=>by simp only[nW,uG,uG,Ao _ M i,show k+1+i=k+(i+1) by lia]
abbrev Ap:LD->OLD
 | [x]=>(lsD x).map (nW 0)
 | _=>ab
abbrev jE(f:MF2)(U:LS):OLD:=(f U).bind Ap
def Aq{pos:Pos}{f:MF2}(Q:Gl X "enumerate")(hm:X.mg "enumerate"=ab)(ha:DA c X [a] f)(T:bf [a] X.env=[(ag,eval a X.env)]:=by rfl):
  DI c X (.Tuple dk kx d6) (.Call (.Name "enumerate" p) [a] [] pos) (jE f):=
 PI.imp (Pi Q hm ha.pa T) λJ H R q_=>by
  obtain⟨E,H0,Hf,U,ds,st,b,k⟩:=q_;unfold jE at b
  cases l:f U with
  |none=>rw[l]at b;nomatch b
  |some u=>
   rw[l]at b;replace b:Ap u=aa ds:=b;refine⟨E,H0,Hf,U,u,st,l,λL j H' x r=>?_⟩;unfold Ap at b;split at b
   .rename_i dx
    cases ex:lsD dx with
    |none=>rw[ex]at b;nomatch b
    |some M=>
     rw[ex]at b;cases b;obtain⟨v,I,rv⟩:=r.one;obtain⟨Y,h,m,A,B⟩:=i0 ex rv;subst m;refine⟨Y,I,⟨h,x.s.seq A⟩,k _ j H' x λa0 H2 w s2 i=>?_⟩;have n:=(w.trans s2).seq A;have h1:=B.length;refine⟨λd e=>?_,λG=>⟨h,n,by rw[G6]at G;lia⟩⟩;rw[Ao]at e
     cases o:M[i]? with
     |none=>rw[o]at e;nomatch e
     |some x'=>
      rw[o]at e;cases e;obtain⟨u1,g,q⟩:=B.get o;refine⟨⟨h,u1,n,g⟩,λz H3 ⟨pp,z1,N,y,C,y1⟩=>?_⟩;subst N C;have t:=y1 h n;rw[g]at t;cases t;exact⟨upd a0 pp _,Ext.new s2 y,pp,_,rfl,bL,.cons (by rw[uP];rfl) (.cons (q.up (w.trans (cJ (s2.free y)))) .nil)⟩
   .nomatch b
abbrev kC:D->Option Key
 |.int i=>aa (.inl i)
 |.str x=>aa (.inr x)
 | _=>ab
def sA{k:Key}(e:kC d=aa k)(r:Rep G H d v):v=kV k:=by
 cases d <;> first |(cases e;done) |(cases e;exact r)
abbrev nX(C:List Key)(k:Key):Bool:=C.any λW6=>decide (W6=k)
def G7{k:Key}:∀{C:List Key} {L:LVv},C.length=L.length->((C.zip L).any λa=>decide (a.1=k))=nX C k
 | [],[],_=>rfl
 | [],_::_,h=>by cases h
 | _::_,[],h=>by cases h
 |W6::C,y::L,h=>by
  simp only[iP,iS,iS,G7 (by simpa using h)];rfl
abbrev Au(i:Nat)(U:LS):Option Fl:=aa (.nx (U.set i (.ownd [] [])))
def Pj(e:PS X st (mr F9 (mq i))):DS c X st (Au i):=PS.imp e λW5 J H g=>by
 obtain⟨E,H0,Hf,U,o,b,d,k⟩:=g;cases d;intro q a;have x:Ext Hf H Hf (upd H q (.dK [])):=Ext.tmp b.sub a;exact k _ Hf _ x.f (b.setOwn rfl x a (b.sub.free a) ⟨[],bL,rfl,.nil⟩)
variable{p':Pos}
def Pl{pos:Pos}(i:Nat)(a:X.N.Nodup)(hi:X.N[i]?=aa x:=by rfl)(e:Loc X.env.scope x:=by first |exact cF rfl |exact bP rfl)(d:fo (.Dict [] [] pos) (aa (.Name x bb)) p'.line X.env=pure ag:=by rfl)(b:LcF X x:=by first |exact .inl rfl |exact .inr rfl):
  DS c X (.Assign [.Name x bb] (.Dict [] [] pos) p') (Au i):=Pj (mv a hi e Ga d b)
def Pn{k:Key}:∀{C:List Key} {L:LVv},C.length=L.length->(fK (C.zip L) k).isSome=nX C k:=λ{C L} h=>by
 rw[<- zS,G7 h]
abbrev nY(i:Nat)(a b:MF1)(U:LS):Option Fl:=(b U).bind λd=>(a U).bind λx=>match x with
 | .int k=>(match U[i]? with
  |some (.own M)=>(ixN M.length k).map λW6=>.nx (U.set i (.own (M.set W6 d)))
  | _=>ab)
 | _=>ab
variable{fk fv:MF1}
def Po(u:PS X st (mr (tD (Gx c X) fv) (zA (eO i) (tD (Gx c X) fk) zP))):DS c X st (nY i fk fv):=PS.imp u λW5 J H w=>by
 obtain⟨E,H0,Hf,U,o,s,a,k⟩:=w;unfold nY at a
 cases j:fv U with
 |none=>rw[j]at a;nomatch a
 |some d=>
  rw[j]at a
  cases m:fk U with
  |none=>rw[m]at a;nomatch a
  |some x=>
   rw[m]at a;obtain⟨e,rfl⟩:∃e,x=.int e:=by grind
   replace a:(match U[i]? with |some (.own M)=>(ixN M.length e).map λW6=>Fl.nx _ | _=>ab)=aa o:=a
   split at a
   .rename_i M es
    cases n:ixN M.length e with
    |none=>rw[n]at a;nomatch a
    |some W6=>
     rw[n]at a;cases a;refine⟨E,H0,Hf,U,d,s,j,λv al H1 t z=>?_⟩;have b:=s.step t;obtain⟨l,p,B,C,L,q,r⟩:=b.ownAt rfl es;refine⟨_,p,E,H0,al,U,.int e,b,m,λy a0 H2 g A=>?_⟩;exact⟨l,L,e,W6,rfl,A,(g.h _ _ q),by rw[<- r.length];exact n,(k J a0 _ (t.f.trans g.f) ((b.step g).mutd rfl rfl es p ⟨L.set W6 v,bL,(r.up g.f).set W6 (z.up g.f)⟩))⟩
   .grind
variable{i' value:Expr}
def Pp{pos:Pos}(d:PE X e (eO i))(b:DE c X i' fk)(g:DE c X value fv)(f:rh [.Subscript e i' bb] value pos.line X.env=pure ag:=by rfl)(h:rj [.Subscript e i' bb] value X.env=pure ab:=by rfl)
 (a:(fI [.Subscript e i' bb] X.env).map (·.2)=[iE (.Subscript e i' bb) X.env]:=by rfl)
 (ha:∀ v,iE (.Subscript e i' bb) X.env v=(do
   let ov <- gb [v] (eval e X.env)
   let iv <- gb [v,ov] (eval i' X.env)
   jo bb
   gb [v,ov,iv] (setItem ov iv v)
   release [v,ov,iv] []):=by intro _;rfl):
  DS c X (.Assign [.Subscript e i' bb] value pos) (nY i fk fv):=Po (vc g (Fp d b FV ha) f h a)
abbrev fh(f g:MF1)(U:LS):OLD:=(f U).bind λx=>(g U).bind λy=>match x,y with
 |.lst a,.lst b=>if a.length+b.length<=16777216 then aa (a++b) else ab
 | _,_=>ab
def Pq{g:MF1}(h:fh f g U=aa ds):∃a b,f U=aa (.lst a)/\g U=aa (.lst b)/\a.length+b.length<=16777216/\ds=a++b:=by
 unfold fh at h
 cases c:f U with
 |none=>rw[c]at h;nomatch h
 |some x=>
  cases d:g U with
  |none=>rw[c,d]at h;nomatch h
  |some y=>
   rw[c,d,aG,aG]at h;split at h
   .split at h
    .rename_i a b e;cases h;exact⟨a,b,rfl,rfl,e,rfl⟩
    .nomatch h
   .nomatch h
def jF{pos:Pos}{b:Expr}{g:MF1}(ha:DE c X a f)(r:DE c X b g):DO c X (.BinOp a .Add b pos) (fh f g):=PE.imp (zC F1 ha r) λJ H Q z=>by
 obtain⟨E,H0,Hf,U,ds,st,o,k⟩:=z;obtain⟨M,ys,j,n,t,rfl⟩:=Pq o;refine⟨E,H0,Hf,U,_,st,j,λv al H1 i A=>⟨E,H0,al,U,_,st.step i,n,λu a0 H2 d B=>?_⟩⟩;obtain⟨l,L,q,w,s1⟩:=A.up d.f;obtain⟨m,us,em,y,s2⟩:=B;subst q em;have x:=i.trans d;exact⟨l,m,L,us,rfl,rfl,d.s _ _ w,d.s _ _ y,by rw[c6,<- s1.length,<- s2.length];exact t,λp e=>k p _ a0 _ (x.trans (Ext.tmp x.s e)) (x.h.free e) (x.s.free e) bL (s1.append s2)⟩
abbrev wp(F:MF3)(U:LS)(K:Fl->Prop):Prop:=∃o,F U=aa o/\K o
abbrev G8(F:MF3)(K:Fl->Prop):Fl->Prop
 |.nx U=>wp F U K
 |o=>K o
abbrev Av(W2:LS->Prop)(K:Fl->Prop):Fl->Prop
 |.nx U=>W2 U
 |.ct U=>W2 U
 |.bk U=>K (.nx U)
 |o=>K o
abbrev sB(Q:D->Prop)(o:Fl):Prop:=∃d,GO o=aa d/\Q d
variable{K:Fl->Prop}
def ak(h:wp F U (G8 F' K)):wp (am F F') U K:=by
 obtain⟨o,e,k⟩:=h;unfold wp am;rw[e]
 cases o with
 |nx ρ'=>exact k
 | _=>exact⟨_,rfl,k⟩
def bm(h:K (.nx U)):wp bw U K:=⟨_,rfl,h⟩
def cf(h:f U=aa d)(k:K (.nx (U.set i (.im d)))):wp (cp i f) U K:=⟨_,OU h,k⟩
def fO{f:MF2}{d:LD}(h:f U=aa d)(k:K (.nx (U.set i (.own d)))):wp (eS i f) U K:=⟨_,OV h,k⟩
def cB(h:f U=aa d)(k:K (.rt d)):wp (ce f) U K:=⟨_,GT h,k⟩
def lC{f:MF2}{d:LD}(h:f U=aa d)(k:K (.rtO d)):wp (ij f) U K:=⟨_,by unfold ij;rw[h];rfl,k⟩
def mL{o:Fl}(h:F U=aa o)(k:K o):wp F U K:=⟨_,h,k⟩
def aX(h:t U=aa b)(c:b=ac->wp F U K)(a:b=ag->wp F' U K):wp (bu t F F') U K:=by
 unfold wp bu;rw[h]
 cases b with
 |true=>exact c rfl
 |false=>exact a rfl
def io(e:vN i U=ρ')(h:wp F ρ' K):wp (fY i F) U K:=by
 subst e;exact h
def jG(h:f U=aa d)(h':U[i]?=aa (.own M))(a:M.length<16777216)(k:K (.nx (U.set i (.own (M++[d]))))):wp (gH i f) U K:=⟨_,O6 h h' a,k⟩
def kE(h:f U=aa d)(k:K (.nx U)):wp (gy f) U K:=⟨_,O7 h,k⟩
def Ps{k:Int}(f:fv U=aa d)(c:fk U=aa (.int k))(h':U[i]?=aa (.own M))(a:0<=k)(b:k<M.length):nY i fk fv U=aa (.nx (U.set i (.own (M.set k.toNat d)))):=by
 have e:ixN M.length k=aa k.toNat:=by
  unfold ixN;rw[if_pos a,if_pos b]
 unfold nY;simp only[f,aG,c,aG,h'];show(ixN M.length k).map _=_;rw[e];rfl
def Pt{k:Int}(e:fv U=aa d)(c:fk U=aa (.int k))(h':U[i]?=aa (.own M))(a:0<=k)(b:k<M.length)(q:K (.nx (U.set i (.own (M.set k.toNat d))))):wp (nY i fk fv) U K:=⟨_,Ps e c h' a b,q⟩
def G9{i:Type}{g:D->LS->Option LS}{F:MF3}{K:Fl->Prop}(f:i->D)(I:List i->LS->Prop):∀(post pre:List i) (U:LS),I pre U ->
  (∀b x e U,pre++post=b++x::e->I b U->∃ρ1,g (f x) U=aa ρ1/\wp F ρ1 (Av (I (b++[x])) K))->(∀ρ',I (pre++post) ρ'->K (.nx ρ'))->wp (i4 g F (post.map f)) U K
 | [],pre,U,h,_,hk=>⟨_,rfl,hk U (by rw[cr];exact h)⟩
 |x::post,pre,U,h,hs,hk=>by
  obtain⟨ρ1,j,o,l,c⟩:=hs pre x post U rfl h;unfold wp;rw[eL];dsimp only[i4];simp only[j,aG,l,aG]
  have go:=λa m=>
   G9 f I post (pre++[x]) a m (by rw[cL];exact hs) (by rw[cL];exact hk)
  cases o with
  |nx a=>exact go a c
  |ct a=>exact go a c
  |bk a=>exact⟨_,rfl,c⟩
  |rt d=>exact⟨_,rfl,c⟩
  |rtO d=>exact⟨_,rfl,c⟩
  |rtS d a=>exact⟨_,rfl,c⟩
  |rtT o=>exact⟨_,rfl,c⟩
def eY{a:Type}{g:D->LS->Option LS}(M:List a)(f:a->D)(I:List a->LS->Prop)(hi:fi U=aa (M.map f))(b:I [] U)
 (d:∀pre x post U,M=pre++x::post->I pre U->∃ρ1,g (f x) U=aa ρ1/\wp F ρ1 (Av (I (pre++[x])) K))(c:∀ρ',I M ρ'->K (.nx ρ')):wp (dM fi g F) U K:=by
 obtain⟨o,e,k⟩:=G9 f I M [] U b d c;refine⟨o,?_,k⟩;unfold dM;rw[hi];exact e
variable{Q:D->Prop}
def Ha(h:wp F (jD n ds) (sB Q)):∃d,bz n F ds=aa d/\Q d:=by
 obtain⟨o,e,d,a,q⟩:=h;refine⟨d,?_,q⟩;unfold bz;rw[e];exact a
def bK{r:D}(h:wp F (jD n ds) (sB λd=>d=r)):bz n F ds=aa r:=by
 obtain⟨d,e,q⟩:=Ha h;rw[e,q]
def b9(h:Q d):sB Q (.rt d):=⟨d,rfl,h⟩
def g9{d:LD}(h:Q (.lst d)):sB Q (.rtO d):=⟨.lst d,rfl,h⟩
variable{g:MF1}
def vU{r:OD}(h:t U=aa b)(c:b=ac->f U=r)(a:b=ag->g U=r):vIf t f g U=r:=by
 unfold vIf
 grind
variable{i:Int}
def lD(h:0<W6):iY (.int i) (.int W6)=aa (.int (i % W6)):=vR h
def Aw(h:rH i W6):rZ (.int i) (.int W6)=aa (.int (i / W6)):=vR h
def vV(h:rJ i W6):nP (.int i) (.int W6)=aa (.int (i ^ W6.toNat)):=vR h
def hE:cv (.int i) (.int W6)=aa (.int (i+W6)):=rfl
def mM:kj (.int i) (.int W6)=aa (.int (i-W6)):=rfl
def pN:dLt (.int i) (.int W6)=aa (.bl (decide (i<W6))):=rfl
def Ax:dLe (.int i) (.int W6)=aa (.bl (decide (i<=W6))):=rfl
def jH:dGt (.int i) (.int W6)=aa (.bl (decide (W6<i))):=rfl
def iK{a:Type}(M:List a)(f:a->D):cY [.lst (M.map f)]=aa (.int M.length):=by
 show aa _=_;rw[ay]
def Hb{a:Type}(M:List a)(f:a->D):cY [.kl (M.map f)]=aa (.int M.length):=by
 show aa _=_;rw[ay]
def Pu{a:Type}(f:a->D)(M:List a)(lo hi:Option Int):pM (M.map f) lo hi=((M.drop (HT.sIx M.length 0 lo)).take (HT.sIx M.length M.length hi-HT.sIx M.length 0 lo)).map f:=by
 unfold pM
 simp_all
variable{lo hi:Option Int}
def Hc{a:Type}{l h:LS->Option (Option Int)}{g:a->D}{M:List a}(e:f U=aa (.lst (M.map g)))(b:l U=aa lo)(c:h U=aa hi):mSl f l h U=aa (((M.drop (HT.sIx M.length 0 lo)).take (HT.sIx M.length M.length hi-HT.sIx M.length 0 lo)).map g):=by
 unfold mSl;rw[e,aG];show(l U).bind _=_;rw[b,aG,c,<- Pu];rfl
def Hd{a:Type}(g:a->D)(d:a):∀(M:List a),nW 0 (M.map g)=(cW M.length).map λi=>D.tup [.int (i:Nat),g (M.getD i d)]:=λM=>by
 refine oW λi=>?_;rw[Ao,gf,gf]
 by_cases h:i<M.length
 .rw[dE h,yV h,uP];simp[h]
 .rw[yU (by lia),yU (by rw[e8];lia)];rfl
def Pw{a:Type}{f:MF2}{g:a->D}{M:List a}(d:a)(e:f U=aa [.lst (M.map g)]):jE f U=aa ((cW M.length).map λi=>D.tup [.int (i:Nat),g (M.getD i d)]):=by
 unfold jE;rw[e,<- Hd];rfl
abbrev kJ(W2:LS->Prop)(o:Fl):Prop:=∃ρ',o=.nx ρ'/\W2 ρ'
def k_J{W2:LS->Prop}(h:W2 U):kJ W2 (.nx U):=⟨U,rfl,h⟩
def kG{S:MF3}(W2:LS->Prop)(h:wp S U (kJ W2))(k:∀ρ',W2 ρ'->wp F ρ' K):wp (am S F) U K:=by
 apply ak;obtain⟨o,e,ρ',rfl,W6⟩:=h;exact⟨_,e,k ρ' W6⟩
def n4{i:Nat}(h:U[i]?=aa (.im d))(k:K (.rt d)):wp (fq i) U K:=⟨_,by unfold fq;rw[h],k⟩
def n5{i:Nat}{d:LD}(h:U[i]?=aa (.own d))(k:K (.rtO d)):wp (fq i) U K:=⟨_,by unfold fq;rw[h],k⟩
abbrev D.flat:D->Bool
 |.tup M=>M.all D.scalar
 |d=>d.scalar
abbrev pO(Hf H:Hp):Hp:=λa=>match H a with
 |some (.tup L)=>aa (.tup L)
 | _=>Hf a
def Ay{a:Addr}(h:H a=aa (.tup L)):pO Hf H a=aa (.tup L):=by
 unfold pO;rw[h]
def Az{a:Addr}(h:∀L,H a≠aa (.tup L)):pO Hf H a=Hf a:=by
 unfold pO
 grind
def Px(s:aR Hf H)(g:aR H H'):Ext Hf H (pO Hf H') H':=by
 refine⟨λb u e=>?_,g,λb u e=>?_,λl o e t=>Az λL q=>?_⟩
 .have a:=g b u (s b u e)
  cases u with
  |tup L=>exact Ay a
  | _=>
   rw[Az (λL q=>by rw[a]at q;nomatch q)];exact e
 .by_cases h:∃L,H' b=aa (.tup L)
  .obtain⟨L,h⟩:=h;rw[Ay h]at e;rw[h];exact e
  .rw[Az (λL q=>h ⟨L,q⟩)]at e;exact g b u (s b u e)
 .rw[g l o e]at q;cases q
  nomatch t
def aF.sc{G:Gc}{H H':Hp}:∀{ds:LD} {L:LVv},ds.all D.scalar=ac->aF G H ds L->aF G H' ds L
 | [],_,_,h=>h
 |d::ds,_,hs,q3_=>by
  obtain⟨v,r,e,a,b⟩:=q3_;rw[l8,cV]at hs;exact⟨v,r,e,a.sc hs.1,aF.sc hs.2 b⟩
def Rep.flat(b:d.flat=ac)(r:Rep G H d v):Rep G (pO Hf H) d v:=by
 cases d with
 |tup M=>
  obtain⟨a,L,e,h,q⟩:=r
  exact⟨a,L,e,Ay h,q.sc b⟩
 |non=>exact r.sc b
 |bl _=>exact r.sc b
 |int _=>exact r.sc b
 |str _=>exact r.sc b
 |lst _=>nomatch b
 |kl _=>nomatch b
 |kt _=>nomatch b
 |dic _ _=>nomatch b
 |ins _ _ _=>nomatch b
 |kd _ _=>nomatch b
 |dT _ _=>nomatch b
abbrev lE(m:LD->OD)(f:MF2)(U:LS):OD:=(f U).bind λds=>(m ds).bind λd=>if d.flat then aa d else ab
variable{f:Addr}
def AA{pos:Pos}{m:LD->OD}(pk:Pk X.prog X.w X.K X.mg X.base CX0 k x (f,fd) ps (spD (Gx c X) ps.length m))(t:cG k0 X.A)(ha:DAB c X (e::es) fa)(B:(e::es).length=ps.length:=by rfl)(n:NDb x:=by decide)(y:StE X e es:=by rfl)(q:BkE X pos es:=by rfl)(o:k<=k0:=by decide)(z:Gl X x:=by first |rfl |exact glc rfl):
  DE c X (.Call (.Name x p) (e::es) [] pos) (lE m fa):=PE.imp (ph pk.ok (t.mono o) z pk.g pk.kp pk.b .nil kc ha.pa n y q) λJ H Q I=>by
 obtain⟨E,H0,Hf,U,d,st,a,G⟩:=I;unfold lE at a
 cases i:fa U with
 |none=>rw[i]at a;nomatch a
 |some ds=>
  rw[i]at a;replace a:(m ds).bind _=_:=a
  cases l:m ds with
  |none=>rw[l]at a;nomatch a
  |some d'=>
   rw[l]at a;replace a:(if d'.flat=ac then aa d' else ab)=aa d:=a;split at a
   .rename_i C;cases a;refine⟨E,H0,Hf,U,ds,st,i,λL j H' x r=>?_⟩;rw[cr];exact⟨H',ds,_,aR.refl _,r,(ha.len U ds i).trans B,l,λv a0 H2 u M=>G v _ H2 (x.trans (Px x.s u.h)) ((M.up u.s).flat C)⟩
   .nomatch a
abbrev pP(m a:D->D->OD)(f g h:MF1)(U:LS):OD:=(f U).bind λx=>(g U).bind λy=>(m x y).bind λz=>match z with
 |.bl ac=>(h U).bind λw=>a y w
 |.bl ag=>aa (.bl ag)
 | _=>ab
variable{m m':D->D->OD}{f h:MF1}
def Py(e:pP m m' f g h U=aa d):∃x y b,f U=aa x/\g U=aa y/\m x y=aa (.bl b)/\(b=ag->d=.bl ag)/\(b=ac->∃w,h U=aa w/\m' y w=aa d):=by
 unfold pP at e
 cases c:f U with
 |none=>rw[c]at e;nomatch e
 |some x=>
  cases i:g U with
  |none=>rw[c,i]at e;nomatch e
  |some y=>
   simp only[c,i,aG,aG]at e
   cases a:m x y with
   |none=>rw[a]at e;nomatch e
   |some z=>
    rw[a,aG]at e
    cases z with
    |bl b=>
     cases b with
     |false=>
      exact⟨x,y,ag,rfl,rfl,a,λ_=>(cN e).symm,λq=>by nomatch q⟩
     |true=>
      cases j:h U with
      |none=>simp only[j]at e;nomatch e
      |some w=>rw[j]at e;exact⟨x,y,ac,rfl,rfl,a,λq=>(by nomatch q),λ_=>⟨w,rfl,e⟩⟩
    | _=>nomatch e
def Pz{pos:Pos}{b p:Expr}{e:CmpOp}(ho:OpD c X (dP op) m)(hs:∀x y d,m x y=aa d->d.scalar=ac)(r:OpD c X (dP e) m')(t:∀x y d,m' x y=aa d->d.scalar=ac)(ha:DB c X a f)(hb:DB c X b g)(hc:DB c X p h)
 (hm:lastMarks [op,e] [b,p]=ag:=by with_unfolding_all rfl):DE c X (.Compare a [op,e] [b,p] pos) (pP m m' f g h):=PE.imp (M7 ho r ha hb hc hm) λJ H Q q_=>by
 obtain⟨E,H0,Hf,U,d,st,ef,k⟩:=q_;obtain⟨x,y,o,Y,e2,e3,eF,eT⟩:=Py ef;refine⟨E,H0,Hf,U,x,st,Y,λv al H1 l r1=>⟨E,H0,al,U,y,st.step l,e2,λu a0 H2 j C=>⟨H2,x,y,.bl o,aR.refl _,r1.up j.h,C,e3,λz N I G r3=>⟨o,r3,?_⟩⟩⟩⟩;have i:=Ext.grow j.s G.h
 cases o with
 |false=>
  exact k _ a0 I ((l.trans j).trans i) (by rw[eF rfl];rfl)
 |true=>
  obtain⟨w,e4,B⟩:=eT rfl;exact⟨E,H0,a0,U,w,((st.step (l.trans j)).step i),e4,λw' n L A r4=>⟨L,y,w,d,aR.refl _,C.up (G.h.trans A.h),r4,B,λq T M x5 r5=>k _ n M (((l.trans j).trans i).trans (A.trans (Ext.grow A.s x5.h))) (r5.sc (t _ _ _ B))⟩⟩
def PB{x w:D}{a:Bool}(c:f U=aa x)(d:g U=aa y)(e:m x y=aa (.bl b))(i:h U=aa w)(j:m' y w=aa (.bl a)):pP m m' f g h U=aa (.bl (b && a)):=by
 unfold pP;simp only[c,aG,d,aG,e,aG]
 cases b with
 |false=>rfl
 |true=>
  rw[i];exact j
def He{k:Int}(h:k.natAbs<2 ^ n):uY k<=n:=by
 unfold uY;split
 .exact gg _
 .rename_i a;have:k.natAbs≠0:=λz=>a (by rw[Int.natAbs_eq_zero.mp z];rfl);exact(Nat.log2_lt this).mpr h
abbrev mN(i W6:Int):Prop:=rK i W6\/(i.natAbs<2 ^ 200/\W6.natAbs<2 ^ 200)
def mN.ok(h:mN i W6):IntMulOk i W6:=by
 rcases h with h |⟨h1,h2⟩
 .exact h.ok
 .have a:=He h1;have b:=He h2;unfold IntMulOk
  have:fc.Int.intTooBig (uY i+uY W6)=ag:=by
   have c:400<=bitsLine:=by decide
   exact decide_eq_false (by lia)
  rw[this,uF];exact cq
noncomputable instance {i W6:Int}:Decidable (mN i W6):=by unfold mN;infer_instance
nonrec def kH:D->D->OD:=dI mN λi W6=>.int (i*W6)
def PC:OpR X (gh .Mult) (rI mN λi W6=>.int (i*W6)):=opI λ_ _ _ _ _ _ _ a q=>mul_int q a.ok
def pQ:OpD c X (gh .Mult) kH:=vD PC λ_ _ _ _=>rfl
def n6(h:mN i W6):kH (.int i) (.int W6)=aa (.int (i*W6)):=vR h
abbrev sC(g:D->LS->Option LS)(f:MF1)(U:LS):Option Fl:=(f U).bind λd=>(g d U).map .nx
variable{g:D->LS->Option LS}
def PD{pos:Pos}(n:DE c X e f)(p:DG c X tg k g)(q:rh [tg] e pos.line X.env=pure ag:=by rfl)(s:rj [tg] e X.env=pure ab:=by rfl)
 (m:(fI [tg] X.env).map (·.2)=[iE tg X.env]:=by rfl):DS c X (.Assign [tg] e pos) (sC g f):=PS.imp (vc n p.pg q s m) λW5 J H u=>by
 obtain⟨E,H0,Hf,U,o,l,a,t⟩:=u;unfold sC at a
 cases b:f U with
 |none=>rw[b]at a;cases a
 |some d=>
  rw[b,aG]at a
  cases h:g d U with
  |none=>rw[h]at a;cases a
  |some ρ'=>
   rw[h]at a;cases a;exact⟨E,H0,Hf,U,d,l,b,λv j H' x r=>⟨E,H0,j,U,d,ρ',l.step x,r,h,λσ' i=>t σ' j H' x.f i⟩⟩
def PF(h:f U=aa d)(h':g d U=aa ρ')(k:K (.nx ρ')):wp (sC g f) U K:=⟨_,by unfold sC;rw[h,aG,h'];rfl,k⟩
abbrev eC(H:Hp)(l:Addr):Hp:=λa=>if a=l then ab else H a
def pR:eC H l l=ab:=by unfold eC;rw[if_pos rfl]
def pS{a:Addr}(h:a≠l):eC H l a=H a:=by unfold eC;rw[if_neg h]
def AB:aR (eC H l) H:=λa o e=>by
 by_cases h:a=l
 .subst h;rw[pR]at e;nomatch e
 .rw[pS h]at e;exact e
def sD{F:Hp}(s:aR F H)(h:F l=ab):aR F (eC H l):=λa o e=>by
 rw[pS (g6 e h)];exact s a o e
inductive tDX(G:Gc)(f:LS->Option (D×LS))(J:St)(H:Hp)(Q:VK):Prop
 |mk:∀E H0 Hf U d ρ',aM G E H0 Hf H J U->f U=aa (d,ρ')->(∀v j H',aR Hf j->aM G E H0 j H' J ρ'->Rep G j d v->Q v H')->tDX G f J H Q
abbrev DX(c:Str->Addr)(X:Cx)(e:Expr)(f:LS->Option (D×LS)):Prop:=PE X e (tDX (Gx c X) f)
inductive vW(G:Gc)(f:LS->Option (LD×LS))(J:St)(H:Hp)(R:It->Hp->Prop):Prop
 |mk:∀E H0 Hf U ds ρ',aM G E H0 Hf H J U->f U=aa (ds,ρ')->(∀W2 j H',aR Hf j->aM G E H0 j H' J ρ'->nV G j W2 ds->R W2 H')->vW G f J H R
abbrev DXi(c:Str->Addr)(X:Cx)(tg iter:Expr)(f:LS->Option (LD×LS)):Prop:=PI X tg iter (vW (Gx c X) f)
abbrev pT(f:LS->Option (D×LS))(U:LS):Option (LD×LS):=(f U).bind λp=>match p.1 with
 |.lst M=>aa (M,p.2)
 | _=>ab
abbrev mO(fi:LS->Option (LD×LS))(g:D->LS->Option LS)(F:MF3)(U:LS):Option Fl:=(fi U).bind λp=>i4 g F p.1 p.2
def Hg{f:LS->Option (D×LS)}(h:DX c X e f):DXi c X tg e (pT f):=λB s J H R I C=>by
 obtain⟨E,H0,Hf,U,ds,ρ',st,b,k⟩:=C;unfold pT at b
 cases l:f U with
 |none=>rw[l]at b;nomatch b
 |some p=>
  obtain⟨d,ρ1⟩:=p;rw[l,aG]at b;split at b
  .rename_i M hd;cases b;subst hd;refine zB h B s J H R I ⟨E,H0,Hf,U,_,_,st,l,λv j H' A g r=>?_⟩;obtain⟨a,L,u,q,rs⟩:=r;refine⟨a,u,⟨L,SqL.of (g.sub _ _ q)⟩,k _ j H' A g λa0 H2 o s2 i=>?_⟩;have m:SqL X.K H2 a L:=SqL.of (s2 _ _ (o _ _ q));refine⟨λd w=>?_,λz=>⟨L,m,by rw[<- rs.length,z];exact bh _⟩⟩;obtain⟨v,n,G⟩:=rs.get w;refine⟨⟨L,v,m,n⟩,λx N ⟨t,y⟩=>?_⟩;subst t;have:=y L m;rw[n]at this;cases this;exact⟨a0,Ext.refl s2,G.up o⟩
  .nomatch b
def vX{pos:Pos}{fi:LS->Option (LD×LS)}{a:List Stmt}(hp:nA (model X.prog X.w) X.A X.env X.xe)(hc:X.calm=ac)(hi:DXi c X tg iter fi)(hg:DG c X tg kk g)(hb:DSs c X a F)(hs:∀x,iD iter X.env x=pure x:=by intro _;rfl):
  DS c X (.For tg iter a [] pos) (mO fi g F):=PS.imp (Ft hp hc hi hg.pg hb hs) λW5 J H q_=>by
 obtain⟨E,H0,Hf,U,o,so,q,k⟩:=q_;unfold mO at q
 cases v:fi U with
 |none=>rw[v]at q;nomatch q
 |some pp=>
  obtain⟨ds,s⟩:=pp;rw[v]at q;refine⟨E,H0,Hf,U,ds,s,so,v,λW2 al H1 Q M it=>?_⟩;refine⟨λi m σ' H'=>m=ds.length-i/\i<=ds.length/\∃j ρ',aM _ E H0 j H' σ' ρ'/\aR al j/\i4 g F (ds.drop i) ρ'=aa o,⟨ds.length,rfl,gg _,al,s,M,aR.refl _,q⟩,?_⟩;rintro i m σ' H' ⟨rfl,hi',j,ρ',n,s1,em⟩;obtain⟨G,I⟩:=it j H' s1 n.sub i
  by_cases l:i<ds.length
  .obtain⟨d,ed,B⟩:=sk l;obtain⟨go,yl⟩:=G d ed;rw[B]at em;dsimp only[i4]at em;refine .inr ⟨go,λt H2=>ds.length-_=ds.length-_/\i+1<=ds.length/\∃j ρ',aM _ E H0 j H2 t ρ'/\aR al j/\i4 g F _ ρ'=aa o,λt H2 w=>⟨ds.length-(i+1),by lia,w⟩,λx H2 y=>?_⟩;obtain⟨a0,Y,rx⟩:=yl x H2 y
   cases C:g d ρ' with
   |none=>rw[C]at em;nomatch em
   |some ρ1=>
    rw[C]at em;replace em:(F ρ1).bind _=_:=em
    cases z:F ρ1 with
    |none=>rw[z]at em;nomatch em
    |some T=>
     rw[z]at em;refine⟨E,H0,a0,ρ',d,ρ1,n.step Y,rx,C,λσ3 N=>⟨E,H0,a0,ρ1,T,N,z,?_⟩⟩;have L:=s1.trans Y.f
     cases T with
     |nx h=>exact λp b u r e=>⟨rfl,l,b,h,e,L.trans r,em⟩
     |ct h=>exact λp b u r e=>⟨rfl,l,b,h,e,L.trans r,em⟩
     |bk h=>cases em;exact λp b u r e=>k p b u ((Q.trans L).trans r) e
     |rt d=>cases em;exact k
     |rtO d=>cases em;exact k
     |rtS d h=>cases em;exact k
     |rtT o'=>cases em;exact k
  .have ei:i=ds.length:=by lia
   subst ei;rw[qP (bh _)]at em;cases em;exact .inl ⟨I rfl,k σ' j H' (Q.trans s1) n⟩
def vY{fi:LS->Option (LD×LS)}(h:fi U=aa (ds,ρ'))(k:wp (dM (λ_=>aa ds) g F) ρ' K):wp (mO fi g F) U K:=by
 obtain⟨o,e,q⟩:=k;exact⟨o,by unfold mO;rw[h];exact e,q⟩
abbrev sE:LD->OD
 | [.int a,.int b]=>aa (.int (if b<a then b else a))
 | _=>ab
def Hh(m:X.calm=ac):nU c X (.builtin "min") sE:=by
 rintro B s J H L us Q I p ⟨Hf,ds,d,q,r,e,k⟩;unfold sE at e;split at e
 .rename_i a b;cases e;obtain⟨y,v,rfl,i,z,w,rfl,j,l⟩:=r;cases (l);cases (i);cases (j)
  cases p with
  |cons n h=>
   cases h with
   |cons o h=>
    cases h;obtain⟨t,rfl⟩:=n;obtain⟨u,rfl⟩:=o;refine PySem.min_two_ints (I.ok.hd m) λh' x g=>?_;refine⟨.int _,H,I.kept g,?_,k _ Hf H (Ext.refl q) rfl⟩
    by_cases f:b<a
    .rw[if_pos f,if_pos f];exact⟨u,rfl⟩
    .rw[if_neg f,if_neg f];exact⟨t,rfl⟩
 .nomatch e
abbrev spM(G:Gc)(g n:Nat)(m:Addr->LD->LD->LD->Option (LD×D)):Sp:=λL H Q _=>∃Hf a b M ys d l us e f,L=e++.ref l::f/\aR Hf H/\Hf l=ab/\H l=aa (.lst us)/\aF G Hf a e/\aF G Hf b f/\aF G Hf M us/\a.length=g/\a.length+1+b.length=n/\m l a b M=aa (ys,d) /\
 ∀v j H' c,Ext Hf (eC H l) j H'->j l=ab->H' l=aa (.lst c)->aF G j ys c->Rep G j d v->Q v H'
abbrev AC(N:Nat)(l:Addr)(a b M:LD):LS:=(jD N (a++.non::b)).set a.length (.pin l M)
open Classical in
abbrev jI(l:Addr)(i:Nat)(U:LS):OLD:=match U[i]? with
 |some (.pin l' ys)=>if l'=l then aa ys else ab
 | _=>ab
variable{i:Nat}
def Hi(h:jI l i U=aa ys):U[i]?=aa (.pin l ys):=by
 unfold jI at h;split at h
 .rename_i a b e;split at h
  .rename_i q;cases h;rw[e,q]
  .nomatch h
 .nomatch h
abbrev gK(N:Nat)(F:MF3)(l:Addr)(a b M:LD):Option (LD×D):=(F (AC N l a b M)).bind λo=>match o with
 |.nx U=>(jI l a.length U).map λys=>(ys,.non)
 |.rtS d U=>(jI l a.length U).map λys=>(ys,d)
 | _=>ab
variable{vs0 c2:LVv}
def PH:(L2.start N (vs0++.non::c2)).set vs0.length (aa (.ref l))=L2.start N (vs0++.ref l::c2):=by
 unfold L2.start;simp[set_append]
variable{dm ds1:LD}
def aM.startM(c:aR Hf H)(a:Hf l=ab)(e:H l=aa (.lst us))(b:aF G Hf dm vs0)(f:aF G Hf ds1 c2)(g:aF G Hf M us):
  aM G Hf (eC H l) Hf H (L2.start N (vs0++.ref l::c2)) (AC N.length l dm ds1 M):=by
 have:=(aM.start (N:=N) (sD c a) (b.append (.cons (d:=.non) rfl f))).setOwn (i:=dm.length) (s:=.pin l M) rfl (Ext.grow (sD c a) AB) pR a ⟨rfl,us,e,g⟩;rw[b.length,PH,<- b.length]at this;exact this
variable{K:br}
def i5{f:Addr}{n0:Nat}(T:Fun K x qual st f fd)(S:aT N ps (aO st))
 (h:∀(cdv:Value) (A:dQ) (outer:List Env) (s:aL) (H:Hp) (W5:XK),cG k (A.deeper (iC qual (aO st) s.heap.objs.size f cdv))->DSs c (j9 CX0 P w K mg base N qual (aO st) f cdv A outer s H W5).nox (ka st) F)(u:N.length=n_:=by rfl):
  eX P w K mg base CX0 (k+1) f fd ps (spM ⟨K,c⟩ n0 ps.length (gK n_ F)):=by
 subst u;refine T.ok S (λL H Q W5 y=>by obtain⟨Hf,dm,ds1,M,ys,d,l,us,vs0,c2,t,J,C,E,z,B,I,hn,hl,_⟩:=y;simp only[t,aI,bg,<- z.length,<- B.length];lia) λcdv A outer s H L Q W5 hr y=>?_;obtain⟨Hf,dm,ds1,M,ys,d,l,us,vs0,c2,t,J,C,E,z,B,I,hn,hl,e,G⟩:=y;refine⟨_,h cdv A outer s H W5 hr,?_⟩;subst t;unfold gK at e
 cases q:F _ with
 |none=>rw[q]at e;nomatch e
 |some o=>
  rw[q,aG]at e;refine⟨Hf,eC H l,Hf,_,o,aM.startM J C E z B I,q,?_⟩
  cases o with
  |nx U=>
   replace e:(jI l dm.length U).map _=aa _:=e
   cases a:jI l dm.length U with
   |none=>rw[a]at e;nomatch e
   |some zs=>
    rw[a]at e;cases e;intro σ' j H' _ n;obtain⟨l',Y,h0,b,p,m,g,i⟩:=n.ownAt rfl (Hi a);subst p
    exact G .non j H' m n.ext b g i rfl
  |rtS d' U=>
   replace e:(jI l dm.length U).map _=aa _:=e
   cases a:jI l dm.length U with
   |none=>rw[a]at e;nomatch e
   |some zs=>
    rw[a]at e;cases e;intro v σ' j H' n r;obtain⟨l',Y,h0,b,p,m,g,i⟩:=n.ownAt rfl (Hi a);subst p
    exact G v j H' m n.ext b g i r
  | _=>nomatch e
def aM.giveS{s:Sl}(g:s.isOwn=ac)(h:aM G E H0 Hf H J U)(e:U[i]?=aa s)(d:J[i]?=aa (aa (.ref l))):aM G E H0 Hf (eC H l) J (U.set i .no):=by
 refine h.chg e d (λb u f=>?_) trivial λa p=>(p.calm rfl).elim
 by_cases c:b=l
 .subst c;exact .inl ((Holds.own g).mpr rfl)
 .exact .inr (by rw[pS c];exact f)
def aM.back{s:Sl}(m:s.isOwn=ac)(b:s'.isOwn=ac)(h:aM G E H0 Hf H J U)(e:U[i]?=aa s)(a:J[i]?=aa (aa (.ref l)))(x:Ext Hf (eC H l) j H')(f:j l=ab)(g:iW G j H' l s'):aM G E H0 j H' J (U.set i s'):=by
 have:=(h.giveS m e a).setOwn (i:=i) b x pR f g;rw[set_set]at this
 have d:J.set i (aa (.ref l))=J:=by
  apply oW;intro W6
  by_cases c:i=W6
  .subst c;rw[jV (dD.mp a).1,a]
  .rw[iO c]
 rw[d]at this;exact this
open Classical in
abbrev jJ(f:LS->Option (D×LS))(U:LS):Option Fl:=(f U).map λp=>.nx p.2
def n8{pos:Pos}{f:LS->Option (D×LS)}(g:DX c X e f)(h:fo e ab pos.line X.env=pure ag:=by rfl):DS c X (.Expr e pos) (jJ f):=PS.imp (dG g h) λW5 J H i=>by
 obtain⟨E,H0,Hf,U,o,l,a,k⟩:=i;unfold jJ at a
 cases b:f U with
 |none=>rw[b]at a;nomatch a
 |some p=>
  rw[b]at a;cases a;exact⟨E,H0,Hf,U,p.1,p.2,l,b,λv j H' s d r=>k J j H' s d⟩
abbrev vZ(i:Nat)(U:LS):OLD:=match U[i]? with
 |some (.pin _ M)=>aa M
 | _=>ab
def Hj{pos:Pos}(i:Nat)(f:X.N[i]?=aa x:=by rfl)(g:Vis X.env.scope x:=by first |exact cF rfl |exact bP (cF rfl) |exact bP (bP rfl))(hd:NDb x:=by decide)
 (b:NCd x:=by decide):DC c X (.Name x pos) (vZ i):=PE.imp (lu f g hd b) λJ H Q j=>by
 obtain⟨E,H0,Hf,U,d,st,a,k⟩:=j;unfold vZ at a;split at a
 .rename_i l M es;cases a;obtain⟨h,e,_,_,_,L,q,r⟩:=st.ownAt rfl es;exact⟨_,e,k h L Hf H (Ext.refl st.sub) (.inl (SqL.of q)) r⟩
 .nomatch a
variable{K:Fl->Prop}
def AD{f:LS->Option (D×LS)}(h:f U=aa (d,ρ'))(k:K (.nx ρ')):wp (jJ f) U K:=⟨_,by unfold jJ;rw[h];rfl,k⟩
def fP(h:f U=aa d)(k:K (.rtS d U)):wp (dW f) U K:=⟨_,by unfold dW;rw[h];rfl,k⟩
def PJ(h:U[i]?=aa (.pin l ys)):jI l i U=aa ys:=by
 unfold jI;rw[h];exact if_pos rfl
def i6{N:Nat}(h:F (AC N l dm ds1 M)=aa (.rtS d U))(h':U[dm.length]?=aa (.pin l ys)):gK N F l dm ds1 M=aa (ys,d):=by
 unfold gK;rw[h,aG];show(jI l dm.length U).map _=_;rw[PJ h'];rfl
abbrev Hk(G:Gc)(Hf H:Hp)(J:St)(U:LS)(a:Addr):Prop:=∀(k:Nat) (t:Sl) (w:V),U[k]?=aa t->J[k]?=aa (aa w)->Holds G Hf H t w a->False
def aM.take(h:aM G E H0 Hf H J U)(g:J[i]?=aa (aa u)):aM G E H0 Hf H J (U.set i (.val u)):=by
 refine h.re h.ext (by simp) (λW6 w s a b=>?_) λW6 s v a b c d=>?_
 .rcases d7 b with⟨e,f,_⟩ |⟨e,b⟩
  .subst e f;rw[g]at a;cases a;rfl
  .exact h.at' W6 w s a b
 .rcases d7 b with⟨e,f,_⟩ |⟨e,b⟩
  .subst f;exact qN d.1
  .exact⟨s,b,d⟩
abbrev Hl(C:LN)(a b:LS):Prop:=a.length=b.length/\∀m,m∉C->a[m]?=b[m]?
def Hl.refl(C:LN)(a:LS):Hl C a a:=⟨rfl,λ_ _=>rfl⟩
variable{kvs:List (Key×V)}
def Inv.freeze(I:Inv X B J H s)(e:H l=aa (.dK kvs)):∃od,Inv X B J (upd H l (.frz od (.dK kvs))) s:=by
 obtain⟨z,ns,L,f,od,es,i,g,r⟩:=zU I.hok e;refine⟨od,?_⟩
 have d:∀b u,H b=aa u->(∀w,u≠.dK w)->upd H l (.frz od (.dK kvs)) b=aa u:=λb u a j=>by
  rw[bG (λq=>by subst q;rw[e]at a;cases a;exact j _ rfl)];exact a
 have:=I.step (t':=s.toks) (d':=s.drawn) (ch:=[]) (λb a=>nomatch a) (λb o _ _ _ e _=>e) (λb o _ _ _ e _=>⟨o.slots,e⟩) (λb o _ _ n=>by rw[bG (λq=>by subst q;rw[e]at n;nomatch n)];exact n)
  (λb o _ e=>⟨o,e⟩) (λb M a=>d b _ a (λw q=>by nomatch q)) (λb o u a=>d b _ a (λw q=>by nomatch q)) (λb ps a=>⟨#[],by rw[d b _ a (λw q=>by nomatch q)];simp⟩) (λm hm=>hm) (λb u a=>?_) I.bare
 .exact this
 .by_cases q:b=l
  .subst q;rw[bL]at a;cases a;exact⟨g,z,ns,L,f,od,es,i,g,r⟩
  .rw[bG q]at a;exact(I.hok b u a).stay (λc v _ h=>h) (λc h=>d c _ h (λw q=>by nomatch q)) (λc M h=>d c _ h (λw q=>by nomatch q))
def KV.get:∀{M:List (Key×V)} {us:List (Key×Value)} {i:Nat} {x:Key×V},KV M us->M[i]?=aa x->∃u,us[i]?=aa u/\x.1=u.1/\aZ x.2 u.2
 | _,_,_,_,.nil,e=>by simp at e
 | _,_,0,_,.cons r _,e=>by simp at e;subst e;exact⟨_,rfl,r⟩
 | _,_,i+1,x,.cons _ t,e=>by
  obtain⟨u,a,b⟩:=KV.get t (by simpa using e);exact⟨u,by simpa using a,b⟩
def PK{k:Key}{v:Value}(h:nH k v=ac):aZ (kV k) v:=by
 rcases j5 h with⟨i,t,rfl,rfl⟩ |⟨x,t,rfl,rfl⟩
 .exact⟨t,rfl⟩
 .exact⟨t,rfl⟩
abbrev kD:Key->D
 |.inl i=>.int i
 |.inr x=>.str x
def PL(k:Key):Rep G H (kD k) (kV k):=by cases k <;> rfl
abbrev PM:D->OLD
 |.kd C _=>aa (C.map kD)
 | _=>ab
abbrev iL(C:List Key)(M:LD)(k:Key):OD:=((C.zip M).find? λa=>decide (a.1=k)).map (·.2)
def AE{G:Gc}{H:Hp}{k:Key}:∀{C:List Key} {M:LD} {L:LVv},C.length=L.length->aF G H M L->(∀d,iL C M k=aa d->∃v,fK (C.zip L) k=aa v/\Rep G H d v)/\(iL C M k=ab->fK (C.zip L) k=ab)
 | [],_,_,_,_=>⟨λd h=>(by cases h),λ_=>rfl⟩
 | _::_,_,[],h,_=>by cases h
 |W6::C,[],v::L,_,r=>by cases (r)
 |W6::C,x::M,v::L,h,q4_=>by
  obtain⟨u,g,e,c,f⟩:=q4_
  injection e with e1 e2
  subst e1 e2;obtain⟨a,b⟩:=AE (by simpa using h) f;unfold iL;simp only[iP,iP]
  by_cases q:W6=k
  .subst q;refine⟨λd hd=>⟨v,vk rfl,?_⟩,λhd=>?_⟩
   .rw[find?_cons_of_pos (by simp)]at hd;cases hd;exact c
   .rw[find?_cons_of_pos (by simp)]at hd;cases hd
  .rw[find?_cons_of_neg (by simpa using q),vm q];exact⟨a,b⟩
abbrev kK:D->Option (List Key×LD)
 |.dic C M=>aa (C,M)
 |.kd C M=>aa (C,M)
 | _=>ab
def v0{p:List Key×LD}(e:kK d=aa p)(r:Rep G H d v):∃a L,v=.ref a/\Rd H a (.dK (p.1.zip L))/\p.1.length=L.length/\aF G H p.2 L:=by
 cases d with
 |dic C M=>cases e;obtain⟨a,L,b,q,z,r⟩:=r;exact⟨a,L,b,.inl q,z,r⟩
 |kd C M=>cases e;obtain⟨a,od,L,b,q,z,r⟩:=r;exact⟨a,L,b,.inr ⟨od,q⟩,z,r⟩
 | _=>nomatch e
def Rd.up{a:Addr}{u:HO}(h:Rd H a u)(s:aR H H'):Rd H' a u:=h.imp (s _ _) λb=>by
 obtain⟨o,e⟩:=b;exact(⟨o,s _ _ e⟩)
abbrev jK(x y:D):OD:=(kK x).bind λp=>(kC y).bind λk=>iL p.1 p.2 k
variable{b:Expr}
def v4{pos:Pos}(hu:X.A.units+64<cLine){g:MF1}(ha:DE c X a f)(I:DE c X b g)(M:zX b:=by exact λ_ _=>rfl):DE c X (.Subscript a b pos) (m2 jK f g):=
 PE.imp (Oe (by lia) ha I M) λJ H Q Y=>by
  obtain⟨E,H0,Hf,U,d,st,B,k⟩:=Y;obtain⟨x,y,o,t,e⟩:=pH B;refine⟨E,H0,Hf,U,x,st,o,λv al H1 n r1=>⟨E,H0,al,U,y,st.step n,t,λu a0 H2 m r2=>?_⟩⟩;unfold jK at e
  cases h:kK x with
  |none=>rw[h]at e;nomatch e
  |some p=>
   rw[h,aG]at e
   cases i:kC y with
   |none=>rw[i]at e;nomatch e
   |some T=>
    rw[i,aG]at e;obtain⟨l,L,C,q,z,r⟩:=v0 h (r1.up m.f);have G:=sA i r2;subst G C;obtain⟨w,N,j⟩:=(AE z r).1 d e;exact⟨l,w,rfl,.inl ⟨_,T,q.up m.s,rfl,N.symm⟩,k _ a0 H2 (n.trans m) j⟩
abbrev mP(i:Nat)(F:MF3)(U:LS):Option Fl:=match U[i]? with
 |some (.ownd C M)=>F (U.set i (.im (.kd C M)))
 | _=>F U
def PN(I:Inv X B J H s)(h:tDS (Gx c X) (mP i F) W5 J H):∃H',Inv X B J H' s/\tDS (Gx c X) F W5 J H':=by
 obtain⟨E,H0,Hf,U,o,so,ef,k⟩:=h;unfold mP at ef;split at ef
 .rename_i C M es;obtain⟨l,A,h0,Q,L,q,z,r⟩:=so.ownAt rfl es;obtain⟨od,I'⟩:=I.freeze q;refine⟨_,I',E,H0,upd Hf l (.frz od (.dK (C.zip L))),U.set i _,o,?_,ef,k.up (cJ Q)⟩
  have s1 : aM _ E H0 Hf (upd H l (.frz od (.dK (C.zip L)))) J (U.set i .no):=so.chg es A (λb u hb=>by
   by_cases g:b=l
   .subst g;exact .inl ((Holds.own rfl).mpr rfl)
   .exact .inr (by rw[bG g];exact hb)) trivial λa p=>(p.calm rfl).elim
  have s2:aM (Gx c X) E H0 (upd Hf l (.frz od (.dK (C.zip L)))) (upd H l (.frz od (.dK (C.zip L)))) J (U.set i .no):=by
   have fr:Hk (Gx c X) Hf H J (U.set i .no) l:=λm t w b x p=>by
    rcases d7 b with⟨_,e',_⟩ |⟨ne,b⟩
    .subst e';exact p.calm rfl
    .exact ne (so.dj m i t _ w _ l b es x A p ((Holds.own rfl).mpr rfl))
   have Y:Hk (Gx c X) Hf (upd H l (.frz od (.dK (C.zip L)))) J _ l:=λm t w b x p=>by
    cases G:t.isOwn with
    |true=>
     exact fr m t w b x ((Holds.own G).mpr ((Holds.own G).mp p))
    |false=>
     cases t with
     |deep o'=>
      obtain⟨fp,rr,ha⟩:=p
      obtain ⟨u,N,eu,r2,_⟩:=so.at' m _ _ x (by
       rcases d7 b with⟨_,e',_⟩ |⟨ne,b⟩
       .nomatch e'
       .exact b)
      cases eu
      have r3:OT _ Hf (upd H l (.frz od (.dK (C.zip L)))) o' w N:=r2.frame (aR.refl _) λb' u' g j=>by
       rw[bG (λT=>?_)]
       .exact g
       .subst T
        rcases j with j |j
        .rw[q]at g;cases g;nomatch j
        .exact fr m _ w b x ⟨N,r2,j⟩
      have:=OT.funM o' w _ _ r3 rr;subst this
      exact fr m _ w b x ⟨N,r2,ha⟩
     | _=>first |exact qN p.1 |nomatch G
   refine s1.re ⟨s1.ext.f.trans (cJ Q),s1.ext.h,λb u e=>?_,λb u e t=>?_⟩ rfl (λm v t a b=>?_) λm t v a b x p=>⟨t,b,(s1.at' m _ t x b).back (λo' fp _ r=>r.up (cJ Q) (aR.refl _)) p⟩
   .by_cases hb:b=l
    .subst hb;rw[bL]at e ⊢;exact e
    .rw[bG hb]at e;exact s1.ext.s b u e
   .rw[bG (λz=>by subst z;rw[h0]at e;nomatch e)];exact s1.ext.n b u e t
   .have T:=s1.at' m v t a b
    cases G:t.isOwn with
    |true=>
     obtain⟨l2,e2,e3,e4,q2⟩:=T.own G;subst e2;refine .ofOwn G ⟨l2,rfl,e3,?_,q2.up (cJ Q) λo' ho'=>ho'⟩;rw[bG (λz=>by subst z;exact Y m t _ b a ((Holds.own G).mpr rfl))]
     exact e4
    |false=>
     cases t with
     |no=>trivial
     |im d=>obtain⟨u',A,r⟩:=T;exact⟨u',A,r.up (cJ Q)⟩
     |val u'=>exact T
     |deep o'=>
      obtain⟨w,fp,A,r,n,zz⟩:=T;subst A;refine⟨w,fp,rfl,r.up (cJ Q) (aR.refl _),n,λy hy=>⟨(zz y hy).1,?_⟩⟩;rw[bG (λz=>by subst z;exact Y m _ w b a ⟨fp,r,hy⟩)]
      exact(zz y hy).2
     | _=>nomatch G
  have res:=s2.setIm (i:=i) (d:=.kd C M) ⟨l,od,L,rfl,bL,z,r.up (cJ Q)⟩
  have e3:J.set i (aa (.ref l))=J:=by
   apply oW;intro jj
   by_cases hj:i=jj
   .subst hj;rw[jV (dD.mp A).1,A]
   .rw[iO hj]
  rw[e3,set_set]at res;exact res
 .exact⟨H,I,E,H0,Hf,U,o,so,ef,k⟩
def AF(i:Nat)(h:DS c X st F):DS c X st (mP i F):=λB s J H W5 I q=>by
 obtain⟨H',a,b⟩:=PN I q;exact h B s J H' W5 a b
variable{C:List Key}
def Hm(h:U[i]?=aa (.ownd C M))(k:wp F (U.set i (.im (.kd C M))) K):wp (mP i F) U K:=by
 obtain⟨o,e,q⟩:=k;exact⟨o,by unfold mP;rw[h];exact e,q⟩
abbrev Ho:D->OD
 |.bl b=>aa (.int (if b then 1 else 0))
 | _=>ab
abbrev jL(f:MF1)(U:LS):OD:=(f U).bind Ho
abbrev PQ(te:TE):TE:=λJ H Q=>te J H λx H1=>∃b,x=.bl b/\Q (.int (if b then 1 else 0)) H1
def PU:h8 "int"=aa (.type "int"):=by decide +kernel
def PV{pos:Pos}(i:Gl X "int")(hm:X.mg "int"=ab)(g:PE X e te)(c:bf [e] X.env=(ag,eval e X.env)::bf [] X.env:=by rfl)(a:(d5 pos (bf [] X.env)).any (·.1)=ag:=by rfl):
  PE X (.Call (.Name "int" p) [e] [] pos) (PQ te):=by
 intro B s J H Q I h;refine md (j6 I i hm PU ?_);refine nq ?_ c a;rw[c];refine lj (thn (g B s J H _ I h) λu s1 j=>?_);obtain⟨x,H1,d,l,b,f,q⟩:=j;subst f;subst l;exact bq (call_int_bool ⟨.int _,H1,d.tok _,⟨_,rfl⟩,q⟩)
def v5{pos:Pos}(l:Gl X "int")(hm:X.mg "int"=ab)(ha:DE c X e f)(i:bf [e] X.env=(ag,eval e X.env)::bf [] X.env:=by rfl)(h:(d5 pos (bf [] X.env)).any (·.1)=ag:=by rfl):DE c X (.Call (.Name "int" p) [e] [] pos) (jL f):=
 PE.imp (PV l hm ha i h) λJ H Q m=>by
  obtain⟨E,H0,Hf,U,n,st,a,k⟩:=m;unfold jL at a
  cases g:f U with
  |none=>rw[g]at a;nomatch a
  |some d=>
   rw[g,aG]at a;unfold Ho at a;split at a
   .rename_i b;cases a;refine⟨E,H0,Hf,U,_,st,g,λv j H' x r=>⟨b,r,k _ j H' x rfl⟩⟩
   .nomatch a
abbrev pU(i:Nat)(fk fv:MF1)(U:LS):Option Fl:=(fv U).bind λd=>(fk U).bind λx=>match x with
 | .int k=>(match U[i]? with
  |some (.pin l M)=>(ixN M.length k).map λW6=>.nx (U.set i (.pin l (M.set W6 d)))
  | _=>ab)
 | _=>ab
def PY(w:PS X st (mr (tD (Gx c X) fv) (zA (eO i) (tD (Gx c X) fk) zP))):DS c X st (pU i fk fv):=PS.imp w λW5 J H z=>by
 obtain⟨E,H0,Hf,U,o,s,a,k⟩:=z;unfold pU at a
 cases j:fv U with
 |none=>rw[j]at a;nomatch a
 |some d=>
  rw[j]at a
  cases m:fk U with
  |none=>rw[m]at a;nomatch a
  |some x=>
   rw[m]at a
   obtain⟨e,rfl⟩:∃e,x=.int e:=by cases x <;> first |exact⟨_,rfl⟩ |nomatch a
   replace a:(match U[i]? with |some (.pin l M)=>(ixN M.length e).map λW6=>Fl.nx _ | _=>ab)=aa o:=a
   split at a
   .rename_i I M es
    cases n:ixN M.length e with
    |none=>rw[n]at a;nomatch a
    |some W6=>
     rw[n]at a;cases a;refine⟨E,H0,Hf,U,d,s,j,λv al H1 t A=>?_⟩;have b:=s.step t;obtain⟨l,p,C,G,u,L,q,r⟩:=b.ownAt rfl es;subst u;refine⟨_,p,E,H0,al,U,.int e,b,m,λy a0 H2 g B=>?_⟩;exact⟨l,L,e,W6,rfl,B,(g.h _ _ q),by rw[<- r.length];exact n,(k J a0 _ (t.f.trans g.f) ((b.step g).mutd rfl rfl es p ⟨rfl,L.set W6 v,bL,(r.up g.f).set W6 (A.up g.f)⟩))⟩
   .nomatch a
def PZ{pos:Pos}(d:PE X e (eO i))(b:DE c X i' fk)(g:DE c X value fv)(f:rh [.Subscript e i' bb] value pos.line X.env=pure ag:=by rfl)(h:rj [.Subscript e i' bb] value X.env=pure ab:=by rfl)
 (a:(fI [.Subscript e i' bb] X.env).map (·.2)=[iE (.Subscript e i' bb) X.env]:=by rfl)
 (ha:∀ v,iE (.Subscript e i' bb) X.env v=(do
   let ov <- gb [v] (eval e X.env)
   let iv <- gb [v,ov] (eval i' X.env)
   jo bb
   gb [v,ov,iv] (setItem ov iv v)
   release [v,ov,iv] []):=by intro _;rfl):
  DS c X (.Assign [.Subscript e i' bb] value pos) (pU i fk fv):=PY (vc g (Fp d b FV ha) f h a)
def P0{k:Int}(e:fv U=aa d)(c:fk U=aa (.int k))(h':U[i]?=aa (.pin l M))(a:0<=k)(b:k<M.length)(q:K (.nx (U.set i (.pin l (M.set k.toNat d))))):wp (pU i fk fv) U K:=⟨_,by
 unfold pU;rw[e,aG,c,aG,h'];show(ixN M.length k).map _=_;unfold ixN;rw[if_pos a,if_pos b];rfl,q⟩
nonrec def Xe:=LS->Option (D×LS)
nonrec def Xa:=LS->Option (LD×LS)
nonrec def Xt:=LS->Option (Bool×LS)
abbrev mX(f:MF1):Xe:=λU=>(f U).map λd=>(d,U)
abbrev mX2(m:D->D->OD)(f g:Xe):Xe:=λU=>(f U).bind λp=>(g p.2).bind λq=>(m p.1 q.1).map λd=>(d,q.2)
abbrev aq:Xa:=λU=>aa ([],U)
abbrev ao(f:Xe)(g:Xa):Xa:=λU=>(f U).bind λp=>(g p.2).map λq=>(p.1::q.1,q.2)
abbrev eD(f:Xa):Xe:=λU=>(f U).map λp=>(.tup p.1,p.2)
abbrev pV(f:Xa):Xe:=λU=>(f U).map λp=>(.lst p.1,p.2)
abbrev ip(m:LD->OD)(f:Xa):Xe:=λU=>(f U).bind λp=>(m p.1).map λd=>(d,p.2)
def P1(h:mX f U=aa (d,ρ')):f U=aa d/\ρ'=U:=by
 unfold mX at h
 cases e:f U with
 |none=>rw[e]at h;nomatch h
 |some d'=>rw[e]at h;cases h;exact⟨rfl,rfl⟩
def v6{f g:Xe}(h:mX2 m f g U=aa (d,ρ')):∃x y ρ1,f U=aa (x,ρ1)/\g ρ1=aa (y,ρ')/\m x y=aa d:=by
 unfold mX2 at h
 cases c:f U with
 |none=>rw[c]at h;nomatch h
 |some p=>
  rw[c,aG]at h
  cases a:g p.2 with
  |none=>rw[a]at h;nomatch h
  |some q=>
   rw[a,aG]at h
   cases b:m p.1 q.1 with
   |none=>rw[b]at h;nomatch h
   |some z=>rw[b]at h;cases h;exact⟨p.1,q.1,p.2,rfl,a,b⟩
def Hq{f:Xe}{g:Xa}(h:ao f g U=aa (ds,ρ')):∃d r ρ1,f U=aa (d,ρ1)/\g ρ1=aa (r,ρ')/\ds=d::r:=by
 unfold ao at h
 cases b:f U with
 |none=>rw[b]at h;nomatch h
 |some p=>
  rw[b,aG]at h
  cases a:g p.2 with
  |none=>rw[a]at h;nomatch h
  |some q=>rw[a]at h;cases h;exact⟨p.1,q.1,p.2,rfl,a,rfl⟩
inductive v7(G:Gc)(f:Xa)(J:St)(H:Hp)(Q:LVv->Hp->Prop):Prop
 |mk:∀E H0 Hf U ds ρ',aM G E H0 Hf H J U->f U=aa (ds,ρ')->(∀L j H',aR Hf j->aM G E H0 j H' J ρ'->aF G j ds L->Q L H')->v7 G f J H Q
structure DAX(c:Str->Addr)(X:Cx)(es:LEx)(f:Xa):Prop where
 pa:PA X es (v7 (Gx c X) f)
 len:∀U ds ρ',f U=aa (ds,ρ')->ds.length=es.length
inductive sF(G:Gc)(f:Xt)(J:St)(H:Hp)(Q:Bool->Hp->Prop):Prop
 |mk:∀E H0 Hf U b ρ',aM G E H0 Hf H J U->f U=aa (b,ρ')->(∀j H',aR Hf j->aM G E H0 j H' J ρ'->Q b H')->sF G f J H Q
abbrev DTX(c:Str->Addr)(X:Cx)(e:Expr)(f:Xt):Prop:=PT X e (sF (Gx c X) f)
def DE.dx(h:DE c X e f):DX c X e (mX f):=PE.imp h λJ H Q g=>by
 obtain⟨E,H0,Hf,U,d,ρ',st,b,k⟩:=g;obtain⟨a,rfl⟩:=P1 b;exact⟨E,H0,Hf,_,d,st,a,λv j H' x r=>k v j H' x.f (st.step x) r⟩
def i7{pos:Pos}{op:Operator}{f g:Xe}(z:OpD c X (gh op) m)(ha:DX c X a f)(t:DX c X b g):DX c X (.BinOp a op b pos) (mX2 m f g):=PE.imp (zC z ha t) λJ H Q A=>by
 obtain⟨E,H0,Hf,U,d,ρ',st,r,k⟩:=A;obtain⟨x,y,ρ1,o,p,q⟩:=v6 r;exact⟨E,H0,Hf,U,x,ρ1,st,o,λv al H1 s i B=>⟨E,H0,al,ρ1,y,ρ',i,p,λu a0 H2 j e C=>⟨a0,x,y,d,e.sub,B.up j,C,q,λw h n l G=>k w h n ((s.trans j).trans l.f) (e.step l) G⟩⟩⟩
def aP:DAX c X [] aq:=⟨PA.imp bM λJ H Q b=>by obtain⟨E,H0,Hf,U,ds,ρ',st,a,k⟩:=b;cases a;exact k [] Hf H (aR.refl _) st rfl,λU ds ρ' h=>by cases h;rfl⟩
def ax{f:Xe}{g:Xa}(ha:DX c X e f)(m:DAX c X es g)(p:StE X e es:=by rfl):DAX c X (e::es) (ao f g):=by
 refine⟨PA.imp (bC ha m.pa p) λJ H Q q=>?_,λU ds ρ' h=>?_⟩
 .obtain⟨E,H0,Hf,U,ds,ρ',st,n,k⟩:=q;obtain⟨d,r,ρ1,j,a,rfl⟩:=Hq n;exact⟨E,H0,Hf,U,d,ρ1,st,j,λv al H1 o b s=>⟨E,H0,al,ρ1,r,ρ',b,a,λL a0 H2 l i t=>k _ a0 H2 (o.trans l) i (.cons (s.up l) t)⟩⟩
 .obtain⟨d,r,ρ1,j,a,rfl⟩:=Hq h;simp[m.len ρ1 r ρ' a]
def fQ{pos:Pos}{f:Xa}(h:DAX c X es f)(hz:es.length<=1000:=by exact oY rfl):DX c X (.Tuple es k' pos) (eD f):=PE.imp (FF h.pa) λJ H Q l=>by
 obtain⟨E,H0,Hf,U,d,ρ',st,b,k⟩:=l;unfold eD at b
 cases e:f U with
 |none=>rw[e]at b;nomatch b
 |some q=>
  obtain⟨ds,ρ1⟩:=q;rw[e]at b;cases b;refine⟨E,H0,Hf,U,ds,_,st,e,λL j H' i a r=>⟨?_,λq g=>(k _ _ _ (i.trans (cJ (a.sub.free g))) (a.step (Ext.new a.sub g)) ⟨q,L,rfl,bL,r.up (cJ (a.sub.free g))⟩)⟩⟩;rw[<- r.length,h.len U ds _ e];exact k9 (pj hz)
def Hr{pos:Pos}{f:Xa}(h:DAX c X es f)(hz:es.length<=1000:=by exact oY rfl):DX c X (.List es pos) (pV f):=PE.imp (rO h.pa) λJ H Q l=>by
 obtain⟨E,H0,Hf,U,d,ρ',st,b,k⟩:=l;unfold pV at b
 cases e:f U with
 |none=>rw[e]at b;nomatch b
 |some q=>
  obtain⟨ds,ρ1⟩:=q;rw[e]at b;cases b;refine⟨E,H0,Hf,U,ds,_,st,e,λL j H' i a r=>⟨?_,λq g=>(k _ _ _ (i.trans (cJ (a.sub.free g))) (a.step (Ext.new a.sub g)) ⟨q,L,rfl,bL,r.up (cJ (a.sub.free g))⟩)⟩⟩;rw[<- r.length,h.len U ds _ e];exact k9 (pj hz)
variable{fa:Xa}
def v8{pos:Pos}{f:Addr}{m:LD->OD}(pk:Pk X.prog X.w X.K X.mg X.base CX0 k x (f,fd) ps (spD (Gx c X) ps.length m))(t:cG k0 X.A)(ha:DAX c X (e::es) fa)(G:(e::es).length=ps.length:=by rfl)(n:NDb x:=by decide)(B:StE X e es:=by rfl)(s:BkE X pos es:=by rfl)(o:k<=k0:=by decide)(C:Gl X x:=by first |rfl |exact glc rfl):
  DX c X (.Call (.Name x p) (e::es) [] pos) (ip m fa):=PE.imp (ph pk.ok (t.mono o) C pk.g pk.kp pk.b .nil kc ha.pa n B s) λJ H Q M=>by
 obtain⟨E,H0,Hf,U,d,ρ',st,a,I⟩:=M;unfold ip at a
 cases i:fa U with
 |none=>rw[i]at a;nomatch a
 |some q=>
  obtain⟨ds,ρ1⟩:=q;simp only[i,aG]at a
  cases l:m ds with
  |none=>rw[l]at a;nomatch a
  |some z=>
   rw[l]at a;cases a;refine⟨E,H0,Hf,U,ds,_,st,i,λL j H' y h r=>?_⟩;rw[cr];exact⟨j,ds,_,h.sub,r,(ha.len U ds _ i).trans G,l,λv a0 H2 u N=>I v a0 H2 (y.trans u.f) (h.step u) N⟩
inductive tMX(G:Gc)(i:Nat)(f:Xa)(J:St)(H:Hp)(Q:LVv->Hp->Prop):Prop
 |mk:∀E H0 Hf U ds ρ' l,aM G E H0 Hf H J U->J[i]?=aa (aa (.ref l))->f U=aa (ds,ρ')->(∀L j H',aR Hf j->aM G E H0 j H' J ρ'->aF G j ds L->Q (.ref l::L) H')->tMX G i f J H Q
structure DMX(c:Str->Addr)(X:Cx)(es:LEx)(i:Nat)(f:Xa):Prop where
 pa:PA X es (tMX (Gx c X) i f)
 len:∀U ds ρ',f U=aa (ds,ρ')->ds.length+1=es.length
abbrev bj(i:Nat)(m:Addr->LD->LD->LD->Option (LD×D))(f:Xa):Xe:=λU=>match U[i]? with
 |some (.pin _ _)=>(f U).bind λp=>match p.2[i]? with
  |some (.pin l M)=>(m l [] p.1 M).map λq=>(q.2,p.2.set i (.pin l q.1))
  | _=>ab
 | _=>ab
def ca{pos:Pos}(i:Nat){g:Xa}(d:DAX c X es g)(n:X.N[i]?=aa x:=by rfl)(p:Vis X.env.scope x:=by first |exact cF rfl |exact bP (cF rfl) |exact bP (bP rfl))(hd:NDb x:=by decide)
 (a:NCd x:=by decide)(o:bf (.Name x pos::es) X.env=(ag,eval (.Name x pos) X.env)::bf es X.env:=by rfl):DMX c X (.Name x pos::es) i g:=
 ⟨PA.imp (bC (lu n p hd a) d.pa o) λJ H Q ⟨E,H0,Hf,U,ds,ρ',l,st,f,e,k⟩=>⟨_,f,E,H0,Hf,U,ds,ρ',st,e,λL j H' m b r=>k L j H' m b r⟩,λU ds ρ' h=>by
  rw[bg,d.len U ds ρ' h]⟩
variable{f:Addr}
def bR{pos:Pos}{m:Addr->LD->LD->LD->Option (LD×D)}(pk:Pk X.prog X.w X.K X.mg X.base CX0 k x (f,fd) ps (spM (Gx c X) 0 ps.length m))(T:cG k0 X.A)(ha:DMX c X (e::es) i fa)(hl:(e::es).length=ps.length:=by rfl)(B:NDb x:=by decide)(he:StE X e es:=by rfl)(N:BkE X pos es:=by rfl)(I:k<=k0:=by decide)(hg:Gl X x:=by first |rfl |exact glc rfl):
  DX c X (.Call (.Name x p) (e::es) [] pos) (bj i m fa):=PE.imp (ph pk.ok (T.mono I) hg pk.g pk.kp pk.b .nil kc ha.pa B he N) λJ H Q q_=>by
 obtain⟨E,H0,Hf,U,d,ρ',st,a,kq⟩:=q_;unfold bj at a;split at a
 .rename_i l0 xs0 y
  cases o:fa U with
  |none=>rw[o]at a;nomatch a
  |some pp=>
   obtain⟨ds,ρ1⟩:=pp;simp only[o,aG]at a;split at a
   .rename_i l M eo
    cases t:m l [] ds M with
    |none=>rw[t]at a;nomatch a
    |some q=>
     rw[t]at a;cases a;obtain⟨l1,u,_,_,_,_,_,_⟩:=st.ownAt rfl y;refine⟨E,H0,Hf,U,ds,ρ1,l1,st,u,o,λL j H' f1 h r=>?_⟩;rw[cr];obtain⟨l2,n,h02,C,z,us2,Y,rx2⟩:=h.ownAt rfl eo;subst z;rw[u]at n;cases n
     have hn:0+1+ds.length=ps.length:=by
      have:=(ha.len U ds _ o).trans hl
      lia
     exact⟨j,[],ds,M,q.1,q.2,l1,us2,[],L,rfl,h.sub,C,Y,rfl,r,rx2,rfl,hn,t,λv s H3 us3 x3 G hu3 rx3 r3=>kq v s H3 (f1.trans x3.f) (h.back rfl rfl eo u x3 G ⟨rfl,us3,hu3,rx3⟩) r3⟩
   .nomatch a
 .nomatch a
abbrev cC(i:Nat)(f:Xe)(U:LS):Option Fl:=(f U).map λp=>.nx (p.2.set i (.im p.1))
abbrev c7(f:Xe)(U:LS):Option Fl:=(f U).map λp=>.rtS p.1 p.2
abbrev gz(i:Nat)(f:Xe)(U:LS):Option Fl:=match U[i]? with
 |some (.own _)=>(f U).bind λp=>match p.2[i]? with
  |some (.own M)=>if M.length<16777216 then aa (.nx (p.2.set i (.own (M++[p.1])))) else ab
  | _=>ab
 | _=>ab
abbrev oe:D->D->OD
 |.int i,.int W6=>aa (.int (i+W6))
 |.str a,.str b=>if a.length+b.length<=16777216 then aa (.str (a++b)) else ab
 | _,_=>ab
abbrev iq(i:Nat)(f:Xe)(U:LS):Option Fl:=match U[i]? with
 |some (.im x)=>(f U).bind λp=>(oe x p.1).map λz=>.nx (p.2.set i (.im z))
 | _=>ab
abbrev i8(t:Xt)(F F':MF3)(U:LS):Option Fl:=(t U).bind λp=>if p.1 then F p.2 else F' p.2
variable{f:Xe}
def dw{pos:Pos}(i:Nat)(g:X.N.Nodup)(h:DX c X e f)(hi:X.N[i]?=aa x:=by rfl)(n:Loc X.env.scope x:=by first |exact cF rfl |exact bP rfl)(m:fo e (aa (.Name x bb)) pos.line X.env=pure ag:=by rfl)(l:LcF X x:=by first |exact .inl rfl |exact .inr rfl):
  DS c X (.Assign [.Name x bb] e pos) (cC i f):=PS.imp (mv g hi n h m l) λW5 J H q=>by
 obtain⟨E,H0,Hf,U,o,t,a,k⟩:=q;unfold cC at a
 cases b:f U with
 |none=>rw[b]at a;nomatch a
 |some p=>
  rw[b]at a;cases a;exact⟨E,H0,Hf,U,p.1,p.2,t,b,λv j H' s d r=>k _ j H' s (d.setIm r)⟩
def dX{pos:Pos}(g:DX c X e f):DS c X (.Return (aa e) pos) (c7 f):=PS.imp (rE g) λW5 J H h=>by
 obtain⟨E,H0,Hf,U,o,i,a,k⟩:=h;unfold c7 at a
 cases b:f U with
 |none=>rw[b]at a;nomatch a
 |some p=>
  rw[b]at a;cases a;exact⟨E,H0,Hf,U,p.1,p.2,i,b,λv j H' s d r=>k v J j H' d r⟩
def kL(h:PS X st (pd (tBM X.K "list" zQ (eO i) (j8 (tDX (Gx c X) f) j7)))):DS c X st (gz i f):=PS.imp h λW5 J H y=>by
 obtain⟨E,H0,Hf,U,o,n,a,k⟩:=y;unfold gz at a;split at a
 .rename_i A g
  cases d:f U with
  |none=>rw[d]at a;nomatch a
  |some p=>
   rw[d,aG]at a;split at a
   .rename_i M es;split at a
    .rename_i w;cases a;obtain⟨l,e,B,C,vs0,x,I⟩:=n.ownAt rfl g;refine⟨_,e,.inl ⟨rfl,_,SqL.of x⟩,E,H0,Hf,U,p.1,p.2,n,d,λv j H' s b z=>?_⟩;obtain⟨G,m,t,u,L,q,r⟩:=b.ownAt rfl es;rw[e]at m;cases m;exact⟨l,L,v,rfl,rfl,q,by rw[c6,<- r.length];exact w,k J j _ s (b.mutd rfl rfl es e ⟨L++[v],bL,r.append (.cons z .nil)⟩)⟩
    .grind
   .grind
 .grind
def Hs:PIp X .Add (rD (Gx c X) oe):=λB s J H x y v u Q I j l o=>by
 obtain⟨Hf,dx,f,d,m,g,h,e,k⟩:=o
 exact (by
 cases dx with
 |int i=>
  cases f with
  |int W6=>
   subst g;subst h;cases e
   exact MC B s J H _ _ v u Q I j l ⟨_,_,rfl,rfl,k _ Hf H (Ext.refl m) rfl⟩
  | _=>nomatch e
 |str a=>
  cases f with
  |str b=>
   subst g;subst h;replace e:(if _ then aa _ else ab)=aa d:=e;split at e
   .rename_i n;cases e;exact Nb B s J H _ _ v u Q I j l ⟨_,_,rfl,rfl,by rw[c6];exact n,k _ Hf H (Ext.refl m) rfl⟩
   .grind
  | _=>nomatch e
 | _=>nomatch e)
def og{pos:Pos}(i:Nat)(A:X.N.Nodup)(B:DX c X e f)(hi:X.N[i]?=aa x:=by rfl)(G:Loc X.env.scope x:=by first |exact cF rfl |exact bP rfl)(C:LcF X x:=by first |exact .inl rfl |exact .inr rfl):
  DS c X (.AugAssign (.Name x bb) .Add e pos) (iq i f):=PS.imp (Fq A hi G B (Hs) C) λW5 J H I=>by
 obtain⟨E,H0,Hf,U,o,m,a,k⟩:=I;unfold iq at a;split at a
 .rename_i d es
  cases g:f U with
  |none=>rw[g]at a;nomatch a
  |some p=>
   rw[g,aG]at a
   cases h:oe d p.1 with
   |none=>rw[h]at a;nomatch a
   |some z=>
    rw[h]at a;cases a;obtain⟨v,q,w,t,l⟩:=m.slot es;subst t;exact⟨_,q,E,H0,Hf,U,p.1,p.2,m,g,λu j H' s b r=>⟨j,d,p.1,z,b.sub,l.up s,r,h,λy a0 H2 n L=>k _ a0 H2 (s.trans n.f) ((b.step n).setIm L)⟩⟩
 .nomatch a
variable{as:List Stmt}
def mQ{pos:Pos}{bs:List Stmt}{t:Xt}(h:DTX c X e t)(ha:DSs c X as F)(g:DSs c X bs F'):DS c X (.If e as bs pos) (i8 t F F'):=PS.imp (Fk h ha g) λW5 J H i=>by
 obtain⟨E,H0,Hf,U,o,j,a,k⟩:=i;unfold i8 at a
 cases f:t U with
 |none=>rw[f]at a;nomatch a
 |some x=>
  obtain⟨b,ρ1⟩:=x;rw[f,aG]at a;refine⟨E,H0,Hf,U,b,ρ1,j,f,λal H1 s1 d=>?_⟩
  cases b with
  |true=>rw[if_pos rfl];exact⟨E,H0,al,ρ1,o,d,a,k.up s1⟩
  |false=>rw[if_neg cq];exact⟨E,H0,al,ρ1,o,d,a,k.up s1⟩
abbrev mBX(f:Xe):Xt:=λU=>(f U).bind λp=>match p.1 with
 |.bl b=>aa (b,p.2)
 | _=>ab
abbrev mTX(f:MF4):Xt:=λU=>(f U).map λb=>(b,U)
abbrev oh(f g:Xt):Xt:=λU=>(f U).bind λp=>if p.1 then g p.2 else aa (ag,p.2)
abbrev DWX(c:Str->Addr)(X:Cx)(e:Expr)(f:Xt):Prop:=PW X e (sF (Gx c X) f)
abbrev pW:D->D->OD
 |.str z,.int i=>if 0<=i/\i<2 ^ 63/\i<(z.length:Int) then (z.cps[i.toNat]?).map λch=>.str ⟨#[ch]⟩ else ab
 | _,_=>ab
abbrev f6(x y:D):OD:=match x with
 |.lst ds=>ixD ds y
 |.tup ds=>ixD ds y
 | _=>ab
abbrev kM(f:Xa):Xa:=λU=>(f U).bind λp=>(mE p.1).map λds=>(ds,p.2)
def DT.dtx{f:MF4}(h:DT c X e f):DTX c X e (mTX f):=PT.imp h λJ H Q d=>by
 obtain⟨E,H0,Hf,U,g,ρ',st,a,k⟩:=d;unfold mTX at a
 cases b:f U with
 |none=>rw[b]at a;nomatch a
 |some x=>
  rw[b]at a;cases a;exact⟨E,H0,Hf,U,_,st,b,λj H' x=>k j H' x.f (st.step x)⟩
def mR{pos:Pos}{g:Xe}(B:OpD c X (dP op) m)(ha:DX c X a f)(A:DX c X b g)(hm:nt op b=ag:=by first |exact zH _ |rfl):
  DTX c X (.Compare a [op] [b] pos) (mBX (mX2 m f g)):=PT.imp (Fw B ha A hm) λJ H Q C=>by
 obtain⟨E,H0,Hf,U,N,ρ',st,e,k⟩:=C;unfold mBX at e
 cases j:mX2 m f g U with
 |none=>rw[j]at e;nomatch e
 |some q=>
  obtain⟨d,M⟩:=q;simp only[j,aG]at e;obtain⟨x,y,ρ1,r,s,t⟩:=v6 j
  cases d <;> first |(cases e;done) |skip
  cases e;exact⟨E,H0,Hf,U,x,ρ1,st,r,λv al H1 z l G=>⟨E,H0,al,ρ1,y,_,l,s,λu a0 H2 n h I=>⟨a0,x,y,_,h.sub,G.up n,I,t,λw i p o L=>⟨_,L,k i p ((z.trans n).trans o.f) (h.step o)⟩⟩⟩⟩
variable{f:Xt}
def DWX.dtx(h:DWX c X e f):DTX c X e f:=PW.pt h
def P2{pos:Pos}(h:DTX c X a f):DWX c X (.BoolOp .And [a] pos) f:=Ff h
def P3{pos:Pos}{g:Xt}{bH:LEx}(h:DTX c X a f)(h':DWX c X (.BoolOp .And (b::bH) pos) g):DWX c X (.BoolOp .And (a::b::bH) pos) (oh f g):=PW.imp (Fg h h') λJ H Q m=>by
 obtain⟨E,H0,Hf,U,l,ρ',st,d,k⟩:=m;unfold oh at d
 cases i:f U with
 |none=>rw[i]at d;nomatch d
 |some x=>
  obtain⟨x,ρ1⟩:=x;simp only[i,aG]at d;refine⟨E,H0,Hf,U,x,ρ1,st,i,λal H1 s1 e=>?_⟩
  cases x with
  |true=>rw[if_pos rfl];exact⟨E,H0,al,ρ1,l,ρ',e,d,λa0 H2 s2 j=>k a0 H2 (s1.trans s2) j⟩
  |false=>cases d;rw[if_neg cq];exact k al H1 s1 e
def P4{x:D}(h:pW x y=aa d):∃z i ch,x=.str z/\y=.int i/\0<=i/\i<2 ^ 63/\i<(z.length:Int)/\z.cps[i.toNat]?=aa ch/\d=.str ⟨#[ch]⟩:=by
 unfold pW at h;split at h
 .rename_i z i;split at h
  .rename_i a
   cases e:z.cps[i.toNat]? with
   |none=>rw[e]at h;nomatch h
   |some ch=>rw[e]at h;cases h;exact⟨z,i,ch,rfl,rfl,a.1,a.2.1,a.2.2,e,rfl⟩
  .nomatch h
 .nomatch h
def Ht{pos:Pos}{f g:Xe}(ha:DX c X a f)(w:DX c X b g)(A:Fz b:=by exact λ_ _=>rfl):DX c X (.Subscript a b pos) (mX2 pW f g):=PE.imp (Nd ha w A) λJ H Q B=>by
 obtain⟨E,H0,Hf,U,d,ρ',st,n,k⟩:=B;obtain⟨x,y,ρ1,j,l,m⟩:=v6 n;obtain⟨z,i,ch,rfl,rfl,q,r,s,t,rfl⟩:=P4 m;exact⟨E,H0,Hf,U,_,ρ1,st,j,λv al H1 o e C=>⟨E,H0,al,ρ1,_,ρ',e,l,λu a0 H2 p h G=>⟨z,i,ch,C,G,q,r,s,t,k _ a0 H2 (o.trans p) h rfl⟩⟩⟩
def i9{pos:Pos}{f g:Xe}(ha:DX c X a f)(C:DX c X b g)(G:zO b:=by exact λ_ _=>rfl):DX c X (.Subscript a b pos) (mX2 f6 f g):=PE.imp (FS (FT.or FU) ha C G) λJ H Q I=>by
 obtain⟨E,H0,Hf,U,d,ρ',st,B,k⟩:=I;obtain⟨x,y,ρ1,z,A,h⟩:=v6 B;refine⟨E,H0,Hf,U,x,ρ1,st,z,λv al H1 t s i=>⟨E,H0,al,ρ1,y,ρ',s,A,λu a0 H2 o e w=>?_⟩⟩;have i:=i.up o;unfold f6 at h;split at h
 .rename_i ds
  cases y <;> first |(cases h;done) |skip
  rename_i n;cases (w);obtain⟨l,L,j,q,r⟩:=i;subst j;obtain⟨v,m,p⟩:=Ac h r;exact .inl ⟨l,L,n,v,rfl,rfl,SqL.of (e.sub _ _ q),m,k v a0 H2 (t.trans o) e p⟩
 .rename_i ds
  cases y <;> first |(cases h;done) |skip
  rename_i n;cases (w);obtain⟨l,L,j,q,r⟩:=i;subst j;obtain⟨v,m,p⟩:=Ac h r;exact .inr ⟨l,L,n,v,rfl,rfl,SqT.of (e.sub _ _ q),m,k v a0 H2 (t.trans o) e p⟩
 .nomatch h
def sG{pos:Pos}{f:Xa}(m:Gl X "range")(hm:X.mg "range"=ab)(ha:DAX c X [a] f)(o:bf [a] X.env=[(ag,eval a X.env)]:=by rfl):DXi c X tg (.Call (.Name "range" p) [a] [] pos) (kM f):=
 PI.imp (Fs m hm ha.pa o) λJ H R s=>by
  obtain⟨E,H0,Hf,U,ds,ρ',st,d,k⟩:=s;unfold kM at d
  cases e:f U with
  |none=>rw[e]at d;nomatch d
  |some q=>
   obtain⟨as,ρ1⟩:=q;simp only[e,aG]at d
   cases b:mE as with
   |none=>rw[b]at d;nomatch d
   |some i=>
    rw[b]at d;cases d;have n:=ha.len U as _ e;refine⟨E,H0,Hf,U,as,_,st,e,λL j H' s1 g r=>?_⟩;unfold mE at b;split at b
    .split at b
     .rename_i W6 h;cases b;obtain⟨v,l,t⟩:=r.one;cases (t);exact⟨W6,l,h.1,h.2,k _ j H' s1 g GL⟩
     .nomatch b
    .nomatch n
    .nomatch b
variable{W5:PRS}
def AG{T:Model}{u:Value}{Q:Unit->aL->Prop}(W2:Inv X B J H s)(nd:X.N.Nodup)(I:X.N[i]?=aa x)(M:X.env.scope.names.lookup x=aa .local)(rv:aZ v u)
 (h:∀z,Inv X B (J.set i (aa v)) H z->z.toks=s.toks+1->(∃m,z.heap.Ns X.env.locals m/\m x=aa u)->Q () z):wpAny T A (storeName X.env x u) Q W5 s:=by
 obtain⟨m,mn,ml⟩:=id W2.loc;have calm:(X.env.scope.kind==.class || (X.env.scope.kind==.module && X.env.locals != X.env.globals))=ag:=by rw[W2.ok.kind];rfl
 have below:i<J.length:=by rw[W2.len];exact(dD.mp I).1
 refine wpAny_storeName_local M mn (λg L j=>?_) calm;have a:∀{b:Addr} {o:Obj},X.s₀.heap.get? b=aa o->g.get? b=s.heap.get? b:=λ{b o} e=>j.2 b (cu (f9 (bT e) W2.ok.above))
 have tr:=λb ob e=>by
  refine(W2.hok b ob e).stay (λc E C q=>(j.2 c ?_).trans q) (λ_ q=>q) λ_ _ q=>q;rintro rfl
  rcases C with rfl |C
  .rw[W2.free]at e;nomatch e
  .rw[W2.free]at C;nomatch C
 refine h _ ⟨W2.ok,W2.os,W2.bare,⟨λb o e n G l=>(a e).trans (W2.base.keep b o e n G l),λb o e n G l=>?_,W2.base.free,λb o e l=>?_,W2.base.tups,W2.base.frzs,W2.base.tbls⟩,⟨_,L,λW6 y E r t U=>?_⟩,λy c e=>?_,W2.free,W2.freeC,λp Y=>?_,tr,by simpa using W2.len⟩ rfl ⟨_,L,by simp⟩
 .obtain⟨sl,q⟩:=W2.base.slot b o e n G l;exact⟨sl,(a e).trans q⟩
 .obtain⟨o',q⟩:=W2.base.there b o e l;exact⟨o',(a e).trans q⟩
 .by_cases same:W6=i
  .subst same;rw[I]at r;cases r;rw[jV below]at t;cases t;exact⟨u,rv,.inl ⟨M,by simp⟩⟩
  .rw[iO (cE same)]at t;obtain⟨u',r',q⟩:=ml W6 y E r t U;refine⟨u',r',?_⟩
   rcases q with⟨kd,w⟩ |⟨kd,c,w,z⟩
   .refine .inl ⟨kd,?_⟩;have f:y≠x:=λe=>same (zt nd r (e▸I));simp[f,w]
   .exact .inr ⟨kd,c,w,z.sameBut j (W2.cne y c w)⟩
 .obtain⟨E,z⟩:=W2.cell y c e;exact⟨E,z.sameBut j (W2.cne y c e)⟩
 .obtain⟨e,n,ne,nf,d⟩:=W2.pin p Y;exact⟨(j.2 p.1 ne).trans e,n,ne,nf,d⟩
abbrev sH(ch:Nat):Str:=jt++(" ":Str)++⟨#[ch]⟩++(" ":Str)
abbrev eU(z:Str)(ch:Nat):Str:=Txt.replace z ⟨#[ch]⟩ (sH ch)
abbrev sI(z:Str)(a:LN):Bool:=(cW a.length).all λk=>decide (4*((a.take k).foldl eU z).length+3<=16777216)
nonrec def v9(x y:Str)(c p2 d e f g h i j:Pos)(a b:Nat):Expr:=.Call (.Attribute (.Name x c) "replace" p2) [.Name y d,.JoinedStr [.Constant (.str " ") a e,.FormattedValue (.Name y f) (-1) ab g,.Constant (.str " ") b h] i] [] j
variable{y z:Str}{p1 p3 p4 p5 p6 p7 p8 p9:Pos}{k1 k2:Nat}
def P5{ch:Nat}{u:Tok}{m:MGT}{Q:PRS}(I:Inv X B J H s)(hi:X.N[i]?=aa x)(o:X.env.scope.names.lookup x=aa .local)(C:X.env.scope.names.lookup y=aa .local)
 (hz:J[i]?=aa (aa (.str z)))(hn:s.heap.Ns X.env.locals m)(t:m y=aa (.str ⟨#[ch]⟩ u))(u0:u≠0)(ub:u<s.toks)(sz:4*z.length+3<=16777216)
 (q:∀t' a,s.toks<=a->Q (.str (eU z ch) t') {s with toks:=a})
 (dx:NDb x:=by decide)(r:(y==("__debug__":Str))=ag:=by decide)
 (c:mf (.Name x p1) "replace" X.env (eval (.Name x p1) X.env)=eval (.Name x p1) X.env:=by rfl)
 (f:((d5 p9 (bf [.Name y p3,.JoinedStr [.Constant (.str " ") k1 p4,.FormattedValue (.Name y p5) (-1) ab p6,.Constant (.str " ") k2 p7] p8] X.env)).all (λx=>!x.1) && (j1 p9 (j0 [] X.env)).all (λx=>x.1.isSome)
   && decide (([.Name y p3,.JoinedStr [.Constant (.str " ") k1 p4,.FormattedValue (.Name y p5) (-1) ab p6,.Constant (.str " ") k2 p7] p8]:LEx).length+([]:List j2).length+(if ([]:List j2).isEmpty then 0 else 1)<30))=ac:=by rfl)
 (d:(p2.endLine==p9.line)=ac:=by rfl):wpAny (model X.prog X.w) X.A (eval (v9 x y p1 p2 p3 p4 p5 p6 p7 p8 p9 k1 k2) X.env) Q W5 s:=by
 obtain⟨m',mn,Y⟩:=id I.loc;obtain⟨w,p,l⟩:=Y i x _ hi hz (.inl o);obtain⟨E,rfl⟩:=p
 have U:m' x=aa (.str z E):=by
  rcases l with⟨_,h⟩ |⟨g,_⟩
  .exact h
  .rcases g with g |g <;> (rw[show X.env.kindOf x=aa .local from o]at g;nomatch g)
 refine wpAny_Call_method_late c f d rfl (o6 (q9 I.ok.kind o mn U ?_) dx);refine⟨"str","str.replace",F.plainAttrs_str,F.slot_str_replace,F.type_str_replace,nw _ _ _,(λ_ e=>by nomatch e),?_⟩;refine ze rfl (zf ?_);refine lj (o6 (q9 I.ok.kind C hn t ?_) r);show wpAny _ _ (spliced [(ag,eval _ X.env)]) _ _ s;refine lj ?_
 have lit:∀{w:Str} {kk:Nat} {pp:Pos} {s1:aL} {R:PRS},R _ {s1 with toks:=s1.toks+1}->wpAny (model X.prog X.w) X.A (eval (.Constant (.str w) kk pp) X.env) R W5 s1:=λh=>zg h
 have n:∀a,s.toks<=a->wpAny _ X.A (joinParts (jt++(" ":Str)++⟨#[ch]⟩) [eval (.Constant (.str " ") k2 p7) X.env]) (λv b=>wpAny (model X.prog X.w) X.A (call _ [.str z E,.str ⟨#[ch]⟩ u,v]) Q W5 b) W5 {s with toks:=a}:=λa j=>by
  refine qY (lit ⟨by show 3<=be;decide,?_⟩);refine joinParts_nil ?_ (by show 3<=be;decide)
  refine gr (wpAny_toks_of (uL (uL j)) (SC.replace (Q:=λv s'=>∃t',v=.str _ t'/\∃k,s'={s with toks:=k}) u0 ?_ (cu (uM (f9 ub j))) ?_ ?_ λt2 k=>⟨t2,rfl,k,rfl⟩)) (λv s1 q_=>by obtain⟨T,t',G,k,L⟩:=q_;subst G L;exact q t' k T) λ_ _ e=>e.2
  .show a+1≠0;lia
  .cases e:(_==jt++_++⟨#[ch]⟩++_)with
   |false=>rfl
   |true=>exact absurd (congrArg Str.length (eq_of_beq e)) (by show ¬1=3;decide)
  .show z.length+_*3<=_;lia
 refine JoinedStr_many (qY (lit ⟨by show 1<=be;decide,?_⟩));refine qY (FormattedValue_plain (o6 (q9 I.ok.kind C hn t ?_) r))
 have more:∀a,s.toks<=a->(jt++(" ":Str)++(⟨#[ch]⟩:Str)).length<=be/\wpAny _ X.A _ (λu' b=>wpAny (model X.prog X.w) X.A _ (λus s'=>wpAny _ X.A _ Q W5 s') W5 b) W5 {s with toks:=a}:=λa j=>⟨by show 2<=be;decide,thn (n a j) λv s1 M=>u5 M⟩
 exact wpAny_formatField_str (more _ (qX _)) (more _ (uL (qX _))) (by show 1<=be;decide)
nonrec def Hu(x y g:Str)(d pg c p1 p2 p3 p4 p5 p6 p7 p8 p9 a b:Pos)(k1 k2:Nat):Stmt:=.For (.Name y d) (.Name g pg) [.Assign [.Name x c] (v9 x y p1 p2 p3 p4 p5 p6 p7 p8 p9 k1 k2) a] [] b
variable{W6:Nat}{g gx:Str}{t0:Tok}{py pg px p10 pf:Pos}
def P6{D:lr}(hp:nA (model X.prog X.w) X.A X.env X.xe)(hc:X.calm=ac)(nd:X.N.Nodup)(hi:X.N[i]?=aa x)(hj:X.N[W6]?=aa y)(c:i≠W6)(lx:X.env.scope.names.lookup x=aa .local)(ly:X.env.scope.names.lookup y=aa .local)
 (hg:Gl X g)(hm:X.mg g=aa (.str gx t0))(as:gx.cps.all (· < 128)=ac)(I:Inv X B J H s)(tk:1<=s.toks)(hz:J[i]?=aa (aa (.str z)))(sz:sI z gx.cps.toList=ac)(hj':W6<J.length)(f:Nat)(d:gx.cps.toList.getLast?=aa f)
 (q:D.nx ((J.set i (aa (.str (gx.cps.toList.foldl eU z)))).set W6 (aa (.str ⟨#[f]⟩))) H)
 (dx:NDb x:=by decide)(dy:(y==("__debug__":Str))=ag:=by decide)(dg:(g==("__debug__":Str))=ag:=by decide)
 (j:mf (.Name x p1) "replace" X.env (eval (.Name x p1) X.env)=eval (.Name x p1) X.env:=by rfl)
 (p:((d5 p9 (bf [.Name y p3,.JoinedStr [.Constant (.str " ") k1 p4,.FormattedValue (.Name y p5) (-1) ab p6,.Constant (.str " ") k2 p7] p8] X.env)).all (λx=>!x.1) && (j1 p9 (j0 [] X.env)).all (λx=>x.1.isSome)
   && decide (([.Name y p3,.JoinedStr [.Constant (.str " ") k1 p4,.FormattedValue (.Name y p5) (-1) ab p6,.Constant (.str " ") k2 p7] p8]:LEx).length+([]:List j2).length+(if ([]:List j2).isEmpty then 0 else 1)<30))=ac:=by rfl)
 (l:(p2.endLine==p9.line)=ac:=by rfl)(hsw:fo (v9 x y p1 p2 p3 p4 p5 p6 p7 p8 p9 k1 k2) (aa (.Name x px)) p10.line X.env=pure ag:=by rfl)(hs:∀v,iD (.Name g pg) X.env v=pure v:=by intro _;rfl):
  wpAny (model X.prog X.w) X.A (exec (Hu x y g py pg px p1 p2 p3 p4 p5 p6 p7 p8 p9 p10 pf k1 k2) X.env) (SP X B D) X.xe s:=by
 refine wpAny_For (vb I hg hm (wpAny_pyIter_ascii as ?_) dg) hs;generalize hL:gx.cps.toList=W3 at sz d q;have r:∀k,gx.cps[k]?=W3[k]?:=λk=>by rw[<- hL,uC]
 generalize t:s.heap.objs.size=it
 have I2:Inv X B J H {s with heap:=s.heap.push {cls:=.type "str_ascii_iterator",data:=.fields #[.str gx t0,.int 0 0]}}:=I.kept λb o e=>cj _ e
 have fp:ib X B H it:=by rw[<- t];exact I.fpOk (bh _) (I.hok.fresh (bh _))
 have st2:(s.heap.push {cls:=.type "str_ascii_iterator",data:=.fields #[.str gx t0,.int 0 0]}).IsStrIter it "str_ascii_iterator" gx t0 0:=by rw[<- t];exact⟨_,eW _ rfl,rfl,rfl⟩
 let At:Nat->St:=λk=>match k with
  | 0=>J
  |k+1=>(J.set i (aa (.str ((W3.take (k+1)).foldl eU z)))).set W6 (aa (.str ⟨#[W3.getD k 0]⟩))
 have hAt:∀k,k<=W3.length->(At k)[i]?=aa (aa (.str ((W3.take k).foldl eU z))):=λk u=>by
  cases k with
  |zero=>exact hz
  |succ k=>show _[i]?=_;rw[iO (cE c),jV ((dD.mp hz).1)]
 have hNx:∀k ch,W3[k]?=aa ch->((At k).set W6 (aa (.str ⟨#[ch]⟩))).set i (aa (.str (eU ((W3.take k).foldl eU z) ch)))=At (k+1):=λk ch e=>by
  have G:(W3.take (k+1)).foldl eU z=eU ((W3.take k).foldl eU z) ch:=by rw[qS,e,foldl_append];rfl
  have e2:W3.getD k 0=ch:=by rw[fF,e];rfl
  show _=(J.set i (aa (.str ((W3.take (k+1)).foldl eU z)))).set W6 (aa (.str ⟨#[W3.getD k 0]⟩));rw[G,e2]
  cases k with
  |zero=>exact(set_comm _ _ c).symm
  |succ k=>
   rw[set_set,set_comm _ _ (cE c),set_set]
 refine codeAny_forLoop_any (λn s'=>∃k,k<=W3.length/\n=W3.length-k/\Inv X B (At k) H s'/\s'.heap.IsStrIter it "str_ascii_iterator" gx t0 k/\1<=s'.toks) ?_ W3.length ⟨0,gg _,rfl,I2,st2,tk⟩;rintro n C ⟨k,u,rfl,I3,E,tk3⟩;obtain⟨M,Q,f2,T,U,Y⟩:=fp
 cases e:W3[k]? with
 |none=>
  have hkl:=Nat.le_antisymm u (List.getElem?_eq_none_iff.mp e);refine wpAny_pyNext_ascii_end (I.ok.hd hc) E ((r k).trans e) λh' eb=>?_;refine o3 ⟨_,H,I3.turned (t':=C.toks) (λb o h e=>eb b o h e) M Q T U Y,?_⟩;subst hkl
  cases W3 with
  |nil=>nomatch d
  |cons a W3=>
   show D.nx ((J.set i (aa (.str (((a::W3).take (W3.length+1)).foldl eU z)))).set W6 (aa (.str ⟨#[(a::W3).getD W3.length 0]⟩))) H
   have G:(a::W3).getD W3.length 0=f:=by
    rw[List.getLast?_eq_getElem?]at d;exact(fF).trans (congrArg (λo=>Option.getD o 0) d)
   rw[m9 (by simp),G]
   exact q
 |some ch=>
  refine wpAny_pyNext_ascii_item E ((r k).trans e) λh' dq sb=>?_
  have I4:Inv X B (At k) H {C with heap:=h',toks:=C.toks+1}:=I3.turned (λb o h e=>(sb.2 b h).trans e) M Q T U Y
  obtain⟨o,L,oc,od⟩:=id dq
  refine rF (s:={C with heap:=h',toks:=C.toks+1}) L oc od (by decide) ?_
  refine lg hp (wpAny_assign_Name (AG (I4.pinned (fp:=[it]) (λb h=>by cases bi.mp h;exact⟨M,Q,f2,T,U,Y⟩) (λb h=>by cases bi.mp h;exact⟨o,L,λv z=>by rw[od]at z;nomatch z⟩)) nd hj ly (v:=.str ⟨#[ch]⟩) ⟨_,rfl⟩ λs6 I6 t6 q_=>?_));obtain⟨m,mn,my⟩:=q_;refine lg hp (rf (wpAny_Assign_Name (P5 I6 hi lx ly (z:=(W3.take k).foldl eU z) ?_ mn my (ma tk3) (by rw[t6];exact uM (o0 _)) ((λk u=>of_decide_eq_true (all_eq_true.mp sz k (l7.mpr u))) k (dD.mp e).1) (λt' tk' ht=>?_) dx dy j p l) hsw))
  .rw[iO (cE c)];exact hAt k u
  .refine AG (I6.tok tk') nd hi lx (v:=.str (eU ((W3.take k).foldl eU z) ch)) ⟨_,rfl⟩ λs7 I7 t7 _=>?_;refine o3 ?_;refine⟨W3.length-(k+1),by have:=(dD.mp e).1;lia,k+1,(dD.mp e).1,rfl,?_,?_,?_⟩
   .rw[<- hNx k ch e];exact I7.unpinned
   .exact⟨o,(I7.pin (it,o) (h7 _ (h7 _ (rG (bi.mpr rfl) L)))).1,oc,od⟩
   .rw[t7];exact Nat.le_add_left _ _
abbrev sJ(i W6:Nat)(gx:Str)(f:MF1)(U:LS):Option Fl:=(f U).bind λd=>match d,gx.cps.toList.getLast? with
 |.str z,aa ch=>if sI z gx.cps.toList=ac then aa (.nx ((U.set i (.im (.str (gx.cps.toList.foldl eU z)))).set W6 (.im (.str ⟨#[ch]⟩)))) else ab
 | _,_=>ab
variable{p0 pq:Pos}{f:MF1}
def P7{bH:List Stmt}(i W6:Nat)(hp:nA (model X.prog X.w) X.A X.env X.xe)(hc:X.calm=ac)(nd:X.N.Nodup)(hg:Gl X g)(hm:∃t0,X.mg g=aa (.str gx t0))(he:DE c X e f)(hr:DSs c X bH F)(hi:X.N[i]?=aa x:=by rfl)(Q:X.N[W6]?=aa y:=by rfl)(t:i≠W6:=by decide)(T:X.env.scope.names.lookup x=aa .local:=by rfl)(ly:X.env.scope.names.lookup y=aa .local:=by rfl)
 (as:gx.cps.all (· < 128)=ac:=by decide +kernel)
 (dx:NDb x:=by decide)(dy:(y==("__debug__":Str))=ag:=by decide)(dg:(g==("__debug__":Str))=ag:=by decide)(hw:fo e (aa (.Name x pq)) p0.line X.env=pure ag:=by rfl)
 (b:mf (.Name x p1) "replace" X.env (eval (.Name x p1) X.env)=eval (.Name x p1) X.env:=by rfl)
 (l:((d5 p9 (bf [.Name y p3,.JoinedStr [.Constant (.str " ") k1 p4,.FormattedValue (.Name y p5) (-1) ab p6,.Constant (.str " ") k2 p7] p8] X.env)).all (λx=>!x.1) && (j1 p9 (j0 [] X.env)).all (λx=>x.1.isSome)
   && decide (([.Name y p3,.JoinedStr [.Constant (.str " ") k1 p4,.FormattedValue (.Name y p5) (-1) ab p6,.Constant (.str " ") k2 p7] p8]:LEx).length+([]:List j2).length+(if ([]:List j2).isEmpty then 0 else 1)<30))=ac:=by rfl)
 (h:(p2.endLine==p9.line)=ac:=by rfl)(G:fo (v9 x y p1 p2 p3 p4 p5 p6 p7 p8 p9 k1 k2) (aa (.Name x px)) p10.line X.env=pure ag:=by rfl)(hs:∀v,iD (.Name g pg) X.env v=pure v:=by intro _;rfl):
  DSs c X (.Assign [.Name x pq] e p0::Hu x y g py pg px p1 p2 p3 p4 p5 p6 p7 p8 p9 p10 pf k1 k2::bH) (am (sJ i W6 gx f) F):=by
 intro B s J H W5 I q_;obtain⟨t0,hm⟩:=hm;obtain⟨E,H0,Hf,U,o,Y,a,k⟩:=q_;unfold am sJ at a
 cases p:f U with
 |none=>rw[p]at a;nomatch a
 |some d=>
  rw[p,aG]at a
  cases d <;> first |(cases a;done) |skip
  rename_i z
  cases q:gx.cps.toList.getLast? with
  |none=>rw[q]at a;nomatch a
  |some ch=>
   rw[q]at a;dsimp only at a;split at a
   .rename_i sz;refine rf (wpAny_Assign_Name (thn (he B s J H _ I ⟨E,H0,Hf,U,_,Y,p,λv j H' x r=>(⟨j,r,x.f,Y.step x⟩:∃j,Rep _ j _ v/\aR Hf j/\aM _ E H0 j H' J U)⟩) λu s1 ⟨v,H1,I1,r1,al,rz,sm,L⟩=>?_) hw);cases (rz);refine AG I1 nd hi T r1 λs2 I2 t2 _=>?_;have m:i<J.length:=by rw[I.len];exact(dD.mp hi).1
    have C:W6<(J.set i (aa (V.str z))).length:=by rw[length_set,I.len];exact(dD.mp Q).1
    refine rf (thn (P6 (D:={nx:=λσ' H'=>tDS (Gx c X) F W5 σ' H',rt:=λ_ _=>False,bk:=λ_ _=>False,ct:=λ_ _=>False}) hp hc nd hi Q t T ly hg hm as I2 (by rw[t2];exact Nat.le_add_left _ _) (jV m) sz C ch q ?_ dx dy dg b l h G hs) λfl s3 n=>?_)
    .refine⟨E,H0,al,_,o,?_,a,k.up sm⟩;rw[set_set];exact(L.setIm (d:=.str _) rfl).setIm rfl
    .cases fl with
     |next=>obtain⟨M,H3,I3,q3⟩:=n;exact hr B s3 M H3 W5 I3 q3
     |ret v=>obtain⟨_,_,_,_,_,z⟩:=n;exact z.elim
     |brk=>obtain⟨_,_,_,z⟩:=n;exact z.elim
     |cont=>obtain⟨_,_,_,z⟩:=n;exact z.elim
   .nomatch a
abbrev wa(x y:Str):LSt:=EZ.Str.partsBetween x (E6 x y 0 x.length (x.length+1)) y.length
abbrev lF(x y:D):OD:=match x,y with
 |.str a,.str b=>if b.length≠0/\a.length<=16777216/\(wa a b).length<=16777216 then aa (.lst ((ju a b).map .str)) else ab
 | _,_=>ab
abbrev Hv:V->LVv->Hp->VK->Prop:=λx L H Q=>∃a b,x=.str a/\L=[.str b]/\b.length≠0/\a.length<=be/\(wa a b).length<=be/\∀p,H p=ab->Q (.ref p) (upd H p (.lst ((ju a b).map V.str)))
def Hw:∀(l:List (Str×Tok)),ba ((l.map (·.1)).map V.str) (o9 l)
 | []=>.nil
 |(x,t)::l=>.cons ⟨t,rfl⟩ (Hw l)
def AH{G:Gc}{H:Hp}:∀(l:LSt),aF G H (l.map D.str) (l.map V.str)
 | []=>rfl
 | _::l=>.cons rfl (AH l)
open PySem.Builtin PySem.Builtin.Str in
def Hx:MtR X "str.split" Hv:=by
 rintro B s J H x M v us Q I o n ⟨a,b,rfl,rfl,j,ha,i,q⟩;obtain⟨t,rfl⟩:=o;obtain⟨u,rfl,t',rfl⟩:=n.one;have f:(b.length==0)=ag:=by simpa using j
 have c:∀(l:List (Str×Tok)) (h:Nat),l.map (·.1)=ju a b->(o9 l).length<=be->EP X B J Q (.ref s.heap.objs.size) {s with heap:=s.heap.push {cls:=.type "list",data:=.seq (o9 l).toArray},toks:=h}:=λl h e m=>by
  refine⟨.ref _,_,I.lnew (t':=h) (Hw l) ?_,rfl,?_⟩
  .rw[ay,ay]
   simpa[o9]using m
  .rw[e];exact q _ I.fresh
 cases d:(decide (a.length<b.length) || decide (strKind a<strKind b))
 .cases g:(occurrences a b 0 a.length (a.length+1)).isEmpty
  .refine mi F.slot_str_split (nw _ _ _) zm (zl _ _) (meets_str_split_sep a b t t' d f g ha i) ?_;rw[strsFrom_eq];refine c (numbered s.toks _) _ ((numbered_texts _ _).trans ((if_neg (ne_true_of_eq_false d)).trans (if_neg (ne_true_of_eq_false g))).symm) ?_;have:=congrArg fG (numbered_texts s.toks (partsBetween a (occurrences a b 0 a.length (a.length+1)) b.length));rw[ay]at this;unfold o9;rw[ay,this];exact i
  .exact mi F.slot_str_split (nw _ _ _) zm (zl _ _) (meets_str_split_not_found a b t t' d f g)
    (c [(a,t)] s.toks ((if_neg (ne_true_of_eq_false d)).trans (if_pos g)).symm (by show 1<=be;decide))
 .exact mi F.slot_str_split (nw _ _ _) zm (zl _ _) (meets_str_split_cannot_occur a b t t' d)
   (c [(a,t)] s.toks (if_pos d).symm (by show 1<=be;decide))
def Hy{g:MF1}(h:PE X e (tBM X.K "str" Hv (tD (Gx c X) f) (j8 (tD (Gx c X) g) j7))):DE c X e (m2 lF f g):=PE.imp h λJ H Q t=>by
 obtain⟨E,H0,Hf,U,d,st,q,k⟩:=t;obtain⟨x,y,n,o,i⟩:=pH q;unfold lF at i;split at i
 .rename_i a b;split at i
  .rename_i j;cases i;refine⟨E,H0,Hf,U,_,st,n,λv al H1 l w=>?_⟩;cases (w);exact⟨rfl,E,H0,al,U,_,st.step l,o,λu a0 H2 m z=>⟨a,b,rfl,by rw[show u=V.str b from z],j.1,by rw[c6];exact j.2.1,by rw[c6];exact j.2.2,λp r=>k _ _ _ ((l.trans m).trans (Ext.new m.s r)) ⟨p,_,rfl,bL,AH _⟩⟩⟩
  .nomatch i
 .nomatch i
def wb{pos:Pos}(b:Gl X x)(hm:∃t,X.mg x=aa (.str g t))(hd:NDb x:=by decide):DE c X (.Name x pos) (λ_=>aa (.str g)):=by
 obtain⟨t,hm⟩:=hm
 exact PE.imp (zw b hm (v:=.str g) ⟨t,rfl⟩ hd) λJ H Q e=>by
  obtain⟨E,H0,Hf,U,d,st,a,k⟩:=e;cases a;exact k _ Hf H (Ext.refl st.sub) rfl
abbrev Its(x:Str):It:=⟨λi _=>i<x.length,λi H v H'=>H'=H/\∃ch,x.cps[i]?=aa ch/\v=.str ⟨#[ch]⟩,λi _=>x.length<=i⟩
variable{K:br}
def P8(it:Addr)(x:Str)(t:Tok):mw P w K tg (Its x) [it] it (λi h=>h.IsStrIter it "str_ascii_iterator" x t i) where
 mem:=bi.mpr rfl
 obj:=λi h ⟨o,e,oc,od⟩ b hb=>by
  cases bi.mp hb;exact⟨o,e,λv z=>by rw[od]at z;nomatch z⟩
 keep:=λi h h' ⟨o,e,r⟩ k=>⟨o,k it (bi.mpr rfl) o e,r⟩
 item:=by
  intro X eP ew eK cm i B s J H W5 I hf st hg;obtain⟨f0,f1,f2,f3,f4,f5⟩:=hf it (bi.mpr rfl);have hx:=Array.getElem?_eq_getElem hg;refine wpAny_pyNext_ascii_item st hx λh' dq sb=>?_
  have I1:Inv X B J H {s with heap:=h',toks:=s.toks+1}:=I.turned (λb o hb e=>(sb.2 b hb).trans e) f0 f1 f3 f4 f5
  obtain⟨o,e,oc,od⟩:=id dq;exact⟨_,rfl,rF e oc od (by decide) ⟨.str ⟨#[x.cps[i]]⟩,H,I1,⟨_,rfl⟩,⟨rfl,_,hx,rfl⟩,dq,λb hb=>(hf b hb).1⟩⟩
 done:=by
  intro X eP ew eK cm i B s J H W5 I hf st hg;obtain⟨f0,f1,f2,f3,f4,f5⟩:=hf it (bi.mpr rfl);exact wpAny_pyNext_ascii_end (I.ok.hd cm) st (yR hg) λh' eb=>⟨rfl,I.turned (λb o hb e=>eb b o hb e) f0 f1 f3 f4 f5⟩
 self:=λ_ _ _ _ _ st h=>wpAny_pyIter_striter_ascii st h
abbrev pX(f:MF1)(U:LS):OLD:=(f U).bind λd=>match d with
 |.str x=>if x.cps.all (· < 128)=ac then aa (x.cps.toList.map λch=>.str ⟨#[ch]⟩) else ab
 | _=>ab
def P9:nV G Hf (Its x) (x.cps.toList.map λch=>D.str ⟨#[ch]⟩):=λj H' f s i=>by
 refine⟨λd a=>?_,λb=>?_⟩
 .rw[gf]at a
  cases e:x.cps.toList[i]? with
  |none=>rw[e]at a;nomatch a
  |some ch=>
   rw[e]at a;cases a;have hi:i<x.cps.size:=by simpa using (dD.mp e).1
   refine⟨hi,λv H2 ⟨g,l,c,h⟩=>?_⟩;subst g h;rw[<- uC,e]at c;cases c;exact⟨j,Ext.refl s,rfl⟩
 .rw[ay,uD]at b;exact uO b.symm
def Qa{l:Expr}{tl:TE}(f:PE X l tl):PI X tg l (λJ H R=>tl J H λx H1=>∃z,x=.str z/\z.cps.all (· < 128)=ac/\R (Its z) H1):=by
 intro B s J H R I h;refine thn (f B s J H _ I h) λv s1 g=>?_;obtain⟨x,H1,a,i,z,c,as,q⟩:=g;subst c;obtain⟨t,rfl⟩:=i;refine wpAny_pyIter_ascii as ?_;refine⟨s1.heap.objs.size,_,_,_,H1,rfl,a.kept λb o e=>cj _ e,P8 _ z t,⟨_,eW _ rfl,rfl,rfl⟩,λb d=>?_,q⟩;cases bi.mp d;exact a.fpOk Nat.le.refl (a.hok.fresh Nat.le.refl)
def Qb(h:DE c X e f):DI c X tg e (pX f):=PI.imp (Qa h) λJ H R g=>by
 obtain⟨E,H0,Hf,U,ds,st,a,k⟩:=g;unfold pX at a
 cases b:f U with
 |none=>rw[b]at a;nomatch a
 |some d=>
  rw[b,aG]at a
  cases d <;> first |(cases a;done) |skip
  rename_i x;replace a:(if x.cps.all (· < 128)=ac then aa _ else ab)=aa ds:=a;split at a
  .rename_i as;cases a;exact⟨E,H0,Hf,U,_,st,b,λv al H1 j i=>⟨x,i,as,k _ al H1 j P9⟩⟩
  .nomatch a
abbrev inS(y x:Str):Bool:=!(E6 x y 0 x.length 1).isEmpty
abbrev pY(y x:D):OD:=match y,x with
 |.str y,.str x=>aa (.bl (inS y x))
 | _,_=>ab
def Qc:∀x y d,pY x y=aa d->d.scalar=ac:=λx y d e=>by
 unfold pY at e;split at e
 .cases e;rfl
 .nomatch e
def Qd:OpD c X (dP .In) pY:=by
 rintro B s J H i j v u Q I f g ⟨Hf,x,y,d,h,a,b,e,k⟩;unfold pY at e;split at e
 .rename_i y x;cases e;cases (a);cases (b);obtain⟨t,rfl⟩:=f;obtain⟨t',rfl⟩:=g;exact PyProof.Rows.in_str ⟨.bl _,H,I,rfl,k _ Hf H (Ext.refl h) rfl⟩
 .nomatch e
abbrev Qe:V->Option Int->Option Int->Hp->VK->Prop:=λx lo hi H Q=>∃z,x=.str z/\z.length<=be/\Q (.str (iH z lo hi)) H
def Qf:SlR X Qe:=by
 rintro B s J H x v j m lo hi sl Q I h g pl e ⟨z,rfl,hz,q⟩;obtain⟨t,rfl⟩:=h;refine⟨"str",_,F.slot_str_getitem.lookup,nw _ _ _,?_⟩
 have a:∀t' k,EP X B J Q _ {s with toks:=k}:=λt' k=>⟨.str _,H,I.tok k,⟨t',rfl⟩,q⟩
 obtain⟨o,c,b,hd⟩:=g
 cases pl with
 |none=>
  cases e with
  |none=>exact uQ (l:=ab) (u:=ab) (st:=ab) ⟨o,c,b,hd⟩ rfl (uT ⟨cP (u9 z _ _) hz,a⟩)
  |int i d=>exact uQ (l:=ab) (u:=aa (i,d)) (st:=ab) ⟨o,c,b,hd⟩ rfl (uT ⟨cP (u9 z _ _) hz,a⟩)
 |int W6 f=>
  cases e with
  |none=>exact uQ (l:=aa (W6,f)) (u:=ab) (st:=ab) ⟨o,c,b,hd⟩ rfl (uT ⟨cP (u9 z _ _) hz,a⟩)
  |int i d=>exact uQ (l:=aa (W6,f)) (u:=aa (i,d)) (st:=ab) ⟨o,c,b,hd⟩ rfl (uT ⟨cP (u9 z _ _) hz,a⟩)
abbrev wc(d:D)(lo hi:Option Int):OD:=match d with
 |.str z=>if z.length<=16777216 then aa (.str (iH z lo hi)) else ab
 | _=>ab
def Qg{r:D}(h:wc d lo hi=aa r):∃z,d=.str z/\z.length<=be/\r=.str (iH z lo hi):=by
 unfold wc at h;split at h
 .split at h
  .rename_i hz;cases h;exact⟨_,rfl,by rw[c6];exact hz,rfl⟩
  .nomatch h
 .nomatch h
abbrev oi(f:MF1)(l h:LS->Option (Option Int))(U:LS):OD:=(f U).bind λd=>(l U).bind λlo=>(h U).bind λhi=>wc d lo hi
def AI{pos:Pos}{l h:LS->Option (Option Int)}{lo hi:Option Expr}(ha:DE c X e f)(t:DPt c X lo l)(s:DPt c X hi h):DE c X (.Subscript e (.Slice lo hi ab p2) pos) (oi f l h):=
 PE.imp (zN Qf ha t s) λJ H Q u=>by
  obtain⟨E,H0,Hf,U,r,st,a,k⟩:=u;unfold oi at a
  cases g:f U with
  |none=>rw[g]at a;nomatch a
  |some d=>
   rw[g,aG]at a
   cases i:l U with
   |none=>rw[i]at a;nomatch a
   |some n=>
    rw[i,aG]at a
    cases j:h U with
    |none=>rw[j]at a;nomatch a
    |some m=>
     rw[j,aG]at a;obtain⟨z,rfl,hz,rfl⟩:=Qg a;exact⟨E,H0,Hf,U,_,st,g,λv al H1 o w=>⟨E,H0,al,U,n,st.step o,i,λa0 H2 p=>⟨E,H0,a0,U,m,(st.step o).step p,j,λb q x=>⟨z,w,hz,k _ b q ((o.trans p).trans x) rfl⟩⟩⟩⟩
abbrev Hz:V->LVv->Hp->VK->Prop:=λx L H Q=>∃a b,x=.str a/\L=[.str b]/\Q (.bl (u8 a b)) H
def HA:MtR X "str.startswith" Hz:=by
 rintro B s J H x M v us Q I d c ⟨a,b,rfl,rfl,q⟩;obtain⟨t,rfl⟩:=d;obtain⟨u,rfl,t',rfl⟩:=c.one;exact SC.startswith ⟨.bl _,H,I,rfl,q⟩
abbrev wd(x y:D):OD:=match x,y with
 |.str a,.str b=>aa (.bl (u8 a b))
 | _,_=>ab
def HB{g:MF1}(h:PE X e (tBM X.K "str" Hz (tD (Gx c X) f) (j8 (tD (Gx c X) g) j7))):DE c X e (m2 wd f g):=PE.imp h λJ H Q o=>by
 obtain⟨E,H0,Hf,U,d,st,n,k⟩:=o;obtain⟨x,y,l,m,i⟩:=pH n;unfold wd at i;split at i
 .rename_i a b;cases i;refine⟨E,H0,Hf,U,_,st,l,λv al H1 j p=>?_⟩;cases (p);exact⟨rfl,E,H0,al,U,_,st.step j,m,λu a0 H2 r q=>⟨a,b,rfl,by rw[show u=V.str b from q],k _ a0 H2 (j.trans r) rfl⟩⟩
 .nomatch i
def Qh:gi X (.type "int") (λM H Q=>∃z n,M=[.str z]/\uS z=aa n/\z.length<=640/\Q (.int n) H):=by
 rintro B s J H M us Q I r ⟨z,n,rfl,hn,a,q⟩;obtain⟨_,rfl,t,rfl⟩:=iU r;exact W.KIN.call_text hn a ⟨.int n,H,I.tok _,⟨_,rfl⟩,q⟩
def Qi:h8 "int"=aa (.type "int"):=by decide +kernel
def Qj:h8 "str"=aa (.type "str"):=by decide +kernel
abbrev we(x:D):OD:=match x with
 |.str z=>if z.length<=640 then (uS z).map .int else ab
 | _=>ab
abbrev jM(x:D):OD:=match x with
 |.int i=>if i.natAbs.log2<1920 then aa (.str (lq i)) else ab
 | _=>ab
abbrev HC(K:br)(mg:MGT)(x:Str)(b:LSt):Prop:=∃a o its n,mg x=aa (.ref a)/\K.lookup a=aa o/\o.cls=.type "tuple" /\ o.data=.seq its n/\its.size<=be/\ba (b.map V.str) its.toList
def Qk{pos:Pos}(i:Gl X "int")(hm:X.mg "int"=ab)(ha:DE c X e f)(h:bf [e] X.env=(ag,eval e X.env)::bf [] X.env:=by rfl):DE c X (.Call (.Name "int" p) [e] [] pos) (m1 we f):=PE.imp (pi Qh i hm Qi (bC ha bM h) (by decide) (by decide) h rfl) λJ H Q j=>by
 obtain⟨E,H0,Hf,U,d,st,a,k⟩:=j;unfold m1 at a
 cases b:f U with
 |none=>rw[b]at a;nomatch a
 |some x=>
  rw[b,aG]at a;unfold we at a;split at a
  .rename_i z;split at a
   .rename_i hz
    cases g:uS z with
    |none=>rw[g]at a;nomatch a
    |some n=>
     rw[g]at a;cases a;refine⟨E,H0,Hf,U,_,st,b,λv al H1 m l=>?_⟩;cases (l);exact⟨z,n,rfl,g,hz,k _ al H1 m rfl⟩
   .nomatch a
  .nomatch a
def sK{pos:Pos}(h:Gl X "str")(hm:X.mg "str"=ab)(ha:DE c X e f)(g:bf [e] X.env=(ag,eval e X.env)::bf [] X.env:=by rfl):DE c X (.Call (.Name "str" p) [e] [] pos) (m1 jM f):=PE.imp (pi Nf h hm Qj (bC ha bM g) (by decide) (by decide) g rfl) λJ H Q j=>by
 obtain⟨E,H0,Hf,U,d,st,a,k⟩:=j;unfold m1 at a
 cases b:f U with
 |none=>rw[b]at a;nomatch a
 |some x=>
  rw[b,aG]at a;unfold jM at a;split at a
  .rename_i i;split at a
   .rename_i hz;cases a;refine⟨E,H0,Hf,U,_,st,b,λv al H1 m l=>?_⟩;cases (l);exact⟨i,rfl,hz,k _ al H1 m rfl⟩
   .nomatch a
  .nomatch a
def Ql{pos:Pos}{b:LSt}(f:Gl X x)(hm:HC X.K X.mg x b)(hd:NDb x:=by decide):DE c X (.Name x pos) (λ_=>aa (.kt (b.map D.str))):=by
 obtain⟨a,o,its,n,hm,g,oc,od,hz,L⟩:=hm
 exact PE.imp (zw f hm (v:=.ref a) rfl hd) λJ H Q h=>by
  obtain⟨E,H0,Hf,U,d,st,e,k⟩:=h;cases e;exact k _ Hf H (Ext.refl st.sub) ⟨a,b.map V.str,rfl,.inr ⟨o,its,n,g,oc,od,hz,L⟩,AH b⟩
abbrev oj(G:Gc)(cn:Str)(ns:LSt)(n:Nat)(m:Addr->LD->LD->Option (LD×D)):Sp:=λL H Q _=>∃Hf ds M ys d l dx us c2,L=.ref l::c2/\aR Hf H/\Hf l=ab/\H l=aa (.ins (G.cl cn) dx (ns.zip us))/\ns.length=us.length/\aF G Hf ds c2/\aF G Hf M us/\1+ds.length=n/\m l ds M=aa (ys,d) /\
 ∀v j H' b a,Ext Hf (eC H l) j H'->j l=ab->H' l=aa (.ins (G.cl cn) b (ns.zip a))->ns.length=a.length->aF G j ys a->Rep G j d v->Q v H'
abbrev AJ(N:Nat)(l:Addr)(cn:Str)(ns:LSt)(ds M:LD):LS:=(jD N (.non::ds)).set 0 (.pino l cn ns M)
open Classical in
abbrev ja(l:Addr)(cn:Str)(ns:LSt)(U:LS):OLD:=match (U[0]?:Option Sl)with
 |some (Sl.pino l' c' n' ys)=>if l'=l/\c'=cn/\n'=ns then aa ys else ab
 | _=>ab
variable{ns:LSt}
def HD(h:ja l cn ns U=aa ys):U[0]?=aa (.pino l cn ns ys):=by
 unfold ja at h;split at h
 .rename_i e;split at h
  .rename_i q;obtain⟨rfl,rfl,rfl⟩:=q;cases h;exact e
  .nomatch h
 .nomatch h
def HE(h:U[0]?=aa (.pino l cn ns ys)):ja l cn ns U=aa ys:=by
 unfold ja;rw[h];exact if_pos ⟨rfl,rfl,rfl⟩
abbrev dz(N:Nat)(cn:Str)(ns:LSt)(F:MF3)(l:Addr)(ds M:LD):Option (LD×D):=(F (AJ N l cn ns ds M)).bind λo=>match o with
 |.nx U=>(ja l cn ns U).map λys=>(ys,.non)
 |.rtS d U=>(ja l cn ns U).map λys=>(ys,d)
 | _=>ab
def aM.startMI{dx:Addr}(b:aR Hf H)(a:Hf l=ab)(c:H l=aa (.ins (G.cl cn) dx (ns.zip us)))(hz:ns.length=us.length)(r:aF G Hf ds c2)(e:aF G Hf M us):
  aM G Hf (eC H l) Hf H (L2.start N (.ref l::c2)) (AJ N.length l cn ns ds M):=by
 exact(aM.start (sD b a) (.cons (d:=.non) rfl r)).setOwn (i:=0) rfl (Ext.grow (sD b a) AB) pR a ⟨rfl,dx,us,c,hz,e⟩
variable{f:Addr}
def eE(T:Fun K x qual st f fd)(S:aT N ps (aO st))
 (h:∀(cdv:Value) (A:dQ) (outer:List Env) (s:aL) (H:Hp) (W5:XK),cG k (A.deeper (iC qual (aO st) s.heap.objs.size f cdv))->DSs c (j9 CX0 P w K mg base N qual (aO st) f cdv A outer s H W5).nox (ka st) F)(z:N.length=n_:=by rfl):
  eX P w K mg base CX0 (k+1) f fd ps (oj ⟨K,c⟩ cn ns ps.length (dz n_ cn ns F)):=by
 subst z;refine T.ok S (λL H Q W5 B=>by obtain⟨Hf,ds,M,ys,d,l,dx,us,c2,y,J,C,E,hz,r,I,hn,_⟩:=B;rw[y,bg,<- r.length];lia) λcdv A outer s H L Q W5 hr B=>?_;obtain⟨Hf,ds,M,ys,d,l,dx,us,c2,y,J,C,E,hz,r,I,hn,e,G⟩:=B;refine⟨_,h cdv A outer s H W5 hr,?_⟩;subst y;unfold dz at e
 cases u:F _ with
 |none=>rw[u]at e;nomatch e
 |some o=>
  rw[u,aG]at e;refine⟨Hf,eC H l,Hf,_,o,aM.startMI J C E hz r I,u,?_⟩
  cases o with
  |nx U=>
   replace e:(ja l cn ns U).map _=aa _:=e
   cases b:ja l cn ns U with
   |none=>rw[b]at e;nomatch e
   |some zs=>
    rw[b]at e;cases e;intro σ' j H' _ q;obtain⟨l',Y,h0,g,t,a,p,i,m,n⟩:=q.ownAt rfl (HD b);subst t
    exact G .non j H' a p q.ext g i m n rfl
  |rtS d' U=>
   replace e:(ja l cn ns U).map _=aa _:=e
   cases b:ja l cn ns U with
   |none=>rw[b]at e;nomatch e
   |some zs=>
    rw[b]at e;cases e;intro v σ' j H' q r;obtain⟨l',Y,h0,g,t,a,p,i,m,n⟩:=q.ownAt rfl (HD b);subst t
    exact G v j H' a p q.ext g i m n r
  | _=>nomatch e
abbrev aW(i:Nat)(cn fl:Str)(ns:LSt)(m:Addr->LD->LD->Option (LD×D))(f:Xa):Xe:=λU=>match U[i]? with
 |some (.pino _ c0 n0 _)=>if c0=cn/\n0=ns/\ns.contains fl=ag then (f U).bind λp=>match p.2[i]? with
  |some (.pino l c' n' M)=>if c'=cn/\n'=ns then (m l p.1 M).map λq=>(q.2,p.2.set i (.pino l cn ns q.1)) else ab
  | _=>ab else ab
 | _=>ab
open Classical in
abbrev om(i:Nat)(cn fl:Str)(ns:LSt)(m:Addr->LD->LD->Option (LD×D))(f:Xa):Xe:=λU=>match U[i]? with
 |some (.obj c0 n0 _)=>if c0=cn/\n0=ns/\ns.contains fl=ag then (f U).bind λp=>match p.2[i]? with
  |some (.obj c' n' M)=>if c'=cn/\n'=ns then (if h:∃q,∀l,m l p.1 M=aa q then aa (h.choose.2,p.2.set i (.obj cn ns h.choose.1)) else ab) else ab
  | _=>ab else ab
 | _=>ab
variable{m:Addr->LD->LD->Option (LD×D)}
def HF{fl:Str}{Q:VK}{t:TA}(ht:∀J H Q,v7 (Gx c X) fa J H Q->t J H Q)(hn:∀U ds ρ',fa U=aa (ds,ρ')->1+ds.length=ps.length)(q_:tDX (Gx c X) (aW i cn fl ns m fa) J H Q):vh (c cn) fl (oj (Gx c X) cn ns ps.length m) [] E0 (eO i) t J H Q:=by
 obtain⟨E,H0,Hf,U,d,ρ',st,a,kq⟩:=q_;unfold aW at a;split at a
 .rename_i l0 c0 n0 xs0 u;split at a
  .rename_i x;obtain⟨rfl,rfl,B⟩:=x
   cases g:fa U with
   |none=>rw[g]at a;nomatch a
   |some pp=>
    obtain⟨ds,ρ1⟩:=pp;rw[g,aG]at a;split at a
    .rename_i l c' n' M eo;split at a
     .rename_i y;obtain⟨rfl,rfl⟩:=y
      cases p:m l ds M with
      |none=>rw[p]at a;nomatch a
      |some q=>
       rw[p]at a;cases a;obtain⟨l1,s,_,_,_,dx,us,hu,_,_⟩:=st.ownAt rfl u;refine⟨_,s,l1,dx,n'.zip us,rfl,hu,Ak B,ht _ _ _ ⟨E,H0,Hf,U,ds,ρ1,st,g,λL j H' f1 b r=>?_⟩⟩;rw[cr];obtain⟨l2,e,h02,z,w,n,us2,C,I,T⟩:=b.ownAt rfl eo;subst w;rw[s]at e;cases e;exact⟨j,ds,M,q.1,q.2,l1,n,us2,L,rfl,b.sub,z,C,I,r,T,hn _ _ _ g,p,λv h H3 o us3 x3 A G N Y r3=>kq v h H3 (f1.trans x3.f) (b.back rfl rfl eo s x3 A ⟨rfl,o,us3,G,N,Y⟩) r3⟩
     .nomatch a
    .nomatch a
  .nomatch a
 .nomatch a
def Qm{fl:Str}{Q:VK}{t:TA}(ht:∀J H Q,v7 (Gx c X) fa J H Q->t J H Q)(hn:∀U ds ρ',fa U=aa (ds,ρ')->1+ds.length=ps.length)(q_:tDX (Gx c X) (om i cn fl ns m fa) J H Q):vh (c cn) fl (oj (Gx c X) cn ns ps.length m) [] E0 (eO i) t J H Q:=by
 obtain⟨E,H0,Hf,U,d,ρ',st,a,kq⟩:=q_;unfold om at a;split at a
 .rename_i c0 n0 xs0 p;split at a
  .rename_i s;obtain⟨rfl,rfl,y⟩:=s
   cases g:fa U with
   |none=>rw[g]at a;nomatch a
   |some pp=>
    obtain⟨ds,ρ1⟩:=pp;rw[g,aG]at a;split at a
    .rename_i c' n' M eo;split at a
     .rename_i u;obtain⟨rfl,rfl⟩:=u;split at a
      .rename_i hq;have e2:=hq.choose_spec;generalize hq.choose=q at a e2;cases a;obtain⟨G,o,_,_,dx,us,hu,_,_⟩:=st.ownAt rfl p;refine⟨_,o,G,dx,n'.zip us,rfl,hu,Ak y,ht _ _ _ ⟨E,H0,Hf,U,ds,ρ1,st,g,λL j H' f1 b r=>?_⟩⟩;rw[cr];obtain⟨l2,e,h02,w,l,T,z,B,I⟩:=b.ownAt rfl eo;rw[o]at e;cases e;exact⟨j,ds,M,q.1,q.2,G,l,T,L,rfl,b.sub,w,z,B,r,I,hn _ _ _ g,e2 G,λv h H3 n Y x3 x A C N r3=>kq v h H3 (f1.trans x3.f) (b.back rfl rfl eo o x3 x ⟨n,Y,A,C,N⟩) r3⟩
      .nomatch a
     .nomatch a
    .nomatch a
  .nomatch a
 .nomatch a
variable{apos:Pos}{pl:Sem Bool}
def fj{fl:Str}{pos:Pos}(l:PE X o (eO i))(pk:Pm X.prog X.w X.K X.mg X.base CX0 k (c cn) fl (f,fd) ps (oj (Gx c X) cn ns ps.length m))(g:cG k0 X.A)(ha:DAX c X (e::es) fa)(q:(e::es).length+1=ps.length:=by rfl)(j:StE X e es:=by rfl)(d:BkE X pos es:=by rfl)(n:eval (.Call (.Attribute o fl apos) (e::es) [] pos) X.env=(do
   let ov <- eval o X.env
   jo apos.atName
   let (f,first) <- gb [ov] (nB ov fl pl)
   callWith pos f first (d5 pos (bf (e::es) X.env)) (j1 pos (j0 [] X.env))):=by rfl)(a:k<=k0:=by decide):
  DX c X (.Call (.Attribute o fl apos) (e::es) [] pos) (aW i cn fl ns m fa):=PE.imp (NC l pk.c pk.m pk.ok (g.mono a) pk.b .nil kc ha.pa j d n) λJ H Q p=>HF (λ_ _ _ h=>h) (λU ds ρ' h=>by have:=ha.len U ds ρ' h;lia) p
def bU{fl:Str}{pos:Pos}(l:PE X o (eO i))(pk:Pm X.prog X.w X.K X.mg X.base CX0 k (c cn) fl (f,fd) ps (oj (Gx c X) cn ns ps.length m))(d:cG k0 X.A)(j:1=ps.length:=by rfl)(n:eval (.Call (.Attribute o fl apos) [] [] pos) X.env=(do
   let ov <- eval o X.env
   jo apos.atName
   let (f,first) <- gb [ov] (nB ov fl pl)
   callWith pos f first (d5 pos (bf [] X.env)) (j1 pos (j0 [] X.env))):=by rfl)(a:k<=k0:=by decide):
  DX c X (.Call (.Attribute o fl apos) [] [] pos) (aW i cn fl ns m aq):=PE.imp (FG l pk.c pk.m pk.ok (d.mono a) pk.b .nil kc n) λJ H Q e=>HF (λJ H Q e=>by obtain⟨E,H0,Hf,U,ds,ρ',st,g,k⟩:=e;cases g;exact k [] Hf H (aR.refl _) st rfl) (λU ds ρ' h=>by cases h;exact j) e
def HG{fl:Str}{pos:Pos}(l:PE X o (eO i))(pk:Pm X.prog X.w X.K X.mg X.base CX0 k (c cn) fl (f,fd) ps (oj (Gx c X) cn ns ps.length m))(d:cG k0 X.A)(j:1=ps.length:=by rfl)(n:eval (.Call (.Attribute o fl apos) [] [] pos) X.env=(do
   let ov <- eval o X.env
   jo apos.atName
   let (f,first) <- gb [ov] (nB ov fl pl)
   callWith pos f first (d5 pos (bf [] X.env)) (j1 pos (j0 [] X.env))):=by rfl)(a:k<=k0:=by decide):
  DX c X (.Call (.Attribute o fl apos) [] [] pos) (om i cn fl ns m aq):=PE.imp (FG l pk.c pk.m pk.ok (d.mono a) pk.b .nil kc n) λJ H Q e=>Qm (λJ H Q e=>by obtain⟨E,H0,Hf,U,ds,ρ',st,g,k⟩:=e;cases g;exact k [] Hf H (aR.refl _) st rfl) (λU ds ρ' h=>by cases h;exact j) e
abbrev lG(i:Nat)(cn fl:Str)(U:LS):OD:=match U[i]? with
 |some (.pino _ c' ns M)=>if c'=cn then (ns.zip M).lookup fl else ab
 | _=>ab
def sL{fl:Str}{pos:Pos}(cn:Str)(m:Cls X.K (c cn))(hn:iV X.K (c cn) fl)(n:PE X o (eO i))(j:mf o fl X.env (eval o X.env)=eval o X.env:=by rfl):DE c X (.Attribute o fl pos) (lG i cn fl):=PE.imp (Nr n j) λJ H Q q=>by
 obtain⟨E,H0,Hf,U,d,st,a,k⟩:=q;unfold lG at a;split at a
 .rename_i s e ns M g;split at a
  .rename_i b;subst b;obtain⟨l,f,_,_,_,dx,us,p,_,r⟩:=st.ownAt rfl g;obtain⟨u,h,ru⟩:=Aj a r;exact⟨_,f,l,c e,dx,ns.zip us,u,rfl,p,m,hn,h,k u Hf H (Ext.refl st.sub) ru⟩
  .nomatch a
 .nomatch a
abbrev kO{a:Type}(f:Str)(v:a):LSt->List a->List a
 |n::ns,x::M=>if n=f then v::M else x::kO f v ns M
 | _,M=>M
def HH{a:Type}(f:Str)(v:a):∀(ns:LSt) (M:List a),(kO f v ns M).length=M.length
 | [],_=>rfl
 | _::_,[]=>rfl
 |n::ns,x::M=>by
  unfold kO;split
  .rfl
  .rw[bg,HH f v ns M,bg]
def HI{f:Str}{v:V}:∀{ns:LSt} {us:LVv},ns.length=us.length->ns.contains f=ac->fJ f v (ns.zip us)=ns.zip (kO f v ns us)
 | [],_,_,h=>by cases h
 | _::_,[],hl,_=>by cases hl
 |n::ns,u::us,hl,h=>by
  rw[iP];unfold fJ kO
  by_cases e:n=f
  .rw[if_pos e,if_pos e,iP]
  .rw[if_neg e,if_neg e,iP]
   have a:ns.contains f=ac:=by
    rw[contains_cons,gV]at h
    rcases h with h |h
    .exact absurd (eq_of_beq h).symm e
    .exact h
   rw[HI (by simpa using hl) a]
def HJ{G:Gc}{H:Hp}{f:Str}{d:D}{v:V}(b:Rep G H d v):∀{ns:LSt} {ds:LD} {us:LVv},aF G H ds us->aF G H (kO f d ns ds) (kO f v ns us)
 | [],_,_,r=>by
  exact r
 |n::ns,[],us,r=>by cases (show us=[]from r);exact r
 |n::ns,x::ds,us,r=>by
  obtain⟨u,c,rfl,ru,a⟩:=r;unfold kO
  by_cases e:n=f
  .rw[if_pos e,if_pos e];exact .cons b a
  .rw[if_neg e,if_neg e];exact .cons ru (HJ b a)
abbrev sM(i:Nat)(cn fl:Str)(f:MF1)(U:LS):Option Fl:=match U[i]? with
 |some (.pino l c' ns M)=>if c'=cn/\ns.contains fl=ac/\ns.length<1000 then ((ns.zip M).lookup fl).bind λx=>(f U).bind λy=>(oe x y).map λz=>.nx (U.set i (.pino l cn ns (kO fl z ns M))) else ab
 | _=>ab
def HK{fl:Str}{pos:Pos}{n:MF1}(cn:Str)(T:Cls X.K (c cn))(hn:iV X.K (c cn) fl)(ho:PE X o (eO i))(Y:DE c X e n):DS c X (.AugAssign (.Attribute o fl d6) .Add e pos) (sM i cn fl n):=PS.imp (Nu ho Y (λB s J H x y u v Q I d ry h=>Hs B s J H x y u v Q I d ry h)) λW5 J H q_=>by
 obtain⟨E,H0,Hf,U,o,r,a,k⟩:=q_;unfold sM at a;split at a
 .rename_i l0 G ns M A;split at a
  .rename_i p;obtain⟨rfl,q,hlt⟩:=p
   cases g:(ns.zip M).lookup fl with
   |none=>rw[g]at a;nomatch a
   |some x=>
    rw[g,aG]at a
    cases j:n U with
    |none=>rw[j]at a;nomatch a
    |some y=>
     rw[j,aG]at a
     cases m:oe x y with
     |none=>rw[m]at a;nomatch a
     |some z=>
      rw[m]at a;cases a;obtain⟨l,w,h0,hf,L,dx,us,C,hz,d⟩:=r.ownAt rfl A;subst L;obtain⟨u,N,ru⟩:=Aj g d;refine⟨_,w,l,c G,dx,ns.zip us,u,rfl,C,T,hn,N,E,H0,Hf,U,y,r,j,λv2 al H1 t r1=>⟨al,x,y,z,t.s,ru.up t.f,r1,m,λv3 a0 H2 x2 r2=>?_⟩⟩;have b:=t.trans x2;refine⟨dx,ns.zip us,b.h _ _ C,?_,k J a0 _ b.f ((r.step b).mutd rfl rfl A w ⟨rfl,dx,kO fl v3 ns us,?_,?_,HJ r2 (d.up b.f)⟩)⟩
      .rw[jl];lia
      .rw[bL,HI hz q]
      .rw[HH];exact hz
  .nomatch a
 .nomatch a
def ir:DS c X st (λ_=>ab):=λB s J H W5 I b=>by
 obtain⟨E,H0,Hf,U,o,d,a,k⟩:=b
 nomatch a
abbrev kP(t:Xt)(f g:Xe):Xe:=λU=>(t U).bind λp=>if p.1 then f p.2 else g p.2
abbrev f7(f:Xe):Xt:=λU=>(f U).bind λp=>(nN p.1).map λb=>(b,p.2)
abbrev sN(t:Xt):Xt:=λU=>(t U).map λp=>(!p.1,p.2)
abbrev gL(t:Xt)(F:MF3):Nat->MF3
 | 0,_=>ab
 |n+1,U=>(t U).bind λp=>if p.1 then (F p.2).bind λo=>match o with
   |.nx a=>gL t F n a
   |.ct a=>gL t F n a
   |.bk a=>aa (.nx a)
   |o=>aa o
  else aa (.nx p.2)
abbrev lH(i:Nat)(f:Xe)(U:LS):Option Fl:=(f U).map λp=>.nx (p.2.set i (.own [p.1]))
variable{t:Xt}{f:Xe}
def pZ{pos:Pos}{g:Xe}(m:DTX c X cd t)(ha:DX c X a f)(l:DX c X b g):DX c X (.IfExp cd a b pos) (kP t f g):=PE.imp (zx m ha l) λJ H Q n=>by
 obtain⟨E,H0,Hf,U,d,ρ',o,h,k⟩:=n;unfold kP at h
 cases j:t U with
 |none=>rw[j]at h;nomatch h
 |some x=>
  obtain⟨x,ρ1⟩:=x;rw[j,aG]at h;refine⟨E,H0,Hf,U,x,ρ1,o,j,λal H1 s1 i=>?_⟩
  cases x with
  |true=>rw[if_pos rfl];exact⟨E,H0,al,ρ1,d,ρ',i,h,λv a0 H2 s2 e r=>k v a0 H2 (s1.trans s2) e r⟩
  |false=>rw[if_neg cq];exact⟨E,H0,al,ρ1,d,ρ',i,h,λv a0 H2 s2 e r=>k v a0 H2 (s1.trans s2) e r⟩
def jb(ha:DX c X a f)(l:∀b,isTrue a X.env b=(do let v <- b;jo a.pos;gb [v] (truthy v)):=by intro _;rfl):DTX c X a (f7 f):=PT.imp (Fy ha l) λJ H Q m=>by
 obtain⟨E,H0,Hf,U,o,ρ',n,e,k⟩:=m;unfold f7 at e
 cases h:f U with
 |none=>rw[h]at e;nomatch e
 |some x=>
  obtain⟨d,ρ1⟩:=x;rw[h,aG]at e
  cases i:nN d with
  |none=>rw[i]at e;nomatch e
  |some y=>
   rw[i]at e;cases e;exact⟨E,H0,Hf,U,d,_,n,h,λv j H' s1 g r=>⟨_,Go i (r.up g.sub),k j H' s1 g⟩⟩
def Qn{pos:Pos}(h:DTX c X a t):DTX c X (.UnaryOp .Not a pos) (sN t):=PT.imp (Fh h) λJ H Q f=>by
 obtain⟨E,H0,Hf,U,i,ρ',g,b,k⟩:=f;unfold sN at b
 cases d:t U with
 |none=>rw[d]at b;nomatch b
 |some x=>
  rw[d]at b;cases b;exact⟨E,H0,Hf,U,x.1,x.2,g,d,λj H' s1 e=>k j H' s1 e⟩
def sO{pos:Pos}(n:Nat)(G:nA (model X.prog X.w) X.A X.env X.xe)(C:DTX c X cd t)(B:DSs c X as F):DS c X (.While cd as [] pos) (gL t F n):=PS.imp (ME G C B) λW5 J H I=>by
 obtain⟨E,H0,Hf,U,o,L,y,k⟩:=I;refine⟨λm σ' H'=>∃j ρ',aM _ E H0 j H' σ' ρ'/\aR Hf j/\gL t F m ρ'=aa o,⟨n,Hf,U,L,aR.refl _,y⟩,?_⟩;rintro m σ' H' ⟨j,ρ',s,s1,em⟩
 cases m with
 |zero=>nomatch em
 |succ m=>
  unfold gL at em
  cases r:t ρ' with
  |none=>rw[r]at em;nomatch em
  |some x=>
   obtain⟨x,ρ1⟩:=x;rw[r,aG]at em;refine⟨E,H0,j,ρ',x,ρ1,s,r,λa0 H2 z h=>?_⟩;have l:=s1.trans z
   cases x with
   |false=>
    cases em
    exact k σ' a0 H2 l h
   |true=>
    cases q:F ρ1 with
    |none=>rw[q]at em;nomatch em
    |some v=>
     rw[q]at em;refine⟨λi u=>∃j ρ',aM _ E H0 j u i ρ'/\aR Hf j/\gL t F m ρ'=aa o,λi u w=>⟨m,o0 _,w⟩,E,H0,a0,ρ1,v,h,q,?_⟩
     cases v with
     |nx e=>exact λf a p g b=>⟨a,e,b,l.trans g,em⟩
     |ct e=>exact λf a p g b=>⟨a,e,b,l.trans g,em⟩
     |bk e=>cases em;exact λf a p g b=>k f a p (l.trans g) b
     |rt d=>cases em;exact k
     |rtO d=>cases em;exact k
     |rtS d e=>cases em;exact k
     |rtT o'=>cases em;exact k
def sP{pos:Pos}(i:Nat)(l:X.N.Nodup)(m:DX c X e f)(hi:X.N[i]?=aa x:=by rfl)(u:Loc X.env.scope x:=by first |exact cF rfl |exact bP rfl)(t:fo (.List [e] pos) (aa (.Name x bb)) b5.line X.env=pure ag:=by rfl)(h:bf [e] X.env=(ag,eval e X.env)::bf [] X.env:=by rfl)(n:LcF X x:=by first |exact .inl rfl |exact .inr rfl):
  DS c X (.Assign [.Name x bb] (.List [e] pos) b5) (lH i f):=PS.imp (mv l hi u (rO (bC m bM h)) t n) λW5 J H w=>by
 obtain⟨E,H0,Hf,U,o,y,b,k⟩:=w;unfold lH at b
 cases d:f U with
 |none=>rw[d]at b;nomatch b
 |some p=>
  rw[d]at b;cases b;exact⟨E,H0,Hf,U,p.1,p.2,y,d,λv j H' s a r=>⟨(by rw[c6];show 1<=16777216;decide),λq g=>(k _ j _ s (a.setOwn rfl (Ext.grow a.sub (cJ g)) g (a.sub.free g) ⟨[v],bL,.cons r .nil⟩))⟩⟩
abbrev wf(i:Nat)(cn:Str)(m:LD->Option (LSt×LD))(fa:MF2)(U:LS):Option Fl:=(fa U).bind λas=>(m as).map λr=>.nx (U.set i (.obj cn r.1 r.2))
variable{f:Addr}{fa:MF2}
def Qo{pos:Pos}(i:Nat){m:LD->Option (LSt×LD)}(cn:Str)(hN:X.N.Nodup)(W1:Mk X.K (c cn) f)(F:eX X.prog X.w X.K X.mg X.base CX0 k f fd ps (spI (Gx c X) cn ps.length m))(hr:cG (k+1) X.A)(hg:Gl X x)(hm:X.mg x=aa (.ref (c cn)))(hb:ie X.K fd ps [])(ha:DA c X (e::es) fa)(hi:X.N[i]?=aa z:=by rfl)(hx:Loc X.env.scope z:=by first |exact cF rfl |exact bP rfl)
 (hl:(e::es).length+1=ps.length:=by rfl)(I:NDb x:=by decide)(he:StE X e es:=by rfl)(T:BkE X pos es:=by rfl)
 (hs:fo (.Call (.Name x p) (e::es) [] pos) (aa (.Name z bb)) b5.line X.env=pure ag:=by rfl)(Q:X.fn z=ac\/X.env.scope.names.lookup z=aa .local:=by first |exact .inl rfl |exact .inr rfl):
  DS c X (.Assign [.Name z bb] (.Call (.Name x p) (e::es) [] pos) b5) (wf i cn m fa):=PS.imp (mv hN hi hx (NE W1 F hr hg hm hb .nil kc ha.pa I he T) hs Q) λW5 J H q_=>by
 obtain⟨E,H0,Hf,U,o,st,a,kq⟩:=q_;unfold wf at a
 cases v:fa U with
 |none=>rw[v]at a;nomatch a
 |some as=>
  rw[v,aG]at a
  cases G:m as with
  |none=>rw[G]at a;nomatch a
  |some r=>
   rw[G]at a;cases a;refine⟨E,H0,Hf,U,as,st,v,λL j H' g rv y dx B ndx nex=>?_⟩;rw[cr];have hy:(upd H' dx (.own y)) y=ab:=by rw[bG nex.symm];exact B
   have s1:aR H' (upd H' dx (.own y)):=cJ ndx;have s2:=s1.trans (cJ (o:=.ins (c cn) dx []) hy)
   have s3:aR H' (del _ y):=λb u q=>by
    have:=g6 q B;rw[GR this];exact s2 b u q
   refine⟨y,dx,j,as,L,r,rfl,bL,g.s.free B,g.s.trans s2,rv,by rw[ha.len U as v];exact hl,G,λus a0 H2 C M Y d r2=>⟨rfl,?_⟩⟩;have x3:Ext j H' a0 H2:=⟨C.f,s3.trans C.h,C.s,λl u q t=>C.n l u (s3 l u q) t⟩;exact kq _ a0 H2 (g.trans x3).f (st.setOwn rfl (g.trans x3) (g.h.free B) M ⟨dx,us,Y,d,r2⟩)
def wg:entryFor table "dict.update.loop"=aa fc.«dict.update.loop»:=entryFor_of_tree (by kernel_rfl)
def mS:plainId "dict.update.loop"=ac:=by decide +kernel
def Qp:o7 (.type "list") "keys"=pure ab:=by rw[typeLookup_type,y8];kernel_rfl
abbrev Qq(P:du)(w:World)(h:Heap)(D it:Addr)(items:Array Value)(ps:List (Key×Value)):Prop:=items.size=ps.length/\∀(i:Nat) (p:Key×Value),ps[i]?=aa p->∃t key,items[i]?=aa (.ref t)/\t≠D/\t≠it/\h.IsTuple t #[key,p.2]/\(dF P w).is p.1 key=ac
def Qr(hh:A.handled=ab)(D it l:Addr)(items:Array Value)(ps:List (Key×Value))(g:D≠it)(H:D≠l)(L:it≠l)(nd:(ps.map (·.1)).Nodup)(hz:ps.length<=1000):
  ∀(n i:Nat) (s:aL),i+n=ps.length->Qq prog w s.heap D it items ps->s.heap.IsList l items->s.heap.IsListIter it l i->s.heap.DictOf (dF prog w) D (ps.take i) ->
   (∀h' tk,h'.DictOf (dF prog w) D ps->(∀b o,b≠D->b≠it->s.heap.get? b=aa o->h'.get? b=aa o)->R (.ok (.ret .none)) {s with heap:=h',toks:=tk}) ->
   g3 (model prog w) A (.builtin "dict.update.loop" ⟨[.ref D,.ref it,.int i 0,.none],[]⟩) R s:=by
 intro n
 induction n with
 |zero=>
  intro i s hi pa z h hd k;refine nr wg ?_;rw[uW mS];unfold fc.«dict.update.loop»;dsimp only;have hx:items[i]?=ab:=yR (by rw[pa.1];lia);refine aE (y7 (A:=A.in1) hh h z hx λh' eb=>?_);dsimp only;refine aE (bq (bq ?_));have e:ps.take i=ps:=m9 (by lia);rw[e]at hd;obtain⟨od,es,E,Q,r⟩:=hd
  exact k h' s.toks ⟨od,es,E,eb D od g Q,r⟩ λb o _ m c=>eb b o m c
 |succ n ih=>
  intro i s hi pa z h hd k;refine nr wg ?_;rw[uW mS];unfold fc.«dict.update.loop»;dsimp only;obtain⟨p,B⟩:∃p,ps[i]?=aa p:=⟨_,dE (by lia)⟩;obtain⟨t,key,e1,tD,tit,ht,hk⟩:=pa.2 i p B;refine aE (y6 h z e1 λG U j=>?_);dsimp only
  have u:G.IsTuple t #[key,p.2]:=by
   obtain⟨o,c,r⟩:=ht;exact⟨o,(j.2 t tit).trans c,r⟩
  have J:G.DictOf (dF prog w) D (ps.take i):=by
   obtain⟨od,es,E,Q,r⟩:=hd;exact⟨od,es,E,(j.2 D g).trans Q,r⟩
  refine aE (fH (aE (wpAny_tryCatch ?_)));unfold E2
  refine aE (mh (s:={s with heap:=G}) u.typeIs ?_)
  rw[if_pos (by decide)];obtain⟨o,c,oc,nn,od⟩:=id u;refine aE (rg c od ?_);refine bq ?_;show wpAny _ _ (gb [key,p.2] (dictSet D key p.2)) _ _ _;refine fH (wpAny_dictSet_pairs (kvs:=ps.take i) hk J (λh2 d2 y=>?_) (by rw[iR,c6];lia))
  have f:ps=ps.take i++p::ps.drop (i+1):=by
   have h0:i<ps.length:=by lia
   have:ps[i]=p:=by rw[dE h0]at B;exact cN B
   rw[<- this,<- uJ h0,take_append_drop]
  have T:jq (ps.take i) p.1 p.2=ps.take (i+1):=by
   unfold jq
   have N:((ps.take i).any λC=>decide (C.1=p.1))=ag:=by
    rw[any_eq_false];intro C M hc;rw[f,bF,eL]at nd;have:=(jY.mp nd).2.2 C.1 (bp.mpr ⟨C,M,rfl⟩) p.1 bB;exact this (of_decide_eq_true hc)
   rw[if_neg (by rw[N];exact cq),qS,B];rfl
  rw[T]at d2;have Y:∀b o,b≠D->b≠it->s.heap.get? b=aa o->h2.get? b=aa o:=λb o m d c=>(y.2 b m).trans ((j.2 b d).trans c);refine bq ⟨o4 mS _,?_⟩
  refine ih (i+1) {s with heap:=h2,toks:=s.toks+1} (by lia) ⟨pa.1,λW6 q hq=>?_⟩ ?_ ?_ d2 λh' tk I kp=>k h' tk I λb o m d c=>kp b o m d (Y b o m d c)
  .obtain⟨t',v,f1,f2,f3,⟨o',a,x⟩,f5⟩:=pa.2 W6 q hq;exact⟨t',v,f1,f2,f3,⟨o',Y t' o' f2 f3 a,x⟩,f5⟩
  .obtain⟨o',a,x⟩:=z;exact⟨o',Y l o' (cE H) (cE L) a,x⟩
  .obtain⟨o',a,x⟩:=U;exact⟨o',(y.2 it (cE g)).trans a,x⟩
variable{items:Array Value}
def Qs{Q:Option Value->aL->Prop}(u:A.handled=ab)(v:PlainL s.heap l items)
 (h:∀h' z,(∀b o,s.heap.get? b=aa o->h'.get? b=aa o)->Q ab {s with heap:=h',toks:=z}):wpAny (model prog w) A (getAttr? (.ref l) "keys") Q W5 s:=by
 obtain⟨⟨c,p,n,sl⟩,k,m,j,hd,a⟩:=v;simp only at j a hd;subst j a hd;obtain⟨x,r,q,G,y⟩:=s;have i:∀f,(⟨x,r,q,f,y⟩:aL).TypeIs (.ref l) "list":=λ_=>⟨_,m,rfl⟩;have B:=sub_AttributeError;have C:=zh.lookup;have E:=zh.bind (.ref l);have g:=am_list_getattr_none;unfold getAttr?;unfold getAttrBy?;unfold getAttrBy
 repeat (any_goals (first |assumption |exact i _ |((with_reducible show wpAny _ _ (call (Value.builtin "list.__getattribute__") _ _) _ _ _);refine mi zh (i _) am_entry_list_getattribute (PySem.F.args_list_getattribute_2 _ _) (meets_getattribute_miss_list l items k sl "keys" _ Qp (by decide)) ⟨m,u,λh' f e d=>?_⟩) |wp_step))
 obtain⟨ta,H,t⟩:=d.there
 show wpAny _ _ (uR _ _ _ _ _ _ _) _ _ _;unfold uR;repeat any_goals (first |assumption |wp_step)
 exact h _ _ d.keeps
def Qt{ps:List (Key×Value)}{Q:PRS}(y:A.handled=ab)(z:PlainL s.heap l items)
 (nd:(ps.map (·.1)).Nodup)(hz:ps.length<=1000)(pa:items.size=ps.length/\∀(i:Nat) (p:Key×Value),ps[i]?=aa p->∃t key,items[i]?=aa (.ref t)/\s.heap.IsTuple t #[key,p.2]/\(dF prog w).is p.1 key=ac)
 (h:∀h' q,h'.DictOf (dF prog w) s.heap.objs.size ps->(∀b o,s.heap.get? b=aa o->h'.get? b=aa o)->Q (.ref s.heap.objs.size) {s with heap:=h',toks:=q}):
  wpAny (model prog w) A (call (.type "dict") [.ref l]) Q W5 s:=by
 refine callType_codes (Q₁:=λobj d=>obj=.ref s.heap.objs.size/\d={s with heap:=s.heap.push {cls:=.type "dict",data:=.dict #[]}}) PySem.F.kt_called_dict (Fa _) PySem.F.entry_dict_init (kt_code_dict_new _ ⟨rfl,rfl⟩) ?_
 rintro obj d ⟨rfl,rfl⟩;have a:(s.heap.push {cls:=.type "dict",data:=.dict #[]}).DictOf (dF prog w) s.heap.objs.size []:=zn s.heap;have f:PlainL (s.heap.push {cls:=.type "dict",data:=.dict #[]}) l items:=z.keeps λb o e=>cj _ e;refine⟨a.typeIs,PySem.F.args_dict_init_2 _ _,?_⟩;unfold fc.«dict.__init__»;refine aE ?_;unfold E1;refine aE (y9 a.typeIs ?_);show wpAny _ _ (pure (s.heap.objs.size,[gt l])) _ _ _;refine bq ?_;show wpAny _ _ (uX "dict.__init__" s.heap.objs.size (.ref l) [] .none) _ _ _;unfold uX;refine aE (mh f.isList.typeIs ?_);rw[if_pos (by decide)];refine aE (Qs y f λg u k2=>?_);simp only[Option.isNone_none,if_true];refine aE (o8 ?_);have j:PlainL g l items:=f.keeps k2
 refine aE (o2 (s:={s with heap:=g,toks:=u}) j.isList ?_)
 have up:∀b o,s.heap.get? b=aa o->g.get? b=aa o:=λb o e=>k2 b o (cj _ e);have c:∀{b:Addr} {o:Obj},s.heap.get? b=aa o->b≠s.heap.objs.size/\b≠g.objs.size:=λ{b o} e=>⟨cu (bT e),cu (bT (up b o e))⟩
 have C:s.heap.objs.size≠g.objs.size:=by
  obtain⟨od,es,x,n,r⟩:=a;exact cu (bT (k2 _ _ n))
 obtain⟨J,I,v,L⟩:=id z;refine bq ⟨o4 mS _,?_⟩;refine Qr (A:=A.in1) y s.heap.objs.size g.objs.size l items ps C (cE (c v).1) (cE (c v).2) nd hz ps.length 0 _ (uP _) ⟨pa.1,λi p G=>?_⟩ ?_ ?_ ?_ λh' q hd kp=>?_
 .obtain⟨t,key,B,⟨H,m,rt⟩,E⟩:=pa.2 i p G;exact⟨t,key,B,(c m).1,(c m).2,⟨H,cj _ (up _ _ m),rt⟩,E⟩
 .exact(j.keeps λb o e=>cj _ e).isList
 .exact⟨_,eW _ rfl,rfl,rfl⟩
 .obtain⟨od,es,x,n,r⟩:=a;exact⟨od,es,x,cj _ (k2 _ _ n),r⟩
 .exact⟨rfl,h h' q hd λb o e=>kp b o (c e).1 (c e).2 (cj _ (up b o e))⟩
abbrev iM(K:br)(H:Hp):LVv->List Key->LVv->Prop
 | [],[],[]=>True
 |v::L,k::C,u::us=>(∃t,v=.ref t/\SqT K H t [kV k,u])/\iM K H L C us
 | _,_,_=>False
def iM.len{K:br}{H:Hp}:∀{L:LVv} {C:List Key} {us:LVv},iM K H L C us->L.length=C.length/\us.length=C.length
 | [],[],[],_=>⟨rfl,rfl⟩
 | _::_,_::_,_::_,h=>by
  obtain⟨a,b⟩:=iM.len h.2
  exact⟨by rw[bg,bg,a],by rw[bg,bg,b]⟩
 | [],[],_::_,h=>h.elim
 | [],_::_,_,h=>h.elim
 | _::_,[],_,h=>h.elim
 | _::_,_::_,[],h=>h.elim
def Qu{a:Addr}{M:LVv}(s:aR H H')(h:SqT K H a M):SqT K H' a M:=by
 rcases h with h |h
 .refine .inl ?_
  rcases h with h |⟨od,h⟩
  .exact .inl (s _ _ h)
  .exact .inr ⟨od,s _ _ h⟩
 .exact .inr h
def iM.up{K:br}{H H':Hp}(s:aR H H'):∀{L:LVv} {C:List Key} {us:LVv},iM K H L C us->iM K H' L C us
 | [],[],[],_=>trivial
 | _::_,_::_,_::_,⟨⟨t,e,q⟩,h⟩=>⟨⟨t,e,Qu s q⟩,iM.up s h⟩
 | [],[],_::_,h=>h.elim
 | [],_::_,_,h=>h.elim
 | _::_,[],_,h=>h.elim
 | _::_,_::_,[],h=>h.elim
def iM.at{X:Cx}{B:PNS}{J:St}{H:Hp}{s:aL}(I:Inv X B J H s):∀{L:LVv} {C:List Key} {us:LVv} {ws:LVa},iM X.K H L C us->ba L ws ->
  ∃ps:List (Key×Value),ps.map (·.1)=C/\KV (C.zip us) ps/\ws.length=ps.length/\∀(i:Nat) (p:Key×Value),ps[i]?=aa p->∃t key,ws[i]?=aa (.ref t)/\s.heap.IsTuple t #[key,p.2]/\(dF X.prog X.w).is p.1 key=ac
 | [],[],[],ws,_,r=>by
  cases r
  exact⟨[],rfl,.nil,rfl,λi p h=>by simp at h⟩
 |v::L,k::C,u::us,ws,h,r=>by
  cases r with
  |cons f g=>
   rename_i n o;obtain⟨⟨t,rfl,l⟩,e⟩:=h;obtain⟨ps,p1,p2,p3,p4⟩:=iM.at I e g;obtain⟨its,j,m,_⟩:=I.tuple l;obtain⟨key,val,rfl,d,a⟩:=j.two;cases (show n=gt t from f);refine⟨(k,val)::ps,by rw[eL,p1],.cons ⟨rfl,a⟩ p2,by rw[bg,bg,p3],λi p c=>?_⟩
   cases i with
   |zero=>
    cases c;refine⟨t,key,rfl,m,?_⟩
    cases k with
    |inl i=>obtain⟨b,rfl⟩:=d;exact Fc _ _ i b
    |inr x=>obtain⟨b,rfl⟩:=d;exact Fd _ _ x b
   |succ i=>exact p4 i p c
 | [],[],_::_,_,h,_=>h.elim
 | [],_::_,_,_,h,_=>h.elim
 | _::_,[],_,_,h,_=>h.elim
 | _::_,_::_,[],_,h,_=>h.elim
def Qv(b:X.calm=ac):gi X (.type "dict") (λM H Q=>∃a L C us,M=[.ref a]/\SqL X.K H a L/\iM X.K H L C us/\C.Nodup/\C.length<=1000/\∀p,H p=ab->Q (.ref p) (upd H p (.dK (C.zip us)))):=by
 rintro B s J H M ws Q I r ⟨a,L,C,us,rfl,h,pv,nd,l,q⟩;obtain⟨_,rfl,f⟩:=iU r;cases f;obtain⟨its,g,pl,hz⟩:=I.list h;obtain⟨ps,p1,p2,p3,p4⟩:=pv.at I g;have c:ps.length=C.length:=by rw[<- p1,ay]
 refine Qt (I.ok.hd b) pl (by rw[p1];exact nd) (by lia) ⟨by rw[size_toArray];exact p3,λi p d=>by obtain⟨t,key,e,r⟩:=p4 i p d;exact⟨t,key,by rw[uH];exact e,r⟩⟩ λh' j hd kp=>?_;refine⟨.ref _,_,I.laid (t':=j) kp (bh _) (o:=.dK (C.zip us)) ⟨?_,?_,ps,p2,hd⟩,rfl,q _ I.fresh⟩
 .rw[jl,c6];lia
 .exact beq_eq_false_iff_ne.mpr (cE (cu I.big))
def AK:h8 "dict"=aa (.type "dict"):=by decide +kernel
abbrev lI:LD->Option (List Key×LD)
 | []=>aa ([],[])
 |.tup [x,y]::ds=>(kC x).bind λk=>(lI ds).map λr=>(k::r.1,y::r.2)
 | _=>ab
def HL{G:Gc}{H:Hp}:∀{ds:LD} {L:LVv} {r:List Key×LD},lI ds=aa r->aF G H ds L->∃us,iM G.K H L r.1 us/\aF G H r.2 us
 | [],L,r,e,rs=>by
  cases e;cases (show L=[]from rs)
  exact⟨[],trivial,rfl⟩
 |d::ds,L,r,e,rs=>by
  obtain⟨v,vr,rfl,u,s⟩:=rs;unfold lI at e;split at e
  .rename_i h;cases h
  .rename_i x y j h;cases h
   cases c:kC x with
   |none=>rw[c]at e;cases e
   |some k=>
    rw[c,aG]at e
    cases f:lI ds with
    |none=>rw[f]at e;cases e
    |some q=>
     rw[f]at e;cases e;obtain⟨us,l,m⟩:=HL f s;obtain⟨t,ws,rfl,i,g⟩:=u;obtain⟨a,_,rfl,n,b,_,rfl,o,p⟩:=g;cases (show _=[]from p);rw[sA c n]at i;exact⟨b::us,⟨⟨t,rfl,SqT.of i⟩,l⟩,.cons o m⟩
  .cases e
abbrev wj(i:Nat)(f:MF1)(U:LS):Option Fl:=(f U).bind λd=>(lsD d).bind λds=>(lI ds).bind λr=>if r.1.Nodup/\r.1.length<=1000 then aa (.nx (U.set i (.ownd r.1 r.2))) else ab
def Qw{pos:Pos}(i:Nat){f:MF1}(B:X.calm=ac)(A:X.N.Nodup)(I:Gl X "dict")(hm:X.mg "dict"=ab)(C:DE c X e f)(hi:X.N[i]?=aa x:=by rfl)(Q:Loc X.env.scope x:=by first |exact cF rfl |exact bP rfl)(m:bf [e] X.env=(ag,eval e X.env)::bf [] X.env:=by rfl)
 (M:fo (.Call (.Name "dict" p) [e] [] pos) (aa (.Name x bb)) b5.line X.env=pure ag:=by rfl)(G:LcF X x:=by first |exact .inl rfl |exact .inr rfl):
  DS c X (.Assign [.Name x bb] (.Call (.Name "dict" p) [e] [] pos) b5) (wj i f):=PS.imp (mv A hi Q (pi (Qv B) I hm AK (bC C bM m) (by decide) (by decide) m rfl) M G) λW5 J H T=>by
 obtain⟨E,H0,Hf,U,o,z,b,k⟩:=T;unfold wj at b
 cases t:f U with
 |none=>rw[t]at b;cases b
 |some d=>
  rw[t,aG]at b
  cases u:lsD d with
  |none=>rw[u]at b;cases b
  |some ds=>
   rw[u,aG]at b
   cases w:lI ds with
   |none=>rw[w]at b;cases b
   |some r=>
    rw[w,aG]at b;split at b
    .rename_i g;cases b;refine⟨E,H0,Hf,U,d,z,t,λv j H' n Y=>?_⟩;obtain⟨a,L,rfl,sq,rs⟩:=i0 u Y;obtain⟨us,pv,ru⟩:=HL w rs;refine⟨a,L,r.1,us,rfl,n.s.seq sq,pv.up n.s,g.1,g.2,λq y=>?_⟩;have h:=z.step n;exact k _ j _ n.f (h.setOwn (i:=i) (l:=q) (s:=.ownd r.1 r.2) rfl (Ext.grow h.sub (cJ y)) y (h.sub.free y) ⟨us,bL,pv.len.2.symm,ru⟩)
    .cases b
variable{t:Nat}
def HM{s:Sl}(b:js[t]?=aa W6)(a:U[W6]?=aa s):(df k js U)[k+t]?=aa s:=by
 unfold df;rw[l5 (by rw[nc];exact y0 _ _),nc,Nat.add_sub_cancel_left,gf,b];show aa ((U[W6]?).getD .no)=_;rw[a];rfl
variable{jp:Nat}
def aM.compP(k:Nat)(h:aM G E H0 Hf H J U)(t:js.Nodup)(g:U[jp]?=aa (.pin l M))(p:∀W6∈js,W6=jp\/((U[W6]?).getD .no).calm=ac):
  aM G Hf (eC H l) Hf H (ig k js J) (df k js U):=by
 obtain⟨z,u,x,r,m,us,y,B⟩:=h.ownAt rfl g;subst m;have st:=h.comp k t;refine st.re (Ext.grow (sD h.sub r) AB) rfl (λi v s a b=>?_) λi s v a b c d=>⟨s,b,d⟩;have q:=st.at' i v s a b
 rcases mF b with⟨_,e⟩ |⟨_,b⟩
 .subst e;trivial
 .obtain⟨W6,o,es⟩:=mG b
  rcases p W6 (qQ o)with e |e
  .subst e;rw[g]at es;subst es;obtain⟨A,j,_,f,n,w⟩:=q;subst n;exact⟨_,j,pR,f,rfl,w⟩
  .rw[<- es]at e
   cases s with
   |no=>trivial
   |im d=>exact q
   | _=>nomatch e
section
variable(k:Nat)(js:LN)(jp t:Nat)(g:D->LS->Option LS)(fe:Xe)(U:LS)(l:Addr)
open Classical in
abbrev lJ(d:D)(M:LD):Option (D×LD):=(g d (df k js (U.set jp (.pin l M)))).bind λρ1=>(fe ρ1).bind λq=>match q.2[k+t]? with
 |some (.pin _ b4)=>if ∀i,k<=i->q.2[i]?=(df k js (U.set jp (.pin l b4)))[i]? then aa (q.1,b4) else ab
 | _=>ab
abbrev hJ:LD->LD->Option (LD×LD)
 | [],M=>aa ([],M)
 |d::ds,M=>(lJ k js jp t g fe U l d M).bind λy=>(hJ ds y.2).map λr=>(y.1::r.1,r.2)
end
abbrev kQ(k:Nat)(js:LN)(jp t:Nat)(fi:Xa)(g:D->LS->Option LS)(fe:Xe):Xe:=λU=>(fi U).bind λp=>match p.2[jp]? with
 |some (.pin l M)=>if p.1.length<=16777216/\js[t]?=aa jp/\(js.all λW6=>W6==jp || ((p.2[W6]?).getD .no).calm)=ac then (hJ k js jp t g fe p.2 l p.1 M).map λq=>(.lst q.1,p.2.set jp (.pin l q.2)) else ab
 | _=>ab
variable{g:D->LS->Option LS}{fe:Xe}{b4:LD}
def Qx{y:D}(h:lJ k js jp t g fe U l d M=aa (y,b4)):∃ρ1 a,g d (df k js (U.set jp (.pin l M)))=aa ρ1/\fe ρ1=aa (y,a)/\(∃c,a[k+t]?=aa (.pin c b4))/\∀i,k<=i->a[i]?=(df k js (U.set jp (.pin l b4)))[i]?:=by
 unfold lJ at h
 cases e:g d _ with
 |none=>rw[e]at h;nomatch h
 |some ρ1=>
  rw[e,aG]at h
  cases b:fe ρ1 with
  |none=>rw[b]at h;nomatch h
  |some q=>
   rw[b,aG]at h;split at h
   .rename_i c j f;split at h
    .rename_i hi;cases h;exact⟨ρ1,q.2,rfl,b,⟨c,f⟩,hi⟩
    .nomatch h
   .nomatch h
def Qy(h:hJ k js jp t g fe U l (d::ds) M=aa (rs,ys)):∃y b4 r,lJ k js jp t g fe U l d M=aa (y,b4)/\hJ k js jp t g fe U l ds b4=aa (r,ys)/\rs=y::r:=by
 unfold hJ at h
 cases b:lJ k js jp t g fe U l d M with
 |none=>rw[b]at h;nomatch h
 |some y=>
  rw[b,aG]at h
  cases a:hJ k js jp t g fe U l ds y.2 with
  |none=>rw[a]at h;nomatch h
  |some r=>rw[a]at h;cases h;exact⟨y.1,y.2,r.1,rfl,a,rfl⟩
def wk{s:Sl}(h:U[jp]?=aa s):(U.set jp s')[jp]?=aa s':=jV (dD.mp h).1
variable{fi:Xa}
def HN(hj:js.Nodup)(hk:∀d U ρ' i,g d U=aa ρ'->k<=i->ρ'[i]?=U[i]?)(I:∀d U ρ',g d U=aa ρ'->ρ'.length=U.length){Q:VK}(h:tDX G (kQ k js jp t fi g fe) J H Q):
  pz k js (vW G fi) (tDG G g) (tDT G λ_=>aa ac) (tDX G fe) J H Q:=by
 obtain⟨E,H0,Hf,ρ0,d0,ρ',st,b,kq⟩:=h;unfold kQ at b
 cases e1:fi ρ0 with
 |none=>rw[e1]at b;nomatch b
 |some p=>
  obtain⟨ds,U⟩:=p;rw[e1,aG]at b;dsimp only at b;split at b
  .rename_i l M B;split at b
   .rename_i hz;obtain⟨hz,ht,hcm⟩:=hz
    cases e2:hJ k js jp t g fe U l ds M with
    |none=>rw[e2]at b;nomatch b
    |some q=>
     obtain⟨rs,zs⟩:=q;rw[e2]at b;cases b;refine⟨E,H0,Hf,ρ0,ds,U,st,e1,λW2 al H1 f1 z it=>?_⟩
     have C:=λW6 r=>by
      have:=all_eq_true.mp hcm W6 r;rw[gV]at this;exact this.imp beq_iff_eq.mp id
     have n:U.set jp (.pin l M)=U:=by
      apply oW;intro i
      by_cases hi:jp=i
      .subst hi;rw[wk B,B]
      .rw[iO hi]
     have st0:aM G al (eC H1 l) al H1 (ig k js J) (df k js (U.set jp (.pin l M))):=by rw[n];exact z.compP k hj B C
     obtain⟨u,el9,_,hf9,e9,_⟩:=z.ownAt rfl B;subst e9
     refine⟨λi m ys σ' H'=>m=ds.length-i/\i<=ds.length/\∃j as b4 bH,aM G al _ j H' σ' (df k js (U.set jp (.pin u b4)))/\aF G j as ys/\hJ k js jp t g fe U u (ds.drop i) b4=aa (bH,zs)/\rs=as++bH/\as.length<=i,
      ⟨ds.length,rfl,gg _,al,[],M,rs,st0,rfl,e2,rfl,bh _⟩,?_⟩
     rintro i m ys σ' H' ⟨rfl,hi,j,as,b4,bH,a,ra,ec,er,hal⟩;have N:ys.length<=be:=by rw[c6,<- ra.length];lia
     obtain⟨it1,it2⟩:=it j H' a.ext.f a.sub i
     by_cases L:i<ds.length
     .obtain⟨d,ed,edr⟩:=sk L;obtain⟨go,yl⟩:=it1 d ed
      refine .inr ⟨go,N,λys' σ2 H2=>ds.length-_=ds.length-_/\i+1<=ds.length/\∃j as b4 bH,aM G al _ j H2 σ2 _/\aF G j as ys'/\hJ k js jp t g fe U u _ b4=aa _/\rs=as++bH/\as.length<=i+1,
       λys' σ2 H2 w=>⟨ds.length-(i+1),by lia,w⟩,λx H2 y=>?_⟩
      obtain⟨a0,x3,rx⟩:=yl x H2 y;rw[edr]at ec;obtain⟨y',Y,r',et,ec',c⟩:=Qy ec;obtain⟨ρ1,ci,eg,ee,⟨l',ex⟩,hag⟩:=Qx et;refine⟨al,eC H1 u,a0,_,d,ρ1,a.step x3,rx,eg,λσ3 A=>⟨al,eC H1 u,a0,ρ1,ac,A,rfl,λHf4 H4 x4=>F3 ⟨al,eC H1 u,Hf4,ρ1,y',ci,A.step x4,ee,λv Hf5 H5 f5 T r5=>?_⟩⟩⟩
      have hl2:(df k js (U.set jp (.pin u Y))).length=ci.length:=by
       rw[<- T.len,A.len,I _ _ _ eg];unfold df;rw[aI,aI,ay,ay]
      refine⟨rfl,L,Hf5,as++[y'],Y,r',T.weak hl2 λW6 s hs=>?_,(ra.up ((x3.f.trans x4.f).trans f5)).append (.cons r5 .nil),ec',by rw[er,c,cL];rfl,by rw[aI,e7];lia⟩
      rcases mF hs with⟨_,e⟩ |⟨r,_⟩
      .exact .inl e
      .exact .inr (by rw[hag W6 r];exact hs)
     .have ei:i=ds.length:=by lia
      subst ei;refine .inl ⟨it2 rfl,N,λD h1 h2=>?_⟩;rw[qP (bh _)]at ec;cases ec;rw[cr]at er;subst er;obtain⟨l3,el3,h03,hf3,e3,us3,hu3,rx3⟩:=a.ownAt rfl (HM ht (wk B));subst e3;have xn:=Ext.new (o:=.lst ys) a.sub h2;exact kq _ _ _ (f1.trans (a.ext.f.trans xn.f)) ((z.back (s':=.pin l3 zs) rfl rfl B el9 a.ext hf3 ⟨rfl,us3,hu3,rx3⟩).step xn) ⟨D,ys,rfl,bL,ra.up xn.f⟩
   .nomatch b
  .nomatch b
def Qz{pos:Pos}(k:Nat)(js:LN)(jp t:Nat)(Nc:LSt)(d:X.calm=ac)(hi:DXi c X tg iter fi)(a:∀cl W4 ex a8 a9,DG c (X.comp scope Nc cl W4 ex a8 a9) tg k g)
 (e:∀cl W4 ex a8 a9,DX c (X.comp scope Nc cl W4 ex a8 a9) b7 fe)(b:kf scope X.env.scope.names X.N Nc k js=ac:=by rfl)(i:∀x,iD iter X.env x=pure x:=by intro _;rfl)(f:js.Nodup:=by decide):
  DX c X (.ListComp b7 [⟨tg,iter,[],0⟩] scope pos) (kQ k js jp t fi g fe):=
 PE.imp (Gh (tt:=tDT (Gx c X) λ_=>aa ac) (te:=tDX (Gx c X) fe) k js Nc d hi (λcl W4 ex a8 a9=>(a cl W4 ex a8 a9).pg) (λcl W4 ex a8 a9=>dh) e b i) λJ H Q h=>
  HN f (a [] 0 [] X.s₀ X.H₀).keep (a [] 0 [] X.s₀ X.H₀).len h
abbrev wl:LD->OD
 | [.int a]=>aa (.int (if a<0 then -a else a))
 | _=>ab
abbrev iu:LD->Option LSt
 | []=>aa []
 |.str x::ds=>(iu ds).map (x::·)
 | _=>ab
def AL:∀{ds:LD} {a:LSt},iu ds=aa a->ds=a.map D.str
 | [],a,h=>by cases h;rfl
 |d::ds,a,h=>by
  cases d with
  |str x=>
   have h:(iu ds).map _=aa a:=h
   cases e:iu ds with
   |none=>rw[e]at h;cases h
   |some ys=>rw[e]at h;cases h;rw[AL e];rfl
  | _=>cases h
def AM:∀a:LSt,iu (a.map D.str)=aa a
 | []=>rfl
 |z::a=>by
  show(iu _).map _=_;rw[AM a];rfl
abbrev hU(x y:D):OD:=match x with
 |.str a=>(lsD y).bind λds=>(iu ds).bind λb=>if uU a b=ac then aa (.str (u7 a b)) else ab
 | _=>ab
def HP{G:Gc}{H:Hp}:∀(a:LSt) (L:LVv),aF G H (a.map D.str) L->L=a.map V.str
 | [],_,h=>h
 |z::a,_,⟨v,r,e,h1,h2⟩=>by rw[e,HP a r h2,show v=V.str z from h1];rfl
def AN{pos:Pos}{m:LD->OD}{f:Xa}{id:String}(s:nU c X (.builtin id) m)(u:Gl X x)(hm:X.mg x=ab)(w:h8 x=aa (.builtin id))(ha:DAX c X (e::es) f)(hn:x ≠ "__name__":=by decide)(i:NDb x:=by decide)
 (t:StE X e es:=by rfl)(l:BkE X pos es:=by rfl):
  DX c X (.Call (.Name x p) (e::es) [] pos) (ip m f):=PE.imp (vi s u hm w ha.pa hn i t l) λJ H Q A=>by
 obtain⟨E,H0,Hf,U,d,ρ',st,a,y⟩:=A;unfold ip at a
 cases g:f U with
 |none=>rw[g]at a;nomatch a
 |some q=>
  obtain⟨ds,ρ1⟩:=q;rw[g,aG]at a
  cases h:m ds with
  |none=>rw[h]at a;nomatch a
  |some z=>
   rw[h]at a;cases a;exact⟨E,H0,Hf,U,ds,_,st,g,λL j H' o b r=>⟨j,ds,_,b.sub,r,h,λv a0 H2 n B=>y v a0 H2 (o.trans n.f) (b.step n) B⟩⟩
def QA:nU c X (.builtin "abs") wl:=by
 rintro B s J H L us Q I i ⟨Hf,ds,d,j,r,e,k⟩;unfold wl at e;split at e
 .rename_i a;cases e;obtain⟨m,c2,rfl,b,f⟩:=r;cases (f);cases (b)
  cases i with
  |cons g h=>
   cases h;obtain⟨t,rfl⟩:=g;exact call_abs_int λu l=>⟨.int _,H,I.tok l,⟨u,rfl⟩,k _ Hf H (Ext.refl j) rfl⟩
 .nomatch e
abbrev HQ(K:br):V->LVv->Hp->VK->Prop:=λx L H Q=>∃a l b,x=.str a/\L=[.ref l]/\SqL K H l (b.map V.str)/\uU a b=ac/\Q (.str (u7 a b)) H
def HR:∀(c:LSt) (its:LVa),ba (c.map V.str) its->∃l:List (Str×Tok),its=o9 l/\l.map (·.1)=c
 | [],_,r=>by cases r;exact⟨[],rfl,rfl⟩
 |z::c,_,r=>by
  cases r with
  |cons a b=>
   obtain⟨t,rfl⟩:=a;obtain⟨l,d,e⟩:=HR c _ b;exact⟨(z,t)::l,by rw[d];rfl,by rw[eL,e]⟩
def lK:MtR X "str.join" (HQ X.K):=by
 rintro B s J H x M v us Q I g f ⟨a,l,h,rfl,rfl,d,c,q⟩;obtain⟨t,rfl⟩:=g;obtain⟨u,rfl,ru⟩:=f.one;subst ru;obtain⟨its,e,pl,_⟩:=I.list d;obtain⟨i,rfl,b⟩:=HR h its e;exact SC.join pl.isList b c λt' k=>⟨.str _,H,I.tok k,⟨t',rfl⟩,q⟩
def lL{f g:MF1}(h:PE X e (tBM X.K "str" (HQ X.K) (tD (Gx c X) f) (j8 (tD (Gx c X) g) j7))):DE c X e (m2 hU f g):=PE.imp h λJ H Q A=>by
 obtain⟨E,H0,Hf,U,d,st,t,k⟩:=A;obtain⟨x,y,p,r,b⟩:=pH t;unfold hU at b;split at b
 .rename_i a
  cases i:lsD y with
  |none=>rw[i]at b;nomatch b
  |some ds=>
   rw[i,aG]at b
   cases j:iu ds with
   |none=>rw[j]at b;nomatch b
   |some o=>
    rw[j,aG]at b;split at b
    .rename_i z;cases b;refine⟨E,H0,Hf,U,_,st,p,λv al H1 m B=>?_⟩;cases (B);refine⟨rfl,E,H0,al,U,_,st.step m,r,λu a0 H2 n C=>?_⟩;obtain⟨l,L,w,q,rs⟩:=i0 i C;rw[AL j]at rs;rw[HP o L rs]at q;exact⟨a,l,o,rfl,by rw[w],n.s.seq q,z,k _ a0 H2 (m.trans n) rfl⟩
    .nomatch b
 .nomatch b
abbrev AO:D->Option Str
 |.str z=>if z.length<=16777216 then aa z else ab
 |.int i=>if i.natAbs.log2<1920 then aa (lq i) else ab
 | _=>ab
abbrev jN(out:Str)(a:LSt):Str:=a.foldl (·++·) out
def AQ:∀(a:LSt) (out:Str),out.length<=(jN out a).length
 | [],_=>bh _
 |z::a,out=>by
  have:=AQ a (out++z);rw[Str.length_append]at this;show out.length<=(jN (out++z) a).length;lia
abbrev DFs(c:Str->Addr)(X:Cx)(es:LEx)(f:LS->Option LSt):Prop:=∀(B:PNS) (s:aL) (J:St) (H:Hp) (Q:VK) (out:Str),Inv X B J H s ->
 (∃E H0 Hf U a,aM (Gx c X) E H0 Hf H J U/\f U=aa a/\(jN out a).length<=16777216/\∀j H',Ext Hf H j H'->Q (.str (jN out a)) H')->wpAny (model X.prog X.w) X.A (joinParts out (evalEach es X.env)) (EP X B J Q) X.xe s
abbrev mFc(x:Str)(g:LS->Option LSt)(U:LS):Option LSt:=(g U).map (x::·)
abbrev mFv(f:MF1)(g:LS->Option LSt)(U:LS):Option LSt:=(f U).bind λd=>(AO d).bind λz=>(g U).map (z::·)
abbrev mFs(f:LS->Option LSt)(U:LS):OD:=(f U).bind λa=>if (jN jt a).length<=16777216 then aa (.str (jN jt a)) else ab
def AR:DFs c X [] nZ:=λB s J H Q out I b=>by
 obtain⟨E,H0,Hf,U,d,st,a,hz,k⟩:=b
 exact (by
 cases a;exact joinParts_nil ⟨.str out,H,I.tok _,⟨_,rfl⟩,k Hf H (Ext.refl st.sub)⟩ (by rw[c6];exact hz))
variable{g:LS->Option LSt}
def wm{pos:Pos}(e:DFs c X es g):DFs c X (.Constant (.str x) W6 pos::es) (mFc x g):=λB s J H Q out I f=>by
 obtain⟨E,H0,Hf,U,i,st,a,hz,k⟩:=f
 exact (by
 unfold mFc at a
 cases b:g U with
 |none=>rw[b]at a;nomatch a
 |some ys=>
  rw[b]at a;cases a;have h:=AQ ys (out++x);have d:(jN (out++x) ys).length<=16777216:=hz;exact qY (zg ⟨by rw[c6];lia,(e B _ J H Q _ (I.tok _) ⟨E,H0,Hf,U,ys,st,b,d,k⟩)⟩))
variable{Q:PRS}
def QB{u:Value}(e:AO d=aa z)(r:Rep G Hf d v)(ru:aZ v u)(k:∀t f,Q (.str z t) {s with toks:=f}):wpAny (model prog w) A (formatField u jt) Q W5 s:=by
 cases d with
 |str y=>
  replace e:(if y.length<=16777216 then aa y else ab)=aa z:=e;split at e
  .rename_i c;have b:=cN e;subst b;subst r;obtain⟨t,a⟩:=ru;subst a;exact formatField_str k (by rw[c6];exact c)
  .nomatch e
 |int n=>
  replace e:(if n.natAbs.log2<1920 then aa _ else ab)=aa z:=e;split at e
  .rename_i hn;have b:=cN e;subst b;subst r;obtain⟨t,a⟩:=ru;subst a;exact formatField_int_small hn (k _ _)
  .nomatch e
 | _=>nomatch e
def qb{pos:Pos}{f:MF1}(p:DE c X e f)(q:DFs c X es g):DFs c X (.FormattedValue e (-1) ab pos::es) (mFv f g):=λB s J H Q out I w=>by
 obtain⟨E,H0,Hf,U,G,st,a,hz,k⟩:=w
 exact (by
 unfold mFv at a
 cases b:f U with
 |none=>rw[b]at a;nomatch a
 |some d=>
  rw[b,aG]at a
  cases h:AO d with
  |none=>rw[h]at a;nomatch a
  |some z=>
   rw[h,aG]at a
   cases i:g U with
   |none=>rw[i]at a;nomatch a
   |some ys=>
    rw[i]at a;cases a;have C:=AQ ys (out++z);have n:(jN (out++z) ys).length<=16777216:=hz;have o:(out++z).length<=be:=by rw[c6];lia
    refine qY (FormattedValue_plain ?_);exact thn (p B s J H (λv H'=>∃j,Ext Hf H j H'/\Rep _ j d v) I ⟨E,H0,Hf,U,d,st,b,λv j H' x r=>⟨j,x,r⟩⟩) λu s1 ⟨v,H1,m,y,al,l,rd⟩=>(QB h rd y λt A=>⟨o,q B _ J H1 Q _ (m.tok A) ⟨E,H0,al,U,ys,st.step l,i,n,λj H' x=>k j H' (l.trans x)⟩⟩))
def AS{pos:Pos}{f:LS->Option LSt}(h:DFs c X (a::b::es) f):DE c X (.JoinedStr (a::b::es) pos) (mFs f):=λB s J H Q I i=>by
 obtain⟨E,H0,Hf,U,d,st,e,k⟩:=i
 exact (by
 unfold mFs at e
 cases g:f U with
 |none=>rw[g]at e;nomatch e
 |some l=>
  rw[g,aG]at e;split at e
  .rename_i hz;cases e;exact JoinedStr_many (h B s J H Q jt I ⟨E,H0,Hf,U,l,st,g,hz,λj H' x=>k _ j H' x rfl⟩)
  .nomatch e)
open Classical in
abbrev sQ(m:Addr->LD->LD->LD->Option (LD×D))(f:MF2)(U:LS):OD:=(f U).bind λM=>if h:∃q,∀l,m l [] [] M=aa q then aa h.choose.2 else ab
variable{lp:Pos}{m:Addr->LD->LD->LD->Option (LD×D)}
def QC{pos:Pos}(pk:Pk X.prog X.w X.K X.mg X.base CX0 k x (f,fd) ps (spM (Gx c X) 0 ps.length m))(t:cG k0 X.A)(ha:DA c X es fa)(hl:1=ps.length:=by rfl)(hz:es.length<=1000:=by exact oY rfl)(n:NDb x:=by decide)(y:bf [.List es lp] X.env=(ag,eval (.List es lp) X.env)::bf [] X.env:=by rfl)(r:(d5 pos (bf [] X.env)).any (·.1)=ag:=by rfl)(o:k<=k0:=by decide)(Y:Gl X x:=by first |rfl |exact glc rfl):
  DE c X (.Call (.Name x p) [.List es lp] [] pos) (sQ m fa):=PE.imp (ph pk.ok (t.mono o) Y pk.g pk.kp pk.b .nil kc (bC (rO ha.pa) bM y) n y r) λJ H Q q_=>by
 obtain⟨E,H0,Hf,U,d,st,a,C⟩:=q_;unfold sQ at a
 cases i:fa U with
 |none=>rw[i]at a;nomatch a
 |some M=>
  rw[i,aG]at a;split at a
  .rename_i z;cases a;have B:=z.choose_spec;generalize z.choose=q at B C;refine⟨E,H0,Hf,U,M,st,i,λL al H1 u G=>⟨?_,λl h=>?_⟩⟩
   .rw[<- G.length,ha.len U M i];exact k9 (pj hz)
   .dsimp only
    have hd:eC (upd H1 l (.lst L)) l=H1:=by
     funext b
     by_cases e:b=l
     .subst e;rw[pR,h]
     .rw[pS e,bG e]
    have hn:0+1+([]:LD).length=ps.length:=by show 1=_;exact hl
    exact⟨al,[],[],M,q.1,q.2,l,L,[],[],rfl,u.s.trans (cJ h),u.s.free h,bL,rfl,rfl,G,rfl,hn,B l,λv j N us3 I T hu3 rx3 r3=>by rw[hd]at I;exact C v j N (u.trans I) r3⟩
  .nomatch a
def wn{pos:Pos}(i:Nat){g:Xa}(d:DAX c (X.comp scope Nc cl W4 ex a8 a9) es g)(n:Nc[i]?=aa x:=by rfl)(p:Vis scope x:=by first |exact cF rfl |exact bP (cF rfl) |exact bP (bP rfl))(hd:NDb x:=by decide)
 (a:NCd x:=by decide)(o:bf (.Name x pos::es) (X.comp scope Nc cl W4 ex a8 a9).env=(ag,eval (.Name x pos) (X.comp scope Nc cl W4 ex a8 a9).env)::bf es (X.comp scope Nc cl W4 ex a8 a9).env:=by rfl):DMX c (X.comp scope Nc cl W4 ex a8 a9) (.Name x pos::es) i g:=
 ⟨PA.imp (bC (pvc i n p hd a) d.pa o) λJ H Q ⟨E,H0,Hf,U,ds,ρ',l,st,f,e,k⟩=>⟨_,f,E,H0,Hf,U,ds,ρ',st,e,λL j H' m b r=>k L j H' m b r⟩,λU ds ρ' h=>by
  rw[bg,d.len U ds ρ' h]⟩
def QD{c:Model}{a:dQ}{b:PRS}{st:aL}{x y:Value}{T id:String}(d:st.TypeIs x T)(f:st.TypeIs y T)(sl:Slot T (dunderI "add") id)(e:isSeqSlot (aa (.builtin id))=ac)
 (g:fillsNumberSlot (.type T) "add"=pure ag)(go:wpAny c a (call (.builtin id) [x,y]) Q b st):wpAny c a (inplaceOp .Add x y) Q b st:=by
 have no:fillsInplaceSlot (.type T) "add" ac=pure ag:=by
  simp only[fillsInplaceSlot,sl.lookup,pure_bind,e];rfl
 apply fH;exact aE (mh d (aE (wpAny_of_eq no ((aE (wpAny_binaryOp1_none d f g (aE (wpAny_of_eq (PySem.seqSlot_of sl.lookup e) (aE (o8 go)))))):wpAny c a _ Q b st))))
abbrev QE:TIp:=λx y H Q=>∃l b M a,x=.ref l/\y=.ref b/\H l=aa (.lst M)/\H b=aa (.lst a)/\M.length+a.length<=be/\Q (.ref l) (upd H l (.lst (M++a)))
def QF:PIp X .Add QE:=by
 rintro B s J H _ _ v u Q I j m ⟨l,b,M,p,rfl,rfl,d,f,hz,q⟩;subst j;subst m;obtain⟨_,its,n,r,o,e⟩:=I.lstM d;obtain⟨_,a,h,i,g,c⟩:=I.lstM f;have hsz:its.toArray.size+a.toArray.size<=be:=by simp only[size_toArray];lia
 refine QD ⟨_,e,rfl⟩ ⟨_,c,rfl⟩ F.slot_list_iadd (by decide +kernel) noFill_list_add (mi F.slot_list_iadd ⟨_,e,rfl⟩ F.entry_list_iadd (F.args_list_iadd_2 _ _)
  (AutoSeq1.list___iadd___list_list_0 l its.toArray n b a.toArray h (by rw[FZ hsz];simp) (by simp only[size_toArray];lia) (by lia)) ⟨e,c,.ref l,_,I.lset d e (by simp) (r.append i) (by rw[aI];lia),rfl,q⟩)
abbrev sR(i:Nat)(f:Xe)(U:LS):Option Fl:=match U[i]? with
 |some (.own _)=>(f U).bind λp=>match p.2[i]?,p.1 with
  |some (.own M),.lst ys=>if M.length+ys.length<=16777216 then aa (.nx (p.2.set i (.own (M++ys)))) else ab
  | _,_=>ab
 | _=>ab
def QG{pos:Pos}(i:Nat){f:Xe}(I:X.N.Nodup)(T:DX c X e f)(hi:X.N[i]?=aa x:=by rfl)(hx:Loc X.env.scope x:=by first |exact cF rfl |exact bP rfl)(w:LcF X x:=by first |exact .inl rfl |exact .inr rfl):
  DS c X (.AugAssign (.Name x bb) .Add e pos) (sR i f):=PS.imp (Fq I hi hx T QF w) λW5 J H q_=>by
 obtain⟨E,H0,Hf,U,o,A,a,k⟩:=q_;unfold sR at a;split at a
 .rename_i xs0 t
  cases m:f U with
  |none=>rw[m]at a;nomatch a
  |some p=>
   rw[m,aG]at a;split at a
   .rename_i M ys es C;split at a
    .rename_i hl;cases a;obtain⟨l,h,h0,w,vs0,q0,r0⟩:=A.ownAt rfl t;obtain⟨d,ρ1⟩:=p;subst C;refine⟨_,h,E,H0,Hf,U,_,ρ1,A,m,λv j H' s g r'=>?_⟩;obtain⟨l2,u,G,Y,L,q,r⟩:=g.ownAt rfl es;rw[h]at u;cases u;obtain⟨b,B,rfl,Q,z⟩:=r';refine⟨l,b,L,B,rfl,rfl,q,g.sub _ _ Q,by rw[c6,<- r.length,<- z.length];exact hl,?_⟩
     have n:J.set i (aa (.ref l))=J:=by
      apply oW;intro W6
      by_cases y:W6=i
      .subst y;rw[jV ((dD.mp h).1),h]
      .rw[iO (cE y)]
     show W5.nx _ _;rw[n];exact k J j _ s (g.mutd rfl rfl es h ⟨L++B,bL,r.append z⟩)
    .nomatch a
   .nomatch a
 .nomatch a
variable{g:D->LS->Option LS}
def QH{pos:Pos}(i:Nat)(k:Nat)(js:LN)(jp t:Nat)(Nc:LSt)(m:X.N.Nodup)(n:X.calm=ac)(hi:DXi c X tg iter fi)(d:∀cl W4 ex a8 a9,DG c (X.comp scope Nc cl W4 ex a8 a9) tg k g)
 (q:∀cl W4 ex a8 a9,DX c (X.comp scope Nc cl W4 ex a8 a9) b7 fe)(e:X.N[i]?=aa x:=by rfl)(z:Loc X.env.scope x:=by first |exact cF rfl |exact bP rfl)
 (f:fo (.ListComp b7 [⟨tg,iter,[],0⟩] scope pos) (aa (.Name x bb)) b5.line X.env=pure ac:=by rfl)(l:kf scope X.env.scope.names X.N Nc k js=ac:=by rfl)(y:∀x,iD iter X.env x=pure x:=by intro _;rfl)
 (u:LcF X x:=by first |exact .inl rfl |exact .inr rfl)(w:js.Nodup:=by decide):
  DS c X (.Assign [.Name x bb] (.ListComp b7 [⟨tg,iter,[],0⟩] scope pos) b5) (cC i (kQ k js jp t fi g fe)):=
 PS.imp (vo (tt:=tDT (Gx c X) λ_=>aa ac) (te:=tDX (Gx c X) fe) k js Nc m e z n hi (λcl W4 ex a8 a9=>(d cl W4 ex a8 a9).pg) (λcl W4 ex a8 a9=>dh) q f l y u) λW5 J H A=>by
  obtain⟨E,H0,Hf,U,o,B,a,kk⟩:=A;unfold cC at a
  cases b:kQ k js jp t fi g fe U with
  |none=>rw[b]at a;nomatch a
  |some p=>
   rw[b]at a;cases a;exact HN w (d [] 0 [] X.s₀ X.H₀).keep (d [] 0 [] X.s₀ X.H₀).len ⟨E,H0,Hf,U,p.1,p.2,B,b,λv j H' s h r=>kk _ j H' s (h.setIm r)⟩
set_option maxRecDepth 100000
abbrev lM(J:LSt)(x:Str):LSt:=if J.any (·==x) then J else J++[x]
abbrev fw(val:Nat->Str):Nat->LSt
 | 0=>[]
 |i+1=>lM (fw val i) (val i)
def wo(val:Nat->Str):∀i,(fw val i).length<=i
 | 0=>bh _
 |i+1=>by
  have a:=wo val i;show(lM (fw val i) (val i)).length<=_;unfold lM;split
  .omega
  .rw[aI,e7];lia
def HS(J:LSt)(v k:Str):(lM J v).any (·==k)=(J.any (·==k) || decide (k=v)):=by
 unfold lM;rw[iA];split
 .rename_i h;rw[gV,decide_eq_true_eq];exact⟨.inl,λz=>z.elim id λe=>e▸h⟩
 .rw[any_append,gV,gV,decide_eq_true_eq,iS,any_nil,Bool.or_false,beq_iff_eq];exact or_congr_right eq_comm
def HU(J:LSt)(v:Str):(lM J v).length=if J.any (·==v) then J.length else J.length+1:=by
 unfold lM
 split <;> simp
def QI{h:Heap}{a:Addr}{S b:Str->Bool}{c:Nat}(q:h.SetOf (strKind P w) a S n)(e:∀k,S k=b k)(d:n=c):h.SetOf (strKind P w) a b c:=by
 obtain rfl:=funext e;subst d;exact q
variable{I:Addr}{wr:LAd}{G:Array GenState->Array GenState->Prop}{Pv:Nat->Value->Prop}
def QJ{St:Nat->aL->Prop}(W:WalksS P w A.in1 I fp wr G n Pv St)(S:Addr)(g:S∉fp)(val:Nat->Str)(y:∀i v,Pv i v->∃t,v=.str (val i) t)(L:n+1<scanBound):
  ∀(k i:Nat) (s:aL),n-i=k->i<=n->St i s->s.heap.SetOf (strKind P w) S (λW6=>(fw val i).any (·==W6)) (fw val i).length ->
   (∀s',Moved (S::wr) G s s'->s'.heap.SetOf (strKind P w) S (λW6=>(fw val n).any (·==W6)) (fw val n).length->R (.ok (.ret .none)) s') ->
   g3 (model P w) A (.builtin "set.update.loop" ⟨[.ref S,.ref I],[]⟩) R s:=by
 have z:=λh=>g (W.sub _ h);have sub:∀b∈wr,b∈S::wr:=λb h=>cD _ h;have stay:∀{s s':aL} {Z:Str->Bool} {m:Nat},Moved wr G s s'->s.heap.SetOf (strKind P w) S Z m->s'.heap.SetOf (strKind P w) S Z m:=λm ⟨o,es,l,t,x,r⟩=>⟨o,es,l,t,m.heap S o z x,r⟩;intro k
 induction k with
 |zero=>
  intro i s u hi st q a;obtain rfl:i=n:=by lia
  refine nr F.entry_set_update_loop ?_
  exact aE (W.done s _ _ st λs' m=>(bq (a s' (m.mono sub) (stay m q))))
 |succ k B=>
  intro i s u hi st q a;have lt:i<n:=by lia
  refine nr F.entry_set_update_loop ?_;refine aE (W.item i s _ _ lt st λv s' p f m=>?_);obtain⟨t,rfl⟩:=y i v p;have is:(strKind P w).is (val i) (.str (val i) t)=ac:=PySem.W.isStrOf_self (val i) t;refine aE (fH ?_);refine fH (aE ((strKind P w).pyHash is ?_));have d:(fw val i).length+1<scanBound:=by have:=wo val i;lia
  have C:=stay m q
  refine wpAny_setAddHashed_of (knd:=strKind P w) (s:={s' with toks:=s'.toks+1}) is rfl C d λh' j E=>?_
  have H:h'.SetOf (strKind P w) S (λW6=>(fw val (i+1)).any (·==W6)) (fw val (i+1)).length:=QI E (λW6=>(HS _ _ _).symm) (HU _ _).symm;refine bq ⟨o4 F.plain_set_update_loop _,B _ _ (by lia) lt (W.frame _ s' _ _ f (qX _) λb c o e=>?_) H λs2 m2 J=>?_⟩
  .rw[j.2 b λh=>g (by rw[<- h];exact c)];exact e
  .refine a s2 (Moved.trans W.gtrans ((m.mono sub).then_heap (qX _) λb o c e=>?_) m2) J;rw[j.2 b λh=>c (by rw[h];exact bB)];exact e
abbrev AT(L:LVa)(M:LSt):Prop:=L.length=M.length/\∀(i:Nat) (v:Value),L[i]?=aa v->∃t,v=.str (M.getD i "") t
nonrec def kS(a:Bool):Obj:={cls:=.type "set",dict:=ab,data:=.set #[] 0 (.fresh 0 0 a)}
def QK(h:Heap)(a:Bool):(h.push (kS a)).SetOf (strKind P w) h.objs.size (λ_=>ag) 0:=
 ⟨_,#[],0,_,eW _ rfl,⟨rfl,rfl,rfl⟩,rfl,λe b=>by simp at b,λk=>by simp,by decide,rfl,rfl⟩
set_option maxHeartbeats 8000001 in
def QL{M:LSt}(hh:A.handled=ab)(hl:s.heap.IsList l items)(hi:AT items.toList M)(hb:items.size+1<scanBound)
 (h:∀ (h':Heap) (y:Nat),h'.SetOf (strKind P w) s.heap.objs.size (λW6=>(fw (λi=>M.getD i "") items.size).any (·==W6)) (fw (λi=>M.getD i "") items.size).length ->
   (∀b o,b<s.heap.objs.size->s.heap.get? b=aa o->h'.get? b=aa o)->Q (.ref s.heap.objs.size) {s with heap:=h',toks:=y}):
  wpAny (model P w) A (call (.type "set") [.ref l]) Q W5 s:=by
 obtain⟨c,tl,U⟩:=mj.mro;have G:=mj.made;have Y:=mj.sub;refine wpAny_call (codeAny_of_tree (bq ⟨Code.quiet_builtin _ (by decide +kernel),nr F.entry_type_call ?_⟩));rw[dQ.under_plain (weight_type_call_type "set" [.ref l] []) rfl];have h1:=mj.notType;have h2:=mj.canCreate;have hct:=F.typeCall_set_1 (.ref l)
 repeat (any_goals (first |assumption |wp_step))
 refine o5 (code_set_new_1 (.ref l) (E:=W5) (Q₁:=λob f=>∃a,ob=.ref s.heap.objs.size/\f={s with heap:=s.heap.push (kS a)}) λa=>⟨a,rfl,rfl⟩) λr f H=>?_
 cases r with
 |error e=>exact H
 |ok fl=>
  cases fl with
  |ret ob=>
   obtain⟨a,rfl,rfl⟩:=H;have g0:(s.heap.push (kS a)).get? s.heap.objs.size=aa (kS a):=eW _ rfl
   have hT:aL.TypeIs {s with heap:=s.heap.push (kS a)} (.ref s.heap.objs.size) "set":=⟨_,g0,rfl⟩
   have hli:=mj.init.lookup;have hbi:=mj.init.bind (.ref s.heap.objs.size)
   repeat (any_goals (first |assumption |wp_step))
   refine o5 (codeAny_call_builtin (R:=wants (λr a8=>r=.none/\∃ h' y,a8={ s with heap:=h',toks:=y } /\
     h'.SetOf (strKind P w) s.heap.objs.size (λW6=>(fw (λi=>M.getD i "") items.size).any (·==W6)) (fw (λi=>M.getD i "") items.size).length /\
     (∀b o,b<s.heap.objs.size->s.heap.get? b=aa o->h'.get? b=aa o)) W5) mj.init.plain F.entry_set_init (check_set_init_1 hT ?_)) λx a8 d=>?_
   .obtain⟨⟨oc,od,odt,os⟩,q,m,nl,n⟩:=hl;simp only at m n;subst m n;have u:(s.heap.push (kS a)).get? l=aa {cls:=.type "list",dict:=od,data:=.seq items nl,slots:=os}:=cj _ q;have k1:=F.sub_list_set;have k2:=F.sub_list_frozenset;have k3:(ln "list" == ln "dict")=ag:=by decide
    have p:(s.heap.push (kS a)).IsList l items:=⟨_,u,rfl,nl,rfl⟩;unfold fc.«set.__init__» noKeywords fc.Frozenset.updateFrom;generalize z:pyIter=PI
    wp_walk
    subst z;refine o2 p (aE (wpAny_runValue ?_));have lt:l<s.heap.objs.size:=bT q;have C:A.in1.in1.in1.handled=ab:=by simp[hh]
    have J:l≠(s.heap.push (kS a)).objs.size:=by rw[rB];exact cu (uM lt)
    have L:s.heap.objs.size∉[(s.heap.push (kS a)).objs.size,l]:=by
     rw[rB];simp only[bZ,cO,or_false,not_or];exact⟨cu (o0 _),ma lt⟩
    have I:∀(i:Nat) (v:Value),items[i]?=aa v->∃t,v=.str ((λi=>M.getD i "") i) t:=λi v I=>hi.2 i v (by rw[uC];exact I);refine QJ ((Walks.list C _ l J items).toS) s.heap.objs.size L (λi=>M.getD i "") I hb (items.size-0) 0 _ (by lia) (gg _) ⟨⟨_,eW _ rfl,rfl,rfl⟩,(p.push _)⟩ ?hS0 ?hR
    case hS0=>
     obtain⟨o,es,ep,t,ho,r⟩:=QK (P:=P) (w:=w) s.heap a;exact⟨o,es,ep,t,cj _ ho,r⟩
    case hR=>
     intro s' hm B;obtain⟨h',g',d',T,N⟩:=s';have eg:g'=s.gens:=hm.gens;have ed:d'=s.drawn:=hm.drawn;have eo:N=s.os:=hm.os;subst eg ed eo;show wpAny _ _ _ _ _ _;refine bq ?_;show wpAny _ _ (ret pb) _ _ _;refine bq ⟨rfl,h',T,rfl,B,λb o j e=>?_⟩;have n2:b≠(s.heap.push (kS a)).objs.size:=by rw[rB];exact cu (uM j)
     refine hm.heap b o ?_ (cj _ (cj _ e));simp only[bZ,cO,or_false,not_or];exact⟨cu j,n2⟩
   .cases x with
    |error e=>exact d
    |ok g=>
     cases g with
     |ret r=>
      obtain⟨rfl,h',y,rfl,q',kk⟩:=d
      repeat (any_goals (first |assumption |wp_step))
      exact h _ _ q' kk
     | _=>exact d.elim
  | _=>exact H.elim
abbrev jO(M:LSt):Nat:=(fw (λi=>M.getD i "") M.length).length
def HV:∀{M:LSt} {L:LVa},ba (M.map V.str) L->AT L M
 | [],_,.nil=>⟨rfl,λi v h=>by simp at h⟩
 |x::M,_,.cons r h=>by
  obtain⟨a,b⟩:=HV h;refine⟨by simp[a],λi v e=>?_⟩
  cases i with
  |zero=>
   obtain⟨t,rfl⟩:=r;cases e
   exact⟨t,rfl⟩
  |succ i=>exact b i v e
abbrev QM(K:br)(te:TE):TE:=λJ H Q=>te J H λx H1=>∃l M,x=.ref l/\SqL K H1 l (M.map V.str)/\M.length<4000/\Q (.int (jO M:Nat)) H1
variable{dd:Pos}
def QN{pos:Pos}(A:X.calm=ac)(d:Gl X "len")(i:X.mg "len"=ab)(f:Gl X "set")(j:X.mg "set"=ab)(C:PE X e te)
 (t:bf [.Call (.Name "set" p2) [e] [] dd] X.env=(ag,eval (.Call (.Name "set" p2) [e] [] dd) X.env)::bf [] X.env:=by rfl)(v:bf [e] X.env=(ag,eval e X.env)::bf [] X.env:=by rfl)
 (m:(d5 pos (bf [] X.env)).any (·.1)=ag:=by rfl)(a:(d5 dd (bf [] X.env)).any (·.1)=ag:=by rfl):
  PE X (.Call (.Name "len" p) [.Call (.Name "set" p2) [e] [] dd] [] pos) (QM X.K te):=by
 intro B s J H Q I h;refine md (j6 I d i ga ?_);refine EY ?_ t m;rw[t];refine lj (md (j6 I f j boot_set ?_));refine nq ?_ v a;rw[v];refine lj (thn (C B s J H _ I h) λu s1 N=>?_);obtain⟨x,H1,c,T,l,M,rfl,L,hb,q⟩:=N;cases T;refine bq ?_;obtain⟨its,U,pl,hz⟩:=c.list L;have w:AT its M:=HV U;have z:its.toArray.size=M.length:=by rw[size_toArray,w.1]
 refine QL (items:=its.toArray) (M:=M) (c.ok.hd A) pl.isList (by simpa using w) (by rw[z];unfold scanBound;lia) λh' Y y keep=>?_;rw[z]at y;refine bq ?_;obtain⟨o,r,ep,tb,G,hex,hd,_,_,n,E,hn⟩:=y
 refine call_len_set (s:={s1 with heap:=h',toks:=Y}) G hex hd E (by unfold scanBound at n;lia) ?_
 refine⟨.int (jO M:Nat),H1,c.kept λb u g=>keep b u (bT g) g,?_,q⟩;rw[hn];exact⟨_,rfl⟩
def HW:∀(M:LSt),iu (M.map D.str)=aa M
 | []=>rfl
 |x::M=>by show(iu _).map _=_;rw[HW M];rfl
def HX{G:Gc}{H:Hp}:∀{M:LSt} {L:LVv},aF G H (M.map D.str) L->L=M.map V.str
 | [],_,r=>r
 |x::M,_,r=>by
  obtain⟨v,L,rfl,a,b⟩:=r;rw[HX b,show v=V.str x from a];rfl
abbrev on(f:MF1)(U:LS):OD:=(f U).bind λd=>(lsD d).bind λds=>(iu ds).bind λM=>if M.length<4000 then aa (.int (jO M:Nat)) else ab
def QO{f:MF1}{M:LSt}(h:f U=aa (.lst (M.map D.str)))(a:M.length<4000):on f U=aa (.int (jO M:Nat)):=by
 unfold on;rw[h];show((iu (M.map D.str)).bind λM=>if M.length<4000 then aa (D.int (jO M:Nat)) else ab)=_;rw[HW];exact if_pos a
def QP{pos:Pos}{f:MF1}(z:X.calm=ac)(g:Gl X "len")(i:X.mg "len"=ab)(h:Gl X "set")(m:X.mg "set"=ab)(ha:DE c X e f)
 (w:bf [.Call (.Name "set" p2) [e] [] dd] X.env=(ag,eval (.Call (.Name "set" p2) [e] [] dd) X.env)::bf [] X.env:=by rfl)(y:bf [e] X.env=(ag,eval e X.env)::bf [] X.env:=by rfl)
 (n:(d5 pos (bf [] X.env)).any (·.1)=ag:=by rfl)(b:(d5 dd (bf [] X.env)).any (·.1)=ag:=by rfl):DE c X (.Call (.Name "len" p) [.Call (.Name "set" p2) [e] [] dd] [] pos) (on f):=
 PE.imp (QN z g i h m ha w y n b) λJ H Q B=>by
  obtain⟨E,H0,Hf,U,ds,st,a,k⟩:=B;unfold on at a;obtain⟨d,o,a⟩:=cI.mp a;obtain⟨M,t,a⟩:=cI.mp a;obtain⟨C,u,a⟩:=cI.mp a;split at a
  .rename_i A;cases a;refine⟨E,H0,Hf,U,d,st,o,λv j H' x r=>?_⟩;obtain⟨l,L,rfl,q,rs⟩:=i0 t r;rw[AL u]at rs;obtain rfl:=HX rs;exact⟨l,C,rfl,x.s.seq q,A,k _ j _ x rfl⟩
  .nomatch a
def HY(val:Nat->Str):∀i k,k∈fw val i↔∃W6,W6<i/\val W6=k
 | 0,k=>⟨(λh=>nomatch h),λ⟨W6,h,_⟩=>absurd h (Nat.not_lt_zero _)⟩
 |i+1,k=>by
  have c:=HY val i k;have e:=HS (fw val i) (val i) k;have any:∀(J:LSt),J.any (·==k)=ac↔k∈J:=λJ=>by simp[any_eq_true]
  rw[<- any];show(lM (fw val i) (val i)).any (·==k)=ac↔_;rw[e,gV,any,c,decide_eq_true_eq];constructor
  .rintro(⟨W6,b,a⟩ |rfl)
   .exact⟨W6,by lia,a⟩
   .exact⟨i,by lia,rfl⟩
  .rintro⟨W6,b,a⟩
   rcases Nat.lt_or_ge W6 i with h |h
   .exact .inl ⟨W6,h,a⟩
   .obtain rfl:W6=i:=by lia
    exact .inr a.symm
def HZ(val:Nat->Str):∀i,(fw val i).length=i↔∀W6 k,W6<k->k<i->val W6≠val k
 | 0=>⟨λ_ W6 k _ h=>by lia,λ_=>rfl⟩
 |i+1=>by
  have d:=HZ val i;have f:=wo val i;show(lM (fw val i) (val i)).length=i+1↔_;rw[HU];have any:(fw val i).any (·==val i)=ac↔∃W6,W6<i/\val W6=val i:=by rw[<- HY];simp[any_eq_true]
  by_cases h:(fw val i).any (·==val i)=ac
  .rw[if_pos h];obtain⟨W6,a,b⟩:=any.mp h;exact⟨λe=>by lia,λg=>absurd b (g W6 i a (by lia))⟩
  .rw[if_neg h];constructor
   .intro e W6 k a b c
    rcases Nat.lt_or_ge k i with h4 |h4
    .exact d.mp (by lia) W6 k a h4 c
    .obtain rfl:k=i:=by lia
     exact h (any.mpr ⟨W6,a,c⟩)
   .intro g;rw[d.mpr λW6 k a b=>g W6 k a (by lia)]
def QQ(M:LSt):jO M<=M.length:=wo _ _
def QR(M:LSt):jO M=M.length↔M.Nodup:=by
 unfold jO;rw[HZ,uI,pairwise_iff_getElem];constructor
 .intro h i W6 hi b a e;refine h i W6 a b ?_;show M.getD i ""=M.getD W6 "";rw[fF,fF,dE hi,dE b];exact congrArg (λz=>(aa z).getD ("":Str)) e
 .intro h i W6 a b e;have hi:i<M.length:=by lia
  refine h i W6 hi b a ?_;have e:M.getD i ""=M.getD W6 "":=e;rw[fF,fF,dE hi,dE b]at e;exact e
abbrev AU(K:br):V->Option Int->Hp->VK->Prop:=λx st H Q=>∃a M,x=.ref a/\SqL K H a M/\(st=aa 1\/st=aa (-1))/\∀p,H p=ab->Q (.ref p) (upd H p (.lst (if st=aa 1 then M else M.reverse)))
def QS(items:Array Value):slicePick items ab ab (aa 1)=slicePick items ab ab ab:=rfl
variable{tb:TO}
def QT{pos:Pos}(E:PE X a te)(C:PO X (aa b) tb):PE X (.Subscript a (.Slice ab ab (aa b) p2) pos) (λJ H Q=>te J H λx H1=>tb J H1 λst H2=>AU X.K x st H2 Q):=by
 intro B s J H Q I h;refine Subscript_ (thn (E B s J H _ I h) λv s1 d=>?_);obtain⟨x,H1,n,r1,T⟩:=d;refine wpAny_Slice (thn (zM B s1 J H1 (λo H'=>o=ab/\tb J H' λst H2=>AU X.K x st H2 Q) n ⟨rfl,T⟩) λvl s2 ⟨l,H2,p,pl,z,U⟩=>thn (zM B s2 J H2 (λo H'=>o=ab/\tb J H' λst H2=>AU X.K x st H2 Q) p ⟨rfl,U⟩) λvu s3 ⟨u,j,w,N,A,Y⟩=>thn (C B s3 J j _ w Y) λvt i d=>?_);obtain⟨t,m,y,pt,q4⟩:=d;subst z A
 have c:Inv X B J m {i with heap:=i.heap.push {cls:=.type "slice",data:=.fields #[vl,vu,vt]}}:=y.kept λb L q=>cj _ q
 obtain⟨a,M,rfl,G,g,q⟩:=q4;cases r1;obtain⟨its,r,e,hz⟩:=c.list G;have f:=r.length;refine tail_any e.isList.typeIs slot_list_getitem.lookup ?_ (by with_unfolding_all rfl)
 refine wpAny_getItem_list_slice e.isList (Fb ..) pl N pt (by rcases g with rfl |rfl <;> decide) ?_ (by rw[size_toArray];lia)
 refine⟨.ref _,_,c.laid (λb L q=>cj _ q) (bh _) ?_,rfl,q _ (c.hok.fresh (bh _))⟩
 rcases g with rfl |rfl
 .rw[if_pos rfl,QS,FW,HT.sIx_none,HT.sIx_none,drop_zero,Nat.sub_zero,take_length];exact⟨hz,its,0,r,eW _ rfl⟩
 .rw[if_neg (by decide),W.krv_pick];exact⟨by rw[qR];exact hz,its.reverse,0,r.reverse,eW _ rfl⟩
abbrev wq(f g:Xe):Xe:=λU=>(f U).bind λp=>(g p.2).bind λq=>(lsD p.1).bind λds=>match q.1 with
 |.int i=>if i=1\/i=-1 then aa (.lst (if i=1 then ds else ds.reverse),q.2) else ab
 | _=>ab
variable{f g:Xe}
def QU{pos:Pos}(ha:DX c X a f)(N:DX c X b g):DX c X (.Subscript a (.Slice ab ab (aa b) p2) pos) (wq f g):=
 PE.imp (QT ha (FO N)) λJ H Q T=>by
  obtain⟨E,H0,Hf,U,r,ρ',st,m,k⟩:=T;unfold wq at m;obtain⟨⟨d,ρ1⟩,I,j⟩:=cI.mp m;obtain⟨⟨y,ci⟩,B,l⟩:=cI.mp j;obtain⟨ds,C,e⟩:=cI.mp l;clear m j l;dsimp only at B C e;split at e
  .rename_i i;split at e
   .rename_i hi;cases e;refine⟨E,H0,Hf,U,_,ρ1,st,I,λv al H1 M A Y=>⟨E,H0,al,ρ1,_,_,A,B,λu a0 H2 n h r2=>⟨i,r2,?_⟩⟩⟩;obtain⟨a,L,rfl,q,r⟩:=i0 C Y;refine⟨a,L,rfl,(n.trans h.sub).seq q,hi.imp (congrArg aa) (congrArg aa),λp t=>?_⟩;have x:=(Ext.tmp (o:=.lst (if aa i=aa 1 then L else L.reverse)) h.sub t).fix t (h.sub.free t) bL;refine k _ _ _ ((M.trans n).trans x.f) (h.step x) ⟨p,_,rfl,bL,?_⟩;have w:=(r.up n).up x.f
    by_cases s:i=1
    .subst s;rw[if_pos rfl,if_pos rfl];exact w
    .have G:¬aa i=aa 1:=λz=>s (cN z);rw[if_neg G]at w;rw[if_neg s,if_neg G];exact w.reverse
   .nomatch e
  .nomatch e
section
variable(k:Nat)(js:LN)(jp t:Nat)(g:D->LS->Option LS)(tt:Xt)(fe:Xe)(U:LS)(l:Addr)
open Classical in
abbrev qc(a:LS)(y:OD):Option (OD×LD):=match a[k+t]? with
 |some (.pin _ b4)=>if ∀i,k<=i->a[i]?=(df k js (U.set jp (.pin l b4)))[i]? then aa (y,b4) else ab
 | _=>ab
abbrev qd(d:D)(M:LD):Option (OD×LD):=(g d (df k js (U.set jp (.pin l M)))).bind λρ1=>(tt ρ1).bind λb=>match b.1 with
 |true=>(fe b.2).bind λq=>qc k js jp t U l q.2 (aa q.1)
 |false=>qc k js jp t U l b.2 ab
abbrev jc:LD->LD->Option (LD×LD)
 | [],M=>aa ([],M)
 |d::ds,M=>(qd k js jp t g tt fe U l d M).bind λy=>(jc ds y.2).map λr=>(y.1.toList++r.1,r.2)
end
abbrev ow(k:Nat)(js:LN)(jp t:Nat)(fi:Xa)(g:D->LS->Option LS)(tt:Xt)(fe:Xe):Xe:=λU=>(fi U).bind λp=>match p.2[jp]? with
 |some (.pin l M)=>if p.1.length<=16777216/\js[t]?=aa jp/\(js.all λW6=>W6==jp || ((p.2[W6]?).getD .no).calm)=ac then (jc k js jp t g tt fe p.2 l p.1 M).map λq=>(.lst q.1,p.2.set jp (.pin l q.2)) else ab
 | _=>ab
variable{ci:LS}
def Ia{y b:OD}(h:qc k js jp t U l ci y=aa (b,b4)):b=y/\(∃a,ci[k+t]?=aa (.pin a b4))/\∀i,k<=i->ci[i]?=(df k js (U.set jp (.pin l b4)))[i]?:=by
 unfold qc at h;split at h
 .rename_i a d c;split at h
  .rename_i hi;cases h;exact⟨rfl,⟨a,c⟩,hi⟩
  .nomatch h
 .nomatch h
variable{g:D->LS->Option LS}{tt:Xt}
def QV{y:OD}(h:qd k js jp t g tt fe U l d M = aa (y, b4)):∃ρ1 b ci, g d (df k js (U.set jp (.pin l M))) = aa ρ1/\tt ρ1 = aa (b, ci) /\
    ((b = ac/\∃ c a, fe ci = aa (c, a)/\y = aa c/\(∃ m, a[k + t]? = aa (.pin m b4))/\∀ i, k<=i->a[i]? = (df k js (U.set jp (.pin l b4)))[i]?) \/
     (b = ag/\y = ab/\(∃m, ci[k+t]? = aa (.pin m b4))/\∀i, k<=i->ci[i]? = (df k js (U.set jp (.pin l b4)))[i]?)):= by
  unfold qd at h;obtain⟨ρ1, n, h⟩:= cI.mp h;obtain⟨⟨b, ci⟩, o, h⟩:= cI.mp h;refine⟨ρ1, b, ci, n, o, ?_⟩
  cases b with
  |true=>
    obtain⟨⟨c, a⟩, p, h⟩:= cI.mp h;obtain⟨e, f, j⟩:= Ia h
    exact .inl ⟨rfl, c, a, p, e, f, j⟩
  |false=>
    obtain⟨e, f, j⟩:= Ia h;exact .inr ⟨rfl, e, f, j⟩
def QW(h:jc k js jp t g tt fe U l (d::ds) M=aa (rs,ys)):∃y b4 r,qd k js jp t g tt fe U l d M=aa (y,b4)/\jc k js jp t g tt fe U l ds b4=aa (r,ys)/\rs=y.toList++r:=by
 unfold jc at h;obtain⟨⟨y,b4⟩,a,h⟩:=cI.mp h;obtain⟨⟨r,c⟩,b,h⟩:=nk.mp h;cases h;exact⟨y,b4,r,a,b,rfl⟩
def QX{G:Gc}(hj:js.Nodup)(hk:∀d U ρ' i,g d U=aa ρ'->k<=i->ρ'[i]?=U[i]?)(hlen:∀d U ρ',g d U=aa ρ'->ρ'.length=U.length){Q:VK}(h:tDX G (ow k js jp t fi g tt fe) J H Q):
  pz k js (vW G fi) (tDG G g) (sF G tt) (tDX G fe) J H Q:=by
 obtain⟨E,H0,Hf,ρ0,d0,ρ',st,a,kq⟩:=h;unfold ow at a
 cases e1:fi ρ0 with
 |none=>rw[e1]at a;nomatch a
 |some p=>
  obtain⟨ds,U⟩:=p;rw[e1,aG]at a;dsimp only at a;split at a
  .rename_i l M T;split at a
   .rename_i hz;obtain⟨hz,ht,hcm⟩:=hz
    cases e2:jc k js jp t g tt fe U l ds M with
    |none=>rw[e2]at a;nomatch a
    |some q=>
     obtain⟨rs,zs⟩:=q;rw[e2]at a;cases a;refine⟨E,H0,Hf,ρ0,ds,U,st,e1,λW2 al H1 f1 I it=>?_⟩
     have hcm':=λW6 r=>by
      have:=all_eq_true.mp hcm W6 r;rw[gV]at this;exact this.imp beq_iff_eq.mp id
     have A:U.set jp (.pin l M)=U:=by
      apply oW;intro i
      by_cases hi:jp=i
      .subst hi;rw[wk T,T]
      .rw[iO hi]
     have st0:aM G al (eC H1 l) al H1 (ig k js J) (df k js (U.set jp (.pin l M))):=by rw[A];exact I.compP k hj T hcm'
     obtain⟨z,el9,_,hf9,e9,_⟩:=I.ownAt rfl T;subst e9
     refine⟨λi m ys σ' H'=>m=ds.length-i/\i<=ds.length/\∃j as b4 bH,aM G al _ j H' σ' (df k js (U.set jp (.pin z b4)))/\aF G j as ys/\jc k js jp t g tt fe U z (ds.drop i) b4=aa (bH,zs)/\rs=as++bH/\as.length<=i,
      ⟨ds.length,rfl,gg _,al,[],M,rs,st0,rfl,e2,rfl,bh _⟩,?_⟩
     rintro i m ys σ' H' ⟨rfl,hi,j,as,b4,bH,c,ra,ec,er,hal⟩;have hys:ys.length<=be:=by rw[c6,<- ra.length];lia
     obtain⟨it1,it2⟩:=it j H' c.ext.f c.sub i
     by_cases C:i<ds.length
     .obtain⟨d,ed,edr⟩:=sk C;obtain⟨go,yl⟩:=it1 d ed
      refine .inr ⟨go,hys,λys' σ2 H2=>ds.length-_=ds.length-_/\i+1<=ds.length/\∃j as b4 bH,aM G al _ j H2 σ2 _/\aF G j as ys'/\jc k js jp t g tt fe U z _ b4=aa _/\rs=as++bH/\as.length<=i+1,
       λys' σ2 H2 w=>⟨ds.length-(i+1),by lia,w⟩,λx H2 y=>?_⟩
      obtain⟨a0,x3,rx⟩:=yl x H2 y;rw[edr]at ec;obtain⟨y',N,r',et,ec',n⟩:=QW ec;obtain⟨ρ1,b,ci,eg,et,a⟩:=QV et;refine⟨al,eC H1 z,a0,_,d,ρ1,c.step x3,rx,eg,λσ3 st3=>⟨al,eC H1 z,a0,ρ1,b,ci,st3,et,λY H4 f4 L=>?_⟩⟩
      have hl2:∀{ρ9:LS} {Hf9 H9:Hp},aM G al (eC H1 z) Hf9 H9 σ3 ρ9->(df k js (U.set jp (.pin z N))).length=ρ9.length:=λu=>by
       rw[<- u.len,st3.len,hlen _ _ _ eg];unfold df;rw[aI,aI,ay,ay]
      rcases a with⟨rfl,y2,ρ3,ee,rfl,⟨l',ex⟩,B⟩ |⟨rfl,rfl,⟨l',ex⟩,B⟩
      .refine F3 ⟨al,eC H1 z,Y,ci,y2,ρ3,L,ee,λv Hf5 H5 f5 u r5=>?_⟩;refine⟨rfl,C,Hf5,as++[y2],N,r',u.weak (hl2 u) λW6 s hs=>?_,(ra.up ((x3.f.trans f4).trans f5)).append (.cons r5 .nil),ec',by rw[er,n,cL];rfl,by rw[aI,e7];lia⟩
       rcases mF hs with⟨_,e⟩ |⟨r,_⟩
       .exact .inl e
       .exact .inr (by rw[B W6 r];exact hs)
      .rw[if_neg (by decide)];refine⟨rfl,C,Y,as,N,r',L.weak (hl2 L) λW6 s hs=>?_,ra.up (x3.f.trans f4),ec',by rw[er,n];rfl,by lia⟩
       rcases mF hs with⟨_,e⟩ |⟨r,_⟩
       .exact .inl e
       .exact .inr (by rw[B W6 r];exact hs)
     .have ei:i=ds.length:=by lia
      subst ei;refine .inl ⟨it2 rfl,hys,λD h1 h2=>?_⟩;rw[qP (bh _)]at ec;cases ec;rw[cr]at er;subst er;obtain⟨l3,el3,h03,hf3,e3,us3,hu3,rx3⟩:=c.ownAt rfl (HM ht (wk T));subst e3;have xn:=Ext.new (o:=.lst ys) c.sub h2;exact kq _ _ _ (f1.trans (c.ext.f.trans xn.f)) ((I.back (s':=.pin l3 zs) rfl rfl T el9 c.ext hf3 ⟨rfl,us3,hu3,rx3⟩).step xn) ⟨D,ys,rfl,bL,ra.up xn.f⟩
   .nomatch a
  .nomatch a
abbrev ox(g:D->LS->Option LS)(f:Xe)(U:LS):Option Fl:=(f U).bind λp=>(g p.1 p.2).map .nx
def AV{pos:Pos}(m:DX c X e f)(n:DG c X tg k g)(q:rh [tg] e pos.line X.env=pure ag:=by rfl)(s:rj [tg] e X.env=pure ab:=by rfl)
 (l:(fI [tg] X.env).map (·.2)=[iE tg X.env]:=by rfl):DS c X (.Assign [tg] e pos) (ox g f):=PS.imp (vc m n.pg q s l) λW5 J H u=>by
 obtain⟨E,H0,Hf,U,o,w,a,t⟩:=u;unfold ox at a;obtain⟨p,d,a⟩:=cI.mp a;obtain⟨ρ',h,a⟩:=nk.mp a;subst a;exact⟨E,H0,Hf,U,p.1,p.2,w,d,λv j H' i st r=>⟨E,H0,j,p.2,p.1,ρ',st,r,h,λσ' b=>t σ' j H' i b⟩⟩
variable{K:Fl->Prop}
def AW(h:f U=aa (d,ρ1))(h':g d ρ1=aa ρ')(k:K (.nx ρ')):wp (ox g f) U K:=⟨_,by unfold ox;rw[h,aG,h'];rfl,k⟩
open Classical in
abbrev sS(m:Addr->LD->LD->LD->Option (LD×D))(f g:MF2)(U:LS):OD:=(f U).bind λM=>(g U).bind λds=>if h:∃q,∀l,m l [] ds M=aa q then aa h.choose.2 else ab
def QY{f g:MF2}{q:LD×D}(b:f U=aa M)(c:g U=aa ds)(h:∀l,m l [] ds M=aa q):sS m f g U=aa q.2:=by
 unfold sS;have a:∃q,∀l,m l [] ds M=aa q:=⟨q,h⟩;rw[b,aG,c,aG,dif_pos a];have:=a.choose_spec 0;rw[h 0]at this;rw[<- cN this]
def QZ{o:HO}(c:H1 l=ab)(x:Ext al (upd H1 l o) a0 H2)(b:a0 l=ab):Ext al H1 a0 (eC H2 l):=by
 have ne:∀{a u},H1 a=aa u->a≠l:=λe z=>by rw[z,c]at e;nomatch e
 refine⟨x.f,λa u e=>?_,λa u e=>?_,λa u e t=>x.n a u (by rw[bG (ne e)];exact e) t⟩
 .rw[pS (ne e)];exact x.h a u (by rw[bG (ne e)];exact e)
 .rw[pS λz=>by rw[z,b]at e;nomatch e];exact x.s a u e
variable{f:Addr}{as:LEx}{fb:MF2}
def Q0{pos:Pos}(pk:Pk X.prog X.w X.K X.mg X.base CX0 k x (f,fd) ps (spM (Gx c X) 0 ps.length m))(G:cG k0 X.A)(ha:DA c X es fa)(j:DA c X (a::as) fb)(hl:2+as.length=ps.length:=by rfl)(hz:es.length<=1000:=by exact oY rfl)(z:NDb x:=by decide)(Y:bf (.List es lp::a::as) X.env=(ag,eval (.List es lp) X.env)::bf (a::as) X.env:=by rfl)(C:(d5 pos (bf (a::as) X.env)).any (·.1)=ag:=by rfl)(B:k<=k0:=by decide)(hg:Gl X x:=by first |rfl |exact glc rfl):
  DE c X (.Call (.Name x p) (.List es lp::a::as) [] pos) (sS m fa fb):=PE.imp (ph pk.ok (G.mono B) hg pk.g pk.kp pk.b .nil kc (bC (rO ha.pa) j.pa Y) z Y C) λJ H Q q_=>by
 obtain⟨E,H0,Hf,U,d,st,e,kq⟩:=q_;unfold sS at e;obtain⟨M,N,e⟩:=cI.mp e;obtain⟨ds,T,e⟩:=cI.mp e;split at e
 .rename_i hq;cases e;have hs:=hq.choose_spec;generalize hq.choose=q at hs kq;refine⟨E,H0,Hf,U,M,st,N,λL al H1 u r1=>⟨?_,λl i=>?_⟩⟩
  .rw[<- r1.length,ha.len U M N];exact k9 (pj hz)
  .refine⟨E,H0,al,U,ds,(st.step u).step (Ext.tmp (o:=.lst L) u.s i),T,λI a0 H2 t r2=>?_⟩;have r:a0 l=ab:=(t.n l _ bL rfl).trans (u.s.free i);have hn:0+1+ds.length=ps.length:=by rw[j.len U ds T,bg,<- hl];lia
   dsimp only;rw[cr];exact⟨a0,[],ds,M,q.1,q.2,l,L,[],I,rfl,t.s,r,t.h l _ bL,rfl,r2,r1.up t.f,rfl,hn,hs l,λv y H3 us3 x3 hf3 hu3 rx3 r3=>kq v y H3 ((u.trans (QZ i t r)).trans x3) r3⟩
 .nomatch e
def Q1{pos:Pos}(i:Nat)(k:Nat)(js:LN)(jp t:Nat)(Nc:LSt)(m:X.N.Nodup)(n:X.calm=ac)(hi:DXi c X tg iter fi)(d:∀cl W4 ex a8 a9,DG c (X.comp scope Nc cl W4 ex a8 a9) tg k g)
 (z:∀cl W4 ex a8 a9,DTX c (X.comp scope Nc cl W4 ex a8 a9) cd tt)(q:∀cl W4 ex a8 a9,DX c (X.comp scope Nc cl W4 ex a8 a9) b7 fe)(e:X.N[i]?=aa x:=by rfl)(A:Loc X.env.scope x:=by first |exact cF rfl |exact bP rfl)
 (f:fo (.ListComp b7 [⟨tg,iter,[cd],0⟩] scope pos) (aa (.Name x bb)) b5.line X.env=pure ac:=by rfl)(l:kf scope X.env.scope.names X.N Nc k js=ac:=by rfl)(y:∀x,iD iter X.env x=pure x:=by intro _;rfl)
 (u:LcF X x:=by first |exact .inl rfl |exact .inr rfl)(w:js.Nodup:=by decide):
  DS c X (.Assign [.Name x bb] (.ListComp b7 [⟨tg,iter,[cd],0⟩] scope pos) b5) (cC i (ow k js jp t fi g tt fe)):=
 PS.imp (vo (tt:=sF (Gx c X) tt) (te:=tDX (Gx c X) fe) k js Nc m e A n hi (λcl W4 ex a8 a9=>(d cl W4 ex a8 a9).pg) (λcl W4 ex a8 a9=>Gd (z cl W4 ex a8 a9)) q f l y u) λW5 J H B=>by
  obtain⟨E,H0,Hf,U,o,C,a,kk⟩:=B;unfold cC at a
  cases b:ow k js jp t fi g tt fe U with
  |none=>rw[b]at a;nomatch a
  |some p=>
   rw[b]at a;cases a;exact QX w (d [] 0 [] X.s₀ X.H₀).keep (d [] 0 [] X.s₀ X.H₀).len ⟨E,H0,Hf,U,p.1,p.2,C,b,λv j H' s h r=>kk _ j H' s (h.setIm r)⟩
def DE.pe{f:MF1}(h:DE c X e f):PE X e (tD (Gx c X) f):=h
def DX.pe{f:Xe}(h:DX c X e f):PE X e (tDX (Gx c X) f):=h
section
variable{prog:du}{w:World}{K:Type}[DecidableEq K]{knd:KeyKind prog w K}{A:dQ}{W5:PRS}{s:aL}
def Q2{d:Addr}{kvs:List (K×Value)}{k:K}{key dv:Value}{Q:PRS}(c:knd.is k key=ac)(hm:s.heap.DictOf knd d kvs)(hz:kvs.length<=be)
 (J:∀v,iT kvs k=aa v->Q v {s with toks:=s.toks+1})
 (L:iT kvs k=ab->∀h',h'.DictOf knd d (jq kvs k dv)->jr d s.heap h'->Q dv {s with heap:=h',toks:=s.toks+1}):
  wpAny (model prog w) A (dictSetDefault d key dv) Q W5 s:=by
 have y:=hm.mapOf;obtain⟨o,es,G,p,M,hd,E,z,hn⟩:=hm
 have t:es.size<=be:=by
  have U:=z.length;have Y:es.toList.length=es.size:=by simp
  lia
 obtain⟨o',I,H,q,N,j,T,C⟩:=y;rw[p]at q;cases q;rw[hd]at j;cases j
 have n:(es.findIdx? λe=>knd.is k e.key)=kvs.findIdx? λr=>decide (r.1=k):=by
  rw[<- z.findIdx k];obtain⟨l⟩:=es;simp
 unfold dictSetDefault
 try with_reducible refine fH ?_
 refine aE (knd.pyHash c ?_)
 refine aE (wpAny_dictFind_of (s:={s with toks:=s.toks+1}) c p hd E ?_)
 cases hi:es.findIdx? λe=>knd.is k e.key with
 |some i=>
  have f:iT kvs k=(es[i]?).map (·.val):=by rw[<- C k,findBy_of_findIdx?,hi]
  refine aE (wpAny_dictEntries (s:={s with toks:=s.toks+1}) p hd ?_)
  cases m:es[i]? with
  |none=>
   exfalso;have:=Array.findIdx?_eq_some_iff_findIdx_eq.mp hi;have x:i<es.size:=this.1;rw[Array.getElem?_eq_getElem x]at m
   exact nomatch m
  |some e=>
   rw[m]at f
   exact aE (o8 (bq (J e.val f)))
 |none=>
  have f:iT kvs k=ab:=by rw[<- C k,findBy_of_findIdx?,hi]
  have h:k∉kvs.map (·.1):=not_mem_of_findIdx_none (n▸hi)
  have g:¬(kvs.any λr=>decide (r.1=k))=ac:=by
   rw[any_eq_true];rintro⟨r,u,m⟩;exact h (bp.mpr ⟨r,u,of_decide_eq_true m⟩)
  refine aE (o8 (aE (wpAny_updateDictKeys (hz:=t) (s:={ s with toks:=s.toks + 1 }) p hd (bq (L f _ ⟨_,_,G + 1,rA _ p (Obj.isFreed_of_dict (Obj.data_mapDictKeys hd _)),
   M.mapDictKeys _,Obj.data_mapDictKeys hd _,E.push c _,?_,?_⟩ (jr.update ..))))))
  .rw[jq,if_neg g];have:=z.append c (knd.hash k) dv;obtain⟨l⟩:=es
   simpa using this
  .rw[jq,if_neg g,bF,jY];refine⟨hn,by simp,?_⟩;intro a ha b B;simp only[eL,map_nil,bi]at B;subst B;exact λe=>h (e▸ha)
def Q3(knd:KeyKind prog w K)(d:Addr)(key:Value)(hd:(d==h9)=ag)(dv:Value):
  MeetsIn prog w (fc.«dict.setdefault» ⟨[.ref d,key,dv],[]⟩) (λ_ R s=>∃ k kvs,knd.is k key=ac/\s.heap.DictOf knd d kvs/\kvs.length<=be /\
   (∀v,iT kvs k=aa v->R (.ok (.ret v)) {s with toks:=s.toks+1}) /\
   (iT kvs k=ab->∀h',h'.DictOf knd d (jq kvs k dv)->jr d s.heap h'->R (.ok (.ret dv)) {s with heap:=h',toks:=s.toks+1})):=
 .of_wp λA R s h=>by
  obtain⟨k,kvs,f,hm,hz,c,e⟩:=h;refine aE ?_;refine aE (y9 hm.typeIs ?_);refine bq ?_;show wpAny _ _ (if _=ac then _ else _) _ _ s;rw[hd,if_neg (λz=>nomatch z)];exact aE (Q2 f hm hz (λv g=>bq ⟨v,rfl,c v g⟩) λhn h' a b=>bq ⟨dv,rfl,e hn h' a b⟩)
end
abbrev oy(kvs more:List (Key×V)):List (Key×V):=more.foldl (λa b=>gu a b.1 b.2) kvs
def KV.mergeL{more:List (Key×V)}{b:List (Key×Value)}(a:KV more b):∀{kvs:List (Key×V)} {L:List (Key×Value)},KV kvs L->KV (oy kvs more) (merged L b):=by
 unfold KV at a
 induction a with
 |nil=>exact λh=>h
 | @cons p q ps e r _ d=>
  intro kvs L h;obtain⟨c,f⟩:=r;have:=d (h.put q.1 f);rw[<- c]at this;show KV (oy (gu kvs p.1 p.2) ps) (merged (jq L q.1 q.2) e);rw[<- c];exact this
def Q4(more:List (Key×V)):∀kvs:List (Key×V),(oy kvs more).length<=kvs.length+more.length:=by
 induction more with
 |nil=>exact λ_=>bh _
 |cons p more a=>
  intro kvs;have b:=a (gu kvs p.1 p.2);have c:=F4 kvs p.1 p.2;show(oy (gu kvs p.1 p.2) more).length<=_;rw[bg];lia
def Q5(more:List (Key×V)):∀kvs:List (Key×V),((kvs++more).map (·.1)).Nodup->oy kvs more=kvs++more:=by
 induction more with
 |nil=>exact λkvs _=>(cr kvs).symm
 |cons p more c=>
  intro kvs nd
  have a:gu kvs p.1 p.2=kvs++[p]:=by
   unfold gu;rw[if_neg];rw[any_eq_true];rintro⟨x,b,e⟩;rw[bF,eL,jY]at nd;exact nd.2.2 x.1 (bp.mpr ⟨x,b,rfl⟩) p.1 bB (of_decide_eq_true e)
  show oy (gu kvs p.1 p.2) more=_;rw[a,c (kvs++[p]) (by simpa using nd)];simp
abbrev Ib:V->LVv->Hp->VK->Prop:=λx L H Q=>∃d b kvs more,x=.ref d/\L=[.ref b]/\d≠b/\H d=aa (.dK kvs)/\Rd H b (.dK more)/\kvs.length+more.length<=be/\Q .non (upd H d (.dK (oy kvs more)))
def Q6:MtR X "dict.update" Ib:=by
 rintro B s J H x L v us Q I r p ⟨d,b,kvs,more,rfl,rfl,h,hd,j,hz,q⟩;cases r;obtain⟨u,rfl,ru⟩:=p.one;cases ru;obtain⟨t,n,c2,a,f⟩:=zU I.hok hd;obtain⟨w,o,i,c,g⟩:=mx I.hok j;refine call_meetsIn PySem.F.slot_dict_update f.typeIs PySem.F.entry_dict_update (PySem.F.args_dict_update_2 _ _) (meets_dict_update _ d b h o) ⟨c2,i,f,g,by rw[<- a.length,<- c.length];exact hz,λh' e _ m=>?_⟩;have l:∃q,h'.get? d=aa q:=let ⟨q,_,_,hq,_⟩:=e;⟨q,hq⟩;exact⟨.non,_,F8 (t':=s.toks) I (by rw[hd];exact jx) m l (zW (cP (Q4 more kvs) hz) n (c.mergeL a) e),rfl,q⟩
abbrev Ic:V->LVv->Hp->VK->Prop:=λx L H Q=>∃d kvs k v,x=.ref d/\L=[kV k,v]/\H d=aa (.dK kvs)/\(∀u,fK kvs k=aa u->Q u H)/\(fK kvs k=ab->kvs.length<be/\Q v (upd H d (.dK (gu kvs k v))))
def Q7:MtR X "dict.setdefault" Ic:=by
 rintro B s J H x L v us Q I r a ⟨d,kvs,k,i,rfl,rfl,hd,n,o⟩;cases r;obtain⟨t,u,rfl,p,h⟩:=zJ a;obtain⟨z,g,c2,b,f⟩:=zU I.hok hd;refine call_meetsIn E7 f.typeIs PySem.F.entry_dict_setdefault (PySem.F.args_dict_setdefault_3 _ _ _) (Q3 _ d t g u) ⟨k,c2,rT p,f,by rw[<- b.length];exact z,λw m=>?_,λhn h' e l=>?_⟩
 .have a:=b.val k;rw[m]at a
  cases c:fK kvs k with
  |none=>rw[c]at a;exact a.elim
  |some v=>rw[c]at a;exact⟨v,H,I.tok _,a,n v c⟩
 .have c:fK kvs k=ab:=by
   have a:=b.val k;rw[hn]at a
   cases c:fK kvs k with
   |none=>rfl
   |some v=>rw[c]at a;exact a.elim
  obtain⟨y,q⟩:=o c;have j:∃q,h'.get? d=aa q:=let ⟨q,_,_,hq,_⟩:=e;⟨q,hq⟩;have:=F4 kvs k i;exact⟨i,_,F8 I (by rw[hd];exact jx) l j (zW (by lia) g (b.put k h) e),h,q⟩
def Q8:gi X (.type "dict") (λM H Q=>∃a kvs,M=[.ref a]/\Rd H a (.dK kvs)/\∀p,H p=ab->Q (.ref p) (upd H p (.dK kvs))):=by
 rintro B s J H M ws Q I r ⟨a,kvs,rfl,rd,q⟩;obtain⟨_,rfl,d⟩:=iU r;cases d;exact Ol I rd λp s' c b=>⟨.ref p,_,b,rfl,q p c⟩
def Q9:gi X (.builtin "len") (λM H Q=>∃a kvs,M=[V.ref a]/\Rd H a (.dK kvs)/\Q (.int kvs.length) H):=by
 rintro B s J H M ws Q I r ⟨a,kvs,rfl,rd,q⟩;obtain⟨_,rfl,c⟩:=iU r;cases c;exact Oa I rd λt s' b=>⟨.int kvs.length,H,b,⟨t,rfl⟩,q⟩
def AX{pos:Pos}{i:Int}(b:Gl X x)(hm:∃t,X.mg x=aa (.int i t))(hd:NDb x:=by decide):DE c X (.Name x pos) (λ_=>aa (.int i)):=by
 obtain⟨t,hm⟩:=hm
 exact PE.imp (zw b hm (v:=.int i) ⟨t,rfl⟩ hd) λJ H Q e=>by
  obtain⟨E,H0,Hf,U,d,st,a,k⟩:=e;cases a;exact k _ Hf H (Ext.refl st.sub) rfl
def Ra{pos:Pos}:DE c X (.Dict [] [] pos) (λ_=>aa (.dic [] [])):=PE.imp Ga λJ H Q e=>by
 obtain⟨E,H0,Hf,U,d,st,a,k⟩:=e;cases a;intro q b;exact k _ _ _ (Ext.new st.sub b) ⟨q,[],rfl,bL,rfl,.nil⟩
abbrev sU(i:Nat)(f:MF1)(U:LS):Option Fl:=(f U).bind λd=>(kK d).map λr=>.nx (U.set i (.ownd r.1 r.2))
variable{f:MF1}
def Rb{pos:Pos}(i:Nat)(y:X.N.Nodup)(C:Gl X "dict")(hm:X.mg "dict"=ab)(A:DE c X e f)(hi:X.N[i]?=aa x:=by rfl)(I:Loc X.env.scope x:=by first |exact cF rfl |exact bP rfl)(h:bf [e] X.env=(ag,eval e X.env)::bf [] X.env:=by rfl)
 (G:fo (.Call (.Name "dict" p) [e] [] pos) (aa (.Name x bb)) b5.line X.env=pure ag:=by rfl)(B:LcF X x:=by first |exact .inl rfl |exact .inr rfl):
  DS c X (.Assign [.Name x bb] (.Call (.Name "dict" p) [e] [] pos) b5) (sU i f):=PS.imp (mv y hi I (pi Q8 C hm AK (bC A bM h) (by decide) (by decide) h rfl) G B) λW5 J H M=>by
 obtain⟨E,H0,Hf,U,o,t,g,k⟩:=M;unfold sU at g;obtain⟨d,u,g⟩:=cI.mp g;obtain⟨r,w,g⟩:=nk.mp g;subst g;refine⟨E,H0,Hf,U,d,t,u,λv j H' n Q=>?_⟩;obtain⟨a,L,rfl,rd,z,rs⟩:=v0 w Q;refine⟨a,r.1.zip L,rfl,rd.up n.s,λq m=>?_⟩;have b:=t.step n;exact k _ j _ n.f (b.setOwn (i:=i) (l:=q) (s:=.ownd r.1 r.2) rfl (Ext.grow b.sub (cJ m)) m (b.sub.free m) ⟨L,bL,z,rs⟩)
def Rc{r:List Key×LD}(h:f U=aa d)(h':kK d=aa r)(q:K (.nx (U.set i (.ownd r.1 r.2)))):wp (sU i f) U K:=⟨_,by unfold sU;rw[h,aG,h'];rfl,q⟩
abbrev sV(i:Nat)(f:MF1)(U:LS):Option Fl:=match U[i]? with
 |some (.ownd C M)=>(f U).bind λd=>(kK d).bind λr=>if (C++r.1).Nodup/\C.length+r.1.length<=16777216 then aa (.nx (U.set i (.ownd (C++r.1) (M++r.2)))) else ab
 | _=>ab
def Ie(h:C.length=L.length):(C.zip L).map (·.1)=C:=by
 rw[ni (by lia)]
def Re(h:PS X st (pd (tBM X.K "dict" Ib (eO i) (j8 (tD (Gx c X) f) j7)))):DS c X st (sV i f):=PS.imp h λW5 J H G=>by
 obtain⟨E,H0,Hf,U,o,m,a,k⟩:=G;unfold sV at a;split at a
 .rename_i C M es;obtain⟨d,u,a⟩:=cI.mp a;obtain⟨r,v,a⟩:=cI.mp a;split at a
  .rename_i A;have a:=cN a;subst a;obtain⟨l,p,T,B,L,q,z,Q⟩:=m.ownAt rfl es;refine⟨_,p,.inr (.inr (.inl ⟨rfl,.inl ⟨_,q⟩⟩)),E,H0,Hf,U,d,m,u,λw j H' x I=>?_⟩;obtain⟨b,us,y,rd,t,N⟩:=v0 v I;subst y;have g:j l=ab:=(x.n l _ q rfl).trans B;have hz:(C.zip L).length+(r.1.zip us).length<=be:=by rw[jl,jl,c6];lia
   refine⟨l,b,_,_,rfl,rfl,λe=>?_,x.h _ _ q,rd.up x.s,hz,?_⟩
   .subst e
    rcases rd with rd |⟨_,rd⟩ <;> (rw[g]at rd;nomatch rd)
   refine k J j _ x.f ((m.step x).mutd rfl rfl es p ⟨L++us,?_,by rw[aI,aI,z,t],(Q.up x.f).append N⟩);rw[bL,Q5 _ _ (by rw[bF,Ie z,Ie t];exact A.1),zip_append z]
  .nomatch a
 .nomatch a
def Rf{r:List Key×LD}(a:U[i]?=aa (.ownd C M))(h:f U=aa d)(h':kK d=aa r)(hn:(C++r.1).Nodup)(b:C.length+r.1.length<=16777216)(q:K (.nx (U.set i (.ownd (C++r.1) (M++r.2))))):wp (sV i f) U K:=⟨_,by
 unfold sV;rw[a];dsimp only;rw[h,aG,h',aG,if_pos ⟨hn,b⟩],q⟩
abbrev sW(i:Nat)(fk fv:MF1)(U:LS):Option Fl:=match U[i]? with
 |some (.ownd C M)=>(fk U).bind λy=>(kC y).bind λk=>(fv U).bind λd=>if nX C k=ac then aa (.nx U) else if C.length<16777216 then aa (.nx (U.set i (.ownd (C++[k]) (M++[d])))) else ab
 | _=>ab
def Rg(h:PS X st (pd (tBM X.K "dict" Ic (eO i) (j8 (tD (Gx c X) fk) (j8 (tD (Gx c X) fv) j7))))):DS c X st (sW i fk fv):=PS.imp h λW5 J H B=>by
 obtain⟨E,H0,Hf,U,o,b,a,k⟩:=B;unfold sW at a;split at a
 .rename_i C M es;obtain⟨y,p,a⟩:=cI.mp a;obtain⟨j,r,a⟩:=cI.mp a;obtain⟨d,s,a⟩:=cI.mp a;obtain⟨l,m,T,Y,L,q,z,N⟩:=b.ownAt rfl es;refine⟨_,m,.inr (.inr (.inl ⟨rfl,.inl ⟨_,q⟩⟩)),E,H0,Hf,U,y,b,p,λw al H1 n G=>⟨E,H0,al,U,d,b.step n,s,λv a0 H2 Q I=>?_⟩⟩;have t:=sA r G;subst t;have x:=n.trans Q;have g:=Pn (k:=j) z;refine⟨l,_,j,v,rfl,rfl,x.h _ _ q,λu A=>?_,λhn=>?_⟩
  .rw[A]at g;rw[if_pos (show nX C j=ac from g.symm)]at a;have a:=cN a;subst a;exact k J a0 _ x.f (b.step x)
  .rw[hn]at g;rw[if_neg (λe=>by rw[<- g]at e;nomatch e)]at a;split at a
   .rename_i hl;have a:=cN a;subst a;refine⟨by rw[jl,c6];lia,k J a0 _ x.f ((b.step x).mutd rfl rfl es m ⟨L++[v],?_,by rw[aI,aI,z];rfl,(N.up x.f).append (.cons I .nil)⟩)⟩;rw[bL,N8 v hn,zip_append z];rfl
   .nomatch a
 .nomatch a
abbrev Ig:D->OD
 |.dic C _=>aa (.int (C.length:Nat))
 |.kd C _=>aa (.int (C.length:Nat))
 | _=>ab
def Rh{G:Gc}{y:D}(e:Ig d=aa y)(r:Rep G H d v):∃a kvs,v=.ref a/\Rd H a (.dK kvs)/\y=.int (kvs.length:Nat):=by
 cases d with
 |dic C M=>
  cases e;obtain⟨a,L,rfl,q,z,_⟩:=r
  exact⟨a,_,rfl,.inl q,by rw[jl,<- z,qV]⟩
 |kd C M=>
  cases e;obtain⟨a,od,L,rfl,q,z,_⟩:=r
  exact⟨a,_,rfl,.inr ⟨od,q⟩,by rw[jl,<- z,qV]⟩
 | _=>nomatch e
abbrev mT(f:MF1)(U:LS):OD:=(f U).bind Ig
def AY{pos:Pos}(m:Gl X "len")(hm:X.mg "len"=ab)(l:DB c X e f)(b:bf [e] X.env=(ag,eval e X.env)::bf [] X.env:=by rfl):DE c X (.Call (.Name "len" p) [e] [] pos) (mT f):=
 PE.imp (vi Q9 m hm ga (bC l bM b) (by decide) (by decide) b rfl) λJ H Q n=>by
  obtain⟨E,H0,Hf,U,d,o,g,k⟩:=n;unfold mT at g;obtain⟨y,h,i⟩:=cI.mp g;refine⟨E,H0,Hf,U,y,o,h,λv j H' x r=>?_⟩;obtain⟨a,kvs,rfl,rd,rfl⟩:=Rh i r;exact⟨a,kvs,rfl,rd,k _ j H' x rfl⟩
nonrec abbrev ZpO(h:Heap)(z TI TO a:Addr)(f:Bool):Prop:=
 h.get? z=aa {cls:=.type "zip",dict:=ab,data:=.fields #[rawInt a,.bool f,.bool ag,.ref TI,.ref TO],slots:=#[]}
variable{f:Bool}{oa:Obj}
def Ih{z TI TO a:Addr}{Q:Bool->aL->Prop}(hz:ZpO s.heap z TI TO a f)(ha:s.heap.get? a=aa oa)(h:∀h',ZpO h' z TI TO a ac->jr z s.heap h'->Q ag {s with heap:=h'}):wpAny (model P w) A (u4 (.ref z)) Q W5 s:=by
 unfold u4;refine aE (lh hz rfl (x:=rawInt a) rfl ?_)
 change wpAny (model P w) _ (loadIfAlive ((a:Int).toNat) >>= _) _ _ _
 rw[qO];refine aE (W.kdx_alive ha ?_);simp only[Option.isNone_some,lZ,if_false];refine aE (lh hz rfl (x:=.bool f) rfl ?_)
 cases f with
 |true=>
  rw[if_neg (show ¬((g4 ac != g4 ac)=ac)from cq)]
  exact bq (h _ hz (jr.refl _ _))
 |false=>
  rw[if_pos (show(g4 ag != g4 ac)=ac from rfl)];exact aE (wpAny_setField_rec hz (by simp) λd b c=>bq (h d b c))
variable{M ys:Array Value}{Q:Option Value->aL->Prop}
def Ri{z TI TO a p q r t:Addr}{x y:Value}(D:ZipApart z TI TO p q r t)
 (hz:ZpO s.heap z TI TO a f)(ha:s.heap.get? a=aa oa)(u:IsPair s.heap TI (.ref p) (.ref q))
 (L:s.heap.IsListIter p r k1)(N:s.heap.IsListIter q t k2)(v:s.heap.IsList r M)(B:s.heap.IsList t ys)(U:M[k1]?=aa x)(Y:ys[k2]?=aa y)
 (T:∀ h',ZpO h' z TI TO a ac->h'.IsListIter p r (k1 + 1)->h'.IsListIter q t (k2 + 1)->IsPair h' s.heap.objs.size x y ->
   (∀c o,c≠z->c≠p->c≠q->s.heap.get? c=aa o->h'.get? c=aa o)->Q (aa (.ref s.heap.objs.size)) {s with heap:=h'}):
  wpAny (model P w) A (pyNext (.ref z)) Q W5 s:=by
 have C:s.TypeIs (.ref z) "zip":=⟨_,hz,rfl⟩;unfold pyNext;refine aE (wpAny_attempt (y4 (name:=nF "__next__") C u6 (wpAny_call_entry u6 C F.entry_zip_next ?_ (F.args_zip_next_1 _))));show wpAny _ _ (field (.ref z) 2 >>= _) _ _ _;refine aE (lh hz rfl (x:=.bool ag) rfl ?_);show wpAny _ _ (field (.ref z) 3 >>= _) _ _ _;refine aE (lh hz rfl (x:=.ref TI) rfl ?_);refine aE (rg u rfl ?_);show wpAny _ _ (u4 (.ref z) >>= _) _ _ _;refine aE (Ih hz ha λE m b=>?_);simp only[lZ,if_false];rw[<- Array.forIn_toList];simp only[forIn_cons,forIn_nil];refine aE (aE (aE (fH ?_)));show wpAny _ _ (zc (.ref p) >>= _) _ _ _;refine aE (wpAny_nextOf_list_item (L.extBut b.extBut D.i1z) (v.extBut b.extBut D.l1z) U λG i d=>bq (bq ?_));refine aE (aE (fH ?_));show wpAny _ _ (zc (.ref q) >>= _) _ _ _;refine aE (wpAny_nextOf_list_item ((N.extBut b.extBut D.i2z).extBut d.extBut D.i12.symm) ((B.extBut b.extBut D.l2z).extBut d.extBut D.l2i1) Y λh l g=>bq (bq (bq ?_)));refine aE (wpAny_newTuple (hsz:=by show 2<=be;rw[c6];decide) ?_);have hsz:h.objs.size=s.heap.objs.size:=by rw[g.1,d.1,b.1]
 have n:ZpO h z TI TO a ac:=g.extBut _ _ D.i2z.symm (d.extBut _ _ D.i1z.symm m);refine bq ⟨_,rfl,bq ?_⟩;show Q (aa (.ref h.objs.size)) _;rw[hsz];have j:=i.extBut g.extBut D.i12;refine T (h.push {cls:=.type "tuple",data:=.seq #[x,y]}) (cj _ n) (j.at λo e=>cj _ e) (l.at λo e=>cj _ e) ?_ λc o H I J e=>cj _ (g.extBut _ _ J (d.extBut _ _ I (b.extBut _ _ H e)));rw[<- hsz];exact eW _ rfl
def Rj{z TI TO a h m n I:Addr}(E:A.handled=ab)(D:ZipApart z TI TO h m n I)
 (hz:ZpO s.heap z TI TO a f)(ha:s.heap.get? a=aa oa)(i:IsPair s.heap TI (.ref h) (.ref m))(v:s.heap.IsListIter h n k1)(j:s.heap.IsList n M)(H:M[k1]?=ab)
 (y:∀h',(∀c o,c≠z->c≠h->c≠m->s.heap.get? c=aa o->h'.get? c=aa o)->Q ab {s with heap:=h'}):wpAny (model P w) A (pyNext (.ref z)) Q W5 s:=by
 have p:s.TypeIs (.ref z) "zip":=⟨_,hz,rfl⟩;unfold pyNext;refine aE (wpAny_attempt (y4 (name:=nF "__next__") p u6 (wpAny_call_entry u6 p F.entry_zip_next ?_ (F.args_zip_next_1 _))));show wpAny _ _ (field (.ref z) 2 >>= _) _ _ _;refine aE (lh hz rfl (x:=.bool ag) rfl ?_);show wpAny _ _ (field (.ref z) 3 >>= _) _ _ _;refine aE (lh hz rfl (x:=.ref TI) rfl ?_);refine aE (rg i rfl ?_);show wpAny _ _ (u4 (.ref z) >>= _) _ _ _;refine aE (Ih hz ha λq l d=>?_);simp only[lZ,if_false];rw[<- Array.forIn_toList];simp only[forIn_cons,forIn_nil];refine aE (aE (aE (fH ?_)));show wpAny _ _ (zc (.ref h) >>= _) _ _ _;refine aE (wpAny_nextOf_list_end E (v.extBut d.extBut D.i1z) (j.extBut d.extBut D.l1z) H λr e g C=>?_);obtain⟨o,G,B⟩:=C;refine aE (wpAny_isInstance (T:="StopIteration") (b:=ac) ⟨o,G,B⟩ isSubtype_stop ?_);exact bq (y _ λc o t u _ x=>g _ _ u (d.extBut _ _ t x))
abbrev ZSt(h:Heap)(D z TI TO c d:Addr):Prop:=(IsZip h z TI TO .none/\∃a b,IsPair h TO a b)\/∃a oa f,ZpO h z TI TO a f/\h.get? a=aa oa/\a≠D/\a≠z/\a≠c/\a≠d
def Rk{D z TI TO d g n p:Addr}{x y:Value}(Z:ZipApart z TI TO d g n p)(hD:D<s.heap.objs.size)
 (hz:ZSt s.heap D z TI TO d g)(h:IsPair s.heap TI (.ref d) (.ref g))(v:s.heap.IsListIter d n k)(B:s.heap.IsListIter g p k)(i:s.heap.IsList n M)(j:s.heap.IsList p ys)(J:M[k]?=aa x)(L:ys[k]?=aa y)
 (I:∀h' t,ZSt h' D z TI TO d g->h'.IsListIter d n (k+1)->h'.IsListIter g p (k+1)->IsPair h' t x y->(∀c o,c≠z->c≠TO->c≠d->c≠g->s.heap.get? c=aa o->h'.get? c=aa o)->Q (aa (.ref t)) {s with heap:=h'}):
  wpAny (model P w) A (pyNext (.ref z)) Q W5 s:=by
 have lt:∀{c:Addr} {o:Obj},s.heap.get? c=aa o->s.heap.objs.size≠c:=λe=>ma (bT e);have e1:s.heap.objs.size≠d:=by obtain⟨o,e,_⟩:=v;exact lt e
 have e2:s.heap.objs.size≠g:=by obtain⟨o,e,_⟩:=B;exact lt e
 rcases hz with⟨hz,a,b,C⟩ |⟨a,oa,f,hz,ha,N,H,E,G⟩
 .exact wpAny_pyNext_zip_item Z hz h C v B i j J L λh' q b2 r u l _ m=>I h' _ (.inr ⟨_,_,ag,q,l,ma hD,lt hz,e1,e2⟩) r u l m
 .exact Ri Z hz ha h v B i j J L λh' q r u l m=>I h' _ (.inr ⟨a,oa,ac,q,m a oa H E G ha,N,H,E,G⟩) r u l λc o T _ U Y e=>m c o T U Y e
def Rl(hh:A.handled=ab)(D z TI TO m q Q T:Addr)(Z:ZipApart z TI TO m q Q T)(U:D≠z)(DTI:D≠TI)(u:D≠TO)(D1:D≠m)(D2:D≠q)(Dl1:D≠Q)(Dl2:D≠T)(M ys:Array Value)(ps:List (Key×Value))(nd:(ps.map (·.1)).Nodup)(hz:ps.length<=1000)
 (hsz:M.size=ps.length)(pa:∀(i:Nat) (p:Key×Value),ps[i]?=aa p->∃key,M[i]?=aa key/\ys[i]?=aa p.2/\(dF P w).is p.1 key=ac):
  ∀(n i:Nat) (s:aL),i+n=ps.length->ZSt s.heap D z TI TO m q->IsPair s.heap TI (.ref m) (.ref q)->s.heap.IsList Q M->s.heap.IsList T ys->s.heap.IsListIter m Q i->s.heap.IsListIter q T i->s.heap.DictOf (dF P w) D (ps.take i) ->
   (∀h' tk,h'.DictOf (dF P w) D ps->(∀b o,b≠D->b≠z->b≠TO->b≠m->b≠q->s.heap.get? b=aa o->h'.get? b=aa o)->R (.ok (.ret .none)) {s with heap:=h',toks:=tk}) ->
   g3 (model P w) A (.builtin "dict.update.loop" ⟨[.ref D,.ref z,.int i 0,.none],[]⟩) R s:=by
 intro n
 induction n with
 |zero=>
  intro i s hi zs g h j h1 H hd k;refine nr wg ?_;rw[uW mS];unfold fc.«dict.update.loop»;dsimp only;have hx:M[i]?=ab:=yR (by lia)
  have I:∀h',(∀c o,c≠z->c≠TO->c≠m->c≠q->s.heap.get? c=aa o->h'.get? c=aa o)->R (.ok (.ret .none)) {s with heap:=h'}:=λh' kk=>by
   have e:ps.take i=ps:=m9 (by lia);rw[e]at hd;obtain⟨od,es,Y,L,r⟩:=hd;exact k h' s.toks ⟨od,es,Y,kk D od U u D1 D2 L,r⟩ λb o _ B C E G v=>kk b o B C E G v
  rcases zs with⟨hz,a,b,y⟩ |⟨a,oa,f,hz,ha,aD,az,a1,a2⟩
  .refine aE (wpAny_pyNext_zip_end (A:=A.in1) hh Z hz g y h1 H h j (.inl hx) λh' kk=>?_);dsimp only;exact aE (bq (bq (I h' kk)))
  .refine aE (Rj (A:=A.in1) hh Z hz ha g h1 h hx λh' kk=>?_);dsimp only
   exact aE (bq (bq (I h' λc o c1 _ c3 c4 e=>kk c o c1 c3 c4 e)))
 |succ n ih=>
  intro i s hi zs g h j h1 H hd k;refine nr wg ?_;rw[uW mS];unfold fc.«dict.update.loop»;dsimp only;obtain⟨p,hp⟩:∃p,ps[i]?=aa p:=⟨_,dE (by lia)⟩;obtain⟨key,e1,e2,hk⟩:=pa i p hp;have J:D<s.heap.objs.size:=by obtain⟨od,es,Y,L,r⟩:=hd;exact bT L
  refine aE (Rk Z J zs g h1 H h j e1 e2 λha t zs1 i11 i21 ht kk=>?_);dsimp only
  have hd1:ha.DictOf (dF P w) D (ps.take i):=by
   obtain⟨od,es,Y,L,r⟩:=hd;exact⟨od,es,Y,kk D od U u D1 D2 L,r⟩
  have N:ha.IsTuple t #[key,p.2]:=⟨_,ht,rfl,_,rfl⟩;refine aE (fH (aE (wpAny_tryCatch ?_)));unfold E2
  refine aE (mh (s:={s with heap:=ha}) N.typeIs ?_)
  rw[if_pos (by decide)];obtain⟨o,v,oc,nn,od⟩:=id N;refine aE (rg v od ?_);refine bq ?_;show wpAny _ _ (gb [key,p.2] (dictSet D key p.2)) _ _ _;refine fH (wpAny_dictSet_pairs (kvs:=ps.take i) hk hd1 (λH d2 d=>?_) (by rw[iR,c6];lia))
  have l:ps=ps.take i++p::ps.drop (i+1):=by
   have h0:i<ps.length:=by lia
   have:ps[i]=p:=by rw[dE h0]at hp;exact cN hp
   rw[<- this,<- uJ h0,take_append_drop]
  have hst:jq (ps.take i) p.1 p.2=ps.take (i+1):=by
   unfold jq
   have hno:((ps.take i).any λkv=>decide (kv.1=p.1))=ag:=by
    rw[any_eq_false];intro kv hkv hc;rw[l,bF,eL]at nd;have:=(jY.mp nd).2.2 kv.1 (bp.mpr ⟨kv,hkv,rfl⟩) p.1 bB;exact this (of_decide_eq_true hc)
   rw[if_neg (by rw[hno];exact cq),qS,hp];rfl
  rw[hst]at d2;have ke:∀b o,b≠D->b≠z->b≠TO->b≠m->b≠q->s.heap.get? b=aa o->H.get? b=aa o:=λb o hb B C E G v=>(d.2 b hb).trans (kk b o B C E G v);refine bq ⟨o4 mS _,?_⟩
  refine ih (i+1) {s with heap:=H,toks:=s.toks+1} (by lia) ?_ ?_ ?_ ?_ ?_ ?_ d2 λh' tk hd' kp=>k h' tk hd' λb o hb B C E G v=>kp b o hb B C E G (ke b o hb B C E G v)
  .rcases zs1 with⟨hz,a,b,y⟩ |⟨a,oa,f,hz,ha,aD,az,a1,a2⟩
   .exact .inl ⟨(d.2 z (cE U)).trans hz,a,b,(d.2 TO (cE u)).trans y⟩
   .exact .inr ⟨a,oa,f,(d.2 z (cE U)).trans hz,(d.2 a aD).trans ha,aD,az,a1,a2⟩
  .exact ke TI _ (cE DTI) Z.TIz Z.TITO Z.TIi1 Z.TIi2 g
  .obtain⟨o',x,r'⟩:=h;exact⟨o',ke Q o' (cE Dl1) Z.l1z Z.l1TO Z.l1i1 Z.l1i2 x,r'⟩
  .obtain⟨o',x,r'⟩:=j;exact⟨o',ke T o' (cE Dl2) Z.l2z Z.l2TO Z.l2i1 Z.l2i2 x,r'⟩
  .exact i11.at λo e=>(d.2 m (cE D1)).trans e
  .exact i21.at λo e=>(d.2 q (cE D2)).trans e
def Rm:o7 (.type "zip") "keys"=pure ab:=by rw[typeLookup_type,y8];kernel_rfl
def Rn:o7 (.type "zip") "__getattr__"=pure ab:=by rw[typeLookup_type,y8];kernel_rfl
def Rp:entryFor table "zip.__getattribute__"=aa fc.«object.__getattribute__»:=
 entryFor_alias (id':="object.__getattribute__") (by kernel_rfl) (by decide +kernel) (by decide +kernel) (by kernel_rfl)
def Rq(a TI TO:Addr)(name:Str)(u:Tok)(e:o7 (.type "zip") name=pure ab)(b:(["__module__","__name__","__qualname__","__doc__","__annotations__"]:LSt).contains name=ag)(hsz:name.length+100<=be:=by size_fits):
  Meets (fc.«object.__getattribute__» ⟨[.ref a,.str name u],[]⟩) (λA R s=>IsZip s.heap a TI TO .none/\raisesAttr (.ref a) name A R s):=
 Meets.of_wp λprog w A R s c=>by
  obtain⟨f,g,d,i,os⟩:=s;obtain⟨h,c⟩:=c;have j:(⟨f,g,d,i,os⟩:aL).TypeIs (.ref a) "zip":=⟨_,h,rfl⟩;unfold fc.«object.__getattribute__»
  repeat (any_goals (first |assumption |wp_step))
  simp only[b,lZ,if_false]
  repeat (any_goals (first |assumption |wp_step))
  exact wpAny_raiseAttrError c.1 c.2 (attrMsg_fits (by decide +kernel) hsz)
def Rr{z TI TO:Addr}(m:A.handled=ab)(g:IsZip s.heap z TI TO .none)
 (h:∀h' q,(∀b o,s.heap.get? b=aa o->h'.get? b=aa o)->Q ab {s with heap:=h',toks:=q}):wpAny (model P w) A (getAttr? (.ref z) "keys") Q W5 s:=by
 obtain⟨n,j,i,v,p⟩:=s;have f:∀c,(⟨n,j,i,c,p⟩:aL).TypeIs (.ref z) "zip":=λ_=>⟨_,g,rfl⟩;have r:=sub_AttributeError;have t:=zi.lookup;have u:=zi.bind (.ref z);have d:=Rn;unfold getAttr?;unfold getAttrBy?;unfold getAttrBy
 repeat (any_goals (first |assumption |exact f _ |((with_reducible show wpAny _ _ (call (Value.builtin "zip.__getattribute__") _ _) _ _ _);refine mi zi (f _) Rp (PySem.F.args_zip_getattribute_2 _ _) (Rq z TI TO "keys" _ Rm (by decide)) ⟨g,m,λh' c e a=>?_⟩) |wp_step))
 obtain⟨ta,x,l⟩:=a.there
 show wpAny _ _ (uR _ _ _ _ _ _ _) _ _ _;unfold uR;repeat any_goals (first |assumption |wp_step)
 exact h _ _ a.keeps
def Rs{z TI TO q t u v:Addr}{ps:List (Key×Value)}{a b:Value}{Q:PRS}(H:A.handled=ab)(Z:ZipApart z TI TO q t u v)
 (hz:IsZip s.heap z TI TO .none)(j:IsPair s.heap TI (.ref q) (.ref t))(l:IsPair s.heap TO a b)(E:s.heap.IsListIter q u 0)(G:s.heap.IsListIter t v 0)(m:s.heap.IsList u M)(n:s.heap.IsList v ys)
 (nd:(ps.map (·.1)).Nodup)(hsz:ps.length<=1000)(x:M.size=ps.length)(pa:∀(i:Nat) (p:Key×Value),ps[i]?=aa p->∃key,M[i]?=aa key/\ys[i]?=aa p.2/\(dF P w).is p.1 key=ac)
 (h:∀h' B,h'.DictOf (dF P w) s.heap.objs.size ps->(∀b o,b≠z->b≠TO->b≠q->b≠t->s.heap.get? b=aa o->h'.get? b=aa o)->Q (.ref s.heap.objs.size) {s with heap:=h',toks:=B}):
  wpAny (model P w) A (call (.type "dict") [.ref z]) Q W5 s:=by
 refine callType_codes (Q₁:=λobj d=>obj=.ref s.heap.objs.size/\d={s with heap:=s.heap.push {cls:=.type "dict",data:=.dict #[]}}) PySem.F.kt_called_dict (Fa _) PySem.F.entry_dict_init (kt_code_dict_new _ ⟨rfl,rfl⟩) ?_
 rintro obj d ⟨rfl,rfl⟩;have c:(s.heap.push {cls:=.type "dict",data:=.dict #[]}).DictOf (dF P w) s.heap.objs.size []:=zn s.heap;have f:∀b o,s.heap.get? b=aa o->(s.heap.push {cls:=.type "dict",data:=.dict #[]}).get? b=aa o:=λb o e=>cj _ e;refine⟨c.typeIs,PySem.F.args_dict_init_2 _ _,?_⟩;unfold fc.«dict.__init__»;refine aE ?_;unfold E1;refine aE (y9 c.typeIs ?_);show wpAny _ _ (pure (s.heap.objs.size,[gt z])) _ _ _;refine bq ?_;show wpAny _ _ (uX "dict.__init__" s.heap.objs.size (.ref z) [] .none) _ _ _
 have y:({s with heap:=s.heap.push {cls:=.type "dict",data:=.dict #[]}}:aL).TypeIs (.ref z) "zip":=⟨_,f _ _ hz,rfl⟩
 unfold uX;refine aE (mh y ?_);rw[if_pos (by decide)];refine aE (Rr H (f _ _ hz) λg C k2=>?_);simp only[Option.isNone_none,if_true];refine aE (o8 ?_);have up:∀b o,s.heap.get? b=aa o->g.get? b=aa o:=λb o e=>k2 b o (f b o e)
 refine aE (wpAny_pyIter_zip (s:={s with heap:=g,toks:=C}) (up _ _ hz) ?_)
 have ne:∀{b:Addr} {o:Obj},s.heap.get? b=aa o->s.heap.objs.size≠b:=λe=>ma (bT e);refine bq ⟨o4 mS _,?_⟩;refine Rl (A:=A.in1) H s.heap.objs.size z TI TO q t u v Z (ne hz) (ne j) (ne l) ?_ ?_ ?_ ?_ M ys ps nd hsz x pa ps.length 0 _ (uP _) (.inl ⟨up _ _ hz,a,b,up _ _ l⟩) (up _ _ j) ?_ ?_ (E.at λo e=>up _ _ e) (G.at λo e=>up _ _ e) ?_ λh' B hd kp=>?_
 .obtain⟨o,e,_⟩:=E;exact ne e
 .obtain⟨o,e,_⟩:=G;exact ne e
 .obtain⟨o,e,_⟩:=m;exact ne e
 .obtain⟨o,e,_⟩:=n;exact ne e
 .obtain⟨o,e,r⟩:=m;exact⟨o,up _ _ e,r⟩
 .obtain⟨o,e,r⟩:=n;exact⟨o,up _ _ e,r⟩
 .obtain⟨od,es,T,U,r⟩:=c;exact⟨od,es,T,k2 _ _ U,r⟩
 .exact⟨rfl,h h' B hd λb o I J L N e=>kp b o (cE (ne e)) I J L N (up b o e)⟩
def KV.zip:∀{C:List Key} {us:LVv} {ws:LVa},ba us ws->KV (C.zip us) (C.zip ws)
 | [],_,_,_=>.nil
 | _::_,_,_,.nil=>.nil
 | _::_,_,_,.cons r t=>.cons ⟨rfl,r⟩ (KV.zip t)
abbrev Rt(K:br)(ta:TA):TE:=λJ H Q=>ta J H λL H1=>∃(a b:Addr) (C:List Key) (us:LVv),L=[.ref a,.ref b]/\SqL K H1 a (C.map kV)/\SqL K H1 b us/\C.length=us.length/\C.Nodup/\C.length<=1000/\∀p,H1 p=ab->Q (.ref p) (upd H1 p (.dK (C.zip us)))
variable{pos0:Pos}
def Ru{pos:Pos}(hc:X.calm=ac)(G:Gl X "dict")(T:X.mg "dict"=ab)(hg:Gl X "zip")(hm:X.mg "zip"=ab)(ha:PA X [a,b] ta)(hs:bf [a,b] X.env=[(ag,eval a X.env),(ag,eval b X.env)]:=by rfl)(j:bf [b] X.env=[(ag,eval b X.env)]:=by rfl)
 (l:bf [.Call (.Name "zip" p) [a,b] [] pos] X.env=(ag,eval (.Call (.Name "zip" p) [a,b] [] pos) X.env)::bf [] X.env:=by rfl):
  PE X (.Call (.Name "dict" p0) [.Call (.Name "zip" p) [a,b] [] pos] [] pos0) (Rt X.K ta):=by
 intro B s J H Q I h;refine md (j6 I G T AK (nq ?_ l rfl) (by decide) (by decide));rw[l];show wpAny _ _ (spliced ((ag,eval (.Call (.Name "zip" p) [a,b] [] pos) X.env)::d5 pos0 (bf [] X.env))) _ _ s;refine lj ?_;refine Call_ (j6 I hg hm boot_zip (nq (thn (ha pos B s J H _ I h) λus s1 ⟨L,H1,g,y,U⟩=>?_) (by rw[hs,j]) (by rw[j];rfl)));obtain⟨l1,l2,C,ws,e,U,q2,hl,nd,hz,q⟩:=U;subst e;obtain⟨u,v,rfl,ru,rv⟩:=zJ y;subst ru;subst rv;obtain⟨m,y,p1,z1⟩:=g.list U;obtain⟨d,Y,p2,z2⟩:=g.list q2;have e1:=y.length;have e2:=Y.length;rw[ay]at e1;refine call_zip_2 p1.isList p2.isList λh' a1 a2 a3 a4 a5 a6 z=>u5 ?_;have hps:(C.zip d).length=C.length:=by rw[jl];lia
 have lt:∀{c:Addr} {o:Obj},s1.heap.get? c=aa o->c<s1.heap.objs.size:=λe=>bT e;have M:h'.IsList l1 m.toArray:=by obtain⟨o,e,r⟩:=p1.isList;exact⟨o,z _ _ e,r⟩
 have N:h'.IsList l2 d.toArray:=by obtain⟨o,e,r⟩:=p2.isList;exact⟨o,z _ _ e,r⟩
 refine Rs (s:={s1 with heap:=h'}) (ps:=C.zip d) (g.ok.hd hc) (zipApart_new p1.lt p2.lt) a1 a2 a3 a4 a5 M N (by rw[ni (by lia)];exact nd) (by lia) (by rw[size_toArray];lia) (λi pr hp=>?_) λA tk hd kp=>?_
 .obtain⟨i1,i2⟩:=List.getElem?_zip_eq_some.mp hp;obtain⟨u,eu,rk⟩:=y.get (x:=kV pr.1) (i:=i) (by rw[gf,i1];rfl);exact⟨u,by rw[uH];exact eu,by rw[uH];exact i2,rT rk⟩
 .have E:A.DictOf (dF X.prog X.w) h'.objs.size (C.zip d):=hd;have f:s1.heap.objs.size<=h'.objs.size:=by lia
  refine⟨.ref _,_,g.laid (t':=tk) (a:=h'.objs.size) (λb o e=>?_) f (o:=.dK (C.zip ws)) ⟨?_,?_,C.zip d,KV.zip Y,E⟩,rfl,q _ (g.hok.fresh f)⟩
  .have t:∀n,b≠s1.heap.objs.size+n:=λn=>cu (f9 (lt e) (y0 _ _));exact kp b o (t 4) (t 3) (t 0) (t 1) (z b o e)
  .rw[jl,c6];lia
  .exact beq_eq_false_iff_ne.mpr (cE (cu (f9 g.big f)))
abbrev qe:LD->Option (List Key)
 | []=>aa []
 |d::ds=>(kC d).bind λk=>(qe ds).map λr=>k::r
def Ii{G:Gc}{H:Hp}:∀{ds:LD} {L:LVv} {C:List Key},qe ds=aa C->aF G H ds L->L=C.map kV
 | [],L,C,e,r=>by
  cases e
  exact r
 |d::ds,L,C,e,r=>by
  obtain⟨v,vr,rfl,f,c⟩:=r;obtain⟨k,a,e⟩:=cI.mp e;obtain⟨q,b,e⟩:=nk.mp e;subst e;rw[sA a f,Ii b c];rfl
abbrev AZ:LD->OD
 | [x,y]=>(lsD x).bind λM=>(lsD y).bind λys=>(qe M).bind λC=>if C.Nodup/\C.length=ys.length/\C.length<=1000 then aa (.dic C ys) else ab
 | _=>ab
abbrev wt(f:MF2)(U:LS):OD:=(f U).bind AZ
def Rv{pos:Pos}{f:MF2}(G:X.calm=ac)(i:Gl X "dict")(l:X.mg "dict"=ab)(I:Gl X "zip")(hm:X.mg "zip"=ab)(ha:DA c X [a,b] f)(N:bf [a,b] X.env=[(ag,eval a X.env),(ag,eval b X.env)]:=by rfl)(n:bf [b] X.env=[(ag,eval b X.env)]:=by rfl)
 (t:bf [.Call (.Name "zip" p) [a,b] [] pos] X.env=(ag,eval (.Call (.Name "zip" p) [a,b] [] pos) X.env)::bf [] X.env:=by rfl):DE c X (.Call (.Name "dict" p0) [.Call (.Name "zip" p) [a,b] [] pos] [] pos0) (wt f):=
 PE.imp (Ru G i l I hm ha.pa N n t) λJ H Q q_=>by
  obtain⟨E,H0,Hf,U,d,st,e,k⟩:=q_;unfold wt at e;obtain⟨ds,y,e⟩:=cI.mp e;refine⟨E,H0,Hf,U,ds,st,y,λL j H' x r=>?_⟩;unfold AZ at e;split at e
  .rename_i x1 y1;obtain⟨M,z,e⟩:=cI.mp e;obtain⟨ys,A,e⟩:=cI.mp e;obtain⟨C,B,e⟩:=cI.mp e;split at e
   .rename_i v;have e:=cN e;subst e;obtain⟨v1,v2,rfl,r1,r2⟩:=r.two;obtain⟨T,c2,rfl,q1,u⟩:=i0 z r1;obtain⟨Y,g,rfl,q2,h⟩:=i0 A r2;have:=Ii B u;subst this;have hl:=h.length;refine⟨T,Y,C,g,rfl,x.s.seq q1,x.s.seq q2,by lia,v.1,v.2.2,λq m=>?_⟩;have w:=Ext.new (o:=.dK (C.zip g)) x.s m;exact k _ _ _ (x.trans w) ⟨q,g,rfl,bL,by lia,h.up w.f⟩
   .nomatch e
  .nomatch e
section
variable{prog:du}{w:World}{K:Type}[DecidableEq K]{knd:KeyKind prog w K}{A:dQ}{W5:PRS}{s:aL}
nonrec abbrev A0(knd:KeyKind prog w K)(kvs:List (K×Value))(i:Nat)(v:Value):Prop:=∃k x,kvs[i]?=aa (k,x)/\knd.is k v=ac
def Rw{R:Result->aL->Prop}(hh:A.handled=ab){d:Addr}{kvs:List (K×Value)}{l:Nat}(hd:(d==h9)=ag)(hm:s.heap.DictAt knd d kvs l)(S:Addr)(B:Value)(t:Nat)(E:s.heap.get? S=aa {cls:=.type "list",data:=.seq #[] t})
 (hR:∀ h' tk a r,(∀ b o,b≠S->s.heap.get? b=aa o->h'.get? b=aa o)->h'.get? S=aa { cls:=.type "list",dict:=ab,data:=.seq a r,slots:=#[] } ->
   ItemsOf (A0 knd kvs) a kvs.length->R (.ok (.ret B)) {s with heap:=h',toks:=tk})(hn:kvs.length<=be):
  wpAny (model prog w) A.in1 (uZ (.ref S) (.ref d) B)
   (λC s'=>match C with |.done f=>R (.ok f) s' |.again r=>r.quiet=ac/\g3 (model prog w) A r R s') (λe s'=>R (.error e) s') s:=by
 obtain⟨od,es,Q,hr⟩:=id hm;have N:s.heap.DictOf knd d kvs:=⟨od,es,l,Q,hr⟩;have I:s.TypeIs (.ref d) "dict":=N.typeIs
 have n:S≠d:=λz=>by
  subst z;obtain⟨o,e,c⟩:=I;rw[E]at e;cases e;exact absurd (show ln "list"=ln "dict" from c) (by decide)
 have m:S≠s.heap.objs.size:=cu (bT E);have J:d≠s.heap.objs.size:=cu (bT Q)
 have H:S∉[s.heap.objs.size,d]:=λh=>by
  rcases bZ.mp h with e |e
  .exact m e
  .exact n (bi.mp e)
 unfold uZ;refine aE (mh I ?_)
 have U:fc.List.listSameRef (.ref S) (.ref d)=ag:=by
  show(S==d)=ag;exact beq_eq_false_iff_ne.mpr n
 have Y:(ln "dict" == ln "list")=ag:=by decide
 have h3:(ln "dict" == ln "tuple")=ag:=by decide
 simp only[U,Y,h3,Bool.or_false,lZ,if_false];refine aE (wpAny_pyIter_dict hd hm ?_)
 have q:({s with heap:=s.heap.push {cls:=.type "dict_keyiterator",data:=.fields #[.ref d,rawInt 0,rawInt kvs.length,rawInt l]}}:aL).TypeIs (.ref d) "dict":=by
  obtain⟨o,e,c⟩:=I;exact⟨o,cj _ e,c⟩
 refine aE (fH ?_);unfold fc.List.listLengthHint;refine aE (wpAny_specialOf q PySem.F.slot_dict_len.lookup ?_)
 wp_delta
 refine aE (wpAny_isInstance q (b:=ac) (by rw[isSubtype_type];kernel_rfl) ?_);show wpAny _ _ (typeOf (gt d) >>= _) _ _ _;refine aE (mh q ?_);refine bq ?_;rw[if_pos (by decide)];refine aE (o8 ?_);refine aE ?_;show wpAny _ _ (updateSeq S (·.push .none) >>= λ_=>updateSeq S (·.pop)) _ _ _;have g:=cj {cls:=.type "dict_keyiterator",data:=.fields #[.ref d,.int 0 0,.int kvs.length 0,.int l 0]} E;refine aE (wpAny_updateSeq g rfl ?_);have i:=rA (iG (·.push pb)) g rfl;refine wpAny_updateSeq (hz:=by seq_fits) i rfl ?_;have p:=rA (iG (·.pop)) i rfl
 have y:∀b o,b≠S->s.heap.get? b=aa o->(((s.heap.push {cls:=.type "dict_keyiterator",data:=.fields #[.ref d,.int 0 0,.int kvs.length 0,.int l 0]}).update S (iG (·.push pb))).update S (iG (·.pop))).get? b=aa o:=λb o v e=>
  (nC _ _ (cE v)).trans ((nC _ _ (cE v)).trans (cj _ e))
 have L:(((s.heap.push {cls:=.type "dict_keyiterator",data:=.fields #[.ref d,.int 0 0,.int kvs.length 0,.int l 0]}).update S (iG (·.push pb))).update S (iG (·.pop))).IsKeyIter s.heap.objs.size d 0 kvs.length l:=
  ⟨_,(nC _ _ m).trans ((nC _ _ m).trans (eW _ rfl)),rfl,rfl⟩
 have M:(((s.heap.push {cls:=.type "dict_keyiterator",data:=.fields #[.ref d,.int 0 0,.int kvs.length 0,.int l 0]}).update S (iG (·.push pb))).update S (iG (·.pop))).DictAt knd d kvs l:=hm.at' λo e=>y d o (cE n) e;refine bq ⟨o4 F.plain_extend_loop _,codeAny_extend_loopS (Walks.dictKeys (A:=A.in1) hh s.heap.objs.size d J kvs l).toS hn _ H _ kvs.length 0 _ _ _ rfl (gg _) ⟨L,M⟩ p (ItemsOf.nil _) λs' a r x G u=>?_⟩;rw[Moved.eq_with x];refine hR s'.heap s'.toks a r (λb T v e=>x.heap b T (λj=>?_) (y b T v e)) G u
 rcases bZ.mp j with e' |j
 .exact v e'
 .exact absurd (bT e) (by rw[bi.mp j];exact jZ _)
def Rx{R:Result->aL->Prop}(t:A.handled=ab){d:Addr}{kvs:List (K×Value)}{r:Nat}(hd:(d==h9)=ag)(hm:s.heap.DictAt knd d kvs r)(S:Addr)(p:d≠S)(m:s.heap.get? S=aa {cls:=.type "list",data:=.seq #[]})
 (hR:∀ h' q a g,(∀ b o,b≠S->s.heap.get? b=aa o->h'.get? b=aa o)->h'.get? S=aa { cls:=.type "list",dict:=ab,data:=.seq a g,slots:=#[] } ->
   ItemsOf (A0 knd kvs) a kvs.length->R (.ok (.ret .none)) {s with heap:=h',toks:=q})(hn:kvs.length<=be):
  wpAny (model prog w) A.in1 (fc.«list.__init__» ⟨[.ref S,.ref d],[]⟩)
   (λl s'=>match l with |.done f=>R (.ok f) s' |.again g=>g.quiet=ac/\g3 (model prog w) A g R s') (λe s'=>R (.error e) s') s:=by
 show wpAny _ _ (do let old <- E4 (.ref S);fc.List.listUpdate (.ref S) (λ_=>#[]);letGo old.toList.reverse;uZ (.ref S) (.ref d) .none) _ _ s
 refine aE ?_;unfold E4;refine aE (rg m rfl (bq ?_));show wpAny _ _ (updateSeq S (λ_=>#[]) >>= λ_=>letGo (#[]:Array Value).toList.reverse >>= λ_=>uZ (.ref S) (.ref d) .none) _ _ s;refine aE (wpAny_updateSeq m rfl ?_);have c:=rA (iG (λ_=>(#[]:Array Value))) m rfl
 have i:∀b o,b≠S->s.heap.get? b=aa o->(s.heap.update S (iG (λ_=>(#[]:Array Value)))).get? b=aa o:=
  λb o j e=>(nC _ _ (cE j)).trans e
 refine aE (wpAny_letGo ?_);refine Rw t hd (hm.at' λo e=>i d o p e) S .none _ c (λh' q a g u n h=>?_) hn;exact hR h' q a g (λb o j e=>u b o j (i b o j e)) n h
def Ry{Q:PRS}(q:A.handled=ab){d:Addr}{kvs:List (K×Value)}{n:Nat}(hd:(d==h9)=ag)(hm:s.heap.DictAt knd d kvs n)
 (p:∀ h' l a h,(∀ b o,s.heap.get? b=aa o->h'.get? b=aa o) ->
   h'.get? s.heap.objs.size=aa {cls:=.type "list",dict:=ab,data:=.seq a h,slots:=#[]}->ItemsOf (A0 knd kvs) a kvs.length->Q (.ref s.heap.objs.size) {s with heap:=h',toks:=l})(hn:kvs.length<=be):
  wpAny (model prog w) A (call (.type "list") [.ref d]) Q W5 s:=by
 have j:d≠s.heap.objs.size:=by obtain⟨o,es,t,_⟩:=hm;exact cu (bT t)
 refine callType_codes (Q₁:=λobj c=>obj=.ref s.heap.objs.size/\c={s with heap:=s.heap.push {cls:=.type "list",data:=.seq #[]}}) F.called_list (F.typeCall_list_1 _) F.entry_list_init
  (code_list_new _ ⟨rfl,rfl⟩) λobj c g=>?_
 obtain⟨rfl,rfl⟩:=g;have m:(s.heap.push {cls:=.type "list",data:=.seq #[]}).get? s.heap.objs.size=aa {cls:=.type "list",data:=.seq #[]}:=eW _ rfl;refine⟨⟨_,m,rfl⟩,F.args_list_init_2 _ _,Rx (A:=A.in1) q hd (hm.at' λo e=>cj _ e) _ j m (λh' l a h r i f=>?_) hn⟩;exact⟨rfl,p h' l a h (λb o e=>r b o (cu (bT e)) (cj _ e)) i f⟩
end
def Ij:∀{M:LVv} {its:LVa},M.length=its.length->(∀(i:Nat) x u,M[i]?=aa x->its[i]?=aa u->aZ x u)->ba M its
 | [],[],_,_=>.nil
 |x::M,u::its,hl,h=>.cons (h 0 x u rfl rfl) (Ij (Nat.succ.inj hl) λi y w a b=>h (i+1) y w a b)
 | [],_::_,hl,_=>nomatch hl
 | _::_,[],hl,_=>nomatch hl
def Rz(U:X.calm=ac):gi X (.type "list") (λM H Q=>∃a od kvs,M=[.ref a]/\H a=aa (.frz od (.dK kvs))/\∀p,H p=ab->Q (.ref p) (upd H p (.lst (kvs.map λe=>kV e.1)))):=by
 rintro B s J H M ws Q I r ⟨a,od,kvs,rfl,N,q⟩;obtain⟨_,rfl,r1⟩:=iU r;cases r1;obtain⟨ho,z,ns,L,d,m,es,E,l,f,h,kk,pp,nd⟩:=I.hok a _ N;have hm:s.heap.DictAt _ a L E:=⟨m,es,l,f,h,kk,pp,nd⟩;have hl:=d.length;refine Ry (I.ok.hd U) ns hm (λh' tk b v kp T c=>?_) (by lia);obtain⟨hsz,j⟩:=c;have g:b.toList.length=kvs.length:=by rw[uD,hsz,hl]
 refine⟨.ref _,_,I.laid (t':=tk) kp (bh _) (o:=.lst (kvs.map λe=>kV e.1)) ⟨by rw[ay];exact z,b.toList,v,Ij (by rw[ay,g]) λi x u n w=>?_,by rw[Array.toArray_toList];exact T⟩,rfl,q _ I.fresh⟩;rw[gf]at n;obtain⟨e,C,rfl⟩:=nk.mp n;obtain⟨k,y,G,Y⟩:=j i u (by rw[<- uC];exact w);obtain⟨w',t,A,_⟩:=KV.get d C;rw[G]at t;cases t;rw[A];exact PK Y
abbrev A1(f:MF1)(U:LS):OLD:=(f U).bind PM
variable{f:MF1}
def RA{pos:Pos}(u:X.calm=ac)(A:Gl X "list")(hm:X.mg "list"=ab)(w:DE c X e f)(b:bf [e] X.env=(ag,eval e X.env)::bf [] X.env:=by rfl):DO c X (.Call (.Name "list" p) [e] [] pos) (A1 f):=
 PE.imp (pi (Rz u) A hm boot_list (bC w bM b) (by decide) (by decide) b rfl) λJ H Q I=>by
  obtain⟨E,H0,Hf,U,ds,N,n,k⟩:=I;unfold A1 at n;obtain⟨d,o,m⟩:=cI.mp n;refine⟨E,H0,Hf,U,d,N,o,λv j H' x r=>?_⟩
  cases d with
  |kd C M=>
   cases m;obtain⟨a,od,L,rfl,q,z,_⟩:=r;refine⟨a,od,_,rfl,x.s _ _ q,λl i=>?_⟩;have y:j l=ab:=x.s.free i;refine k l _ j _ (x.trans (Ext.tmp x.s i)) (aR.free x.h i) y bL ?_
   have t:(C.zip L).map (λG=>kV G.1)=C.map kV:=by
    have:=map_map (g:=kV) (f:=Prod.fst) (l:=C.zip L);rw[ni (by lia)]at this;exact this.symm
   rw[t]
   have go:∀C:List Key,aF (Gx c X) j (C.map kD) (C.map kV):=λC=>by
    induction C with
    |nil=>exact rfl
    |cons k C B=>exact .cons (PL k) B
   exact go C
  | _=>nomatch m
abbrev A2(x y z:D):OD:=(kK x).bind λp=>(kC y).map λk=>(iL p.1 p.2 k).getD z
abbrev sX(f g h:MF1)(U:LS):OD:=(f U).bind λx=>(g U).bind λy=>(h U).bind λz=>A2 x y z
variable{cpos:Pos}
def RB(hu:X.A.units+64<cLine){g:MF1}(ho:DE c X o f)(hk:DE c X a g)(hx:DE c X b h)(m:M2 X o "get" apos a b cpos):DE c X (.Call (.Attribute o "get" apos) [a,b] [] cpos) (sX f g h):=
 PE.imp (Oj (by lia) ho hk hx m) λJ H Q q_=>by
  obtain⟨E,H0,Hf,U,d,st,e,k⟩:=q_;unfold sX at e;obtain⟨x,I,e⟩:=cI.mp e;obtain⟨y,M,e⟩:=cI.mp e;obtain⟨z,N,e⟩:=cI.mp e;obtain⟨p,T,e⟩:=cI.mp e;obtain⟨n,Y,e⟩:=nk.mp e;refine⟨E,H0,Hf,U,x,st,I,λv al H1 j r1=>?_⟩;obtain⟨l,L,ev,rd,z0,r⟩:=v0 T r1;subst ev;refine⟨l,rfl,.inl ⟨_,rd.up j.s⟩,E,H0,al,U,y,st.step j,M,λu a0 H2 C r2=>⟨E,H0,a0,U,z,(st.step j).step C,N,λw q G x3 r3=>?_⟩⟩;have eu:=sA Y r2;subst eu;have i:=C.trans x3;refine⟨fK (p.1.zip L) n,.inl ⟨_,n,(rd.up j.s).up i.h,rfl,rfl⟩,k _ q G (j.trans i) ?_⟩;obtain⟨h1,h2⟩:=AE (k:=n) z0 (r.up i.f);subst e
  cases B:iL p.1 p.2 n with
  |none=>rw[h2 B];exact r3
  |some d=>
   obtain⟨w',hw,t⟩:=h1 d B;rw[hw];exact t
abbrev RC:D->OLD
 |.tup M=>aa M
 | _=>ab
abbrev A3(f:MF1)(l h:LS->Option (Option Int))(U:LS):OD:=(f U).bind λd=>(RC d).bind λds=>(l U).bind λlo=>(h U).bind λhi=>if HT.sIx ds.length 0 lo=0/\HT.sIx ds.length ds.length hi=ds.length then ab else aa (.tup (pM ds lo hi))
def RD{pos:Pos}{l h:LS->Option (Option Int)}{lo hi:Option Expr}(ha:DE c X e f)(N:DPt c X lo l)(I:DPt c X hi h):DE c X (.Subscript e (.Slice lo hi ab p2) pos) (A3 f l h):=
 PE.imp (zN NO ha N I) λJ H Q Y=>by
  obtain⟨E,H0,Hf,U,rs,st,b,k⟩:=Y;unfold A3 at b;obtain⟨d,A,b⟩:=cI.mp b;obtain⟨ds,u,b⟩:=cI.mp b;obtain⟨j,B,b⟩:=cI.mp b;obtain⟨g,C,b⟩:=cI.mp b;split at b
  .nomatch b
  .rename_i hn;have b:=cN b;subst b;refine⟨E,H0,Hf,U,d,st,A,λv al H1 m r1=>⟨E,H0,al,U,j,st.step m,B,λa0 H2 n=>⟨E,H0,a0,U,g,(st.step m).step n,C,λz H3 t=>?_⟩⟩⟩
   cases d with
   |tup M=>
    cases u;obtain⟨a,L,G,q,r⟩:=r1;subst G;have x:=(m.trans n).trans t;have y:=n.trans t;have i:=r.length;refine⟨a,L,rfl,SqT.of (y.h _ _ (m.s _ _ q)),by rw[<- i];exact hn,λp T=>?_⟩;have w:=Ext.new (o:=.tup (nL L j g)) t.s T
    exact k _ _ _ (x.trans w) ⟨p,_,rfl,bL,(GD (r.up y.f) _ _).up w.f⟩
   | _=>nomatch u
abbrev oz(t:MF4)(f g:MF2)(U:LS):OLD:=(t U).bind λb=>if b then f U else g U
def Ik{pos:Pos}{t:MF4}{f g:MF2}(o:DT c X cd t)(ha:DO c X a f)(n:DO c X b g):DO c X (.IfExp cd a b pos) (oz t f g):=PE.imp (zx o ha n) λJ H Q p=>by
 obtain⟨E,H0,Hf,U,d,st,e,k⟩:=p;unfold oz at e;obtain⟨x,m,e⟩:=cI.mp e;refine⟨E,H0,Hf,U,x,st,m,λal H1 i=>?_⟩
 cases x with
 |true=>rw[if_pos rfl]at e ⊢;exact⟨E,H0,al,U,d,st.step i,e,λl L a0 H2 j hn=>k l L a0 H2 (i.trans j) (i.h.free hn)⟩
 |false=>rw[if_neg cq]at e ⊢;exact⟨E,H0,al,U,d,st.step i,e,λl L a0 H2 j hn=>k l L a0 H2 (i.trans j) (i.h.free hn)⟩
def Il{it t:Addr}{items:Array Value}(f:t≠it):∀(n i:Nat) (s:aL) (Q:LVa->aL->Prop),s.heap.IsListIter it t i->s.heap.IsList t items->i+n<=items.size ->
  (∀h',h'.IsListIter it t (i+n)->jr it s.heap h'->Q ((items.toList.drop i).take n) {s with heap:=h'})->wpAny (model prog w) A (draw (.ref it) n) Q W5 s
 | 0,i,s,Q,hit,_,_,hQ=>by
  show wpAny _ _ (pure []) Q W5 s
  exact bq (by simpa using hQ s.heap hit (jr.refl ..))
 |n+1,i,s,Q,hit,ht,hle,hQ=>by
  have e:i<items.size:=by lia
  show wpAny _ _ (pyNext (.ref it) >>= _) Q W5 s;refine aE (y6 hit ht (x:=items[i]) (by simp[e]) λh b a=>?_);refine aE (fH (Il f n (i+1) _ _ b (ht.extBut a.extBut f) (by lia) λg c d=>bq ?_));have hd:items.toList.drop i=items[i]::items.toList.drop (i+1):=by simp[uJ,e]
  have:=hQ g (by rw[show i+(n+1)=i+1+n by lia];exact c) (a.trans d);rw[hd,take_succ_cons]at this;exact this
def RE{t:Addr}{Q:LVa->aL->Prop}(p:A.handled=ab)(i:s.heap.IsList t items)
 (n:∀h',Heap.ExtBut s.heap.objs.size s.heap h'->Q items.toList {s with heap:=h'}):wpAny (model prog w) A (unpackItems (.ref t) items.size ab) Q W5 s:=by
 have h:t≠s.heap.objs.size:=by obtain⟨o,q,_⟩:=i;exact cu (bT q)
 unfold unpackItems;refine aE ?_;unfold notIterableAtAll;refine aE (wpAny_specialOf i.typeIs PySem.F.slot_list_iter.lookup ?_);refine bq ?_;simp only[lZ,if_false];refine aE (fH (o2 i ?_));refine aE (fH (Il h items.size 0 _ _ ⟨_,eW _ rfl,rfl,rfl⟩ (i.push _) (by lia) λj c a=>?_))
 have g:List.take items.size (List.drop 0 items.toList)=items.toList:=by
  rw[drop_zero];exact m9 (by simp)
 rw[g];rw[if_neg (by simp)];have f:j.IsList t items:=(i.push _).extBut a.extBut h;refine aE (fH (y7 p c f (by simp) λl d=>?_));simp only[Option.isSome_none,lZ,if_false];exact bq (n l λb o m e=>d b o m (a.extBut b o m (cj _ e)))
def RF{x1}{pos:Pos}{t:Addr}{Q:Unit->aL->Prop}(b:A.handled=ab)(c:s.heap.IsList t items)
 (hn:(fI dk env).length=items.size)(a:(fI dk env).findIdx? (·.1)=ab)
 (h:∀h',Heap.ExtBut s.heap.objs.size s.heap h'->wpAny (model prog w) A (assignInOrder ((fI dk env).map (·.2)) items.toList) Q W5 {s with heap:=h'}):
  wpAny (model prog w) A (iE (.Tuple dk x1 pos) env (.ref t)) Q W5 s:=by
 rw[arm_assign_Tuple];refine aE (uV ?_);unfold unpack;rw[hn,a];exact aE (fH (RE b c h))
abbrev RG(K:br)(n:Nat)(t:TGs):TG:=λv J H Q=>∃a M,v=.ref a/\SqL K H a M/\M.length=n/\t M J H Q
def RH{pos:Pos}{t:TGs}(j:X.calm=ac)(h:PGs X es t)
 (hn:(fI es X.env).length=n:=by rfl)(c:(fI es X.env).findIdx? (·.1)=ab:=by rfl):PG X (.Tuple es k pos) (RG X.K n t):=by
 intro B s J H v u Q I r d;obtain⟨a,M,i,m,l,d⟩:=d;subst i;cases r;obtain⟨its,f,p,hz⟩:=I.list m;refine RF (I.ok.hd j) p.isList (by simp[hn,<- l,f.length]) c λh' q=>?_
 have g:Inv X B J H {s with heap:=h'}:=I.kept (t':=s.toks) λb o e=>q b o (cu (bT e)) e
 exact h B _ J H M _ Q g (by simpa using f) d
abbrev A4(g:LD->LS->Option LS)(d:D)(U:LS):Option LS:=(lsD d).bind λds=>g ds U
def RI{pos:Pos}{g:LD->LS->Option LS}(n:X.calm=ac)(h:DGs c X es k g)(hn:(fI es X.env).length=es.length:=by rfl)(f:(fI es X.env).findIdx? (·.1)=ab:=by rfl):DG c X (.Tuple es kk pos) k (A4 g):=by
 refine⟨PG.imp (RH n h.pg hn f) λv J H Q o=>?_,λd U ρ' h'=>?_,λd U ρ' i h' hi=>?_⟩
 .obtain⟨E,H0,Hf,U,d,ρ',st,r,m,q⟩:=o;obtain⟨ds,e,b⟩:=cI.mp m;obtain⟨a,L,l,p,j⟩:=i0 e r;exact⟨a,L,l,st.sub.seq p,by rw[<- j.length];exact h.many _ _ _ b,E,H0,Hf,U,ds,ρ',st,j,b,q⟩
 .obtain⟨ds,e,b⟩:=cI.mp h';exact h.len _ _ _ b
 .obtain⟨ds,e,b⟩:=cI.mp h';exact h.keep _ _ _ _ b hi
abbrev wu(x y:D):OD:=match x,y with
 |.str a,.int n=>if a.length<=1000/\0<=n/\n<=1 then aa (.str (if n=1 then a else ⟨#[]⟩)) else ab
 | _,_=>ab
def RJ:OpD c X (gh .Mult) wu:=by
 rintro B s J H w z v u Q I o p ⟨Hf,x,y,d,q,l,m,e,k⟩;unfold wu at e;split at e
 .rename_i a n;split at e
  .rename_i j;cases e;cases (l);cases (m);obtain⟨t,rfl⟩:=o;obtain⟨t',rfl⟩:=p
   have b:∀h i,EP X B J Q _ {s with toks:=h}:=λh i=>⟨.str _,H,I.tok h,⟨i,rfl⟩,k _ Hf H (Ext.refl q) rfl⟩
   refine P.mul_str ?_ ?_ ?_ ?_
   .rw[decide_eq_false (by lia),decide_eq_false (by lia)];rfl
   .intro g _;have:(2 ^ 63-1:Int) / n≥1:=Int.le_ediv_of_mul_le (by lia) (by lia);have:n=1:=by lia
    subst this;lia
   .intro _ _;unfold EZ.Str.tooLong be;refine decide_eq_false ?_;have:=j.1;have f:n.toNat<=1:=by lia
    have:=Nat.mul_le_mul_left a.length f;lia
   .by_cases g:n<1
    .rw[if_pos g];have r:n=0:=by lia
     rw[if_neg (by lia)]at b;refine⟨by decide,?_⟩;exact b _ _
    .rw[if_neg g];have f:n=1:=by lia
     rw[if_pos (by simp[f])];rw[if_pos f]at b;exact b s.toks t
  .nomatch e
 .nomatch e
end L2
namespace N_k86
open List
open PySem PySem.Spec PyProof.Rows L2
local macro_rules | `(tactic| walk_at "sc")=>`(tactic| exact ⟨rfl,rfl,rfl,by decide +kernel,rfl,by decide +kernel,by decide +kernel⟩)
abbrev top(i:Nat):Stmt:=PySem.Challenge.pw_standstill_k86_shown_and_put_again.main.body.getD i (.Pass ⟨0,0,0,0⟩)
nonrec def A5:=top 1
nonrec def A6:=top 2
nonrec def A7:=top 3
nonrec def A8:=top 4
nonrec def s_4:=top 5
nonrec def A9:=top 6
nonrec def Ba:=top 7
nonrec def Bb:=top 8
nonrec def Bc:=top 9
nonrec def Bd:=top 10
nonrec def Be:=top 11
nonrec def Bf:=top 12
nonrec def Bg:=top 13
nonrec def Bh:=top 25
nonrec def Bi:=top 26
nonrec def Bj:=top 27
nonrec def Bk:=top 28
nonrec def Bl:=top 29
nonrec def Bm:=top 31
nonrec def Bn:=top 32
nonrec def Bo:=top 33
nonrec def Bp:=top 34
nonrec def Bq:=top 35
nonrec def Br:=top 36
nonrec def Bs:=top 37
nonrec def Bt:=top 38
nonrec def Bu:=top 39
nonrec def Bv:=top 40
nonrec def Bw:=top 45
nonrec def Bx:=top 46
nonrec def By:=top 47
nonrec def Bz:=top 48
nonrec def BA:=top 49
nonrec def BB:=top 50
nonrec def BC:=top 51
nonrec def BD:=top 52
nonrec def BE:=top 53
nonrec def BF:=top 54
nonrec def BG:=top 55
nonrec def BH:=top 56
nonrec def BI:=top 57
nonrec def BJ:=top 58
nonrec def BK:=top 59
nonrec def BL:=top 61
nonrec def BM:=top 62
nonrec def BN:=top 63
nonrec def s_0:=top 66
nonrec def BO:=top 67
nonrec def BP:=top 68
nonrec def s_6:=top 69
nonrec def BQ:=top 70
nonrec def s_9:=top 71
nonrec def BR:=top 72
nonrec def s_5:=top 73
nonrec def BS:=top 74
nonrec def BU:=top 75
nonrec def BV:=top 76
nonrec def BW:=top 77
nonrec def BX:=top 78
nonrec def BY:=top 79
nonrec def BZ:=top 80
nonrec def B0:=top 81
nonrec def s_2:=top 82
nonrec def B1:=dS (top 64) 0
nonrec def s_3:=dS (top 64) 1
nonrec def B2:=dS (top 64) 2
nonrec def s_1:=dS (top 64) 3
nonrec def s_7:=dS (top 64) 4
nonrec def B3:=dS (top 64) 5
nonrec def B4:=dS (top 64) 6
nonrec def B5:=dS (top 64) 7
nonrec def B6:=dS (top 64) 8
nonrec def s_8:=dS (top 64) 9
nonrec def B7:=dS (top 64) 10
nonrec def B8:=dS (top 64) 11
nonrec def B9:=dS (top 64) 12
nonrec def Ca:=dS (top 64) 13
nonrec def Cb:=dS (top 64) 14
nonrec def Cc:=dS (top 64) 15
nonrec def Cd:=dS (top 64) 16
nonrec def Ce:=dS (top 64) 17
nonrec def Cf:=dS (top 64) 18
nonrec def Cg:=dS (top 64) 19
nonrec def Ch:=dS (top 64) 20
nonrec def Ci:=dS (top 64) 21
nonrec def Cj:=dS (top 64) 22
nonrec def Ck:=dS (top 64) 23
nonrec def Cm:=dS (top 64) 24
nonrec def Cn:=dS (top 64) 25
nonrec def Co:=dS (top 64) 26
def RK:aT ["row"] ["row"] (aO A5):=by walk_at "sc"
def Cp:aT ["row","word","bounds"] ["row"] (aO A6):=by walk_at "sc"
def RL:aT ["body","pairs"] ["body","pairs"] (aO A7):=by walk_at "sc"
def RM:aT ["word","text"] ["word","text"] (aO A8):=by walk_at "sc"
def Cq:aT ["thing","name","args"] ["thing"] (aO s_4):=by walk_at "sc"
def RN:aT ["body"] ["body"] (aO A9):=by walk_at "sc"
def Im:aT ["part","word"] ["part"] (aO Ba):=by walk_at "sc"
def RO:aT ["items","over"] ["items","over"] (aO Bb):=by walk_at "sc"
def Io:aT ["thing","worth","text"] ["thing","worth"] (aO Bc):=by walk_at "sc"
def RP:aT ["pairs"] ["pairs"] (aO Bd):=by walk_at "sc"
def Cr:aT ["rule","table","body","word"] ["rule","table"] (aO Be):=by walk_at "sc"
def RQ:aT ["part","table"] ["part","table"] (aO Bf):=by walk_at "sc"
def RS:aT ["thing","table"] ["thing","table"] (aO Bg):=by walk_at "sc"
def Ip:aT ["line","spaced","sign"] ["line"] (aO Bh):=by walk_at "sc"
def RT:aT ["word","signs","most"] ["word","signs","most"] (aO Bi):=by walk_at "sc"
def RU:aT ["word"] ["word"] (aO Bj):=by walk_at "sc"
def RV:aT ["word"] ["word"] (aO Bk):=by walk_at "sc"
def Iq:aT ["word","figures"] ["word"] (aO Bl):=by walk_at "sc"
def Cs:aT ["rows","kinds","row"] ["rows"] (aO Bm):=by walk_at "sc"
def Ir:aT ["row","kinds","name"] ["row","kinds"] (aO Bn):=by walk_at "sc"
def RW:aT ["words"] ["words"] (aO Bo):=by walk_at "sc"
def Ct:aT ["row","kinds","args","over"] ["row","kinds"] (aO Bp):=by walk_at "sc"
def wv:aT ["pairs","outer","kinds","variable","kind","told"] ["pairs","outer","kinds"] (aO Bq):=by walk_at "sc"
def Cu:aT ["args","pairs","told","arg"] ["args","pairs"] (aO Br):=by walk_at "sc"
def Iu:aT ["row","found"] ["row"] (aO Bs):=by walk_at "sc"
def RX:aT ["part"] ["part"] (aO Bt):=by walk_at "sc"
def ww:aT ["items","args","thing","worth"] ["items"] (aO Bu):=by walk_at "sc"
def mU:aT ["pairs","kinds","names_of","found","variable","kind","longer","way"] ["pairs","kinds"] (aO Bv):=by walk_at "sc"
def Cv:aT ["rows","rules","places"] ["rows"] (aO Bw):=by walk_at "sc"
def wx:aT ["rows","kinds","rules","row","names"] ["rows","kinds"] (aO Bx):=by walk_at "sc"
def RY:aT ["listed","most","what"] ["listed","most","what"] (aO By):=by walk_at "sc"
def sY:aT ["pairs","kinds","outer","variables","found","way","names"] ["pairs","kinds","outer"] (aO Bz):=by walk_at "sc"
def Iv:aT ["body","names","sides"] ["body","names"] (aO BA):=by walk_at "sc"
def RZ:aT ["args","names"] ["args","names"] (aO BB):=by walk_at "sc"
def R0:aT ["thing","names"] ["thing","names"] (aO BC):=by walk_at "sc"
def Cw:aT ["row","names","kinds","body","word"] ["row","names","kinds"] (aO BD):=by walk_at "sc"
def Iw:aT ["low","high","items","body","rules"] ["low","high","items","body"] (aO BE):=by walk_at "sc"
def R1:aT ["part","names","kinds"] ["part","names","kinds"] (aO BF):=by walk_at "sc"
def wy:aT ["items","over","names","kinds","found","thing","worth"] ["items","over","names","kinds"] (aO BG):=by walk_at "sc"
def wz:aT ["rules","places","rule","text"] ["rules"] (aO BH):=by walk_at "sc"
def Cy:aT ["rule","texts","part"] ["rule"] (aO BI):=by walk_at "sc"
def Ix:aT ["rule","places","head"] ["rule","places"] (aO BJ):=by walk_at "sc"
def R3:aT ["part","places"] ["part","places"] (aO BK):=by walk_at "sc"
def R4:aT ["text"] ["text"] (aO BL):=by walk_at "sc"
def Cz:aT ["line","reader","row"] ["line"] (aO BM):=by walk_at "sc"
def R5:aT ["listed","most"] ["listed","most"] (aO BN):=by walk_at "sc"
def R6:aT ["_law_state","_law_many"] ["_law_state","_law_many"] (aO s_0):=by walk_at "sc"
def sZ:aT ["_law_script","_law_many","_law_seeds_here","_law_at","_law_cell","_law_seed"] ["_law_script","_law_many"] (aO BO):=by walk_at "sc"
def wA:aT ["_law_state","_law_many","_law_span","_law_word","_law_k"] ["_law_state","_law_many","_law_span"] (aO BP):=by walk_at "sc"
def s9:aT ["_law_state","_law_kept","_law_span","_law_word"] ["_law_state"] (aO s_6):=by walk_at "sc"
def Iy:aT ["_law_state","_law_great"] ["_law_state"] (aO BQ):=by walk_at "sc"
def Iz:aT ["_law_state","_law_number_here"] ["_law_state"] (aO s_9):=by walk_at "sc"
def lN:aT ["_law_state","_law_places","_law_k","_law_name_here","_law_heads","_law_kinds","_law_some"] ["_law_state"] (aO BR):=by walk_at "sc"
def tf:aT ["_law_state","_law_lay_here","_law_known","_law_name_here","_law_many","_law_args","_law_k"] ["_law_state","_law_lay_here","_law_known"] (aO s_5):=by walk_at "sc"
def wB:aT ["_law_state","_law_kinds","_law_taken","_law_most","_law_pairs_here","_law_k","_law_variable_here"] ["_law_state","_law_kinds","_law_taken","_law_most"] (aO BS):=by walk_at "sc"
def qf:aT ["_law_state","_law_lay_here","_law_known","_law_kinds","_law_many","_law_over","_law_inner","_law_some","_law_k","_law_worth"] ["_law_state","_law_lay_here","_law_known","_law_kinds","_law_many"] (aO BU):=by walk_at "sc"
def oA:aT ["_law_state","_law_lay_here","_law_known","_law_kinds","_law_way","_law_one","_law_sides","_law_other","_law_some","_law_over"] ["_law_state","_law_lay_here","_law_known","_law_kinds"] (aO BV):=by walk_at "sc"
def R7:aT ["_law_state","_law_lay_here","_law_known","_law_kinds"] ["_law_state","_law_lay_here","_law_known","_law_kinds"] (aO BW):=by walk_at "sc"
def oB:aT ["_law_state","_law_lay_here","_law_first","_law_pairs_here","_law_known","_law_body_here","_law_way","_law_some","_law_over"] ["_law_state","_law_lay_here","_law_first"] (aO BX):=by walk_at "sc"
def qg:aT ["_law_script","_law_many","_law_seeds_here","_law_lay_here","_law_kinds","_law_rows_here","_law_k"] ["_law_script","_law_many"] (aO BY):=by walk_at "sc"
def oC:aT ["_law_part_here","_law_table","_law_line","_law_k","_law_item"] ["_law_part_here","_law_table"] (aO BZ):=by walk_at "sc"
def mV:aT ["_law_rule","_law_table","_law_line","_law_k","_law_part_here"] ["_law_rule","_law_table"] (aO B0):=by walk_at "sc"
def lO:aT ["_law_script","_law_many","_law_rows_here","_law_table","_law_plain","_law_lines","_law_rule","_law_line"] ["_law_script"] (aO s_2):=by walk_at "sc"
def R8:aT ["self","words"] ["self","words"] (aO B1):=by walk_at "sc"
def IA:aT ["self","behind","place"] ["self","behind"] (aO s_3):=by walk_at "sc"
def IB:aT ["self","word"] ["self"] (aO B2):=by walk_at "sc"
def R9:aT ["self","word"] ["self","word"] (aO s_1):=by walk_at "sc"
def Sa:aT ["self","word"] ["self","word"] (aO s_7):=by walk_at "sc"
def Sb:aT ["self"] ["self"] (aO B3):=by walk_at "sc"
def IC:aT ["self","word"] ["self"] (aO B4):=by walk_at "sc"
def CA:aT ["self","low","high"] ["self"] (aO B5):=by walk_at "sc"
def ID:aT ["self","body"] ["self"] (aO B6):=by walk_at "sc"
def IE:aT ["self","word"] ["self"] (aO s_8):=by walk_at "sc"
def IF:aT ["self","names"] ["self"] (aO B7):=by walk_at "sc"
def IG:aT ["self","word"] ["self"] (aO B8):=by walk_at "sc"
def IH:aT ["self","word"] ["self"] (aO B9):=by walk_at "sc"
def Sd:aT ["self"] ["self"] (aO Ca):=by walk_at "sc"
def II:aT ["self","name"] ["self"] (aO Cb):=by walk_at "sc"
def IJ:aT ["self","args"] ["self"] (aO Cc):=by walk_at "sc"
def Se:aT ["self"] ["self"] (aO Cd):=by walk_at "sc"
def IK:aT ["self","body"] ["self"] (aO Ce):=by walk_at "sc"
def Sf:aT ["self"] ["self"] (aO Cf):=by walk_at "sc"
def IL:aT ["self","first"] ["self"] (aO Cg):=by walk_at "sc"
def CB:aT ["self","word","number"] ["self"] (aO Ch):=by walk_at "sc"
def IM:aT ["self","items"] ["self"] (aO Ci):=by walk_at "sc"
def IN:aT ["self","worth"] ["self"] (aO Cj):=by walk_at "sc"
def Sg:aT ["self"] ["self"] (aO Ck):=by walk_at "sc"
def Sh:aT ["self"] ["self"] (aO Cm):=by walk_at "sc"
def IP:aT ["self","pairs"] ["self"] (aO Cn):=by walk_at "sc"
def IQ:aT ["self","variable"] ["self"] (aO Co):=by walk_at "sc"
set_option genInjectivity false
set_option genSizeOf false
structure Wa where
(e_34 e_35 e_51 e_16 e_4 e_52 e_53 e_54 e_55 e_36 e_41 e_65 e_27 e_20 e_28 e_85 e_42 e_43 e_56 e_66 e_67 e_57 e_37 e_68 e_79 e_80 e_38 e_17 e_21 e_44 e_39 e_22 e_81 e_69 e_29 e_58 e_70 e_71 e_30 e_45 e_59 e_72 e_82 e_83 e_46 e_23 e_0 e_31 e_24 e_6 e_47 e_9 e_10 e_5 e_25 e_11 e_12 e_73 e_18 e_32 e_19 e_13 e_2 e_89 e_3 e_14 e_1 e_7 e_86 e_74 e_84 e_75 e_8 e_87 e_60 e_26 e_33 e_15 e_76 e_61 e_48 e_62 e_88 e_63 e_49 e_50 e_64 e_40 e_77 e_78:Addr×fT)
 cl:Str->Addr
structure Wd(K:br)(mg:MGT)(a:Wa):Prop where
 e_34:Df K mg "shown_row" A5 ["row"] a.e_34
 e_35:Df K mg "behind_word" A6 ["row"] a.e_35
 e_51:Df K mg "shown_end" A7 ["body","pairs"] a.e_51
 e_16:Df K mg "if_any" A8 ["word","text"] a.e_16
 e_4:Df K mg "shown_thing" s_4 ["thing"] a.e_4
 e_52:Df K mg "shown_body" A9 ["body"] a.e_52
 e_53:Df K mg "shown_part" Ba ["part"] a.e_53
 e_54:Df K mg "shown_over" Bb ["items","over"] a.e_54
 e_55:Df K mg "shown_item" Bc ["thing","worth"] a.e_55
 e_36:Df K mg "shown_pairs" Bd ["pairs"] a.e_36
 e_41:Df K mg "shown_rule" Be ["rule","table"] a.e_41
 e_65:Df K mg "row_part" Bf ["part","table"] a.e_65
 e_27:Df K mg "row_thing" Bg ["thing","table"] a.e_27
 e_20:Df K mg "words_of" Bh ["line"] a.e_20
 e_28:Df K mg "is_made_of" Bi ["word","signs","most"] a.e_28
 e_85:Df K mg "is_name" Bj ["word"] a.e_85
 e_42:Df K mg "is_variable" Bk ["word"] a.e_42
 e_43:Df K mg "is_number" Bl ["word"] a.e_43
 e_56:Df K mg "kinds_of" Bm ["rows"] a.e_56
 e_66:Df K mg "must_be_new" Bn ["row","kinds"] a.e_66
 e_67:Df K mg "must_be_unlike" Bo ["words"] a.e_67
 e_57:Df K mg "must_be_known" Bp ["row","kinds"] a.e_57
 e_37:Df K mg "must_be_pairs" Bq ["pairs","outer","kinds"] a.e_37
 e_68:Df K mg "must_be_told" Br ["args","pairs"] a.e_68
 e_79:Df K mg "uses" Bs ["row"] a.e_79
 e_80:Df K mg "part_uses" Bt ["part"] a.e_80
 e_38:Df K mg "args_of" Bu ["items"] a.e_38
 e_17:Df K mg "ways" Bv ["pairs","kinds"] a.e_17
 e_21:Df K mg "plain_of" Bw ["rows"] a.e_21
 e_44:Df K mg "rules_of" Bx ["rows","kinds"] a.e_44
 e_39:Df K mg "must_be_narrow" By ["listed","most","what"] a.e_39
 e_22:Df K mg "names_by_ways" Bz ["pairs","kinds","outer"] a.e_22
 e_81:Df K mg "has_like" BA ["body","names"] a.e_81
 e_69:Df K mg "name_all" BB ["args","names"] a.e_69
 e_29:Df K mg "text_of" BC ["thing","names"] a.e_29
 e_58:Df K mg "rules_by" BD ["row","names","kinds"] a.e_58
 e_70:Df K mg "choice" BE ["low","high","items","body"] a.e_70
 e_71:Df K mg "put_part" BF ["part","names","kinds"] a.e_71
 e_30:Df K mg "put_items" BG ["items","over","names","kinds"] a.e_30
 e_45:Df K mg "places_in" BH ["rules"] a.e_45
 e_59:Df K mg "texts_in" BI ["rule"] a.e_59
 e_72:Df K mg "numbered" BJ ["rule","places"] a.e_72
 e_82:Df K mg "numbered_part" BK ["part","places"] a.e_82
 e_83:Df K mg "read" BL ["text"] a.e_83
 e_46:Df K mg "read_row" BM ["line"] a.e_46
 e_23:Df K mg "at_most" BN ["listed","most"] a.e_23
 e_0:Df K mg "_law_next" s_0 ["_law_state","_law_many"] a.e_0
 e_31:Df K mg "_law_seeds" BO ["_law_script","_law_many"] a.e_31
 e_24:Df K mg "_law_small" BP ["_law_state","_law_many","_law_span"] a.e_24
 e_6:Df K mg "_law_name" s_6 ["_law_state"] a.e_6
 e_47:Df K mg "_law_variable" BQ ["_law_state"] a.e_47
 e_9:Df K mg "_law_number" s_9 ["_law_state"] a.e_9
 e_10:Df K mg "_law_lay" BR ["_law_state"] a.e_10
 e_5:Df K mg "_law_thing" s_5 ["_law_state","_law_lay_here","_law_known"] a.e_5
 e_25:Df K mg "_law_pairs" BS ["_law_state","_law_kinds","_law_taken","_law_most"] a.e_25
 e_11:Df K mg "_law_items" BU ["_law_state","_law_lay_here","_law_known","_law_kinds","_law_many"] a.e_11
 e_12:Df K mg "_law_part" BV ["_law_state","_law_lay_here","_law_known","_law_kinds"] a.e_12
 e_73:Df K mg "_law_body" BW ["_law_state","_law_lay_here","_law_known","_law_kinds"] a.e_73
 e_18:Df K mg "_law_row" BX ["_law_state","_law_lay_here","_law_first"] a.e_18
 e_32:Df K mg "_law_rows" BY ["_law_script","_law_many"] a.e_32
 e_19:Df K mg "_law_part_text" BZ ["_law_part_here","_law_table"] a.e_19
 e_13:Df K mg "_law_rule_text" B0 ["_law_rule","_law_table"] a.e_13
 e_2:Df K mg "law" s_2 ["_law_script"] a.e_2
 e_89:Dm K (a.cl "Reader") "__init__" "Reader.__init__" B1 ["self","words"] a.e_89
 e_3:Dm K (a.cl "Reader") "coming" "Reader.coming" s_3 ["self","behind"] a.e_3
 e_14:Dm K (a.cl "Reader") "take" "Reader.take" B2 ["self"] a.e_14
 e_1:Dm K (a.cl "Reader") "passes" "Reader.passes" s_1 ["self","word"] a.e_1
 e_7:Dm K (a.cl "Reader") "must_pass" "Reader.must_pass" s_7 ["self","word"] a.e_7
 e_86:Dm K (a.cl "Reader") "must_end" "Reader.must_end" B3 ["self"] a.e_86
 e_74:Dm K (a.cl "Reader") "read_form" "Reader.read_form" B4 ["self"] a.e_74
 e_84:Dm K (a.cl "Reader") "read_choose" "Reader.read_choose" B5 ["self"] a.e_84
 e_75:Dm K (a.cl "Reader") "read_never" "Reader.read_never" B6 ["self"] a.e_75
 e_8:Dm K (a.cl "Reader") "read_name" "Reader.read_name" s_8 ["self"] a.e_8
 e_87:Dm K (a.cl "Reader") "read_names" "Reader.read_names" B7 ["self"] a.e_87
 e_60:Dm K (a.cl "Reader") "read_variable" "Reader.read_variable" B8 ["self"] a.e_60
 e_26:Dm K (a.cl "Reader") "read_number" "Reader.read_number" B9 ["self"] a.e_26
 e_33:Dm K (a.cl "Reader") "read_arg" "Reader.read_arg" Ca ["self"] a.e_33
 e_15:Dm K (a.cl "Reader") "read_thing" "Reader.read_thing" Cb ["self"] a.e_15
 e_76:Dm K (a.cl "Reader") "read_args" "Reader.read_args" Cc ["self"] a.e_76
 e_61:Dm K (a.cl "Reader") "read_if" "Reader.read_if" Cd ["self"] a.e_61
 e_48:Dm K (a.cl "Reader") "read_body" "Reader.read_body" Ce ["self"] a.e_48
 e_62:Dm K (a.cl "Reader") "read_part" "Reader.read_part" Cf ["self"] a.e_62
 e_88:Dm K (a.cl "Reader") "read_unlike" "Reader.read_unlike" Cg ["self"] a.e_88
 e_63:Dm K (a.cl "Reader") "read_count" "Reader.read_count" Ch ["self"] a.e_63
 e_49:Dm K (a.cl "Reader") "read_items" "Reader.read_items" Ci ["self"] a.e_49
 e_50:Dm K (a.cl "Reader") "read_item" "Reader.read_item" Cj ["self"] a.e_50
 e_64:Dm K (a.cl "Reader") "read_over" "Reader.read_over" Ck ["self"] a.e_64
 e_40:Dm K (a.cl "Reader") "read_for" "Reader.read_for" Cm ["self"] a.e_40
 e_77:Dm K (a.cl "Reader") "read_pairs" "Reader.read_pairs" Cn ["self"] a.e_77
 e_78:Dm K (a.cl "Reader") "read_pair" "Reader.read_pair" Co ["self"] a.e_78
 gq:mg "Reader"=aa (.ref (a.cl "Reader"))
 ad:Cls K (a.cl "Reader")
 en:Mk K (a.cl "Reader") a.e_89.1
 d8:iV K (a.cl "Reader") "words"
 dl:iV K (a.cl "Reader") "place"
 hI:HC K mg "KEPT" ["kind","rule","may","choose","never","if","and","not","unlike","least","most","of","to","over","in","for"]
 fy:∃t,mg "SMALL"=aa (.str "abcdefghijklmnopqrstuvwxyz" t)
 g2:∃t,mg "GREAT"=aa (.str "ABCDEFGHIJKLMNOPQRSTUVWXYZ" t)
 fx:∃t,mg "FIGURES"=aa (.str "0123456789" t)
 hO:∃t,mg "LONE"=aa (.str "()," t)
 ey:∃t,mg "MOST_RULES"=aa (.int 400 t)
 eq:∃t,mg "MOST_THINGS"=aa (.int 60 t)
 ez:∃t,mg "MOST_ITEMS"=aa (.int 60 t)
 z_ValueError:mg "ValueError"=ab
 hB:mg "abs"=ab
 gs:mg "all"=ab
 hF:mg "any"=ab
 eG:mg "dict"=ab
 ek:mg "enumerate"=ab
 e5:mg "int"=ab
 el:mg "isinstance"=ab
 d9:mg "len"=ab
 eR:mg "list"=ab
 g1:mg "min"=ab
 eh:mg "range"=ab
 hG:mg "set"=ab
 eA:mg "str"=ab
 hH:mg "zip"=ab
 gn:Ae K "str"
set_option genInjectivity true
set_option genSizeOf true
nonrec abbrev eH(P:du)(w:World)(K:br)(mg:MGT)(base:Heap)(a:Wa)(k:Nat)(x:Str)(e:Addr×fT)(ps:LSt)(m:Addr->LD->LD->Option (LD×D)):Prop:=Pm P w K mg base CX0 k (a.cl "Reader") x e ps (oj ⟨K,a.cl⟩ "Reader" ["words","place"] ps.length m)
nonrec abbrev qM(P:du)(w:World)(K:br)(mg:MGT)(base:Heap)(a:Wa)(k:Nat)(x:Str)(e:Addr×fT)(ps:LSt)(b:Nat)(m:Addr->LD->LD->LD->Option (LD×D)):Prop:=Pk P w K mg base CX0 k x e ps (spM ⟨K,a.cl⟩ b ps.length m)
nonrec abbrev qD(P:du)(w:World)(K:br)(mg:MGT)(base:Heap)(a:Wa)(k:Nat)(x:Str)(e:Addr×fT)(ps:LSt)(m:LD->OD):Prop:=Pk P w K mg base CX0 k x e ps (spD ⟨K,a.cl⟩ ps.length m)
abbrev b_0:MF3:=
 (am (pU 0 (kI 0) (m2 iY (m2 cv (m2 kH (mIx (vZ 0) (kI 0)) (kI 1181783497276652981)) (kI 12345678910987)) (m2 kj (m2 nP (kI 2) (kI 61)) (kI 1))))
  (dW (m2 iY (m2 rZ (mIx (vZ 0) (kI 0)) (kI 65537)) (ae 1))))
abbrev m_0:=gK 2 b_0
abbrev wC:MF3:=
 (am (cp 3 (kSt ""))
  (am (dM (i3 (af (ae 1) nZ)) (aH 4) (iq 3 (mX2 pW (mX (kSt "abcdefghijklmnopqrstuvwxyz")) (bj 0 m_0 (ao (mX (ae 2)) aq)))))
  (dW (ae 3))))
abbrev tm:=gK 5 wC
abbrev b_6:MF3:=
 (am (eS 1 (af (kSt "kind") (af (kSt "rule") (af (kSt "may") (af (kSt "choose") (af (kSt "never") (af (kSt "if") (af (kSt "and") (af (kSt "not") nZ)))))))))
  (am (sR 1 (mX (aU (af (kSt "unlike") (af (kSt "least") (af (kSt "most") (af (kSt "of") (af (kSt "to") (af (kSt "over") (af (kSt "in") (af (kSt "for") nZ)))))))))))
  (am (cC 2 (mX2 f6 (mX (aU (af (kI 26) (af (kI 2) nZ)))) (bj 0 m_0 (ao (mX (kI 2)) aq))))
  (am (cC 3 (bj 0 tm (ao (mX2 cv (mX (kI 1)) (bj 0 m_0 (ao (mX (kI 8)) aq))) (ao (mX (ae 2)) aq))))
  (am (fY 1 (bu (mB (m2 dIn (ae 3) (ae 1))) (dW (m2 cv (kSt "z") (ae 3))) bw))
  (dW (ae 3)))))))
abbrev m_6:=gK 4 b_6
abbrev tu:MF3:=
 (am (eS 1 nZ)
  (am (mO (kM (ao (mX2 cv (mX (kI 1)) (bj 0 m_0 (ao (mX (kI 3)) aq))) aq)) (aH 2) (am (cC 3 (bj 0 m_6 aq))
  (bu (mB (m2 iZ (ae 3) (jy 1))) (gH 1 (ae 3)) bw)))
  (am (cC 4 (kQ 1 [0] 0 0 (pT (mX (aU (af (kI 3) (af (kI 2) (af (kI 2) (af (kI 1) nZ))))))) (aH 0) (eD (ao (bj 1 m_6 aq) (ao (ip sE (ao (mX (ae 0)) (ao (bj 1 m_0 (ao (mX (kI 4)) aq)) aq))) aq)))))
  (am (eS 5 nZ)
  (am (mO (kM (ao (bj 0 m_0 (ao (mX (kI 4)) aq)) aq)) (aH 2) (am (cC 3 (bj 0 m_6 aq))
  (am (fY 1 (cC 6 (ow 1 [0] 0 0 (pT (mX (ae 1))) (aH 0) (mBX (mX2 dGt (bj 1 m_0 (ao (mX (kI 4)) aq)) (mX (kI 0)))) (mX (ae 0)))))
  (bu (jz (mB (m2 dGt (aJ cY (af (ae 6) nZ)) (kI 0))) (mB (m2 iZ (ae 3) (aU (bx 1 [] (au 5) (aH 0) kY (mIx (au 0) (kI 0))))))) (gz 5 (eD (ao (mX (ae 3)) (ao (wq (mX (ae 6)) (mX2 kj (mX (kI 1)) (mX2 kH (mX (kI 2)) (bj 0 m_0 (ao (mX (kI 2)) aq))))) aq)))) bw))))
  (fY 5 (fY 1 (dW (bJ (af (ae 4) (af (ae 1) (af (ae 5) nZ))))))))))))
abbrev CC:=gK 7 tu
abbrev b_9:MF3:=
 (am (cC 1 (mX2 kj (bj 0 m_0 (ao (mX (kI 9)) aq)) (mX (kI 2))))
  (am (i8 (mBX (mX2 dEq (bj 0 m_0 (ao (mX (kI 4)) aq)) (mX (kI 0)))) (c7 (mX2 cv (mX (m2 kH (ae 1) (m2 nP (kI 10) (kI 20)))) (bj 0 m_0 (ao (mX (m2 nP (kI 10) (kI 10))) aq)))) bw)
  (dW (ae 1))))
abbrev m_9:=gK 2 b_9
abbrev tw:MF3:=
 (am (cC 1 (mX2 pW (mX (kSt "ABCDEFGHIJKLMNOPQRSTUVWXYZ")) (bj 0 m_0 (ao (mX2 f6 (mX (aU (af (kI 26) (af (kI 2) nZ)))) (bj 0 m_0 (ao (mX (kI 2)) aq))) aq))))
  (c7 (mX2 cv (mX (ae 1)) (bj 0 tm (ao (bj 0 m_0 (ao (mX (kI 8)) aq)) (ao (mX2 f6 (mX (aU (af (kI 26) (af (kI 2) nZ)))) (bj 0 m_0 (ao (mX (kI 2)) aq))) aq))))))
abbrev wE:=gK 2 tw
abbrev tB:MF3:=
 (am (eS 4 nZ)
  (am (mO (kM (ao (mX2 kH (ip sE (ao (mX (ae 3)) (ao (mX2 cv (mX2 rZ (bj 0 m_0 (ao (mX (kI 6)) aq)) (mX (kI 2))) (bj 0 m_0 (ao (mX (kI 2)) aq))) aq))) (mX (jL (m2 dGt (aJ cY (af (ae 1) nZ)) (kI 0))))) aq)) (aH 5) (am (cC 6 (bj 0 wE aq))
  (bu (mB (m2 iZ (ae 6) (aU (fh (ae 2) (aU (bx 1 [] (au 4) (aH 0) kY (mIx (au 0) (kI 0)))))))) (gz 4 (eD (ao (mX (ae 6)) (ao (mX2 f6 (mX2 f6 (mX (ae 1)) (bj 0 m_0 (ao (mX (aJ cY (af (ae 1) nZ))) aq))) (mX (kI 0))) aq)))) bw)))
  (fY 4 (dW (ae 4)))))
abbrev wF:=gK 7 tB
abbrev b_5:MF3:=
 (am (ox (cT (bo (aH 3) (bo (aH 4) cS))) (mX2 f6 (mX (mIx (au 1) (kI 0))) (bj 0 m_0 (ao (mX (kI 4)) aq))))
  (am (eS 5 nZ)
  (am (dM (i3 (af (ae 4) nZ)) (aH 6) (i8 (oh (mTX (mB (m2 dGt (aJ cY (af (ae 2) nZ)) (kI 0)))) (mBX (mX2 dGt (bj 0 m_0 (ao (mX (kI 4)) aq)) (mX (kI 0))))) (gz 5 (mX2 f6 (mX (ae 2)) (bj 0 m_0 (ao (mX (aJ cY (af (ae 2) nZ))) aq)))) (gz 5 (mX2 f6 (mX (mIx (au 1) (kI 1))) (bj 0 m_0 (ao (mX (aJ cY (af (mIx (au 1) (kI 1)) nZ))) aq))))))
  (fY 5 (dW (bJ (af (ae 3) (af (ae 5) nZ))))))))
abbrev m_5:=gK 7 b_5
abbrev tE:MF3:=
 (am (cC 5 (bj 0 wF (ao (mX (ae 3)) (ao (mX (ae 2)) (ao (mX (kI 2)) aq)))))
  (am (cp 6 (aU (fh (ae 2) (aU (bx 1 [] (bn (ae 5)) (aH 0) kY (mIx (au 0) (kI 0)))))))
  (am (eS 7 nZ)
  (am (mO (kM (ao (mX2 cv (mX (kI 1)) (bj 0 m_0 (ao (mX (ae 4)) aq))) aq)) (aH 8) (am (cC 9 (mX2 f6 (pV (ao (mX (kI 1)) (ao (ip wl (ao (bj 0 m_9 aq) aq)) aq))) (bj 0 m_0 (ao (mX (kI 2)) aq))))
  (gz 7 (eD (ao (bj 0 m_5 (ao (mX (ae 1)) (ao (mX (ae 6)) aq))) (ao (mX (ae 9)) aq))))))
  (fY 7 (dW (bJ (af (ae 7) (af (ae 5) nZ)))))))))
abbrev tF:=gK 10 tE
abbrev tG:MF3:=
 (am (cC 4 (bj 0 m_0 (ao (mX (kI 6)) aq)))
  (am (bu (jz (mB (m2 dEq (ae 4) (kI 0))) (mB (m2 dGt (aJ cY (af (ae 2) nZ)) (kI 0)))) (am (cC 5 (mX2 f6 (mX (ae 2)) (bj 0 m_0 (ao (mX (aJ cY (af (ae 2) nZ))) aq))))
  (am (cp 6 (m2 cv (ae 2) (mIx (au 1) (kI 1))))
  (am (cC 7 (mX2 f6 (mX (ae 6)) (bj 0 m_0 (ao (mX (aJ cY (af (ae 6) nZ))) aq))))
  (am (i8 (mBX (mX2 dEq (bj 0 m_0 (ao (mX (kI 2)) aq)) (mX (kI 0)))) (dW (bJ (af (kSt "unlike") (af (ae 7) (af (ae 5) nZ))))) bw)
  (dW (bJ (af (kSt "unlike") (af (ae 5) (af (ae 7) nZ))))))))) bw)
  (am (bu (mB (m2 dLt (ae 4) (kI 3))) (am (ox (cT (bo (aH 8) (bo (aH 9) cS))) (bj 0 tF (ao (mX (ae 1)) (ao (mX (ae 2)) (ao (mX (ae 3)) (ao (mX (kI 2)) aq))))))
  (c7 (eD (ao (mX (mIx (af (kSt "least") (af (kSt "most") nZ)) (m2 iY (ae 4) (kI 2)))) (ao (bj 0 m_9 aq) (ao (mX (ae 8)) (ao (mX (ae 9)) aq))))))) bw)
  (c7 (eD (ao (mX (mIx (af (kSt "is") (af (kSt "not") (af (kSt "is") nZ))) (m2 kj (ae 4) (kI 3)))) (ao (bj 0 m_5 (ao (mX (ae 1)) (ao (mX (ae 2)) aq))) aq)))))))
abbrev tH:=gK 10 tG
abbrev tI:MF3:=
 (c7 (kQ 1 [0,1,2,3] 0 0 (kM (ao (bj 0 m_0 (ao (mX (kI 4)) aq)) aq)) (aH 0) (bj 1 tH (ao (mX (ae 2)) (ao (mX (ae 3)) (ao (mX (ae 4)) aq))))))
abbrev CD:=gK 4 tI
abbrev tJ:MF3:=
 (am (cC 3 (bj 0 wF (ao (mX (mIx (au 1) (kI 2))) (ao (mX (aU nZ)) (ao (mX (m2 kj (kI 3) (jL (ae 2)))) aq)))))
  (am (cp 4 (aU (bx 1 [] (bn (ae 3)) (aH 0) kY (mIx (au 0) (kI 0)))))
  (am (cC 5 (bj 0 CD (ao (mX (ae 1)) (ao (mX (ae 4)) (ao (mX (mIx (au 1) (kI 2))) aq)))))
  (am (cC 6 (bj 0 m_0 (ao (mX (kI 4)) aq)))
  (am (bu (mB (m2 dEq (ae 6) (kI 0))) (c7 (eD (ao (mX (kSt "never")) (ao (mX2 cv (mX (ae 5)) (pV (ao (eD (ao (mX2 f6 (mX (aU (af (kSt "is") (af (kSt "not") nZ)))) (bj 0 m_0 (ao (mX (kI 2)) aq))) (ao (bj 0 m_5 (ao (mX (ae 1)) (ao (mX (ae 4)) aq))) aq))) aq))) (ao (mX (ae 3)) aq))))) bw)
  (am (bu (jz (mB (m2 dEq (ae 6) (kI 1))) (gj (ae 2))) (am (ox (cT (bo (aH 7) (bo (aH 8) cS))) (bj 0 tF (ao (mX (ae 1)) (ao (mX (ae 4)) (ao (mX (mIx (au 1) (kI 2))) (ao (mX (kI 3)) aq))))))
  (c7 (eD (ao (mX (kSt "choose")) (ao (bj 0 m_9 aq) (ao (bj 0 m_9 aq) (ao (mX (ae 7)) (ao (mX (ae 8)) (ao (mX (ae 5)) (ao (mX (ae 3)) aq)))))))))) bw)
  (c7 (eD (ao (mX (mIx (af (kSt "may") (af (kSt "rule") nZ)) (m2 iY (ae 6) (kI 2)))) (ao (bj 0 m_5 (ao (mX (ae 1)) (ao (mX (ae 4)) aq))) (ao (mX (ae 5)) (ao (mX (ae 3)) aq))))))))))))
abbrev CF:=gK 9 tJ
abbrev wG:MF3:=
 (am (eS 2 (bx 1 [] (i3 (af (ae 1) nZ)) (aH 0) kY (m2 cv (m2 kH (ae 0) (kI 7368787)) (kI 1000003))))
  (am (dM (jE (af (ae 0) nZ)) (cT (bo (aH 3) (bo (aH 4) cS))) (am (cp 5 (m2 cv (m2 kH (mIx (au 2) (m2 iY (ae 3) (ae 1))) (kI 1000003)) (m2 iY (ae 4) (m2 nP (kI 10) (kI 30)))))
  (nY 2 (m2 iY (ae 3) (ae 1)) (m2 iY (m2 cv (ae 5) (ae 3)) (m2 kj (m2 nP (kI 2) (kI 61)) (kI 1))))))
  (fq 2)))
abbrev wH:=bz 6 wG
abbrev wI:MF3:=
 (am (cp 2 (aJ wH (af (ae 0) (af (m2 cv (ae 1) (kI 1)) nZ))))
  (am (cp 3 (sQ CC (af (mIx (au 2) (kI 0)) nZ)))
  (am (cp 4 (aU (bx 2 [] (bn (mIx (au 3) (kI 2))) (cT (bo (aH 0) (bo (aH 1) cS))) kY (bJ (af (ae 0) (af (aU (mSl (ae 1) (λ_=>aa ab) (mPt (kI 2)))) nZ))))))
  (am (eS 5 (bx 2 [] (bn (ae 4)) (cT (bo (aH 0) (bo (aH 1) cS))) kY (bJ (af (kSt "kind") (af (ae 0) (af (aU (au 1)) nZ))))))
  (am (dM (i3 (af (ae 1) nZ)) (aH 6) (gH 5 (sS CF (af (mIx (au 2) (m2 cv (ae 6) (kI 1))) nZ) (af (bJ (af (mIx (au 3) (kI 0)) (af (mIx (au 3) (kI 1)) (af (ae 4) nZ)))) (af (m2 dEq (ae 6) (kI 0)) nZ)))))
  (fq 5))))))
abbrev CG:=bz 7 wI
abbrev wJ:MF3:=
 (am (bu (mB (m2 dEq (mIx (au 0) (kI 0)) (kSt "in"))) (ce (mIx (au 1) (mIx (au 0) (kI 1)))) bw)
  (am (bu (mB (m2 dEq (mIx (au 0) (kI 0)) (kSt "out"))) (ce (m2 cv (kSt "not ") (mIx (au 1) (mIx (au 0) (kI 1))))) bw)
  (am (cp 2 (m2 cv (m2 cv (m2 cv (mIx (au 0) (kI 0)) (kSt " ")) (m1 jM (mIx (au 0) (kI 1)))) (kSt " of ")))
  (am (dM (jE (af (mIx (au 0) (kI 2)) nZ)) (cT (bo (aH 3) (bo (aH 4) cS))) (am (iq 2 (mX (m2 wu (kSt ", ") (jL (m2 dGt (ae 3) (kI 0))))))
  (am (bu (mB (m2 dNe (mIx (au 4) (kI 1)) (kI 1))) (iq 2 (mX (m2 cv (m1 jM (mIx (au 4) (kI 1))) (kSt " ")))) bw)
  (iq 2 (mX (mIx (au 1) (mIx (au 4) (kI 0))))))))
  (fq 2)))))
abbrev wK:=bz 5 wJ
abbrev tL:MF3:=
 (am (cp 2 (kSt "never"))
  (am (bu (mB (m2 dNe (mIx (au 0) (kI 0)) (kSt "never"))) (cp 2 (m2 cv (m2 cv (mIx (af (kSt "may") (af (kSt "rule") nZ)) (jL (m2 dEq (mIx (au 0) (kI 0)) (kSt "make")))) (kSt " ")) (mIx (au 1) (mIx (au 0) (kI 1))))) bw)
  (am (dM (jE (af (mIx (au 0) (kI 2)) nZ)) (cT (bo (aH 3) (bo (aH 4) cS))) (am (bu (mB (m2 dGt (ae 3) (kI 0))) (iq 2 (mX (kSt " and"))) (bu (mB (m2 dNe (mIx (au 0) (kI 0)) (kSt "never"))) (iq 2 (mX (kSt " if"))) bw))
  (iq 2 (mX (m2 cv (kSt " ") (aJ wK (af (ae 4) (af (ae 1) nZ))))))))
  (fq 2))))
abbrev CH:=bz 5 tL
abbrev CI:MF3:=
 (bu (mB (m2 dLt (on (ae 0)) (aJ cY (af (ae 0) nZ)))) (λ_=>ab) bw)
abbrev wL:=bz 1 CI
abbrev CJ:MF3:=
 (am (gy (aJ wL (af (aU (bx 2 [] (bn (m2 cv (ae 1) (ae 0))) (cT (bo (aH 0) (bo (aH 1) cS))) kY (ae 0))) nZ)))
  (am (cp 5 (aU (bx 2 [] (bn (ae 2)) (cT (bo (aH 0) (bo (aH 1) cS))) kY (ae 0))))
  (dM (bn (ae 0)) (cT (bo (aH 3) (bo (aH 4) cS))) (bu (mB (m2 iZ (ae 4) (ae 5))) (λ_=>ab) bw))))
abbrev wM:=bz 6 CJ
abbrev CK:MF3:=
 (ce (mD (pP dLe dLe (kI 1) (aJ cY (af (ae 0) nZ)) (ae 2)) (aJ sy (af (aU (bx 1 [1] (pX (ae 0)) (aH 0) kY (m2 pY (ae 0) (ae 1)))) nZ))))
abbrev qh:=bz 3 CK
abbrev CL:MF3:=
 (ce (mD (aJ qh (af (oi (ae 0) (λ_=>aa ab) (mPt (kI 1))) (af (kSt "ABCDEFGHIJKLMNOPQRSTUVWXYZ") (af (kI 1) nZ)))) (vOr (m2 dEq (aJ cY (af (ae 0) nZ)) (kI 1)) (aJ qh (af (oi (ae 0) (mPt (kI 1)) (λ_=>aa ab)) (af (kSt "abcdefghijklmnopqrstuvwxyz") (af (kI 7) nZ)))))))
abbrev tM:=bz 1 CL
abbrev CM:MF3:=
 (am (cp 2 (aU (bx 2 [] (bn (ae 1)) (cT (bo (aH 0) (bo (aH 1) cS))) kY (ae 0))))
  (dM (bn (ae 0)) (aH 3) (bu (jz (gj (aJ tM (af (ae 3) nZ))) (mB (m2 iZ (ae 3) (ae 2)))) (λ_=>ab) bw)))
abbrev CN:=bz 4 CM
abbrev CO:MF3:=
 (am (eS 1 nZ)
  (am (dM (bn (ae 0)) (cT (bo (aH 2) (bo (aH 3) cS))) (kr 1 (km (mIx (au 2) (kI 1)))))
  (fq 1)))
abbrev wN:=bz 4 CO
abbrev CP:MF3:=
 (am (bu (mB (m2 dEq (mIx (au 0) (kI 0)) (kSt "unlike"))) (ce (bJ (af (aU (af (mIx (au 0) (kI 1)) (af (mIx (au 0) (kI 2)) nZ))) (af (aU nZ) nZ)))) bw)
  (am (bu (mB (m2 dIn (mIx (au 0) (kI 0)) (bJ (af (kSt "least") (af (kSt "most") nZ))))) (ce (bJ (af (aJ wN (af (mIx (au 0) (kI 2)) nZ)) (af (mIx (au 0) (kI 3)) nZ)))) bw)
  (ce (bJ (af (mIx (bn (mIx (au 0) (kI 1))) (kI 1)) (af (aU nZ) nZ))))))
abbrev wO:=bz 1 CP
abbrev CQ:MF3:=
 (am (eS 1 (bx 1 [] (bn (mIx (au 0) (m1 jB (kI 2)))) (aH 0) kY (aJ wO (af (ae 0) nZ))))
  (am (bu (mB (m2 dEq (mIx (au 0) (kI 0)) (kSt "choose"))) (gH 1 (bJ (af (aJ wN (af (mIx (au 0) (kI 3)) nZ)) (af (mIx (au 0) (kI 4)) nZ)))) (bu (mB (m2 dNe (mIx (au 0) (kI 0)) (kSt "never"))) (gH 1 (bJ (af (mIx (bn (mIx (au 0) (kI 1))) (kI 1)) (af (aU nZ) nZ)))) bw))
  (fq 1)))
abbrev CS:=bz 2 CQ
abbrev CT:MF3:=
 (am (gy (aJ wM (af (mIx (au 0) (m1 jB (kI 1))) (af (aU nZ) (af (ae 1) nZ)))))
  (dM (bn (aJ CS (af (ae 0) nZ))) (cT (bo (aH 2) (bo (aH 3) cS))) (am (gy (aJ wM (af (ae 3) (af (mIx (au 0) (m1 jB (kI 1))) (af (ae 1) nZ)))))
  (gy (aJ CN (af (ae 2) (af (m2 cv (mIx (au 0) (m1 jB (kI 1))) (ae 3)) nZ)))))))
abbrev wP:=bz 4 CT
abbrev CU:MF3:=
 (am (cp 2 (mIx (au 0) (kI 1)))
  (am (bu (mB (m2 dIn (ae 2) (aU (bx 2 [] (bn (ae 1)) (cT (bo (aH 0) (bo (aH 1) cS))) kY (ae 0))))) (λ_=>ab) bw)
  (gy (aJ wL (af (mIx (au 0) (kI 2)) nZ)))))
abbrev wQ:=bz 3 CU
abbrev wR:MF3:=
 (am (eS 1 nZ)
  (am (dM (bn (ae 0)) (aH 2) (bu (mB (m2 dEq (mIx (au 2) (kI 0)) (kSt "kind"))) (am (gy (lE wQ (af (ae 2) (af (jy 1) nZ))))
  (gH 1 (bJ (af (mIx (au 2) (kI 1)) (af (aU (bn (mIx (au 2) (kI 2)))) nZ))))) (gy (lE wP (af (ae 2) (af (jy 1) nZ))))))
  (fq 1)))
abbrev CV:=bz 3 wR
abbrev wS:MF3:=
 (am (bu (mB (m2 dIn (mIx (au 0) (kI 0)) (bJ (af (kSt "in") (af (kSt "out") nZ))))) (ce (bJ (af (mIx (au 0) (kI 0)) (af (m2 jK (ae 1) (mIx (au 0) (kI 1))) nZ)))) bw)
  (ce (bJ (af (mIx (au 0) (kI 0)) (af (mIx (au 0) (kI 1)) (af (aU (bx 2 [1] (bn (mIx (au 0) (kI 2))) (cT (bo (aH 0) (bo (aH 1) cS))) kY (bJ (af (m2 jK (ae 2) (ae 0)) (af (ae 1) nZ))))) nZ))))))
abbrev CW:=bz 2 wS
abbrev wT:MF3:=
 (am (cp 2 (vIf (mB (m2 dIs (mIx (au 0) (kI 1)) kN)) kN (m2 jK (ae 1) (mIx (au 0) (kI 1)))))
  (ce (bJ (af (mIx (au 0) (kI 0)) (af (ae 2) (af (aU (bx 1 [1] (bn (mIx (au 0) (kI 2))) (aH 0) kY (aJ CW (af (ae 0) (af (ae 1) nZ))))) nZ))))))
abbrev CY:=bz 3 wT
abbrev CZ:MF3:=
 (bu (mB (m2 dGt (pE (aJ cY (af (ae 0) nZ)) (mT (ae 0))) (ae 1))) (λ_=>ab) bw)
abbrev qi:=bz 3 CZ
abbrev wU:MF3:=
 (am (eS 1 (oz (mB (m2 dIs (mIx (au 0) (kI 1)) kN)) nZ (af (mIx (au 0) (kI 1)) nZ)))
  (am (dM (bn (mIx (au 0) (kI 2))) (aH 2) (bu (mB (m2 dIn (mIx (au 2) (kI 0)) (bJ (af (kSt "in") (af (kSt "out") nZ))))) (gH 1 (mIx (au 2) (kI 1))) (kr 1 (km (aU (bx 2 [] (bn (mIx (au 2) (kI 2))) (cT (bo (aH 0) (bo (aH 1) cS))) kY (ae 0)))))))
  (fq 1)))
abbrev C0:=bz 3 wU
abbrev wV:MF3:=
 (am (Au 1)
  (am (dM (bn (ae 0)) (aH 2) (dM (bn (aJ C0 (af (ae 2) nZ))) (aH 3) (sW 1 (ae 3) (mT (jy 1)))))
  (am (mP 1 (gy (aJ qi (af (ae 1) (af (kI 60) (af (kSt "things") nZ))))))
  (mP 1 (ce (ae 1))))))
abbrev C1:=bz 4 wV
abbrev C2:MF3:=
 (ij (bx 1 [1] (bn (ae 0)) (aH 0) kY (sX (ae 1) (ae 0) (ae 0))))
abbrev wW:=bz 2 C2
abbrev C3:MF3:=
 (am (cp 2 (aU (bx 1 [1] (bn (ae 0)) (aH 0) (mB (m2 dEq (mIx (au 0) (kI 0)) (kSt "unlike"))) (aJ wW (af (A3 (ae 0) (mPt (kI 1)) (λ_=>aa ab)) (af (ae 1) nZ))))))
  (ce (aJ vS (af (aU (bx 2 [] (bn (ae 2)) (A4 (bo (aH 0) (bo (aH 1) cS))) kY (m2 dEq (ae 0) (ae 1)))) nZ))))
abbrev C4:=bz 3 C3
abbrev wX:MF3:=
 (am (wj 2 (ae 1))
  (am (mP 2 (cp 3 (aU (af (aU nZ) nZ))))
  (am (dM (bn (ae 0)) (cT (bo (aH 4) (bo (aH 5) cS))) (am (eS 6 nZ)
  (am (dM (bn (ae 3)) (aH 7) (kr 6 (km (aU (bx 1 [7] (bn (m2 jK (ae 2) (ae 5))) (aH 0) kY (aU (fh (ae 1) (aU (af (ae 0) nZ)))))))))
  (fY 6 (cp 3 (ae 6))))))
  (fq 3))))
abbrev C5:=bz 8 wX
abbrev wY:MF3:=
 (am (cp 3 (aU (bx 2 [] (bn (ae 0)) (cT (bo (aH 0) (bo (aH 1) cS))) kY (ae 0))))
  (am (eS 4 nZ)
  (am (dM (bn (aJ C5 (af (ae 0) (af (ae 1) nZ)))) (aH 5) (am (sU 6 (ae 2))
  (am (sV 6 (wt (af (ae 3) (af (ae 5) nZ))))
  (fY 6 (gH 4 (ae 6))))))
  (fq 4))))
abbrev wZ:=bz 7 wY
abbrev w5:MF3:=
 (am (eS 4 (bx 2 [3] (bn (ae 2)) (cT (bo (aH 0) (bo (aH 1) cS))) kY (bJ (af (kSt "may") (af (ae 0) (af (ae 2) nZ))))))
  (am (gH 4 (bJ (af (kSt "never") (af kN (af (aU (fh (ae 3) (aU (af (bJ (af (kSt "most") (af (m2 kj (ae 0) (kI 1)) (af (ae 2) nZ)))) nZ)))) nZ)))))
  (am (gH 4 (bJ (af (kSt "never") (af kN (af (aU (fh (ae 3) (aU (af (bJ (af (kSt "least") (af (m2 cv (ae 1) (kI 1)) (af (ae 2) nZ)))) nZ)))) nZ)))))
  (fq 4))))
abbrev C6:=bz 5 w5
abbrev b_4:MF3:=
 (am (cp 1 (mIx (au 0) (kI 0)))
  (am (cp 2 (m2 hU (kSt ",") (mIx (au 0) (kI 1))))
  (ce (vIf (gj (ae 2)) (mFs (mFv (ae 1) (mFc "(" (mFv (ae 2) (mFc ")" nZ))))) (ae 1)))))
abbrev m_4:=bz 3 b_4
abbrev C7:MF3:=
 (ce (aJ m_4 (af (bJ (af (mIx (au 0) (kI 0)) (af (aJ wW (af (mIx (au 0) (kI 1)) (af (ae 1) nZ))) nZ))) nZ)))
abbrev qj:=bz 2 C7
abbrev w6:MF3:=
 (am (eS 4 nZ)
  (am (dM (bn (ae 0)) (cT (bo (aH 5) (bo (aH 6) cS))) (kr 4 (km (aU (bx 1 [6,5] (bn (aJ wZ (af (ae 1) (af (ae 3) (af (ae 2) nZ))))) (aH 0) kY (bJ (af (aJ qj (af (ae 2) (af (ae 0) nZ))) (af (ae 1) nZ))))))))
  (am (fY 4 (gy (aJ qi (af (ae 4) (af (kI 60) (af (kSt "items") nZ))))))
  (fq 4))))
abbrev w9:=bz 7 w6
abbrev xa:MF3:=
 (am (bu (mB (m2 dEq (mIx (au 0) (kI 0)) (kSt "is"))) (ce (bJ (af (kSt "in") (af (aJ qj (af (mIx (au 0) (kI 1)) (af (ae 1) nZ))) nZ)))) bw)
  (am (bu (mB (m2 dEq (mIx (au 0) (kI 0)) (kSt "not"))) (ce (bJ (af (kSt "out") (af (aJ qj (af (mIx (au 0) (kI 1)) (af (ae 1) nZ))) nZ)))) bw)
  (ce (bJ (af (mIx (au 0) (kI 0)) (af (mIx (au 0) (kI 1)) (af (aJ w9 (af (mIx (au 0) (kI 2)) (af (mIx (au 0) (kI 3)) (af (ae 1) (af (ae 2) nZ))))) nZ)))))))
abbrev xb:=bz 3 xa
abbrev xc:MF3:=
 (am (cp 3 (aU (bx 1 [1,2] (bn (mIx (au 0) (m1 jB (kI 2)))) (aH 0) (mB (m2 dNe (mIx (au 0) (kI 0)) (kSt "unlike"))) (aJ xb (af (ae 0) (af (ae 1) (af (ae 2) nZ)))))))
  (am (bu (mB (m2 dEq (mIx (au 0) (kI 0)) (kSt "never"))) (ij (af (bJ (af (kSt "never") (af kN (af (ae 3) nZ)))) nZ)) bw)
  (am (bu (mB (m2 dEq (mIx (au 0) (kI 0)) (kSt "choose"))) (ce (aJ C6 (af (mIx (au 0) (kI 1)) (af (mIx (au 0) (kI 2)) (af (aJ w9 (af (mIx (au 0) (kI 3)) (af (mIx (au 0) (kI 4)) (af (ae 1) (af (ae 2) nZ))))) (af (ae 3) nZ)))))) bw)
  (am (cp 4 (vIf (mB (m2 dEq (mIx (au 0) (kI 0)) (kSt "rule"))) (kSt "make") (kSt "may")))
  (ij (af (bJ (af (ae 4) (af (aJ qj (af (mIx (au 0) (kI 1)) (af (ae 1) nZ))) (af (ae 3) nZ)))) nZ))))))
abbrev C8:=bz 5 xc
abbrev xf:MF3:=
 (am (eS 2 nZ)
  (am (dM (bn (ae 0)) (aH 3) (bu (mB (m2 dNe (mIx (au 3) (kI 0)) (kSt "kind"))) (dM (bn (aJ wZ (af (mIx (au 3) (m1 jB (kI 1))) (af (ae 1) (af (λ_=>aa (.dic [] [])) nZ))))) (aH 4) (bu (lv (gj (aJ C4 (af (mIx (au 3) (m1 jB (kI 2))) (af (ae 4) nZ))))) (am (kr 2 (km (aJ C8 (af (ae 3) (af (ae 4) (af (ae 1) nZ))))))
  (gy (lE qi (af (jy 2) (af (kI 400) (af (kSt "rules") nZ)))))) bw)) bw))
  (fq 2)))
abbrev C9:=bz 5 xf
abbrev xg:MF3:=
 (am (cp 1 (aJ C9 (af (ae 0) (af (aJ CV (af (ae 0) nZ)) nZ))))
  (am (cp 2 (aJ C1 (af (ae 1) nZ)))
  (ce (bJ (af (aU (A1 (ae 2))) (af (bJ (af (mT (ae 2)) (af (aU (bx 1 [2] (bn (ae 1)) (aH 0) kY (aJ CY (af (ae 0) (af (ae 1) nZ))))) nZ))) nZ))))))
abbrev tN:=bz 3 xg
abbrev IR(a:LD):Option (LSt×LD):=GS 2 [("words",(ae 1)),("place",(kI 0))] a
abbrev Da:MF3:=
 (bu (mB (m2 dLt (lG 0 "Reader" "place") (aJ cY (af (lG 0 "Reader" "words") nZ)))) (λ_=>ab) bw)
abbrev Db:=dz 1 "Reader" ["words","place"] Da
abbrev b_3:MF3:=
 (am (cp 2 (m2 cv (lG 0 "Reader" "place") (ae 1)))
  (dW (vIf (mB (m2 dLt (ae 2) (aJ cY (af (lG 0 "Reader" "words") nZ)))) (mIx (bn (lG 0 "Reader" "words")) (ae 2)) (kSt ""))))
abbrev m_3:=dz 3 "Reader" ["words","place"] b_3
abbrev b_1:MF3:=
 (am (i8 (mBX (mX2 dNe (aW 0 "Reader" "coming" ["words","place"] m_3 (ao (mX (kI 0)) aq)) (mX (ae 1)))) (dW (kBl ag)) bw)
  (am (sM 0 "Reader" "place" (kI 1))
  (dW (kBl ac))))
abbrev m_1:=dz 2 "Reader" ["words","place"] b_1
abbrev b_7:MF3:=
 (i8 (sN (f7 (aW 0 "Reader" "passes" ["words","place"] m_1 (ao (mX (ae 1)) aq)))) (λ_=>ab) bw)
abbrev m_7:=dz 2 "Reader" ["words","place"] b_7
abbrev Dc:MF3:=
 (am (cC 1 (aW 0 "Reader" "coming" ["words","place"] m_3 (ao (mX (kI 0)) aq)))
  (am (sM 0 "Reader" "place" (kI 1))
  (dW (ae 1))))
abbrev oE:=dz 2 "Reader" ["words","place"] Dc
abbrev Dd:MF3:=
 (ce (mD (aJ qh (af (ae 0) (af (kSt "abcdefghijklmnopqrstuvwxyz") (af (kI 8) nZ)))) (m2 iZ (ae 0) (λ_=>aa (.kt (List.map D.str ["kind","rule","may","choose","never","if","and","not","unlike","least","most","of","to","over","in","for"]))))))
abbrev De:=bz 1 Dd
abbrev b_8:MF3:=
 (am (cC 1 (aW 0 "Reader" "take" ["words","place"] oE aq))
  (am (bu (lv (gj (aJ De (af (ae 1) nZ)))) (λ_=>ab) bw)
  (dW (ae 1))))
abbrev m_8:=dz 2 "Reader" ["words","place"] b_8
abbrev Dg:MF3:=
 (am (cC 1 (aW 0 "Reader" "take" ["words","place"] oE aq))
  (am (bu (lv (gj (aJ tM (af (ae 1) nZ)))) (λ_=>ab) bw)
  (dW (ae 1))))
abbrev xh:=dz 2 "Reader" ["words","place"] Dg
abbrev Dh:MF3:=
 (am (cC 1 (aW 0 "Reader" "read_variable" ["words","place"] xh aq))
  (am (jJ (aW 0 "Reader" "must_pass" ["words","place"] m_7 (ao (mX (kSt "in")) aq)))
  (c7 (eD (ao (mX (ae 1)) (ao (aW 0 "Reader" "read_name" ["words","place"] m_8 aq) aq))))))
abbrev Di:=dz 2 "Reader" ["words","place"] Dh
abbrev Dj:MF3:=
 (am (lH 1 (aW 0 "Reader" "read_pair" ["words","place"] Di aq))
  (am (gL (f7 (aW 0 "Reader" "passes" ["words","place"] m_1 (ao (mX (kSt ",")) aq))) (gz 1 (aW 0 "Reader" "read_pair" ["words","place"] Di aq)) 1000000000)
  (fY 1 (dW (ae 1)))))
abbrev Dk:=dz 2 "Reader" ["words","place"] Dj
abbrev xi:MF3:=
 (am (bu (mB (m2 dGt (aJ cY (af (ae 0) nZ)) (ae 1))) (λ_=>ab) bw)
  (fq 0))
abbrev qk:=bz 2 xi
abbrev xj:MF3:=
 (c7 (kP (f7 (aW 0 "Reader" "passes" ["words","place"] m_1 (ao (mX (kSt "for")) aq))) (ip qk (ao (aW 0 "Reader" "read_pairs" ["words","place"] Dk aq) (ao (mX (kI 3)) aq))) (mX (aU nZ))))
abbrev tO:=dz 1 "Reader" ["words","place"] xj
abbrev xk:MF3:=
 (am (bu (mB (m2 dEq (ae 0) (kSt "0"))) (ce (kBl ac)) bw)
  (am (cp 1 (vIf (gj (m2 wd (ae 0) (kSt "-"))) (oi (ae 0) (mPt (kI 1)) (λ_=>aa ab)) (ae 0)))
  (ce (mD (aJ qh (af (ae 1) (af (kSt "0123456789") (af (kI 30) nZ)))) (rX (m2 wd (ae 1) (kSt "0")))))))
abbrev xl:=bz 2 xk
abbrev Dl:MF3:=
 (am (cC 1 (aW 0 "Reader" "take" ["words","place"] oE aq))
  (am (bu (lv (gj (aJ xl (af (ae 1) nZ)))) (λ_=>ab) bw)
  (dW (m1 we (ae 1)))))
abbrev ql:=dz 2 "Reader" ["words","place"] Dl
abbrev Dn:MF3:=
 (c7 (kP (f7 (ip tM (ao (aW 0 "Reader" "coming" ["words","place"] m_3 (ao (mX (kI 0)) aq)) aq))) (aW 0 "Reader" "read_variable" ["words","place"] xh aq) (aW 0 "Reader" "read_name" ["words","place"] m_8 aq)))
abbrev qm:=dz 1 "Reader" ["words","place"] Dn
abbrev xm:MF3:=
 (am (lH 1 (aW 0 "Reader" "read_arg" ["words","place"] qm aq))
  (am (gL (f7 (aW 0 "Reader" "passes" ["words","place"] m_1 (ao (mX (kSt ",")) aq))) (gz 1 (aW 0 "Reader" "read_arg" ["words","place"] qm aq)) 1000000000)
  (am (jJ (aW 0 "Reader" "must_pass" ["words","place"] m_7 (ao (mX (kSt ")")) aq)))
  (fY 1 (dW (aJ qk (af (ae 1) (af (kI 3) nZ))))))))
abbrev Do:=dz 2 "Reader" ["words","place"] xm
abbrev xo:MF3:=
 (am (cC 1 (aW 0 "Reader" "read_name" ["words","place"] m_8 aq))
  (c7 (eD (ao (mX (ae 1)) (ao (kP (f7 (aW 0 "Reader" "passes" ["words","place"] m_1 (ao (mX (kSt "(")) aq))) (aW 0 "Reader" "read_args" ["words","place"] Do aq) (mX (aU nZ))) aq)))))
abbrev oF:=dz 2 "Reader" ["words","place"] xo
abbrev xp:MF3:=
 (am (cC 1 (kP (f7 (ip xl (ao (aW 0 "Reader" "coming" ["words","place"] m_3 (ao (mX (kI 0)) aq)) aq))) (aW 0 "Reader" "read_number" ["words","place"] ql aq) (mX (kI 1))))
  (am (bu (mB (m2 dLt (ae 1) (kI 0))) (λ_=>ab) bw)
  (c7 (eD (ao (aW 0 "Reader" "read_thing" ["words","place"] oF aq) (ao (mX (ae 1)) aq))))))
abbrev xq:=dz 2 "Reader" ["words","place"] xp
abbrev xr:MF3:=
 (am (lH 1 (aW 0 "Reader" "read_item" ["words","place"] xq aq))
  (am (gL (f7 (aW 0 "Reader" "passes" ["words","place"] m_1 (ao (mX (kSt ",")) aq))) (gz 1 (aW 0 "Reader" "read_item" ["words","place"] xq aq)) 1000000000)
  (fY 1 (dW (ae 1)))))
abbrev xt:=dz 2 "Reader" ["words","place"] xr
abbrev xu:MF3:=
 (c7 (kP (f7 (aW 0 "Reader" "passes" ["words","place"] m_1 (ao (mX (kSt "over")) aq))) (ip qk (ao (aW 0 "Reader" "read_pairs" ["words","place"] Dk aq) (ao (mX (kI 2)) aq))) (mX (aU nZ))))
abbrev xv:=dz 1 "Reader" ["words","place"] xu
abbrev xw:MF3:=
 (am (cC 1 (aW 0 "Reader" "take" ["words","place"] oE aq))
  (am (cC 2 (aW 0 "Reader" "read_number" ["words","place"] ql aq))
  (am (jJ (aW 0 "Reader" "must_pass" ["words","place"] m_7 (ao (mX (kSt "of")) aq)))
  (c7 (eD (ao (mX (ae 1)) (ao (mX (ae 2)) (ao (aW 0 "Reader" "read_items" ["words","place"] xt aq) (ao (aW 0 "Reader" "read_over" ["words","place"] xv aq) aq)))))))))
abbrev Dr:=dz 3 "Reader" ["words","place"] xw
abbrev Ds:MF3:=
 (am (cC 1 (aW 0 "Reader" "read_arg" ["words","place"] qm aq))
  (am (jJ (aW 0 "Reader" "must_pass" ["words","place"] m_7 (ao (mX (kSt "unlike")) aq)))
  (c7 (eD (ao (mX (kSt "unlike")) (ao (mX (ae 1)) (ao (aW 0 "Reader" "read_arg" ["words","place"] qm aq) aq)))))))
abbrev IS:=dz 2 "Reader" ["words","place"] Ds
abbrev xy:MF3:=
 (am (i8 (f7 (aW 0 "Reader" "passes" ["words","place"] m_1 (ao (mX (kSt "not")) aq))) (c7 (eD (ao (mX (kSt "not")) (ao (aW 0 "Reader" "read_thing" ["words","place"] oF aq) aq)))) bw)
  (am (i8 (mBX (mX2 dIn (aW 0 "Reader" "coming" ["words","place"] m_3 (ao (mX (kI 0)) aq)) (mX (bJ (af (kSt "least") (af (kSt "most") nZ)))))) (c7 (aW 0 "Reader" "read_count" ["words","place"] Dr aq)) bw)
  (am (i8 (mBX (mX2 dEq (aW 0 "Reader" "coming" ["words","place"] m_3 (ao (mX (kI 1)) aq)) (mX (kSt "unlike")))) (c7 (aW 0 "Reader" "read_unlike" ["words","place"] IS aq)) bw)
  (c7 (eD (ao (mX (kSt "is")) (ao (aW 0 "Reader" "read_thing" ["words","place"] oF aq) aq)))))))
abbrev xz:=dz 1 "Reader" ["words","place"] xy
abbrev xA:MF3:=
 (am (lH 1 (aW 0 "Reader" "read_part" ["words","place"] xz aq))
  (am (gL (f7 (aW 0 "Reader" "passes" ["words","place"] m_1 (ao (mX (kSt "and")) aq))) (gz 1 (aW 0 "Reader" "read_part" ["words","place"] xz aq)) 1000000000)
  (fY 1 (dW (ae 1)))))
abbrev xB:=dz 2 "Reader" ["words","place"] xA
abbrev xC:MF3:=
 (c7 (kP (f7 (aW 0 "Reader" "passes" ["words","place"] m_1 (ao (mX (kSt "if")) aq))) (aW 0 "Reader" "read_body" ["words","place"] xB aq) (mX (aU nZ))))
abbrev xD:=dz 1 "Reader" ["words","place"] xC
abbrev Dt:MF3:=
 (am (cC 1 (aW 0 "Reader" "read_number" ["words","place"] ql aq))
  (am (jJ (aW 0 "Reader" "must_pass" ["words","place"] m_7 (ao (mX (kSt "to")) aq)))
  (am (cC 2 (aW 0 "Reader" "read_number" ["words","place"] ql aq))
  (am (jJ (aW 0 "Reader" "must_pass" ["words","place"] m_7 (ao (mX (kSt "of")) aq)))
  (c7 (eD (ao (mX (kSt "choose")) (ao (mX (ae 1)) (ao (mX (ae 2)) (ao (aW 0 "Reader" "read_items" ["words","place"] xt aq) (ao (aW 0 "Reader" "read_over" ["words","place"] xv aq) (ao (aW 0 "Reader" "read_if" ["words","place"] xD aq) (ao (aW 0 "Reader" "read_for" ["words","place"] tO aq) aq)))))))))))))
abbrev IT:=dz 3 "Reader" ["words","place"] Dt
abbrev Du:MF3:=
 (am (lH 1 (aW 0 "Reader" "read_name" ["words","place"] m_8 aq))
  (am (gL (mBX (mX2 dNe (aW 0 "Reader" "coming" ["words","place"] m_3 (ao (mX (kI 0)) aq)) (mX (kSt "")))) (gz 1 (aW 0 "Reader" "read_name" ["words","place"] m_8 aq)) 1000000000)
  (fY 1 (dW (aJ qk (af (ae 1) (af (kI 12) nZ)))))))
abbrev IU:=dz 2 "Reader" ["words","place"] Du
abbrev xE:MF3:=
 (am (cC 1 (aW 0 "Reader" "read_body" ["words","place"] xB aq))
  (am (bu (gj (aJ sy (af (aU (bx 1 [] (bn (ae 1)) (aH 0) kY (m2 dEq (mIx (au 0) (kI 0)) (kSt "unlike")))) nZ))) (λ_=>ab) bw)
  (c7 (eD (ao (mX (kSt "never")) (ao (mX (ae 1)) (ao (aW 0 "Reader" "read_for" ["words","place"] tO aq) aq)))))))
abbrev Dv:=dz 2 "Reader" ["words","place"] xE
abbrev xF:MF3:=
 (am (cC 1 (aW 0 "Reader" "take" ["words","place"] oE aq))
  (am (bu (mB (m2 dEq (ae 1) (kSt "kind"))) (c7 (eD (ao (mX (kSt "kind")) (ao (aW 0 "Reader" "read_name" ["words","place"] m_8 aq) (ao (aW 0 "Reader" "read_names" ["words","place"] IU aq) aq))))) bw)
  (am (bu (mB (m2 dIn (ae 1) (bJ (af (kSt "rule") (af (kSt "may") nZ))))) (c7 (eD (ao (mX (ae 1)) (ao (aW 0 "Reader" "read_thing" ["words","place"] oF aq) (ao (aW 0 "Reader" "read_if" ["words","place"] xD aq) (ao (aW 0 "Reader" "read_for" ["words","place"] tO aq) aq)))))) bw)
  (am (bu (mB (m2 dEq (ae 1) (kSt "choose"))) (c7 (aW 0 "Reader" "read_choose" ["words","place"] IT aq)) bw)
  (am (bu (mB (m2 dEq (ae 1) (kSt "never"))) (c7 (aW 0 "Reader" "read_never" ["words","place"] Dv aq)) bw)
  (λ_=>ab))))))
abbrev Dw:=dz 2 "Reader" ["words","place"] xF
abbrev tP:MF3:=
 (am (sJ 1 2 "()," (ae 0))
  (ij (bx 1 [] (bn (m2 lF (ae 1) (kSt " "))) (aH 0) (mB (m2 dNe (ae 0) (kSt ""))) (ae 0))))
abbrev qo:=bz 3 tP
abbrev xG:MF3:=
 (am (wf 1 "Reader" IR (af (aJ qo (af (ae 0) nZ)) nZ))
  (am (cC 2 (om 1 "Reader" "read_form" ["words","place"] Dw aq))
  (am (jJ (om 1 "Reader" "must_end" ["words","place"] Db aq))
  (fq 2))))
abbrev xH:=bz 3 xG
abbrev xI:MF3:=
 (ij (bx 1 [] (bn (m2 lF (ae 0) (kSt "\n"))) (aH 0) (gj (aJ qo (af (ae 0) nZ))) (aJ xH (af (ae 0) nZ))))
abbrev Dx:=bz 1 xI
abbrev Dy:MF3:=
 (ce (bJ (af (mIx (au 1) (ae 0)) (af (aU nZ) nZ))))
abbrev qp:=bz 2 Dy
abbrev xJ:MF3:=
 (am (bu (mB (m2 dEq (mIx (au 0) (kI 0)) (kSt "in"))) (ce (bJ (af (kSt "is") (af (aJ qp (af (mIx (au 0) (kI 1)) (af (ae 1) nZ))) nZ)))) bw)
  (am (bu (mB (m2 dEq (mIx (au 0) (kI 0)) (kSt "out"))) (ce (bJ (af (kSt "not") (af (aJ qp (af (mIx (au 0) (kI 1)) (af (ae 1) nZ))) nZ)))) bw)
  (ce (bJ (af (mIx (au 0) (kI 0)) (af (mIx (au 0) (kI 1)) (af (aU (bx 2 [1] (bn (mIx (au 0) (kI 2))) (cT (bo (aH 0) (bo (aH 1) cS))) kY (bJ (af (aJ qp (af (ae 0) (af (ae 2) nZ))) (af (ae 1) nZ))))) (af (aU nZ) nZ))))))))
abbrev xK:=bz 2 xJ
abbrev xL:MF3:=
 (ij (oz (gj (ae 1)) (af (ae 0) (af (ae 1) nZ)) nZ))
abbrev oG:=bz 2 xL
abbrev xM:MF3:=
 (am (cp 2 (aJ m_4 (af (ae 0) nZ)))
  (ce (vIf (mB (m2 dEq (ae 1) (kI 1))) (ae 2) (mFs (mFv (ae 1) (mFc " " (mFv (ae 2) nZ)))))))
abbrev xN:=bz 3 xM
abbrev xO:MF3:=
 (ce (m2 hU (kSt ", ") (aU (bx 2 [] (bn (ae 0)) (cT (bo (aH 0) (bo (aH 1) cS))) kY (mFs (mFv (ae 0) (mFc " in " (mFv (ae 1) nZ))))))))
abbrev tQ:=bz 1 xO
abbrev xP:MF3:=
 (ij (fh (aU (af (m2 hU (kSt ", ") (aU (bx 2 [] (bn (ae 0)) (cT (bo (aH 0) (bo (aH 1) cS))) kY (aJ xN (af (ae 0) (af (ae 1) nZ)))))) nZ)) (aJ oG (af (kSt "over") (af (aJ tQ (af (ae 1) nZ)) nZ)))))
abbrev xQ:=bz 2 xP
abbrev xR:MF3:=
 (am (cp 1 (mIx (au 0) (kI 0)))
  (am (bu (mB (m2 dEq (ae 1) (kSt "is"))) (ce (aJ m_4 (af (mIx (au 0) (kI 1)) nZ))) bw)
  (am (bu (mB (m2 dEq (ae 1) (kSt "not"))) (ce (m2 hU (kSt " ") (aU (af (ae 1) (af (aJ m_4 (af (mIx (au 0) (kI 1)) nZ)) nZ))))) bw)
  (am (bu (mB (m2 dEq (ae 1) (kSt "unlike"))) (ce (m2 hU (kSt " ") (aU (af (mIx (au 0) (kI 1)) (af (ae 1) (af (mIx (au 0) (kI 2)) nZ)))))) bw)
  (ce (m2 hU (kSt " ") (aU (fh (aU (af (ae 1) (af (m1 jM (mIx (au 0) (kI 1))) (af (kSt "of") nZ)))) (aJ xQ (af (mIx (au 0) (kI 2)) (af (mIx (au 0) (kI 3)) nZ)))))))))))
abbrev xS:=bz 2 xR
abbrev xT:MF3:=
 (ce (m2 hU (kSt " and ") (aU (bx 1 [] (bn (ae 0)) (aH 0) kY (aJ xS (af (ae 0) nZ))))))
abbrev xU:=bz 1 xT
abbrev xV:MF3:=
 (ce (m2 cv (aJ oG (af (kSt "if") (af (aJ xU (af (ae 0) nZ)) nZ))) (aJ oG (af (kSt "for") (af (aJ tQ (af (ae 1) nZ)) nZ)))))
abbrev xW:=bz 2 xV
abbrev tR:MF3:=
 (am (cp 1 (mIx (au 0) (kI 0)))
  (am (bu (mB (m2 dEq (ae 1) (kSt "kind"))) (ij (fh (aU (af (mIx (au 0) (kI 1)) nZ)) (mIx (au 0) (kI 2)))) bw)
  (am (bu (mB (m2 dEq (ae 1) (kSt "never"))) (ij (fh (aU (af (aJ xU (af (mIx (au 0) (kI 1)) nZ)) nZ)) (aJ oG (af (kSt "for") (af (aJ tQ (af (mIx (au 0) (kI 2)) nZ)) nZ))))) bw)
  (am (bu (mB (m2 dEq (ae 1) (kSt "choose"))) (am (cp 2 (aU (af (m1 jM (mIx (au 0) (kI 1))) (af (kSt "to") (af (m1 jM (mIx (au 0) (kI 2))) (af (kSt "of") nZ))))))
  (ce (m2 cv (m2 cv (ae 2) (aJ xQ (af (mIx (au 0) (kI 3)) (af (mIx (au 0) (kI 4)) nZ)))) (aJ xW (af (mIx (au 0) (kI 5)) (af (mIx (au 0) (kI 6)) nZ)))))) bw)
  (ij (fh (aU (af (aJ m_4 (af (mIx (au 0) (kI 1)) nZ)) nZ)) (aJ xW (af (mIx (au 0) (kI 2)) (af (mIx (au 0) (kI 3)) nZ)))))))))
abbrev xX:=bz 3 tR
abbrev tS:MF3:=
 (ce (m2 hU (kSt " ") (aU (fh (aU (af (mIx (au 0) (kI 0)) nZ)) (aJ xX (af (ae 0) nZ))))))
abbrev tU:=bz 1 tS
abbrev tW:MF3:=
 (am (cp 2 (aU (bx 1 [1] (bn (mIx (au 0) (kI 2))) (aH 0) kY (aJ xK (af (ae 0) (af (ae 1) nZ))))))
  (am (bu (mB (m2 dEq (mIx (au 0) (kI 0)) (kSt "never"))) (ce (aJ tU (af (bJ (af (kSt "never") (af (ae 2) (af (aU nZ) nZ)))) nZ))) bw)
  (am (cp 3 (vIf (mB (m2 dEq (mIx (au 0) (kI 0)) (kSt "make"))) (kSt "rule") (kSt "may")))
  (ce (aJ tU (af (bJ (af (ae 3) (af (aJ qp (af (mIx (au 0) (kI 1)) (af (ae 1) nZ))) (af (ae 2) (af (aU nZ) nZ))))) nZ))))))
abbrev DD:=bz 4 tW
abbrev b_2:MF3:=
 (am (cp 1 (kI 1))
  (am (bu (mB (m2 dGt (aJ cY (af (ae 0) nZ)) (kI 0))) (cp 1 (m2 cv (kI 1) (m2 iY (mIx (au 0) (kI 0)) (kI 3)))) bw)
  (am (cp 2 (aJ CG (af (ae 0) (af (ae 1) nZ))))
  (am (sC (cT (bo (aH 3) (bo (aH 4) cS))) (aJ tN (af (ae 2) nZ)))
  (am (eS 5 nZ)
  (am (dM (bn (mIx (au 4) (kI 1))) (aH 6) (am (cp 7 (aJ DD (af (ae 6) (af (ae 3) nZ))))
  (am (bu (mOr (lv (gj (Af "str" (ae 7)))) (mB (m2 dNe (ae 7) (aJ CH (af (ae 6) (af (ae 3) nZ)))))) (ce (kBl ag)) bw)
  (gH 5 (ae 7)))))
  (am (bu (mB (m2 dNe (bJ (af (ae 3) (af (ae 4) nZ))) (aJ tN (af (ae 2) nZ)))) (ce (kBl ag)) bw)
  (fY 5 (ce (m2 dEq (aJ tN (af (aJ Dx (af (m2 hU (kSt "\n") (ae 5)) nZ)) nZ)) (bJ (af (ae 3) (af (ae 4) nZ)))))))))))))
abbrev m_2:=bz 8 b_2
seal DSs DS DX DE DO PE PS PA
variable{P:du}{w:World}{K:br}{mg:MGT}{base:Heap}{a:Wa}
def di(W:Wd K mg a):qM P w K mg base a 1 "_law_next" a.e_0 ["_law_state","_law_many"] 0 m_0:=by
 refine W.e_0.pk (i5 (F:=b_0) W.e_0.F R6 λ_ _ _ _ _ _ b=>?_);unfold b_0;exact (ar (PZ (pv 0) aj (bW lw (bW da (bW pQ (aC (Hj 0) aj) aj) aj) (bW nQ (bW r6 aj aj) aj)))
 (av (fg (bW lw (bW Gp (aC (Hj 0) aj) aj) (dv 1)))))
def IV(W:Wd K mg a):qM P w K mg base a 2 "_law_small" a.e_24 ["_law_state","_law_many","_law_span"] 0 tm:=by
 refine W.e_24.pk (i5 (F:=wC) W.e_24.F wA λ_ _ _ _ _ _ b=>?_);unfold wC;exact (ar (dH 3 wA.nd aB)
 (ar (fN c9 rfl (vK rfl W.eh (ah (dv 1) ap)) (cx 4 5 wA.nd) (av (og 3 wA.nd (Ht (DE.dx aB) (bR (di W) b (ca 0 (ax (DE.dx (dv 2)) aP)))))))
 (av (fg (dv 3)))))
def DF(W:Wd K mg a):qM P w K mg base a 3 "_law_name" a.e_6 ["_law_state"] 0 m_6:=by
 refine W.e_6.pk (i5 (F:=b_6) W.e_6.F s9 λ_ _ _ _ _ _ b=>?_);unfold b_6;exact (ar (ik 1 s9.nd (bD (ah aB (ah aB (ah aB (ah aB (ah aB (ah aB (ah aB (ah aB ap))))))))))
 (ar (QG 1 s9.nd (DE.dx (DO.de (bD (ah aB (ah aB (ah aB (ah aB (ah aB (ah aB (ah aB (ah aB ap))))))))))))
 (ar (dw 2 s9.nd (i9 (DE.dx (DO.de (bD (ah aj (ah aj ap))))) (bR (di W) b (ca 0 (ax (DE.dx aj) aP)))))
 (ar (dw 3 s9.nd (bR (IV W) b (ca 0 (ax (i7 da (DE.dx aj) (bR (di W) b (ca 0 (ax (DE.dx aj) aP)))) (ax (DE.dx (dv 2)) aP)))))
 (ar (gJ 1 (bE (bv nT pJ (DE.db (dv 3)) (DE.db (dv 1))) (av (fg (bW da aB (dv 3)))) bA))
 (av (fg (dv 3))))))))
def Si(W:Wd K mg a):qM P w K mg base a 4 "_law_lay" a.e_10 ["_law_state"] 0 CC:=by
 refine W.e_10.pk (i5 (F:=tu) W.e_10.F lN λ_ _ _ _ _ _ b=>?_);unfold tu;exact (ar (ik 1 lN.nd (bD ap))
 (ar (vX c9 rfl (sG rfl W.eh (ax (i7 da (DE.dx aj) (bR (di W) b (ca 0 (ax (DE.dx aj) aP)))) aP)) (cx 2 7 lN.nd) (ar (dw 3 lN.nd (bR (DF W) b (ca 0 aP)))
 (av (bE (bv pL pK (DE.db (dv 3)) (dvB 1)) (av (kA (dG (cA eM fU fV fW (pv 1) (bC (DE.pe (dv 3)) bM))))) bA))))
 (ar (QH 4 1 [0] 0 0 ["_law_most","_law_state"] lN.nd rfl (Hg (DE.dx (DO.de (bD (ah aj (ah aj (ah aj (ah aj ap)))))))) (λ_ _ _ _ _=>(dgc 0 1)) (λ_ _ _ _ _=>(fQ (ax (bR (DF W) b (wn 1 aP)) (ax (AN (Hh rfl) (glc rfl) W.g1 boot_min (ax (DE.dx (dvc 0)) (ax (bR (di W) b (wn 1 (ax (DE.dx aj) aP))) aP))) aP)))))
 (ar (ik 5 lN.nd (bD ap))
 (ar (vX c9 rfl (sG rfl W.eh (ax (bR (di W) b (ca 0 (ax (DE.dx aj) aP))) aP)) (cx 2 7 lN.nd) (ar (dw 3 lN.nd (bR (DF W) b (ca 0 aP)))
 (ar (gJ 1 (Q1 6 1 [0] 0 0 ["_law_place","_law_state"] lN.nd rfl (Hg (DE.dx (dv 1))) (λ_ _ _ _ _=>(dgc 0 1)) (λ_ _ _ _ _=>(mR jA (bR (di W) b (wn 1 (ax (DE.dx aj) aP))) (DE.dx aj))) (λ_ _ _ _ _=>(DE.dx (dvc 0)))))
 (av (bE (DW.dt (vB (bv jA lz (DE.db (fX gv gw rfl W.d9 ga (dU (DE.db (dv 6)) ff))) (DE.db aj)) (vA (bv pL pK (DE.db (dv 3)) (DE.db (DO.de (fM 1 [] ["_law_kind"] rfl (GK 5) (λ_ _ _ _ _=>(dgc 0 1)) (λ_ _ _ _ _=>dh) (λ_ _ _ _ _=>(aC (mI 0) aj))))))))) (av (kL (dG (cA eM fU fV fW (pv 5) (bC (DX.pe (fQ (ax (DE.dx (dv 3)) (ax (QU (DE.dx (dv 6)) (i7 nQ (DE.dx aj) (i7 pQ (DE.dx aj) (bR (di W) b (ca 0 (ax (DE.dx aj) aP)))))) aP)))) bM))))) bA)))))
 (av (gJ 5 (gJ 1 (fg (cb (ah (dv 4) (ah (dv 1) (ah (dv 5) ap)))))))))))))
def xY(W:Wd K mg a):qM P w K mg base a 2 "_law_number" a.e_9 ["_law_state"] 0 m_9:=by
 refine W.e_9.pk (i5 (F:=b_9) W.e_9.F Iz λ_ _ _ _ _ _ b=>?_);have c:=b.units;unfold b_9;exact (ar (dw 1 Iz.nd (i7 nQ (bR (di W) b (ca 0 (ax (DE.dx aj) aP))) (DE.dx aj)))
 (ar (mQ (mR (cK c) (bR (di W) b (ca 0 (ax (DE.dx aj) aP))) (DE.dx aj)) (av (dX (i7 da (DE.dx (bW pQ (dv 1) (bW r6 aj aj))) (bR (di W) b (ca 0 (ax (DE.dx (bW r6 aj aj)) aP)))))) bA)
 (av (fg (dv 1)))))
def Sj(W:Wd K mg a):qM P w K mg base a 3 "_law_variable" a.e_47 ["_law_state"] 0 wE:=by
 refine W.e_47.pk (i5 (F:=tw) W.e_47.F Iy λ_ _ _ _ _ _ b=>?_);unfold tw;exact (ar (dw 1 Iy.nd (Ht (DE.dx aB) (bR (di W) b (ca 0 (ax (i9 (DE.dx (DO.de (bD (ah aj (ah aj ap))))) (bR (di W) b (ca 0 (ax (DE.dx aj) aP)))) aP)))))
 (av (dX (i7 da (DE.dx (dv 1)) (bR (IV W) b (ca 0 (ax (bR (di W) b (ca 0 (ax (DE.dx aj) aP))) (ax (i9 (DE.dx (DO.de (bD (ah aj (ah aj ap))))) (bR (di W) b (ca 0 (ax (DE.dx aj) aP)))) aP))))))))
def IW(W:Wd K mg a):qM P w K mg base a 4 "_law_pairs" a.e_25 ["_law_state","_law_kinds","_law_taken","_law_most"] 0 wF:=by
 refine W.e_25.pk (i5 (F:=tB) W.e_25.F wB λ_ _ _ _ _ _ b=>?_);unfold tB;exact (ar (ik 4 wB.nd (bD ap))
 (ar (vX c9 rfl (sG rfl W.eh (ax (i7 pQ (AN (Hh rfl) rfl W.g1 boot_min (ax (DE.dx (dv 3)) (ax (i7 da (i7 Gp (bR (di W) b (ca 0 (ax (DE.dx aj) aP))) (DE.dx aj)) (bR (di W) b (ca 0 (ax (DE.dx aj) aP)))) aP))) (DE.dx (v5 rfl W.e5 (ki jA lz (DE.db (fX gv gw rfl W.d9 ga (dU (DE.db (dv 1)) ff))) (DE.db aj))))) aP)) (cx 5 7 wB.nd) (ar (dw 6 wB.nd (bR (Sj W) b (ca 0 aP)))
 (av (bE (bv pL pK (DE.db (dv 6)) (DE.db (DO.de (jF (dv 2) (DO.de (fM 1 [] ["_law_pair"] rfl (GK 4) (λ_ _ _ _ _=>(dgc 0 1)) (λ_ _ _ _ _=>dh) (λ_ _ _ _ _=>(aC (mI 0) aj)))))))) (av (kL (dG (cA eM fU fV fW (pv 4) (bC (DX.pe (fQ (ax (DE.dx (dv 6)) (ax (i9 (i9 (DE.dx (dv 1)) (bR (di W) b (ca 0 (ax (DE.dx (fX gv gw rfl W.d9 ga (dU (DE.db (dv 1)) ff))) aP)))) (DE.dx aj)) aP)))) bM))))) bA))))
 (av (gJ 4 (fg (dv 4))))))
def xZ(W:Wd K mg a):qM P w K mg base a 2 "_law_thing" a.e_5 ["_law_state","_law_lay_here","_law_known"] 0 m_5:=by
 refine W.e_5.pk (i5 (F:=b_5) W.e_5.F tf λ_ _ _ _ _ _ b=>?_);unfold b_5;exact (ar (AV (i9 (DE.dx (aC (dvC 1) aj)) (bR (di W) b (ca 0 (ax (DE.dx aj) aP)))) (eQ rfl (bN (cx 3 7 tf.nd) (bN (cx 4 7 tf.nd) eB))))
 (ar (ik 5 tf.nd (bD ap))
 (ar (fN c9 rfl (vK rfl W.eh (ah (dv 4) ap)) (cx 6 7 tf.nd) (av (mQ (DWX.dtx (P3 (DT.dtx (bv jA lz (DE.db (fX gv gw rfl W.d9 ga (dU (DE.db (dv 2)) ff))) (DE.db aj))) (P2 (mR jA (bR (di W) b (ca 0 (ax (DE.dx aj) aP))) (DE.dx aj))))) (av (kL (dG (cA eM fU fV fW (pv 5) (bC (DX.pe (i9 (DE.dx (dv 2)) (bR (di W) b (ca 0 (ax (DE.dx (fX gv gw rfl W.d9 ga (dU (DE.db (dv 2)) ff))) aP))))) bM))))) (av (kL (dG (cA eM fU fV fW (pv 5) (bC (DX.pe (i9 (DE.dx (aC (dvC 1) aj)) (bR (di W) b (ca 0 (ax (DE.dx (fX gv gw rfl W.d9 ga (dU (DE.db (aC (dvC 1) aj)) ff))) aP))))) bM))))))))
 (av (gJ 5 (fg (cb (ah (dv 3) (ah (dv 5) ap)))))))))
def IX(W:Wd K mg a):qM P w K mg base a 5 "_law_items" a.e_11 ["_law_state","_law_lay_here","_law_known","_law_kinds","_law_many"] 0 tF:=by
 refine W.e_11.pk (i5 (F:=tE) W.e_11.F qf λ_ _ _ _ _ _ b=>?_);unfold tE;exact (ar (dw 5 qf.nd (bR (IW W) b (ca 0 (ax (DE.dx (dv 3)) (ax (DE.dx (dv 2)) (ax (DE.dx aj) aP))))))
 (ar (dH 6 qf.nd (DO.de (jF (dv 2) (DO.de (fM 1 [] ["_law_pair"] rfl (DI.de (cg (dv 5))) (λ_ _ _ _ _=>(dgc 0 1)) (λ_ _ _ _ _=>dh) (λ_ _ _ _ _=>(aC (mI 0) aj)))))))
 (ar (ik 7 qf.nd (bD ap))
 (ar (vX c9 rfl (sG rfl W.eh (ax (i7 da (DE.dx aj) (bR (di W) b (ca 0 (ax (DE.dx (dv 4)) aP)))) aP)) (cx 8 10 qf.nd) (ar (dw 9 qf.nd (i9 (Hr (ax (DE.dx aj) (ax (AN QA rfl W.hB boot_abs (ax (bR (xY W) b (ca 0 aP)) aP)) aP))) (bR (di W) b (ca 0 (ax (DE.dx aj) aP)))))
 (av (kL (dG (cA eM fU fV fW (pv 7) (bC (DX.pe (fQ (ax (bR (xZ W) b (ca 0 (ax (DE.dx (dv 1)) (ax (DE.dx (dv 6)) aP)))) (ax (DE.dx (dv 9)) aP)))) bM)))))))
 (av (gJ 7 (fg (cb (ah (dv 7) (ah (dv 5) ap))))))))))
def Sk(W:Wd K mg a):qM P w K mg base a 6 "_law_part" a.e_12 ["_law_state","_law_lay_here","_law_known","_law_kinds"] 0 tH:=by
 refine W.e_12.pk (i5 (F:=tG) W.e_12.F oA λ_ _ _ _ _ _ b=>?_);have c:=b.units;unfold tG;exact (ar (dw 4 oA.nd (bR (di W) b (ca 0 (ax (DE.dx aj) aP))))
 (ar (bE (DW.dt (vB (bv (cK c) cR (DE.db (dv 4)) (DE.db aj)) (vA (bv jA lz (DE.db (fX gv gw rfl W.d9 ga (dU (DE.db (dv 2)) ff))) (DE.db aj))))) (ar (dw 5 oA.nd (i9 (DE.dx (dv 2)) (bR (di W) b (ca 0 (ax (DE.dx (fX gv gw rfl W.d9 ga (dU (DE.db (dv 2)) ff))) aP)))))
 (ar (dH 6 oA.nd (bW da (dv 2) (aC (dvC 1) aj)))
 (ar (dw 7 oA.nd (i9 (DE.dx (dv 6)) (bR (di W) b (ca 0 (ax (DE.dx (fX gv gw rfl W.d9 ga (dU (DE.db (dv 6)) ff))) aP)))))
 (ar (mQ (mR (cK c) (bR (di W) b (ca 0 (ax (DE.dx aj) aP))) (DE.dx aj)) (av (fg (cb (ah aB (ah (dv 7) (ah (dv 5) ap)))))) bA)
 (av (fg (cb (ah aB (ah (dv 5) (ah (dv 7) ap)))))))))) bA)
 (ar (bE (bv r9 se (DE.db (dv 4)) (DE.db aj)) (ar (AV (bR (IX W) b (ca 0 (ax (DE.dx (dv 1)) (ax (DE.dx (dv 2)) (ax (DE.dx (dv 3)) (ax (DE.dx aj) aP)))))) (eQ rfl (bN (cx 8 10 oA.nd) (bN (cx 9 10 oA.nd) eB))))
 (av (dX (fQ (ax (DE.dx (aC (DO.dc (bD (ah aB (ah aB ap)))) (bW lw (dv 4) aj))) (ax (bR (xY W) b (ca 0 aP)) (ax (DE.dx (dv 8)) (ax (DE.dx (dv 9)) aP)))))))) bA)
 (av (dX (fQ (ax (DE.dx (aC (DO.dc (bD (ah aB (ah aB (ah aB ap))))) (bW nQ (dv 4) aj))) (ax (bR (xZ W) b (ca 0 (ax (DE.dx (dv 1)) (ax (DE.dx (dv 2)) aP)))) aP))))))))
def Sm(W:Wd K mg a):qM P w K mg base a 7 "_law_body" a.e_73 ["_law_state","_law_lay_here","_law_known","_law_kinds"] 0 CD:=by
 refine W.e_73.pk (i5 (F:=tI) W.e_73.F R7 λ_ _ _ _ _ _ b=>?_);unfold tI;exact(av (dX (Qz 1 [0,1,2,3] 0 0 ["_law_k","_law_state","_law_lay_here","_law_known","_law_kinds"] rfl (sG rfl W.eh (ax (bR (di W) b (ca 0 (ax (DE.dx aj) aP))) aP)) (λ_ _ _ _ _=>(dgc 0 1)) (λ_ _ _ _ _=>(bR (Sk W) b (wn 1 (ax (DE.dx (dvc 2)) (ax (DE.dx (dvc 3)) (ax (DE.dx (dvc 4)) aP)))))))))
def Sn(W:Wd K mg a):qM P w K mg base a 8 "_law_row" a.e_18 ["_law_state","_law_lay_here","_law_first"] 0 CF:=by
 refine W.e_18.pk (i5 (F:=tJ) W.e_18.F oB λ_ _ _ _ _ _ b=>?_);have c:=b.units;unfold tJ;exact (ar (dw 3 oB.nd (bR (IW W) b (ca 0 (ax (DE.dx (aC (dvC 1) aj)) (ax (DE.dx (DO.de (bD ap))) (ax (DE.dx (bW nQ aj (v5 rfl W.e5 (dv 2)))) aP))))))
 (ar (mJ 4 1 [] ["_law_pair"] oB.nd rfl (DI.de (cg (dv 3))) (λ_ _ _ _ _=>(dgc 0 1)) (λ_ _ _ _ _=>dh) (λ_ _ _ _ _=>(aC (mI 0) aj)))
 (ar (dw 5 oB.nd (bR (Sm W) b (ca 0 (ax (DE.dx (dv 1)) (ax (DE.dx (dv 4)) (ax (DE.dx (aC (dvC 1) aj)) aP))))))
 (ar (dw 6 oB.nd (bR (di W) b (ca 0 (ax (DE.dx aj) aP))))
 (ar (bE (bv (cK c) cR (DE.db (dv 6)) (DE.db aj)) (av (dX (fQ (ax (DE.dx aB) (ax (i7 da (DE.dx (dv 5)) (Hr (ax (fQ (ax (i9 (DE.dx (DO.de (bD (ah aB (ah aB ap))))) (bR (di W) b (ca 0 (ax (DE.dx aj) aP)))) (ax (bR (xZ W) b (ca 0 (ax (DE.dx (dv 1)) (ax (DE.dx (dv 4)) aP)))) aP))) aP))) (ax (DE.dx (dv 3)) aP)))))) bA)
 (ar (bE (DW.dt (vB (bv (cK c) cR (DE.db (dv 6)) (DE.db aj)) (vA (iX (DE.db (dv 2)))))) (ar (AV (bR (IX W) b (ca 0 (ax (DE.dx (dv 1)) (ax (DE.dx (dv 4)) (ax (DE.dx (aC (dvC 1) aj)) (ax (DE.dx aj) aP)))))) (eQ rfl (bN (cx 7 9 oB.nd) (bN (cx 8 9 oB.nd) eB))))
 (av (dX (fQ (ax (DE.dx aB) (ax (bR (xY W) b (ca 0 aP)) (ax (bR (xY W) b (ca 0 aP)) (ax (DE.dx (dv 7)) (ax (DE.dx (dv 8)) (ax (DE.dx (dv 5)) (ax (DE.dx (dv 3)) aP))))))))))) bA)
 (av (dX (fQ (ax (DE.dx (aC (DO.dc (bD (ah aB (ah aB ap)))) (bW lw (dv 6) aj))) (ax (bR (xZ W) b (ca 0 (ax (DE.dx (dv 1)) (ax (DE.dx (dv 4)) aP)))) (ax (DE.dx (dv 5)) (ax (DE.dx (dv 3)) aP)))))))))))))
def So(W:Wd K mg a):qD P w K mg base a 1 "_law_seeds" a.e_31 ["_law_script","_law_many"] wH:=by
 refine W.e_31.pk (bQ (F:=wG) W.e_31.F sZ λ_ _ _ _ _ _ b=>?_);unfold wG;exact (ar (vO 2 1 [] ["_law_k"] sZ.nd rfl (DI.de (vK rfl W.eh (ah (dv 1) ap))) (λ_ _ _ _ _=>(dgc 0 1)) (λ_ _ _ _ _=>dh) (λ_ _ _ _ _=>(bW da (bW pQ (dvc 0) aj) aj)))
 (ar (fN c9 rfl (Aq rfl W.ek (ah (dv 0) ap)) (eQ rfl (bN (cx 3 6 sZ.nd) (bN (cx 4 6 sZ.nd) eB))) (ar (dH 5 sZ.nd (bW da (bW pQ (aC (dvC 2) (bW lw (dv 3) (dv 1))) aj) (bW lw (dv 4) (bW r6 aj aj))))
 (av (Pp (pv 2) (bW lw (dv 3) (dv 1)) (bW lw (bW da (dv 5) (dv 3)) (bW nQ (bW r6 aj aj) aj))))))
 (av (g7 2))))
def Sq(W:Wd K mg a):qD P w K mg base a 9 "_law_rows" a.e_32 ["_law_script","_law_many"] CG:=by
 refine W.e_32.pk (bQ (F:=wI) W.e_32.F qg λ_ _ _ _ _ _ d=>?_);have e:=d.units;unfold wI;exact (ar (dH 2 qg.nd (bc (So W) d (ah (dv 0) (ah (bW da (dv 1) aj) ap))))
 (ar (dH 3 qg.nd (QC (Si W) d (ah (aC (dvC 2) aj) ap)))
 (ar (mJ 4 2 [] ["_law_name_here","_law_names"] qg.nd rfl (DI.de (cg (aC (dvC 3) aj))) (λ_ _ _ _ _=>(eQ rfl (bN (dgc 0 2) (bN (dgc 1 2) eB)))) (λ_ _ _ _ _=>dh) (λ_ _ _ _ _=>(cb (ah (dvc 0) (ah (DO.de (by refine OC ?a ?b ?c; (case a=>exact (dvc 1)); (case b=>exact si); (case c=>exact (sj aj)))) ap)))))
 (ar (vO 5 2 [] ["_law_name_here","_law_names"] qg.nd rfl (DI.de (cg (dv 4))) (λ_ _ _ _ _=>(eQ rfl (bN (dgc 0 2) (bN (dgc 1 2) eB)))) (λ_ _ _ _ _=>dh) (λ_ _ _ _ _=>(cb (ah aB (ah (dvc 0) (ah (DO.de (GG boot_list (glc rfl) W.eR (mI 1))) ap))))))
 (ar (fN c9 rfl (vK rfl W.eh (ah (dv 1) ap)) (cx 6 7 qg.nd) (av (kA (dG (cA eM fU fV fW (pv 5) (bC (DE.pe (Q0 (Sn W) d (ah (aC (dvC 2) (bW da (dv 6) aj)) ap) (ah (cb (ah (aC (dvC 3) aj) (ah (aC (dvC 3) aj) (ah (dv 4) ap)))) (ah (ki (cK e) cR (DE.db (dv 6)) (DE.db aj)) ap)))) bM))))))
 (av (g7 5)))))))
def Sr(W:Wd K mg a):qD P w K mg base a 1 "_law_part_text" a.e_19 ["_law_part_here","_law_table"] wK:=by
 refine W.e_19.pk (bQ (F:=wJ) W.e_19.F oC λ_ _ _ _ _ _ c=>?_);have b:=c.units;unfold wJ;exact (ar (bE (bv (cK b) cR (DE.db (aC (dvC 0) aj)) (DE.db aB)) (av (cy (aC (dvC 1) (aC (dvC 0) aj)))) bA)
 (ar (bE (bv (cK b) cR (DE.db (aC (dvC 0) aj)) (DE.db aB)) (av (cy (bW da aB (aC (dvC 1) (aC (dvC 0) aj))))) bA)
 (ar (dH 2 oC.nd (bW da (bW da (bW da (aC (dvC 0) aj) aB) (sK rfl W.eA (aC (dvC 0) aj))) aB))
 (ar (fN c9 rfl (Aq rfl W.ek (ah (aC (dvC 0) aj) ap)) (eQ rfl (bN (cx 3 5 oC.nd) (bN (cx 4 5 oC.nd) eB))) (ar (og 2 oC.nd (DE.dx (bW RJ aB (v5 rfl W.e5 (ki jA lz (DE.db (dv 3)) (DE.db aj))))))
 (ar (bE (bv (jC b) lA (DE.db (aC (dvC 4) aj)) (DE.db aj)) (av (og 2 oC.nd (DE.dx (bW da (sK rfl W.eA (aC (dvC 4) aj)) aB)))) bA)
 (av (og 2 oC.nd (DE.dx (aC (dvC 1) (aC (dvC 4) aj))))))))
 (av (g7 2))))))
def Ss(W:Wd K mg a):qD P w K mg base a 2 "_law_rule_text" a.e_13 ["_law_rule","_law_table"] CH:=by
 refine W.e_13.pk (bQ (F:=tL) W.e_13.F mV λ_ _ _ _ _ _ c=>?_);have b:=c.units;unfold tL;exact (ar (dH 2 mV.nd aB)
 (ar (bE (bv (jC b) lA (DE.db (aC (dvC 0) aj)) (DE.db aB)) (av (dH 2 mV.nd (bW da (bW da (aC (DO.dc (bD (ah aB (ah aB ap)))) (v5 rfl W.e5 (ki (cK b) cR (DE.db (aC (dvC 0) aj)) (DE.db aB)))) aB) (aC (dvC 1) (aC (dvC 0) aj))))) bA)
 (ar (fN c9 rfl (Aq rfl W.ek (ah (aC (dvC 0) aj) ap)) (eQ rfl (bN (cx 3 5 mV.nd) (bN (cx 4 5 mV.nd) eB))) (ar (bE (bv jA lz (DE.db (dv 3)) (DE.db aj)) (av (og 2 mV.nd (DE.dx aB))) (av (bE (bv (jC b) lA (DE.db (aC (dvC 0) aj)) (DE.db aB)) (av (og 2 mV.nd (DE.dx aB))) bA)))
 (av (og 2 mV.nd (DE.dx (bW da aB (bc (Sr W) c (ah (dv 4) (ah (dv 1) ap)))))))))
 (av (g7 2)))))
def IY(W:Wd K mg a):qD P w K mg base a 1 "must_be_unlike" a.e_67 ["words"] wL:=by
 refine W.e_67.pk (bQ (F:=CI) W.e_67.F RW λ_ _ _ _ _ _ b=>?_);unfold CI;exact(av (bE (bv r9 se (DE.db (QP rfl rfl W.d9 rfl W.hG (dv 0))) (DE.db (fX gv gw rfl W.d9 ga (dU (DE.db (dv 0)) ff)))) (av ir) bA))
def IZ(W:Wd K mg a):qD P w K mg base a 2 "must_be_pairs" a.e_37 ["pairs","outer","kinds"] wM:=by
 refine W.e_37.pk (bQ (F:=CJ) W.e_37.F wv λ_ _ _ _ _ _ b=>?_);unfold CJ;exact (ar (kz (bc (IY W) b (ah (DO.de (fM 2 [] ["variable","kind"] rfl (DI.de (cg (bW da (dv 1) (dv 0)))) (λ_ _ _ _ _=>(eQ rfl (bN (dgc 0 2) (bN (dgc 1 2) eB)))) (λ_ _ _ _ _=>dh) (λ_ _ _ _ _=>(dvc 0)))) ap)))
 (ar (mJ 5 2 [] ["kind","names"] wv.nd rfl (DI.de (cg (dv 2))) (λ_ _ _ _ _=>(eQ rfl (bN (dgc 0 2) (bN (dgc 1 2) eB)))) (λ_ _ _ _ _=>dh) (λ_ _ _ _ _=>(dvc 0)))
 (av (fN c9 rfl (cg (dv 0)) (eQ rfl (bN (cx 3 6 wv.nd) (bN (cx 4 6 wv.nd) eB))) (av (bE (bv pL pK (DE.db (dv 4)) (DE.db (dv 5))) (av ir) bA))))))
def x0(W:Wd K mg a):qD P w K mg base a 1 "is_made_of" a.e_28 ["word","signs","most"] qh:=by
 refine W.e_28.pk (bQ (F:=CK) W.e_28.F RT λ_ _ _ _ _ _ b=>?_);unfold CK;exact(av (cy (vC (Pz Gq Gr Gq Gr (DE.db aj) (DE.db (fX gv gw rfl W.d9 ga (dU (DE.db (dv 0)) ff))) (DE.db (dv 2))) (rY (fX (G4 rfl) G5 rfl W.gs boot_all (dU (DE.db (DO.de (fM 1 [1] ["sign","signs"] rfl (DI.de (Qb (dv 0))) (λ_ _ _ _ _=>(dgc 0 1)) (λ_ _ _ _ _=>dh) (λ_ _ _ _ _=>(ki Qd Qc (DE.db (dvc 0)) (DE.db (dvc 1))))))) ff))))))
def DH(W:Wd K mg a):qD P w K mg base a 2 "is_variable" a.e_42 ["word"] tM:=by
 refine W.e_42.pk (bQ (F:=CL) W.e_42.F RV λ_ _ _ _ _ _ b=>?_);have c:=b.units;unfold CL;exact(av (cy (vC (bc (x0 W) b (ah (AI (dv 0) si (sj aj)) (ah (wb rfl W.g2) (ah aj ap)))) (rY (Oy (ki (cK c) cR (DE.db (fX gv gw rfl W.d9 ga (dU (DE.db (dv 0)) ff))) (DE.db aj)) (rY (bc (x0 W) b (ah (AI (dv 0) (sj aj) si) (ah (wb rfl W.fy) (ah aj ap))))))))))
def Su(W:Wd K mg a):qD P w K mg base a 3 "must_be_told" a.e_68 ["args","pairs"] CN:=by
 refine W.e_68.pk (bQ (F:=CM) W.e_68.F Cu λ_ _ _ _ _ _ b=>?_);unfold CM;exact (ar (mJ 2 2 [] ["variable","kind"] Cu.nd rfl (DI.de (cg (dv 1))) (λ_ _ _ _ _=>(eQ rfl (bN (dgc 0 2) (bN (dgc 1 2) eB)))) (λ_ _ _ _ _=>dh) (λ_ _ _ _ _=>(dvc 0)))
 (av (fN c9 rfl (cg (dv 0)) (cx 3 4 Cu.nd) (av (bE (DW.dt (vB (iX (DE.db (bc (DH W) b (ah (dv 3) ap)))) (vA (bv pL pK (DE.db (dv 3)) (DE.db (dv 2)))))) (av ir) bA)))))
def I0(W:Wd K mg a):qD P w K mg base a 1 "args_of" a.e_38 ["items"] wN:=by
 refine W.e_38.pk (bQ (F:=CO) W.e_38.F ww λ_ _ _ _ _ _ b=>?_);unfold CO;exact (ar (ik 1 ww.nd (bD ap))
 (ar (fN c9 rfl (cg (dv 0)) (eQ rfl (bN (cx 2 4 ww.nd) (bN (cx 3 4 ww.nd) eB))) (av (sn (dG (cA eM rp rq rR (pv 1) (bC (DE.pe (aC (dvC 2) aj)) bM))))))
 (av (g7 1))))
def Sv(W:Wd K mg a):qD P w K mg base a 2 "part_uses" a.e_80 ["part"] wO:=by
 refine W.e_80.pk (bQ (F:=CP) W.e_80.F RX λ_ _ _ _ _ _ b=>?_);have c:=b.units;unfold CP;exact (ar (bE (bv (cK c) cR (DE.db (aC (dvC 0) aj)) (DE.db aB)) (av (cy (cb (ah (DO.de (bD (ah (aC (dvC 0) aj) (ah (aC (dvC 0) aj) ap)))) (ah (DO.de (bD ap)) ap))))) bA)
 (ar (bE (bv nT pJ (DE.db (aC (dvC 0) aj)) (DE.db (cb (ah aB (ah aB ap))))) (av (cy (cb (ah (bc (I0 W) b (ah (aC (dvC 0) aj) ap)) (ah (aC (dvC 0) aj) ap))))) bA)
 (av (cy (cb (ah (aC (DE.dc (aC (dvC 0) aj)) aj) (ah (DO.de (bD ap)) ap)))))))
def Sw(W:Wd K mg a):qD P w K mg base a 3 "uses" a.e_79 ["row"] CS:=by
 refine W.e_79.pk (bQ (F:=CQ) W.e_79.F Iu λ_ _ _ _ _ _ b=>?_);have c:=b.units;unfold CQ;exact (ar (vO 1 1 [] ["part"] Iu.nd rfl (DI.de (cg (aC (dvC 0) (nR aj)))) (λ_ _ _ _ _=>(dgc 0 1)) (λ_ _ _ _ _=>dh) (λ_ _ _ _ _=>(bc (Sv W) b (ah (dvc 0) ap))))
 (ar (bE (bv (cK c) cR (DE.db (aC (dvC 0) aj)) (DE.db aB)) (av (kA (dG (cA eM fU fV fW (pv 1) (bC (DE.pe (cb (ah (bc (I0 W) b (ah (aC (dvC 0) aj) ap)) (ah (aC (dvC 0) aj) ap)))) bM))))) (av (bE (bv (jC c) lA (DE.db (aC (dvC 0) aj)) (DE.db aB)) (av (kA (dG (cA eM fU fV fW (pv 1) (bC (DE.pe (cb (ah (aC (DE.dc (aC (dvC 0) aj)) aj) (ah (DO.de (bD ap)) ap)))) bM))))) bA)))
 (av (g7 1))))
def Sx(W:Wd K mg a):qD P w K mg base a 4 "must_be_known" a.e_57 ["row","kinds"] wP:=by
 refine W.e_57.pk (bQ (F:=CT) W.e_57.F Ct λ_ _ _ _ _ _ b=>?_);unfold CT;exact (ar (kz (bc (IZ W) b (ah (aC (dvC 0) (nR aj)) (ah (DO.de (bD ap)) (ah (dv 1) ap)))))
 (av (fN c9 rfl (cg (bc (Sw W) b (ah (dv 0) ap))) (eQ rfl (bN (cx 2 4 Ct.nd) (bN (cx 3 4 Ct.nd) eB))) (ar (kz (bc (IZ W) b (ah (dv 3) (ah (aC (dvC 0) (nR aj)) (ah (dv 1) ap)))))
 (av (kz (bc (Su W) b (ah (dv 2) (ah (bW da (aC (dvC 0) (nR aj)) (dv 3)) ap)))))))))
def Sy(W:Wd K mg a):qD P w K mg base a 2 "must_be_new" a.e_66 ["row","kinds"] wQ:=by
 refine W.e_66.pk (bQ (F:=CU) W.e_66.F Ir λ_ _ _ _ _ _ b=>?_);unfold CU;exact (ar (dH 2 Ir.nd (aC (dvC 0) aj))
 (ar (bE (bv nT pJ (DE.db (dv 2)) (DE.db (DO.de (fM 2 [] ["kind","names"] rfl (DI.de (cg (dv 1))) (λ_ _ _ _ _=>(eQ rfl (bN (dgc 0 2) (bN (dgc 1 2) eB)))) (λ_ _ _ _ _=>dh) (λ_ _ _ _ _=>(dvc 0)))))) (av ir) bA)
 (av (kz (bc (IY W) b (ah (aC (dvC 0) aj) ap))))))
def Sz(W:Wd K mg a):qD P w K mg base a 5 "kinds_of" a.e_56 ["rows"] CV:=by
 refine W.e_56.pk (bQ (F:=wR) W.e_56.F Cs λ_ _ _ _ _ _ b=>?_);have c:=b.units;unfold wR;exact (ar (ik 1 Cs.nd (bD ap))
 (ar (fN c9 rfl (cg (dv 0)) (cx 2 3 Cs.nd) (av (bE (bv (cK c) cR (DE.db (aC (dvC 2) aj)) (DE.db aB)) (ar (kz (AA (Sy W) b (dU (DE.db (dv 2)) (dU (dvB 1) ff))))
 (av (kA (dG (cA eM fU fV fW (pv 1) (bC (DE.pe (cb (ah (aC (dvC 2) aj) (ah (DO.de (GG boot_list rfl W.eR (DE.dc (aC (dvC 2) aj)))) ap)))) bM)))))) (av (kz (AA (Sx W) b (dU (DE.db (dv 2)) (dU (dvB 1) ff))))))))
 (av (g7 1))))
def SA(W:Wd K mg a):qD P w K mg base a 1 "numbered_part" a.e_82 ["part","places"] CW:=by
 refine W.e_82.pk (bQ (F:=wS) W.e_82.F R3 λ_ _ _ _ _ _ c=>?_);have b:=c.units;unfold wS;exact (ar (bE (bv nT pJ (DE.db (aC (dvC 0) aj)) (DE.db (cb (ah aB (ah aB ap))))) (av (cy (cb (ah (aC (dvC 0) aj) (ah (v4 b (dv 1) (aC (dvC 0) aj)) ap))))) bA)
 (av (cy (cb (ah (aC (dvC 0) aj) (ah (aC (dvC 0) aj) (ah (DO.de (fM 2 [1] ["text","worth","places"] rfl (DI.de (cg (aC (dvC 0) aj))) (λ_ _ _ _ _=>(eQ rfl (bN (dgc 0 2) (bN (dgc 1 2) eB)))) (λ_ _ _ _ _=>dh) (λ_ _ _ _ _=>(cb (ah (v4 b (dvc 2) (dvc 0)) (ah (dvc 1) ap)))))) ap)))))))
def SB(W:Wd K mg a):qD P w K mg base a 2 "numbered" a.e_72 ["rule","places"] CY:=by
 refine W.e_72.pk (bQ (F:=wT) W.e_72.F Ix λ_ _ _ _ _ _ b=>?_);have c:=b.units;unfold wT;exact (ar (dH 2 Ix.nd (nO (bv Gu Gv (DE.db (aC (dvC 0) aj)) (DE.db pG)) pG (v4 c (dv 1) (aC (dvC 0) aj))))
 (av (cy (cb (ah (aC (dvC 0) aj) (ah (dv 2) (ah (DO.de (fM 1 [1] ["part","places"] rfl (DI.de (cg (aC (dvC 0) aj))) (λ_ _ _ _ _=>(dgc 0 1)) (λ_ _ _ _ _=>dh) (λ_ _ _ _ _=>(bc (SA W) b (ah (dvc 0) (ah (dvc 1) ap)))))) ap)))))))
def DJ(W:Wd K mg a):qD P w K mg base a 1 "must_be_narrow" a.e_39 ["listed","most","what"] qi:=by
 refine W.e_39.pk (bQ (F:=CZ) W.e_39.F RY λ_ _ _ _ _ _ b=>?_);unfold CZ;exact(av (bE (bv jA lz (DE.db (DE.orE (fX gv gw rfl W.d9 ga (dU (DE.db (dv 0)) ff)) (AY rfl W.d9 (DE.db (dv 0))))) (DE.db (dv 1))) (av ir) bA))
def SD(W:Wd K mg a):qD P w K mg base a 1 "texts_in" a.e_59 ["rule"] C0:=by
 refine W.e_59.pk (bQ (F:=wU) W.e_59.F Cy λ_ _ _ _ _ _ b=>?_);unfold wU;exact (ar (ik 1 Cy.nd (Ik (bv Gu Gv (DE.db (aC (dvC 0) aj)) (DE.db pG)) (bD ap) (bD (ah (aC (dvC 0) aj) ap))))
 (ar (fN c9 rfl (cg (aC (dvC 0) aj)) (cx 2 3 Cy.nd) (av (bE (bv nT pJ (DE.db (aC (dvC 2) aj)) (DE.db (cb (ah aB (ah aB ap))))) (av (kA (dG (cA eM fU fV fW (pv 1) (bC (DE.pe (aC (dvC 2) aj)) bM))))) (av (sn (dG (cA eM rp rq rR (pv 1) (bC (DE.pe (DO.de (fM 2 [] ["text","worth"] rfl (DI.de (cg (aC (dvC 2) aj))) (λ_ _ _ _ _=>(eQ rfl (bN (dgc 0 2) (bN (dgc 1 2) eB)))) (λ_ _ _ _ _=>dh) (λ_ _ _ _ _=>(dvc 0))))) bM))))))))
 (av (g7 1))))
def SE(W:Wd K mg a):qD P w K mg base a 2 "places_in" a.e_45 ["rules"] C1:=by
 refine W.e_45.pk (bQ (F:=wV) W.e_45.F wz λ_ _ _ _ _ _ b=>?_);unfold wV;exact (ar (Pl 1 wz.nd)
 (ar (fN c9 rfl (cg (dv 0)) (cx 2 4 wz.nd) (av (fN c9 rfl (cg (bc (SD W) b (ah (dv 2) ap))) (cx 3 4 wz.nd) (av (Rg (dG (cA zj E7 PySem.F.type_dict_setdefault Q7 (pv 1) (bC (DE.pe (dv 3)) (bC (DE.pe (AY rfl W.d9 (dvB 1))) bM)))))))))
 (ar (AF 1 (kz (bc (DJ W) b (ah (dv 1) (ah (AX rfl W.eq) (ah aB ap))))))
 (av (AF 1 (cy (dv 1)))))))
def Ja(W:Wd K mg a):qD P w K mg base a 1 "name_all" a.e_69 ["args","names"] wW:=by
 refine W.e_69.pk (bQ (F:=C2) W.e_69.F RZ λ_ _ _ _ _ _ b=>?_);have c:=b.units;unfold C2;exact(av (ku (fM 1 [1] ["arg","names"] rfl (DI.de (cg (dv 0))) (λ_ _ _ _ _=>(dgc 0 1)) (λ_ _ _ _ _=>dh) (λ_ _ _ _ _=>(RB c (dvc 1) (dvc 0) (dvc 0) ⟨rfl,rfl,rfl,rfl⟩)))))
def SF(W:Wd K mg a):qD P w K mg base a 2 "has_like" a.e_81 ["body","names"] C4:=by
 refine W.e_81.pk (bQ (F:=C3) W.e_81.F Iv λ_ _ _ _ _ _ b=>?_);have c:=b.units;unfold C3;exact (ar (mJ 2 1 [1] ["part","names"] Iv.nd rfl (DI.de (cg (dv 0))) (λ_ _ _ _ _=>(dgc 0 1)) (λ_ _ _ _ _=>(vL (bv (cK c) cR (DE.db (aC (mI 0) aj)) (DE.db aB)))) (λ_ _ _ _ _=>(bc (Ja W) b (ah (RD (dvc 0) (sj aj) si) (ah (dvc 1) ap)))))
 (av (cy (fX (Pe rfl) Pf rfl W.hF boot_any (dU (DE.db (DO.de (fM 2 [] ["first","second"] rfl (DI.de (cg (dv 2))) (λ_ _ _ _ _=>(RI rfl (bN (dgc 0 2) (bN (dgc 1 2) eB)))) (λ_ _ _ _ _=>dh) (λ_ _ _ _ _=>(ki (cK c) cR (DE.db (dvc 0)) (DE.db (dvc 1))))))) ff)))))
def SG(W:Wd K mg a):qD P w K mg base a 1 "ways" a.e_17 ["pairs","kinds"] C5:=by
 refine W.e_17.pk (bQ (F:=wX) W.e_17.F mU λ_ _ _ _ _ _ b=>?_);have c:=b.units;unfold wX;exact (ar (Qw 2 rfl mU.nd rfl W.eG (dv 1))
 (ar (AF 2 (dH 3 mU.nd (DO.de (bD (ah (DO.de (bD ap)) ap)))))
 (ar (fN c9 rfl (cg (dv 0)) (eQ rfl (bN (cx 4 8 mU.nd) (bN (cx 5 8 mU.nd) eB))) (ar (ik 6 mU.nd (bD ap))
 (ar (fN c9 rfl (cg (dv 3)) (cx 7 8 mU.nd) (av (sn (dG (cA eM rp rq rR (pv 6) (bC (DE.pe (DO.de (fM 1 [7] ["name","way"] rfl (DI.de (cg (v4 c (dv 2) (dv 5)))) (λ_ _ _ _ _=>(dgc 0 1)) (λ_ _ _ _ _=>dh) (λ_ _ _ _ _=>(DO.de (jF (dvc 1) (DO.de (bD (ah (dvc 0) ap))))))))) bM))))))
 (av (gJ 6 (dH 3 mU.nd (dv 6)))))))
 (av (g7 3)))))
def Jb(W:Wd K mg a):qD P w K mg base a 2 "names_by_ways" a.e_22 ["pairs","kinds","outer"] wZ:=by
 refine W.e_22.pk (bQ (F:=wY) W.e_22.F sY λ_ _ _ _ _ _ b=>?_);unfold wY;exact (ar (mJ 3 2 [] ["variable","kind"] sY.nd rfl (DI.de (cg (dv 0))) (λ_ _ _ _ _=>(eQ rfl (bN (dgc 0 2) (bN (dgc 1 2) eB)))) (λ_ _ _ _ _=>dh) (λ_ _ _ _ _=>(dvc 0)))
 (ar (ik 4 sY.nd (bD ap))
 (ar (fN c9 rfl (cg (bc (SG W) b (ah (dv 0) (ah (dv 1) ap)))) (cx 5 7 sY.nd) (ar (Rb 6 sY.nd rfl W.eG (dv 2))
 (ar (Re (dG (cA zj PySem.F.slot_dict_update PySem.F.type_dict_update Q6 (pv 6) (bC (DE.pe (Rv rfl rfl W.eG rfl W.hH (ah (dv 3) (ah (dv 5) ap)))) bM))))
 (av (gJ 6 (kA (dG (cA eM fU fV fW (pv 4) (bC (DE.pe (dv 6)) bM)))))))))
 (av (g7 4)))))
def SH(W:Wd K mg a):qD P w K mg base a 1 "choice" a.e_70 ["low","high","items","body"] C6:=by
 refine W.e_70.pk (bQ (F:=w5) W.e_70.F Iw λ_ _ _ _ _ _ b=>?_);unfold w5;exact (ar (vO 4 2 [3] ["text","worth","body"] Iw.nd rfl (DI.de (cg (dv 2))) (λ_ _ _ _ _=>(eQ rfl (bN (dgc 0 2) (bN (dgc 1 2) eB)))) (λ_ _ _ _ _=>dh) (λ_ _ _ _ _=>(cb (ah aB (ah (dvc 0) (ah (dvc 2) ap))))))
 (ar (kA (dG (cA eM fU fV fW (pv 4) (bC (DE.pe (cb (ah aB (ah pG (ah (DO.de (jF (dv 3) (DO.de (bD (ah (cb (ah aB (ah (bW nQ (dv 0) aj) (ah (dv 2) ap)))) ap))))) ap))))) bM))))
 (ar (kA (dG (cA eM fU fV fW (pv 4) (bC (DE.pe (cb (ah aB (ah pG (ah (DO.de (jF (dv 3) (DO.de (bD (ah (cb (ah aB (ah (bW da (dv 1) aj) (ah (dv 2) ap)))) ap))))) ap))))) bM))))
 (av (g7 4)))))
def tX(W:Wd K mg a):qD P w K mg base a 1 "shown_thing" a.e_4 ["thing"] m_4:=by
 refine W.e_4.pk (bQ (F:=b_4) W.e_4.F Cq λ_ _ _ _ _ _ b=>?_);unfold b_4;exact (ar (dH 1 Cq.nd (aC (dvC 0) aj))
 (ar (dH 2 Cq.nd (lL (cA iF ll lm lK (DE.pe aB) (bC (DE.pe (aC (dvC 0) aj)) bM))))
 (av (cy (nO (iX (DE.db (dv 2))) (AS (qb (dv 1) (wm (qb (dv 2) (wm AR))))) (dv 1))))))
def x6(W:Wd K mg a):qD P w K mg base a 2 "text_of" a.e_29 ["thing","names"] qj:=by
 refine W.e_29.pk (bQ (F:=C7) W.e_29.F R0 λ_ _ _ _ _ _ b=>?_);unfold C7;exact(av (cy (bc (tX W) b (ah (cb (ah (aC (dvC 0) aj) (ah (bc (Ja W) b (ah (aC (dvC 0) aj) (ah (dv 1) ap))) ap))) ap))))
def Jc(W:Wd K mg a):qD P w K mg base a 3 "put_items" a.e_30 ["items","over","names","kinds"] w9:=by
 refine W.e_30.pk (bQ (F:=w6) W.e_30.F wy λ_ _ _ _ _ _ b=>?_);unfold w6;exact (ar (ik 4 wy.nd (bD ap))
 (ar (fN c9 rfl (cg (dv 0)) (eQ rfl (bN (cx 5 7 wy.nd) (bN (cx 6 7 wy.nd) eB))) (av (sn (dG (cA eM rp rq rR (pv 4) (bC (DE.pe (DO.de (fM 1 [6,5] ["inner","worth","thing"] rfl (DI.de (cg (bc (Jb W) b (ah (dv 1) (ah (dv 3) (ah (dv 2) ap)))))) (λ_ _ _ _ _=>(dgc 0 1)) (λ_ _ _ _ _=>dh) (λ_ _ _ _ _=>(cb (ah (bc (x6 W) b (ah (dvc 2) (ah (dvc 0) ap))) (ah (dvc 1) ap))))))) bM))))))
 (ar (gJ 4 (kz (bc (DJ W) b (ah (dv 4) (ah (AX rfl W.ez) (ah aB ap))))))
 (av (g7 4)))))
def SI(W:Wd K mg a):qD P w K mg base a 4 "put_part" a.e_71 ["part","names","kinds"] xb:=by
 refine W.e_71.pk (bQ (F:=xa) W.e_71.F R1 λ_ _ _ _ _ _ b=>?_);have c:=b.units;unfold xa;exact (ar (bE (bv (cK c) cR (DE.db (aC (dvC 0) aj)) (DE.db aB)) (av (cy (cb (ah aB (ah (bc (x6 W) b (ah (aC (dvC 0) aj) (ah (dv 1) ap))) ap))))) bA)
 (ar (bE (bv (cK c) cR (DE.db (aC (dvC 0) aj)) (DE.db aB)) (av (cy (cb (ah aB (ah (bc (x6 W) b (ah (aC (dvC 0) aj) (ah (dv 1) ap))) ap))))) bA)
 (av (cy (cb (ah (aC (dvC 0) aj) (ah (aC (dvC 0) aj) (ah (bc (Jc W) b (ah (aC (dvC 0) aj) (ah (aC (dvC 0) aj) (ah (dv 1) (ah (dv 2) ap))))) ap))))))))
def SJ(W:Wd K mg a):qD P w K mg base a 5 "rules_by" a.e_58 ["row","names","kinds"] C8:=by
 refine W.e_58.pk (bQ (F:=xc) W.e_58.F Cw λ_ _ _ _ _ _ b=>?_);have c:=b.units;unfold xc;exact (ar (mJ 3 1 [1,2] ["part","names","kinds"] Cw.nd rfl (DI.de (cg (aC (dvC 0) (nR aj)))) (λ_ _ _ _ _=>(dgc 0 1)) (λ_ _ _ _ _=>(vL (bv (jC c) lA (DE.db (aC (mI 0) aj)) (DE.db aB)))) (λ_ _ _ _ _=>(bc (SI W) b (ah (dvc 0) (ah (dvc 1) (ah (dvc 2) ap))))))
 (ar (bE (bv (cK c) cR (DE.db (aC (dvC 0) aj)) (DE.db aB)) (av (ku (bD (ah (cb (ah aB (ah pG (ah (dv 3) ap)))) ap)))) bA)
 (ar (bE (bv (cK c) cR (DE.db (aC (dvC 0) aj)) (DE.db aB)) (av (cy (bc (SH W) b (ah (aC (dvC 0) aj) (ah (aC (dvC 0) aj) (ah (bc (Jc W) b (ah (aC (dvC 0) aj) (ah (aC (dvC 0) aj) (ah (dv 1) (ah (dv 2) ap))))) (ah (dv 3) ap))))))) bA)
 (ar (dH 4 Cw.nd (nO (bv (cK c) cR (DE.db (aC (dvC 0) aj)) (DE.db aB)) aB aB))
 (av (ku (bD (ah (cb (ah (dv 4) (ah (bc (x6 W) b (ah (aC (dvC 0) aj) (ah (dv 1) ap))) (ah (dv 3) ap)))) ap))))))))
def SK(W:Wd K mg a):qD P w K mg base a 6 "rules_of" a.e_44 ["rows","kinds"] C9:=by
 refine W.e_44.pk (bQ (F:=xf) W.e_44.F wx λ_ _ _ _ _ _ b=>?_);have c:=b.units;unfold xf;exact (ar (ik 2 wx.nd (bD ap))
 (ar (fN c9 rfl (cg (dv 0)) (cx 3 5 wx.nd) (av (bE (bv (jC c) lA (DE.db (aC (dvC 3) aj)) (DE.db aB)) (av (fN c9 rfl (cg (bc (Jb W) b (ah (aC (dvC 3) (nR aj)) (ah (dv 1) (ah Ra ap))))) (cx 4 5 wx.nd) (av (bE (rW (iX (DE.db (bc (SF W) b (ah (aC (dvC 3) (nR aj)) (ah (dv 4) ap)))))) (ar (sn (dG (cA eM rp rq rR (pv 2) (bC (DE.pe (bc (SJ W) b (ah (dv 3) (ah (dv 4) (ah (dv 1) ap))))) bM))))
 (av (kz (AA (DJ W) b (dU (dvB 2) (dU (DE.db (AX rfl W.ey)) (dU (DE.db aB) ff))))))) bA)))) bA)))
 (av (g7 2))))
def DK(W:Wd K mg a):qD P w K mg base a 7 "plain_of" a.e_21 ["rows"] tN:=by
 refine W.e_21.pk (bQ (F:=xg) W.e_21.F Cv λ_ _ _ _ _ _ b=>?_);unfold xg;exact (ar (dH 1 Cv.nd (bc (SK W) b (ah (dv 0) (ah (bc (Sz W) b (ah (dv 0) ap)) ap))))
 (ar (dH 2 Cv.nd (bc (SE W) b (ah (dv 1) ap)))
 (av (cy (cb (ah (DO.de (RA rfl rfl W.eR (dv 2))) (ah (cb (ah (AY rfl W.d9 (DE.db (dv 2))) (ah (DO.de (fM 1 [2] ["rule","places"] rfl (DI.de (cg (dv 1))) (λ_ _ _ _ _=>(dgc 0 1)) (λ_ _ _ _ _=>dh) (λ_ _ _ _ _=>(bc (SB W) b (ah (dvc 0) (ah (dvc 1) ap)))))) ap))) ap)))))))
def SL(W:Wd K mg a):Pm P w K mg base CX0 1 (a.cl "Reader") "__init__" a.e_89 ["self","words"] (spI ⟨K,a.cl⟩ "Reader" ["self","words"].length IR):=
 W.e_89.pk W.ad (OS W.e_89.F R8 λ_ _ _ _ _ _ b=>(GP W.ad W.d8 (pv 0) (dv 1) (GP W.ad W.dl (pv 0) aj OR)))
def SM(W:Wd K mg a):eH P w K mg base a 1 "must_end" a.e_86 ["self"] Db:=by
 refine W.e_86.pk W.ad (eE (F:=Da) W.e_86.F Sb λ_ _ _ _ _ _ b=>?_);unfold Da;exact(av (bE (bv r9 se (DE.db (sL "Reader" W.ad W.dl (pv 0))) (DE.db (fX gv gw rfl W.d9 ga (dU (DE.db (sL "Reader" W.ad W.d8 (pv 0))) ff)))) (av ir) bA))
def oH(W:Wd K mg a):eH P w K mg base a 1 "coming" a.e_3 ["self","behind"] m_3:=by
 refine W.e_3.pk W.ad (eE (F:=b_3) W.e_3.F IA λ_ _ _ _ _ _ b=>?_);unfold b_3;exact (ar (dH 2 IA.nd (bW da (sL "Reader" W.ad W.dl (pv 0)) (dv 1)))
 (av (fg (nO (bv r9 se (DE.db (dv 2)) (DE.db (fX gv gw rfl W.d9 ga (dU (DE.db (sL "Reader" W.ad W.d8 (pv 0))) ff)))) (aC (DE.dc (sL "Reader" W.ad W.d8 (pv 0))) (dv 2)) aB))))
def kU(W:Wd K mg a):eH P w K mg base a 2 "passes" a.e_1 ["self","word"] m_1:=by
 refine W.e_1.pk W.ad (eE (F:=b_1) W.e_1.F R9 λ_ _ _ _ _ _ b=>?_);have c:=b.units;unfold b_1;exact (ar (mQ (mR (jC c) (fj (pv 0) (oH W) b (ax (DE.dx aj) aP)) (DE.dx (dv 1))) (av (fg rV)) bA)
 (ar (HK "Reader" W.ad W.dl (pv 0) aj)
 (av (fg rV))))
def qr(W:Wd K mg a):eH P w K mg base a 3 "must_pass" a.e_7 ["self","word"] m_7:=by
 refine W.e_7.pk W.ad (eE (F:=b_7) W.e_7.F Sa λ_ _ _ _ _ _ b=>?_);unfold b_7;exact(av (mQ (Qn (jb (fj (pv 0) (kU W) b (ax (DE.dx (dv 1)) aP)))) (av ir) bA))
def tY(W:Wd K mg a):eH P w K mg base a 2 "take" a.e_14 ["self"] oE:=by
 refine W.e_14.pk W.ad (eE (F:=Dc) W.e_14.F IB λ_ _ _ _ _ _ b=>?_);unfold Dc;exact (ar (dw 1 IB.nd (fj (pv 0) (oH W) b (ax (DE.dx aj) aP)))
 (ar (HK "Reader" W.ad W.dl (pv 0) aj)
 (av (fg (dv 1)))))
def SN(W:Wd K mg a):qD P w K mg base a 2 "is_name" a.e_85 ["word"] De:=by
 refine W.e_85.pk (bQ (F:=Dd) W.e_85.F RU λ_ _ _ _ _ _ b=>?_);unfold Dd;exact(av (cy (vC (bc (x0 W) b (ah (dv 0) (ah (wb rfl W.fy) (ah aj ap)))) (rY (ki pL pK (DE.db (dv 0)) (DE.db (Ql rfl W.hI)))))))
def qt(W:Wd K mg a):eH P w K mg base a 3 "read_name" a.e_8 ["self"] m_8:=by
 refine W.e_8.pk W.ad (eE (F:=b_8) W.e_8.F IE λ_ _ _ _ _ _ b=>?_);unfold b_8;exact (ar (dw 1 IE.nd (bU (pv 0) (tY W) b))
 (ar (bE (rW (iX (DE.db (bc (SN W) b (ah (dv 1) ap))))) (av ir) bA)
 (av (fg (dv 1)))))
def Jd(W:Wd K mg a):eH P w K mg base a 3 "read_variable" a.e_60 ["self"] xh:=by
 refine W.e_60.pk W.ad (eE (F:=Dg) W.e_60.F IG λ_ _ _ _ _ _ b=>?_);unfold Dg;exact (ar (dw 1 IG.nd (bU (pv 0) (tY W) b))
 (ar (bE (rW (iX (DE.db (bc (DH W) b (ah (dv 1) ap))))) (av ir) bA)
 (av (fg (dv 1)))))
def Je(W:Wd K mg a):eH P w K mg base a 4 "read_pair" a.e_78 ["self"] Di:=by
 refine W.e_78.pk W.ad (eE (F:=Dh) W.e_78.F IQ λ_ _ _ _ _ _ b=>?_);unfold Dh;exact (ar (dw 1 IQ.nd (bU (pv 0) (Jd W) b))
 (ar (n8 (fj (pv 0) (qr W) b (ax (DE.dx aB) aP)))
 (av (dX (fQ (ax (DE.dx (dv 1)) (ax (bU (pv 0) (qt W) b) aP)))))))
def Jf(W:Wd K mg a):eH P w K mg base a 5 "read_pairs" a.e_77 ["self"] Dk:=by
 refine W.e_77.pk W.ad (eE (F:=Dj) W.e_77.F IP λ_ _ _ _ _ _ b=>?_);unfold Dj;exact (ar (sP 1 IP.nd (bU (pv 0) (Je W) b))
 (ar (sO 1000000000 c9 (jb (fj (pv 0) (kU W) b (ax (DE.dx aB) aP))) (av (kL (dG (cA eM fU fV fW (pv 1) (bC (DX.pe (bU (pv 0) (Je W) b)) bM))))))
 (av (gJ 1 (fg (dv 1))))))
def x8(W:Wd K mg a):qD P w K mg base a 1 "at_most" a.e_23 ["listed","most"] qk:=by
 refine W.e_23.pk (bQ (F:=xi) W.e_23.F R5 λ_ _ _ _ _ _ b=>?_);unfold xi;exact (ar (bE (bv jA lz (DE.db (fX gv gw rfl W.d9 ga (dU (DE.db (dv 0)) ff))) (DE.db (dv 1))) (av ir) bA)
 (av (g7 0)))
def DL(W:Wd K mg a):eH P w K mg base a 6 "read_for" a.e_40 ["self"] tO:=by
 refine W.e_40.pk W.ad (eE (F:=xj) W.e_40.F Sh λ_ _ _ _ _ _ b=>?_);unfold xj;exact(av (dX (pZ (jb (fj (pv 0) (kU W) b (ax (DE.dx aB) aP))) (v8 (x8 W) b (ax (bU (pv 0) (Jf W) b) (ax (DE.dx aj) aP))) (DE.dx (DO.de (bD ap))))))
def Jg(W:Wd K mg a):qD P w K mg base a 2 "is_number" a.e_43 ["word"] xl:=by
 refine W.e_43.pk (bQ (F:=xk) W.e_43.F Iq λ_ _ _ _ _ _ b=>?_);have c:=b.units;unfold xk;exact (ar (bE (bv (cK c) cR (DE.db (dv 0)) (DE.db aB)) (av (cy rV)) bA)
 (ar (dH 1 Iq.nd (nO (iX (DE.db (HB (cA iF E8 E9 HA (DE.pe (dv 0)) (bC (DE.pe aB) bM))))) (AI (dv 0) (sj aj) si) (dv 0)))
 (av (cy (vC (bc (x0 W) b (ah (dv 1) (ah (wb rfl W.fx) (ah aj ap)))) (rY (Oz (HB (cA iF E8 E9 HA (DE.pe (dv 1)) (bC (DE.pe aB) bM))))))))))
def x9(W:Wd K mg a):eH P w K mg base a 3 "read_number" a.e_26 ["self"] ql:=by
 refine W.e_26.pk W.ad (eE (F:=Dl) W.e_26.F IH λ_ _ _ _ _ _ b=>?_);unfold Dl;exact (ar (dw 1 IH.nd (bU (pv 0) (tY W) b))
 (ar (bE (rW (iX (DE.db (bc (Jg W) b (ah (dv 1) ap))))) (av ir) bA)
 (av (fg (Qk rfl W.e5 (dv 1))))))
def ya(W:Wd K mg a):eH P w K mg base a 4 "read_arg" a.e_33 ["self"] qm:=by
 refine W.e_33.pk W.ad (eE (F:=Dn) W.e_33.F Sd λ_ _ _ _ _ _ b=>?_);unfold Dn;exact(av (dX (pZ (jb (v8 (DH W) b (ax (fj (pv 0) (oH W) b (ax (DE.dx aj) aP)) aP))) (bU (pv 0) (Jd W) b) (bU (pv 0) (qt W) b))))
def SO(W:Wd K mg a):eH P w K mg base a 5 "read_args" a.e_76 ["self"] Do:=by
 refine W.e_76.pk W.ad (eE (F:=xm) W.e_76.F IJ λ_ _ _ _ _ _ b=>?_);unfold xm;exact (ar (sP 1 IJ.nd (bU (pv 0) (ya W) b))
 (ar (sO 1000000000 c9 (jb (fj (pv 0) (kU W) b (ax (DE.dx aB) aP))) (av (kL (dG (cA eM fU fV fW (pv 1) (bC (DX.pe (bU (pv 0) (ya W) b)) bM))))))
 (ar (n8 (fj (pv 0) (qr W) b (ax (DE.dx aB) aP)))
 (av (gJ 1 (fg (bc (x8 W) b (ah (dv 1) (ah aj ap)))))))))
def yb(W:Wd K mg a):eH P w K mg base a 6 "read_thing" a.e_15 ["self"] oF:=by
 refine W.e_15.pk W.ad (eE (F:=xo) W.e_15.F II λ_ _ _ _ _ _ b=>?_);unfold xo;exact (ar (dw 1 II.nd (bU (pv 0) (qt W) b))
 (av (dX (fQ (ax (DE.dx (dv 1)) (ax (pZ (jb (fj (pv 0) (kU W) b (ax (DE.dx aB) aP))) (bU (pv 0) (SO W) b) (DE.dx (DO.de (bD ap)))) aP))))))
def Jh(W:Wd K mg a):eH P w K mg base a 7 "read_item" a.e_50 ["self"] xq:=by
 refine W.e_50.pk W.ad (eE (F:=xp) W.e_50.F IN λ_ _ _ _ _ _ b=>?_);unfold xp;exact (ar (dw 1 IN.nd (pZ (jb (v8 (Jg W) b (ax (fj (pv 0) (oH W) b (ax (DE.dx aj) aP)) aP))) (bU (pv 0) (x9 W) b) (DE.dx aj)))
 (ar (bE (bv r9 se (DE.db (dv 1)) (DE.db aj)) (av ir) bA)
 (av (dX (fQ (ax (bU (pv 0) (yb W) b) (ax (DE.dx (dv 1)) aP)))))))
def Ji(W:Wd K mg a):eH P w K mg base a 8 "read_items" a.e_49 ["self"] xt:=by
 refine W.e_49.pk W.ad (eE (F:=xr) W.e_49.F IM λ_ _ _ _ _ _ b=>?_);unfold xr;exact (ar (sP 1 IM.nd (bU (pv 0) (Jh W) b))
 (ar (sO 1000000000 c9 (jb (fj (pv 0) (kU W) b (ax (DE.dx aB) aP))) (av (kL (dG (cA eM fU fV fW (pv 1) (bC (DX.pe (bU (pv 0) (Jh W) b)) bM))))))
 (av (gJ 1 (fg (dv 1))))))
def Jj(W:Wd K mg a):eH P w K mg base a 6 "read_over" a.e_64 ["self"] xv:=by
 refine W.e_64.pk W.ad (eE (F:=xu) W.e_64.F Sg λ_ _ _ _ _ _ b=>?_);unfold xu;exact(av (dX (pZ (jb (fj (pv 0) (kU W) b (ax (DE.dx aB) aP))) (v8 (x8 W) b (ax (bU (pv 0) (Jf W) b) (ax (DE.dx aj) aP))) (DE.dx (DO.de (bD ap))))))
def SQ(W:Wd K mg a):eH P w K mg base a 9 "read_count" a.e_63 ["self"] Dr:=by
 refine W.e_63.pk W.ad (eE (F:=xw) W.e_63.F CB λ_ _ _ _ _ _ b=>?_);unfold xw;exact (ar (dw 1 CB.nd (bU (pv 0) (tY W) b))
 (ar (dw 2 CB.nd (bU (pv 0) (x9 W) b))
 (ar (n8 (fj (pv 0) (qr W) b (ax (DE.dx aB) aP)))
 (av (dX (fQ (ax (DE.dx (dv 1)) (ax (DE.dx (dv 2)) (ax (bU (pv 0) (Ji W) b) (ax (bU (pv 0) (Jj W) b) aP))))))))))
def SR(W:Wd K mg a):eH P w K mg base a 5 "read_unlike" a.e_88 ["self"] IS:=by
 refine W.e_88.pk W.ad (eE (F:=Ds) W.e_88.F IL λ_ _ _ _ _ _ b=>?_);unfold Ds;exact (ar (dw 1 IL.nd (bU (pv 0) (ya W) b))
 (ar (n8 (fj (pv 0) (qr W) b (ax (DE.dx aB) aP)))
 (av (dX (fQ (ax (DE.dx aB) (ax (DE.dx (dv 1)) (ax (bU (pv 0) (ya W) b) aP))))))))
def Jk(W:Wd K mg a):eH P w K mg base a 10 "read_part" a.e_62 ["self"] xz:=by
 refine W.e_62.pk W.ad (eE (F:=xy) W.e_62.F Sf λ_ _ _ _ _ _ b=>?_);have c:=b.units;unfold xy;exact (ar (mQ (jb (fj (pv 0) (kU W) b (ax (DE.dx aB) aP))) (av (dX (fQ (ax (DE.dx aB) (ax (bU (pv 0) (yb W) b) aP))))) bA)
 (ar (mQ (mR nT (fj (pv 0) (oH W) b (ax (DE.dx aj) aP)) (DE.dx (cb (ah aB (ah aB ap))))) (av (dX (bU (pv 0) (SQ W) b))) bA)
 (ar (mQ (mR (cK c) (fj (pv 0) (oH W) b (ax (DE.dx aj) aP)) (DE.dx aB)) (av (dX (bU (pv 0) (SR W) b))) bA)
 (av (dX (fQ (ax (DE.dx aB) (ax (bU (pv 0) (yb W) b) aP))))))))
def Jl(W:Wd K mg a):eH P w K mg base a 11 "read_body" a.e_48 ["self"] xB:=by
 refine W.e_48.pk W.ad (eE (F:=xA) W.e_48.F IK λ_ _ _ _ _ _ b=>?_);unfold xA;exact (ar (sP 1 IK.nd (bU (pv 0) (Jk W) b))
 (ar (sO 1000000000 c9 (jb (fj (pv 0) (kU W) b (ax (DE.dx aB) aP))) (av (kL (dG (cA eM fU fV fW (pv 1) (bC (DX.pe (bU (pv 0) (Jk W) b)) bM))))))
 (av (gJ 1 (fg (dv 1))))))
def Jm(W:Wd K mg a):eH P w K mg base a 12 "read_if" a.e_61 ["self"] xD:=by
 refine W.e_61.pk W.ad (eE (F:=xC) W.e_61.F Se λ_ _ _ _ _ _ b=>?_);unfold xC;exact(av (dX (pZ (jb (fj (pv 0) (kU W) b (ax (DE.dx aB) aP))) (bU (pv 0) (Jl W) b) (DE.dx (DO.de (bD ap))))))
def SS(W:Wd K mg a):eH P w K mg base a 13 "read_choose" a.e_84 ["self"] IT:=by
 refine W.e_84.pk W.ad (eE (F:=Dt) W.e_84.F CA λ_ _ _ _ _ _ b=>?_);unfold Dt;exact (ar (dw 1 CA.nd (bU (pv 0) (x9 W) b))
 (ar (n8 (fj (pv 0) (qr W) b (ax (DE.dx aB) aP)))
 (ar (dw 2 CA.nd (bU (pv 0) (x9 W) b))
 (ar (n8 (fj (pv 0) (qr W) b (ax (DE.dx aB) aP)))
 (av (dX (fQ (ax (DE.dx aB) (ax (DE.dx (dv 1)) (ax (DE.dx (dv 2)) (ax (bU (pv 0) (Ji W) b) (ax (bU (pv 0) (Jj W) b) (ax (bU (pv 0) (Jm W) b) (ax (bU (pv 0) (DL W) b) aP))))))))))))))
def SU(W:Wd K mg a):eH P w K mg base a 4 "read_names" a.e_87 ["self"] IU:=by
 refine W.e_87.pk W.ad (eE (F:=Du) W.e_87.F IF λ_ _ _ _ _ _ b=>?_);have c:=b.units;unfold Du;exact (ar (sP 1 IF.nd (bU (pv 0) (qt W) b))
 (ar (sO 1000000000 c9 (mR (jC c) (fj (pv 0) (oH W) b (ax (DE.dx aj) aP)) (DE.dx aB)) (av (kL (dG (cA eM fU fV fW (pv 1) (bC (DX.pe (bU (pv 0) (qt W) b)) bM))))))
 (av (gJ 1 (fg (bc (x8 W) b (ah (dv 1) (ah aj ap))))))))
def SV(W:Wd K mg a):eH P w K mg base a 12 "read_never" a.e_75 ["self"] Dv:=by
 refine W.e_75.pk W.ad (eE (F:=xE) W.e_75.F ID λ_ _ _ _ _ _ b=>?_);have c:=b.units;unfold xE;exact (ar (dw 1 ID.nd (bU (pv 0) (Jl W) b))
 (ar (bE (iX (DE.db (fX (G4 rfl) G5 rfl W.gs boot_all (dU (DE.db (DO.de (fM 1 [] ["part"] rfl (DI.de (cg (dv 1))) (λ_ _ _ _ _=>(dgc 0 1)) (λ_ _ _ _ _=>dh) (λ_ _ _ _ _=>(ki (cK c) cR (DE.db (aC (mI 0) aj)) (DE.db aB)))))) ff)))) (av ir) bA)
 (av (dX (fQ (ax (DE.dx aB) (ax (DE.dx (dv 1)) (ax (bU (pv 0) (DL W) b) aP))))))))
def SW(W:Wd K mg a):eH P w K mg base a 14 "read_form" a.e_74 ["self"] Dw:=by
 refine W.e_74.pk W.ad (eE (F:=xF) W.e_74.F IC λ_ _ _ _ _ _ b=>?_);have c:=b.units;unfold xF;exact (ar (dw 1 IC.nd (bU (pv 0) (tY W) b))
 (ar (bE (bv (cK c) cR (DE.db (dv 1)) (DE.db aB)) (av (dX (fQ (ax (DE.dx aB) (ax (bU (pv 0) (qt W) b) (ax (bU (pv 0) (SU W) b) aP)))))) bA)
 (ar (bE (bv nT pJ (DE.db (dv 1)) (DE.db (cb (ah aB (ah aB ap))))) (av (dX (fQ (ax (DE.dx (dv 1)) (ax (bU (pv 0) (yb W) b) (ax (bU (pv 0) (Jm W) b) (ax (bU (pv 0) (DL W) b) aP))))))) bA)
 (ar (bE (bv (cK c) cR (DE.db (dv 1)) (DE.db aB)) (av (dX (bU (pv 0) (SS W) b))) bA)
 (ar (bE (bv (cK c) cR (DE.db (dv 1)) (DE.db aB)) (av (dX (bU (pv 0) (SV W) b))) bA)
 (av ir))))))
def Jn(W:Wd K mg a):qD P w K mg base a 1 "words_of" a.e_20 ["line"] qo:=by
 refine W.e_20.pk (bQ (F:=tP) W.e_20.F Ip λ_ _ _ _ _ _ b=>?_);have c:=b.units;unfold tP;exact (P7 1 2 c9 rfl Ip.nd rfl W.hO (dv 0)
 (av (ku (fM 1 [] ["word"] rfl (DI.de (cg (Hy (cA iF PySem.F.slot_str_split PySem.F.type_str_split Hx (DE.pe (dv 1)) (bC (DE.pe aB) bM))))) (λ_ _ _ _ _=>(dgc 0 1)) (λ_ _ _ _ _=>(vL (bv (jC c) lA (DE.db (dvc 0)) (DE.db aB)))) (λ_ _ _ _ _=>(dvc 0))))))
def SX(W:Wd K mg a):qD P w K mg base a 15 "read_row" a.e_46 ["line"] xH:=by
 refine W.e_46.pk (bQ (F:=xG) W.e_46.F Cz λ_ _ _ _ _ _ c=>?_);unfold xG;exact (ar (Qo 1 "Reader" Cz.nd W.en (SL W).ok (c.mono (by decide)) rfl W.gq W.e_89.b (ah (bc (Jn W) c (ah (dv 0) ap)) ap))
 (ar (dw 2 Cz.nd (HG (pv 1) (SW W) c))
 (ar (n8 (HG (pv 1) (SM W) c))
 (av (g7 2)))))
def SY(W:Wd K mg a):qD P w K mg base a 16 "read" a.e_83 ["text"] Dx:=by
 refine W.e_83.pk (bQ (F:=xI) W.e_83.F R4 λ_ _ _ _ _ _ b=>?_);unfold xI;exact(av (ku (fM 1 [] ["line"] rfl (DI.de (cg (Hy (cA iF PySem.F.slot_str_split PySem.F.type_str_split Hx (DE.pe (dv 0)) (bC (DE.pe aB) bM))))) (λ_ _ _ _ _=>(dgc 0 1)) (λ_ _ _ _ _=>(vL (iX (DE.db (bc (Jn W) b (ah (dvc 0) ap)))))) (λ_ _ _ _ _=>(bc (SX W) b (ah (dvc 0) ap))))))
def yc(W:Wd K mg a):qD P w K mg base a 1 "row_thing" a.e_27 ["thing","table"] qp:=by
 refine W.e_27.pk (bQ (F:=Dy) W.e_27.F RS λ_ _ _ _ _ _ b=>?_);unfold Dy;exact(av (cy (cb (ah (aC (dvC 1) (dv 0)) (ah (DO.de (bD ap)) ap)))))
def SZ(W:Wd K mg a):qD P w K mg base a 2 "row_part" a.e_65 ["part","table"] xK:=by
 refine W.e_65.pk (bQ (F:=xJ) W.e_65.F RQ λ_ _ _ _ _ _ b=>?_);have c:=b.units;unfold xJ;exact (ar (bE (bv (cK c) cR (DE.db (aC (dvC 0) aj)) (DE.db aB)) (av (cy (cb (ah aB (ah (bc (yc W) b (ah (aC (dvC 0) aj) (ah (dv 1) ap))) ap))))) bA)
 (ar (bE (bv (cK c) cR (DE.db (aC (dvC 0) aj)) (DE.db aB)) (av (cy (cb (ah aB (ah (bc (yc W) b (ah (aC (dvC 0) aj) (ah (dv 1) ap))) ap))))) bA)
 (av (cy (cb (ah (aC (dvC 0) aj) (ah (aC (dvC 0) aj) (ah (DO.de (fM 2 [1] ["thing","worth","table"] rfl (DI.de (cg (aC (dvC 0) aj))) (λ_ _ _ _ _=>(eQ rfl (bN (dgc 0 2) (bN (dgc 1 2) eB)))) (λ_ _ _ _ _=>dh) (λ_ _ _ _ _=>(cb (ah (bc (yc W) b (ah (dvc 0) (ah (dvc 2) ap))) (ah (dvc 1) ap)))))) (ah (DO.de (bD ap)) ap)))))))))
def yd(W:Wd K mg a):qD P w K mg base a 1 "if_any" a.e_16 ["word","text"] oG:=by
 refine W.e_16.pk (bQ (F:=xL) W.e_16.F RM λ_ _ _ _ _ _ b=>?_);unfold xL;exact(av (ku (Ik (iX (DE.db (dv 1))) (bD (ah (dv 0) (ah (dv 1) ap))) (bD ap))))
def S0(W:Wd K mg a):qD P w K mg base a 2 "shown_item" a.e_55 ["thing","worth"] xN:=by
 refine W.e_55.pk (bQ (F:=xM) W.e_55.F Io λ_ _ _ _ _ _ b=>?_);have c:=b.units;unfold xM;exact (ar (dH 2 Io.nd (bc (tX W) b (ah (dv 0) ap)))
 (av (cy (nO (bv (cK c) cR (DE.db (dv 1)) (DE.db aj)) (dv 2) (AS (qb (dv 1) (wm (qb (dv 2) AR))))))))
def DM(W:Wd K mg a):qD P w K mg base a 1 "shown_pairs" a.e_36 ["pairs"] tQ:=by
 refine W.e_36.pk (bQ (F:=xO) W.e_36.F RP λ_ _ _ _ _ _ b=>?_);unfold xO;exact(av (cy (lL (cA iF ll lm lK (DE.pe aB) (bC (DE.pe (DO.de (fM 2 [] ["variable","kind"] rfl (DI.de (cg (dv 0))) (λ_ _ _ _ _=>(eQ rfl (bN (dgc 0 2) (bN (dgc 1 2) eB)))) (λ_ _ _ _ _=>dh) (λ_ _ _ _ _=>(AS (qb (dvc 0) (wm (qb (dvc 1) AR)))))))) bM)))))
def Jo(W:Wd K mg a):qD P w K mg base a 3 "shown_over" a.e_54 ["items","over"] xQ:=by
 refine W.e_54.pk (bQ (F:=xP) W.e_54.F RO λ_ _ _ _ _ _ b=>?_);unfold xP;exact(av (ku (jF (DO.de (bD (ah (lL (cA iF ll lm lK (DE.pe aB) (bC (DE.pe (DO.de (fM 2 [] ["thing","worth"] rfl (DI.de (cg (dv 0))) (λ_ _ _ _ _=>(eQ rfl (bN (dgc 0 2) (bN (dgc 1 2) eB)))) (λ_ _ _ _ _=>dh) (λ_ _ _ _ _=>(bc (S0 W) b (ah (dvc 0) (ah (dvc 1) ap))))))) bM))) ap))) (bc (yd W) b (ah aB (ah (bc (DM W) b (ah (dv 1) ap)) ap))))))
def S1(W:Wd K mg a):qD P w K mg base a 4 "shown_part" a.e_53 ["part"] xS:=by
 refine W.e_53.pk (bQ (F:=xR) W.e_53.F Im λ_ _ _ _ _ _ b=>?_);have c:=b.units;unfold xR;exact (ar (dH 1 Im.nd (aC (dvC 0) aj))
 (ar (bE (bv (cK c) cR (DE.db (dv 1)) (DE.db aB)) (av (cy (bc (tX W) b (ah (aC (dvC 0) aj) ap)))) bA)
 (ar (bE (bv (cK c) cR (DE.db (dv 1)) (DE.db aB)) (av (cy (lL (cA iF ll lm lK (DE.pe aB) (bC (DE.pe (DO.de (bD (ah (dv 1) (ah (bc (tX W) b (ah (aC (dvC 0) aj) ap)) ap))))) bM))))) bA)
 (ar (bE (bv (cK c) cR (DE.db (dv 1)) (DE.db aB)) (av (cy (lL (cA iF ll lm lK (DE.pe aB) (bC (DE.pe (DO.de (bD (ah (aC (dvC 0) aj) (ah (dv 1) (ah (aC (dvC 0) aj) ap)))))) bM))))) bA)
 (av (cy (lL (cA iF ll lm lK (DE.pe aB) (bC (DE.pe (DO.de (jF (DO.de (bD (ah (dv 1) (ah (sK rfl W.eA (aC (dvC 0) aj)) (ah aB ap))))) (bc (Jo W) b (ah (aC (dvC 0) aj) (ah (aC (dvC 0) aj) ap)))))) bM)))))))))
def Jp(W:Wd K mg a):qD P w K mg base a 5 "shown_body" a.e_52 ["body"] xU:=by
 refine W.e_52.pk (bQ (F:=xT) W.e_52.F RN λ_ _ _ _ _ _ b=>?_);unfold xT;exact(av (cy (lL (cA iF ll lm lK (DE.pe aB) (bC (DE.pe (DO.de (fM 1 [] ["part"] rfl (DI.de (cg (dv 0))) (λ_ _ _ _ _=>(dgc 0 1)) (λ_ _ _ _ _=>dh) (λ_ _ _ _ _=>(bc (S1 W) b (ah (dvc 0) ap)))))) bM)))))
def Jq(W:Wd K mg a):qD P w K mg base a 6 "shown_end" a.e_51 ["body","pairs"] xW:=by
 refine W.e_51.pk (bQ (F:=xV) W.e_51.F RL λ_ _ _ _ _ _ b=>?_);unfold xV;exact(av (cy (bW da (bc (yd W) b (ah aB (ah (bc (Jp W) b (ah (dv 0) ap)) ap))) (bc (yd W) b (ah aB (ah (bc (DM W) b (ah (dv 1) ap)) ap))))))
def S2(W:Wd K mg a):qD P w K mg base a 7 "behind_word" a.e_35 ["row"] xX:=by
 refine W.e_35.pk (bQ (F:=tR) W.e_35.F Cp λ_ _ _ _ _ _ b=>?_);have c:=b.units;unfold tR;exact (ar (dH 1 Cp.nd (aC (dvC 0) aj))
 (ar (bE (bv (cK c) cR (DE.db (dv 1)) (DE.db aB)) (av (ku (jF (DO.de (bD (ah (aC (dvC 0) aj) ap))) (aC (dvC 0) aj)))) bA)
 (ar (bE (bv (cK c) cR (DE.db (dv 1)) (DE.db aB)) (av (ku (jF (DO.de (bD (ah (bc (Jp W) b (ah (aC (dvC 0) aj) ap)) ap))) (bc (yd W) b (ah aB (ah (bc (DM W) b (ah (aC (dvC 0) aj) ap)) ap)))))) bA)
 (ar (bE (bv (cK c) cR (DE.db (dv 1)) (DE.db aB)) (ar (dH 2 Cp.nd (DO.de (bD (ah (sK rfl W.eA (aC (dvC 0) aj)) (ah aB (ah (sK rfl W.eA (aC (dvC 0) aj)) (ah aB ap)))))))
 (av (cy (bW da (bW da (dv 2) (bc (Jo W) b (ah (aC (dvC 0) aj) (ah (aC (dvC 0) aj) ap)))) (bc (Jq W) b (ah (aC (dvC 0) aj) (ah (aC (dvC 0) aj) ap))))))) bA)
 (av (ku (jF (DO.de (bD (ah (bc (tX W) b (ah (aC (dvC 0) aj) ap)) ap))) (bc (Jq W) b (ah (aC (dvC 0) aj) (ah (aC (dvC 0) aj) ap))))))))))
def Jr(W:Wd K mg a):qD P w K mg base a 8 "shown_row" a.e_34 ["row"] tU:=by
 refine W.e_34.pk (bQ (F:=tS) W.e_34.F RK λ_ _ _ _ _ _ b=>?_);unfold tS;exact(av (cy (lL (cA iF ll lm lK (DE.pe aB) (bC (DE.pe (DO.de (jF (DO.de (bD (ah (aC (dvC 0) aj) ap))) (bc (S2 W) b (ah (dv 0) ap))))) bM)))))
def S3(W:Wd K mg a):qD P w K mg base a 9 "shown_rule" a.e_41 ["rule","table"] DD:=by
 refine W.e_41.pk (bQ (F:=tW) W.e_41.F Cr λ_ _ _ _ _ _ b=>?_);have c:=b.units;unfold tW;exact (ar (mJ 2 1 [1] ["part","table"] Cr.nd rfl (DI.de (cg (aC (dvC 0) aj))) (λ_ _ _ _ _=>(dgc 0 1)) (λ_ _ _ _ _=>dh) (λ_ _ _ _ _=>(bc (SZ W) b (ah (dvc 0) (ah (dvc 1) ap)))))
 (ar (bE (bv (cK c) cR (DE.db (aC (dvC 0) aj)) (DE.db aB)) (av (cy (bc (Jr W) b (ah (cb (ah aB (ah (dv 2) (ah (DO.de (bD ap)) ap)))) ap)))) bA)
 (ar (dH 3 Cr.nd (nO (bv (cK c) cR (DE.db (aC (dvC 0) aj)) (DE.db aB)) aB aB))
 (av (cy (bc (Jr W) b (ah (cb (ah (dv 3) (ah (bc (yc W) b (ah (aC (dvC 0) aj) (ah (dv 1) ap))) (ah (dv 2) (ah (DO.de (bD ap)) ap))))) ap)))))))
def S4(W:Wd K mg a):qD P w K mg base a 17 "law" a.e_2 ["_law_script"] m_2:=by
 refine W.e_2.pk (bQ (F:=b_2) W.e_2.F lO λ_ _ _ _ _ _ b=>?_);have c:=b.units;unfold b_2;exact (ar (dH 1 lO.nd aj)
 (ar (bE (bv jA lz (DE.db (fX gv gw rfl W.d9 ga (dU (DE.db (dv 0)) ff))) (DE.db aj)) (av (dH 1 lO.nd (bW da aj (bW lw (aC (dvC 0) aj) aj)))) bA)
 (ar (dH 2 lO.nd (bc (Sq W) b (ah (dv 0) (ah (dv 1) ap))))
 (ar (PD (bc (DK W) b (ah (dv 2) ap)) (eQ rfl (bN (cx 3 8 lO.nd) (bN (cx 4 8 lO.nd) eB))))
 (ar (ik 5 lO.nd (bD ap))
 (ar (fN c9 rfl (cg (aC (dvC 4) aj)) (cx 6 8 lO.nd) (ar (dH 7 lO.nd (bc (S3 W) b (ah (dv 6) (ah (dv 3) ap))))
 (ar (bE (DW.dt (Ox (rW (iX (DE.db (OG (T:="str") W.gn rfl W.el boot_str rfl W.eA (DE.db (dv 7)))))) (Ow (bv (jC c) lA (DE.db (dv 7)) (DE.db (bc (Ss W) b (ah (dv 6) (ah (dv 3) ap)))))))) (av (cy rV)) bA)
 (av (kA (dG (cA eM fU fV fW (pv 5) (bC (DE.pe (dv 7)) bM))))))))
 (ar (bE (bv (jC c) lA (DE.db (cb (ah (dv 3) (ah (dv 4) ap)))) (DE.db (bc (DK W) b (ah (dv 2) ap)))) (av (cy rV)) bA)
 (av (gJ 5 (cy (ki (cK c) cR (DE.db (bc (DK W) b (ah (bc (SY W) b (ah (lL (cA iF ll lm lK (DE.pe aB) (bC (DE.pe (dv 5)) bM))) ap)) ap))) (DE.db (cb (ah (dv 3) (ah (dv 4) ap)))))))))))))))
local macro_rules | `(tactic| walk_at "evS")=>`(tactic| first | decide | lia | assumption | exact ⟨by decide,by decide⟩ | exact ⟨by lia,by lia⟩ | exact .inl ⟨by decide,by decide⟩ | exact .inr ⟨by decide,by decide⟩ | exact .inl ⟨by lia,by lia⟩ | exact .inr ⟨by lia,by lia⟩ | exact ⟨by decide,by decide,by decide⟩)
local macro_rules | `(tactic| walk_at "evO")=>`(tactic| first | with_reducible exact hE | with_reducible exact mM | with_reducible exact pN | with_reducible exact jH | with_reducible exact Ax | with_reducible exact dGe_eq | with_reducible exact lB _ _ | with_reducible exact GX _ _ | ((with_reducible apply lD); (focus walk_at "evS")) | ((with_reducible apply Aw); (focus walk_at "evS")) | ((with_reducible apply dMul_eq); (focus walk_at "evS")) | ((with_reducible apply n6); (focus first | assumption | exact .inl (by walk_at "evS") | exact .inr ⟨by lia,by lia⟩)) | ((with_reducible apply vV); (focus walk_at "evS")) | ((with_reducible apply dShr_eq); (focus walk_at "evS")) | with_reducible exact GW _ _ | with_reducible exact GY _ _ | with_reducible exact dEq_bl _ _ | with_reducible exact dAndB_eq | exact dEq_nil _ _ | exact dNe_nil _ _ | assumption | rfl)
local macro_rules | `(tactic| walk_at "ev")=>`(tactic| first
 | with_reducible assumption
 | ((with_reducible apply aA); (focus walk_at "ev"); (focus walk_at "ev"); (focus walk_at "evO"))
 | ((with_reducible apply aY); (focus walk_at "ev"))
 | ((with_reducible apply il); (focus walk_at "ev"); (focus first | assumption | rfl))
 | ((with_reducible apply sw); (focus walk_at "ev"); (focus walk_at "ev"))
 | ((with_reducible apply GZ); (focus walk_at "ev"); (focus walk_at "ev"))
 | ((with_reducible apply sv); (focus walk_at "ev"))
 | ((with_reducible apply sx); (focus walk_at "ev"); (focus walk_at "ev"))
 | ((with_reducible apply G0); (focus walk_at "ev"); (focus walk_at "ev"))
 | ((with_reducible apply G1); (focus walk_at "ev"))
 | ((with_reducible apply ai); (focus walk_at "ev"); (focus walk_at "ev"))
 | ((with_reducible apply cH); (focus walk_at "ev"))
 | ((with_reducible apply b6); (focus walk_at "ev"))
 | ((with_reducible apply aS); (focus walk_at "ev"); (focus first | with_reducible assumption | with_reducible exact iK _ _ | assumption | exact iK _ _ | exact Hb _ _ | rfl))
 | ((with_reducible apply callS_is); (focus walk_at "ev"); (focus assumption); (focus rfl))
 | ((with_reducible apply aw); (focus walk_at "ev"); (focus walk_at "ev"); (focus first | assumption | rfl))
 | ((with_reducible apply sl_kl); (focus walk_at "ev"); (focus rfl); (focus rfl))
 | ((with_reducible apply Hc); (focus walk_at "ev"); (focus rfl); (focus rfl))
 | ((with_reducible apply b8); (focus walk_at "ev"); (focus rfl))
 | rfl)
local macro_rules | `(tactic| walk_at "nrm")=>`(tactic| simp only [G8,set_cons_succ,set_cons_zero])
local macro_rules | `(tactic| walk_at "set")=>`(tactic| (apply ak; (first | with_reducible apply cf | with_reducible apply fO); (focus walk_at "ev"); walk_at "nrm"))
local macro_rules | `(tactic| walk_at "if0")=>`(tactic| ((with_reducible first | apply aX | apply cB); (focus walk_at "ev")))
open PySem.Builtin PySem.Builtin.Str
nonrec def tx(l:LN):Str:=⟨l.toArray⟩
def dn(l:LN):(tx l).length=l.length:=by show l.toArray.size=_;simp
def oI(a b:LN):tx a++tx b=tx (a++b):=by
 apply Str.ext';rw[Str.cps_append];simp
def mW(z:Str):tx z.cps.toList=z:=by
 apply Str.ext';simp
def gM{a b:LN}(h:tx a=tx b):a=b:=by
 have:=congrArg (λz:Str=>z.cps.toList) h
 simpa using this
variable{U:LS}{d:L2.D}
def aN{f:MF1}(h:f U=aa d):mX f U=aa (d,U):=by
 unfold mX;rw[h];rfl
variable{f:Xe}{ρ1 ci:LS}{x:L2.D}
def cU{m:D->D->OD}{g:Xe}{y:D}(a:f U=aa (x,ρ1))(b:g ρ1=aa (y,ci))(c:m x y=aa d):mX2 m f g U=aa (d,ci):=by
 unfold mX2;rw[a,aG,b,aG,c];rfl
variable{ds:LD}
def aQ{g:Xa}(a:f U=aa (d,ρ1))(b:g ρ1=aa (ds,ci)):ao f g U=aa (d::ds,ci):=by
 unfold ao;rw[a,aG,b];rfl
def S5{f:Xa}{a:LD}(b:f U=aa (a,ρ1))(c:mE a=aa ds):kM f U=aa (ds,ρ1):=by
 unfold kM;rw[b,aG,c];rfl
variable{i:Nat}{m:Addr->LD->LD->LD->Option (LD×L2.D)}{l:Addr}{xs0 M:LD}
def iw{f:Xa}{h:Addr}{a:LD}(b:U[i]?=aa (.pin h xs0))(c:f U=aa (ds,ρ1))(e:ρ1[i]?=aa (.pin l M))(g:m l [] ds M=aa (a,d)):bj i m f U=aa (d,ρ1.set i (.pin l a)):=by
 unfold bj;rw[b,c,aG,e];show(m l [] ds M).map _=_;rw[g];rfl
variable{K:Fl->Prop}
open Classical in
def dA(h:f U=aa (d,ρ1))(k:K (.nx (ρ1.set i (.im d)))):wp (cC i f) U K:=⟨_,by unfold cC;rw[h];rfl,k⟩
def eZ(h:f U=aa (d,ρ1))(k:K (.rtS d ρ1)):wp (c7 f) U K:=⟨_,by unfold c7;rw[h];rfl,k⟩
def oJ{z:D}(a:U[i]?=aa (.im x))(h:f U=aa (d,ρ1))(b:oe x d=aa z)(k:K (.nx (ρ1.set i (.im z)))):wp (iq i f) U K:=⟨_,by
 unfold iq;rw[a];show(f U).bind _=_;rw[h,aG,b];rfl,k⟩
variable{F:MF3}{b:Bool}
def iN{t:Xt}{a:MF3}(h:t U=aa (b,ρ1))(d:b=ac->wp F ρ1 K)(c:b=ag->wp a ρ1 K):wp (i8 t F a) U K:=by
 unfold wp i8;rw[h]
 cases b with
 |true=>exact d rfl
 |false=>exact c rfl
abbrev nx(s:Int):Int:=(s*1181783497276652981+12345678910987) % (2 ^ 61-1)
abbrev okS(s:Int):Prop:=0<=s/\s<2305843009213693951
def bV(s:Int):okS (nx s):=by
 unfold okS nx;lia
abbrev dr(s k:Int):Int:=nx s / 65537 % k
variable{k:Int}
def bS(s:Int)(h:0<k):0<=dr s k/\dr s k<k:=⟨Int.emod_nonneg _ (by lia),yS _ h⟩
def tZ(l:Addr)(s k:Int)(h:okS s)(b:0<k):m_0 l [] [.int k] [.int s]=aa ([.int (nx s)],.int (dr s k)):=by
 obtain⟨c,d⟩:=h
 have w:wp b_0 [.pin l [.int s],.im (.int k)] (λo=>o=.rtS (.int (dr s k)) [.pin l [.int (nx s)],.im (.int k)]):=by
  apply ak;have a:mN s 1181783497276652981:=.inr ⟨by lia,by decide⟩;exact P0 (aA (aA (aA rfl rfl (n6 a)) rfl hE) (aA (aA rfl rfl (vV (by decide))) rfl mM) (lD (by decide))) rfl rfl (by decide) (by show _<1;decide) (fP (aA (aA rfl rfl (Aw (by have:=bV s;unfold okS at this;walk_at "evS"))) rfl (lD b)) rfl)
 obtain⟨o,e,rfl⟩:=w;exact i6 e rfl
abbrev smL:LN:=("abcdefghijklmnopqrstuvwxyz":Str).cps.toList
def DN:smL.length=26:=by decide +kernel
def smT:("abcdefghijklmnopqrstuvwxyz":Str)=tx smL:=(mW _).symm
abbrev stp(sp:Int)(p:Int×LN):Int×LN:=(nx p.1,p.2++[smL.getD (dr p.1 sp).toNat 0])
abbrev its(sp:Int):Nat->Int×LN->Int×LN
 | 0,p=>p
 |n+1,p=>stp sp (its sp n p)
def DP(sp:Int)(p:Int×LN)(h:okS p.1):∀n,okS (its sp n p).1/\(its sp n p).2.length=p.2.length+n
 | 0=>⟨h,rfl⟩
 |n+1=>by
  obtain⟨a,c⟩:=DP sp p h n;refine⟨bV _,?_⟩;show((its sp n p).2++[_]).length=_;rw[aI,c];rfl
def Js(a b:LN)(h:a.length+b.length<=2000):cv (.str (tx a)) (.str (tx b))=aa (.str (tx (a++b))):=by
 show(if (tx a).length+(tx b).length<=16777216 then aa _ else ab)=_;rw[dn,dn,if_pos (by lia),oI]
def Jt(a:LN)(v:Int)(h:0<=v/\v<(a.length:Nat))(c:a.length<=1000):pW (.str (tx a)) (.int v)=aa (.str (tx [a.getD v.toNat 0])):=by
 show(if 0<=v/\v<2 ^ 63/\v<_ then ((tx a).cps[v.toNat]?).map _ else ab)=_;rw[if_pos ⟨h.1,by lia,by rw[dn];exact h.2⟩];have b:v.toNat<a.length:=by lia
 rw[uH,dE b,fF,dE b];rfl
def ye(v:Int)(a:0<=v)(b:v<=500):mE [D.int v]=aa ((cW v.toNat).map λ(i:Nat)=>D.int i):=by
 show(if -_<=v/\v<2 ^ 62 then aa _ else ab)=_;rw[if_pos ⟨by lia,by lia⟩,GU];simp
abbrev smP(n sp s:Int):Int×LN:=its sp n.toNat (s,[])
def yf(n sp s:Int)(h:okS s)(hn:0<=n):okS (smP n sp s).1/\((smP n sp s).2.length:Int)=n:=by
 obtain⟨a,c⟩:=DP sp (s,[]) h n.toNat;refine⟨a,?_⟩;unfold smP;rw[c];simp only[gY];lia
def S6(l:Addr)(s n sp:Int)(h:okS s)(hn:0<=n/\n<=500)(c:0<sp/\sp<=26):tm l [] [.int n,.int sp] [.int s]=aa ([.int (smP n sp s).1],.str (tx (smP n sp s).2)):=by
 have w:wp wC [.pin l [.int s],.im (.int n),.im (.int sp),.no,.no] (λo=>∃a,o=.rtS (.str (tx (smP n sp s).2)) [.pin l [.int (smP n sp s).1],.im (.int n),.im (.int sp),.im (.str (tx (smP n sp s).2)),a]):=by
  apply ak;refine cf rfl ?_;show wp _ [.pin l _,.im _,.im _,.im (.str (tx [])),.no] _;apply ak;refine eY (cW n.toNat) (λi=>D.int i) (λpre U=>∃a,U=[.pin l [.int (its sp pre.length (s,[])).1],.im _,.im _,.im (.str (tx (its sp pre.length (s,[])).2)),a]) ?_ ⟨_,rfl⟩ ?_ ?_
  .have j:af (ae 1) nZ [.pin l [.int s],.im _,.im (.int sp),.im (.str (tx [])),.no]=aa [.int n]:=rfl;unfold i3;rw[j,aG,ye n hn.1 hn.2]
  .rintro pre x post U m ⟨a,rfl⟩;refine⟨_,rfl,?_⟩;obtain⟨d,f⟩:=(DP sp (s,[]) h) pre.length
   have b:pre.length<n.toNat:=by
    have:=congrArg fG m;rw[e8,aI,bg]at this;lia
   generalize q:its sp pre.length _=p at d f;have r:=bS p.1 c.1;have g:bj 0 m_0 (ao (mX (ae 2)) aq) _=aa _:=iw (ρ1:=[.pin l _,.im (.int n),.im _,.im (.str (tx p.2)),.im (.int x)]) rfl (aQ (aN rfl) rfl) rfl (tZ l p.1 sp d c.1);refine oJ (z:=.str (tx (stp sp p).2)) rfl (cU (aN (by rw[smT])) g (Jt smL _ (by rw[DN];lia) (by rw[DN];decide))) ?_ ?_
   .show(if (tx p.2).length+(tx [_]).length<=16777216 then aa _ else ab)=_;rw[dn,dn,if_pos (by rw[f];simp only[gY,bg];lia),oI];rfl
   .refine⟨.im (.int x),?_⟩;rw[aI,show([x]:LN).length=1 from rfl];show _=[Sl.pin l [.int (stp sp _).1],.im _,.im _,.im (.str (tx (stp sp _).2)),.im _];rw[q];rfl
  .rintro U ⟨a,rfl⟩;rw[e8];exact fP rfl ⟨a,rfl⟩
 obtain⟨o,e,a,rfl⟩:=w;exact i6 e rfl
def eI(l:Addr)(s k:Int)(r:LS){f:MF1}(a:f (.pin l [.int s]::r)=aa (.int k))(h:okS s)(b:0<k):bj 0 m_0 (ao (mX f) aq) (.pin l [.int s]::r)=aa (.int (dr s k),.pin l [.int (nx s)]::r):=iw (ρ1:=.pin l _::r) rfl (aQ (aN a) rfl) rfl (tZ l s k h b)
abbrev itP{a:Type}(F:Int->Int×a):Nat->Int->Int×List a
 | 0,s=>(s,[])
 |n+1,s=>((itP F n (F s).1).1,(F s).2::(itP F n (F s).1).2)
def lP{b:Type}{F:Int->Int×b}(a:∀s,okS (F s).1):∀n s,okS s->okS (itP F n s).1/\(itP F n s).2.length=n
 | 0,s,h=>⟨h,rfl⟩
 |n+1,s,_=>⟨(lP a n _ (a s)).1,by show(_::(itP F n (F s).1).2).length=_;rw[bg,(lP a n _ (a s)).2]⟩
def kW{b:Type}{F:Int->Int×b}{P:b->Prop}(a:∀s,P (F s).2):∀n s,∀x∈(itP F n s).2,P x
 | 0,_,x,h=>(cO h).elim
 |n+1,s,x,h=>by
  rcases bZ.mp (h)with e |e
  .rw[e];exact a s
  .exact kW a n _ x e
abbrev grL:LN:=("ABCDEFGHIJKLMNOPQRSTUVWXYZ":Str).cps.toList
def grT:("ABCDEFGHIJKLMNOPQRSTUVWXYZ":Str)=tx grL:=(mW _).symm
def DQ:grL.length=26:=by decide +kernel
abbrev kpS:LSt:=["kind","rule","may","choose","never","if","and","not","unlike","least","most","of","to","over","in","for"]
abbrev kpW:L2N:=kpS.map λz=>z.cps.toList
abbrev kept(w:LN):Bool:=kpW.any λk=>k==w
def kpD:kpS.map D.str=kpW.map λw=>D.str (tx w):=by
 refine nh λz _=>?_;show D.str z=D.str (tx z.cps.toList);rw[mW]
def inK(w:LN):dIn (.str (tx w)) (.lst (kpW.map λw=>D.str (tx w)))=aa (.bl (kept w)):=by
 show Option.map D.bl (if ((D.str (tx w)).scalar && (kpW.map λw=>D.str (tx w)).all D.scalar)=ac then aa _ else ab)=_;rw[if_pos (by rw[all_map];exact(cV _ _).mpr ⟨rfl,all_eq_true.mpr λ_ _=>rfl⟩),any_map];show aa _=_
 congr 2
 refine congrArg _ (funext λk=>?_);show(tx k==tx w)=_;apply iA.mpr;rw[beq_iff_eq,beq_iff_eq];exact⟨gM,λe=>by rw[e]⟩
abbrev mY(a w:LN):Bool:=w.all λx=>decide (x∈a)
abbrev made(w a:LN)(most:Nat):Bool:=(decide (1<=w.length) && decide (w.length<=most)) && mY a w
abbrev c8(w:LN):Bool:=made w smL 8 && !kept w
abbrev sp2(v:Int):Int:=if v=0 then 26 else 2
def qu(v:Int):0<sp2 v/\sp2 v<=26:=by unfold sp2;split <;> decide
def Ju(sp:Int)(b:0<sp/\sp<=26)(p:Int×LN)(h:∀x∈p.2,x∈smL):∀n,∀x∈(its sp n p).2,x∈smL
 | 0,x,hx=>h x hx
 |n+1,x,hx=>by
  rcases cM.mp (hx)with e |e
  .exact Ju sp b p h n x e
  .have d:=bS (its sp n p).1 b.1;rw[bi]at e;have a:(dr (its sp n p).1 sp).toNat<smL.length:=by rw[DN];lia
   rw[e,fF,dE a];exact na a
def Jv(n sp s:Int)(b:0<sp/\sp<=26):mY smL (smP n sp s).2=ac:=all_eq_true.mpr λx a=>decide_eq_true (Ju sp b _ (λx a=>(cO a).elim) n.toNat x a)
def S7:∀k∈kpW,c8 (122::k)=ac:=by decide +kernel
nonrec def sT(w:LN):D:=.str (tx w)
def DR{a:Type}{F:Int->Int×a}{toD:a->D}(hm:∀s,okS s->m l [] [] [.int s]=aa ([.int (F s).1],toD (F s).2))(s:Int)(r:LS)(h:okS s):bj 0 m aq (.pin l [.int s]::r)=aa (toD (F s).2,.pin l [.int (F s).1]::r):=iw (ρ1:=.pin l _::r) rfl rfl rfl (hm s h)
variable{fa:Xa}
def Jw(l:Addr)(s n sp:Int)(r:LS)(a:U[0]?=aa (.pin l M))(ha:fa U=aa ([.int n,.int sp],.pin l [.int s]::r))(h:okS s)(hn:0<=n/\n<=500)(b:0<sp/\sp<=26):bj 0 tm fa U=aa (.str (tx (smP n sp s).2),.pin l [.int (smP n sp s).1]::r):=iw a ha rfl (S6 l s n sp h hn b)
def DU(v:Int)(h:0<=v/\v<2):f6 (.lst [.int 26,.int 2]) (.int v)=aa (.int (sp2 v)):=by
 have:v=0\/v=1:=by lia
 rcases this with e |e <;> (rw[e];rfl)
def zT:("z":Str)=tx [122]:=by decide +kernel
def bxX{g:Xe}{m:D->D->OD}{ρ':LS}(h:mX2 m f g U=aa (.bl b,ρ')):mBX (mX2 m f g) U=aa (b,ρ'):=by
 unfold mBX;rw[h];rfl
def S8(a:U[i]?=aa (.own xs0))(h:f U=aa (.lst ds,ρ1))(h':ρ1[i]?=aa (.own M))(b:M.length+ds.length<=16777216)(k:K (.nx (ρ1.set i (.own (M++ds))))):wp (sR i f) U K:=⟨_,by
 unfold sR;rw[a];show(f U).bind _=_;rw[h,aG];dsimp only;rw[h'];show(if M.length+ds.length<=16777216 then aa (Fl.nx (ρ1.set i (.own (M++ds)))) else ab)=_;rw[if_pos b],k⟩
abbrev bI(s:Int):Int×LN:=((smP (1+dr (nx s) 8) (sp2 (dr s 2)) (nx (nx s))).1,if kept (smP (1+dr (nx s) 8) (sp2 (dr s 2)) (nx (nx s))).2 then 122::(smP (1+dr (nx s) 8) (sp2 (dr s 2)) (nx (nx s))).2 else (smP (1+dr (nx s) 8) (sp2 (dr s 2)) (nx (nx s))).2)
def t4(s:Int):okS (bI s).1/\c8 (bI s).2=ac:=by
 have g:=bS (nx s) (k:=8) (by decide);obtain⟨a,b⟩:=yf (1+dr (nx s) 8) (sp2 (dr s 2)) (nx (nx s)) (bV _) (by lia);have f:=Jv (1+dr (nx s) 8) (sp2 (dr s 2)) (nx (nx s)) (qu _);unfold bI;generalize smP _ _ _=q at a b f;refine⟨a,?_⟩;dsimp only;split
 .rename_i d;unfold kept at d;obtain⟨k,e,c⟩:=any_eq_true.mp d;rw[beq_iff_eq]at c;subst c;exact S7 _ e
 .rename_i d;unfold c8 made;rw[f,decide_eq_true (show 1<=q.2.length by lia),decide_eq_true (show q.2.length<=8 by lia),Bool.eq_false_iff.mpr d];rfl
def Jx(l:Addr)(s:Int)(i:okS s):m_6 l [] [] [.int s]=aa ([.int (bI s).1],.str (tx (bI s).2)):=by
 have f:=bS s (k:=2) (by decide);have m:=bS (nx s) (k:=8) (by decide);have j:=bV s;have d:=bV (nx s)
 have w:wp b_6 [.pin l [.int s],.no,.no,.no] (λo=>∃a b c,o=.rtS (.str (tx (bI s).2)) [.pin l [.int (bI s).1],a,b,c]):=by
  unfold b_6 bI;apply ak;refine fO rfl ?_;apply ak;refine S8 rfl (aN rfl) rfl (by decide) ?_;show wp _ [.pin l [.int s],.own (kpS.map D.str),.no,.no] _;rw[kpD];apply ak;refine dA (cU (aN rfl) (eI l s 2 _ rfl i (by decide)) (DU _ f)) ?_;show wp _ [.pin l [.int (nx s)],.own (kpW.map λw=>D.str (tx w)),.im (.int (sp2 (dr s 2))),.no] _;apply ak;refine dA (Jw l _ _ _ _ rfl (aQ (cU (aN rfl) (eI l _ 8 _ rfl j (by decide)) hE) (aQ (aN rfl) rfl)) d ⟨by lia,by lia⟩ (qu _)) ?_;obtain⟨g,h⟩:=yf (1+dr (nx s) 8) (sp2 (dr s 2)) _ d (by lia);generalize smP _ _ _=q at g h;apply ak;refine io rfl ?_;refine aX (aY (aA rfl rfl (inK q.2))) (λe=>?_) λe=>bm ?_
  .rw[e];exact fP (aA (by rw[zT]) rfl (Js _ q.2 (by rw[e7];lia))) ⟨_,_,_,rfl⟩
  .rw[e];exact fP rfl ⟨_,_,_,rfl⟩
 obtain⟨o,e,a,b,c,rfl⟩:=w;exact i6 e rfl
abbrev eJ(s:Int):Int×LN:=
 ((smP (dr (nx (nx s)) 8) (sp2 (dr (nx (nx (nx s))) 2)) (nx (nx (nx (nx s))))).1,grL.getD (dr (nx s) (sp2 (dr s 2))).toNat 0::(smP (dr (nx (nx s)) 8) (sp2 (dr (nx (nx (nx s))) 2)) (nx (nx (nx (nx s))))).2)
abbrev gA(w:LN):Bool:=made (w.take 1) grL 1 && (decide (w.length=1) || made (w.drop 1) smL 7)
def Jy(s:Int):okS (eJ s).1/\gA (eJ s).2=ac:=by
 have g:=qu (dr s 2);have j:=bS (nx s) g.1;have h:=bS (nx (nx s)) (k:=8) (by decide);obtain⟨a,b⟩:=yf _ _ _ (bV _) h.1;have c:=Jv (dr (nx (nx s)) 8) _ (nx (nx (nx (nx s)))) (qu (dr (nx (nx (nx s))) 2));unfold eJ;generalize smP _ _ _=q at a b c;refine⟨a,?_⟩;have f:(dr (nx s) (sp2 (dr s 2))).toNat<grL.length:=by rw[DQ];lia
 have d:grL.getD (dr (nx s) (sp2 (dr s 2))).toNat 0∈grL:=by
  rw[fF,dE f];exact na f
 generalize grL.getD (dr _ _).toNat 0=x at d;show(made [x] grL 1 && (decide _ || made q.2 smL 7))=ac
 have i:made [x] grL 1=ac:=by
  unfold made mY;rw[l8,decide_eq_true d];rfl
 rw[i,Bool.true_and,bg];unfold made;rw[c]
 by_cases e:q.2.length=0
 .rw[decide_eq_true (show q.2.length+1=1 by lia)];rfl
 .rw[decide_eq_true (show 1<=q.2.length by lia),decide_eq_true (show q.2.length<=7 by lia)];simp
def S9(l:Addr)(s:Int)(m:okS s):wE l [] [] [.int s]=aa ([.int (eJ s).1],.str (tx (eJ s).2)):=by
 have h:=qu (dr s 2);have n:=bS (nx s) h.1;have i:=bS (nx (nx s)) (k:=8) (by decide);have c:=bS (nx (nx (nx s))) (k:=2) (by decide);have f:=qu (dr (nx (nx (nx s))) 2)
 have w:wp tw [.pin l [.int s],.no] (λo=>∃g,o=.rtS (.str (tx (eJ s).2)) [.pin l [.int (eJ s).1],g]):=by
  unfold tw eJ;apply ak
  have j:bj 0 m_0 (ao (mX2 f6 (mX (aU (af (λ_=>aa _) (af (λ_=>aa _) nZ)))) (bj 0 m_0 (ao (mX (λ_=>aa _)) aq))) aq) _=aa _:=
   iw (ρ1:=[.pin l _,.no]) rfl (aQ (cU (aN rfl) (eI l s 2 _ rfl m (by decide)) (DU _ (bS s (by decide)))) rfl) rfl (tZ l _ _ (bV _) h.1)
  refine dA (cU (aN (by rw[grT])) j (Jt grL _ (by rw[DQ];lia) (by rw[DQ];decide))) ?_;generalize grL.getD (dr _ _).toNat 0=x;have d:=bV (nx s);generalize nx (nx s)=s2 at *;obtain⟨a,b⟩:=yf _ (sp2 (dr (nx s2) 2)) (nx (nx s2)) (bV _) i.1;refine eZ (cU (aN rfl) (Jw l _ _ _ _ rfl (aQ (eI l s2 8 _ rfl d (by decide)) (aQ (cU (aN rfl) (eI l _ 2 _ rfl (bV _) (by decide)) (DU _ c)) rfl)) (bV _) ⟨by lia,by lia⟩ f) (Js [x] _ (by rw[e7];lia))) ⟨_,rfl⟩
 obtain⟨o,e,g,rfl⟩:=w;exact i6 e rfl
abbrev bY(s:Int):Int×Int:=if dr (nx s) 4=0 then (nx (nx (nx s)),(dr s 9-2)*10 ^ 20+dr (nx (nx s)) (10 ^ 10)) else (nx (nx s),dr s 9-2)
def t5(s:Int):okS (bY s).1/\-(10 ^ 30)<(bY s).2/\(bY s).2<10 ^ 30:=by
 have b:=bS s (k:=9) (by decide);have a:=bS (nx (nx s)) (k:=10 ^ 10) (by decide);unfold bY;split
 .refine⟨bV _,?_⟩;show -(10 ^ 30)<(dr s 9-2)*10 ^ 20+dr (nx (nx s)) (10 ^ 10)/\(dr s 9-2)*10 ^ 20+dr (nx (nx s)) (10 ^ 10)<10 ^ 30;lia
 .refine⟨bV _,?_⟩;show -(10 ^ 30)<dr s 9-2/\dr s 9-2<10 ^ 30;lia
def Ta(l:Addr)(s:Int)(d:okS s):m_9 l [] [] [.int s]=aa ([.int (bY s).1],.int (bY s).2):=by
 have f:=bS s (k:=9) (by decide);have c:=bS (nx (nx s)) (k:=10 ^ 10) (by decide)
 have w:wp b_9 [.pin l [.int s],.no] (λo=>∃b,o=.rtS (.int (bY s).2) [.pin l [.int (bY s).1],b]):=by
  unfold b_9 bY;apply ak;refine dA (cU (eI l s 9 _ rfl d (by decide)) (aN rfl) mM) ?_;show wp _ [.pin l [.int (nx s)],.im (.int (dr s 9-2))] _;apply ak;refine iN (bxX (cU (eI l (nx s) 4 _ rfl (bV _) (by decide)) (aN rfl) (lB _ _))) (λe=>?_) λe=>bm ?_
  .have a:dr (nx s) 4=0:=by simpa using e
   rw[if_pos a];refine eZ (cU (aN (aA rfl (aA rfl rfl rfl) (n6 (W6:=10 ^ 20) (.inr ⟨by lia,by decide⟩)))) (eI l (nx (nx s)) (10 ^ 10) _ (aA rfl rfl rfl) (bV _) (by decide)) hE) ⟨_,rfl⟩
  .have a:¬dr (nx s) 4=0:=by simpa using e
   rw[if_neg a];exact fP rfl ⟨_,rfl⟩
 obtain⟨o,e,b,rfl⟩:=w;exact i6 e rfl
def t8(a:U[i]?=aa (.own xs0))(h:f U=aa (d,ρ1))(b:ρ1[i]?=aa (.own M))(c:M.length<16777216)(k:K (.nx (ρ1.set i (.own (M++[d]))))):wp (gz i f) U K:=⟨_,by
 unfold gz;rw[a,h,aG,b];exact if_pos c,k⟩
def ge{f:Xa}(h:f U=aa (ds,ρ1)):eD f U=aa (.tup ds,ρ1):=by
 unfold eD
 rw[h];rfl
def t9{v:Int}(h:f U=aa (.int v,ρ1))(a:0<=v)(b:v<=500):kM (ao f aq) U=aa ((cW v.toNat).map (λ(i:Nat)=>D.int i),ρ1):=S5 (aQ h rfl) (ye v a b)
def qv{m:LD->OD}{f:Xa}(a:f U=aa (ds,ρ1))(b:m ds=aa d):ip m f U=aa (d,ρ1):=by
 unfold ip;rw[a,aG,b];rfl
def Jz{f:Xa}(h:f U=aa (ds,ρ1)):pV f U=aa (.lst ds,ρ1):=by
 unfold pV;rw[h];rfl
def JA(w:LN)(W3:L2N):inD (.str (tx w)) (.lst (W3.map sT))=aa (decide (w∈W3)):=by
 show(if ((D.str (tx w)).scalar && (W3.map sT).all D.scalar)=ac then aa _ else ab)=_;rw[if_pos (by rw[all_map];exact(cV _ _).mpr ⟨rfl,all_eq_true.mpr λ_ _=>rfl⟩),any_map]
 congr 1
 rw[iA,decide_eq_true_eq,any_eq_true];constructor
 .rintro⟨k,a,e⟩;have e:(tx k==tx w)=ac:=e;rw[beq_iff_eq]at e;exact gM e▸a
 .intro h;refine⟨w,h,?_⟩;show(tx w==tx w)=ac;exact beq_iff_eq.mpr rfl
def inW(w:LN)(W3:L2N):dIn (.str (tx w)) (.lst (W3.map sT))=aa (.bl (decide (w∈W3))):=by
 unfold dIn;rw[JA];rfl
def uc(w:LN)(W3:L2N):iZ (.str (tx w)) (.lst (W3.map sT))=aa (.bl (!decide (w∈W3))):=by
 unfold iZ;rw[JA];rfl
abbrev itN{a:Type}(f:a->a):Nat->a->a
 | 0,p=>p
 |n+1,p=>f (itN f n p)
abbrev itD{a:Type}(F:D->Int->Int×a):LD->Int->Int×List a
 | [],s=>(s,[])
 |d::ds,s=>((itD F ds (F d s).1).1,(F d s).2::(itD F ds (F d s).1).2)
variable{tl:LS}{fi:Xa}{s:Int}
def Tb{e:Type}{fe:Xe}{F:D->Int->Int×e}{toD:e->D}(g:∀d s,d∈ds->okS s->fe [.im d,.pin l [.int s]]=aa (toD (F d s).2,[.im d,.pin l [.int (F d s).1]]))(f:∀d s,okS (F d s).1)(h:okS s)(hi:fi U=aa (ds,.pin l [.int s]::tl))(hz:ds.length<=1000):
  kQ 1 [0] 0 0 fi (aH 0) fe U=aa (.lst ((itD F ds s).2.map toD),.pin l [.int (itD F ds s).1]::tl):=by
 have c:∀(b:Sl) d s,d∈ds->okS s->lJ 1 [0] 0 0 (aH 0) fe (b::tl) l d [.int s]=aa (toD (F d s).2,[.int (F d s).1]):=λb d s hd h=>by
  unfold lJ;show(aa [Sl.im d,Sl.pin l [.int s]]).bind _=_;rw[aG,g d s hd h,aG];refine if_pos λi hi=>?_
  cases i with
  |zero=>nomatch hi
  |succ i=>rfl
 have loop:∀(b:Sl) (a:LD) (s:Int),(∀d∈a,d∈ds)->okS s->hJ 1 [0] 0 0 (aH 0) fe (b::tl) l a [.int s]=aa ((itD F a s).2.map toD,[.int (itD F a s).1]):=λb a=>by
  induction a with
  |nil=>intro s _ _;rfl
  |cons d a m=>
   intro s hz h;unfold hJ;rw[c b d s (hz d bB) h,aG,m (F d s).1 (λx j=>hz x (cD _ j)) (f d s)];rfl
 unfold kQ;rw[hi,aG];show(if ds.length<=16777216/\([0]:LN)[0]?=aa 0/\_=ac then (hJ 1 [0] 0 0 _ _ _ l ds _).map λq=>_ else ab)=_;rw[if_pos ⟨by lia,rfl,rfl⟩,loop _ ds s (λ_ h=>h) h];rfl
abbrev fiP:L2N->Int->Int×L2N
 | [],s=>(s,[])
 |p::ps,s=>((fiP ps (nx s)).1,if 0<dr s 4 then p::(fiP ps (nx s)).2 else (fiP ps (nx s)).2)
def JB(p:LN)(ps:L2N)(s:Int):fiP (p::ps) s=((fiP ps (nx s)).1,if 0<dr s 4 then p::(fiP ps (nx s)).2 else (fiP ps (nx s)).2):=rfl
def Tc{tt:Xt}(e:∀d s,okS s->tt [.im d,.pin l [.int s]]=aa (decide (0<dr s 4),[.im d,.pin l [.int (nx s)]])){ps:L2N}(h:okS s)(hi:fi U=aa (ps.map sT,.pin l [.int s]::tl))(hz:ps.length<=1000):
  ow 1 [0] 0 0 fi (aH 0) tt (mX (ae 0)) U=aa (.lst ((fiP ps s).2.map sT),.pin l [.int (fiP ps s).1]::tl):=by
 have b:∀(a:Sl) (d:D) (y:OD) s,qc 1 [0] 0 0 (a::tl) l [.im d,.pin l [.int s]] y=aa (y,[.int s]):=λa d y s=>by
  unfold qc;refine if_pos λi hi=>?_
  cases i with
  |zero=>nomatch hi
  |succ i=>rfl
 have c:∀(a:Sl) d s,okS s->qd 1 [0] 0 0 (aH 0) tt (mX (ae 0)) (a::tl) l d [.int s]=aa (if 0<dr s 4 then aa d else ab,[.int (nx s)]):=λa d s h=>by
  unfold qd;show(aa [Sl.im d,Sl.pin l [.int s]]).bind _=_;rw[aG,e d s h,aG]
  by_cases hd:0<dr s 4
  .rw[decide_eq_true hd,if_pos hd];exact b a d _ _
  .rw[decide_eq_false hd,if_neg hd];exact b a d _ _
 have loop:∀(a:Sl) (ps:L2N) (s:Int),okS s->jc 1 [0] 0 0 (aH 0) tt (mX (ae 0)) (a::tl) l (ps.map sT) [.int s]=aa ((fiP ps s).2.map sT,[.int (fiP ps s).1]):=λa ps=>by
  induction ps with
  |nil=>intro s _;rfl
  |cons p ps f=>
   intro s h;rw[eL];unfold jc;rw[c a _ s h,aG];show(jc 1 [0] 0 0 _ _ _ _ l _ [.int (nx s)]).map _=_;rw[f (nx s) (bV s)];rw[JB]
   by_cases hd:0<dr s 4
   .rw[if_pos hd,if_pos hd];rfl
   .rw[if_neg hd,if_neg hd];rfl
 unfold ow;rw[hi,aG];show(if (ps.map sT).length<=16777216/\([0]:LN)[0]?=aa 0/\_=ac then (jc 1 [0] 0 0 _ _ _ _ l _ _).map λq=>_ else ab)=_;rw[if_pos ⟨by rw[ay];lia,rfl,rfl⟩,loop _ ps s h];rfl
def JC(ps:L2N):∀s,okS s->okS (fiP ps s).1/\(fiP ps s).2.Sublist ps:=by
 induction ps with
 |nil=>exact λs h=>⟨h,.slnil⟩
 |cons p ps c=>
  intro s h;obtain⟨a,b⟩:=c (nx s) (bV s);refine⟨a,?_⟩;rw[JB];dsimp only;split
  .exact b.cons₂ _
  .exact b.cons _
abbrev plS(p:Int×L2N):Int×L2N:=((bI p.1).1,if (bI p.1).2∈p.2 then p.2 else p.2++[(bI p.1).2])
def Td(p:Int×L2N)(d:p.2.Nodup)(f:∀w∈p.2,c8 w=ac):okS (plS p).1/\(plS p).2.Nodup/\(∀w∈(plS p).2,c8 w=ac)/\p.2.length<=(plS p).2.length/\(plS p).2.length<=p.2.length+1/\0<(plS p).2.length:=by
 obtain⟨a,b⟩:=t4 p.1;unfold plS;refine⟨a,?_⟩;dsimp only;split
 .rename_i h;exact⟨d,f,bh _,by lia,length_pos_of_mem h⟩
 .rename_i h;refine⟨jY.mpr ⟨d,by simp,λx g y i e=>?_⟩,λw c=>?_,by simp,by simp,by simp⟩
  .rw[bi.mp i]at e;rw[e]at g;exact h g
  .rcases cM.mp c with c |c
   .exact f w c
   .rw[bi.mp c];exact b
def qw{a:Type}{f:a->a}{I:Nat->a->Prop}(h:∀n p,I n p->I (n+1) (f p)){p:a}(b:I 0 p):∀n,I n (itN f n p)
 | 0=>b
 |n+1=>h n _ (qw h b n)
abbrev JD(n:Nat)(p:Int×L2N):Prop:=okS p.1/\p.2.Nodup/\(∀w∈p.2,c8 w=ac)/\p.2.length<=n/\(0<n->0<p.2.length)
def DV(h:okS s)(n:Nat):JD n (itN plS n (s,[])):=
 qw (I:=JD) (λn p i=>by
  obtain⟨_,a,b,c,_⟩:=i;obtain⟨d,e,f,j,l,g⟩:=Td p a b;exact⟨d,e,f,by lia,λ_=>g⟩) ⟨h,gp,λ_ z=>(cO z).elim,bh _,λz=>absurd z (jZ _)⟩ n
abbrev hdP(d:D)(s:Int):Int×(LN×Int):=(nx (bI s).1,((bI s).2,match d with
 |.int m=>if dr (bI s).1 4<m then dr (bI s).1 4 else m
 | _=>0))
abbrev jd(s:Int):Int×List (LN×Int):=itD hdP [.int 3,.int 2,.int 2,.int 1] s
nonrec def nrD(x:LN×Int):D:=.tup [sT x.1,.int x.2]
nonrec def kdD(x:LN×L2N):D:=.tup [sT x.1,.lst (x.2.map sT)]
abbrev kdS(pl:L2N)(p:Int×List (LN×L2N)):Int×List (LN×L2N):=
 if 0<(fiP pl (bI p.1).1).2.length/\(bI p.1).2∉p.2.map (·.1) then
  (nx (fiP pl (bI p.1).1).1,p.2++[((bI p.1).2,if dr (fiP pl (bI p.1).1).1 2=0 then (fiP pl (bI p.1).1).2 else (fiP pl (bI p.1).1).2.reverse)])
 else ((fiP pl (bI p.1).1).1,p.2)
structure yg(pl:L2N)(C:List (LN×L2N)):Prop where
 nd:(C.map (·.1)).Nodup
 nm:∀k∈C,c8 k.1=ac
 ns:∀k∈C,k.2.Nodup/\k.2≠[]/\∀w∈k.2,w∈pl
variable{pl:L2N}
def Te(n:pl.Nodup){p:Int×List (LN×L2N)}(h:yg pl p.2):okS (kdS pl p).1/\yg pl (kdS pl p).2/\(kdS pl p).2.length<=p.2.length+1:=by
 obtain⟨a,b⟩:=t4 p.1;obtain⟨c,d⟩:=JC pl _ a;unfold kdS;generalize fiP pl (bI p.1).1=f at c d;split
 .rename_i l;refine⟨bV _,⟨?_,λk g=>?_,λk g=>?_⟩,by simp⟩
  .rw[bF];refine jY.mpr ⟨h.nd,by simp,λx m y o e=>?_⟩;rw[show y=(bI p.1).2 from bi.mp o]at e;rw[e]at m;exact l.2 m
  .rcases cM.mp g with g |g
   .exact h.nm k g
   .rw[bi.mp g];exact b
  .rcases cM.mp g with g |g
   .exact h.ns k g
   .rw[bi.mp g];have hn:=d.nodup n;have hm:∀w∈f.2,w∈pl:=λw i=>d.subset i;have j:f.2≠[]:=jW.mp l.1;dsimp only;split
    .exact⟨hn,j,hm⟩
    .exact⟨pairwise_reverse.mpr (List.Pairwise.imp cE hn),λz=>j (reverse_eq_nil_iff.mp z),λw i=>hm w (l6.mp i)⟩
 .exact⟨c,h,by simp⟩
abbrev JE(pl:L2N)(n:Nat)(p:Int×List (LN×L2N)):Prop:=okS p.1/\yg pl p.2/\p.2.length<=n
def JF(c:pl.Nodup)(h:okS s)(n:Nat):JE pl n (itN (kdS pl) n (s,[])):=
 qw (I:=JE pl) (λn p f=>by
  obtain⟨_,a,b⟩:=f;obtain⟨d,e,g⟩:=Te c a;exact⟨d,e,by lia⟩) (p:=(s,[])) ⟨h,⟨gp,λ_ z=>(cO z).elim,λ_ z=>(cO z).elim⟩,bh _⟩ n
structure Lay where
 h:List (LN×Int)
 p:L2N
 k:List (LN×L2N)
nonrec def Lay.toD(y:Lay):D:=.tup [.lst (y.h.map nrD),.lst (y.p.map sT),.lst (y.k.map kdD)]
abbrev iy(s:Int):Int×L2N:=itN plS (1+dr s 3).toNat (nx s,[])
abbrev qx(s:Int)(pl:L2N):Int×List (LN×L2N):=itN (kdS pl) (dr s 4).toNat (nx s,[])
abbrev je(s:Int):Int×Lay:=((qx (jd (iy s).1).1 (iy s).2).1,⟨(jd (iy s).1).2,(iy s).2,(qx (jd (iy s).1).1 (iy s).2).2⟩)
structure dB(y:Lay):Prop where
 h:y.h.length=4/\∀x∈y.h,c8 x.1=ac/\0<=x.2/\x.2<=3
 p:y.p.Nodup/\(∀w∈y.p,c8 w=ac)/\0<y.p.length/\y.p.length<=3
 k:yg y.p y.k/\y.k.length<=3
def Tf(d:D)(s:Int):okS (hdP d s).1:=bV _
def JG(s:Int):okS (jd s).1/\(jd s).2.length=4/\∀x∈(jd s).2,c8 x.1=ac/\0<=x.2/\x.2<=3:=by
 refine⟨bV _,rfl,λx a=>?_⟩
 have one:∀(m:Int) s,0<=m/\m<=3->c8 (hdP (.int m) s).2.1=ac/\0<=(hdP (.int m) s).2.2/\(hdP (.int m) s).2.2<=3:=λm s hm=>by
  refine⟨(t4 s).2,?_⟩;have d:=bS (bI s).1 (k:=4) (by decide);show 0<=(if dr (bI s).1 4<m then dr (bI s).1 4 else m)/\(if dr (bI s).1 4<m then dr (bI s).1 4 else m)<=3
  split <;> lia
 have a:x∈[(hdP (.int 3) s).2,(hdP (.int 2) (hdP (.int 3) s).1).2,(hdP (.int 2) (hdP (.int 2) (hdP (.int 3) s).1).1).2,(hdP (.int 1) (hdP (.int 2) (hdP (.int 2) (hdP (.int 3) s).1).1).1).2]:=a;simp only[bZ,cO,or_false]at a
 rcases a with rfl |rfl |rfl |rfl
 .exact one 3 _ (by decide)
 .exact one 2 _ (by decide)
 .exact one 2 _ (by decide)
 .exact one 1 _ (by decide)
def JH(s:Int):okS (je s).1/\dB (je s).2:=by
 have m:=bS s (k:=3) (by decide);obtain⟨j,a,b,c,d⟩:=DV (bV s) (1+dr s 3).toNat;obtain⟨l,e,f⟩:=JG (iy s).1;have n:=bS (jd (iy s).1).1 (k:=4) (by decide);obtain⟨g,h,i⟩:=JF a (bV (jd (iy s).1).1) (dr (jd (iy s).1).1 4).toNat;exact⟨g,⟨e,f⟩,⟨a,b,d (by lia),cP c (by lia)⟩,h,cP i (by lia)⟩
def JI(l:Addr)(s:Int)(r:LS)(h:okS s):bj 0 m_6 aq (.pin l [.int s]::r)=aa (sT (bI s).2,.pin l [.int (bI s).1]::r):=DR (toD:=sT) (λs h=>Jx l s h) s r h
def DY(d:D)(r:LD):atI (d::r) 0=aa d:=by
 unfold atI ixN;rw[if_pos (by decide),if_pos (by rw[bg];lia)];rfl
variable{fi:MF2}
def yh{a:Type}{f:a->D}{q:a->LN}{W3:List a}(h:fi U=aa (W3.map f))(b:∀x,∃r,f x=.tup (sT (q x)::r))(hz:W3.length<=1000:=by lia):bx 1 [] fi (aH 0) kY (mIx (au 0) (kI 0)) U=aa ((W3.map q).map sT):=by
 rw[map_map];refine fZ W3 f (sT ∘ q) h (by lia) λz _=>?_;obtain⟨r,e⟩:=b z;rw[e];exact fu rfl rfl (aw rfl rfl (DY _ _))
def Tg(l:Addr)(s:Int)(hs:okS s):CC l [] [] [.int s]=aa ([.int (je s).1],(je s).2.toD):=by
 have d3:=bS s (k:=3) (by decide)
 have w:wp tu [.pin l [.int s],.no,.no,.no,.no,.no,.no] (λo=>∃G c g H I j,o=.rtS (je s).2.toD [.pin l [.int (je s).1],G,c,g,H,I,j]):=by
  unfold tu;apply ak;refine fO rfl ?_;show wp _ [.pin l [.int s],.own [],.no,.no,.no,.no,.no] _;refine kG (λU=>∃c g,U=[.pin l [.int (iy s).1],.own ((iy s).2.map sT),c,g,.no,.no,.no]) ?_ ?_
  .refine vY (t9 (cU (aN rfl) (eI l s 3 _ rfl hs (by decide)) hE) (by lia) (by lia)) ?_;refine eY (cW (1+dr s 3).toNat) (λi=>D.int i) (λpre U=>∃c g,U=[.pin l [.int (itN plS pre.length (nx s,[])).1],.own ((itN plS pre.length (nx s,[])).2.map sT),c,g,.no,.no,.no]) rfl ⟨_,_,rfl⟩ ?_ ?_
   .rintro pre x post U C ⟨c,g,rfl⟩;refine⟨_,rfl,?_⟩;obtain⟨r,v,y,A,_⟩:=DV (bV s) pre.length
    have u:pre.length<3:=by
     have:=congrArg fG C;rw[e8,aI,bg]at this;lia
    rw[aI,show([x]:LN).length=1 from rfl];show wp _ _ λo=>_;generalize E:itN plS pre.length (nx s,[])=p at r v y A;have n:itN plS (pre.length+1) (nx s,[])=plS p:=by rw[<- E];rfl
    rw[n];apply ak;refine dA (JI l p.1 _ r) ?_;show wp _ [.pin l [.int (bI p.1).1],.own (p.2.map sT),.im (.int x),.im (sT (bI p.1).2),.no,.no,.no] _;refine aX (aY (aA rfl rfl (uc _ _))) (λe=>?_) λe=>bm ?_
    .have t:(bI p.1).2∉p.2:=by simpa using e
     refine jG rfl rfl (by rw[ay];lia) ⟨.im (.int x),.im (sT (bI p.1).2),?_⟩;unfold plS;rw[if_neg t,bF];rfl
    .have t:(bI p.1).2∈p.2:=by simpa using e
     refine⟨.im (.int x),.im (sT (bI p.1).2),?_⟩;unfold plS;rw[if_pos t]
   .rintro U ⟨c,g,rfl⟩;rw[e8];exact k_J ⟨c,g,rfl⟩
  rintro _ ⟨c,g,rfl⟩;obtain⟨r,v,y,A,k5⟩:=DV (bV s) (1+dr s 3).toNat;have hA:itN plS (1+dr s 3).toNat (nx s,[])=iy s:=rfl;rw[hA]at r v y A;unfold je;generalize iy s=a at r v y A;apply ak;refine dA (Tb (F:=hdP) (toD:=nrD) (ds:=[.int 3,.int 2,.int 2,.int 1]) (λd s hd h=>?_) (λd s=>Tf d s) r (by unfold pT;rw[aN rfl];rfl) (by decide)) ?_
  .obtain⟨m,rfl⟩:∃m,d=.int m:=by
    simp only[bZ,cO,or_false]at hd
    rcases hd with e |e |e |e <;> exact⟨_,e⟩
   have B:=(t4 s).1;refine ge (aQ (iw (i:=1) (ρ1:=[.im (.int m),.pin l [.int s]]) rfl rfl rfl (Jx l s h)) (aQ (qv (ds:=[.int m,.int (dr (bI s).1 4)]) (aQ (aN rfl) (aQ (iw (i:=1) (ρ1:=[.im (.int m),.pin l [.int (bI s).1]]) rfl (aQ (aN rfl) rfl) rfl (tZ l _ 4 B (by decide))) rfl)) rfl) rfl))
  obtain⟨M,T,Y⟩:=JG a.1;show wp _ [.pin l [.int (jd a.1).1],.own (a.2.map sT),c,g,.im (.lst ((jd a.1).2.map nrD)),.no,.no] _;generalize jd a.1=b at M T Y;have d4:=bS b.1 (k:=4) (by decide);apply ak;refine fO rfl ?_;show wp _ [.pin l [.int b.1],.own (a.2.map sT),c,g,.im (.lst (b.2.map nrD)),.own [],.no] _;refine kG (λU=>∃z c g j,(z=Sl.own (a.2.map sT)\/z=.im (.lst (a.2.map sT)))/\U=[.pin l [.int (qx b.1 a.2).1],z,c,g,.im (.lst (b.2.map nrD)),.own ((qx b.1 a.2).2.map kdD),j]) ?_ ?_
  .refine vY (t9 (eI l b.1 4 _ rfl M (by decide)) (by lia) (by lia)) ?_;refine eY (cW (dr b.1 4).toNat) (λi=>D.int i) (λpre U=>∃z c g j,(z=Sl.own (a.2.map sT)\/z=.im (.lst (a.2.map sT)))/\U=[.pin l [.int (itN (kdS a.2) pre.length (nx b.1,[])).1],z,c,g,.im (.lst (b.2.map nrD)),.own ((itN (kdS a.2) pre.length (nx b.1,[])).2.map kdD),j]) rfl ⟨_,_,_,_,.inl rfl,rfl⟩ ?_ ?_
   .rintro pre x post U C ⟨z,c,g,j,hz,rfl⟩;refine⟨_,rfl,?_⟩;obtain⟨N,q2,q3⟩:=JF v (bV b.1) pre.length
    have u:pre.length<4:=by
     have:=congrArg fG C;rw[e8,aI,bg]at this;lia
    rw[aI,show([x]:LN).length=1 from rfl];generalize E:itN (kdS a.2) pre.length (nx b.1,[])=p at N q2 q3;have n:itN (kdS a.2) (pre.length+1) (nx b.1,[])=kdS a.2 p:=by rw[<- E];rfl
    rw[n];apply ak;refine dA (JI l p.1 _ N) ?_;obtain⟨B,_⟩:=t4 p.1;show wp _ [.pin l [.int (bI p.1).1],z,.im (.int x),.im (sT (bI p.1).2),.im (.lst (b.2.map nrD)),.own (p.2.map kdD),j] _;apply ak
    refine io (ρ':=[.pin l [.int (bI p.1).1],.im (.lst (a.2.map sT)),.im (.int x),.im (sT (bI p.1).2),.im (.lst (b.2.map nrD)),.own (p.2.map kdD),j]) (by rcases hz with rfl |rfl <;> rfl) ?_
    obtain⟨J,L⟩:=JC a.2 _ B;refine dA (Tc (ps:=a.2) (λd s h=>bxX (cU (iw (i:=1) (ρ1:=[.im d,.pin l [.int s]]) rfl (aQ (aN rfl) rfl) rfl (tZ l s 4 h (by decide))) (aN rfl) jH)) B (by unfold pT;rw[aN rfl];rfl) (by lia)) ?_;show wp _ [.pin l [.int (fiP a.2 (bI p.1).1).1],.im (.lst (a.2.map sT)),.im (.int x),.im (sT (bI p.1).2),.im (.lst (b.2.map nrD)),.own (p.2.map kdD),.im (.lst ((fiP a.2 (bI p.1).1).2.map sT))] _;have fl:=L.length_le;unfold kdS;generalize fiP a.2 (bI p.1).1=f at J L fl;have Q:bx 1 [] (au 5) (aH 0) kY (mIx (au 0) (kI 0)) [.pin l [.int f.1],.im (.lst (a.2.map sT)),.im (.int x),.im (sT (bI p.1).2),.im (.lst (b.2.map nrD)),.own (p.2.map kdD),.im (.lst (f.2.map sT))]=aa ((p.2.map (·.1)).map sT):=yh (W3:=p.2) (f:=kdD) (q:=(·.1)) rfl λz=>⟨_,rfl⟩;have d2:=bS f.1 (k:=2) (by decide);refine aX (sw (aY (aA (aS (ai rfl rfl) (iK f.2 sT)) rfl jH)) (aY (aA rfl (b6 Q) (uc _ _)))) (λe=>?_) λe=>bm ?_
    .rw[cV,decide_eq_true_eq,Bool.not_eq_true',decide_eq_false_iff_not]at e;rw[if_pos ⟨by lia,e.2⟩];refine t8 (ρ1:=[.pin l [.int (nx f.1)],.im (.lst (a.2.map sT)),.im (.int x),.im (sT (bI p.1).2),.im (.lst (b.2.map nrD)),.own (p.2.map kdD),.im (.lst (f.2.map sT))]) rfl (ge (aQ (aN rfl) (aQ (d:=.lst ((if dr f.1 2=0 then f.2 else f.2.reverse).map sT)) ?_ rfl))) rfl (by rw[ay];lia) ⟨.im (.lst (a.2.map sT)),.im (.int x),.im (sT (bI p.1).2),.im (.lst (f.2.map sT)),.inr rfl,?_⟩
     .unfold wq;rw[aN rfl,aG,cU (aN rfl) (cU (aN rfl) (eI l f.1 2 _ rfl J (by decide)) (n6 (.inl (.inl ⟨by decide,by decide⟩)))) mM,aG]
      rcases(show dr f.1 2=0\/dr f.1 2=1 by lia)with e0 |e0
      .rw[e0];rfl
      .rw[e0];show aa (D.lst ((f.2.map sT).reverse),_)=_;rw[<- map_reverse];rfl
     .rw[bF];rfl
    .have t:¬(0<f.2.length/\(bI p.1).2∉p.2.map (·.1)):=λz=>by
      rw[decide_eq_true (show(0:Int)<(f.2.length:Nat) by lia),decide_eq_false z.2]at e
      nomatch e
     rw[if_neg t];exact⟨_,_,_,_,.inr rfl,rfl⟩
   .rintro U ⟨z,c,g,j,hz,rfl⟩;rw[e8];exact k_J ⟨z,c,g,j,hz,rfl⟩
  rintro _ ⟨z,c,g,j,hz,rfl⟩;refine io (i:=5) rfl ?_
  refine io (i:=1) (ρ':=[.pin l [.int (qx b.1 a.2).1],.im (.lst (a.2.map sT)),c,g,.im (.lst (b.2.map nrD)),.im (.lst ((qx b.1 a.2).2.map kdD)),j]) (by rcases hz with rfl |rfl <;> rfl) ?_
  exact fP rfl ⟨_,_,_,_,_,_,rfl⟩
 obtain⟨o,e,G,c,g,H,I,j,rfl⟩:=w;exact i6 e rfl
nonrec def Th:=LN×L2N
nonrec def Ti:=Th×Int
nonrec def Pr:=LN×LN
nonrec def dY(z:Ti):D:=.tup [kdD z.1,.int z.2]
nonrec def prD(p:Pr):D:=.tup [sT p.1,sT p.2]
inductive Pa where
 |is (t:Th)
 |no (t:Th)
 |un (a b:LN)
 |ct (w:Bool) (n:Int) (its:List Ti) (ov:List Pr)
nonrec def Pa.toD:Pa->D
 |.is t=>.tup [.str "is",kdD t]
 |.no t=>.tup [.str "not",kdD t]
 |.un a b=>.tup [.str "unlike",sT a,sT b]
 |.ct w n its ov=>.tup [.str (if w then "least" else "most"),.int n,.lst (its.map dY),.lst (ov.map prD)]
inductive Ro where
 |kind (n:LN) (ns:L2N)
 |rule (b:Bool) (t:Th) (bd:List Pa) (ps:List Pr)
 |choose (lo hi:Int) (its:List Ti) (ov:List Pr) (bd:List Pa) (ps:List Pr)
 |never (bd:List Pa) (ps:List Pr)
nonrec def Ro.toD:Ro->D
 |.kind n ns=>.tup [.str "kind",sT n,.lst (ns.map sT)]
 |.rule b t bd ps=>.tup [.str (if b then "rule" else "may"),kdD t,.lst (bd.map Pa.toD),.lst (ps.map prD)]
 |.choose lo hi its ov bd ps=>.tup [.str "choose",.int lo,.int hi,.lst (its.map dY),.lst (ov.map prD),.lst (bd.map Pa.toD),.lst (ps.map prD)]
 |.never bd ps=>.tup [.str "never",.lst (bd.map Pa.toD),.lst (ps.map prD)]
abbrev dN{a:Type}(W3:List a)(z:a)(k:Int):a:=W3.getD k.toNat z
def kX{b:Type}{W3:List b}{z:b}(h:0<=k/\k<(W3.length:Nat)):dN W3 z k∈W3:=by
 have a:k.toNat<W3.length:=by lia
 unfold dN;rw[fF,dE a];exact na a
def Tj{a:Type}{W3:List a}{z:a}(f:a->D)(h:0<=k/\k<(W3.length:Nat)):atI (W3.map f) k=aa (f (dN W3 z k)):=by
 have b:k.toNat<W3.length:=by lia
 unfold atI ixN dN;rw[if_pos h.1,if_pos (by rw[ay];lia),aG,gf,dE b,fF,dE b];rfl
def ud{a:Type}{W3:List a}{z:a}(f:a->D)(h:0<=k/\k<(W3.length:Nat)):f6 (.lst (W3.map f)) (.int k)=aa (f (dN W3 z k)):=Tj f h
abbrev fR(y:Lay)(kn:L2N)(s:Int):Int×LN:=
 if kn=[] then (nx s,dN y.p [] (dr s (y.p.length:Nat)))
 else if 0<dr s 4 then (nx (nx s),dN kn [] (dr (nx s) (kn.length:Nat))) else (nx (nx s),dN y.p [] (dr (nx s) (y.p.length:Nat)))
abbrev thP(y:Lay)(kn:L2N)(s:Int):Int×Th:=((itP (fR y kn) (dN y.h ([],0) (dr s 4)).2.toNat (nx s)).1,((dN y.h ([],0) (dr s 4)).1,(itP (fR y kn) (dN y.h ([],0) (dr s 4)).2.toNat (nx s)).2))
abbrev prS(C:List (LN×L2N))(kn:L2N)(p:Int×List Pr):Int×List Pr:=
 if (eJ p.1).2∈kn++p.2.map (·.1) then ((eJ p.1).1,p.2) else (nx (eJ p.1).1,p.2++[((eJ p.1).2,(dN C ([],[]) (dr (eJ p.1).1 (C.length:Nat))).1)])
abbrev prN(C:List (LN×L2N))(most s:Int):Nat:=if 0<C.length then (if dr s 6 / 2+dr (nx s) 2<most then dr s 6 / 2+dr (nx s) 2 else most).toNat else 0
abbrev cz(C:List (LN×L2N))(kn:L2N)(most s:Int):Int×List Pr:=itN (prS C kn) (prN C most s) (nx (nx s),[])
abbrev itS(y:Lay)(kn:L2N)(s:Int):Int×Ti:=((thP y kn (nx (bY s).1)).1,((thP y kn (nx (bY s).1)).2,if dr (bY s).1 2=0 then 1 else ((bY s).2.natAbs:Int)))
nonrec def vrs(ps:List Pr):L2N:=ps.map (·.1)
abbrev cZ(y:Lay)(kn:L2N)(C:List (LN×L2N))(many s:Int):Int×(List Ti×List Pr):=
 ((itP (itS y (kn++vrs (cz C kn 2 s).2)) (1+dr (cz C kn 2 s).1 many).toNat (nx (cz C kn 2 s).1)).1,((itP (itS y (kn++vrs (cz C kn 2 s).2)) (1+dr (cz C kn 2 s).1 many).toNat (nx (cz C kn 2 s).1)).2,(cz C kn 2 s).2))
abbrev unS(y:Lay)(kn:L2N)(s:Int):Int×Pa:=
 (nx (nx (nx s)),if dr (nx (nx s)) 2=0 then .un (dN (kn++y.p) [] (dr (nx s) ((kn++y.p).length:Nat))) (dN kn [] (dr s (kn.length:Nat))) else .un (dN kn [] (dr s (kn.length:Nat))) (dN (kn++y.p) [] (dr (nx s) ((kn++y.p).length:Nat))))
abbrev ctS(y:Lay)(kn:L2N)(C:List (LN×L2N))(w:Bool)(s:Int):Int×Pa:=
 ((bY (cZ y kn C 2 s).1).1,.ct w (bY (cZ y kn C 2 s).1).2 (cZ y kn C 2 s).2.1 (cZ y kn C 2 s).2.2)
abbrev fA(y:Lay)(kn:L2N)(C:List (LN×L2N))(s:Int):Int×Pa:=
 if dr s 6=0/\kn≠[] then unS y kn (nx s)
 else if dr s 6<3 then ctS y kn C (decide (dr s 6 % 2=0)) (nx s)
 else ((thP y kn (nx s)).1,if dr s 6=4 then .no (thP y kn (nx s)).2 else .is (thP y kn (nx s)).2)
abbrev gN(y:Lay)(kn:L2N)(C:List (LN×L2N))(s:Int):Int×List Pa:=itP (fA y kn C) (dr s 4).toNat (nx s)
abbrev qy(y:Lay)(f:Bool)(C:List (LN×L2N))(ps:List Pr)(bd:List Pa)(s:Int):Int×Ro:=
 if dr s 4=0 then ((thP y (vrs ps) (nx (nx s))).1,.never (bd++[if dr (nx s) 2=0 then .is (thP y (vrs ps) (nx (nx s))).2 else .no (thP y (vrs ps) (nx (nx s))).2]) ps)
 else if dr s 4=1/\f=ac then ((bY (bY (cZ y (vrs ps) C 3 (nx s)).1).1).1,.choose (bY (cZ y (vrs ps) C 3 (nx s)).1).2 (bY (bY (cZ y (vrs ps) C 3 (nx s)).1).1).2 (cZ y (vrs ps) C 3 (nx s)).2.1 (cZ y (vrs ps) C 3 (nx s)).2.2 bd ps)
 else ((thP y (vrs ps) (nx s)).1,.rule (decide (dr s 4 % 2=1)) (thP y (vrs ps) (nx s)).2 bd ps)
nonrec def mst(f:Bool):Int:=3-(if f then 1 else 0)
abbrev e6(y:Lay)(f:Bool)(C:List (LN×L2N))(s:Int):Int×Ro:=qy y f C (cz C [] (mst f) s).2 (gN y (vrs (cz C [] (mst f) s).2) C (cz C [] (mst f) s).1).2 (gN y (vrs (cz C [] (mst f) s).2) C (cz C [] (mst f) s).1).1
abbrev jf(L:L2N)(w:LN):Prop:=w∈L\/c8 w=ac
abbrev jg(L:L2N)(t:Th):Prop:=∀w∈t.2,jf L w
structure lQ(C:L2N)(L:L2N)(ps:List Pr):Prop where
 nd:(L++vrs ps).Nodup
 kd:∀p∈ps,p.2∈C
 vr:∀p∈ps,gA p.1=ac
abbrev PsL(C:L2N)(L:L2N)(ps:List Pr):Prop:=lQ C L ps/\ps.length<=3
abbrev oK(C L:L2N):Pa->Prop
 |.is t=>jg L t
 |.no t=>jg L t
 |.un a b=>jf L a/\jf L b
 |.ct _ _ its ov=>PsL C L ov/\∀z∈its,jg (L++vrs ov) z.1
abbrev ue(C:L2N):Ro->Prop
 |.kind _ _=>False
 |.rule _ t bd ps=>PsL C [] ps/\jg (vrs ps) t/\∀p∈bd,oK C (vrs ps) p
 |.choose _ _ its ov bd ps=>PsL C [] ps/\(PsL C (vrs ps) ov/\∀z∈its,jg (vrs ps++vrs ov) z.1)/\∀p∈bd,oK C (vrs ps) p
 |.never bd ps=>PsL C [] ps/\∀p∈bd,oK C (vrs ps) p
section
variable{y:Lay}(hy:dB y)
include hy
def yi{kn:L2N}(s:Int)(b:kn.length<=1000):okS (fR y kn s).1/\jf kn (fR y kn s).2:=by
 obtain⟨c,a,d,e⟩:=hy.p;have dp:∀s,jf kn (dN y.p [] (dr s (y.p.length:Nat))):=λs=>.inr (a _ (kX (bS s (by lia))));unfold fR;split
 .exact⟨bV _,dp _⟩
 .rename_i h;split
  .exact⟨bV _,.inl (kX (bS _ (by have:=jW.mpr h;lia)))⟩
  .exact⟨bV _,dp _⟩
def kZ{kn:L2N}(s:Int)(c:kn.length<=1000):okS (thP y kn s).1/\jg kn (thP y kn s).2/\(thP y kn s).2.2.length<=3:=by
 obtain⟨g,e⟩:=hy.h;have d:=bS s (k:=4) (by decide);have hm:=e _ (kX (W3:=y.h) (z:=([],0)) (k:=dr s 4) (by lia));obtain⟨a,b⟩:=lP (F:=fR y kn) (λs=>(yi hy s c).1) (dN y.h ([],0) (dr s 4)).2.toNat (nx s) (bV _);refine⟨a,λw f=>kW (F:=fR y kn) (P:=jf kn) (λs=>(yi hy s c).2) _ _ w f,?_⟩;show(itP (fR y kn) _ (nx s)).2.length<=3;rw[b];lia
end
abbrev oM(C:L2N)(kn:L2N)(n:Nat)(p:Int×List Pr):Prop:=okS p.1/\lQ C kn p.2/\p.2.length<=n
variable{C:List (LN×L2N)}{kn:L2N}
def DZ(i:0<C.length)(n:Nat)(p:Int×List Pr)(h:oM (C.map (·.1)) kn n p):oM (C.map (·.1)) kn (n+1) (prS C kn p):=by
 obtain⟨_,d,g⟩:=h;obtain⟨a,b⟩:=Jy p.1;unfold prS;split
 .exact⟨a,d,uL g⟩
 .rename_i hn;refine⟨bV _,⟨?_,λq c=>?_,λq c=>?_⟩,by rw[aI,e7];lia⟩
  .show(kn++(p.2++[((eJ p.1).2,(dN C ([],[]) (dr (eJ p.1).1 (C.length:Nat))).1)]).map (λz=>z.1)).Nodup;rw[bF,<- cL];refine jY.mpr ⟨d.nd,by simp,λx f z hz e=>?_⟩;rw[show z=(eJ p.1).2 from bi.mp hz]at e;rw[e]at f;exact hn f
  .rcases cM.mp c with c |c
   .exact d.kd q c
   .rw[bi.mp c];exact bp.mpr ⟨_,kX (bS _ (by lia)),rfl⟩
  .rcases cM.mp c with c |c
   .exact d.vr q c
   .rw[bi.mp c];exact b
def D0(C:List (LN×L2N))(most s:Int)(h:0<=most):prN C most s<=most.toNat/\prN C most s<=3/\(C=[]->prN C most s=0):=by
 have b:=bS s (k:=6) (by decide);have a:=bS (nx s) (k:=2) (by decide);unfold prN;refine⟨?_,?_,λe=>by rw[e];rfl⟩
 .split
  .split <;> lia
  .omega
 .split
  .split <;> lia
  .omega
def mZ(hn:kn.Nodup)(most s:Int)(h:0<=most):okS (cz C kn most s).1/\lQ (C.map (·.1)) kn (cz C kn most s).2/\(cz C kn most s).2.length<=3:=by
 obtain⟨a,b,c⟩:=D0 C most s h;have d:oM (C.map (·.1)) kn 0 (nx (nx s),[]):=⟨bV _,⟨by simpa using hn,λ_ z=>(cO z).elim,λ_ z=>(cO z).elim⟩,bh _⟩;unfold cz
 by_cases e:0<C.length
 .obtain⟨g,i,j⟩:=qw (I:=oM (C.map (·.1)) kn) (λn p f=>DZ e n p f) d (prN C most s);exact⟨g,i,by lia⟩
 .rw[c (oV.mp (by lia))];exact⟨d.1,d.2.1,by simp[itN]⟩
section
variable{y:Lay}(hy:dB y)
include hy
def yj{kn:L2N}(s:Int)(a:kn.length<=1000):okS (itS y kn s).1/\jg kn (itS y kn s).2.1:=⟨(kZ hy _ a).1,(kZ hy _ a).2.1⟩
def oN{kn:L2N}(C:List (LN×L2N))(hn:kn.Nodup)(h:kn.length<=100){many:Int}(hm:0<many)(s:Int):okS (cZ y kn C many s).1/\lQ (C.map (·.1)) kn (cZ y kn C many s).2.2/\(∀z∈(cZ y kn C many s).2.1,jg (kn++vrs (cZ y kn C many s).2.2) z.1)/\(cZ y kn C many s).2.2.length<=3/\(cZ y kn C many s).2.1.length<=many.toNat:=by
 obtain⟨e,a,b⟩:=mZ (C:=C) hn 2 s (by decide);unfold cZ;generalize cz C kn 2 s=q at e a b;have c:(kn++vrs q.2).length<=1000:=by rw[aI,ay];lia
 obtain⟨f,g⟩:=lP (F:=itS y (kn++vrs q.2)) (λs=>(yj hy s c).1) (1+dr q.1 many).toNat (nx q.1) (bV _);have d:=bS q.1 hm;refine⟨f,a,λz hz=>kW (F:=itS y (kn++vrs q.2)) (P:=λz=>jg (kn++vrs q.2) z.1) (λs=>(yj hy s c).2) _ _ z hz,b,?_⟩;show(itP (itS y _) _ _).2.length<=_;rw[g];lia
def D3{kn:L2N}(C:List (LN×L2N))(hn:kn.Nodup)(g:kn.length<=100)(s:Int):okS (fA y kn C s).1/\oK (C.map (·.1)) kn (fA y kn C s).2:=by
 obtain⟨l,i,m,n⟩:=hy.p;unfold fA;split
 .rename_i h;have j:=jW.mpr h.2;have c:∀s,jf kn (dN kn [] (dr s (kn.length:Nat))):=λs=>.inl (kX (bS _ (by lia)))
  have d:∀s,jf kn (dN (kn++y.p) [] (dr s ((kn++y.p).length:Nat))):=λs=>by
   rcases cM.mp (kX (W3:=kn++y.p) (z:=[]) (bS s (k:=((kn++y.p).length:Nat)) (by rw[aI];lia)))with z |z
   .exact .inl z
   .exact .inr (i _ z)
  refine⟨bV _,?_⟩;unfold unS;dsimp only;split
  .exact⟨d _,c _⟩
  .exact⟨c _,d _⟩
 .split
  .obtain⟨b,a,e,f,_⟩:=oN hy C hn g (many:=2) (by decide) (nx s);exact⟨(t5 _).1,⟨a,f⟩,e⟩
  .obtain⟨b,a,_⟩:=kZ hy (kn:=kn) (nx s) (by lia);refine⟨b,?_⟩;dsimp only;split
   .exact a
   .exact a
def ym{kn:L2N}(C:List (LN×L2N))(hn:kn.Nodup)(a:kn.length<=100)(s:Int):okS (gN y kn C s).1/\(∀p∈(gN y kn C s).2,oK (C.map (·.1)) kn p)/\(gN y kn C s).2.length<=3:=by
 have d:=bS s (k:=4) (by decide);obtain⟨b,c⟩:=lP (F:=fA y kn C) (λs=>(D3 hy C hn a s).1) (dr s 4).toNat (nx s) (bV _);refine⟨b,kW (F:=fA y kn C) (λs=>(D3 hy C hn a s).2) _ _,?_⟩;show(itP _ _ _).2.length<=_;rw[c];lia
def Tk(f:Bool)(C:List (LN×L2N))(s:Int):okS (e6 y f C s).1/\ue (C.map (·.1)) (e6 y f C s).2:=by
 obtain⟨i,a,d⟩:=mZ (C:=C) (kn:=[]) gp (mst f) s (by cases f <;> decide)
 unfold e6;generalize cz C [] (mst f) s=q at i a d;have hn:(vrs q.2).Nodup:=by simpa using a.nd
 have g:(vrs q.2).length<=100:=by rw[ay];lia
 obtain⟨j,e,l⟩:=ym hy C hn g q.1;generalize gN y (vrs q.2) C q.1=b at j e l;obtain⟨r,t,_⟩:=kZ hy (kn:=vrs q.2) (nx b.1) (by lia);obtain⟨u,h,_⟩:=kZ hy (kn:=vrs q.2) (nx (nx b.1)) (by lia);unfold qy;split
 .refine⟨u,⟨a,d⟩,λp c=>?_⟩
  rcases cM.mp c with c |c
  .exact e p c
  .rw[bi.mp c];split
   .exact h
   .exact h
 .split
  .obtain⟨v,m,n,o,_⟩:=oN hy C hn g (many:=3) (by decide) (nx b.1);exact⟨(t5 _).1,⟨a,d⟩,⟨⟨m,o⟩,n⟩,e⟩
  .exact⟨r,⟨a,d⟩,t,e⟩
end
variable{g:Xt}
def Tl{f:Xt}(h:f U=aa (ac,ρ1))(a:g ρ1=aa (b,ci)):oh f g U=aa (b,ci):=by
 unfold oh;rw[h,aG,if_pos rfl,a]
def Tn{f:Xt}(h:f U=aa (ag,ρ1)):oh f g U=aa (ag,ρ1):=by
 unfold oh;rw[h,aG];rfl
def tX1{f:MF4}(h:f U=aa b):mTX f U=aa (b,U):=by
 unfold mTX;rw[h];rfl
def D4{a:Type}(F:Int->Int×a):∀n s,itP F (n+1) s=((F (itP F n s).1).1,(itP F n s).2++[(F (itP F n s).1).2])
 | 0,s=>rfl
 |n+1,s=>by
  show((itP F (n+1) (F s).1).1,(F s).2::(itP F (n+1) (F s).1).2)=_;rw[D4 F n (F s).1];rfl
def D5(n:Nat):dGt (.int (n:Nat)) (.int 0)=aa (.bl (decide (0<n))):=by
 rw[jH]
 congr 2
 exact decide_eq_decide.mpr (by lia)
variable{y:Lay}
def To(j:dB y)(l:Addr)(kn:L2N)(I:kn.length<=1000)(s:Int)(J:okS s):m_5 l [] [y.toD,.lst (kn.map sT)] [.int s]=aa ([.int (thP y kn s).1],kdD (thP y kn s).2):=by
 obtain⟨N,G⟩:=j.h;obtain⟨T,Y,C,p4⟩:=j.p;have d:=bS s (k:=4) (by decide);have hm:=G _ (kX (W3:=y.h) (z:=([],0)) (k:=dr s 4) (by lia))
 have w:wp b_5 [.pin l [.int s],.im y.toD,.im (.lst (kn.map sT)),.no,.no,.no,.no] (λo=>∃n q r b,o=.rtS (kdD (thP y kn s).2) [.pin l [.int (thP y kn s).1],.im y.toD,.im (.lst (kn.map sT)),n,q,r,b]):=by
  unfold b_5 thP;apply ak;refine AW (cU (aN (aw rfl rfl (DY _ _))) (eI l s 4 _ rfl J (by decide)) (ud (z:=([],0)) nrD (by lia))) rfl ?_;generalize dN y.h ([],0) (dr s 4)=x at hm;show wp _ [.pin l [.int (nx s)],.im y.toD,.im (.lst (kn.map sT)),.im (sT x.1),.im (.int x.2),.no,.no] _;apply ak;refine fO rfl ?_;show wp _ [.pin l [.int (nx s)],.im y.toD,.im (.lst (kn.map sT)),.im (sT x.1),.im (.int x.2),.own [],.no] _;refine kG (λU=>∃b,U=[.pin l [.int (itP (fR y kn) x.2.toNat (nx s)).1],.im y.toD,.im (.lst (kn.map sT)),.im (sT x.1),.im (.int x.2),.own ((itP (fR y kn) x.2.toNat (nx s)).2.map sT),b]) ?_ ?_
  .refine eY (cW x.2.toNat) (λi=>D.int i) (λpre U=>∃b,U=[.pin l [.int (itP (fR y kn) pre.length (nx s)).1],.im y.toD,.im (.lst (kn.map sT)),.im (sT x.1),.im (.int x.2),.own ((itP (fR y kn) pre.length (nx s)).2.map sT),b]) ?_ ⟨_,rfl⟩ ?_ ?_
   .unfold i3;rw[ai rfl rfl,aG,ye x.2 hm.2.1 (by lia)]
   .rintro pre i post U H ⟨b,rfl⟩;refine⟨_,rfl,?_⟩;obtain⟨m,M⟩:=lP (F:=fR y kn) (λs=>(yi j s I).1) pre.length (nx s) (bV _)
    have B:pre.length<4:=by
     have:=congrArg fG H;rw[e8,aI,bg]at this;lia
    rw[aI,show([i]:LN).length=1 from rfl,D4];generalize itP (fR y kn) pre.length (nx s)=p at m M;show wp _ [.pin l [.int p.1],.im y.toD,.im (.lst (kn.map sT)),.im (sT x.1),.im (.int x.2),.own (p.2.map sT),.im (.int i)] _;have a:mB (m2 dGt (aJ cY (af (ae 2) nZ)) (kI 0)) [.pin l [.int p.1],.im y.toD,.im (.lst (kn.map sT)),.im (sT x.1),.im (.int x.2),.own (p.2.map sT),.im (.int i)]=aa (decide (0<kn.length)):=aY (aA (aS (ai rfl rfl) (iK kn sT)) rfl (D5 _))
    have g:∀(f:MF1) (W3:L2N) t (K:Fl->Prop),okS t->0<W3.length->(∀t,f [.pin l [.int t],.im y.toD,.im (.lst (kn.map sT)),.im (sT x.1),.im (.int x.2),.own (p.2.map sT),.im (.int i)]=aa (.lst (W3.map sT)))->K (.nx [.pin l [.int (nx t)],.im y.toD,.im (.lst (kn.map sT)),.im (sT x.1),.im (.int x.2),.own ((p.2++[dN W3 [] (dr t (W3.length:Nat))]).map sT),.im (.int i)])->wp (gz 5 (mX2 f6 (mX f) (bj 0 m_0 (ao (mX (aJ cY (af f nZ))) aq)))) [.pin l [.int t],.im y.toD,.im (.lst (kn.map sT)),.im (sT x.1),.im (.int x.2),.own (p.2.map sT),.im (.int i)] K:=λf W3 t K L Q v u=>by
     refine t8 rfl (cU (aN (v t)) (eI l t (W3.length:Nat) _ (aS (ai (v t) rfl) (iK W3 sT)) L (by lia)) (ud (z:=[]) sT (bS t (by lia)))) rfl (by rw[ay];lia) ?_;rw[bF]at u;exact u
    unfold fR
    by_cases c:kn=[]
    .rw[if_pos c];have E:decide (0<kn.length)=ag:=by rw[c];rfl
     rw[E]at a;refine iN (Tn (tX1 a)) (λe=>nomatch e) λ_=>?_;exact g _ y.p p.1 _ m C (λ_=>aw rfl rfl rfl) ⟨_,rfl⟩
    .rw[if_neg c];have A:=jW.mpr c;rw[decide_eq_true A]at a;refine iN (Tl (tX1 a) (bxX (cU (eI l p.1 4 _ rfl m (by decide)) (aN rfl) jH))) (λe=>?_) λe=>?_
     .rw[if_pos (of_decide_eq_true e)];exact g _ kn (nx p.1) _ (bV _) A (λ_=>rfl) ⟨_,rfl⟩
     .rw[if_neg (of_decide_eq_false e)];exact g _ y.p (nx p.1) _ (bV _) C (λ_=>aw rfl rfl rfl) ⟨_,rfl⟩
   .rintro U ⟨b,rfl⟩;rw[e8];exact k_J ⟨b,rfl⟩
  rintro _ ⟨b,rfl⟩;refine io rfl ?_;exact fP rfl ⟨_,_,_,_,rfl⟩
 obtain⟨o,e,n,q,r,b,rfl⟩:=w;exact i6 e rfl
variable{f:MF1}
def uf{g:MF1}{a b:LD}(h:f U=aa (.lst a))(h':g U=aa (.lst b))(c:a.length+b.length<=16777216):fh f g U=aa (a++b):=by
 unfold fh
 grind
def Tp(l:Addr)(s:Int)(r:LS)(h:okS s):bj 0 wE aq (.pin l [.int s]::r)=aa (sT (eJ s).2,.pin l [.int (eJ s).1]::r):=DR (toD:=sT) (λs h=>S9 l s h) s r h
def yn(l:Addr)(s:Int)(r:LS)(h:okS s):bj 0 m_9 aq (.pin l [.int s]::r)=aa (.int (bY s).2,.pin l [.int (bY s).1]::r):=DR (toD:=D.int) (λs h=>Ta l s h) s r h
def JJ(l:Addr)(C:List (LN×L2N))(kn:L2N)(J:C.length<=100)(hk:kn.length<=100)(hn:kn.Nodup)(most:Int)(hm:0<=most/\most<=3)(s:Int)(L:okS s):wF l [] [.lst (C.map kdD),.lst (kn.map sT),.int most] [.int s]=aa ([.int (cz C kn most s).1],.lst ((cz C kn most s).2.map prD)):=by
 have Y:=bS s (k:=6) (by decide);have T:=bS (nx s) (k:=2) (by decide);obtain⟨_,G,r⟩:=D0 C most s hm.1
 have w:wp tB [.pin l [.int s],.im (.lst (C.map kdD)),.im (.lst (kn.map sT)),.im (.int most),.no,.no,.no] (λo=>∃x c g,o=.rtS (.lst ((cz C kn most s).2.map prD)) [.pin l [.int (cz C kn most s).1],.im (.lst (C.map kdD)),.im (.lst (kn.map sT)),.im (.int most),x,c,g]):=by
  unfold tB;apply ak;refine fO rfl ?_;show wp _ [.pin l [.int s],.im (.lst (C.map kdD)),.im (.lst (kn.map sT)),.im (.int most),.own [],.no,.no] _
  have B:(mX2 kH (ip sE (ao (mX (ae 3)) (ao (mX2 cv (mX2 rZ (bj 0 m_0 (ao (mX (kI 6)) aq)) (mX (kI 2))) (bj 0 m_0 (ao (mX (kI 2)) aq))) aq))) (mX (jL (m2 dGt (aJ cY (af (ae 1) nZ)) (kI 0))))) [.pin l [.int s],.im (.lst (C.map kdD)),.im (.lst (kn.map sT)),.im (.int most),.own [],.no,.no]=aa (.int (prN C most s:Nat),[.pin l [.int (nx (nx s))],.im (.lst (C.map kdD)),.im (.lst (kn.map sT)),.im (.int most),.own [],.no,.no]):=by
   have j:jL (m2 dGt (aJ cY (af (ae 1) nZ)) (kI 0)) [.pin l [.int (nx (nx s))],.im (.lst (C.map kdD)),.im (.lst (kn.map sT)),.im (.int most),.own [],.no,.no]=aa (.int (if decide (0<C.length) then 1 else 0)):=by
    unfold jL;rw[aA (aS (ai rfl rfl) (iK C kdD)) rfl (D5 _)];rfl
   refine cU (qv (ds:=[.int most,.int (dr s 6 / 2+dr (nx s) 2)]) (d:=.int (if dr s 6 / 2+dr (nx s) 2<most then dr s 6 / 2+dr (nx s) 2 else most)) (aQ (aN rfl) (aQ (cU (cU (eI l s 6 _ rfl L (by decide)) (aN rfl) (Aw ⟨by decide,by decide⟩)) (eI l (nx s) 2 _ rfl (bV _) (by decide)) hE) rfl)) rfl) (aN j) ?_
   rw[n6 (.inr ⟨by split <;> lia,by split <;> decide⟩)]
   congr 2
   unfold prN
   by_cases h:0<C.length
   .rw[if_pos h,decide_eq_true h,if_pos rfl,Int.mul_one,Int.toNat_of_nonneg (by split <;> lia)]
   .rw[if_neg h,decide_eq_false h,show(if ag=ac then (1:Int) else 0)=0 from rfl,Int.mul_zero];rfl
  refine kG (λU=>∃c g,U=[.pin l [.int (cz C kn most s).1],.im (.lst (C.map kdD)),.im (.lst (kn.map sT)),.im (.int most),.own ((cz C kn most s).2.map prD),c,g]) ?_ ?_
  .refine vY (t9 B (by lia) (by lia)) ?_;rw[qO];refine eY (cW (prN C most s)) (λi=>D.int i) (λpre U=>∃c g,U=[.pin l [.int (itN (prS C kn) pre.length (nx (nx s),[])).1],.im (.lst (C.map kdD)),.im (.lst (kn.map sT)),.im (.int most),.own ((itN (prS C kn) pre.length (nx (nx s),[])).2.map prD),c,g]) rfl ⟨_,_,rfl⟩ ?_ ?_
   .rintro pre i post U H ⟨c,g,rfl⟩;refine⟨_,rfl,?_⟩
    have m:pre.length<prN C most s:=by
     have:=congrArg fG H;rw[e8,aI,bg]at this;lia
    have t:0<C.length:=by
     rcases Nat.eq_zero_or_pos C.length with z |z
     .rw[r (oV.mp z)]at m;lia
     .exact z
    obtain⟨y,M,N⟩:=qw (I:=oM (C.map (·.1)) kn) (λn p u=>DZ t n p u) (p:=(nx (nx s),[])) ⟨bV _,⟨by simpa using hn,λ_ z=>(cO z).elim,λ_ z=>(cO z).elim⟩,bh _⟩ pre.length;rw[aI,show([i]:LN).length=1 from rfl];show wp _ _ λo=>_;generalize u:itN (prS C kn) pre.length (nx (nx s),[])=p at y M N;have v:itN (prS C kn) (pre.length+1) (nx (nx s),[])=prS C kn p:=by rw[<- u];rfl
    rw[v];obtain⟨Q,_⟩:=Jy p.1;apply ak;refine dA (Tp l p.1 _ y) ?_;show wp _ [.pin l [.int (eJ p.1).1],.im (.lst (C.map kdD)),.im (.lst (kn.map sT)),.im (.int most),.own (p.2.map prD),.im (.int i),.im (sT (eJ p.1).2)] _
    have E:aU (fh (ae 2) (aU (bx 1 [] (au 4) (aH 0) kY (mIx (au 0) (kI 0))))) [.pin l [.int (eJ p.1).1],.im (.lst (C.map kdD)),.im (.lst (kn.map sT)),.im (.int most),.own (p.2.map prD),.im (.int i),.im (sT (eJ p.1).2)]=aa (.lst ((kn++vrs p.2).map sT)):=by
     refine b6 ((uf (a:=kn.map sT) (b:=(vrs p.2).map sT) rfl (b6 (yh (W3:=p.2) (f:=prD) (q:=(·.1)) rfl λz=>⟨_,rfl⟩)) (by rw[ay,ay,ay];lia)).trans ?_);rw[bF]
    unfold prS;refine aX (aY (aA rfl E (uc _ _))) (λe=>?_) λe=>bm ?_
    .have j:(eJ p.1).2∉kn++vrs p.2:=by simpa using e
     rw[if_neg j];have A:=bS (eJ p.1).1 (k:=(C.length:Nat)) (by lia);refine t8 rfl (ge (aQ (aN rfl) (aQ (cU (cU (aN rfl) (eI l _ (C.length:Nat) _ (aS (ai rfl rfl) (iK C kdD)) Q (by lia)) (ud (z:=([],[])) kdD A)) (aN rfl) rfl) rfl))) rfl (by rw[ay];lia) ⟨.im (.int i),.im (sT (eJ p.1).2),?_⟩;rw[bF];rfl
    .have j:(eJ p.1).2∈kn++vrs p.2:=by simpa using e
     rw[if_pos j];exact⟨_,_,rfl⟩
   .rintro U ⟨c,g,rfl⟩;rw[e8];exact k_J ⟨c,g,rfl⟩
  rintro _ ⟨c,g,rfl⟩;refine io rfl ?_;exact fP rfl ⟨_,_,_,rfl⟩
 obtain⟨o,e,x,c,g,rfl⟩:=w;exact i6 e rfl
def Tq(n:Int):wl [.int n]=aa (.int (n.natAbs:Int)):=by
 show aa (D.int (if n<0 then -n else n))=_
 congr 2
 split <;> lia
variable{r:LS}
def thX(c:dB y)(l:Addr)(kn:L2N)(a:kn.length<=1000)(s:Int)(b:okS s)(ha:fa (.pin l [.int s]::r)=aa ([y.toD,.lst (kn.map sT)],.pin l [.int s]::r)):bj 0 m_5 fa (.pin l [.int s]::r)=aa (kdD (thP y kn s).2,.pin l [.int (thP y kn s).1]::r):=iw rfl ha rfl (To c l kn a s b)
def Tr(v:dB y)(l:Addr)(kn:L2N)(C:List (LN×L2N))(m:C.length<=100)(G:kn.length<=100)(hn:kn.Nodup)(many:Int)(hm:0<many/\many<=3)(s:Int)(H:okS s):
  tF l [] [y.toD,.lst (kn.map sT),.lst (C.map kdD),.int many] [.int s]=aa ([.int (cZ y kn C many s).1],.tup [.lst ((cZ y kn C many s).2.1.map dY),.lst ((cZ y kn C many s).2.2.map prD)]):=by
 obtain⟨A,L,M⟩:=mZ (C:=C) hn 2 s (by decide)
 have w:wp tE [.pin l [.int s],.im y.toD,.im (.lst (kn.map sT)),.im (.lst (C.map kdD)),.im (.int many),.no,.no,.no,.no,.no] (λo=>∃n r t g h,o=.rtS (.tup [.lst ((cZ y kn C many s).2.1.map dY),.lst ((cZ y kn C many s).2.2.map prD)]) [.pin l [.int (cZ y kn C many s).1],.im y.toD,.im (.lst (kn.map sT)),.im (.lst (C.map kdD)),.im (.int many),n,r,t,g,h]):=by
  unfold tE cZ;apply ak;refine dA (iw rfl (aQ (aN rfl) (aQ (aN rfl) (aQ (aN rfl) rfl))) rfl (JJ l C kn m G hn 2 (by decide) s H)) ?_;generalize cz C kn 2 s=q at A L M;show wp _ [.pin l [.int q.1],.im y.toD,.im (.lst (kn.map sT)),.im (.lst (C.map kdD)),.im (.int many),.im (.lst (q.2.map prD)),.no,.no,.no,.no] _;apply ak;refine cf (d:=.lst ((kn++vrs q.2).map sT)) (b6 ((uf (a:=kn.map sT) (b:=(vrs q.2).map sT) rfl (b6 (yh (W3:=q.2) (f:=prD) (q:=(·.1)) rfl λz=>⟨_,rfl⟩)) (by rw[ay,ay,ay];lia)).trans (by rw[bF]))) ?_;have j:(kn++vrs q.2).length<=1000:=by rw[aI,ay];lia
  generalize kn++vrs q.2=c at j;show wp _ [.pin l [.int q.1],.im y.toD,.im (.lst (kn.map sT)),.im (.lst (C.map kdD)),.im (.int many),.im (.lst (q.2.map prD)),.im (.lst (c.map sT)),.no,.no,.no] _;apply ak;refine fO rfl ?_;show wp _ [.pin l [.int q.1],.im y.toD,.im (.lst (kn.map sT)),.im (.lst (C.map kdD)),.im (.int many),.im (.lst (q.2.map prD)),.im (.lst (c.map sT)),.own [],.no,.no] _;have Q:=bS q.1 hm.1;refine kG (λU=>∃g h,U=[.pin l [.int (itP (itS y c) (1+dr q.1 many).toNat (nx q.1)).1],.im y.toD,.im (.lst (kn.map sT)),.im (.lst (C.map kdD)),.im (.int many),.im (.lst (q.2.map prD)),.im (.lst (c.map sT)),.own ((itP (itS y c) (1+dr q.1 many).toNat (nx q.1)).2.map dY),g,h]) ?_ ?_
  .refine vY (t9 (cU (aN rfl) (eI l q.1 many _ rfl A hm.1) hE) (by lia) (by lia)) ?_;refine eY (cW (1+dr q.1 many).toNat) (λi=>D.int i) (λpre U=>∃g h,U=[.pin l [.int (itP (itS y c) pre.length (nx q.1)).1],.im y.toD,.im (.lst (kn.map sT)),.im (.lst (C.map kdD)),.im (.int many),.im (.lst (q.2.map prD)),.im (.lst (c.map sT)),.own ((itP (itS y c) pre.length (nx q.1)).2.map dY),g,h]) rfl ⟨_,_,rfl⟩ ?_ ?_
   .rintro pre i post U E ⟨g,h,rfl⟩;refine⟨_,rfl,?_⟩;obtain⟨x,I⟩:=lP (F:=itS y c) (λs=>(yj v s j).1) pre.length (nx q.1) (bV _)
    have u:pre.length<4:=by
     have:=congrArg fG E;rw[e8,aI,bg]at this;lia
    rw[aI,show([i]:LN).length=1 from rfl,D4];generalize itP (itS y c) pre.length (nx q.1)=p at x I;obtain⟨J,_⟩:=t5 p.1;have N:=bS (bY p.1).1 (k:=2) (by decide)
    have B:f6 (.lst [.int 1,.int ((bY p.1).2.natAbs:Int)]) (.int (dr (bY p.1).1 2))=aa (.int (if dr (bY p.1).1 2=0 then 1 else ((bY p.1).2.natAbs:Int))):=by
     rcases(show dr (bY p.1).1 2=0\/dr (bY p.1).1 2=1 by lia)with e |e
     .rw[e];rfl
     .rw[e];rfl
    apply ak;refine dA (cU (Jz (aQ (aN rfl) (aQ (qv (aQ (yn l p.1 _ x) rfl) (Tq _)) rfl))) (eI l _ 2 _ rfl J (by decide)) B) ?_;show wp _ [.pin l [.int (nx (bY p.1).1)],.im y.toD,.im (.lst (kn.map sT)),.im (.lst (C.map kdD)),.im (.int many),.im (.lst (q.2.map prD)),.im (.lst (c.map sT)),.own (p.2.map dY),.im (.int i),.im (.int (if dr (bY p.1).1 2=0 then 1 else ((bY p.1).2.natAbs:Int)))] _;refine t8 rfl (ge (aQ (thX v l c j _ (bV _) (aQ (aN rfl) (aQ (aN rfl) rfl))) (aQ (aN rfl) rfl))) rfl (by rw[ay];lia) ⟨.im (.int i),.im (.int (if dr (bY p.1).1 2=0 then 1 else ((bY p.1).2.natAbs:Int))),?_⟩;rw[bF];rfl
   .rintro U ⟨g,h,rfl⟩;rw[e8];exact k_J ⟨g,h,rfl⟩
  rintro _ ⟨g,h,rfl⟩;refine io rfl ?_;exact fP rfl ⟨_,_,_,_,_,rfl⟩
 obtain⟨o,e,n,r,t,g,h,rfl⟩:=w;exact i6 e rfl
def JK(d:dB y)(l:Addr)(kn:L2N)(C:List (LN×L2N))(a:C.length<=100)(b:kn.length<=100)(hn:kn.Nodup)(many:Int)(hm:0<many/\many<=3)(s:Int)(c:okS s)(ha:fa (.pin l [.int s]::r)=aa ([y.toD,.lst (kn.map sT),.lst (C.map kdD),.int many],.pin l [.int s]::r)):
  bj 0 tF fa (.pin l [.int s]::r)=aa (.tup [.lst ((cZ y kn C many s).2.1.map dY),.lst ((cZ y kn C many s).2.2.map prD)],.pin l [.int (cZ y kn C many s).1]::r):=iw rfl ha rfl (Tr d l kn C a b hn many hm s c)
def Ts(c:dB y)(l:Addr)(kn:L2N)(C:List (LN×L2N))(g:C.length<=100)(I:kn.length<=100)(hn:kn.Nodup)(s:Int)(Y:okS s):
  tH l [] [y.toD,.lst (kn.map sT),.lst (C.map kdD)] [.int s]=aa ([.int (fA y kn C s).1],(fA y kn C s).2.toD):=by
 obtain⟨p1,p2,p3,p4⟩:=c.p;have N:=bS s (k:=6) (by decide);have f:=bV s
 have w:wp tG [.pin l [.int s],.im y.toD,.im (.lst (kn.map sT)),.im (.lst (C.map kdD)),.no,.no,.no,.no,.no,.no] (λo=>∃m n t u x A B E G,o=.rtS (fA y kn C s).2.toD [.pin l [.int (fA y kn C s).1],m,n,t,u,x,A,B,E,G]):=by
  unfold tG fA;apply ak;refine dA (eI l s 6 _ rfl Y (by decide)) ?_;generalize dr s 6=v at N;generalize nx s=s1 at f;show wp _ [.pin l [.int s1],.im y.toD,.im (.lst (kn.map sT)),.im (.lst (C.map kdD)),.im (.int v),.no,.no,.no,.no,.no] _;apply ak;refine aX (b:=decide (v=0) && decide (0<kn.length)) (sw (aY (aA rfl rfl (lB v 0))) (aY (aA (aS (ai rfl rfl) (iK kn sT)) rfl (D5 _)))) (λe=>?_) λe=>bm ?_
  .rw[cV,decide_eq_true_eq,decide_eq_true_eq]at e;have U:=e.2;rw[if_pos ⟨e.1,jW.mp U⟩];unfold unS;have Q:=bS s1 (k:=(kn.length:Nat)) (by lia);have L:=bV s1;apply ak;refine dA (cU (aN rfl) (eI l s1 (kn.length:Nat) _ (aS (ai rfl rfl) (iK kn sT)) f (by lia)) (ud (z:=[]) sT Q)) ?_;generalize dN kn [] (dr s1 (kn.length:Nat))=one;generalize nx s1=s2 at L;show wp _ [.pin l [.int s2],.im y.toD,.im (.lst (kn.map sT)),.im (.lst (C.map kdD)),.im (.int v),.im (sT one),.no,.no,.no,.no] _;apply ak;refine cf (d:=.lst ((kn++y.p).map sT)) (aA rfl (aw rfl rfl rfl) ?_) ?_
   .show(if (kn.map sT).length+(y.p.map sT).length<=16777216 then aa (D.lst (kn.map sT++y.p.map sT)) else ab)=_;rw[if_pos (by rw[ay,ay];lia),bF]
   have h:0<(kn++y.p).length:=by rw[aI];lia
   generalize kn++y.p=a at h;have ds:=bS s2 (k:=(a.length:Nat)) (by lia);show wp _ [.pin l [.int s2],.im y.toD,.im (.lst (kn.map sT)),.im (.lst (C.map kdD)),.im (.int v),.im (sT one),.im (.lst (a.map sT)),.no,.no,.no] _;apply ak;refine dA (cU (aN rfl) (eI l s2 (a.length:Nat) _ (aS (ai rfl rfl) (iK a sT)) L (by lia)) (ud (z:=[]) sT ds)) ?_;generalize dN a [] (dr s2 (a.length:Nat))=i;have M:=bV s2;generalize nx s2=j at M;show wp _ [.pin l [.int j],.im y.toD,.im (.lst (kn.map sT)),.im (.lst (C.map kdD)),.im (.int v),.im (sT one),.im (.lst (a.map sT)),.im (sT i),.no,.no] _;apply ak;refine iN (b:=decide (dr j 2=0)) (bxX (cU (eI l j 2 _ rfl M (by decide)) (aN rfl) (lB _ _))) (λe=>?_) λe=>bm ?_
   .rw[if_pos (of_decide_eq_true e)];exact fP rfl ⟨_,_,_,_,_,_,_,_,_,rfl⟩
   .rw[if_neg (of_decide_eq_false e)];exact fP rfl ⟨_,_,_,_,_,_,_,_,_,rfl⟩
  have T:¬(v=0/\kn≠[]):=λz=>by
   rw[decide_eq_true z.1,decide_eq_true (jW.mpr z.2)]at e
   nomatch e
  rw[if_neg T];apply ak;refine aX (b:=decide (v<3)) (aY (aA rfl rfl pN)) (λe=>?_) λe=>bm ?_
  .have e:=of_decide_eq_true e;rw[if_pos e];unfold ctS;apply ak;refine AW (JK c l kn C g I hn 2 (by decide) s1 f (aQ (aN rfl) (aQ (aN rfl) (aQ (aN rfl) (aQ (aN rfl) rfl))))) rfl ?_;obtain⟨J,_⟩:=oN c C hn I (many:=2) (by decide) s1;generalize cZ y kn C 2 s1=q at J;show wp _ [.pin l [.int q.1],.im y.toD,.im (.lst (kn.map sT)),.im (.lst (C.map kdD)),.im (.int v),.no,.no,.no,.im (.lst (q.2.1.map dY)),.im (.lst (q.2.2.map prD))] _;refine eZ (d:=Pa.toD (.ct (decide (v % 2=0)) (bY q.1).2 q.2.1 q.2.2)) (ge (aQ (d:=.str (if decide (v % 2=0) then "least" else "most")) (aN (aw rfl (aA rfl rfl (lD (by decide))) ?_)) (aQ (yn l q.1 _ J) (aQ (aN rfl) (aQ (aN rfl) rfl))))) ⟨_,_,_,_,_,_,_,_,_,rfl⟩
   rcases(show v % 2=0\/v % 2=1 by lia)with z |z
   .rw[z];rfl
   .rw[z];rfl
  .have e:=of_decide_eq_false e;rw[if_neg e];obtain⟨t1,t2,_⟩:=kZ c (kn:=kn) s1 (by lia);have H:=thX c l kn (by lia) s1 f (r:=[.im y.toD,.im (.lst (kn.map sT)),.im (.lst (C.map kdD)),.im (.int v),.no,.no,.no,.no,.no]) (fa:=ao (mX (ae 1)) (ao (mX (ae 2)) aq)) (aQ (aN rfl) (aQ (aN rfl) rfl))
   by_cases z:v=4
   .rw[if_pos z];exact eZ (d:=Pa.toD (.no (thP y kn s1).2)) (ge (aQ (d:=.str "not") (aN (aw rfl (aA rfl rfl mM) (by rw[z];rfl))) (aQ H rfl))) ⟨_,_,_,_,_,_,_,_,_,rfl⟩
   .rw[if_neg z]
    exact eZ (d:=Pa.toD (.is (thP y kn s1).2)) (ge (aQ (d:=.str "is") (aN (aw rfl (aA rfl rfl mM) (by rcases(show v=3\/v=5 by lia)with z |z <;> (rw[z];rfl)))) (aQ H rfl))) ⟨_,_,_,_,_,_,_,_,_,rfl⟩
 obtain⟨o,e,m,n,t,u,x,A,B,E,G,rfl⟩:=w;exact i6 e rfl
def Tt(j:dB y)(l:Addr)(kn:L2N)(C:List (LN×L2N))(c:C.length<=100)(f:kn.length<=100)(hn:kn.Nodup)(s:Int)(m:okS s):
  CD l [] [y.toD,.lst (kn.map sT),.lst (C.map kdD)] [.int s]=aa ([.int (gN y kn C s).1],.lst ((gN y kn C s).2.map Pa.toD)):=by
 have p:=bS s (k:=4) (by decide)
 have b:∀(a:Sl) d s,okS s->lJ 1 [0,1,2,3] 0 0 (aH 0) (bj 1 tH (ao (mX (ae 2)) (ao (mX (ae 3)) (ao (mX (ae 4)) aq)))) [a,.im y.toD,.im (.lst (kn.map sT)),.im (.lst (C.map kdD))] l d [.int s]=aa ((fA y kn C s).2.toD,[.int (fA y kn C s).1]):=λa d s h=>by
  unfold lJ;show(aa [Sl.im d,Sl.pin l [.int s],.im y.toD,.im (.lst (kn.map sT)),.im (.lst (C.map kdD))]).bind _=_;rw[aG,iw (i:=1) (ρ1:=[.im d,.pin l [.int s],.im y.toD,.im (.lst (kn.map sT)),.im (.lst (C.map kdD))]) rfl (aQ (aN rfl) (aQ (aN rfl) (aQ (aN rfl) rfl))) rfl (Ts j l kn C c f hn s h),aG];refine if_pos λi hi=>?_
  cases i with
  |zero=>nomatch hi
  |succ i=>rfl
 have loop:∀(a:Sl) (ds:LD) (s:Int),okS s->hJ 1 [0,1,2,3] 0 0 (aH 0) (bj 1 tH (ao (mX (ae 2)) (ao (mX (ae 3)) (ao (mX (ae 4)) aq)))) [a,.im y.toD,.im (.lst (kn.map sT)),.im (.lst (C.map kdD))] l ds [.int s]=aa ((itP (fA y kn C) ds.length s).2.map Pa.toD,[.int (itP (fA y kn C) ds.length s).1]):=λa ds=>by
  induction ds with
  |nil=>intro s _;rfl
  |cons d ds n=>
   intro s h;unfold hJ;rw[b a d s h,aG,n _ (D3 j C hn f s).1];rfl
 have w:wp tI [.pin l [.int s],.im y.toD,.im (.lst (kn.map sT)),.im (.lst (C.map kdD))] (λo=>o=.rtS (.lst ((gN y kn C s).2.map Pa.toD)) [.pin l [.int (gN y kn C s).1],.im y.toD,.im (.lst (kn.map sT)),.im (.lst (C.map kdD))]):=by
  unfold tI gN;refine eZ (ρ1:=[.pin l [.int (itP (fA y kn C) (dr s 4).toNat (nx s)).1],.im y.toD,.im (.lst (kn.map sT)),.im (.lst (C.map kdD))]) ?_ rfl;unfold kQ;rw[t9 (eI l s 4 _ rfl m (by decide)) (by lia) (by lia),aG];show(if ((cW (dr s 4).toNat).map λ(i:Nat)=>D.int i).length<=16777216/\_[0]?=aa 0/\_=ac then (hJ 1 [0,1,2,3] 0 0 _ _ _ l _ _).map λq=>_ else ab)=_;have g:((cW (dr s 4).toNat).map λ(i:Nat)=>D.int i).length=(dr s 4).toNat:=by rw[ay,e8]
  rw[if_pos ⟨by rw[g];lia,rfl,rfl⟩,loop _ _ (nx s) (bV s),g];rfl
 obtain⟨o,e,rfl⟩:=w;exact i6 e rfl
def Tu(g:dB y)(l:Addr)(f:Bool)(a:y.k.length<=100)(s:Int)(T:okS s):CF l [] [y.toD,.bl f] [.int s]=aa ([.int (e6 y f y.k s).1],(e6 y f y.k s).2.toD):=by
 obtain⟨H,I,U⟩:=mZ (C:=y.k) (kn:=[]) gp (mst f) s (by cases f <;> decide)
 have w:wp tJ [.pin l [.int s],.im y.toD,.im (.bl f),.no,.no,.no,.no,.no,.no] (λo=>∃i j m n p t u x,o=.rtS (e6 y f y.k s).2.toD [.pin l [.int (e6 y f y.k s).1],i,j,m,n,p,t,u,x]):=by
  unfold tJ e6
  have B:m2 kj (kI 3) (jL (ae 2)) [.pin l [.int s],.im y.toD,.im (.bl f),.no,.no,.no,.no,.no,.no]=aa (.int (mst f)):=by cases f <;> rfl
  apply ak
  refine dA (iw rfl (aQ (aN (aw rfl rfl rfl)) (aQ (aN rfl) (aQ (aN B) rfl))) rfl (JJ l y.k [] a (by decide) gp (mst f) (by cases f <;> decide) s T)) ?_
  generalize cz y.k [] (mst f) s=q at H I U;have hn:(vrs q.2).Nodup:=by simpa using I.nd
  have h:(vrs q.2).length<=100:=by rw[ay];lia
  show wp _ [.pin l [.int q.1],.im y.toD,.im (.bl f),.im (.lst (q.2.map prD)),.no,.no,.no,.no,.no] _;apply ak;refine cf (d:=.lst ((vrs q.2).map sT)) (b6 (yh (W3:=q.2) (f:=prD) (q:=(·.1)) rfl λz=>⟨_,rfl⟩)) ?_;show wp _ [.pin l [.int q.1],.im y.toD,.im (.bl f),.im (.lst (q.2.map prD)),.im (.lst ((vrs q.2).map sT)),.no,.no,.no,.no] _;apply ak;refine dA (iw rfl (aQ (aN rfl) (aQ (aN rfl) (aQ (aN (aw rfl rfl rfl)) rfl))) rfl (Tt g l (vrs q.2) y.k a h hn q.1 H)) ?_;obtain⟨A,J,L⟩:=ym g y.k hn h q.1;generalize gN y (vrs q.2) y.k q.1=b at A J L;have M:=bS b.1 (k:=4) (by decide);show wp _ [.pin l [.int b.1],.im y.toD,.im (.bl f),.im (.lst (q.2.map prD)),.im (.lst ((vrs q.2).map sT)),.im (.lst (b.2.map Pa.toD)),.no,.no,.no] _;apply ak;refine dA (eI l b.1 4 _ rfl A (by decide)) ?_;unfold qy;have c:=bV b.1;generalize dr b.1 4=v at M;generalize nx b.1=s1 at c;show wp _ [.pin l [.int s1],.im y.toD,.im (.bl f),.im (.lst (q.2.map prD)),.im (.lst ((vrs q.2).map sT)),.im (.lst (b.2.map Pa.toD)),.im (.int v),.no,.no] _;have E:=λs1 c=>thX g l (vrs q.2) (by lia) s1 c (r:=[.im y.toD,.im (.bl f),.im (.lst (q.2.map prD)),.im (.lst ((vrs q.2).map sT)),.im (.lst (b.2.map Pa.toD)),.im (.int v),.no,.no]) (fa:=ao (mX (ae 1)) (ao (mX (ae 4)) aq)) (aQ (aN rfl) (aQ (aN rfl) rfl));apply ak;refine aX (b:=decide (v=0)) (aY (aA rfl rfl (lB v 0))) (λe=>?_) λe=>bm ?_
  .rw[if_pos (of_decide_eq_true e)];have Y:=bS s1 (k:=2) (by decide)
   have N:f6 (.lst [.str "is",.str "not"]) (.int (dr s1 2))=aa (.str (if dr s1 2=0 then "is" else "not")):=by
    have:dr s1 2=0\/dr s1 2=1:=by lia
    rcases this with e |e <;> (rw[e];rfl)
   have Q:D.tup [.str (if dr s1 2=0 then "is" else "not"),kdD (thP y (vrs q.2) (nx s1)).2]=Pa.toD (if dr s1 2=0 then .is (thP y (vrs q.2) (nx s1)).2 else .no (thP y (vrs q.2) (nx s1)).2):=by split <;> rfl
   refine eZ (d:=Ro.toD (.never (b.2++[if dr s1 2=0 then .is (thP y (vrs q.2) (nx s1)).2 else .no (thP y (vrs q.2) (nx s1)).2]) q.2)) (ge (aQ (aN rfl) (aQ (cU (aN rfl) (Jz (aQ (ge (aQ (cU (aN rfl) (eI l s1 2 _ rfl c (by decide)) N) (aQ (E _ (bV s1)) rfl))) rfl)) ?_) (aQ (aN rfl) rfl)))) ⟨_,_,_,_,_,_,_,_,rfl⟩;rw[Q];show(if (b.2.map Pa.toD).length+1<=16777216 then aa (D.lst (b.2.map Pa.toD++[Pa.toD _])) else ab)=_;rw[if_pos (by rw[ay];lia),bF];rfl
  rw[if_neg (of_decide_eq_false e)];have B:=of_decide_eq_false e;apply ak;refine aX (b:=decide (v=1) && f) (sw (aY (aA rfl rfl (lB v 1))) (il rfl rfl)) (λe=>?_) λe=>bm ?_
  .rw[if_pos (by simpa using e)];apply ak;refine AW (JK g l (vrs q.2) y.k a h hn 3 (by decide) s1 c (aQ (aN rfl) (aQ (aN rfl) (aQ (aN (aw rfl rfl rfl)) (aQ (aN rfl) rfl))))) rfl ?_;obtain⟨G,_⟩:=oN g y.k hn h (many:=3) (by decide) s1;generalize cZ y (vrs q.2) y.k 3 s1=z at G;obtain⟨m1,_⟩:=t5 z.1;exact eZ (d:=Ro.toD (.choose (bY z.1).2 (bY (bY z.1).1).2 z.2.1 z.2.2 b.2 q.2)) (ge (aQ (aN rfl) (aQ (yn l z.1 _ G) (aQ (yn l _ _ m1) (aQ (aN rfl) (aQ (aN rfl) (aQ (aN rfl) (aQ (aN rfl) rfl)))))))) ⟨_,_,_,_,_,_,_,_,rfl⟩
  .rw[if_neg (by simpa using e)];refine eZ (d:=Ro.toD (.rule (decide (v % 2=1)) (thP y (vrs q.2) s1).2 b.2 q.2)) (ge (aQ (d:=.str (if decide (v % 2=1) then "rule" else "may")) (aN (aw rfl (aA rfl rfl (lD (by decide))) ?_)) (aQ (E _ c) (aQ (aN rfl) (aQ (aN rfl) rfl))))) ⟨_,_,_,_,_,_,_,_,rfl⟩
   rcases(show v=1\/v=2\/v=3 by lia)with z |z |z <;> (rw[z];rfl)
 obtain⟨o,e,i,j,m,n,p,t,u,x,rfl⟩:=w;exact i6 e rfl
open NumText PySem.Builtin PySem.Builtin.Str
nonrec abbrev asc(w:LN):Prop:=w.all (· < 128)=ac
variable{w:LN}
def Tv(h:asc w):(tx w).cps.all (· < 128)=ac:=by
 simpa using h
def Tw(x:Nat)(a:LN):inS ⟨#[x]⟩ (tx a)=decide (x∈a):=StrLaws.found_one _ x
def JL(w:LN)(h:w.length<=1000):cY [.str (tx w)]=aa (.int (w.length:Int)):=by
 show(if (tx w).length<=16777216 then aa _ else ab)=_;rw[dn,if_pos (by lia)]
def Tx(h:f U=aa (.str (tx w)))(ha:asc w):pX f U=aa (w.map λx=>D.str ⟨#[x]⟩):=by
 unfold pX;rw[h,aG];show(if (tx w).cps.all (· < 128)=ac then aa _ else ab)=_;rw[if_pos (Tv ha)]
def JM(bs:LB0):sy [.lst (bs.map D.bl)]=aa (.bl (bs.all id)):=by
 have:∀l:LB0,g8 (l.map D.bl)=aa l:=by
  intro l
  induction l with
  |nil=>rfl
  |cons a l b=>rw[eL];unfold g8;rw[b];rfl
 show((g8 _).map λbs=>D.bl _)=_;rw[this];rfl
def yo(w a:LN)(most:Nat)(c:w.length<=1000)(ha:asc w):qh [.str (tx w),.str (tx a),.int (most:Int)]=aa (.bl (made w a most)):=by
 apply bK;show wp _ [.im _,.im _,.im _] _;refine cB ?_ (b9 rfl);refine sx ?_ ?_
 .have:=PB (f:=λ_=>aa (.int 1)) (g:=aJ cY (af (ae 0) nZ)) (h:=ae 2) (U:=[.im _,.im (.str (tx a)),.im (.int most)]) rfl (aS rfl (JL w c)) Ax rfl Ax;rw[this]
  congr 3 <;> exact decide_eq_decide.mpr (by lia)
 .have b:bx 1 [1] (pX (ae 0)) (aH 0) kY (m2 pY (ae 0) (ae 1)) [.im (.str (tx w)),.im (.str (tx a)),.im (.int most)]=aa ((w.map λx=>decide (x∈a)).map D.bl):=by
   rw[map_map];exact fZ w _ (λx=>D.bl _) (Tx rfl ha) (by lia) λx _=>fu rfl rfl (aA rfl rfl (show aa _=_ by rw[Tw]))
  refine aS (ai (b6 b) rfl) ?_;rw[JM,all_map];rfl
def JN(w:LN)(i:Int)(h:0<=i/\i<=w.length):iH (tx w) (aa i) ab=tx (w.drop i.toNat):=by
 have:=StrLaws.sliceText_from (x:=tx w) ⟨h.1,h.2⟩;show StrLaws.sliceText _ _ ab=_;rw[this]
 congr 2
 show(w.drop i.toNat).take _=_;rw[m9 (by rw[qT];show _<=(w.length-i).toNat;lia)]
def Tz(w:LN)(i:Int)(h:(w.length:Int)<=i):iH (tx w) (aa i) ab=tx (w.drop i.toNat):=by
 have e:zd (aa i) ab 1 (tx w).length=zd (aa ((tx w).length:Int)) ab 1 (tx w).length:=by
  have f:=dn w;have b:¬i<0:=by lia
  have c:¬(((tx w).length:Nat):Int)<0:=by lia
  have d:min i (((tx w).length:Nat):Int)=((tx w).length:Nat):=by lia
  simp[zd,b,c,d]
 have a:iH (tx w) (aa i) ab=iH (tx w) (aa w.length) ab:=by
  unfold iH;rw[e,dn]
 rw[a,JN w _ ⟨by lia,by lia⟩,drop_of_length_le (by lia),drop_of_length_le (by lia)]
def JO(w:LN)(i:Int)(h:0<=i):iH (tx w) (aa i) ab=tx (w.drop i.toNat):=by
 by_cases hi:i<=w.length
 .exact JN w i ⟨h,hi⟩
 .exact Tz w i (by lia)
def TB(w:LN)(W6:Int)(h:0<=W6/\W6<=w.length):iH (tx w) ab (aa W6)=tx (w.take W6.toNat):=by
 have:=StrLaws.sliceText_to (x:=tx w) ⟨h.1,h.2⟩;show StrLaws.sliceText _ ab _=_;rw[this];simp
def TC(w:LN):iH (tx w) ab (aa 1)=tx (w.take 1):=by
 cases w with
 |nil=>rfl
 |cons a w=>exact TB _ 1 ⟨by decide,by rw[bg];lia⟩
def TD(w:LN)(lo hi:Option Int)(h:w.length<=1000):wc (.str (tx w)) lo hi=aa (.str (iH (tx w) lo hi)):=by
 show(if (tx w).length<=16777216 then aa _ else ab)=_;rw[dn,if_pos (by lia)]
def D6{l h:LS->Option (Option Int)}{lo hi:Option Int}{r:Str}(a:f U=aa (.str (tx w)))(b:l U=aa lo)(c:h U=aa hi)(e:w.length<=1000)(d:iH (tx w) lo hi=r):oi f l h U=aa (.str r):=by
 unfold oi;rw[a,aG,b,aG,c,aG,TD w lo hi e,d]
def D7{a b:LN}(h:asc b)(c:a ⊆ b):asc a:=all_eq_true.mpr λx d=>all_eq_true.mp h x (c d)
def D8(w:LN)(a:w.length<=1000)(ha:asc w):tM [.str (tx w)]=aa (.bl (gA w)):=by
 apply bK;refine cB (sx ?_ (G0 ?_ ?_)) (b9 rfl)
 .exact aS (ai (D6 rfl rfl rfl a (TC w)) (ai rfl (ai rfl rfl))) (yo _ grL 1 (by rw[iR];lia) (D7 ha (take_subset _ _)))
 .refine aA (aS rfl (JL w a)) rfl ((lB _ _).trans ?_)
  congr 2
  by_cases e:w.length=1
  .rw[e];rfl
  .rw[decide_eq_false e];exact beq_eq_false_iff_ne.mpr (by lia)
 .exact aS (ai (D6 rfl rfl rfl a (JO w 1 (by decide))) (ai rfl (ai rfl rfl))) (yo _ smL 7 (by rw[qT];lia) (D7 ha (drop_subset _ _)))
def JP:∀x∈smL,x<128:=by decide +kernel
def TF:∀x∈grL,x<128:=by decide +kernel
def ug(h:c8 w=ac):w.length<=8/\∀x∈w,x∈smL:=by
 unfold c8 made at h;simp only[cV,decide_eq_true_eq]at h;exact⟨h.1.1.2,λx a=>of_decide_eq_true (all_eq_true.mp h.1.2 x a)⟩
def TH:∀x∈grL,x∉smL:=by decide +kernel
def TJ(h:c8 w=ac):gA w=ag:=by
 obtain⟨_,b⟩:=ug h
 have a:1<=w.length:=by
  unfold c8 made at h;simp only[cV,decide_eq_true_eq]at h;exact h.1.1.1
 match w,a with
 |x::w,_=>
  rw[Bool.eq_false_iff];intro z;unfold gA made at z;simp only[cV,decide_eq_true_eq]at z;have:=of_decide_eq_true (all_eq_true.mp z.1.2 x (by simp));exact TH x this (b x bB)
def TK(h:c8 w=ac):asc w:=all_eq_true.mpr λx a=>decide_eq_true (JP x ((ug h).2 x a))
def JQ(h:gA w=ac):w.length<=8/\∀x∈w,x∈grL\/x∈smL:=by
 unfold gA made at h;simp only[cV,gV,decide_eq_true_eq]at h;obtain⟨c,a⟩:=h
 match w with
 | []=>exact⟨by simp,λx b=>(cO b).elim⟩
 |x::w=>
  have b:=of_decide_eq_true (all_eq_true.mp c.2 x (by simp))
  rcases a with a |a
  .have:w=[]:=oV.mp (by rw[bg]at a;lia);subst this;exact⟨by simp,λz hz=>by rw[bi.mp hz];exact .inl b⟩
  .have d:w.length<=7:=a.1.2;refine⟨by rw[bg];lia,λz hz=>?_⟩
   rcases bZ.mp hz with e |e
   .rw[e];exact .inl b
   .exact .inr (of_decide_eq_true (all_eq_true.mp a.2 z e))
def TL(h:gA w=ac):asc w:=all_eq_true.mpr λx a=>decide_eq_true (((JQ h).2 x a).elim (TF x) (JP x))
def TM(ws:L2N):(ws.map tx).Nodup↔ws.Nodup:=by
 rw[uI,uI,pairwise_map];exact⟨λh=>h.imp λh e=>h (by rw[e]),λh=>h.imp λh e=>h (gM e)⟩
def TN{ws:L2N}(h:f U=aa (.lst (ws.map sT)))(a:ws.length<4000):on f U=aa (.int (jO (ws.map tx):Nat)):=by
 refine QO (M:=ws.map tx) ?_ (by rw[ay];exact a);rw[h,map_map];rfl
def TQ(ws:L2N):decide (((jO (ws.map tx):Nat):Int)<(ws.length:Nat))=!decide ws.Nodup:=by
 have b:=QQ (ws.map tx);have a:=QR (ws.map tx);rw[ay,TM]at a;rw[ay]at b
 by_cases h:ws.Nodup
 .rw[decide_eq_true h,a.mpr h];simp
 .rw[decide_eq_false h];exact decide_eq_true (by have:jO (ws.map tx)≠ws.length:=λe=>h (a.mp e);lia)
def TR(ws:L2N)(a:ws.length<4000):mB (m2 dLt (on (ae 0)) (aJ cY (af (ae 0) nZ))) [.im (.lst (ws.map sT))]=aa (!decide ws.Nodup):=by
 refine aY (aA (TN rfl a) (aS (ai rfl rfl) (iK ws sT)) ?_);rw[pN,TQ]
def JR(ws:L2N)(h:ws.Nodup)(a:ws.length<4000):wL [.lst (ws.map sT)]=aa .non:=by
 apply bK;refine aX (TR ws a) (λe=>?_) λ_=>bm ⟨_,rfl,rfl⟩;rw[decide_eq_true h]at e
 nomatch e
def qz{a:Type}{f:a->D}{q:a->LN}{W3:List a}(h:fi U=aa (W3.map f))(b:∀x,∃r,f x=.tup [sT (q x),r])(hz:W3.length<=1000):bx 2 [] fi (cT (bo (aH 0) (bo (aH 1) cS))) kY (ae 0) U=aa ((W3.map q).map sT):=by
 rw[map_map];refine fZ W3 f (sT ∘ q) h (by lia) λz _=>?_;obtain⟨r,e⟩:=b z;rw[e];exact fu rfl rfl rfl
def JS{c:Type}(f:c->D)(a b:List c)(h:a.length+b.length<=1000):cv (.lst (a.map f)) (.lst (b.map f))=aa (.lst ((a++b).map f)):=by
 show(if (a.map f).length+(b.map f).length<=16777216 then aa (D.lst (a.map f++b.map f)) else ab)=_;rw[if_pos (by rw[ay,ay];lia),bF]
def JT(C:List (LN×L2N))(a ps:List Pr)(h:lQ (C.map (·.1)) (vrs a) ps)(l:a.length+ps.length<=100)(j:C.length<=1000):wM [.lst (ps.map prD),.lst (a.map prD),.lst (C.map kdD)]=aa .non:=by
 apply bK;show wp _ [.im (.lst (ps.map prD)),.im (.lst (a.map prD)),.im (.lst (C.map kdD)),.no,.no,.no] _;apply ak;have i:vrs (a++ps)=vrs a++vrs ps:=bF;refine kE (aS (ai (b6 (qz (W3:=a++ps) (f:=prD) (q:=(·.1)) (b8 (aA rfl rfl (JS prD a ps (by lia))) rfl) (λz=>⟨_,rfl⟩) (by rw[aI];lia))) rfl) (JR _ (by show(vrs (a++ps)).Nodup;rw[i];exact h.nd) (by rw[ay,aI];lia))) ?_;apply ak;refine cf (b6 (qz (W3:=C) (f:=kdD) (q:=(·.1)) (b8 rfl rfl) (λz=>⟨_,rfl⟩) (by lia))) ?_;show wp _ [.im (.lst (ps.map prD)),.im (.lst (a.map prD)),.im (.lst (C.map kdD)),.no,.no,.im (.lst ((C.map (·.1)).map sT))] _;refine eY ps prD (λ_ U=>∃b c,U=[.im (.lst (ps.map prD)),.im (.lst (a.map prD)),.im (.lst (C.map kdD)),b,c,.im (.lst ((C.map (·.1)).map sT))]) (b8 rfl rfl) ⟨_,_,rfl⟩ ?_ ?_
 .rintro pre p post U d ⟨b,c,rfl⟩;refine⟨_,rfl,?_⟩;have g:p∈ps:=by rw[d];simp
  refine aX (aY (aA rfl rfl (uc p.2 _))) (λe=>?_) λ_=>bm ⟨_,_,rfl⟩;rw[decide_eq_true (h.kd p g)]at e
  nomatch e
 .rintro U ⟨b,c,rfl⟩;exact⟨_,rfl,rfl⟩
def TU(a:L2N)(ps:List Pr)(h:∀w∈a,jf (vrs ps) w)(g:∀p∈ps,gA p.1=ac)(m:ps.length<=100):CN [.lst (a.map sT),.lst (ps.map prD)]=aa .non:=by
 apply bK;show wp _ [.im (.lst (a.map sT)),.im (.lst (ps.map prD)),.no,.no] _;apply ak;refine cf (b6 (qz (W3:=ps) (f:=prD) (q:=(·.1)) (b8 rfl rfl) (λz=>⟨_,rfl⟩) (by lia))) ?_;show wp _ [.im (.lst (a.map sT)),.im (.lst (ps.map prD)),.im (.lst ((vrs ps).map sT)),.no] _;refine eY a sT (λ_ U=>∃c,U=[.im (.lst (a.map sT)),.im (.lst (ps.map prD)),.im (.lst ((vrs ps).map sT)),c]) (b8 rfl rfl) ⟨_,rfl⟩ ?_ ?_
 .rintro pre w post U j ⟨c,rfl⟩;refine⟨_,rfl,?_⟩;have i:=h w (by rw[j];simp)
  have l:w.length<=8/\asc w:=by
   rcases i with z |z
   .obtain⟨p,d,rfl⟩:=bp.mp z;exact⟨(JQ (g p d)).1,TL (g p d)⟩
   .exact⟨(ug z).1,TK z⟩
  refine aX (b:=gA w && !decide (w∈vrs ps)) (sw (il (aS (ai rfl rfl) (D8 w (by lia) l.2)) rfl) (aY (aA rfl rfl (uc w _)))) (λe=>?_) λ_=>bm ⟨_,rfl⟩
  rcases i with z |z
  .rw[decide_eq_true z,Bool.not_true,uF]at e;nomatch e
  .rw[TJ z]at e;nomatch e
 .rintro U ⟨c,rfl⟩;exact⟨_,rfl,rfl⟩
def TV(h:f U=aa (.lst ds))(h':U[i]?=aa (.own M))(a:M.length+ds.length<=16777216):kr i (km f) U=aa (.nx (U.set i (.own (M++ds)))):=by
 unfold kr km;rw[h]
 show((match U[i]? with |some (.own M)=>_ | _=>_):Option Fl)=_
 rw[h'];exact if_pos a
def uh(h:f U=aa (.lst ds))(h':U[i]?=aa (.own M))(a:M.length+ds.length<=16777216)(k:K (.nx (U.set i (.own (M++ds))))):wp (kr i (km f)) U K:=⟨_,TV h h' a,k⟩
nonrec def Us:=L2N×List Pr
nonrec def usD(u:Us):D:=.tup [.lst (u.1.map sT),.lst (u.2.map prD)]
abbrev k6(its:List Ti):L2N:=its.flatMap λz=>z.1.2
abbrev paU:Pa->Us
 |.is t=>(t.2,[])
 |.no t=>(t.2,[])
 |.un a b=>([a,b],[])
 |.ct _ _ its ov=>(k6 its,ov)
abbrev roU:Ro->List Us
 |.kind _ _=>[]
 |.rule _ t bd _=>bd.map paU++[(t.2,[])]
 |.choose _ _ its ov bd _=>bd.map paU++[(k6 its,ov)]
 |.never bd _=>bd.map paU
abbrev roP:Ro->List Pr
 |.kind _ _=>[]
 |.rule _ _ _ ps=>ps
 |.choose _ _ _ _ _ ps=>ps
 |.never _ ps=>ps
abbrev roB:Ro->List Pa
 |.kind _ _=>[]
 |.rule _ _ bd _=>bd
 |.choose _ _ _ _ bd _=>bd
 |.never bd _=>bd
abbrev PaS:Pa->Prop
 |.is t=>t.2.length<=100
 |.no t=>t.2.length<=100
 |.un _ _=>True
 |.ct _ _ its _=>its.length<=100/\∀z∈its,z.1.2.length<=100
abbrev RoS:Ro->Prop
 |.kind _ ns=>ns.length<=100
 |.rule _ t bd _=>t.2.length<=100/\bd.length<=100/\∀p∈bd,PaS p
 |.choose _ _ its _ bd _=>(its.length<=100/\∀z∈its,z.1.2.length<=100)/\bd.length<=100/\∀p∈bd,PaS p
 |.never bd _=>bd.length<=100/\∀p∈bd,PaS p
def TW{its:List Ti}(h:∀z∈its,z.1.2.length<=100):(k6 its).length<=100*its.length:=by
 unfold k6
 induction its with
 |nil=>simp
 |cons z its b=>
  rw[iQ,aI,bg];have c:=h z bB;have d:=b λx a=>h x (cD _ a);lia
def JU(its:List Ti)(f:its.length<=100)(h:∀z∈its,z.1.2.length<=100):wN [.lst (its.map dY)]=aa (.lst ((k6 its).map sT)):=by
 apply bK;show wp _ [.im (.lst (its.map dY)),.no,.no,.no] _;apply ak;refine fO rfl ?_;show wp _ [.im (.lst (its.map dY)),.own [],.no,.no] _;apply ak;refine eY its dY (λpre U=>∃a b,U=[.im (.lst (its.map dY)),.own ((k6 pre).map sT),a,b]) (b8 rfl rfl) ⟨_,_,rfl⟩ ?_ ?_
 .rintro pre z post U c ⟨a,b,rfl⟩;refine⟨_,rfl,?_⟩;have hz:=h z (by rw[c];simp);have i:=TW (its:=pre) λx d=>h x (by rw[c];simp[d])
  have g:pre.length<=100:=by
   have:=congrArg fG c;rw[aI]at this;lia
  refine uh (aw rfl rfl rfl) rfl (by rw[ay,ay];lia) ⟨.im (kdD z.1),.im (.int z.2),?_⟩
  have e:k6 (pre++[z])=k6 pre++z.1.2:=by
   unfold k6;rw[gX];simp
  rw[e,bF];rfl
 .rintro U ⟨a,b,rfl⟩;exact⟨_,rfl,_,rfl,rfl⟩
def TX(p:Pa)(h:PaS p):wO [p.toD]=aa (usD (paU p)):=by
 apply bK;show wp _ [.im p.toD] _
 cases p with
 |is t=>
  apply ak;refine aX (b:=ag) (aY (aA (aw rfl rfl rfl) rfl rfl)) (λe=>nomatch e) λ_=>bm ?_;apply ak;refine aX (b:=ag) (aY (aA (aw rfl rfl rfl) rfl rfl)) (λe=>nomatch e) λ_=>bm ?_
  exact cB (cH (ai (aw (b8 (aw rfl rfl rfl) rfl) rfl rfl) (ai rfl rfl))) (b9 rfl)
 |no t=>
  apply ak;refine aX (b:=ag) (aY (aA (aw rfl rfl rfl) rfl rfl)) (λe=>nomatch e) λ_=>bm ?_;apply ak;refine aX (b:=ag) (aY (aA (aw rfl rfl rfl) rfl rfl)) (λe=>nomatch e) λ_=>bm ?_
  exact cB (cH (ai (aw (b8 (aw rfl rfl rfl) rfl) rfl rfl) (ai rfl rfl))) (b9 rfl)
 |un a b=>
  apply ak;refine aX (b:=ac) (aY (aA (aw rfl rfl rfl) rfl rfl)) (λ_=>?_) λe=>nomatch e
  exact cB (cH (ai (b6 (ai (aw rfl rfl rfl) (ai (aw rfl rfl rfl) rfl))) (ai rfl rfl))) (b9 rfl)
 |ct w n its ov=>
  apply ak
  refine aX (b:=ag) (aY (aA (aw rfl rfl rfl) rfl (by cases w <;> rfl))) (λe=>nomatch e) λ_=>bm ?_
  apply ak
  refine aX (b:=ac) (aY (aA (aw rfl rfl rfl) rfl (by cases w <;> rfl))) (λ_=>?_) λe=>nomatch e
  exact cB (cH (ai (aS (ai (aw rfl rfl rfl) rfl) (JU its h.1 h.2)) (ai (aw rfl rfl rfl) rfl))) (b9 rfl)
def TY(r:Ro)(f:∀n ns,r≠.kind n ns)(h:RoS r):CS [r.toD]=aa (.lst ((roU r).map usD)):=by
 have bd:∀(bd:List Pa) (U:LS) (fi:MF2),fi U=aa (bd.map Pa.toD)->bd.length<=100->(∀p∈bd,PaS p)->bx 1 [] fi (aH 0) kY (aJ wO (af (ae 0) nZ)) U=aa ((bd.map paU).map usD):=λbd U fi c i d=>by
  rw[map_map];exact fZ bd Pa.toD (usD ∘ paU) c (by lia) λp g=>fu rfl rfl (aS (ai rfl rfl) (TX p (d p g)))
 apply bK;show wp _ [.im r.toD,.no] _
 cases r with
 |kind n ns=>exact absurd rfl (f n ns)
 |rule b t a ps=>
  apply ak;refine fO (bd a _ _ (b8 (aw rfl rfl rfl) rfl) h.2.1 h.2.2) ?_;apply ak
  refine aX (b:=ag) (aY (aA (aw rfl rfl rfl) rfl (by cases b <;> rfl))) (λe=>nomatch e) λ_=>?_
  refine aX (b:=ac) (aY (aA (aw rfl rfl rfl) rfl (by cases b <;> rfl))) (λ_=>?_) λe=>nomatch e
  refine jG (cH (ai (aw (b8 (aw rfl rfl rfl) rfl) rfl rfl) (ai rfl rfl))) rfl (by rw[ay,ay];have:=h.2.1;lia) ⟨_,rfl,_,rfl,?_⟩;show D.lst (_++[_])=_;unfold roU;rw[bF]
  rfl
 |choose lo hi its ov a ps=>
  apply ak;refine fO (bd a _ _ (b8 (aw rfl rfl rfl) rfl) h.2.1 h.2.2) ?_;apply ak;refine aX (b:=ac) (aY (aA (aw rfl rfl rfl) rfl rfl)) (λ_=>?_) λe=>nomatch e;refine jG (cH (ai (aS (ai (aw rfl rfl rfl) rfl) (JU its h.1.1 h.1.2)) (ai (aw rfl rfl rfl) rfl))) rfl (by rw[ay,ay];have:=h.2.1;lia) ⟨_,rfl,_,rfl,?_⟩;show D.lst (_++[_])=_;unfold roU;rw[bF]
  rfl
 |never a ps=>
  apply ak;refine fO (bd a _ _ (b8 (aw rfl rfl rfl) rfl) h.1 h.2) ?_;apply ak;refine aX (b:=ag) (aY (aA (aw rfl rfl rfl) rfl rfl)) (λe=>nomatch e) λ_=>?_;refine aX (b:=ag) (aY (aA (aw rfl rfl rfl) rfl rfl)) (λe=>nomatch e) λ_=>bm ⟨_,rfl,_,rfl,rfl⟩
nonrec def Kd:=LN×L2N
abbrev yp(K L:L2N)(u:Us):Prop:=PsL K L u.2/\∀w∈u.1,jf (L++vrs u.2) w
variable{K L:L2N}
def D9(h:L.Nodup):PsL K L []:=⟨⟨by simpa using h,λ_ z=>(cO z).elim,λ_ z=>(cO z).elim⟩,by decide⟩
variable{t:Th}
def thU(a:L.Nodup)(h:jg L t):yp K L (t.2,[]):=⟨D9 a,λw b=>by simpa using h w b⟩
variable{ov:List Pr}
def itU{its:List Ti}(h:PsL K L ov/\∀z∈its,jg (L++vrs ov) z.1):yp K L (k6 its,ov):=by
 refine⟨h.1,λw a=>?_⟩;obtain⟨z,hz,a⟩:=f8.mp a;exact h.2 z hz w a
def Ea(c:L.Nodup):∀p:Pa,oK K L p->yp K L (paU p)
 |.is _,h=>thU c h
 |.no _,h=>thU c h
 |.un a b,h=>⟨D9 c,λw d=>by
   rcases bZ.mp d with e |e
   .rw[e];show jf (L++[]) a;rw[cr];exact h.1
   .rw[bi.mp e];show jf (L++[]) b;rw[cr];exact h.2⟩
 |.ct _ _ _ _,h=>itU h
def TZ:∀r:Ro,ue K r->PsL K [] (roP r)/\∀u∈roU r,yp K (vrs (roP r)) u
 |.rule _ t bd ps,h=>by
  have a:(vrs ps).Nodup:=by simpa using h.1.1.nd
  refine⟨h.1,λu c=>?_⟩
  rcases cM.mp c with e |e
  .obtain⟨p,b,rfl⟩:=bp.mp e;exact Ea a p (h.2.2 p b)
  .rw[bi.mp e];exact thU a h.2.1
 |.choose _ _ its ov bd ps,h=>by
  have a:(vrs ps).Nodup:=by simpa using h.1.1.nd
  refine⟨h.1,λu c=>?_⟩
  rcases cM.mp c with e |e
  .obtain⟨p,b,rfl⟩:=bp.mp e;exact Ea a p (h.2.2 p b)
  .rw[bi.mp e];exact itU h.2.1
 |.never bd ps,h=>by
  have a:(vrs ps).Nodup:=by simpa using h.1.1.nd
  refine⟨h.1,λu c=>?_⟩;obtain⟨p,b,rfl⟩:=bp.mp c;exact Ea a p (h.2 p b)
def Eb(r:Ro)(a:∀n ns,r≠.kind n ns)(U:LS):mIx (au 0) (m1 jB (kI 1)) (.im r.toD::U)=aa (.lst ((roP r).map prD)):=by
 cases r with
 |kind n ns=>exact absurd rfl (a n ns)
 |rule b t bd ps=>exact aw rfl rfl rfl
 |choose lo hi its ov bd ps=>exact aw rfl rfl rfl
 |never bd ps=>exact aw rfl rfl rfl
def T0(C:List Kd)(r:Ro)(h:ue (C.map (·.1)) r)(l:RoS r)(f:C.length<=1000):wP [r.toD,.lst (C.map kdD)]=aa .non:=by
 have hn:∀n ns,r≠.kind n ns:=λn ns e=>by subst e;exact h
 obtain⟨c,g⟩:=TZ r h;have q:=c.2;apply bK;show wp _ [.im r.toD,.im (.lst (C.map kdD)),.no,.no] _;apply ak;refine kE (aS (ai (Eb r hn _) (ai rfl (ai rfl rfl))) (JT C [] (roP r) c.1 (by rw[gY];lia) f)) ?_;refine eY (roU r) usD (λ_ U=>∃a b,U=[.im r.toD,.im (.lst (C.map kdD)),a,b]) (b8 (aS (ai rfl rfl) (TY r hn l)) rfl) ⟨_,_,rfl⟩ ?_ ?_
 .rintro pre u post U i ⟨a,b,rfl⟩;refine⟨_,rfl,?_⟩;obtain⟨d,o⟩:=g u (by rw[i];simp);have s:=d.2;apply ak;refine kE (aS (ai rfl (ai (Eb r hn _) (ai rfl rfl))) (JT C (roP r) u.2 d.1 (by lia) f)) ?_;refine kE (aS (ai rfl (ai (aA (Eb r hn _) rfl (JS prD (roP r) u.2 (by lia))) rfl)) (TU u.1 (roP r++u.2) (λw m=>?_) (λp j=>?_) (by rw[aI];lia))) ⟨_,_,rfl⟩
  .rw[show vrs (roP r++u.2)=vrs (roP r)++vrs u.2 from bF];exact o w m
  .exact(cM.mp j).elim (c.1.vr p) (d.1.vr p)
 .rintro U ⟨a,b,rfl⟩;exact⟨_,rfl,rfl⟩
def T1(C:List Kd)(n:LN)(a:Sl)(b:C.length<=1000):mB (m2 dIn (ae 2) (aU (bx 2 [] (bn (ae 1)) (cT (bo (aH 0) (bo (aH 1) cS))) kY (ae 0)))) [a,.im (.lst (C.map kdD)),.im (sT n)]=aa (decide (n∈C.map (·.1))):=
 aY (aA rfl (b6 (qz (W3:=C) (f:=kdD) (q:=(·.1)) (b8 rfl rfl) (λz=>⟨_,rfl⟩) b)) (inW n _))
def T2(C:List Kd)(n:LN)(ns:L2N)(h:n∉C.map (·.1))(hn:ns.Nodup)(b:ns.length<4000)(a:C.length<=1000):wQ [Ro.toD (.kind n ns),.lst (C.map kdD)]=aa .non:=by
 apply bK;show wp _ [.im (Ro.toD (.kind n ns)),.im (.lst (C.map kdD)),.no] _;apply ak;refine cf (d:=sT n) (aw rfl rfl rfl) ?_;show wp _ [.im (Ro.toD (.kind n ns)),.im (.lst (C.map kdD)),.im (sT n)] _;apply ak;refine aX (T1 C n _ a) (λe=>absurd (of_decide_eq_true e) h) λ_=>bm ?_;exact kE (aS (ai (aw rfl rfl rfl) rfl) (JR ns hn b)) ⟨_,rfl,rfl⟩
abbrev k7:Ro->List Kd
 |.kind n ns=>[(n,ns)]
 | _=>[]
abbrev dJ(rs:List Ro):List Kd:=rs.flatMap k7
def JV(rs:List Ro):(dJ rs).length<=rs.length:=by
 unfold dJ
 induction rs with
 |nil=>simp
 |cons r rs a=>
  rw[iQ,aI,bg]
  have:(k7 r).length<=1:=by cases r <;> simp[k7]
  lia
abbrev ui(C:List Kd):Ro->Prop
 |.kind n ns=>n∉C.map (·.1)/\ns.Nodup
 |r=>ue (C.map (·.1)) r
def T3(r:Ro)(a b:Sl):mB (m2 dEq (mIx (au 2) (kI 0)) (kSt "kind")) [a,b,.im r.toD]=aa (match r with |.kind _ _=>ac | _=>ag):=by
 cases r with
 |kind n ns=>exact aY (aA (aw rfl rfl rfl) rfl rfl)
 |rule b t bd ps=>exact aY (aA (aw rfl rfl rfl) rfl (by cases b <;> rfl))
 |choose lo hi its ov bd ps=>exact aY (aA (aw rfl rfl rfl) rfl rfl)
 |never bd ps=>exact aY (aA (aw rfl rfl rfl) rfl rfl)
def Ec{m:LD->OD}{f:MF2}(h:f U=aa ds)(e:m ds=aa .non):lE m f U=aa .non:=by
 unfold lE;rw[h,aG,e];rfl
abbrev yq(rs:List Ro):Prop:=∀pre r post,rs=pre++r::post->ui (dJ pre) r/\RoS r
def T4(pre:List Ro)(r:Ro):dJ (pre++[r])=dJ pre++k7 r:=by
 unfold dJ;rw[gX,flatMap_singleton]
def T5(a:Sl)(C:List Kd)(r:Ro)(h:ui C r)(f:RoS r)(c:C.length<=1000):wp (bu (mB (m2 dEq (mIx (au 2) (kI 0)) (kSt "kind"))) (am (gy (lE wQ (af (ae 2) (af (jy 1) nZ))))
  (gH 1 (bJ (af (mIx (au 2) (kI 1)) (af (aU (bn (mIx (au 2) (kI 2)))) nZ))))) (gy (lE wP (af (ae 2) (af (jy 1) nZ))))) [a,.own (C.map kdD),.im r.toD] (λo=>o=.nx [a,.own ((C++k7 r).map kdD),.im r.toD]):=by
 refine aX (T3 r _ _) (λe=>?_) λe=>?_
 .cases r with
  |kind n ns=>
   apply ak;refine kE (Ec (ai rfl (ai rfl rfl)) (T2 C n ns h.1 h.2 (by have:ns.length<=100:=f;lia) c)) ?_;refine jG (d:=kdD (n,ns)) (cH (ai (aw rfl rfl rfl) (ai (b6 (b8 (aw rfl rfl rfl) rfl)) rfl))) rfl (by rw[ay];lia) ?_;show Fl.nx [a,.own (C.map kdD++[kdD (n,ns)]),_]=Fl.nx [a,.own ((C++[(n,ns)]).map kdD),_];rw[bF]
   rfl
  |rule b t bd ps=>nomatch e
  |choose lo hi its ov bd ps=>nomatch e
  |never bd ps=>nomatch e
 .have hn:k7 r=[]/\ue (C.map (·.1)) r:=by
   cases r with
   |kind n ns=>nomatch e
   |rule b t bd ps=>exact⟨rfl,h⟩
   |choose lo hi its ov bd ps=>exact⟨rfl,h⟩
   |never bd ps=>exact⟨rfl,h⟩
  refine kE (Ec (ai rfl (ai rfl rfl)) (T0 C r hn.2 f c)) ?_;rw[hn.1,cr]
def T6(rs:List Ro)(h:yq rs)(g:rs.length<=1000):CV [.lst (rs.map Ro.toD)]=aa (.lst ((dJ rs).map kdD)):=by
 apply bK;unfold wR;show wp _ [.im (.lst (rs.map Ro.toD)),.no,.no] _;apply ak;refine fO (d:=[]) rfl ?_;show wp _ [.im (.lst (rs.map Ro.toD)),.own [],.no] _;apply ak;refine eY rs Ro.toD (λpre U=>∃a,U=[.im (.lst (rs.map Ro.toD)),.own ((dJ pre).map kdD),a]) (b8 rfl rfl) ⟨_,rfl⟩ ?_ ?_
 .rintro pre r post U b ⟨a,rfl⟩;refine⟨_,rfl,?_⟩;obtain⟨c,f⟩:=h pre r post b;have i:pre.length<=rs.length:=by rw[b,aI];lia
  have:=JV pre;obtain⟨o,e,rfl⟩:=T5 (.im (.lst (rs.map Ro.toD))) (dJ pre) r c f (by lia);exact⟨_,e,_,by rw[T4]⟩
 .rintro U ⟨a,rfl⟩;exact n5 rfl (g9 rfl)
abbrev jh{a:Type}(F:List (List a))(ns:List a):List (List a):=F.flatMap λw=>ns.map λn=>w++[n]
abbrev fm{a:Type}(S:List (List a)):List (List a):=S.foldl jh [[]]
def uj{b:Type}(ns:List b):∀F:List (List b),(jh F ns).length=F.length*ns.length
 | []=>by simp[jh]
 |w::F=>by
  have a:=uj ns F;unfold jh at a ⊢;rw[iQ,aI,a,ay,bg,qW,Nat.add_comm]
def oO{a:Type}(S:List (List a))(ns:List a):fm (S++[ns])=jh (fm S) ns:=by unfold fm;rw[foldl_append];rfl
def Ed{a:Type}(f:a->LN)(g:a->D)(w:LN):∀W3:List a,iL (W3.map λx=>(j4 (tx (f x)):Key)) (W3.map g) (.inr (tx w))=(W3.find? λx=>decide (f x=w)).map g
 | []=>rfl
 |x::W3=>by
  have b:=Ed f g w W3;unfold iL at b ⊢;rw[eL,eL,iP,find?_cons,find?_cons]
  by_cases e:f x=w
  .rw[decide_eq_true (show(j4 (tx (f x)):Key)=.inr (tx w) by rw[e]),decide_eq_true e];rfl
  .rw[decide_eq_false (λz=>e (gM (va z))),decide_eq_false e];exact b
nonrec def As:=List (LN×LN)
abbrev aK(n:As):List Key:=n.map λp=>.inr (tx p.1)
abbrev aV(n:As):LD:=n.map λp=>sT p.2
abbrev ji(d:D)(n:As):Prop:=kK d=aa (aK n,aV n)
abbrev nmF(n:As)(w:LN):LN:=((n.find? λp=>decide (p.1=w)).map (·.2)).getD w
variable{n:As}
def T7(h:ji d n)(w:LN):A2 d (sT w) (sT w)=aa (sT (nmF n w)):=by
 unfold A2;rw[h,aG];show aa ((iL (aK n) (aV n) (.inr (tx w))).getD (sT w))=_;unfold aK aV nmF;rw[Ed (λp:LN×LN=>p.1) (λp=>sT p.2) w n]
 cases n.find? λp=>decide (p.1=w) <;> rfl
def T8{g h:MF1}(a:f U=aa d)(b:g U=aa (sT w))(c:h U=aa (sT w))(ha:ji d n):sX f g h U=aa (sT (nmF n w)):=by
 unfold sX;rw[a,aG,b,aG,c,aG];exact T7 ha w
abbrev k8(C:List Kd):List Key:=C.map λk=>.inr (tx k.1)
abbrev lR(C:List Kd):LD:=C.map λk=>.lst (k.2.map sT)
abbrev kOf(C:List Kd)(k:LN):L2N:=((C.find? λq=>decide (q.1=k)).map (·.2)).getD []
abbrev JW(d:D)(C:List Kd):Prop:=kK d=aa (k8 C,lR C)
variable{C:List Kd}{k:LN}
def Ee(h:k∈C.map (·.1)):∃q,C.find? (λq=>decide (q.1=k))=aa q/\kOf C k=q.2/\q∈C:=by
 obtain⟨q,b,e⟩:=bp.mp h
 cases a:C.find? (λq=>decide (q.1=k))with
 |none=>exact absurd (find?_eq_none.mp a q b) (by simpa using e)
 |some x=>exact⟨x,rfl,by unfold kOf;rw[a];rfl,mem_of_find?_eq_some a⟩
def T9(h:JW d C)(b:k∈C.map (·.1)):jK d (sT k)=aa (.lst ((kOf C k).map sT)):=by
 obtain⟨q,a,e,_⟩:=Ee b;unfold jK;rw[h,aG];show iL (k8 C) (lR C) (.inr (tx k))=_;unfold k8 lR;rw[Ed (λq:Kd=>q.1) (λq=>D.lst (q.2.map sT)) k C,a,e];rfl
def JX:∀C:List Kd,lI (C.map kdD)=aa (k8 C,lR C)
 | []=>rfl
 |k::C=>by
  rw[eL];show((kC (.str (tx k.1))).bind λy=>(lI (C.map kdD)).map λr=>(y::r.1,D.lst (k.2.map sT)::r.2))=_;rw[JX C];rfl
def Ef{a:Type}(f:a->LN)(W3:List a)(h:(W3.map f).Nodup):(W3.map λx=>(j4 (tx (f x)):Key)).Nodup:=by
 rw[uI,pairwise_map]at h ⊢;exact h.imp λh e=>h (gM (va e))
abbrev psN(C:List Kd)(ps:List Pr):List L2N:=ps.map λp=>kOf C p.2
structure PsK(C:List Kd)(ps:List Pr):Prop where
 k:∀p∈ps,p.2∈C.map (·.1)
 l:∀p∈ps,0<(kOf C p.2).length/\(kOf C p.2).length<=12
 n:ps.length<=3
def JY:∀(S:List L2N),(∀ns∈S,ns.length<=12)->(fm S.reverse).length<=12 ^ S.length
 | [],_=>bh _
 |ns::S,h=>by
  rw[jX,oO,uj,bg,Nat.pow_succ];exact Nat.mul_le_mul (JY S λm hm=>h m (cD _ hm)) (h ns bB)
def JZ:∀(S:List L2N),∀w∈fm S.reverse,w.length=S.length
 | [],w,hw=>by cases bi.mp hw;rfl
 |ns::S,w,hw=>by
  rw[jX,oO]at hw;obtain⟨v,b,a⟩:=f8.mp hw;obtain⟨n,_,rfl⟩:=bp.mp a;rw[aI,JZ S v b];rfl
variable{ps:List Pr}
def uk(h:PsK C ps):(fm (psN C ps)).length<=1728/\∀w∈fm (psN C ps),w.length=ps.length:=by
 have a:=JY (psN C ps).reverse λm hm=>by
  obtain⟨p,d,rfl⟩:=bp.mp (l6.mp hm);exact(h.l p d).2
 have b:=JZ (psN C ps).reverse;rw[ng]at a b;have c:(psN C ps).reverse.length=ps.length:=by unfold psN;rw[qR,ay]
 rw[c]at a;refine⟨cP a (cP (oZ (by decide) h.n) (by decide)),λw e=>(b w e).trans c⟩
def J0{a b:List Pr}(h:PsK C (a++b)):PsK C a:=⟨λp c=>h.k p (cM.mpr (.inl c)),λp c=>h.l p (cM.mpr (.inl c)),by have:=h.n;rw[aI]at this;lia⟩
def Ua(nd:(C.map (·.1)).Nodup)(z:C.length<=1000)(h:PsK C ps):C5 [.lst (ps.map prD),.lst (C.map kdD)]=aa (.lst ((fm (psN C ps)).map λw=>D.lst (w.map sT))):=by
 apply bK;unfold wX;show wp _ [.im (.lst (ps.map prD)),.im (.lst (C.map kdD)),.no,.no,.no,.no,.no,.no] _;apply ak
 have A:wj 2 (ae 1) [.im (.lst (ps.map prD)),.im (.lst (C.map kdD)),.no,.no,.no,.no,.no,.no]=aa (.nx [.im (.lst (ps.map prD)),.im (.lst (C.map kdD)),.ownd (k8 C) (lR C),.no,.no,.no,.no,.no]):=by
  show((lI (C.map kdD)).bind λr=>if r.1.Nodup/\r.1.length<=1000 then aa (Fl.nx [.im (.lst (ps.map prD)),.im (.lst (C.map kdD)),.ownd r.1 r.2,.no,.no,.no,.no,.no]) else ab)=_;rw[JX,aG,if_pos ⟨Ef (λk:Kd=>k.1) C nd,by unfold k8;rw[ay];exact z⟩]
 refine mL A ?_;apply ak;refine Hm (C:=k8 C) (M:=lR C) rfl ?_;refine cf (d:=.lst ((fm (psN C [])).map λw=>D.lst (w.map sT))) rfl ?_;show wp _ [.im (.lst (ps.map prD)),.im (.lst (C.map kdD)),.im (.kd (k8 C) (lR C)),.im (.lst ((fm (psN C [])).map λw=>D.lst (w.map sT))),.no,.no,.no,.no] _;have b:JW (.kd (k8 C) (lR C)) C:=rfl;generalize D.kd (k8 C) (lR C)=N at b;apply ak;refine eY ps prD (λpre U=>∃i j g a,U=[.im (.lst (ps.map prD)),.im (.lst (C.map kdD)),.im N,.im (.lst ((fm (psN C pre)).map λw=>D.lst (w.map sT))),i,j,g,a]) (b8 rfl rfl) ⟨_,_,_,_,rfl⟩ ?_ ?_
 .rintro pre p post U m ⟨i,j,g,a,rfl⟩;have s:p∈ps:=by rw[m];simp
  obtain⟨v,q⟩:=uk (J0 (m▸h));have f:pre.length<=3:=(J0 (m▸h)).n;have t:=T9 b (h.k p s);have e:=(h.l p s).2;have u:psN C (pre++[p])=psN C pre++[kOf C p.2]:=by unfold psN;rw[bF];rfl
  rw[u,oO];generalize fm (psN C pre)=F at v q;generalize kOf C p.2=ns at t e;refine⟨_,rfl,?_⟩;show wp _ [.im (.lst (ps.map prD)),.im (.lst (C.map kdD)),.im N,.im (.lst (F.map λw=>D.lst (w.map sT))),.im (sT p.1),.im (sT p.2),g,a] _;apply ak;refine fO (d:=[]) rfl ?_;show wp _ [.im (.lst (ps.map prD)),.im (.lst (C.map kdD)),.im N,.im (.lst (F.map λw=>D.lst (w.map sT))),.im (sT p.1),.im (sT p.2),.own [],a] _;apply ak;refine eY F (λw=>D.lst (w.map sT)) (λpre U=>∃a,U=[.im (.lst (ps.map prD)),.im (.lst (C.map kdD)),.im N,.im (.lst (F.map λw=>D.lst (w.map sT))),.im (sT p.1),.im (sT p.2),.own ((jh pre ns).map λw=>D.lst (w.map sT)),a]) (b8 rfl rfl) ⟨_,rfl⟩ ?_ ?_
  .rintro G w o U c ⟨a,rfl⟩;refine⟨_,rfl,?_⟩;have B:w.length<=3:=by rw[q w (by rw[c];simp)];exact f
   have x:G.length<=1728:=by have:=congrArg fG c;rw[aI]at this;lia
   have y:bx 1 [7] (bn (m2 jK (ae 2) (ae 5))) (aH 0) kY (aU (fh (ae 1) (aU (af (ae 0) nZ)))) [.im (.lst (ps.map prD)),.im (.lst (C.map kdD)),.im N,.im (.lst (F.map λw=>D.lst (w.map sT))),.im (sT p.1),.im (sT p.2),.own ((jh G ns).map λw=>D.lst (w.map sT)),.im (.lst (w.map sT))]=aa ((ns.map λn=>w++[n]).map λw=>D.lst (w.map sT)):=by
    rw[map_map];refine fZ ns sT _ (b8 (aA rfl rfl t) rfl) (by lia) λn _=>fu rfl rfl ?_;show(fh _ _ _).map D.lst=aa (D.lst ((w++[n]).map sT));unfold fh;show((if (w.map sT).length+1<=16777216 then aa (w.map sT++[sT n]) else ab):OLD).map D.lst=_;rw[if_pos (by rw[ay];lia),bF];rfl
   refine uh (b6 y) rfl (by rw[ay,uj,ay,ay];have:=Nat.mul_le_mul x e;lia) ⟨.im (.lst (w.map sT)),?_⟩;have:jh (G++[w]) ns=jh G ns++ns.map λn=>w++[n]:=by unfold jh;rw[gX];simp
   rw[this,bF];rfl
  .rintro U ⟨a,rfl⟩;refine io (ρ':=[.im (.lst (ps.map prD)),.im (.lst (C.map kdD)),.im N,.im (.lst (F.map λw=>D.lst (w.map sT))),.im (sT p.1),.im (sT p.2),.im (.lst ((jh F ns).map λw=>D.lst (w.map sT))),a]) rfl ?_;exact cf (d:=.lst ((jh F ns).map λw=>D.lst (w.map sT))) rfl ⟨_,_,_,_,rfl⟩
 .rintro U ⟨i,j,g,a,rfl⟩;exact n4 rfl (b9 rfl)
abbrev nbw(C:List Kd)(ps:List Pr)(n:As):List As:=(fm (psN C ps)).map λw=>n++(vrs ps).zip w
abbrev asD(n:As):D:=.dic (aK n) (aV n)
def Ub(L w:L2N)(b:L.length=w.length)(hn:L.Nodup)(h:L.length<=100):AZ [.lst (L.map sT),.lst (w.map sT)]=aa (asD (L.zip w)):=by
 have a:∀L:L2N,qe (L.map sT)=aa (L.map λv=>(j4 (tx v):Key)):=λL=>by
  induction L with
  |nil=>rfl
  |cons v L c=>
   rw[eL];show((kC (.str (tx v))).bind λk=>(qe (L.map sT)).map λr=>k::r)=_;rw[c];rfl
 show(qe (L.map sT)).bind _=_;rw[a,aG,if_pos ⟨Ef (λv=>v) L (by simpa using hn),by rw[ay,ay];exact b,by rw[ay];lia⟩];unfold asD aK aV
 congr 2
 .have:=map_map (g:=λv=>(j4 (tx v):Key)) (f:=Prod.fst) (l:=L.zip w);rw[ni (by lia)]at this;exact this
 .have:=map_map (g:=sT) (f:=Prod.snd) (l:=L.zip w);rw[map_snd_zip (by lia)]at this;exact this
def J1(n m:As):aK (n++m)=aK n++aK m:=bF
def Uc(n m:As):aV (n++m)=aV n++aV m:=bF
def J2(nd:(C.map (·.1)).Nodup)(j:C.length<=1000)(h:PsK C ps)(hd:ji d n)(hn:(n.map (·.1)++vrs ps).Nodup)(s:n.length<=100):wZ [.lst (ps.map prD),.lst (C.map kdD),d]=aa (.lst ((nbw C ps n).map asD)):=by
 apply bK;unfold wY;show wp _ [.im (.lst (ps.map prD)),.im (.lst (C.map kdD)),.im d,.no,.no,.no,.no] _;have o:=h.n;apply ak;refine cf (b6 (qz (W3:=ps) (f:=prD) (q:=(·.1)) (b8 rfl rfl) (λz=>⟨_,rfl⟩) (by lia))) ?_;apply ak;refine fO (d:=[]) rfl ?_;show wp _ [.im (.lst (ps.map prD)),.im (.lst (C.map kdD)),.im d,.im (.lst ((vrs ps).map sT)),.own [],.no,.no] _;obtain⟨m,i⟩:=uk h;apply ak;refine eY (fm (psN C ps)) (λw=>D.lst (w.map sT)) (λpre U=>∃b a,U=[.im (.lst (ps.map prD)),.im (.lst (C.map kdD)),.im d,.im (.lst ((vrs ps).map sT)),.own ((pre.map λw=>n++(vrs ps).zip w).map asD),b,a]) (b8 (aS (ai rfl (ai rfl rfl)) (Ua nd j h)) rfl) ⟨_,_,rfl⟩ ?_ ?_
 .rintro pre w post U e ⟨b,a,rfl⟩;refine⟨_,rfl,?_⟩;have l:(vrs ps).length=w.length:=by rw[ay,i w (by rw[e];simp)]
  have g:pre.length<=1728:=by have:=congrArg fG e;rw[aI]at this;lia
  show wp _ [.im (.lst (ps.map prD)),.im (.lst (C.map kdD)),.im d,.im (.lst ((vrs ps).map sT)),.own ((pre.map λw=>n++(vrs ps).zip w).map asD),.im (.lst (w.map sT)),a] _;apply ak;refine Rc rfl hd ?_;show wp _ [.im (.lst (ps.map prD)),.im (.lst (C.map kdD)),.im d,.im (.lst ((vrs ps).map sT)),.own ((pre.map λw=>n++(vrs ps).zip w).map asD),.im (.lst (w.map sT)),.ownd (aK n) (aV n)] _;apply ak;have c:((vrs ps).zip w).map (·.1)=vrs ps:=ni (by lia)
  refine Rf (C:=aK n) (M:=aV n) (r:=(aK ((vrs ps).zip w),aV ((vrs ps).zip w))) rfl (by
   unfold wt;rw[ai rfl (ai rfl rfl),aG];exact Ub (vrs ps) w l (jY.mp hn).2.1 (by rw[ay];lia)) rfl ?_ ?_ ?_
  .rw[<- J1];exact Ef (λp:LN×LN=>p.1) _ (by rw[bF,c];exact hn)
  .unfold aK;rw[ay,ay,jl,ay];lia
  dsimp only;rw[<- J1,<- Uc];refine io (ρ':=[.im (.lst (ps.map prD)),.im (.lst (C.map kdD)),.im d,.im (.lst ((vrs ps).map sT)),.own ((pre.map λw=>n++(vrs ps).zip w).map asD),.im (.lst (w.map sT)),.im (asD (n++(vrs ps).zip w))]) rfl ?_;refine jG (d:=asD (n++(vrs ps).zip w)) rfl rfl (by rw[ay,ay];lia) ⟨.im (.lst (w.map sT)),.im (asD (n++(vrs ps).zip w)),?_⟩;rw[bF,bF];rfl
 .rintro U ⟨b,a,rfl⟩;exact n5 rfl (g9 rfl)
abbrev jn(a:LN):L2N->LN
 | []=>[]
 | [x]=>x
 |x::y::r=>x++a++jn a (y::r)
def Eg(a:LN):∀ws:L2N,Txt.join (tx a) (ws.map tx)=tx (jn a ws):=by
 intro ws;show fc.Str.glued (tx a) (ws.map tx)=_;rw[StrLaws.glued_eq_join]
 induction ws with
 |nil=>rfl
 |cons x r b=>
  cases r with
  |nil=>rfl
  |cons y r=>
   show tx x++tx a++j3 (tx a) ((y::r).map tx)=_;rw[b,oI,oI];rfl
abbrev dO(ws:L2N):Nat:=(ws.map fG).sum
def m3(a:LN):∀ws,(jn a ws).length<=dO ws+ws.length*a.length
 | []=>gg _
 | [x]=>by show x.length<=_;unfold dO;simp
 |x::y::r=>by
  have b:=m3 a (y::r);show(x++a++jn a (y::r)).length<=_;rw[aI,aI];unfold dO at b ⊢;rw[eL,sum_cons,bg (a:=x),qW];lia
def qA(b:Nat):∀ws:L2N,(∀w∈ws,w.length<=b)->dO ws<=ws.length*b
 | [],_=>gg _
 |w::ws,h=>by
  have c:=qA b ws λx a=>h x (cD _ a);have d:=h w bB;unfold dO at c ⊢;rw[eL,sum_cons,bg,qW];lia
def lS(a:LN)(ws:L2N)(ha:a.length<=16)(c:dO ws+ws.length<=100000):hU (.str (tx a)) (.lst (ws.map sT))=aa (.str (tx (jn a ws))):=by
 have e:ws.map sT=(ws.map tx).map D.str:=by rw[map_map];rfl
 show(iu (ws.map sT)).bind (λb=>if uU (tx a) b=ac then aa (D.str (u7 (tx a) b)) else ab)=_;rw[e,AM,aG,if_pos,Eg];refine joinOk_of_weight ?_ (by rw[dn];exact ha);rw[map_map,ay];have:(λx=>x.length) ∘ tx=fG:=funext λw=>dn w;rw[this];unfold dO at c;lia
def m4(a b:LN)(h:a.length+b.length<=100000):cv (.str (tx a)) (.str (tx b))=aa (.str (tx (a++b))):=by
 show(if (tx a).length+(tx b).length<=16777216 then aa (D.str (tx a++tx b)) else ab)=_;rw[dn,dn,if_pos (by lia),oI]
def qB(a b:LN)(h:a.length+b.length<=100000):oe (.str (tx a)) (.str (tx b))=aa (.str (tx (a++b))):=by
 show(if (tx a).length+(tx b).length<=16777216 then aa (D.str (tx a++tx b)) else ab)=_;rw[dn,dn,if_pos (by lia),oI]
def J3:∀(ws:L2N) (o:LN),jN (tx o) (ws.map tx)=tx (ws.foldl (·++·) o)
 | [],_=>rfl
 |w::ws,o=>by
  show jN (tx o++tx w) (ws.map tx)=_;rw[oI,J3 ws (o++w)];rfl
def J4{f:LS->Option LSt}{ws:L2N}{r:LN}(h:f U=aa (ws.map tx))(a:ws.foldl (·++·) []=r)(b:r.length<=100000):mFs f U=aa (.str (tx r)):=by
 have e:jN jt (ws.map tx)=tx r:=by rw[<- a];exact J3 ws []
 unfold mFs;rw[h,aG,e,dn,if_pos (by lia)]
variable{g:LS->Option LSt}{zs:LSt}
def Eh(h:f U=aa (.str (tx w)))(b:w.length<=100000)(a:g U=aa zs):mFv f g U=aa (tx w::zs):=by
 unfold mFv;rw[h,aG];show(if (tx w).length<=16777216 then aa (tx w) else ab).bind _=_;rw[dn,if_pos (by lia),aG,a];rfl
def Ei{x:Str}(h:x=tx w)(a:g U=aa zs):mFc x g U=aa (tx w::zs):=by
 unfold mFc;rw[a,h];rfl
def Ej{a:LN}:∀{ws:L2N},ws≠[]->(∀w∈ws,0<w.length)->0<(jn a ws).length
 | [],h,_=>absurd rfl h
 | [x],_,h=>h x bB
 |x::y::r,_,h=>by
  show 0<(x++a++jn a (y::r)).length;have:=h x bB;rw[aI,aI];lia
def J5(w:LN)(h:w.length<=100000):nN (.str (tx w))=aa (decide (0<w.length)):=by
 show(if (tx w).length<=16777216 then aa (((tx w).length:Int) != 0) else ab)=_;rw[dn,if_pos (by lia)]
 congr 1
 by_cases e:w.length=0
 .rw[e];rfl
 .rw[decide_eq_true (show 0<w.length by lia)];simp only[bne_iff_ne,ne_eq];lia
def cmT:(",":Str)=tx [44]:=by decide +kernel
def opT:("(":Str)=tx [40]:=by decide +kernel
def clT:(")":Str)=tx [41]:=by decide +kernel
abbrev thT(t:Th):LN:=if t.2=[] then t.1 else t.1++[40]++jn [44] t.2++[41]
abbrev tT(n:As)(t:Th):LN:=thT (t.1,t.2.map (nmF n))
structure Ek(t:Th):Prop where
 a:t.1.length<=8
 l:t.2.length<=3
 w:∀w∈t.2,0<w.length/\w.length<=8
abbrev m5(n:As)(t:Th):Prop:=Ek (t.1,t.2.map (nmF n))
def J6(h:Ek t):(thT t).length<=50:=by
 have W6:=m3 [44] t.2;have s:=qA 8 t.2 λw b=>(h.w w b).2;have a:=h.a;have l:=h.l;unfold thT;split
 .omega
 .simp only[aI,e7]at *;lia
def Ud(t:Th)(h:Ek t):m_4 [kdD t]=aa (sT (thT t)):=by
 have W6:=m3 [44] t.2;have s:=qA 8 t.2 λw b=>(h.w w b).2;have ha:=h.a;have e:=h.l;rw[e7]at W6;apply bK;unfold b_4;show wp _ [.im (kdD t),.no,.no] _;apply ak;refine cf (d:=sT t.1) (aw rfl rfl rfl) ?_;show wp _ [.im (kdD t),.im (sT t.1),.no] _;apply ak;refine cf (d:=sT (jn [44] t.2)) (aA (x:=.str (tx [44])) (by rw[cmT]) (aw rfl rfl rfl) (lS [44] t.2 (by decide) (by lia))) ?_;show wp _ [.im (kdD t),.im (sT t.1),.im (sT (jn [44] t.2))] _;have tt:gj (ae 2) [.im (kdD t),.im (sT t.1),.im (sT (jn [44] t.2))]=aa (decide (0<(jn [44] t.2).length)):=il rfl (J5 _ (by lia));refine cB (d:=sT (thT t)) ?_ (b9 rfl);unfold vIf;rw[tt,aG]
 by_cases hn:t.2=[]
 .have c:jn [44] t.2=[]:=by rw[hn];rfl
  unfold thT;rw[if_pos hn,if_neg (by rw[c];decide)];rfl
 .rw[if_pos (decide_eq_true (Ej hn λw b=>(h.w w b).1))];refine J4 (ws:=[t.1,[40],jn [44] t.2,[41]]) (Eh rfl (by lia) (Ei opT (Eh rfl (by lia) (Ei clT rfl)))) ?_ ?_
  .unfold thT;rw[if_neg hn];simp
  .have:=J6 h;lia
def J7(ha:ji d n)(x:D)(ws:L2N)(a:kh x=aa (ws.map sT))(b:ws.length<=1000):wW [x,d]=aa (.lst ((ws.map (nmF n)).map sT)):=by
 apply bK;show wp _ [.im x,.im d] _;rw[map_map];exact lC (fZ ws sT (sT ∘ nmF n) (b8 rfl a) (by lia) λw _=>fu rfl rfl (T8 rfl rfl rfl ha)) (g9 rfl)
def yr(ha:ji d n)(t:Th)(h:m5 n t):qj [kdD t,d]=aa (sT (tT n t)):=by
 apply bK;show wp _ [.im (kdD t),.im d] _;have a:=h.l;rw[ay]at a;exact cB (aS (ai (cH (ai (aw rfl rfl rfl) (ai (aS (ai (aw rfl rfl rfl) (ai rfl rfl)) (J7 ha _ t.2 rfl (by lia))) rfl))) rfl) (Ud (t.1,t.2.map (nmF n)) h)) (b9 rfl)
abbrev isU:Pa->Bool
 |.un _ _=>ac
 | _=>ag
abbrev ul(n:As):Pa->L2N
 |.un a b=>[nmF n a,nmF n b]
 | _=>[]
abbrev fB(n:As)(bd:List Pa):Bool:=bd.any λp=>match p with
 |.un a b=>decide (nmF n a=nmF n b)
 | _=>ag
def Ue(bs:LB0):vS [.lst (bs.map D.bl)]=aa (.bl (bs.any id)):=by
 have:∀l:LB0,g8 (l.map D.bl)=aa l:=by
  intro l
  induction l with
  |nil=>rfl
  |cons a l b=>rw[eL];unfold g8;rw[b];rfl
 show((g8 _).map λbs=>D.bl _)=_;rw[this];rfl
def yt(p:Pa)(U:LS):mB (m2 dEq (mIx (au 0) (kI 0)) (kSt "unlike")) (.im p.toD::U)=aa (isU p):=by
 cases p with
 |is t=>exact aY (aA (aw rfl rfl rfl) rfl rfl)
 |no t=>exact aY (aA (aw rfl rfl rfl) rfl rfl)
 |un a b=>exact aY (aA (aw rfl rfl rfl) rfl rfl)
 |ct w n its ov=>exact aY (aA (aw rfl rfl rfl) rfl (by cases w <;> rfl))
def J8(p:Pa)(U:LS):mB (m2 dNe (mIx (au 0) (kI 0)) (kSt "unlike")) (.im p.toD::U)=aa (!isU p):=by
 cases p with
 |is t=>exact aY (aA (aw rfl rfl rfl) rfl rfl)
 |no t=>exact aY (aA (aw rfl rfl rfl) rfl rfl)
 |un a b=>exact aY (aA (aw rfl rfl rfl) rfl rfl)
 |ct w n its ov=>exact aY (aA (aw rfl rfl rfl) rfl (by cases w <;> rfl))
def eqT(a b:LN):dEq (sT a) (sT b)=aa (.bl (decide (a=b))):=by
 rw[show dEq (sT a) (sT b)=aa (.bl (tx a==tx b))from rfl]
 congr 2
 apply iA.mpr;rw[beq_iff_eq,decide_eq_true_eq];exact⟨gM,λe=>by rw[e]⟩
def Uf(ha:ji d n)(bd:List Pa)(g:bd.length<=1000):C4 [.lst (bd.map Pa.toD),d]=aa (.bl (fB n bd)):=by
 apply bK;show wp _ [.im (.lst (bd.map Pa.toD)),.im d,.no] _;apply ak;refine cf (d:=.lst ((bd.filter isU).map λp=>D.lst ((ul n p).map sT))) (b6 (su bd Pa.toD isU (λp=>D.lst ((ul n p).map sT)) (b8 rfl rfl) (by lia) λp _=>?_)) ?_
 .cases p with
  |un a b=>
   refine fu rfl (yt (.un a b) _) (aS (ai (d:=.tup [sT a,sT b]) rfl (ai rfl rfl)) (J7 ha _ [a,b] rfl (by simp)))
  |is t=>exact mK (b:=ag) (y:=.non) rfl (yt (.is t) _) λe=>nomatch e
  |no t=>exact mK (b:=ag) (y:=.non) rfl (yt (.no t) _) λe=>nomatch e
  |ct w k its ov=>exact mK (b:=ag) (y:=.non) rfl (yt (.ct w k its ov) _) λe=>nomatch e
 show wp _ [.im (.lst (bd.map Pa.toD)),.im d,.im (.lst ((bd.filter isU).map λp=>D.lst ((ul n p).map sT)))] _
 have f:bx 2 [] (bn (ae 2)) (A4 (bo (aH 0) (bo (aH 1) cS))) kY (m2 dEq (ae 0) (ae 1)) [.im (.lst (bd.map Pa.toD)),.im d,.im (.lst ((bd.filter isU).map λp=>D.lst ((ul n p).map sT)))]=aa (((bd.filter isU).map λp=>match p with |.un a b=>decide (nmF n a=nmF n b) | _=>ag).map D.bl):=by
  rw[map_map];refine fZ (bd.filter isU) (λp=>D.lst ((ul n p).map sT)) _ (b8 rfl rfl) (cP (uK _ _) (by lia)) λp h=>?_;have c:=(nj.mp h).2
  cases p with
  |un a b=>exact fu (ρ1:=[.im (sT (nmF n a)),.im (sT (nmF n b))]) rfl rfl (aA rfl rfl (eqT _ _))
  |is t=>nomatch c
  |no t=>nomatch c
  |ct w k its ov=>nomatch c
 refine cB (aS (ai (b6 f) rfl) (Ue _)) (b9 ?_)
 congr 1
 unfold fB;rw[any_map];clear f g
 induction bd with
 |nil=>rfl
 |cons p bd i=>
  rw[iS,<- i]
  cases p with
  |un a b=>rw[yW rfl,iS];rfl
  |is t=>rw[yX (show ¬ag=ac from cq)];rfl
  |no t=>rw[yX (show ¬ag=ac from cq)];rfl
  |ct w k its ov=>rw[yX (show ¬ag=ac from cq)];rfl
inductive PP where
 |i (t:LN)
 |o (t:LN)
 |c (w:Bool) (n:Int) (its:List (LN×Int))
nonrec def tiD(z:LN×Int):D:=.tup [sT z.1,.int z.2]
nonrec def PP.toD:PP->D
 |.i t=>.tup [.str "in",sT t]
 |.o t=>.tup [.str "out",sT t]
 |.c w n its=>.tup [.str (if w then "least" else "most"),.int n,.lst (its.map tiD)]
structure PR where
 w:Str
 h:Option LN
 b:List PP
nonrec def hdD:Option LN->D
 |none=>.non
 |some t=>sT t
nonrec def PR.toD(r:PR):D:=.tup [.str r.w,hdD r.h,.lst (r.b.map PP.toD)]
abbrev itF(C:List Kd)(ov:List Pr)(n:As)(its:List Ti):List (LN×Int):=its.flatMap λz=>(nbw C ov n).map λm=>(tT m z.1,z.2)
abbrev ppF(C:List Kd)(n:As):Pa->PP
 |.is t=>.i (tT n t)
 |.no t=>.o (tT n t)
 |.ct w k its ov=>.c w k (itF C ov n its)
 |.un _ _=>.i []
abbrev bdF(C:List Kd)(n:As)(bd:List Pa):List PP:=(bd.filter λp=>!isU p).map (ppF C n)
abbrev chF(lo hi:Int)(its:List (LN×Int))(b:List PP):List PR:=(its.map λz=>PR.mk "may" (aa z.1) b)++[PR.mk "never" ab (b++[.c ag (lo-1) its]),PR.mk "never" ab (b++[.c ac (hi+1) its])]
abbrev rbF(C:List Kd)(n:As):Ro->List PR
 |.kind _ _=>[]
 |.rule b t bd _=>[PR.mk (if b then "make" else "may") (aa (tT n t)) (bdF C n bd)]
 |.choose lo hi its ov bd _=>chF lo hi (itF C ov n its) (bdF C n bd)
 |.never bd _=>[PR.mk "never" ab (bdF C n bd)]
structure ItK(C:List Kd)(n:As)(its:List Ti)(ov:List Pr):Prop where
 p:PsK C ov
 d:(n.map (·.1)++vrs ov).Nodup
 t:∀z∈its,∀m∈nbw C ov n,m5 m z.1
 l:(itF C ov n its).length<=60
 s:its.length<=100
abbrev PaK(C:List Kd)(n:As):Pa->Prop
 |.is t=>m5 n t
 |.no t=>m5 n t
 |.ct _ _ its ov=>ItK C n its ov
 |.un _ _=>True
abbrev RoK(C:List Kd)(n:As):Ro->Prop
 |.kind _ _=>True
 |.rule _ t bd _=>m5 n t/\bd.length<=100/\∀p∈bd,PaK C n p
 |.choose _ _ its ov bd _=>ItK C n its ov/\bd.length<=100/\∀p∈bd,PaK C n p
 |.never bd _=>bd.length<=100/\∀p∈bd,PaK C n p
def J9{a:Type}(W3:List a)(f:a->D)(k:Int)(w:Str)(h:(W3.length:Int)<=k):qi [.lst (W3.map f),.int k,.str w]=aa .non:=by
 apply bK;show wp _ [.im (.lst (W3.map f)),.im (.int k),.im (.str w)] _
 have e:pE (aJ cY (af (ae 0) nZ)) (mT (ae 0)) [.im (.lst (W3.map f)),.im (.int k),.im (.str w)]=aa (.int (W3.length:Int)):=by
  unfold pE;rw[aS (ai rfl rfl) (iK W3 f)];rfl
 refine aX (aY (aA e rfl jH)) (λz=>?_) λ_=>bm ⟨_,rfl,rfl⟩;have:=of_decide_eq_true z;lia
def Ka(h:PsK C ps)(n:As):(nbw C ps n).length<=1728:=by unfold nbw;rw[ay];exact(uk h).1
section
variable{C:List Kd}(nd:(C.map (·.1)).Nodup)(hk:C.length<=1000)
include nd hk
def Kb{n:As}{d:D}(hd:ji d n)(f:n.length<=100){its:List Ti}{ov:List Pr}(h:ItK C n its ov):w9 [.lst (its.map dY),.lst (ov.map prD),d,.lst (C.map kdD)]=aa (.lst ((itF C ov n its).map tiD)):=by
 apply bK;unfold w6;show wp _ [.im (.lst (its.map dY)),.im (.lst (ov.map prD)),.im d,.im (.lst (C.map kdD)),.no,.no,.no] _;apply ak;refine fO (d:=[]) rfl ?_;show wp _ [.im (.lst (its.map dY)),.im (.lst (ov.map prD)),.im d,.im (.lst (C.map kdD)),.own [],.no,.no] _;have j:=Ka h.p n;have i:=h.s;apply ak;refine eY its dY (λpre U=>∃a b,U=[.im (.lst (its.map dY)),.im (.lst (ov.map prD)),.im d,.im (.lst (C.map kdD)),.own ((itF C ov n pre).map tiD),a,b]) (b8 rfl rfl) ⟨_,_,rfl⟩ ?_ ?_
 .rintro pre z post U c ⟨a,b,rfl⟩;refine⟨_,rfl,?_⟩;have hz:=h.t z (by rw[c];simp)
  have g:(itF C ov n pre).length<=60:=by
   have:=h.l;rw[c]at this;unfold itF at this ⊢;rw[gX,aI]at this;lia
  show wp _ [.im (.lst (its.map dY)),.im (.lst (ov.map prD)),.im d,.im (.lst (C.map kdD)),.own ((itF C ov n pre).map tiD),.im (kdD z.1),.im (.int z.2)] _;refine uh (ds:=((nbw C ov n).map λm=>(tT m z.1,z.2)).map tiD) (b6 ?_) rfl (by rw[ay,ay,ay];lia) ⟨.im (kdD z.1),.im (.int z.2),?_⟩
  .rw[map_map];exact fZ (nbw C ov n) asD _ (b8 (aS (ai rfl (ai rfl (ai rfl rfl))) (J2 nd hk h.p hd h.d f)) rfl) (by lia) λm hm=>fu rfl rfl (cH (ai (aS (ai rfl (ai rfl rfl)) (yr (show ji (asD m) m from rfl) z.1 (hz m hm))) (ai rfl rfl)))
  .have:itF C ov n (pre++[z])=itF C ov n pre++(nbw C ov n).map λm=>(tT m z.1,z.2):=by unfold itF;rw[gX];simp
   rw[this,bF];rfl
 .rintro U ⟨a,b,rfl⟩;have e:=h.l;apply ak;refine io (ρ':=[.im (.lst (its.map dY)),.im (.lst (ov.map prD)),.im d,.im (.lst (C.map kdD)),.im (.lst ((itF C ov n its).map tiD)),a,b]) rfl ?_;refine kE (aS (ai rfl (ai rfl (ai rfl rfl))) (J9 _ tiD 60 "items" (by lia))) ?_;exact n4 rfl (b9 rfl)
def Ug{n:As}{d:D}(hd:ji d n)(c:n.length<=100)(p:Pa)(h:PaK C n p)(f:isU p=ag):xb [p.toD,d,.lst (C.map kdD)]=aa (ppF C n p).toD:=by
 apply bK;unfold xa;show wp _ [.im p.toD,.im d,.im (.lst (C.map kdD))] _
 cases p with
 |is t=>
  apply ak;refine aX (b:=ac) (aY (aA (aw rfl rfl rfl) rfl rfl)) (λ_=>?_) λe=>nomatch e
  exact cB (cH (ai rfl (ai (aS (ai (aw rfl rfl rfl) (ai rfl rfl)) (yr hd t h)) rfl))) (b9 rfl)
 |no t=>
  apply ak;refine aX (b:=ag) (aY (aA (aw rfl rfl rfl) rfl rfl)) (λe=>nomatch e) λ_=>bm ?_;apply ak;refine aX (b:=ac) (aY (aA (aw rfl rfl rfl) rfl rfl)) (λ_=>?_) λe=>nomatch e
  exact cB (cH (ai rfl (ai (aS (ai (aw rfl rfl rfl) (ai rfl rfl)) (yr hd t h)) rfl))) (b9 rfl)
 |un a b=>nomatch f
 |ct w k its ov=>
  apply ak
  refine aX (b:=ag) (aY (aA (aw rfl rfl rfl) rfl (by cases w <;> rfl))) (λe=>nomatch e) λ_=>bm ?_
  apply ak
  refine aX (b:=ag) (aY (aA (aw rfl rfl rfl) rfl (by cases w <;> rfl))) (λe=>nomatch e) λ_=>bm ?_
  exact cB (cH (ai (aw rfl rfl rfl) (ai (aw rfl rfl rfl) (ai (aS (ai (aw rfl rfl rfl) (ai (aw rfl rfl rfl) (ai rfl (ai rfl rfl)))) (Kb nd hk hd c h)) rfl)))) (b9 rfl)
def El{n:As}{d:D}(hd:ji d n)(j:n.length<=100)(bd:List Pa)(m:bd.length<=100)(h:∀p∈bd,PaK C n p){U:LS}{fi:MF2}(i:fi U=aa (bd.map Pa.toD))(f:U[1]?=aa (.im d))(g:U[2]?=aa (.im (.lst (C.map kdD)))):
  bx 1 [1,2] fi (aH 0) (mB (m2 dNe (mIx (au 0) (kI 0)) (kSt "unlike"))) (aJ xb (af (ae 0) (af (ae 1) (af (ae 2) nZ)))) U=aa ((bdF C n bd).map PP.toD):=by
 unfold bdF;rw[map_map]
 have c:df 1 [1,2] U=[.no,.im d,.im (.lst (C.map kdD))]:=by
  show[Sl.no]++[1,2].map (λW6=>(U[W6]?).getD .no)=_;simp[f,g]
 refine su bd Pa.toD (λp=>!isU p) (PP.toD ∘ ppF C n) i (by lia) λp l=>?_;rw[c]
 cases a:isU p with
 |false=>exact fu rfl ((J8 p _).trans (by rw[a];rfl)) (aS (ai rfl (ai rfl (ai rfl rfl))) (Ug nd hk hd j p (h p l) a))
 |true=>exact mK (b:=ag) (y:=.non) rfl ((J8 p _).trans (by rw[a];rfl)) λe=>nomatch e
def Uh(lo hi:Int)(its:List (LN×Int))(b:List PP)(i:its.length<=1000)(j:b.length<=1000):C6 [.int lo,.int hi,.lst (its.map tiD),.lst (b.map PP.toD)]=aa (.lst ((chF lo hi its b).map PR.toD)):=by
 apply bK;unfold w5;show wp _ [.im (.int lo),.im (.int hi),.im (.lst (its.map tiD)),.im (.lst (b.map PP.toD)),.no] _;apply ak;refine fO (d:=(its.map λz=>PR.mk "may" (aa z.1) b).map PR.toD) (by rw[map_map];exact fZ its tiD _ (b8 rfl rfl) (by lia) λz _=>fu rfl rfl (cH (ai rfl (ai rfl (ai rfl rfl))))) ?_
 have a:∀(p:PP) (U:LS) (f g:MF1),f U=aa (.lst (b.map PP.toD))->g U=aa p.toD->aU (fh f (aU (af g nZ))) U=aa (.lst ((b++[p]).map PP.toD)):=λp U f g e h=>by
  refine b6 ?_;unfold fh;rw[e,aG,b6 (ai h rfl)];show(if (b.map PP.toD).length+1<=16777216 then aa (b.map PP.toD++[p.toD]) else ab)=_;rw[if_pos (by rw[ay];lia),bF];rfl
 show wp _ [.im (.int lo),.im (.int hi),.im (.lst (its.map tiD)),.im (.lst (b.map PP.toD)),.own ((its.map λz=>PR.mk "may" (aa z.1) b).map PR.toD)] _;apply ak;refine jG (d:=PR.toD (PR.mk "never" ab (b++[.c ag (lo-1) its]))) (cH (ai rfl (ai rfl (ai (a (.c ag (lo-1) its) _ _ _ rfl (cH (ai rfl (ai (aA rfl rfl mM) (ai rfl rfl))))) rfl)))) rfl (by rw[ay,ay];lia) ?_;apply ak;refine jG (d:=PR.toD (PR.mk "never" ab (b++[.c ac (hi+1) its]))) (cH (ai rfl (ai rfl (ai (a (.c ac (hi+1) its) _ _ _ rfl (cH (ai rfl (ai (aA rfl rfl hE) (ai rfl rfl))))) rfl)))) rfl (by rw[aI,ay,ay,e7];lia) ?_;refine n5 rfl (g9 ?_);unfold chF;rw[bF,cL];rfl
def Ui{n:As}{d:D}(hd:ji d n)(c:n.length<=100)(r:Ro)(i:∀a b,r≠.kind a b)(h:RoK C n r):C8 [r.toD,d,.lst (C.map kdD)]=aa (.lst ((rbF C n r).map PR.toD)):=by
 apply bK;unfold xc;show wp _ [.im r.toD,.im d,.im (.lst (C.map kdD)),.no,.no] _
 cases r with
 |kind a b=>exact absurd rfl (i a b)
 |rule b t bd ps=>
  apply ak;refine cf (b6 (El nd hk hd c bd h.2.1 h.2.2 (b8 (aw rfl rfl rfl) rfl) rfl rfl)) ?_;apply ak
  refine aX (b:=ag) (aY (aA (aw rfl rfl rfl) rfl (by cases b <;> rfl))) (λe=>nomatch e) λ_=>bm ?_
  apply ak
  refine aX (b:=ag) (aY (aA (aw rfl rfl rfl) rfl (by cases b <;> rfl))) (λe=>nomatch e) λ_=>bm ?_
  apply ak;refine cf (d:=.str (if b then "make" else "may")) ?_ ?_
  .unfold vIf
   rw[aY (b:=b) (aA (aw rfl rfl rfl) rfl (by cases b <;> rfl)),aG]
   cases b <;> rfl
  exact lC (ai (cH (ai rfl (ai (aS (ai (aw rfl rfl rfl) (ai rfl rfl)) (yr hd t h.1)) (ai rfl rfl)))) rfl) (g9 rfl)
 |choose lo hi its ov bd ps=>
  apply ak;refine cf (b6 (El nd hk hd c bd h.2.1 h.2.2 (b8 (aw rfl rfl rfl) rfl) rfl rfl)) ?_;apply ak;refine aX (b:=ag) (aY (aA (aw rfl rfl rfl) rfl rfl)) (λe=>nomatch e) λ_=>bm ?_;apply ak;refine aX (b:=ac) (aY (aA (aw rfl rfl rfl) rfl rfl)) (λ_=>?_) λe=>nomatch e
  have g:(bdF C n bd).length<=1000:=by
   unfold bdF;rw[ay];have:=uK (λp=>!isU p) bd;have:=h.2.1;lia
  have f:=h.1.l
  exact cB (aS (ai (aw rfl rfl rfl) (ai (aw rfl rfl rfl) (ai (aS (ai (aw rfl rfl rfl) (ai (aw rfl rfl rfl) (ai rfl (ai rfl rfl)))) (Kb nd hk hd c h.1)) (ai rfl rfl)))) (Uh nd hk lo hi _ _ (by lia) g)) (b9 rfl)
 |never bd ps=>
  apply ak;refine cf (b6 (El nd hk hd c bd h.1 h.2 (b8 (aw rfl rfl rfl) rfl) rfl rfl)) ?_;apply ak;refine aX (b:=ac) (aY (aA (aw rfl rfl rfl) rfl rfl)) (λ_=>?_) λe=>nomatch e;exact lC (ai (cH (ai rfl (ai rfl (ai rfl rfl)))) rfl) (g9 rfl)
end
abbrev hV:Ro->Bool
 |.kind _ _=>ac
 | _=>ag
abbrev rwF(C:List Kd)(r:Ro):List PR:=((nbw C (roP r) []).filter λn=>!fB n (roB r)).flatMap λn=>rbF C n r
abbrev rsF(C:List Kd)(rs:List Ro):List PR:=rs.flatMap λr=>if hV r then [] else rwF C r
structure RwK(C:List Kd)(r:Ro):Prop where
 p:PsK C (roP r)
 d:(vrs (roP r)).Nodup
 b:(roB r).length<=1000
 k:∀n∈nbw C (roP r) [],fB n (roB r)=ag->RoK C n r/\n.length<=100
def nKd(r:Ro)(a b c:Sl):mB (m2 dNe (mIx (au 3) (kI 0)) (kSt "kind")) [a,b,c,.im r.toD,.no]=aa (!hV r)/\∀z:Sl,mB (m2 dNe (mIx (au 3) (kI 0)) (kSt "kind")) [a,b,c,.im r.toD,z]=aa (!hV r):=by
 have h:∀z:Sl,mB (m2 dNe (mIx (au 3) (kI 0)) (kSt "kind")) [a,b,c,.im r.toD,z]=aa (!hV r):=λz=>by
  cases r with
  |kind n ns=>exact aY (aA (aw rfl rfl rfl) rfl rfl)
  |rule b t bd ps=>exact aY (aA (aw rfl rfl rfl) rfl (by cases b <;> rfl))
  |choose lo hi its ov bd ps=>exact aY (aA (aw rfl rfl rfl) rfl rfl)
  |never bd ps=>exact aY (aA (aw rfl rfl rfl) rfl rfl)
 exact⟨h _,h⟩
def Kc(r:Ro)(d:hV r=ag)(a b c z:Sl):mIx (au 3) (m1 jB (kI 1)) [a,b,c,.im r.toD,z]=aa (.lst ((roP r).map prD))/\mIx (au 3) (m1 jB (kI 2)) [a,b,c,.im r.toD,z]=aa (.lst ((roB r).map Pa.toD)):=by
 cases r with
 |kind n ns=>nomatch d
 |rule b t bd ps=>exact⟨aw rfl rfl rfl,aw rfl rfl rfl⟩
 |choose lo hi its ov bd ps=>exact⟨aw rfl rfl rfl,aw rfl rfl rfl⟩
 |never bd ps=>exact⟨aw rfl rfl rfl,aw rfl rfl rfl⟩
def Uj(nd:(C.map (·.1)).Nodup)(I:C.length<=1000)(rs:List Ro)(N:rs.length<=1000)(h:∀r∈rs,hV r=ag->RwK C r)(i:(rsF C rs).length<=400):C9 [.lst (rs.map Ro.toD),.lst (C.map kdD)]=aa (.lst ((rsF C rs).map PR.toD)):=by
 apply bK;unfold xf;show wp _ [.im (.lst (rs.map Ro.toD)),.im (.lst (C.map kdD)),.no,.no,.no] _;apply ak;refine fO (d:=[]) rfl ?_;show wp _ [.im (.lst (rs.map Ro.toD)),.im (.lst (C.map kdD)),.own [],.no,.no] _;apply ak;refine eY rs Ro.toD (λpre U=>∃v c,U=[.im (.lst (rs.map Ro.toD)),.im (.lst (C.map kdD)),.own ((rsF C pre).map PR.toD),v,c]) (b8 rfl rfl) ⟨_,_,rfl⟩ ?_ ?_
 .rintro pre r post U H ⟨v,c,rfl⟩;refine⟨_,rfl,?_⟩;show wp _ [.im (.lst (rs.map Ro.toD)),.im (.lst (C.map kdD)),.own ((rsF C pre).map PR.toD),.im r.toD,c] _;have s:r∈rs:=by rw[H];simp
  have es:∀x,rsF C (pre++[x])=rsF C pre++if hV x then [] else rwF C x:=λx=>by unfold rsF;rw[gX];simp
  refine aX ((nKd r _ _ _).2 _) (λe=>?_) λe=>bm ?_
  .have g:hV r=ag:=by simpa using e
   have u:=h r s g;have M:=Ka u.p []
   have l:(rsF C pre).length+(rwF C r).length<=400:=by
    have J:rsF C rs=rsF C (pre++[r])++rsF C post:=by rw[H];unfold rsF;rw[<- gX];simp
    rw[J,aI,es,g,aI]at i;have:(if ag=ac then ([]:List PR) else rwF C r)=rwF C r:=rfl;rw[this]at i;lia
   have w:=J2 nd I u.p (n:=[]) (d:=.dic [] []) rfl (by simpa using u.d) (by simp);refine eY (nbw C (roP r) []) asD (λj U=>∃c,U=[.im (.lst (rs.map Ro.toD)),.im (.lst (C.map kdD)),.own ((rsF C pre++(j.filter λn=>!fB n (roB r)).flatMap λn=>rbF C n r).map PR.toD),.im r.toD,c]) (b8 (aS (ai (Kc r g _ _ _ _).1 (ai rfl (ai rfl rfl))) w) rfl) ⟨c,by simp⟩ ?_ ?_
   .rintro j n m U t ⟨c,rfl⟩;refine⟨_,rfl,?_⟩;show wp _ [.im (.lst (rs.map Ro.toD)),.im (.lst (C.map kdD)),.own ((rsF C pre++(j.filter λn=>!fB n (roB r)).flatMap λn=>rbF C n r).map PR.toD),.im r.toD,.im (asD n)] _;have B:n∈nbw C (roP r) []:=by rw[t];simp
    have o:ji (asD n) n:=rfl;refine aX (b:=!fB n (roB r)) (sv (il (aS (ai (Kc r g _ _ _ _).2 (ai rfl rfl)) (Uf o (roB r) u.b)) rfl)) (λe=>?_) λe=>bm ⟨.im (asD n),?_⟩
    .have f:fB n (roB r)=ag:=by simpa using e
     obtain⟨E,A⟩:=u.k n B f
     have G:((j++[n]).filter λn=>!fB n (roB r)).flatMap (λn=>rbF C n r)=(j.filter λn=>!fB n (roB r)).flatMap (λn=>rbF C n r)++rbF C n r:=by
      rw[filter_append,gX];simp[f]
     have q:(rsF C pre++(j.filter λn=>!fB n (roB r)).flatMap λn=>rbF C n r).length+(rbF C n r).length<=400:=by
      have L:rwF C r=((j++[n]).filter λn=>!fB n (roB r)).flatMap (λn=>rbF C n r)++(m.filter λn=>!fB n (roB r)).flatMap (λn=>rbF C n r):=by
       unfold rwF;rw[t,<- gX,<- filter_append];simp
      rw[L,G,aI,aI]at l;rw[aI];lia
     rw[G,<- cL];generalize (rsF C pre++(j.filter λn=>!fB n (roB r)).flatMap λn=>rbF C n r)=R at q;apply ak;have y:∀a b,r≠.kind a b:=λa b z=>by rw[z]at g;nomatch g
     refine uh (aS (ai rfl (ai rfl (ai rfl rfl))) (Ui nd I o A r y E)) rfl (by rw[ay,ay];lia) ?_;rw[<- bF];refine kE (Ec (ai rfl (ai rfl (ai rfl rfl))) (J9 (R++rbF C n r) PR.toD 400 "rules" (by rw[aI];lia))) ⟨_,rfl⟩
    .have f:fB n (roB r)=ac:=by simpa using e
     rw[filter_append];simp[f]
   .rintro U ⟨c,rfl⟩;refine⟨.im r.toD,c,?_⟩;rw[es,g];rfl
  .have g:hV r=ac:=by simpa using e
   refine⟨.im r.toD,c,?_⟩;rw[es,g];show _=[.im (.lst (rs.map Ro.toD)),.im (.lst (C.map kdD)),.own ((rsF C pre++[]).map PR.toD),.im r.toD,c];rw[cr]
 .rintro U ⟨v,c,rfl⟩;exact n5 rfl (g9 rfl)
abbrev ppT:PP->L2N
 |.i t=>[t]
 |.o t=>[t]
 |.c _ _ its=>its.map (·.1)
abbrev prT(r:PR):L2N:=r.h.toList++r.b.flatMap ppT
def Ke(p:PP)(U:LS)(i:Nat)(h:U[i]?=aa (.im p.toD)):mB (m2 dIn (mIx (au i) (kI 0)) (bJ (af (kSt "in") (af (kSt "out") nZ)))) U=aa (match p with |.c _ _ _=>ag | _=>ac):=by
 have a:au i U=kh p.toD:=by unfold au;rw[h]
 cases p with
 |i t=>exact aY (aA (x:=.str "in") (aw (ds:=[.str "in",sT t]) (a.trans rfl) rfl rfl) rfl rfl)
 |o t=>exact aY (aA (x:=.str "out") (aw (ds:=[.str "out",sT t]) (a.trans rfl) rfl rfl) rfl rfl)
 |c w n its=>exact aY (aA (x:=.str (if w then "least" else "most")) (aw (ds:=[.str (if w then "least" else "most"),.int n,.lst (its.map tiD)]) (a.trans rfl) rfl rfl) rfl (by cases w <;> rfl))
def Uk(r:PR)(H:r.b.length<=1000)(hi:∀p∈r.b,(ppT p).length<=1000):C0 [r.toD]=aa (.lst ((prT r).map sT)):=by
 apply bK;unfold wU;show wp _ [.im r.toD,.no,.no] _;apply ak;refine fO (d:=r.h.toList.map sT) ?_ ?_
 .obtain⟨w,h,b⟩:=r
  cases h with
  |none=>
   unfold oz;rw[aY (b:=ac) (aA (aw rfl rfl rfl) rfl rfl)]
   rfl
  |some t=>
   unfold oz;rw[aY (b:=ag) (aA (aw rfl rfl rfl) rfl rfl)];show af (mIx (au 0) (kI 1)) nZ [.im (PR.toD ⟨w,aa t,b⟩),.no,.no]=_;exact ai (aw rfl rfl rfl) rfl
 show wp _ [.im r.toD,.own (r.h.toList.map sT),.no] _;apply ak;refine eY r.b PP.toD (λpre U=>∃g,U=[.im r.toD,.own ((r.h.toList++pre.flatMap ppT).map sT),g]) (b8 (aw rfl rfl rfl) rfl) ⟨.no,by simp⟩ ?_ ?_
 .rintro pre p post U j ⟨g,rfl⟩;refine⟨_,rfl,?_⟩
  have a:(r.h.toList++pre.flatMap ppT).length<=1+1000*1000:=by
   have E:r.h.toList.length<=1:=by cases r.h <;> simp
   have v:∀l:List PP,(∀p∈l,(ppT p).length<=1000)->(l.flatMap ppT).length<=l.length*1000:=λl=>by
    induction l with
    |nil=>intro _;simp
    |cons x l C=>
     intro h;rw[iQ,aI,bg,qW];have:=h x bB;have:=C λy s=>h y (cD _ s);lia
   have G:=v pre λy s=>hi y (by rw[j];simp[s]);have A:pre.length<=1000:=by have:=congrArg fG j;rw[aI]at this;lia
   rw[aI];have:=yZ 1000 A;lia
  have B:=hi p (by rw[j];simp);have u:r.h.toList++(pre++[p]).flatMap ppT=(r.h.toList++pre.flatMap ppT)++ppT p:=by rw[gX];simp
  rw[u];generalize r.h.toList++pre.flatMap ppT=T at a;show wp _ [.im r.toD,.own (T.map sT),.im p.toD] _;refine aX (Ke p _ 2 rfl) (λe=>?_) λe=>?_
  .cases p with
   |i t=>exact jG (d:=sT t) (aw rfl rfl rfl) rfl (by rw[ay];lia) ⟨.im (PP.toD (.i t)),by rw[bF];rfl⟩
   |o t=>exact jG (d:=sT t) (aw rfl rfl rfl) rfl (by rw[ay];lia) ⟨.im (PP.toD (.o t)),by rw[bF];rfl⟩
   |c w n its=>nomatch e
  .cases p with
   |i t=>nomatch e
   |o t=>nomatch e
   |c w n its=>
    have m:its.length<=1000:=by have:(its.map (·.1)).length<=1000:=B;rwa [ay]at this
    exact uh (ds:=(its.map (·.1)).map sT) (b6 (qz (W3:=its) (f:=tiD) (q:=(·.1)) (b8 (aw rfl rfl rfl) rfl) (λz=>⟨_,rfl⟩) m)) rfl (by rw[ay,ay,ay];lia) ⟨.im (PP.toD (.c w n its)),by rw[bF];rfl⟩
 .rintro U ⟨g,rfl⟩;exact n5 rfl (g9 rfl)
abbrev gk(a:L2N)(t:LN):L2N:=if t∈a then a else a++[t]
abbrev tbF(a:L2N):L2N:=a.foldl gk []
abbrev tK(a:L2N):List Key:=a.map λt=>.inr (tx t)
abbrev tV(a:L2N):LD:=(cW a.length).map λ(i:Nat)=>D.int i
def Ul(a:L2N)(b:L2N)(t:LN):(b++[t]).foldl gk a=gk (b.foldl gk a) t:=by rw[foldl_append];rfl
def um(f:L2N):∀d:L2N,d.Nodup->(f.foldl gk d).Nodup/\(∀t,t∈f.foldl gk d↔t∈d\/t∈f)/\d.length<=(f.foldl gk d).length:=by
 induction f with
 |nil=>exact λd h=>⟨h,λt=>by simp,bh _⟩
 |cons x f j=>
  intro d h
  have g:(gk d x).Nodup/\(∀t,t∈gk d x↔t∈d\/t=x)/\d.length<=(gk d x).length:=by
   unfold gk;split
   .rename_i hm;exact⟨h,λt=>⟨.inl,λz=>z.elim id λe=>by rw[e];exact hm⟩,bh _⟩
   .rename_i hm;refine⟨jY.mpr ⟨h,by simp,λa ha b i e=>?_⟩,λt=>by simp,by simp⟩;rw[bi.mp i]at e;rw[e]at ha;exact hm ha
  obtain⟨a,b,c⟩:=j (gk d x) g.1;refine⟨a,λt=>?_,cP g.2.2 c⟩;rw[foldl_cons,b t,g.2.1 t,bZ,or_assoc]
def Um(a:L2N)(t:LN):nX (tK a) (.inr (tx t))=decide (t∈a):=by
 apply iA.mpr;unfold nX tK;rw[any_map,any_eq_true,decide_eq_true_eq];constructor
 .rintro⟨x,b,e⟩;have:=gM (va (of_decide_eq_true e));rw[<- this];exact b
 .exact λh=>⟨t,h,decide_eq_true rfl⟩
def Uo(c:L2N)(t:LN)(g:c.length<=100000)(a b:Sl)(K:Fl->Prop)(k:K (.nx [a,.ownd (tK (gk c t)) (tV (gk c t)),b,.im (sT t)])):wp (sW 1 (ae 3) (mT (jy 1))) [a,.ownd (tK c) (tV c),b,.im (sT t)] K:=by
 refine⟨_,?_,k⟩;unfold sW;show(if nX (tK c) (.inr (tx t))=ac then aa (Fl.nx [a,.ownd (tK c) (tV c),b,.im (sT t)]) else if (tK c).length<16777216 then aa (Fl.nx [a,.ownd (tK c++[.inr (tx t)]) (tV c++[.int ((tK c).length:Nat)]),b,.im (sT t)]) else ab)=_;rw[Um];unfold gk
 by_cases h:t∈c
 .rw[if_pos (decide_eq_true h),if_pos h]
 .rw[if_neg (by rw[decide_eq_false h];exact cq),if_neg h];have d:(tK c).length=c.length:=by unfold tK;rw[ay]
  rw[d,if_pos (by lia)];have e:tK (c++[t])=tK c++[.inr (tx t)]:=by unfold tK;rw[bF];rfl
  have f:tV (c++[t])=tV c++[.int (c.length:Nat)]:=by
   unfold tV;rw[aI,e7,range_succ,bF];rfl
  rw[e,f]
def Up(rs:List PR)(v:rs.length<=1000)(s:∀r∈rs,r.b.length<=1000/\∀p∈r.b,(ppT p).length<=1000)(d:(tbF (rs.flatMap prT)).length<=60):C1 [.lst (rs.map PR.toD)]=aa (.kd (tK (tbF (rs.flatMap prT))) (tV (tbF (rs.flatMap prT)))):=by
 apply bK;unfold wV;show wp _ [.im (.lst (rs.map PR.toD)),.no,.no,.no] _;apply ak;refine mL (o:=.nx [.im (.lst (rs.map PR.toD)),.ownd (tK (tbF [])) (tV (tbF [])),.no,.no]) rfl ?_
 have f:∀a b:L2N,rs.flatMap prT=a++b->(tbF a).length<=60:=λa b e=>by
  rw[e]at d;unfold tbF at d ⊢;rw[foldl_append]at d;have:=(um b (a.foldl gk []) (um a [] gp).1).2.2;lia
 apply ak;refine eY rs PR.toD (λpre U=>∃i c,U=[.im (.lst (rs.map PR.toD)),.ownd (tK (tbF (pre.flatMap prT))) (tV (tbF (pre.flatMap prT))),i,c]) (b8 rfl rfl) ⟨_,_,rfl⟩ ?_ ?_
 .rintro pre r post U l ⟨i,c,rfl⟩;refine⟨_,rfl,?_⟩;obtain⟨m,n⟩:=s r (by rw[l];simp);refine eY (prT r) sT (λg U=>∃c,U=[.im (.lst (rs.map PR.toD)),.ownd (tK (tbF (pre.flatMap prT++g))) (tV (tbF (pre.flatMap prT++g))),.im r.toD,c]) (b8 (aS (ai rfl rfl) (Uk r m n)) rfl) ⟨_,by rw[cr];rfl⟩ ?_ ?_
  .rintro g t h U j ⟨c,rfl⟩;refine⟨_,rfl,?_⟩;have w:=f (pre.flatMap prT++g) (t::h++post.flatMap prT) (by rw[l,gX,iQ,j];simp);refine Uo (tbF (pre.flatMap prT++g)) t (by lia) _ _ _ ⟨.im (sT t),?_⟩;rw[<- cL];show _=[_,Sl.ownd (tK ((pre.flatMap prT++g++[t]).foldl gk [])) (tV ((pre.flatMap prT++g++[t]).foldl gk [])),_,_];rw[Ul];rfl
  .rintro U ⟨c,rfl⟩;refine⟨.im r.toD,c,?_⟩;rw[gX];simp
 .rintro U ⟨i,c,rfl⟩;generalize u:tbF (rs.flatMap prT)=T at d;apply ak;refine Hm (C:=tK T) (M:=tV T) rfl ?_;show wp _ [.im (.lst (rs.map PR.toD)),.im (.kd (tK T) (tV T)),i,c] _
  have q:qi [.kd (tK T) (tV T),.int 60,.str "things"]=aa .non:=by
   apply bK;show wp _ [.im (.kd (tK T) (tV T)),.im (.int 60),.im (.str "things")] _
   have e:pE (aJ cY (af (ae 0) nZ)) (mT (ae 0)) [.im (.kd (tK T) (tV T)),.im (.int 60),.im (.str "things")]=aa (.int (T.length:Nat)):=by
    show aa (D.int ((tK T).length:Nat))=_;unfold tK;rw[ay]
   refine aX (aY (aA e rfl jH)) (λz=>?_) λ_=>bm ⟨_,rfl,rfl⟩;have:=of_decide_eq_true z;lia
  refine kE (aS (ai rfl (ai rfl (ai rfl rfl))) q) ?_;refine⟨_,rfl,b9 rfl⟩
abbrev pos(a:L2N)(t:LN):Nat:=a.idxOf t
def Kf(t:LN):∀(b:L2N) (M:LD),b.length=M.length->t∈b->iL (tK b) M (.inr (tx t))=M[b.idxOf t]?
 | [],_,_,h=>(cO h).elim
 |a::b,[],hl,_=>by simp at hl
 |a::b,x::M,hl,h=>by
  have c:=Kf t b M (by simpa using hl);unfold iL tK at c ⊢;rw[eL,iP,find?_cons,idxOf_cons]
  by_cases e:a=t
  .subst e;simp
  .rw[decide_eq_false (λz=>e (gM (va z))),beq_eq_false_iff_ne.mpr e];show Option.map _ (List.find? _ _)=_;rw[c ((bZ.mp h).resolve_left (cE e))];simp
variable{tb:L2N}{t:LN}
def ixT(h:t∈tb):jK (.kd (tK tb) (tV tb)) (sT t)=aa (.int (pos tb t:Nat)):=by
 show iL (tK tb) (tV tb) (.inr (tx t))=_;have a:tb.idxOf t<tb.length:=idxOf_lt_length_of_mem h;rw[Kf t tb (tV tb) (by unfold tV;rw[ay,e8]) h];unfold tV;rw[gf,yV a];rfl
nonrec def niD(tb:L2N)(z:LN×Int):D:=.tup [.int (pos tb z.1:Nat),.int z.2]
nonrec def PP.nD(tb:L2N):PP->D
 |.i t=>.tup [.str "in",.int (pos tb t:Nat)]
 |.o t=>.tup [.str "out",.int (pos tb t:Nat)]
 |.c w n its=>.tup [.str (if w then "least" else "most"),.int n,.lst (its.map (niD tb))]
nonrec def hnD(tb:L2N):Option LN->D
 |none=>.non
 |some t=>.int (pos tb t:Nat)
nonrec def PR.nD(tb:L2N)(r:PR):D:=.tup [.str r.w,hnD tb r.h,.lst (r.b.map (PP.nD tb))]
def Uq(tb:L2N)(p:PP)(h:∀t∈ppT p,t∈tb)(a:(ppT p).length<=1000):CW [p.toD,.kd (tK tb) (tV tb)]=aa (p.nD tb):=by
 apply bK;unfold wS;show wp _ [.im p.toD,.im (.kd (tK tb) (tV tb))] _;apply ak;refine aX (Ke p _ 0 rfl) (λe=>?_) λe=>bm ?_
 .cases p with
  |i t=>exact cB (cH (ai (aw rfl rfl rfl) (ai (aA rfl (aw rfl rfl rfl) (ixT (h t (by simp[ppT])))) rfl))) (b9 rfl)
  |o t=>exact cB (cH (ai (aw rfl rfl rfl) (ai (aA rfl (aw rfl rfl rfl) (ixT (h t (by simp[ppT])))) rfl))) (b9 rfl)
  |c w n its=>nomatch e
 .cases p with
  |i t=>nomatch e
  |o t=>nomatch e
  |c w n its=>
   have b:its.length<=1000:=by have:(its.map (·.1)).length<=1000:=a;rwa [ay]at this
   refine cB (cH (ai (aw rfl rfl rfl) (ai (aw rfl rfl rfl) (ai (b6 (fZ its tiD (niD tb) (b8 (aw rfl rfl rfl) rfl) (by lia) λz hz=>?_)) rfl)))) (b9 rfl);exact fu rfl rfl (cH (ai (aA rfl rfl (ixT (h z.1 (bp.mpr ⟨z,hz,rfl⟩)))) (ai rfl rfl)))
def Ur(tb:L2N)(r:PR)(h:∀t∈prT r,t∈tb)(f:r.b.length<=1000)(c:∀p∈r.b,(ppT p).length<=1000):CY [r.toD,.kd (tK tb) (tV tb)]=aa (r.nD tb):=by
 apply bK;unfold wT;show wp _ [.im r.toD,.im (.kd (tK tb) (tV tb)),.no] _;apply ak;refine cf (d:=hnD tb r.h) ?_ ?_
 .obtain⟨w,hd,b⟩:=r;unfold vIf
  cases hd with
  |none=>rw[aY (b:=ac) (aA (aw rfl rfl rfl) rfl rfl)];rfl
  |some t=>
   rw[aY (b:=ag) (aA (aw rfl rfl rfl) rfl rfl)];show m2 jK (ae 1) (mIx (au 0) (kI 1)) [.im (PR.toD ⟨w,aa t,b⟩),.im (.kd (tK tb) (tV tb)),.no]=_;exact aA rfl (aw rfl rfl rfl) (ixT (h t (by simp[prT])))
 exact cB (cH (ai (aw rfl rfl rfl) (ai rfl (ai (b6 (fZ r.b PP.toD (PP.nD tb) (b8 (aw rfl rfl rfl) rfl) (by lia) λp a=>fu rfl rfl (aS (ai rfl (ai rfl rfl)) (Uq tb p (λt e=>h t (cM.mpr (.inr (f8.mpr ⟨p,a,e⟩)))) (c p a))))) rfl)))) (b9 rfl)
abbrev plR(rs:List Ro):List PR:=rsF (dJ rs) rs
abbrev plT(rs:List Ro):L2N:=tbF ((plR rs).flatMap prT)
nonrec def plD(rs:List Ro):D:=.tup [.lst ((plT rs).map sT),.tup [.int ((plT rs).length:Nat),.lst ((plR rs).map (PR.nD (plT rs)))]]
structure PlK(rs:List Ro):Prop where
 g:yq rs
 l:rs.length<=1000
 n:((dJ rs).map (·.1)).Nodup
 k:∀r∈rs,hV r=ag->RwK (dJ rs) r
 r:(plR rs).length<=400
 b:∀r∈plR rs,r.b.length<=1000/\∀p∈r.b,(ppT p).length<=1000
 t:(plT rs).length<=60
def Kg(rs:List Ro)(h:PlK rs):tN [.lst (rs.map Ro.toD)]=aa (plD rs):=by
 apply bK;unfold xg;show wp _ [.im (.lst (rs.map Ro.toD)),.no,.no] _;have e:=JV rs;have i:=h.l;have a:=h.r;apply ak;refine cf (d:=.lst ((plR rs).map PR.toD)) (aS (ai rfl (ai (aS (ai rfl rfl) (T6 rs h.g h.l)) rfl)) (Uj h.n (by lia) rs h.l h.k h.r)) ?_;show wp _ [.im (.lst (rs.map Ro.toD)),.im (.lst ((plR rs).map PR.toD)),.no] _;apply ak;refine cf (d:=.kd (tK (plT rs)) (tV (plT rs))) (aS (ai rfl rfl) (Up (plR rs) (by lia) h.b h.t)) ?_;show wp _ [.im (.lst (rs.map Ro.toD)),.im (.lst ((plR rs).map PR.toD)),.im (.kd (tK (plT rs)) (tV (plT rs)))] _;have c:∀r∈plR rs,∀t∈prT r,t∈plT rs:=λr a t f=>((um ((plR rs).flatMap prT) [] gp).2.1 t).mpr (.inr (f8.mpr ⟨r,a,f⟩));refine cB (cH (ai (d:=.lst ((plT rs).map sT)) (b6 ?_) (ai (cH (ai (d:=.int ((plT rs).length:Nat)) ?_ (ai (b6 (fZ (plR rs) PR.toD (PR.nD (plT rs)) (b8 rfl rfl) (by lia) λr a=>fu rfl rfl (aS (ai rfl (ai rfl rfl)) (Ur (plT rs) r (c r a) (h.b r a).1 (h.b r a).2)))) rfl))) rfl))) (b9 rfl)
 .show aa ((tK (plT rs)).map kD)=_;unfold tK;rw[map_map];rfl
 .show aa (D.int ((tK (plT rs)).length:Nat))=_;unfold tK;rw[ay]
abbrev dC(n:Int):Prop:=-(10 ^ 30)<n/\n<10 ^ 30
abbrev bO(n:Int):LN:=(nF (lq n)).cps.toList
def Kh(n:Int):nF (lq n)=tx (bO n):=(mW _).symm
def yu(m:Nat):bO (-((m+1:Nat):Int))=45::bO ((m+1:Nat):Int):=by
 unfold bO;have e:lq (-((m+1:Nat):Int))="-" ++ Nat.repr (m+1):=rfl;rw[e,zr,signs_ofString,String.toList_append,bF,Nat.toList_repr];rfl
def yv(m:Nat)(h:(m:Int)<10 ^ 30):0<(bO (m:Int)).length/\(bO (m:Int)).length<=30:=by
 have a:=toString_length_le (v:=(m:Int)) (by lia) (k:=30) (by decide) h;have e:(nF (lq (m:Int))).length=(bO (m:Int)).length:=rfl;refine⟨?_,by rw[<- e];exact a⟩;unfold bO;rw[zr,ay];exact jW.mpr Nat.toDigits_ne_nil
variable{n:Int}
def lT(h:dC n):0<(bO n).length/\(bO n).length<=31:=by
 obtain⟨c,a⟩:=h
 by_cases b:0<=n
 .obtain⟨m,rfl⟩:∃m:Nat,n=m:=⟨n.toNat,by lia⟩;have:=yv m a;lia
 .obtain⟨m,rfl⟩:∃m:Nat,n=-((m+1:Nat):Int):=⟨(-n).toNat-1,by lia⟩;have:=yv (m+1) (by lia);rw[yu,bg];lia
def Ki(h:dC n):n.natAbs.log2<1920:=by
 obtain⟨c,d⟩:=h
 have b:n.natAbs<2 ^ 100:=by
  have:(10:Int) ^ 30<2 ^ 100:=by decide
  lia
 by_cases a:n.natAbs=0
 .rw[a];decide
 .have:=(Nat.log2_lt a).mpr b;lia
def Em(h:dC n):jM (.int n)=aa (.str (tx (bO n))):=by
 show(if n.natAbs.log2<1920 then aa (D.str (nF (lq n))) else ab)=_;rw[if_pos (Ki h),Kh]
def blT:(" ":Str)=tx [32]:=by decide +kernel
def Ut(h:f U=aa (.int n))(hn:dC n)(a:g U=aa zs):mFv f g U=aa (tx (bO n)::zs):=by
 unfold mFv;rw[h,aG];show(if n.natAbs.log2<1920 then aa (nF (lq n)) else ab).bind _=_;rw[if_pos (Ki hn),aG,a,Kh];rfl
abbrev cw(z:Str):LN:=z.cps.toList
def cwT(z:Str):z=tx (cw z):=(mW z).symm
def cwD(z:Str):D.str z=sT (cw z):=by show D.str z=D.str (tx (cw z));rw[<- cwT]
abbrev gO(w:LN)(t:LN):L2N:=if t=[] then [] else [w,t]
def Kj(w t:LN)(h:t.length<=100000):oG [.str (tx w),.str (tx t)]=aa (.lst ((gO w t).map sT)):=by
 apply bK;unfold xL;refine lC (d:=(gO w t).map sT) ?_ (g9 rfl);unfold oz;rw[il (b:=decide (0<t.length)) rfl (J5 t h)];unfold gO
 by_cases z:t=[]
 .rw[if_pos z,z];rfl
 .rw[if_neg z,decide_eq_true (jW.mpr z)];rfl
def En(w t:LN):(gO w t).length<=2/\dO (gO w t)<=w.length+t.length:=by
 unfold gO;split
 .exact⟨by decide,gg _⟩
 .exact⟨by show 2<=2;decide,by unfold dO;simp⟩
def Kk(a b:L2N):dO (a++b)=dO a+dO b:=by unfold dO;rw[bF,sum_append]
def jP(w:LN)(b:L2N):dO (w::b)=w.length+dO b:=by unfold dO;rw[eL,sum_cons]
def Uu(a b:L2N)(h:a.length+b.length<=1000):cv (.lst (a.map sT)) (.lst (b.map sT))=aa (.lst ((a++b).map sT)):=by
 show(if (a.map sT).length+(b.map sT).length<=16777216 then aa (D.lst (a.map sT++b.map sT)) else ab)=_;rw[ay,ay,if_pos (by lia),bF]
def yw{g:MF1}{a b:L2N}(c:f U=aa (.lst (a.map sT)))(d:g U=aa (.lst (b.map sT)))(e:a.length+b.length<=1000):fh f g U=aa ((a++b).map sT):=by
 rw[bF];exact uf c d (by rw[ay,ay];lia)
def csT:(", ":Str)=tx [44,32]:=by decide +kernel
def Uv:(" and ":Str)=tx [32,97,110,100,32]:=by decide +kernel
abbrev TxT(t:LN):Prop:=0<t.length/\t.length<=50
abbrev ItX(z:LN×Int):Prop:=TxT z.1/\dC z.2
abbrev PpX:PP->Prop
 |.i t=>TxT t
 |.o t=>TxT t
 |.c _ n its=>dC n/\(∀z∈its,ItX z)/\its.length<=27
abbrev BdX(b:List PP):Prop:=(∀p∈b,PpX p)/\b.length<=5
abbrev leS(w:Bool):Str:=if w then "least" else "most"
abbrev ruS(b:Bool):Str:=if b then "rule" else "may"
abbrev itX(z:LN×Int):LN:=if z.2=1 then z.1 else bO z.2++[32]++z.1
abbrev isX(its:List (LN×Int)):LN:=jn [44,32] (its.map itX)
abbrev ppL:PP->L2N
 |.i t=>[t]
 |.o t=>[cw "not",t]
 |.c w n its=>[cw (leS w),bO n,cw "of",isX its]
abbrev ppX(p:PP):LN:=jn [32] (ppL p)
abbrev bX(b:List PP):LN:=jn [32,97,110,100,32] (b.map ppX)
nonrec def txD(t:LN):D:=.tup [sT t,.lst []]
nonrec def rwD:PP->D
 |.i t=>.tup [.str "is",txD t]
 |.o t=>.tup [.str "not",txD t]
 |.c w n its=>.tup [.str (leS w),.int n,.lst (its.map λz=>.tup [txD z.1,.int z.2]),.lst []]
def Kl{z:LN×Int}(h:ItX z):0<(itX z).length/\(itX z).length<=83:=by
 have a:=h.1;have b:=lT h.2;unfold TxT at a;unfold itX;split
 .omega
 .simp only[aI,e7];lia
def Eo{its:List (LN×Int)}(h:∀z∈its,ItX z)(c:its.length<=27):(isX its).length<=2300/\dO (its.map itX)<=2241:=by
 have s:=qA 83 (its.map itX) λw b=>by obtain⟨p,a,rfl⟩:=bp.mp b;exact(Kl (h p a)).2
 have W6:=m3 [44,32] (its.map itX);rw[ay]at s W6;unfold isX;simp only[bg,gY]at W6;lia
variable{p:PP}
def Km(h:PpX p):(ppL p).length<=4/\dO (ppL p)<=2350/\0<(ppX p).length:=by
 have d:dO []=0:=rfl;have j:(cw "not").length=3:=by decide +kernel
 have l:(cw "of").length=2:=by decide +kernel
 cases p with
 |i t=>
  have h:TxT t:=h;unfold TxT at h;show[t].length<=4/\dO [t]<=_/\0<(jn [32] [t]).length;rw[jP,d]
  exact⟨by show 1<=4;lia,by lia,h.1⟩
 |o t=>
  have h:TxT t:=h;unfold TxT at h;show[cw "not",t].length<=4/\dO [cw "not",t]<=_/\0<(cw "not" ++ [32]++t).length;rw[jP,jP,d,aI,aI]
  exact⟨by show 2<=4;lia,by lia,by lia⟩
 |c w n its=>
  obtain⟨e,f,g⟩:=(show dC n/\(∀z∈its,ItX z)/\its.length<=27 from h);have a:=Eo f g;have b:=lT e
  have m:0<(cw (leS w)).length/\(cw (leS w)).length<=8:=by cases w <;> decide +kernel
  show[cw (leS w),bO n,cw "of",isX its].length<=4/\dO [cw (leS w),bO n,cw "of",isX its]<=_/\0<(cw (leS w)++[32]++jn [32] [bO n,cw "of",isX its]).length;rw[jP,jP,jP,jP,d,aI,aI];exact⟨by show 4<=4;lia,by lia,by lia⟩
def uo(h:PpX p):0<(ppX p).length/\(ppX p).length<=2360:=by
 obtain⟨a,b,c⟩:=Km h;have W6:=m3 [32] (ppL p);refine⟨c,?_⟩;unfold ppX;rw[e7]at W6;lia
def oP{b:List PP}(h:BdX b):(bX b).length<=11850/\dO (b.map ppX)<=11800:=by
 have s:=qA 2360 (b.map ppX) λw c=>by obtain⟨p,a,rfl⟩:=bp.mp c;exact(uo (h.1 p a)).2
 have W6:=m3 [32,97,110,100,32] (b.map ppX);have d:=h.2;rw[ay]at s W6;unfold bX;simp only[bg,gY]at W6;lia
def yx(t:LN)(h:TxT t):m_4 [txD t]=aa (sT t):=by
 unfold TxT at h;apply bK;unfold b_4;show wp _ [.im (txD t),.no,.no] _;apply ak;refine cf (d:=sT t) (aw rfl rfl rfl) ?_;apply ak;refine cf (d:=sT []) (aA (x:=.str (tx [44])) (by rw[cmT]) (aw rfl rfl rfl) (lS [44] [] (by decide) (by decide))) ?_;exact cB (d:=sT t) (vU (b:=ag) (il rfl rfl) (λe=>nomatch e) λ_=>rfl) (b9 rfl)
def Uw(z:LN×Int)(h:ItX z):xN [txD z.1,.int z.2]=aa (sT (itX z)):=by
 have a:=h.1;unfold TxT at a;have b:=lT h.2;apply bK;unfold xM;show wp _ [.im (txD z.1),.im (.int z.2),.no] _;apply ak;refine cf (aS rfl (yx z.1 h.1)) ?_;show wp _ [.im (txD z.1),.im (.int z.2),.im (sT z.1)] _;refine cB (d:=sT (itX z)) (vU (b:=z.2==1) (aY (aA rfl rfl (lB _ _))) (λe=>?_) λe=>?_) (b9 rfl)
 .have c:z.2=1:=by simpa using e
  unfold itX;rw[if_pos c];rfl
 .have c:¬z.2=1:=by simpa using e
  refine J4 (ws:=[bO z.2,[32],z.1]) (Ut rfl h.2 (Ei blT (Eh rfl (by lia) rfl))) ?_ ?_
  .unfold itX;rw[if_neg c];rfl
  .have:=(Kl h).2;lia
def Ep:tQ [.lst []]=aa (sT []):=by
 apply bK;unfold xO;exact cB (aA (x:=.str (tx [44,32])) (by rw[csT]) (b6 rfl) (lS [44,32] [] (by decide) (by decide))) (b9 rfl)
def Er(w:LN):oG [sT w,sT []]=aa (.lst []):=Kj w [] (by decide)
def Ux(its:List (LN×Int))(h:∀z∈its,ItX z)(e:its.length<=27):xQ [.lst (its.map λz=>.tup [txD z.1,.int z.2]),.lst []]=aa (.lst [sT (isX its)]):=by
 have g:=Eo h e;apply bK;unfold xP;show wp _ [.im (.lst (its.map λz=>.tup [txD z.1,.int z.2])),.im (.lst [])] _
 have b:bx 2 [] (bn (ae 0)) (cT (bo (aH 0) (bo (aH 1) cS))) kY (aJ xN (af (ae 0) (af (ae 1) nZ))) [.im (.lst (its.map λz=>.tup [txD z.1,.int z.2])),.im (.lst [])]=aa ((its.map itX).map sT):=by
  rw[map_map];exact fZ its (λz=>.tup [txD z.1,.int z.2]) _ rfl (by lia) λz hz=>fu rfl rfl (aS rfl (Uw z (h z hz)))
 have a:=aA (m:=hU) (x:=.str (tx [44,32])) (f:=λ_=>aa (.str ", ")) (by rw[csT]) (b6 b) (lS [44,32] (its.map itX) (by decide) (by rw[ay];lia));have c:(D.str "over")=sT (cw "over"):=cwD "over";refine lC (d:=[sT (isX its)]) ((uf (b6 (ai a rfl)) (aS (ai rfl (ai (aS rfl Ep) rfl)) (by rw[c];exact Er _)) (by show 1+0<=_;lia)).trans rfl) (g9 rfl)
def Uy(p:PP)(h:PpX p):xS [rwD p]=aa (sT (ppX p)):=by
 obtain⟨m,q,r⟩:=Km h;apply bK;unfold xR
 cases p with
 |i t=>
  show wp _ [.im (rwD (.i t)),.no] _;apply ak;refine cf (d:=.str "is") (aw rfl rfl rfl) ?_;apply ak;refine aX (b:=ac) rfl (λ_=>?_) λe=>by cases e
  exact cB (aS (ai (aw rfl rfl rfl) rfl) (yx t h)) (b9 rfl)
 |o t=>
  show wp _ [.im (rwD (.o t)),.no] _;apply ak;refine cf (d:=.str "not") (aw rfl rfl rfl) ?_;apply ak;refine aX (b:=ag) rfl (λe=>by cases e) λ_=>bm ?_;apply ak;refine aX (b:=ac) rfl (λ_=>?_) λe=>by cases e
  refine cB (d:=sT (ppX (.o t))) (aA (x:=.str (tx [32])) (y:=.lst ((ppL (.o t)).map sT)) (by rw[blT]) (b6 (ai (d:=.str "not") rfl (ai (aS (ai (aw rfl rfl rfl) rfl) (yx t h)) rfl)) |>.trans ?_) (lS [32] _ (by decide) (by lia))) (b9 rfl);show aa (D.lst [.str "not",sT t])=aa (D.lst [sT (cw "not"),sT t])
  rw[cwD]
 |c w n its=>
  obtain⟨g,j,l⟩:=(show dC n/\(∀z∈its,ItX z)/\its.length<=27 from h);show wp _ [.im (rwD (.c w n its)),.no] _;apply ak;refine cf (d:=.str (leS w)) (aw rfl rfl rfl) ?_;show wp _ [.im (rwD (.c w n its)),.im (.str (leS w))] _;apply ak
  refine aX (b:=ag) (by cases w <;> rfl) (λe=>by cases e) λ_=>bm ?_
  apply ak
  refine aX (b:=ag) (by cases w <;> rfl) (λe=>by cases e) λ_=>bm ?_
  apply ak
  refine aX (b:=ag) (by cases w <;> rfl) (λe=>by cases e) λ_=>bm ?_
  have a:aU (af (ae 1) (af (m1 jM (mIx (au 0) (kI 1))) (af (kSt "of") nZ))) [.im (rwD (.c w n its)),.im (.str (leS w))]=aa (.lst [.str (leS w),sT (bO n),.str "of"]):=by
   have f:m1 jM (mIx (au 0) (kI 1)) [.im (rwD (.c w n its)),.im (.str (leS w))]=aa (sT (bO n)):=by
    unfold m1;rw[show mIx (au 0) (kI 1) [.im (rwD (.c w n its)),.im (.str (leS w))]=aa (.int n)from aw rfl rfl rfl,aG,Em g]
   exact b6 (ai rfl (ai f (ai rfl rfl)))
  refine cB (d:=sT (ppX (.c w n its))) (aA (x:=.str (tx [32])) (y:=.lst ((ppL (.c w n its)).map sT)) (by rw[blT]) ((b6 (uf a (aS (ai (aw rfl rfl rfl) (ai (aw rfl rfl rfl) rfl)) (Ux its j l)) (by show 3+1<=_;lia))).trans ?_) (lS [32] _ (by decide) (by lia))) (b9 rfl);show aa (D.lst [.str (leS w),sT (bO n),.str "of",sT (isX its)])=aa (D.lst [sT (cw (leS w)),sT (bO n),sT (cw "of"),sT (isX its)]);rw[cwD (leS w),cwD "of"]
def Kn(b:List PP)(h:BdX b):xU [.lst (b.map rwD)]=aa (sT (bX b)):=by
 have hz:=oP h;have d:=h.2;apply bK;unfold xT;show wp _ [.im (.lst (b.map rwD))] _
 have a:bx 1 [] (bn (ae 0)) (aH 0) kY (aJ xS (af (ae 0) nZ)) [.im (.lst (b.map rwD))]=aa ((b.map ppX).map sT):=by
  rw[map_map];exact fZ b rwD _ rfl (by lia) λp c=>fu rfl rfl (aS rfl (Uy p (h.1 p c)))
 exact cB (aA (x:=.str (tx [32,97,110,100,32])) (by rw[Uv]) (b6 a) (lS _ (b.map ppX) (by decide) (by rw[ay];lia))) (b9 rfl)
def Uz(b:List PP)(h:BdX b):xW [.lst (b.map rwD),.lst []]=aa (.lst ((gO (cw "if") (bX b)).map sT)):=by
 have c:=oP h;apply bK;unfold xV;show wp _ [.im (.lst (b.map rwD)),.im (.lst [])] _;have d:=cwD "if";have a:=cwD "for";refine cB (aA (aS (ai rfl (ai (aS rfl (Kn b h)) rfl)) (by rw[d];exact Kj _ _ (by lia))) (aS (ai rfl (ai (aS rfl Ep) rfl)) (by rw[a];exact Er _)) ((Uu (gO (cw "if") (bX b)) [] (by have:=(En (cw "if") (bX b)).1;show _+0<=_;lia)).trans (by rw[cr]))) (b9 rfl)
abbrev neL(b:List PP):L2N:=[cw "never",bX b]
abbrev ruL(m:Bool)(t:LN)(b:List PP):L2N:=[cw (ruS m),t]++gO (cw "if") (bX b)
def UA(b:List PP)(h:BdX b):tU [.tup [.str "never",.lst (b.map rwD),.lst []]]=aa (sT (jn [32] (neL b))):=by
 have c:=oP h;have j:(cw "never").length=5:=by decide +kernel
 have i:=cwD "for"
 have g:xX [.tup [.str "never",.lst (b.map rwD),.lst []]]=aa (.lst [sT (bX b)]):=by
  apply bK;unfold tR;show wp _ [.im (.tup [.str "never",.lst (b.map rwD),.lst []]),.no,.no] _;apply ak;refine cf (d:=.str "never") (aw rfl rfl rfl) ?_;apply ak;refine aX (b:=ag) rfl (λe=>by cases e) λ_=>bm ?_;apply ak;refine aX (b:=ac) rfl (λ_=>?_) λe=>by cases e
  exact lC (yw (a:=[bX b]) (b:=[]) (b6 (ai (aS (ai (aw rfl rfl rfl) rfl) (Kn b h)) rfl)) (aS (ai rfl (ai (aS (ai (aw rfl rfl rfl) rfl) Ep) rfl)) (by rw[i];exact Er _)) (by show 1+0<=_;lia)) (g9 rfl)
 apply bK;unfold tS;have f:=cwD "never";refine cB (aA (x:=.str (tx [32])) (y:=.lst ((neL b).map sT)) (by rw[blT]) ((b6 (yw (a:=[cw "never"]) (b:=[bX b]) ((b6 (ai (aw rfl rfl rfl) rfl)).trans (by rw[f];rfl)) (aS rfl g) (by show 1+1<=_;lia))).trans rfl) (lS [32] _ (by decide) ?_)) (b9 rfl);unfold neL dO;simp only[eL,map_nil,sum_cons,sum_nil,bg,gY];lia
def UB(m:Bool)(t:LN)(g:TxT t)(b:List PP)(h:BdX b):tU [.tup [.str (ruS m),txD t,.lst (b.map rwD),.lst []]]=aa (sT (jn [32] (ruL m t b))):=by
 have c:=oP h;have f:=g;unfold TxT at f;have a:=En (cw "if") (bX b);have n:(cw "if").length=2:=by decide +kernel
 have l:(cw (ruS m)).length<=4:=by cases m <;> decide +kernel
 have j:xX [.tup [.str (ruS m),txD t,.lst (b.map rwD),.lst []]]=aa (.lst (([t]++gO (cw "if") (bX b)).map sT)):=by
  apply bK;unfold tR;show wp _ [.im (.tup [.str (ruS m),txD t,.lst (b.map rwD),.lst []]),.no,.no] _;apply ak;refine cf (d:=.str (ruS m)) (aw rfl rfl rfl) ?_;apply ak
  refine aX (b:=ag) (by cases m <;> rfl) (λe=>by cases e) λ_=>bm ?_
  apply ak
  refine aX (b:=ag) (by cases m <;> rfl) (λe=>by cases e) λ_=>bm ?_
  apply ak
  refine aX (b:=ag) (by cases m <;> rfl) (λe=>by cases e) λ_=>bm ?_
  exact lC (yw (a:=[t]) (b6 (ai (aS (ai (aw rfl rfl rfl) rfl) (yx t g)) rfl)) (aS (ai (aw rfl rfl rfl) (ai (aw rfl rfl rfl) rfl)) (Uz b h)) (by show 1+_<=_;lia)) (g9 rfl)
 apply bK;unfold tS;have i:=cwD (ruS m);refine cB (aA (x:=.str (tx [32])) (y:=.lst ((ruL m t b).map sT)) (by rw[blT]) ((b6 (yw (a:=[cw (ruS m)]) ((b6 (ai (aw rfl rfl rfl) rfl)).trans (by rw[i];rfl)) (aS rfl j) (by rw[aI];show 1+(1+_)<=_;lia))).trans rfl) (lS [32] _ (by decide) ?_)) (b9 rfl);unfold ruL;rw[Kk,jP,jP,aI,show dO []=0 from rfl];show _+(2+_)<=_;lia
def uq(h:t∈tb):atI (tb.map sT) (pos tb t:Nat)=aa (sT t):=by
 have a:tb.idxOf t<tb.length:=idxOf_lt_length_of_mem h;refine(O0 (f:=sT) (M:=tb) [] (by lia) (by unfold pos;lia)).trans ?_;rw[qO];unfold pos;rw[fF,dE a,List.getElem_idxOf];rfl
def yy(h:t∈tb):qp [.int (pos tb t:Nat),.lst (tb.map sT)]=aa (txD t):=OW (GT (cH (ai (aw rfl rfl (uq h)) (ai rfl rfl))))
def UC(tb:L2N)(p:PP)(h:∀t∈ppT p,t∈tb)(a:(ppT p).length<=1000):xK [p.nD tb,.lst (tb.map sT)]=aa (rwD p):=by
 apply bK;unfold xJ;show wp _ [.im (p.nD tb),.im (.lst (tb.map sT))] _
 cases p with
 |i t=>
  apply ak;refine aX (b:=ac) rfl (λ_=>?_) λe=>by cases e
  exact cB (cH (ai rfl (ai (aS (ai (aw rfl rfl rfl) (ai rfl rfl)) (yy (h t (by simp[ppT])))) rfl))) (b9 rfl)
 |o t=>
  apply ak;refine aX (b:=ag) rfl (λe=>by cases e) λ_=>bm ?_;apply ak;refine aX (b:=ac) rfl (λ_=>?_) λe=>by cases e
  exact cB (cH (ai rfl (ai (aS (ai (aw rfl rfl rfl) (ai rfl rfl)) (yy (h t (by simp[ppT])))) rfl))) (b9 rfl)
 |c w n its=>
  have d:its.length<=1000:=by have:(its.map (·.1)).length<=1000:=a;rwa [ay]at this
  apply ak
  refine aX (b:=ag) (by cases w <;> rfl) (λe=>by cases e) λ_=>bm ?_
  apply ak
  refine aX (b:=ag) (by cases w <;> rfl) (λe=>by cases e) λ_=>bm ?_
  refine cB (cH (ai (aw rfl rfl rfl) (ai (aw rfl rfl rfl) (ai (b6 (fZ its (niD tb) (λz=>.tup [txD z.1,.int z.2]) (b8 (aw rfl rfl rfl) rfl) (by lia) λz hz=>?_)) (ai rfl rfl))))) (b9 ?_)
  .exact fu rfl rfl (cH (ai (aS (ai rfl (ai rfl rfl)) (yy (h z.1 (bp.mpr ⟨z,hz,rfl⟩)))) (ai rfl rfl)))
  .cases w <;> rfl
inductive PrX:PR->LN->Prop
 |ne (b:List PP):b≠[]->BdX b->PrX ⟨"never",ab,b⟩ (jn [32] (neL b))
 |ru (m:Bool) (t:LN) (b:List PP):TxT t->BdX b->PrX ⟨if m then "make" else "may",aa t,b⟩ (jn [32] (ruL m t b))
def UD(tb:L2N)(r:PR)(x:LN)(n:PrX r x)(h:∀t∈prT r,t∈tb)(l:∀p∈r.b,(ppT p).length<=1000):DD [r.nD tb,.lst (tb.map sT)]=aa (sT x):=by
 have f:∀p∈r.b,∀t∈ppT p,t∈tb:=λp f t g=>h t (cM.mpr (.inr (f8.mpr ⟨p,f,g⟩)));have i:∀a:LS,r.b.length<=5->aU (bx 1 [1] (bn (mIx (au 0) (kI 2))) (aH 0) kY (aJ xK (af (ae 0) (af (ae 1) nZ)))) (.im (r.nD tb)::.im (.lst (tb.map sT))::a)=aa (.lst (r.b.map rwD)):=λa o=>b6 (fZ r.b (PP.nD tb) rwD (b8 (aw rfl rfl rfl) rfl) (by lia) λp j=>fu rfl rfl (aS (ai rfl (ai rfl rfl)) (UC tb p (f p j) (l p j))))
 cases n with
 |ne b _ c=>
  apply bK;unfold tW;show wp _ [.im (PR.nD tb ⟨"never",ab,b⟩),.im (.lst (tb.map sT)),.no,.no] _;apply ak;refine cf (d:=.lst (b.map rwD)) (i _ c.2) ?_;apply ak;refine aX (b:=ac) rfl (λ_=>?_) λe=>by cases e
  exact cB (aS (ai (cH (ai rfl (ai rfl (ai rfl rfl)))) rfl) (UA b c)) (b9 rfl)
 |ru m t b g c=>
  apply bK;unfold tW;show wp _ [.im (PR.nD tb ⟨if m then "make" else "may",aa t,b⟩),.im (.lst (tb.map sT)),.no,.no] _;apply ak;refine cf (d:=.lst (b.map rwD)) (i _ c.2) ?_;apply ak
  refine aX (b:=ag) (by cases m <;> rfl) (λe=>by cases e) λ_=>bm ?_
  apply ak
  refine cf (d:=.str (ruS m)) (by cases m <;> rfl) ?_
  exact cB (aS (ai (cH (ai rfl (ai (aS (ai (aw rfl rfl rfl) (ai rfl rfl)) (yy (h t (cM.mpr (.inl bB))))) (ai rfl (ai rfl rfl))))) rfl) (UB m t g b c)) (b9 rfl)
variable{K:Fl->Prop}
def Ko{f:Type}{m:D->LS->Option LS}(d:f)(g:f->D)(M:List f)(I:List f->LS->Prop)(e:fi U=aa [.lst (M.map g)])(o:I [] U)
 (t:∀pre x post U,M=pre++x::post->I pre U->∃ρ1,m (D.tup [.int (pre.length:Nat),g x]) U=aa ρ1/\wp F ρ1 (Av (I (pre++[x])) K))(s:∀ρ',I M ρ'->K (.nx ρ')):wp (dM (jE fi) m F) U K:=by
 refine eY (cW M.length) (λi=>D.tup [.int (i:Nat),g (M.getD i d)]) (λpre U=>I (M.take pre.length) U) (Pw d e) o ?_ ?_
 .intro pre i post U q n
  have hi:i=pre.length/\i<M.length:=by
   have p:(cW M.length)[pre.length]?=aa i:=by rw[q,l5 (bh _),Nat.sub_self];rfl
   obtain⟨l,e⟩:=dD.mp p;rw[List.getElem_range]at e;rw[e8]at l;lia
  obtain⟨c,j⟩:=hi;have r:M[i]?=aa (M.getD i d):=by rw[fF,dE j];rfl
  have htk:M.take (i+1)=M.take i++[M.getD i d]:=by rw[qS,r];rfl
  rw[<- c]at n
  obtain ⟨ρ1,a,b⟩:=t (M.take i) (M.getD i d) (M.drop (i + 1)) U (by
   rw[<- singleton_append,<- cL,<- htk,take_append_drop]) n
  rw[show(M.take i).length=i by rw[iR];lia]at a;refine⟨ρ1,a,?_⟩;rw[aI,show([i]:LN).length=1 from rfl,<- c,htk];exact b
 .intro ρ' h;rw[e8,take_length]at h;exact s _ h
def Kp(a:LN):∀(M b:L2N),M≠[]->b≠[]->jn a (M++b)=jn a M++a++jn a b
 | [],_,h,_=>absurd rfl h
 | [x],y::b,_,_=>rfl
 |x::z::r,b,_,h=>by
  show x++a++jn a (z::r++b)=_;rw[Kp a (z::r) b (by simp) h];show _=x++a++jn a (z::r)++a++jn a b;simp only[cL]
def Kq(a:LN)(M:L2N)(w:LN):jn a (M++[w])=if M=[] then w else jn a M++a++w:=by
 by_cases e:M=[]
 .rw[if_pos e,e];rfl
 .rw[if_neg e,Kp a M [w] e (by simp)];rfl
def UE(pre:List (LN×Int))(z:LN×Int):isX (pre++[z])=(isX pre++if pre=[] then [] else [44,32])++((if z.2=1 then [] else bO z.2++[32])++z.1):=by
 have a:itX z=(if z.2=1 then [] else bO z.2++[32])++z.1:=by unfold itX;split <;> rfl
 unfold isX;rw[bF,<- a];show jn [44,32] (pre.map itX++[itX z])=_;rw[Kq]
 by_cases q:pre=[]
 .rw[if_pos (by rw[q];rfl),if_pos q,q];rfl
 .rw[if_neg (by simpa using q),if_neg q]
def ofT:(" of ":Str)=tx ([32]++cw "of" ++ [32]):=by decide +kernel
def ntT:("not ":Str)=tx (cw "not" ++ [32]):=by decide +kernel
def UF(b:Bool):wu (.str ", ") (.int (if b then 1 else 0))=aa (sT (if b then [44,32] else [])):=by cases b <;> rfl
def UG(tb:L2N)(p:PP)(r:PpX p)(h:∀t∈ppT p,t∈tb):wK [p.nD tb,.lst (tb.map sT)]=aa (sT (ppX p)):=by
 have hz:=uo r;apply bK;unfold wJ;show wp _ [.im (p.nD tb),.im (.lst (tb.map sT)),.no,.no,.no] _
 cases p with
 |i t=>
  apply ak;refine aX (b:=ac) rfl (λ_=>?_) λe=>by cases e
  exact cB (aw rfl (aw rfl rfl rfl) (uq (h t (by simp[ppT])))) (b9 rfl)
 |o t=>
  have v:TxT t:=r;unfold TxT at v;apply ak;refine aX (b:=ag) rfl (λe=>by cases e) λ_=>bm ?_;apply ak;refine aX (b:=ac) rfl (λ_=>?_) λe=>by cases e
  exact cB (d:=sT (ppX (.o t))) (aA (x:=.str (tx (cw "not" ++ [32]))) (by rw[ntT]) (aw rfl (aw rfl rfl rfl) (uq (h t (by simp[ppT])))) (m4 _ _ (by have:(cw "not" ++ [32]).length=4:=(by decide +kernel);lia))) (b9 rfl)
 |c w n its=>
  obtain⟨B,C,h3⟩:=(show dC n/\(∀z∈its,ItX z)/\its.length<=27 from r);have z3:=lT B
  have z4:(cw (leS w)).length<=8:=by cases w <;> decide +kernel
  have c:([32]++cw "of" ++ [32]).length=4:=by decide +kernel
  apply ak
  refine aX (b:=ag) (by cases w <;> rfl) (λe=>by cases e) λ_=>bm ?_
  apply ak
  refine aX (b:=ag) (by cases w <;> rfl) (λe=>by cases e) λ_=>bm ?_
  have I:m1 jM (mIx (au 0) (kI 1)) [.im (PP.nD tb (.c w n its)),.im (.lst (tb.map sT)),.no,.no,.no]=aa (sT (bO n)):=by
   unfold m1;rw[show mIx (au 0) (kI 1) [.im (PP.nD tb (.c w n its)),.im (.lst (tb.map sT)),.no,.no,.no]=aa (.int n)from aw rfl rfl rfl,aG,Em B]
  have L:mIx (au 0) (kI 0) [.im (PP.nD tb (.c w n its)),.im (.lst (tb.map sT)),.no,.no,.no]=aa (sT (cw (leS w))):=by
   rw[show aa (sT (cw (leS w)))=aa (D.str (leS w)) by rw[cwD]]
   cases w <;> exact aw rfl rfl rfl
  generalize m:cw (leS w)++[32]++bO n++([32]++cw "of" ++ [32])=P
  have Y:P.length<=60:=by
   rw[<- m,aI,aI,aI];show _+1+_+_<=_;lia
  apply ak;refine cf (d:=sT (P++isX [])) ((aA (x:=sT (cw (leS w)++[32]++bO n)) (y:=sT ([32]++cw "of" ++ [32])) (aA (x:=sT (cw (leS w)++[32])) (aA (y:=.str (tx [32])) L (by rw[blT]) (m4 _ _ (by show _+1<=_;lia))) I (m4 _ _ (by rw[aI];show _+1+_<=_;lia))) (by rw[ofT]) (m4 _ _ (by rw[aI,aI];show _+1+_+_<=_;lia))).trans (by rw[m];show _=aa (sT (P++[]));rw[cr])) ?_;apply ak;refine Ko ([],0) (niD tb) its (λpre U=>∃j l,U=[.im (PP.nD tb (.c w n its)),.im (.lst (tb.map sT)),.im (sT (P++isX pre)),j,l]) (ai (aw rfl rfl rfl) rfl) ⟨_,_,rfl⟩ ?_ ?_
  .rintro pre z post U f ⟨j,l,rfl⟩;have hz:ItX z:=C z (by rw[f];simp);have u:∀y∈pre,ItX y:=λy hy=>C y (by rw[f];simp[hy]);have s:pre.length<=27:=by have:=congrArg fG f;rw[aI]at this;lia
   have b1:=Eo u s;have G:=hz.1;unfold TxT at G;have b3:=lT hz.2;have v:z.1∈tb:=h z.1 (bp.mpr ⟨z,by rw[f];simp,rfl⟩);refine⟨_,rfl,?_⟩;rw[UE,<- cL,<- cL]
   have H:decide (((pre.length:Nat):Int)>0)=!decide (pre=[]):=by
    cases pre with
    |nil=>rfl
    |cons a b=>rw[decide_eq_true (by rw[bg];lia)];rfl
   have J:(if (!decide (pre=[]))=ac then [44,32] else [])=if pre=[] then [] else ([44,32]:LN):=by by_cases q:pre=[] <;> simp[q]
   apply ak;generalize E:(if pre=[] then [] else ([44,32]:LN))=A
   have M:A.length<=2:=by rw[<- E];split <;> decide
   refine oJ (x:=sT (P++isX pre)) (d:=sT A) (z:=sT (P++isX pre++A)) rfl (aN (aA (y:=.int (if !decide (pre=[]) then 1 else 0)) rfl ?_ ((UF (!decide (pre=[]))).trans (by rw[J,E])))) (qB _ _ (by rw[aI];lia)) ?_
   .unfold jL;rw[aA rfl rfl jH,H];rfl
   show wp _ [.im (PP.nD tb (.c w n its)),.im (.lst (tb.map sT)),.im (sT (P++isX pre++A)),.im (.int (pre.length:Nat)),.im (niD tb z)] _;rw[<- cL P];generalize hQ:P++isX pre++A=Q;have hQl:Q.length<=3000:=by rw[<- hQ,aI,aI];lia
   refine kG (λU=>U=[.im (PP.nD tb (.c w n its)),.im (.lst (tb.map sT)),.im (sT (Q++if z.2=1 then [] else bO z.2++[32])),.im (.int (pre.length:Nat)),.im (niD tb z)]) ?_ ?_
   .refine aX (b:=!(z.2==1)) (aY (aA (aw rfl rfl rfl) rfl (GX _ _))) (λe=>?_) λe=>bm (k_J ?_)
    .have q:¬z.2=1:=by simpa using e
     refine oJ (x:=sT Q) (d:=sT (bO z.2++[32])) (z:=sT (Q++(bO z.2++[32]))) rfl (aN (aA (x:=sT (bO z.2)) (y:=.str (tx [32])) ?_ (by rw[blT]) (m4 _ _ (by show _+1<=_;lia)))) (qB _ _ (by rw[aI];show _+(_+1)<=_;lia)) (k_J ?_)
     .unfold m1;rw[show mIx (au 4) (kI 1) [.im (PP.nD tb (.c w n its)),.im (.lst (tb.map sT)),.im (sT Q),.im (.int (pre.length:Nat)),.im (niD tb z)]=aa (.int z.2)from aw rfl rfl rfl,aG,Em hz.2]
     .rw[if_neg q];rfl
    .have q:z.2=1:=by simpa using e
     rw[if_pos q,cr]
   .rintro U rfl;generalize N:(if z.2=1 then [] else bO z.2++[32])=g
    have T:g.length<=40:=by
     rw[<- N];split
     .exact gg _
     .rw[aI];show _+1<=_;lia
    refine oJ (x:=sT (Q++g)) (d:=sT z.1) (z:=sT (Q++g++z.1)) rfl (aN (aw rfl (aw rfl rfl rfl) (uq v))) (qB _ _ (by rw[aI];lia)) ⟨_,_,rfl⟩
  .rintro U ⟨j,l,rfl⟩;refine n4 rfl (b9 ?_);show sT (P++isX its)=sT (cw (leS w)++[32]++(bO n++[32]++(cw "of" ++ [32]++isX its)));rw[<- m];simp only[cL]
def UH(pre:List PP)(p:PP):bX (pre++[p])=if pre=[] then ppX p else bX pre++[32,97,110,100,32]++ppX p:=by
 unfold bX;rw[bF];show jn [32,97,110,100,32] (pre.map ppX++[ppX p])=_;rw[Kq]
 by_cases q:pre=[]
 .rw[if_pos (by rw[q];rfl),if_pos q]
 .rw[if_neg (by simpa using q),if_neg q]
abbrev tlX(w:LN)(b:List PP):LN:=if b=[] then [] else w++[32]++bX b
def UI:(" and":Str)=tx [32,97,110,100]:=by decide +kernel
def UJ:(" if":Str)=tx ([32]++cw "if"):=by decide +kernel
def Kr(tb:L2N)(b:List PP)(rD:D)(base w:LN)(m:Bool)(n:BdX b)(h:∀p∈b,∀t∈ppT p,t∈tb)(H:base.length<=60)(j:w=if m then [] else [32]++cw "if")
 (B:∀r:LS,mIx (au 0) (kI 2) (.im rD::r)=aa (.lst (b.map (PP.nD tb))))(A:∀r:LS,mB (m2 dNe (mIx (au 0) (kI 0)) (kSt "never")) (.im rD::r)=aa (!m))(c f:Sl)
 (k:∀c f,K (.nx [.im rD,.im (.lst (tb.map sT)),.im (sT (base++tlX w b)),c,f])):
  wp (dM (jE (af (mIx (au 0) (kI 2)) nZ)) (cT (bo (aH 3) (bo (aH 4) cS))) (am (bu (mB (m2 dGt (ae 3) (kI 0))) (iq 2 (mX (kSt " and"))) (bu (mB (m2 dNe (mIx (au 0) (kI 0)) (kSt "never"))) (iq 2 (mX (kSt " if"))) bw))
   (iq 2 (mX (m2 cv (kSt " ") (aJ wK (af (ae 4) (af (ae 1) nZ)))))))) [.im rD,.im (.lst (tb.map sT)),.im (sT base),c,f] K:=by
 have N:(cw "if").length=2:=by decide +kernel
 have I:w.length<=3:=by
  rw[j];split
  .exact gg _
  .rw[aI];show 1+_<=_;lia
 refine Ko (.i []) (PP.nD tb) b (λpre U=>∃c f,U=[.im rD,.im (.lst (tb.map sT)),.im (sT (base++tlX w pre)),c,f]) (ai (B _) rfl) ⟨_,_,by rw[show tlX w []=[]from rfl,cr]⟩ ?_ ?_
 .rintro pre p post U o ⟨c,f,rfl⟩;have hm:p∈b:=by rw[o];simp
  have v:PpX p:=n.1 p hm;have s:BdX pre:=⟨λy J=>n.1 y (by rw[o];simp[J]),by have:=congrArg fG o;rw[aI]at this;have:=n.2;lia⟩;have L:=oP s;have M:=uo v
  have Q:(tlX w pre).length<=14600:=by
   unfold tlX;split
   .exact gg _
   .rw[aI,aI];show _+1+_<=_;lia
  refine⟨_,rfl,?_⟩;generalize g:(if pre=[] then w else tlX w pre++[32,97,110,100])=l
  have G:l.length<=14700:=by
   rw[<- g];split
   .omega
   .rw[aI];show _+4<=_;lia
  have u:tlX w (pre++[p])=l++([32]++ppX p):=by
   rw[<- g];unfold tlX;rw[if_neg (by simp),UH]
   by_cases q:pre=[]
   .rw[if_pos q,if_pos q,cL]
   .rw[if_neg q,if_neg q,if_neg q];simp only[cL];rfl
  have C:decide (((pre.length:Nat):Int)>0)=!decide (pre=[]):=by
   cases pre with
   |nil=>rfl
   |cons a b=>rw[decide_eq_true (by rw[bg];lia)];rfl
  rw[u];refine kG (λU=>U=[.im rD,.im (.lst (tb.map sT)),.im (sT (base++l)),.im (.int (pre.length:Nat)),.im (p.nD tb)]) ?_ ?_
  .refine aX (b:=!decide (pre=[])) ((aY (aA rfl rfl jH)).trans (by rw[C])) (λe=>?_) λe=>?_
   .have q:¬pre=[]:=by simpa using e
    refine oJ (x:=sT (base++tlX w pre)) (d:=sT [32,97,110,100]) (z:=sT (base++tlX w pre++[32,97,110,100])) rfl (aN (by rw[UI])) (qB _ _ (by rw[aI];show _+_+4<=_;lia)) (k_J ?_);rw[<- g,if_neg q,cL];rfl
   .have q:pre=[]:=by simpa using e
    rw[if_pos q]at g;subst g;have E:tlX w pre=[]:=by rw[q];rfl
    rw[E,cr];refine aX (A _) (λe=>?_) λe=>bm (k_J ?_)
    .have:m=ag:=by simpa using e
     rw[this]at j;refine oJ (x:=sT base) (d:=sT w) (z:=sT (base++w)) rfl (aN (by rw[UJ,j];rfl)) (qB _ _ (by lia)) (k_J rfl)
    .have:m=ac:=by simpa using e
     rw[this]at j;rw[j,if_pos rfl,cr];rfl
  .rintro U rfl;rw[<- cL];exact oJ (x:=sT (base++l)) (d:=sT ([32]++ppX p)) rfl (aN (aA (x:=.str (tx [32])) (by rw[blT]) (aS (ai rfl (ai rfl rfl)) (UG tb p v (h p hm))) (m4 _ _ (by show 1+_<=_;lia)))) (qB _ _ (by rw[aI,aI];show _+_+(1+_)<=_;lia)) ⟨_,_,rfl⟩
 .rintro U ⟨c,f,rfl⟩;exact k c f
def UK(tb:L2N)(r:PR)(x:LN)(s:PrX r x)(h:∀t∈prT r,t∈tb):CH [r.nD tb,.lst (tb.map sT)]=aa (sT x):=by
 have c:∀p∈r.b,∀t∈ppT p,t∈tb:=λp c t i=>h t (cM.mpr (.inr (f8.mpr ⟨p,c,i⟩)))
 cases s with
 |ne b g f=>
  have A:(cw "never").length=5:=by decide +kernel
  apply bK;unfold tL;show wp _ [.im (PR.nD tb ⟨"never",ab,b⟩),.im (.lst (tb.map sT)),.no,.no,.no] _;apply ak;refine cf (d:=sT (cw "never")) (by rw[<- cwD]) ?_;apply ak;refine aX (b:=ag) rfl (λe=>by cases e) λ_=>bm ?_;apply ak;refine Kr tb b _ (cw "never") [] ac f c (by lia) rfl (λ_=>aw rfl rfl rfl) (λ_=>rfl) _ _ λl n=>?_;refine n4 rfl (b9 ?_);show sT _=sT _;unfold tlX neL;rw[if_neg g]
  rfl
 |ru m t b i f=>
  unfold TxT at i
  have v:(cw (ruS m)).length<=4:=by cases m <;> decide +kernel
  have j:t∈tb:=h t (cM.mpr (.inl bB));apply bK;unfold tL;show wp _ [.im (PR.nD tb ⟨if m then "make" else "may",aa t,b⟩),.im (.lst (tb.map sT)),.no,.no,.no] _;apply ak;refine cf (d:=.str "never") rfl ?_;refine kG (λU=>U=[.im (PR.nD tb ⟨if m then "make" else "may",aa t,b⟩),.im (.lst (tb.map sT)),.im (sT (cw (ruS m)++[32]++t)),.no,.no]) ?_ ?_
  .refine aX (b:=ac) (by cases m <;> rfl) (λ_=>?_) λe=>by cases e
   refine cf (aA (x:=sT (cw (ruS m)++[32])) (aA (x:=sT (cw (ruS m))) (y:=.str (tx [32])) ?_ (by rw[blT]) (m4 _ _ (by show _+1<=_;lia))) (aw rfl (aw rfl rfl rfl) (uq j)) (m4 _ _ (by rw[aI];show _+1+_<=_;lia))) (k_J rfl);rw[<- cwD]
   cases m <;> rfl
  .rintro U rfl;apply ak
   refine Kr tb b _ (cw (ruS m)++[32]++t) ([32]++cw "if") ag f c (by rw[aI,aI];show _+1+_<=_;lia) rfl (λ_=>aw rfl rfl rfl) (λ_=>by cases m <;> rfl) _ _ λl n=>?_
   refine n4 rfl (b9 ?_);show sT _=sT (jn [32] ([cw (ruS m),t]++gO (cw "if") (bX b)))
   by_cases q:b=[]
   .rw[q];show sT (cw (ruS m)++[32]++t++[])=_;rw[cr];rfl
   .have u:¬bX b=[]:=λz=>by
     have:=Ej (a:=[32,97,110,100,32]) (ws:=b.map ppX) (by simpa using q) λw o=>by obtain⟨p,c,rfl⟩:=bp.mp o;exact(uo (f.1 p c)).1
     unfold bX at z;rw[z]at this;exact absurd this (by decide)
    unfold tlX gO;rw[if_neg q,if_neg u];show _=sT (cw (ruS m)++[32]++(t++[32]++(cw "if" ++ [32]++bX b)));simp only[cL]
open PySem.Builtin PySem.Builtin.Str
abbrev spr(c:Nat)(l:LN):LN:=l.flatMap λx=>if x=c then [32,c,32] else [x]
def ur(c:Nat)(a b:LN):spr c (a++b)=spr c a++spr c b:=by unfold spr;rw[gX]
def Es(c:Nat):∀l:LN,c∉l->spr c l=l
 | [],_=>rfl
 |k::r,h=>by
  obtain⟨b,d⟩:=not_or.mp (λe=>h (bZ.mpr e));have a:=Es c r d;unfold spr at a ⊢;rw[iQ,if_neg (cE b),a];rfl
def qC(c:Nat):∀l:LN,(spr c l).length<=3*l.length
 | []=>bh _
 |k::r=>by
  have a:=qC c r;unfold spr at a ⊢;rw[iQ,aI,bg]
  split <;> (simp only[bg,gY];lia)
def UL(c:Nat):(sH c).cps.toList=[32,c,32]:=rfl
def Ks(c:Nat):∀b:LSt,(∀p∈b,c∉p.cps.toList)->spr c (j3 ⟨#[c]⟩ b).cps.toList=(j3 (sH c) b).cps.toList
 | [],_=>rfl
 | [p],h=>Es c _ (h p (bi.mpr rfl))
 |p::q::r,h=>by
  have d:=Ks c (q::r) λa ha=>h a (cD _ ha);show spr c (p++⟨#[c]⟩++j3 ⟨#[c]⟩ (q::r)).cps.toList=(p++sH c++j3 (sH c) (q::r)).cps.toList;simp only[Array.toList_append,Str.cps_append];rw[ur,ur,d,Es c _ (h p (bB ..)),UL];show p.cps.toList++spr c [c]++_=_;have:spr c [c]=[32,c,32]:=by unfold spr;simp
  rw[this]
def ut(l:LN)(c:Nat):eU (tx l) c=tx (spr c l):=by
 rw[<- mW (eU (tx l) c)];unfold eU;rw[StrLaws.replace_one,<- Ks c _ (zp (tx l) c),zq]
abbrev dZ(c:Nat):LN->LN->L2N
 | [],cur=>[cur]
 |x::r,cur=>if x=c then cur::dZ c r [] else dZ c r (cur++[x])
def Et(c:Nat):∀(p r a:LN),c∉p->dZ c (p++r) a=dZ c r (a++p)
 | [],r,a,_=>by rw[jm,cr]
 |k::p,r,a,h=>by
  have b:k≠c:=(ne_of_not_mem_cons h).symm;have d:=Et c p r (a++[k]) λm=>h (cD _ m);rw[qU,dZ,if_neg b,d,cL];rfl
def yz(c:Nat):∀b:LSt,b≠[]->(∀p∈b,c∉p.cps.toList)->dZ c (j3 ⟨#[c]⟩ b).cps.toList []=b.map λp=>p.cps.toList
 | [],h,_=>absurd rfl h
 | [p],_,h=>by
  have:=Et c p.cps.toList [] [] (h p (bi.mpr rfl));rw[cr,jm]at this
  exact this
 |p::q::r,_,h=>by
  have d:=yz c (q::r) (by simp) λa ha=>h a (cD _ ha);show dZ c (p++⟨#[c]⟩++j3 ⟨#[c]⟩ (q::r)).cps.toList []=_;simp only[Str.cps_append,Array.toList_append,cL];rw[Et c _ _ _ (h p (bB ..)),jm];show dZ c (c::(j3 ⟨#[c]⟩ (q::r)).cps.toList) p.cps.toList=_;rw[dZ,if_pos rfl,d];rfl
def Kt(x y:Str):ju x y≠[]:=by
 unfold ju;split
 .simp
 .split
  .simp
  .rw[StrLaws.partsBetween_eq];obtain⟨p,r,e⟩:=StrLaws.partsFrom_ne x y.length 0 (occurrences x y 0 x.length (x.length+1));rw[e];simp
def UM(l:LN):ju (tx l) (" ":Str)=(dZ 32 l []).map tx:=by
 have e:(" ":Str)=⟨#[32]⟩:=rfl;rw[e];have h:=yz 32 (ju (tx l) ⟨#[32]⟩) (Kt _ _) (zp (tx l) 32);rw[zq]at h;rw[show(tx l).cps.toList=l from rfl]at h;rw[h,map_map]
 conv=>lhs;rw[<- map_id (ju (tx l) ⟨#[32]⟩)]
 apply nh;intro p _;exact(mW p).symm
def Ku(x y:Str):(wa x y).length<=x.length+2:=by
 unfold wa partsBetween;have few:=StrLaws.occ_length_le x y 0 x.length (x.length+1);simp only[ay,jl,bg,aI];lia
def UN(l:LN)(h:l.length<=1000000):lF (.str (tx l)) (.str " ")=aa (.lst ((dZ 32 l []).map λw=>.str (tx w))):=by
 unfold lF;dsimp only;have:=Ku (tx l) (" ":Str);rw[dn]at this;rw[if_pos ⟨by decide,by rw[dn];lia,by lia⟩,UM,map_map];rfl
abbrev jQ(x:Nat):Bool:=x==40 || x==41 || x==44
abbrev fl(a:LN):L2N:=if a=[] then [] else [a]
abbrev ws:LN->LN->L2N
 | [],cur=>fl cur
 |x::r,cur=>if x=32 then fl cur++ws r [] else if jQ x=ac then fl cur++[x]::ws r [] else ws r (cur++[x])
abbrev iz(l:LN):LN:=spr 44 (spr 41 (spr 40 l))
def UO(x:Nat)(r:LN):iz (x::r)=(if jQ x=ac then [32,x,32] else [x])++iz r:=by
 unfold iz;rw[show x::r=[x]++r from rfl,ur,ur,ur]
 congr 1
 by_cases a:x=40
 .subst a;rfl
 .by_cases b:x=41
  .subst b;rfl
  .by_cases c:x=44
   .subst c;rfl
   .have d:jQ x=ag:=by simp[jQ,a,b,c]
    rw[d];simp[spr,a,b,c]
def yA:∀(l a:LN),(dZ 32 (iz l) a).filter (λw=>!decide (w=[]))=ws l a
 | [],a=>by
  show([a]:L2N).filter _=fl a;unfold fl
  by_cases h:a=[] <;> simp[h]
 |x::r,a=>by
  have b:∀(z:L2N),(a::z).filter (λw=>!decide (w=[]))=fl a++z.filter (λw=>!decide (w=[])):=λz=>by
   unfold fl
   by_cases h:a=[] <;> simp[h]
  rw[UO];unfold ws
  by_cases h:x=32
  .subst h;rw[if_pos rfl,if_neg (by decide)];show(dZ 32 (32::iz r) a).filter _=_;rw[dZ,if_pos rfl,b,yA r []]
  .rw[if_neg h]
   by_cases c:jQ x=ac
   .rw[if_pos c,if_pos c];show(dZ 32 (32::x::32::iz r) a).filter _=_;rw[dZ,if_pos rfl,b,dZ,if_neg h,dZ,if_pos rfl];show _++([x]::dZ 32 (iz r) []).filter _=_;rw[filter_cons,if_pos (by simp),yA r []]
   .rw[if_neg c,if_neg c];show(dZ 32 (x::iz r) a).filter _=_;rw[dZ,if_neg h,yA r (a++[x])]
def UP(l:LN):(iz l).length<=27*l.length:=by
 have a:=qC 40 l;have b:=qC 41 (spr 40 l);have c:=qC 44 (spr 41 (spr 40 l));unfold iz;lia
abbrev plain(w:LN):Prop:=∀x∈w,x≠32/\jQ x=ag
def Kv:∀(w r a:LN),plain w->ws (w++r) a=ws r (a++w)
 | [],r,a,_=>by rw[jm,cr]
 |x::w,r,a,h=>by
  have b:=h x (bB ..);have d:=Kv w r (a++[x]) λy c=>h y (cD _ c);rw[qU,ws,if_neg b.1,if_neg (by rw[b.2];decide),d,cL];rfl
def Kw:∀(n:Nat) (r:LN),ws (gm n 32++r) []=ws r []
 | 0,r=>rfl
 |n+1,r=>by
  rw[replicate_succ,qU,ws,if_pos rfl,Kw n r];rfl
def yB(n:Nat)(r a:LN):ws (gm (n+1) 32++r) a=fl a++ws r []:=by
 rw[replicate_succ,qU,ws,if_pos rfl,Kw n r]
def uu{x:Nat}(r a:LN)(h:jQ x=ac):ws (x::r) a=fl a++[x]::ws r []:=by
 have b:¬x=32:=λe=>by subst e;cases h
 rw[ws,if_neg b,if_pos h]
abbrev wD(ws:L2N):LD:=ws.map λw=>.str (tx w)
def UQ:("(),":Str).cps.toList=[40,41,44]:=rfl
def UR(l:LN)(h:l.length<=20000):wp tP [.im (.str (tx l)),.no,.no] (λo=>o=.rtO (wD (ws l []))):=by
 have q:=qC 40 l;have s:=qC 41 (spr 40 l);have t:=UP l
 have hok:sI (tx l) [40,41,44]=ac:=by
  unfold sI;show((decide (4*(tx l).length+3<=16777216)) && ((decide (4*(eU (tx l) 40).length+3<=16777216)) && ((decide (4*(eU (eU (tx l) 40) 41).length+3<=16777216)) && ac)))=ac;rw[ut,ut,dn,dn,dn,decide_eq_true (by lia),decide_eq_true (by lia),decide_eq_true (by lia)];rfl
 have m:sJ 1 2 "()," (ae 0) [.im (.str (tx l)),.no,.no]=aa (.nx [.im (.str (tx l)),.im (.str (tx (iz l))),.im (.str ⟨#[44]⟩)]):=by
  unfold sJ;rw[show ae 0 [Sl.im (.str (tx l)),.no,.no]=aa (.str (tx l))from rfl,aG,UQ];show(if sI (tx l) [40,41,44]=ac then _ else ab)=_;rw[if_pos hok];show aa (Fl.nx [.im (.str (tx l)),.im (.str (eU (eU (eU (tx l) 40) 41) 44)),.im (.str ⟨#[44]⟩)])=_;rw[ut,ut,ut];rfl
 unfold tP;apply ak;refine mL m ?_;refine lC (d:=wD (ws l [])) ?_ rfl;unfold wD;rw[<- yA l []]
 have n:∀(r a:LN),(dZ 32 r a).length<=r.length+1:=by
  intro r
  induction r with
  |nil=>intro a;exact bh _
  |cons x r f=>
   intro a;unfold dZ;split
   .have:=f [];simp only[bg];lia
   .have:=f (a++[x]);simp only[bg];lia
 have p:=n (iz l) [];refine su (dZ 32 (iz l) []) (λw=>D.str (tx w)) (λw=>!decide (w=[])) (λw=>D.str (tx w)) (b8 (aA rfl rfl (UN _ (by lia))) rfl) (by lia) λw _=>?_
 have i:((tx w)==("":Str))=decide (w=[]):=by
  by_cases c:w=[]
  .subst c;rfl
  .rw[decide_eq_false c]
   cases e:((tx w)==("":Str))with
   |false=>rfl
   |true=>exact absurd (gM ((eq_of_beq e).trans (show("":Str)=tx []from rfl))) c
 have j:=mK (g:=aH 0) (ft:=mB (m2 dNe (ae 0) (kSt ""))) (fe:=ae 0) (U:=df 1 [] [.im (.str (tx l)),.im (.str (tx (iz l))),.im (.str ⟨#[44]⟩)]) (d:=.str (tx w)) (b:=!decide (w=[])) (y:=.str (tx w)) rfl (aY (aA rfl rfl (by rw[GY,i]))) λ_=>rfl;exact j
def Kx(l:LN)(h:l.length<=20000):qo [.str (tx l)]=aa (.lst (wD (ws l []))):=by
 obtain⟨o,e,rfl⟩:=UR l h;exact OX e
abbrev gD(w:LN):Bool:=gA w || c8 w
def yC(h:gD w=ac):0<w.length/\w.length<=8:=by
 unfold gD at h;rw[gV]at h
 rcases h with h |h
 .unfold gA at h;rw[cV]at h;obtain⟨a,b⟩:=h;unfold made at a b;simp only[cV,gV,decide_eq_true_eq,iR,qT]at a b;lia
 .unfold c8 made at h;simp only[cV,decide_eq_true_eq]at h;lia
def oQ(h:c8 w=ac):0<w.length/\w.length<=8:=yC (by unfold gD;rw[h,Bool.or_true])
def Ky(h:gA w=ac):0<w.length/\w.length<=8:=yC (by unfold gD;rw[h];rfl)
open NumText PySem.Builtin PySem.Builtin.Str
abbrev dgL:LN:=("0123456789":Str).cps.toList
def yD(x:Nat):x∈dgL↔48<=x/\x<=57:=by
 have e:dgL=[48,49,50,51,52,53,54,55,56,57]:=rfl;rw[e];simp only[bZ,cO,or_false];omega
abbrev fgs(w:LN):LN:=if w.head?=aa 45 then w.tail else w
abbrev oR(w:LN):Bool:=if w==[48] then ac else made (fgs w) dgL 30 && !decide ((fgs w).head?=aa 48)
def US(w:LN):iZ (.str (tx w)) (.kt (kpS.map D.str))=aa (.bl (!kept w)):=by
 show aa (D.bl (!((kpW.map λw=>D.str (tx w)).any λd=>eqX d _)))=_;rw[any_map]
 congr 3
 refine congrArg _ (funext λk=>?_);show(tx k==tx w)=_;apply iA.mpr;rw[beq_iff_eq,beq_iff_eq];exact⟨gM,λe=>by rw[e]⟩
def UT(w:LN)(a:w.length<=1000)(ha:asc w):De [.str (tx w)]=aa (.bl (c8 w)):=by
 apply bK;exact cB (sx (yo w smL 8 a ha) (aA rfl rfl (US w))) (b9 rfl)
def Kz(w:LN)(x:Nat):u8 (tx w) ⟨#[x]⟩=decide (w.head?=aa x):=by
 unfold u8
 cases w with
 |nil=>rfl
 |cons a w=>
  rw[StrLaws.subAt_eq];show(decide (0+1<=(tx _).length) && (((a::w).drop 0).take 1==[x]))=_;rw[dn,decide_eq_true (by simp)]
  by_cases e:a=x
  .subst e;simp
  .simp[e]
def Eu(w:LN)(c:w.length<=1000)(ha:asc w):xl [.str (tx w)]=aa (.bl (oR w)):=by
 apply bK;unfold xk oR
 have a:((tx w)==("0":Str))=(w==[48]):=by
  by_cases h:w=[48]
  .subst h;rfl
  .rw[beq_eq_false_iff_ne.mpr h];exact beq_eq_false_iff_ne.mpr λe=>h (gM (e.trans (rfl)))
 apply ak;refine aX (aY (aA rfl rfl ((GW _ _).trans (by rw[a])))) (λh=>?_) (λh=>?_)
 .rw[h];exact cB rfl (b9 rfl)
 .rw[h];refine bm ?_;apply ak;refine cf (d:=.str (tx (fgs w))) (vU (il (aA rfl rfl (congrArg (λb=>aa _) (Kz w 45))) rfl) (λe=>?_) (λe=>?_)) ?_
  .have e:=of_decide_eq_true e;unfold fgs;rw[if_pos e];refine D6 rfl rfl rfl c ((JO w 1 (by decide)).trans ?_)
   cases w <;> rfl
  .have e:=of_decide_eq_false e;unfold fgs;rw[if_neg e];rfl
  .show wp _ _ _
   have fl:(fgs w).length<=w.length/\fgs w ⊆ w:=by
    unfold fgs;split
    .exact⟨by rw[length_tail];lia,λ_ h=>mem_of_mem_tail h⟩
    .exact⟨bh _,λ_ h=>h⟩
   exact cB (sx (yo _ dgL 30 (by lia) (D7 ha fl.2)) (G1 (aA rfl rfl (congrArg (λb=>aa _) (Kz _ 48))))) (b9 rfl)
open NumText PySem.Builtin PySem.Builtin.Str
abbrev nz(a:LN):LN:=match a.dropWhile (·==48)with
 | []=>[48]
 |c::r=>c::r
variable{cs:LN}
def UU(h:mY dgL cs=ac):∀x∈nz cs,48<=x/\x<=57:=by
 intro x a;unfold nz at a;split at a
 .rw[bi.mp a];decide
 .rename_i e;have:x∈cs.dropWhile (·==48):=by rw[e];exact a
  exact(yD x).mp (of_decide_eq_true (all_eq_true.mp h x ((dropWhile_sublist _).subset this)))
def UV(h:mY dgL cs=ac):(Nat.toDigits 10 (digitsVal cs)).map Char.toNat=nz cs:=by
 rw[toDigits_all cs (λx a=>(yD x).mp (of_decide_eq_true (all_eq_true.mp h x a)))];have nd:=UU h;unfold nz at nd ⊢;split
 .rename_i e;rw[e];rfl
 .rename_i c r e;rw[e]at nd ⊢;rw[map_map]
  conv=>rhs;rw[<- map_id (c::r)]
  apply nh;intro x a;have:=nd x a;have b:∀y:Fin 58,(Char.ofNat y.val).toNat=y.val:=by decide
  exact b ⟨x,by lia⟩
abbrev dig(m:Nat):LN:=(Nat.toDigits 10 m).map Char.toNat
def qE(m:Nat):bO ((m:Nat):Int)=dig m:=zr m
def qF(m:Nat):AllDigits (dig m):=by
 intro c a;obtain⟨ch,hm,rfl⟩:=bp.mp a;exact digit_range (Nat.isDigit_of_mem_toDigits (by decide) (by decide) hm)
def Ev(m:Nat):mY dgL (dig m)=ac:=all_eq_true.mpr λx a=>decide_eq_true ((yD x).mpr (qF m x a))
def yE(m:Nat):digitsVal (dig m)=m:=W.KIN.val_back m
def UW(m:Nat):dig m=nz (dig m):=by
 have:=UV (Ev m);rw[yE]at this;exact this
def KA(m:Nat)(h:dig m≠[48]):(dig m).head?≠aa 48:=by
 have e:=UW m;unfold nz at e;split at e
 .exact absurd e h
 .rename_i c r hd;rw[e];intro z;have a:c=48:=by simpa using z
  have:=head_dropWhile_not (p:=λx:Nat=>x==48) (by rw[hd];simp);simp only[hd,head_cons]at this;rw[a]at this;exact absurd this (by decide)
def KB(m:Nat):dig m≠[]:=by
 unfold dig;simp[Nat.toDigits_ne_nil]
def KC(h:dC n):oR (bO n)=ac:=by
 obtain⟨d,b⟩:=h
 by_cases c:0<=n
 .obtain⟨m,rfl⟩:∃m:Nat,n=m:=⟨n.toNat,by lia⟩;have l:=yv m b;rw[qE]at l ⊢;unfold oR
  by_cases e:dig m=[48]
  .rw[e];rfl
  .rw[if_neg (by simpa using e)]
   have a:fgs (dig m)=dig m:=by
    refine if_neg λz=>?_;have:=qF m 45 (mem_of_mem_head? z);lia
   rw[a,decide_eq_false (KA m e)];unfold made;rw[Ev,decide_eq_true (show 1<=(dig m).length by lia),decide_eq_true l.2];rfl
 .obtain⟨m,rfl⟩:∃m:Nat,n=-((m+1:Nat):Int):=⟨(-n).toNat-1,by lia⟩;have l:=yv (m+1) (by lia);rw[yu];rw[qE]at l ⊢;unfold oR;have a:fgs (45::dig _)=dig (m+1):=rfl
  have hn:dig _≠[48]:=λe=>by
   have:=yE (m+1);rw[e]at this;exact absurd this (by show ¬0=m+1;lia)
  rw[a,decide_eq_false (KA _ hn)];unfold made;rw[Ev,decide_eq_true (show 1<=(dig _).length by lia),decide_eq_true l.2];rfl
def UX(h:dC n):we (.str (tx (bO n)))=aa (.int n):=by
 have l:=lT h;show(if (tx _).length<=640 then (uS _).map D.int else ab)=_;rw[dn,if_pos (by lia)]
 by_cases a:0<=n
 .obtain⟨m,rfl⟩:∃m:Nat,n=m:=⟨n.toNat,by lia⟩;rw[qE]at l ⊢;rw[intText_digits (qF m) (KB m) (by rw[dn];lia)];show aa _=_;rw[yE]
 .obtain⟨m,rfl⟩:∃m:Nat,n=-((m+1:Nat):Int):=⟨(-n).toNat-1,by lia⟩;rw[yu,qE]at l ⊢;rw[intText_neg rfl (qF _) (KB _) (by rw[dn];lia)];show aa _=_;rw[yE]
def Ew:∀x∈bO n,x=45\/(48<=x/\x<=57):=by
 intro x a
 by_cases b:0<=n
 .obtain⟨m,rfl⟩:∃m:Nat,n=m:=⟨n.toNat,by lia⟩;rw[qE]at a;exact .inr (qF m x a)
 .obtain⟨m,rfl⟩:∃m:Nat,n=-((m+1:Nat):Int):=⟨(-n).toNat-1,by lia⟩;rw[yu,qE]at a
  rcases bZ.mp a with e |e
  .exact .inl e
  .exact .inr (qF _ x e)
def KD:∀x∈smL,97<=x/\x<=122:=by decide +kernel
def UY:∀x∈grL,65<=x/\x<=90:=by decide +kernel
def Ey{a:LN}(h:mY a w=ac):∀x∈w,x∈a:=λx b=>of_decide_eq_true (all_eq_true.mp h x b)
def KE(h:c8 w=ac):∀x∈w,97<=x/\x<=122:=by
 unfold c8 made at h;simp only[(cV)]at h;exact λx a=>KD x (Ey h.1.2 x a)
def KF(h:gA w=ac):(∀x∈w,65<=x/\x<=122)/\∃c r,w=c::r/\c<=90:=by
 have f:=Ky h;unfold gA at h;rw[cV,gV]at h;obtain⟨a,b⟩:=h;unfold made at a b;simp only[cV,decide_eq_true_eq]at a b
 cases w with
 |nil=>exact absurd f.1 (by decide)
 |cons c r=>
  have d:=UY c (Ey a.2 c (by simp));refine⟨λx g=>?_,c,r,rfl,d.2⟩
  rcases bZ.mp g with e |e
  .rw[e];lia
  .rcases b with q |q
   .have:r=[]:=eq_nil_of_length_eq_zero (by rw[bg]at q;lia);rw[this]at e;exact(cO e).elim
   .have:=KD x (Ey q.2 x e);lia
def Ez(h:gD w=ac):∀x∈w,65<=x/\x<=122:=by
 unfold gD at h;rw[gV]at h
 rcases h with h |h
 .exact(KF h).1
 .intro x a;have:=KE h x a;lia
def UZ(h:∀x∈w,65<=x/\x<=122):plain w:=λx a=>by
 have:=h x a;unfold jQ;simp only[uE,beq_eq_false_iff_ne];lia
def U0(n:Int):plain (bO n):=λx a=>by
 have:=Ew x a;unfold jQ;simp only[uE,beq_eq_false_iff_ne];lia
def KG(h:∀x∈w,x<128):asc w:=all_eq_true.mpr λx a=>decide_eq_true (h x a)
def yF(h:gD w=ac):asc w:=KG λx a=>by have:=Ez h x a;lia
def qG(h:c8 w=ac):gD w=ac:=by unfold gD;rw[h,Bool.or_true]
def U1(h:gA w=ac):gD w=ac:=by unfold gD;rw[h];rfl
def KH(n:Int):asc (bO n):=KG λx a=>by have:=Ew x a;lia
def U2(h:c8 w=ac):oR w=ag:=by
 cases w with
 |nil=>exact absurd (oQ h).1 (by decide)
 |cons c r=>
  have b:=KE h c bB;unfold oR;rw[if_neg (by simp;lia)];have a:fgs (c::r)=c::r:=by unfold fgs;rw[if_neg (by simp;lia)]
  have hm:made (c::r) dgL 30=ag:=by
   unfold made mY;have:decide _=ag:=decide_eq_false λz=>by have:=(yD c).mp z;lia
   rw[l8,this,Bool.false_and,uF]
  rw[a,hm,Bool.false_and]
abbrev brk(r:LN):Prop:=r=[]\/∃x q,r=x::q/\(x=32\/jQ x=ac)
abbrev Spl(t:LN)(M:L2N):Prop:=∀r,brk r->ws (t++r) []=M++ws r []
def EA(h:w≠[]):fl w=[w]:=if_neg h
def U3:Spl [] []:=λr _=>rfl
def lU(h:plain w)(hn:w≠[]):Spl w [w]:=λr c=>by
 rw[Kv w r [] h,jm]
 rcases c with e |⟨x,q,e,hx⟩
 .subst e;show fl w=[w]++fl [];rw[EA hn];rfl
 .subst e
  rcases hx with hx |hx
  .subst hx;have a:=yB 0 q w;have b:=yB 0 q [];rw[show gm (0+1) 32++q=32::q from rfl]at a b;rw[a,b,EA hn];rfl
  .rw[uu q w hx,uu q [] hx,EA hn];rfl
variable{a b:LN}{M ys:L2N}
def jR(c:Spl a M)(d:Spl b ys):Spl (a++[32]++b) (M++[]++ys):=λr f=>by
 rw[cL,cL,c ([32]++(b++r)) (.inr ⟨32,b++r,rfl,.inl rfl⟩)];have e:=yB 0 (b++r) [];rw[show gm (0+1) 32++(b++r)=[32]++(b++r)from rfl]at e;rw[e,d r f];show M++([]++(ys++ws r []))=_;simp
def KI{c:Nat}(d:jQ c=ac)(e:Spl a M)(f:Spl b ys):Spl (a++[c]++b) (M++[[c]]++ys):=λr g=>by
 rw[cL,cL,e ([c]++(b++r)) (.inr ⟨c,b++r,rfl,.inr d⟩)];show M++ws (c::(b++r)) []=_;rw[uu _ _ d,f r g];show M++([]++[c]::(ys++ws r []))=_;simp
def U4(c:Spl a M)(d:Spl b ys):Spl (a++[44,32]++b) (M++[[44]]++ys):=λr f=>by
 rw[cL,cL,c ([44,32]++(b++r)) (.inr ⟨44,32::(b++r),rfl,.inr rfl⟩)];show M++ws (44::(32::(b++r))) []=_;rw[uu _ _ rfl];have e:=yB 0 (b++r) [];rw[show gm (0+1) 32++(b++r)=32::(b++r)from rfl]at e;rw[e,d r f];show M++([]++[44]::([]++(ys++ws r [])))=_;simp
def U5(b:Spl a M):Spl (a++[41]) (M++[[41]]):=λr _=>by
 rw[cL,b ([41]++r) (.inr ⟨41,r,rfl,.inr rfl⟩)];show M++ws (41::r) []=_;rw[uu _ _ rfl];show M++([]++[41]::ws r [])=_;simp
def U6:plain (cw "and"):=by unfold plain;decide +kernel
def U7(g:Spl a M)(h:Spl b ys):Spl (a++[32,97,110,100,32]++b) (M++[cw "and"]++ys):=by
 have e:=jR (jR g (lU U6 (by decide +kernel))) h;have f:cw "and"=[97,110,100]:=by decide +kernel
 have c:a++[32]++cw "and" ++ [32]++b=a++[32,97,110,100,32]++b:=by rw[f];simp
 have d:M++[]++[cw "and"]++[]++ys=M++[cw "and"]++ys:=by simp
 rw[c,d]at e;exact e
abbrev gl(c:L2N):List L2N->L2N
 | []=>[]
 | [x]=>x
 |x::y::r=>x++c++gl c (y::r)
def yG{b:Type}{a:LN}{c:L2N}(W2:∀t M u ys,Spl t M->Spl u ys->Spl (t++a++u) (M++c++ys))(f:b->LN)(g:b->L2N):∀W3:List b,(∀x∈W3,Spl (f x) (g x))->Spl (jn a (W3.map f)) (gl c (W3.map g))
 | [],_=>U3
 | [x],h=>h x bB
 |x::y::r,h=>W2 _ _ _ _ (h x bB) (yG W2 f g (y::r) λz hz=>h z (cD _ hz))
abbrev ThG(t:Th):Prop:=c8 t.1=ac/\(∀a∈t.2,c8 a=ac)/\t.2.length<=3
abbrev ItG(z:Ti):Prop:=ThG z.1/\0<=z.2/\z.2<10 ^ 30
abbrev PaG:Pa->Prop
 |.is t=>ThG t
 |.no t=>ThG t
 |.un _ _=>False
 |.ct _ n its ov=>dC n/\(∀z∈its,ItG z)/\(0<its.length/\its.length<=27)/\ov=[]
abbrev BdG(bd:List Pa):Prop:=(∀p∈bd,PaG p)/\bd.length<=5
abbrev RoG:Ro->Prop
 |.kind _ _=>False
 |.rule _ t bd ps=>ThG t/\BdG bd/\ps=[]
 |.choose _ _ _ _ _ _=>False
 |.never bd ps=>BdG bd/\bd≠[]/\ps=[]
abbrev ppG:Pa->PP
 |.is t=>.i (thT t)
 |.no t=>.o (thT t)
 |.un _ _=>.i []
 |.ct w n its _=>.c w n (its.map λz=>(thT z.1,z.2))
abbrev roX:Ro->LN
 |.rule b t bd _=>jn [32] (ruL b (thT t) (bd.map ppG))
 |.never bd _=>jn [32] (neL (bd.map ppG))
 | _=>[]
abbrev dL(t:Th):L2N:=t.1::(if t.2=[] then [] else [40]::(gl [[44]] (t.2.map λa=>[a])++[[41]]))
abbrev oS(z:Ti):L2N:=(if z.2=1 then [] else [bO z.2])++dL z.1
abbrev lV(its:List Ti):L2N:=gl [[44]] (its.map oS)
abbrev gQ(w:LN)(M:L2N):L2N:=if M=[] then [] else w::M
abbrev pWd:Pa->L2N
 |.is t=>dL t
 |.no t=>cw "not" :: dL t
 |.un a _=>[a]
 |.ct w n its _=>[cw (leS w),bO n,cw "of"]++lV its
abbrev bWd(bd:List Pa):L2N:=gl [cw "and"] (bd.map pWd)
abbrev hX:Ro->L2N
 |.never bd _=>cw "never" :: bWd bd
 |.rule b t bd _=>cw (ruS b)::(dL t++gQ (cw "if") (bWd bd))
 | _=>[]
def U8(h:gD w=ac):Spl w [w]:=lU (UZ (Ez h)) λe=>by have:=(yC h).1;rw[e]at this;exact absurd this (by decide)
def EB(h:c8 w=ac):Spl w [w]:=U8 (qG h)
def KJ(h:dC n):Spl (bO n) [bO n]:=lU (U0 n) λe=>by have:=(lT h).1;rw[e]at this;exact absurd this (by decide)
def uv{t:Th}(h:ThG t):Spl (thT t) (dL t):=by
 obtain⟨d,g,i⟩:=h;unfold thT dL;split
 .exact EB d
 .have W6:=yG (a:=[44]) (c:=[[44]]) (λ_ _ _ _ a b=>KI rfl a b) (λa:LN=>a) (λa=>[a]) t.2 λa ha=>EB (g a ha);rw[map_id']at W6;have e:=U5 (KI (c:=40) rfl (EB d) W6);have f:[t.1]++[[40]]++gl [[44]] (t.2.map λa=>[a])++[[41]]=t.1::[40]::(gl [[44]] (t.2.map λa=>[a])++[[41]]):=by simp
  rw[f]at e;exact e
def uw{t:Th}(h:ThG t):TxT (thT t):=by
 obtain⟨a,b,c⟩:=h;have n:=oQ a;refine⟨?_,J6 ⟨n.2,c,λw d=>oQ (b w d)⟩⟩;unfold thT;split
 .exact n.1
 .simp only[aI];lia
variable{z:Ti}
def KL(h:ItG z):dC z.2:=⟨by have a:=h.2.1;have b:(0:Int)<10 ^ 30:=(by decide);lia,h.2.2⟩
def U9(h:ItG z):Spl (itX (thT z.1,z.2)) (oS z):=by
 unfold itX oS;show Spl (if z.2=1 then thT z.1 else _) _;split
 .exact uv h.1
 .exact jR (KJ (KL h)) (uv h.1)
def Va{its:List Ti}(h:∀z∈its,ItG z):Spl (isX (its.map λz=>(thT z.1,z.2))) (lV its):=by
 have:=yG (λ_ _ _ _ a b=>U4 a b) (λz:Ti=>itX (thT z.1,z.2)) oS its λp c=>U9 (h p c);unfold isX;rw[map_map];exact this
def Vb{a:Type}{c:L2N}{g:a->L2N}{W3:List a}(h:∀x∈W3,g x≠[]):gl c (W3.map g)=[]↔W3=[]:=by
 match W3 with
 | []=>exact⟨λ_=>rfl,λ_=>rfl⟩
 | [x]=>exact⟨λe=>absurd e (h x bB),λe=>by cases e⟩
 |x::y::r=>
  refine⟨λe=>?_,λe=>by cases e⟩;have b:g x++c++gl c ((y::r).map g)=[]:=e;have:=(append_eq_nil_iff.mp (append_eq_nil_iff.mp b).1).1;exact absurd this (h x bB)
def Vc(p:Pa):pWd p≠[]:=by
 cases p <;> (intro e;cases e)
variable{bd:List Pa}
def KM:bWd bd=[]↔bd=[]:=Vb λp _=>Vc p
def Vd{b:Type}(a:LN)(f:b->LN)(M:List b)(h:∀x∈M,0<(f x).length):jn a (M.map f)=[]↔M=[]:=by
 constructor
 .intro e
  by_cases q:M=[]
  .exact q
  .have:=Ej (a:=a) (ws:=M.map f) (by simpa using q) λw c=>by obtain⟨y,d,rfl⟩:=bp.mp c;exact h y d
   rw[e]at this;exact absurd this (by decide)
 .intro e;rw[e];rfl
def KN:plain (cw "not")/\cw "not" ≠ []:=by unfold plain;decide +kernel
def KO:plain (cw "of")/\cw "of" ≠ []:=by unfold plain;decide +kernel
def KP:plain (cw "if")/\cw "if" ≠ []:=by unfold plain;decide +kernel
def KQ:plain (cw "never")/\cw "never" ≠ []:=by unfold plain;decide +kernel
def KR(w:Bool):plain (cw (leS w))/\cw (leS w)≠[]:=by cases w <;> (unfold plain;decide +kernel)
def KS(w:Bool):plain (cw (ruS w))/\cw (ruS w)≠[]:=by cases w <;> (unfold plain;decide +kernel)
def Ve{p:Pa}(h:PaG p):PpX (ppG p):=by
 cases p with
 |is t=>exact uw h
 |no t=>exact uw h
 |un a b=>exact h.elim
 |ct w n its ov=>
  obtain⟨e,c,f,_⟩:=(show dC n/\(∀z∈its,ItG z)/\(0<its.length/\its.length<=27)/\ov=[]from h);refine⟨e,λz hz=>?_,by rw[ay];exact f.2⟩;obtain⟨y,d,rfl⟩:=bp.mp hz;exact⟨uw (c y d).1,KL (c y d)⟩
def ux(h:BdG bd):BdX (bd.map ppG):=⟨λp a=>by
 obtain⟨q,b,rfl⟩:=bp.mp a;exact Ve (h.1 q b),by rw[ay];exact h.2⟩
def Vf{p:Pa}(h:PaG p):Spl (ppX (ppG p)) (pWd p):=by
 cases p with
 |is t=>exact uv (show ThG t from h)
 |no t=>exact jR (lU KN.1 KN.2) (uv (show ThG t from h))
 |un a b=>exact h.elim
 |ct w n its ov=>
  obtain⟨c,d,e,_⟩:=(show dC n/\(∀z∈its,ItG z)/\(0<its.length/\its.length<=27)/\ov=[]from h);exact jR (lU (KR w).1 (KR w).2) (jR (KJ c) (jR (lU KO.1 KO.2) (Va d)))
def KU(h:∀p∈bd,PaG p):Spl (bX (bd.map ppG)) (bWd bd):=by
 have:=yG (λ_ _ _ _ a b=>U7 a b) (λp=>ppX (ppG p)) pWd bd λp c=>Vf (h p c);unfold bX;rw[map_map];exact this
variable{r:Ro}
def Vg(h:RoG r):Spl (roX r) (hX r):=by
 cases r with
 |kind n ns=>exact h.elim
 |choose a b c d e f=>exact h.elim
 |never bd ps=>exact jR (lU KQ.1 KQ.2) (KU h.1.1)
 |rule b t bd ps=>
  obtain⟨m,g,_⟩:=(show ThG t/\BdG bd/\ps=[]from h);have i:=jR (lU (KS b).1 (KS b).2) (uv m);show Spl (jn [32] ([cw (ruS b),thT t]++gO (cw "if") (bX (bd.map ppG)))) (cw (ruS b)::(dL t++gQ (cw "if") (bWd bd)))
  by_cases q:bd=[]
  .subst q;show Spl (cw (ruS b)++[32]++thT t) (cw (ruS b)::(dL t++[]));rw[cr];exact i
  .have s:¬bX (bd.map ppG)=[]:=λz=>by
    have:=(Vd [32,97,110,100,32] ppX (bd.map ppG) λp o=>(uo ((ux g).1 p o)).1).mp z;exact q (by simpa using this)
   unfold gO gQ;rw[if_neg s,if_neg λz=>q (KM.mp z)];have e:=jR (jR i (lU KP.1 KP.2)) (KU g.1)
   have j:cw (ruS b)++[32]++thT t++[32]++cw "if" ++ [32]++bX (bd.map ppG)=jn [32] ([cw (ruS b),thT t]++[cw "if",bX (bd.map ppG)]):=by
    show _=cw (ruS b)++[32]++(thT t++[32]++(cw "if" ++ [32]++bX (bd.map ppG)));simp only[cL]
   rw[j]at e;have l:[cw (ruS b)]++[]++dL t++[]++[cw "if"]++[]++bWd bd=cw (ruS b)::(dL t++cw "if" :: bWd bd):=by simp
   rw[l]at e;exact e
def KW(h:RoG r):(roX r).length<=12000:=by
 have l:(cw "if").length=2:=by decide +kernel
 have m:(cw "never").length=5:=by decide +kernel
 cases r with
 |kind n ns=>exact h.elim
 |choose a b c d e f=>exact h.elim
 |never bd ps=>
  have:=oP (ux h.1);show(cw "never" ++ [32]++bX (bd.map ppG)).length<=_;rw[aI,aI];show _+1+_<=_
  lia
 |rule b t bd ps=>
  obtain⟨g,i,_⟩:=(show ThG t/\BdG bd/\ps=[]from h);have a:=oP (ux i);have o:=(uw g).2
  have j:(cw (ruS b)).length<=4:=by cases b <;> decide +kernel
  have c:=En (cw "if") (bX (bd.map ppG));have W6:=m3 [32] (ruL b (thT t) (bd.map ppG));show(jn [32] (ruL b (thT t) (bd.map ppG))).length<=_;unfold ruL at W6 ⊢;rw[Kk,jP,jP,show dO []=0 from rfl,aI,e7]at W6;have:[cw (ruS b),thT t].length=2:=rfl;lia
def KY(h:RoG r):qo [.str (tx (roX r))]=aa (.lst (wD (hX r))):=by
 have:=KW h;rw[Kx (roX r) (by lia)];have e:=Vg h [] (.inl rfl);rw[cr]at e;rw[e];show aa (D.lst (wD (hX r++fl [])))=_;rw[show fl []=[]from rfl,cr]
nonrec def rN:LSt:=["words","place"]
nonrec def fls(W:L2N)(p:Nat):LD:=[.lst (wD W),.int ((p:Nat):Int)]
nonrec def rd(l:Addr)(W:L2N)(p:Nat):Sl:=.pino l "Reader" rN (fls W p)
abbrev kR(l:Addr)(W:L2N)(p:Nat)(d:D)(o:Fl):Prop:=∃U,(o=.rtS d (rd l W p::U)\/(d=.non/\o=.nx (rd l W p::U)))
variable{p:Nat}
def eV{W:L2N}:kR l W p d (.rtS d (rd l W p::U)):=⟨U,.inl rfl⟩
def KZ{W:L2N}:kR l W p .non (.nx (rd l W p::U)):=⟨U,.inr ⟨rfl,rfl⟩⟩
def fD{N:Nat}{M:LD}{W:L2N}(w:wp F (AJ N l "Reader" rN ds M) (kR l W p d)):dz N "Reader" rN F l ds M=aa (fls W p,d):=by
 obtain⟨o,e,U,h⟩:=w;unfold dz;rw[e,aG]
 rcases h with h |⟨hd,h⟩
 .subst h;show(ja l "Reader" rN _).map _=_;rw[HE rfl];rfl
 .subst h hd;show(ja l "Reader" rN _).map _=_;rw[HE rfl];rfl
variable{nm:Str}{m:Addr->LD->LD->Option (LD×L2.D)}
def jk{f:Xa}{W:L2N}{q:Nat}{a:LS}(hn:rN.contains nm=ag)(b:f (rd l W p::tl)=aa (ds,rd l W p::a))(c:m l ds (fls W p)=aa (fls W q,d)):aW 0 "Reader" nm rN m f (rd l W p::tl)=aa (d,rd l W q::a):=by
 show(if ("Reader":Str)="Reader" /\ rN=rN/\rN.contains nm=ag then (f _).bind _ else ab)=_;rw[if_pos ⟨rfl,rfl,hn⟩,b,aG];show(if ("Reader":Str)="Reader" /\ rN=rN then (m l ds _).map _ else ab)=_;rw[if_pos ⟨rfl,rfl⟩,c];rfl
def EC(l:Addr)(W:L2N)(p:Nat)(tl:LS):lG 0 "Reader" "words" (rd l W p::tl)=aa (.lst (wD W)):=rfl
def K0(l:Addr)(W:L2N)(p:Nat)(tl:LS):lG 0 "Reader" "place" (rd l W p::tl)=aa (.int ((p:Nat):Int)):=rfl
def K1(l:Addr)(W:L2N)(p:Nat)(tl:LS):sM 0 "Reader" "place" (kI 1) (rd l W p::tl)=aa (.nx (rd l W (p+1)::tl)):=rfl
variable{b:Bool}
def qH{f:Xe}(h:f U=aa (.bl b,ρ1)):f7 f U=aa (b,ρ1):=by
 unfold f7;rw[h];rfl
def Vh{f:Xt}(h:f U=aa (b,ρ1)):sN f U=aa (!b,ρ1):=by
 unfold sN;rw[h];rfl
def lW{t:Xt}{f g:Xe}{r:Option (D×LS)}(h:t U=aa (b,ρ1))(c:b=ac->f ρ1=r)(a:b=ag->g ρ1=r):kP t f g U=r:=by
 unfold kP;rw[h,aG]
 cases b with
 |true=>exact c rfl
 |false=>exact a rfl
def neT(a b:LN):dNe (sT a) (sT b)=aa (.bl (!decide (a=b))):=by
 show aa (D.bl (!(tx a==tx b)))=_
 congr 3
 apply iA.mpr;rw[beq_iff_eq,decide_eq_true_iff];exact⟨gM,λe=>by rw[e]⟩
def K2(W:L2N):cY [.lst (wD W)]=aa (.int W.length):=iK W sT
def Vi(l:Addr)(W:L2N)(p b:Nat):m_3 l [.int ((b:Nat):Int)] (fls W p)=aa (fls W p,sT (W.getD (p+b) [])):=by
 refine fD ?_;apply ak;refine cf (aA (K0 l W p _) rfl hE) ?_;refine fP (vU (aY (aA rfl (aS (ai (EC l W p _) rfl) (K2 W)) pN)) (λe=>?_) λe=>?_) eV
 .have h:=of_decide_eq_true e;have a:p+b<W.length:=by lia
  refine aw (b8 (EC l W p _) rfl) rfl ?_;unfold atI ixN;rw[if_pos (by lia),if_pos (by unfold wD;rw[ay];lia),aG];have c:(p+(b:Int)).toNat=p+b:=by lia
  unfold wD;rw[c,gf,dE a,fF,dE a];rfl
 .have h:=of_decide_eq_false e;rw[fF,yU (by lia)];rfl
def lX(l:Addr)(W:L2N)(p b:Nat)(tl:LS)(a:f (rd l W p::tl)=aa (.int ((b:Nat):Int))):aW 0 "Reader" "coming" rN m_3 (ao (mX f) aq) (rd l W p::tl)=aa (sT (W.getD (p+b) []),rd l W p::tl):=jk rfl (aQ (aN a) rfl) (Vi l W p b)
variable{z:LN}
def K3{W:L2N}(h:W.getD p []=z):m_1 l [sT z] (fls W p)=aa (fls W (p+1),.bl ac):=by
 refine fD ?_;apply ak;refine iN (b:=ag) (bxX (cU (lX l W p 0 _ rfl) (aN rfl) ((neT _ _).trans (by rw[lb,decide_eq_true h];rfl)))) (λe=>by nomatch e) λ_=>bm ?_;apply ak;exact mL (K1 l W p _) (fP rfl eV)
def Vj{W:L2N}(h:W.getD p []≠z):m_1 l [sT z] (fls W p)=aa (fls W p,.bl ag):=by
 refine fD ?_;apply ak;exact iN (b:=ac) (bxX (cU (lX l W p 0 _ rfl) (aN rfl) ((neT _ _).trans (by rw[lb,decide_eq_false h];rfl)))) (λ_=>(fP rfl eV)) λe=>by nomatch e
def uz(l:Addr)(W:L2N)(p:Nat):oE l [] (fls W p)=aa (fls W (p+1),sT (W.getD p [])):=by
 refine fD ?_;apply ak;refine dA (lX l W p 0 _ rfl) ?_;apply ak;exact mL (K1 l W p _) (fP rfl eV)
def Vk{W:L2N}(h:W.getD p []=z):m_7 l [sT z] (fls W p)=aa (fls W (p+1),.non):=by
 refine fD ?_;refine iN (Vh (qH (jk rfl (aQ (aN rfl) rfl) (K3 h)))) (λe=>by nomatch e) λ_=>bm KZ
def Vl{W:L2N}(h:W.length<=p):Db l [] (fls W p)=aa (fls W p,.non):=by
 refine fD ?_;refine aX (b:=ag) (aY (aA (K0 l W p _) (aS (ai (EC l W p _) rfl) (K2 W)) (pN.trans (by congr 2;exact decide_eq_false (by lia))))) (λe=>by nomatch e) λ_=>bm KZ
nonrec def hd(ys:L2N):LN:=ys.headD []
abbrev Rds(m:Addr->LD->LD->Option (LD×D))(bad M:L2N)(d:D):Prop:=∀l W p post,W.drop p=M++post->hd post∉bad->m l [] (fls W p)=aa (fls W (p+M.length),d)
def Vm{W ys:L2N}(h:W.drop p=ys)(b:Nat):W.getD (p+b) []=ys.getD b []:=by
 rw[<- h,fF,fF,List.getElem?_drop]
def ED{W ys:L2N}(h:W.drop p=ys):W.getD p []=hd ys:=by
 have:=Vm h 0;rw[lb]at this;rw[this]
 cases ys <;> rfl
variable{x:LN}
def jS{W ys:L2N}(h:W.drop p=x::ys):W.getD p []=x:=ED h
def jT{W M post:L2N}(h:W.drop p=M++post):W.drop (p+M.length)=post:=by
 rw[<- drop_drop,h,drop_left]
def m6{W post:L2N}(h:W.drop p=x::post):W.drop (p+1)=post:=jT (M:=[x]) h
variable{bad post:L2N}
def fS(R:Rds m bad M d)(hn:rN.contains nm=ag){W:L2N}(h:W.drop p=M++post)(a:hd post∉bad):aW 0 "Reader" nm rN m aq (rd l W p::tl)=aa (d,rd l W (p+M.length)::tl):=jk hn rfl (R l W p post h a)
variable{z:Str}
def K4{W post:L2N}(hz:D.str z=sT x)(h:W.drop p=x::post):aW 0 "Reader" "must_pass" rN m_7 (ao (mX (λ_=>aa (.str z))) aq) (rd l W p::tl)=aa (.non,rd l W (p+1)::tl):=jk rfl (aQ (aN (congrArg aa hz)) rfl) (Vk (jS h))
def yH{W post:L2N}(hz:D.str z=sT x)(h:W.drop p=x::post):f7 (aW 0 "Reader" "passes" rN m_1 (ao (mX (λ_=>aa (.str z))) aq)) (rd l W p::tl)=aa (ac,rd l W (p+1)::tl):=qH (jk rfl (aQ (aN (congrArg aa hz)) rfl) (K3 (jS h)))
def noX{W post:L2N}(hz:D.str z=sT x)(h:W.drop p=post)(a:hd post≠x):f7 (aW 0 "Reader" "passes" rN m_1 (ao (mX (λ_=>aa (.str z))) aq)) (rd l W p::tl)=aa (ag,rd l W p::tl):=qH (jk rfl (aQ (aN (congrArg aa hz)) rfl) (Vj (by rw[ED h];exact a)))
def cmS:D.str ","=sT [44]:=by rw[cmT]
def opS:D.str "("=sT [40]:=by rw[opT]
def clS:D.str ")"=sT [41]:=by rw[clT]
def EE(h:c8 w=ac):Rds m_8 [] [w] (sT w):=λl W p post hd _=>by
 have a:=oQ h;refine fD ?_;apply ak;refine dA (jk rfl rfl (uz l W p)) ?_;rw[jS hd];apply ak;exact aX (sv (il (aS rfl (UT w (by lia) (yF (qG h)))) (by rw[h];rfl))) (λe=>by nomatch e) λ_=>bm (fP rfl eV)
def Vn(h:gA w=ac):Rds xh [] [w] (sT w):=λl W p post hd _=>by
 have a:=Ky h;refine fD ?_;apply ak;refine dA (jk rfl rfl (uz l W p)) ?_;rw[jS hd];apply ak;exact aX (sv (il (aS rfl (D8 w (by lia) (yF (U1 h)))) (by rw[h];rfl))) (λe=>by nomatch e) λ_=>bm (fP rfl eV)
def K5(h:dC n):Rds ql [] [bO n] (.int n):=λl W p post hd _=>by
 have a:=lT h;refine fD ?_;apply ak;refine dA (jk rfl rfl (uz l W p)) ?_;rw[jS hd];apply ak;exact aX (sv (il (aS rfl (Eu _ (by lia) (KH n))) (by rw[KC h];rfl))) (λe=>by nomatch e) λ_=>bm (fP (UX h) eV)
def Vo(h:gD w=ac):Rds qm [] [w] (sT w):=λl W p post hd a=>by
 have b:=yC h;refine fD ?_;refine eZ (lW (qH (qv (aQ (lX l W p 0 [] rfl) rfl) ?_)) (λe=>(fS (Vn e) rfl hd a)) λe=>?_) eV
 .rw[lb,jS hd];exact D8 w (by lia) (yF h)
 .unfold gD at h;rw[e,Bool.false_or]at h;exact fS (EE h) rfl hd a
abbrev tlW{a:Type}(c:LN)(g:a->L2N)(W3:List a):L2N:=W3.flatMap λx=>c::g x
def K6{a:Type}(c:LN)(g:a->L2N):∀(x:a) (W3:List a),gl [c] ((x::W3).map g)=g x++tlW c g W3
 |x,[]=>by show g x=g x++[];rw[cr]
 |x,y::W3=>by
  show g x++[c]++gl [c] ((y::W3).map g)=g x++(c::g y++tlW c g W3);rw[K6 c g y W3];simp
variable{α:Type}{g:α->L2N}{toD:α->L2.D}{c:LN}{cs:Str}
def K7{W:L2N}(hn:rN.contains nm=ag)(hz:D.str cs=sT c)(j:c∉bad){post:L2N}(f:hd post∉bad)(q:hd post≠c):∀(W3:List α) (n p:Nat) (a:LD),(∀x∈W3,Rds m bad (g x) (toD x))->W3.length<n->a.length+W3.length<=1000->W.drop p=tlW c g W3++post ->
  gL (f7 (aW 0 "Reader" "passes" rN m_1 (ao (mX (λ_=>aa (.str cs))) aq))) (gz 1 (aW 0 "Reader" nm rN m aq)) n [rd l W p,.own a]=aa (.nx [rd l W (p+(tlW c g W3).length),.own (a++W3.map toD)])
 | [],n+1,p,a,_,_,_,h=>by
  unfold gL;rw[noX hz h q,aG];show aa _=aa (Fl.nx [rd l W (p+0),.own (a++[])])
  rw[cr,lb]
 |x::W3,n+1,p,a,hR,hl,ha,h=>by
  have d:W.drop p=c::(g x++(tlW c g W3++post)):=by
   rw[h];show(c::g x++tlW c g W3)++post=_;simp
  have e:=m6 d
  have b:hd (tlW c g W3++post)∉bad:=by
   cases W3 with
   |nil=>exact f
   |cons y W3=>exact j
  obtain⟨o,t,v⟩:=t8 (i:=1) rfl (fS (hR x bB) hn (tl:=[.own a]) e b) rfl (by simp only[bg]at ha;lia) rfl;subst v;unfold gL;rw[yH hz d,aG,t,aG];show gL _ _ n [rd l W _,.own _]=_;rw[(K7 hn hz j f q W3 n _ _ (λy u=>hR y (cD _ u)) (by simp only[bg]at hl;lia) (by simp only[bg,aI,gY]at ha ⊢;lia) (jT e))]
  have r:(tlW c g (x::W3)).length=1+(g x).length+(tlW c g W3).length:=by
   show(c::g x++tlW c g W3).length=_;simp only[aI,bg];lia
  rw[r,eL,cL];have s:p+1+(g x).length+(tlW c g W3).length=p+(1+(g x).length+(tlW c g W3).length):=by lia
  rw[s];rfl
def EF{W:L2N}{bH:MF3}(W3:List α)(hn:rN.contains nm=ag)(hz:D.str cs=sT c)(d:c∉bad)(b:hd post∉bad)(i:hd post≠c)(hR:∀x∈W3,Rds m bad (g x) (toD x))(f:W3≠[])(e:W3.length<=900)(h:W.drop p=gl [c] (W3.map g)++post)(k:wp bH [rd l W (p+(gl [c] (W3.map g)).length),.own (W3.map toD)] K):
  wp (am (lH 1 (aW 0 "Reader" nm rN m aq)) (am (gL (f7 (aW 0 "Reader" "passes" rN m_1 (ao (mX (λ_=>aa (.str cs))) aq))) (gz 1 (aW 0 "Reader" nm rN m aq)) 1000000000) bH)) [rd l W p,.no] K:=by
 cases W3 with
 |nil=>exact absurd rfl f
 |cons x W3=>
  rw[K6]at h k;rw[cL]at h
  have a:hd (tlW c g W3++post)∉bad:=by
   cases W3 with
   |nil=>exact b
   |cons y W3=>exact d
  apply ak;refine mL (o:=.nx [rd l W (p+(g x).length),.own [toD x]]) ?_ ?_
  .unfold lH;rw[fS (hR x bB) hn h a];rfl
  .show wp _ _ _;apply ak;refine mL (K7 hn hz d b i W3 1000000000 _ _ (λy j=>hR y (cD _ j)) (by simp only[bg]at e;lia) (by simp only[bg,gY]at e ⊢;lia) (jT h)) ?_;rw[aI,<- Nat.add_assoc]at k;exact k
def EG{W:L2N}:vN 1 [rd l W p,.own ds]=[rd l W p,.im (.lst ds)]:=rfl
def Vp(M:LD)(n:Nat)(h:M.length<=n):qk [.lst M,.int ((n:Nat):Int)]=aa (.lst M):=by
 apply bK;unfold xi;show wp _ [.im (.lst M),.im (.int ((n:Nat):Int))] _;apply ak;refine aX (b:=ag) (aY (aA (aS rfl (show cY [.lst M]=aa (.int M.length)from rfl)) rfl (jH.trans (by congr 2;exact decide_eq_false (by lia))))) (λe=>by cases e) λ_=>bm ?_;exact n4 rfl (b9 rfl)
def Vq{b:L2N}(h:∀a∈b,gD a=ac)(hn:b≠[])(f:b.length<=3):Rds Do [] (gl [[44]] (b.map λa=>[a])++[[41]]) (.lst (b.map sT)):=λl W p post hd j=>by
 have d:W.drop p=gl [[44]] (b.map λa=>[a])++([41]::post):=by rw[hd];simp
 have e:=jT d;refine fD ?_;unfold xm;show wp _ [rd l W p,.no] _;refine EF (c:=[44]) (g:=λa=>[a]) (toD:=sT) (bad:=[]) (post:=[41]::post) b rfl cmS (by simp) (by simp) (show([41]:LN)≠[44] by decide) (λx i=>Vo (h x i)) hn (by lia) d ?_;apply ak;refine AD (K4 clS e) ?_;show wp _ [rd l W (p+(gl [[44]] (b.map λa=>[a])).length+1),.own (b.map sT)] _;refine io EG ?_;refine fP (aS (ai rfl (ai rfl rfl)) (Vp _ 3 (by rw[ay];exact f))) ?_;rw[aI,e7,<- Nat.add_assoc];exact eV
variable{t:Th}
def yI(h:ThG t):Rds oF [[40]] (dL t) (kdD t):=λl W p post hd o=>by
 obtain⟨f,j,m⟩:=h;refine fD ?_;unfold xo;show wp _ [rd l W p,.no] _;unfold dL at hd ⊢;apply ak
 by_cases e:t.2=[]
 .rw[if_pos e]at hd ⊢;refine dA (fS (EE f) rfl (show W.drop p=[t.1]++post from hd) (by simp)) ?_;show wp _ [rd l W (p+1),.im (sT t.1)] _;have c:=m6 (show W.drop p=t.1::post from hd);refine eZ (d:=kdD t) (ge (aQ (aN rfl) (aQ (lW (b:=ag) (r:=aa (.lst (t.2.map sT),[rd l W (p+1),.im (sT t.1)])) (noX opS c λz=>o (by rw[z];exact bB)) (λe=>by cases e) λ_=>by rw[e];exact aN rfl) rfl))) eV
 .rw[if_neg e]at hd ⊢;have c:W.drop p=[t.1]++([40]::(gl [[44]] (t.2.map λa=>[a])++[[41]]++post)):=by rw[hd];rfl
  have g:=jT c;have n:=m6 g;refine dA (fS (EE f) rfl c (by simp)) ?_;show wp _ [rd l W (p+1),.im (sT t.1)] _;refine eZ (d:=kdD t) (ge (aQ (aN rfl) (aQ (lW (b:=ac) (yH opS g) (λ_=>fS (Vq (λa ha=>qG (j a ha)) e m) rfl n (by simp)) λe=>by cases e) rfl))) ?_;have i:∀q:Nat,p+(q+1+1)=p+1+1+q:=λq=>by lia
  rw[bg,bg,i];exact eV
def Vr{z:Ti}(h:ItG z):Rds xq [[40]] (oS z) (dY z):=λl W p post hd m=>by
 obtain⟨c,j⟩:=h;refine fD ?_;unfold xp;show wp _ [rd l W p,.no] _;unfold oS at hd ⊢;apply ak
 have a:∀q:Nat,wp (am (bu (mB (m2 dLt (ae 1) (kI 0))) (λ_=>ab) bw) (c7 (eD (ao (aW 0 "Reader" "read_thing" rN oF aq) (ao (mX (ae 1)) aq))))) [rd l W q,.im (.int z.2)] (kR l W (q+(dL z.1).length) (dY z))\/¬W.drop q=dL z.1++post:=λq=>by
  by_cases i:W.drop q=dL z.1++post
  .left;apply ak;refine aX (b:=ag) (aY (aA rfl rfl (pN.trans (by congr 2;exact decide_eq_false (by lia))))) (λe=>by cases e) λ_=>bm ?_;exact eZ (ge (aQ (fS (yI c) rfl i m) (aQ (aN rfl) rfl))) eV
  .exact .inr i
 by_cases e:z.2=1
 .rw[if_pos e,jm]at hd ⊢;have o:W.getD p []=z.1.1:=jS (show W.drop p=z.1.1::_ from hd);have n:=oQ c.1;refine dA (lW (b:=ag) (r:=aa (.int z.2,[rd l W p,.no])) (qH (qv (aQ (lX l W p 0 [.no] rfl) rfl) ?_)) (λe=>by cases e) λ_=>by rw[e];exact aN rfl) ?_
  .rw[lb,o,Eu _ (by lia) (yF (qG c.1)),U2 c.1]
  .exact(a p).resolve_right λq=>q hd
 .rw[if_neg e]at hd ⊢;have f:dC z.2:=⟨by have g:(0:Int)<10 ^ 30:=(by decide);lia,j.2⟩;have n:=lT f;have d:W.drop p=[bO z.2]++(dL z.1++post):=by rw[hd];rfl
  have g:=jT d;refine dA (lW (b:=ac) (r:=aa (.int z.2,[rd l W (p+1),.no])) (qH (qv (aQ (lX l W p 0 [.no] rfl) rfl) ?_)) (λ_=>fS (K5 f) rfl d (by simp)) λe=>by cases e) ?_
  .rw[lb,jS (show W.drop p=bO z.2::_ from d),Eu _ (by lia) (KH _),KC f]
  .have:=(a (p+1)).resolve_right λq=>q g;rw[aI,e7,<- Nat.add_assoc];exact this
def Vs{its:List Ti}(h:∀z∈its,ItG z)(hn:its≠[])(b:its.length<=900):Rds xt [[40],[44]] (lV its) (.lst (its.map dY)):=λl W p post hd a=>by
 refine fD ?_;unfold xr;show wp _ [rd l W p,.no] _;refine EF (c:=[44]) (g:=oS) (toD:=dY) (bad:=[[40]]) its rfl cmS (by decide) (λz=>a ?_) (λe=>a (by rw[e];decide)) (λx d=>Vr (h x d)) hn b hd ?_
 .rw[bi.mp z];decide
 refine io EG ?_;exact fP rfl eV
def Vt:Rds xv [cw "over"] [] (.lst []):=λl W p post hd a=>by
 refine fD ?_;unfold xu;show wp _ [rd l W p] _;exact eZ (lW (b:=ag) (noX (cwD "over") (show W.drop p=post from hd) λz=>a (by rw[z];exact bB)) (λe=>by cases e) λ_=>aN rfl) eV
def K8:Rds tO [cw "for"] [] (.lst []):=λl W p post hd a=>by
 refine fD ?_;unfold xj;show wp _ [rd l W p] _;exact eZ (lW (b:=ag) (noX (cwD "for") (show W.drop p=post from hd) λz=>a (by rw[z];exact bB)) (λe=>by cases e) λ_=>aN rfl) eV
def Vu{w:Bool}{its:List Ti}(h:PaG (.ct w n its ov)):Rds Dr [[40],[44],cw "over"] (pWd (.ct w n its ov)) (Pa.toD (.ct w n its ov)):=λl W p post hd i=>by
 obtain⟨m,o,g,q⟩:=(show dC n/\(∀z∈its,ItG z)/\(0<its.length/\its.length<=27)/\ov=[]from h);subst q;have hn:its≠[]:=λe=>by rw[e]at g;exact absurd g.1 (by decide)
 have a:W.drop p=cw (leS w)::([bO n]++(cw "of" :: (lV its++post))):=by
  rw[hd];show[cw (leS w),bO n,cw "of"]++lV its++post=_;simp
 have b:=m6 a;have c:=jT b;have f:=m6 c;have j:=jT f;refine fD ?_;unfold xw;show wp _ [rd l W p,.no,.no] _;apply ak;refine dA (jk (p:=p) rfl rfl (uz l W p)) ?_;rw[jS a];show wp _ [rd l W (p+1),.im (sT (cw (leS w))),.no] _;apply ak;refine dA (fS (K5 m) rfl b (by simp)) ?_;show wp _ [rd l W (p+1+1),.im (sT (cw (leS w))),.im (.int n)] _;apply ak;refine AD (K4 (cwD "of") c) ?_;show wp _ [rd l W (p+1+1+1),.im (sT (cw (leS w))),.im (.int n)] _;refine eZ (d:=Pa.toD (.ct w n its [])) (ρ1:=[rd l W (p+1+1+1+(lV its).length),.im (sT (cw (leS w))),.im (.int n)]) ((ge (aQ (aN rfl) (aQ (aN rfl) (aQ (fS (Vs o hn (by lia)) rfl f λz=>i ?_) (aQ (fS (M:=[]) Vt rfl j λz=>i ?_) rfl))))).trans ?_) ?_
 .rcases bZ.mp z with e |e
  .rw[e];simp
  .rw[bi.mp e];simp
 .rw[bi.mp z];simp
 .show aa (D.tup [sT (cw (leS w)),.int n,.lst (its.map dY),.lst []],_)=aa (D.tup [.str (if w then "least" else "most"),.int n,.lst (its.map dY),.lst []],_);rw[show D.str (if w then "least" else "most")=sT (cw (leS w))from cwD _];rfl
 .have e:p+(pWd (.ct w n its [])).length=p+1+1+1+(lV its).length:=by
   show p+([cw (leS w),bO n,cw "of"]++lV its).length=_;simp only[aI,bg,gY];lia
  rw[e];exact eV
def Vv:∀k∈kpW,k≠[]/\∀x∈k,97<=x:=by decide +kernel
def EH(h:gD w=ac)(a:k∈kpW):w≠k:=λe=>by
 subst e;unfold gD at h;rw[gV]at h
 rcases h with h |h
 .obtain⟨_,c,r,rfl,b⟩:=KF h;have:=(Vv _ a).2 c bB;lia
 .unfold c8 at h;rw[cV]at h;have:kept w=ac:=any_eq_true.mpr ⟨w,a,beq_self_eq_true _⟩;rw[this]at h;exact absurd h.2 (by decide)
def Vw:cw "not" ∈ kpW:=by decide +kernel
def Vx:cw "least" ∈ kpW:=by decide +kernel
def Vy:cw "most" ∈ kpW:=by decide +kernel
def Vz(c:w≠cw "least")(d:w≠cw "most"):dIn (sT w) (.tup [.str "least",.str "most"])=aa (.bl ag):=by
 have a:(("least":Str)==tx w)=ag:=beq_eq_false_iff_ne.mpr λe=>c (gM (e.symm.trans (cwT "least")));have b:(("most":Str)==tx w)=ag:=beq_eq_false_iff_ne.mpr λe=>d (gM (e.symm.trans (cwT "most")));show aa (D.bl ((("least":Str)==tx w) || ((("most":Str)==tx w) || false)))=_;rw[a,b];rfl
def VA(b:Bool):dIn (sT (cw (leS b))) (.tup [.str "least",.str "most"])=aa (.bl ac):=by
 rw[<- cwD]
 cases b <;> rfl
nonrec def bdP:L2N:=[[40],[44],cw "over",cw "unlike"]
def VB:([40]:LN)≠cw "unlike":=by decide +kernel
def VC(w:Bool):cw (leS w)≠cw "not":=by cases w <;> decide +kernel
def VD{q:Pa}(h:PaG q):Rds xz bdP (pWd q) q.toD:=λl W p post hd f=>by
 refine fD ?_;unfold xy;show wp _ [rd l W p] _;apply ak
 cases q with
 |no t=>
  have c:W.drop p=cw "not" :: (dL t++post):=hd;have i:=m6 c;refine iN (b:=ac) (yH (cwD "not") c) (λ_=>?_) λe=>by cases e
  refine eZ (ge (aQ (aN rfl) (aQ (fS (yI (show ThG t from h)) rfl i λz=>f (by rw[bi.mp z];exact bB)) rfl))) ?_;show kR l W (p+((dL t).length+1)) _ _;rw[show p+((dL t).length+1)=p+1+(dL t).length by lia]
  exact eV
 |ct w n its ov=>
  have c:W.drop p=cw (leS w)::([bO n,cw "of"]++lV its++post):=hd;refine iN (b:=ag) (noX (cwD "not") c (VC w)) (λe=>by cases e) λ_=>bm ?_;show wp _ [rd l W p] _;apply ak;refine iN (b:=ac) (ρ1:=[rd l W p]) (bxX (cU (lX l W p 0 [] rfl) (aN rfl) (by rw[lb,jS c];exact VA w))) (λ_=>?_) λe=>by cases e
  refine eZ (fS (Vu h) rfl hd λz=>f ?_) eV
  rcases bZ.mp z with e |z
  .rw[e];simp
  rcases bZ.mp z with e |z
  .rw[e];simp
  .rw[bi.mp z];simp
 |un a b=>exact h.elim
 |is t=>
  have g:ThG t:=h;have hn:=qG g.1;have c:W.drop p=t.1::((if t.2=[] then [] else [40]::(gl [[44]] (t.2.map λa=>[a])++[[41]]))++post):=hd;refine iN (b:=ag) (noX (cwD "not") c (EH hn Vw)) (λe=>by cases e) λ_=>bm ?_;show wp _ [rd l W p] _;apply ak;refine iN (b:=ag) (ρ1:=[rd l W p]) (bxX (cU (lX l W p 0 [] rfl) (aN rfl) (by rw[lb,jS c];exact Vz (EH hn Vx) (EH hn Vy)))) (λe=>by cases e) λ_=>bm ?_;show wp _ [rd l W p] _;apply ak
  have j:W.getD (p+1) []≠cw "unlike":=by
   rw[ED (m6 c)];split
   .exact λz=>f (by rw[show N_k86.hd post=cw "unlike" from z];simp)
   .exact VB
  refine iN (b:=ag) (ρ1:=[rd l W p]) (bxX (cU (lX l W p 1 [] rfl) (aN (d:=sT (cw "unlike")) (congrArg aa (cwD "unlike"))) ((eqT _ _).trans (by rw[decide_eq_false j])))) (λe=>by cases e) λ_=>bm ?_;show wp _ [rd l W p] _;exact eZ (ge (aQ (aN rfl) (aQ (fS (yI g) rfl (show W.drop p=dL t++post from hd) λz=>f (by rw[bi.mp z];exact bB)) rfl))) eV
nonrec def bdB:L2N:=[cw "and",[40],[44],cw "over",cw "unlike"]
def VE:cw "and" ∉ bdP:=by decide +kernel
def K9(h:BdG bd)(hn:bd≠[]):Rds xB bdB (bWd bd) (.lst (bd.map Pa.toD)):=λl W p post hd a=>by
 refine fD ?_;unfold xA;show wp _ [rd l W p,.no] _;refine EF (c:=cw "and") (g:=pWd) (toD:=Pa.toD) (bad:=bdP) bd rfl (cwD "and") VE (λz=>a (cD _ z)) (λe=>a (by rw[e];exact bB)) (λx b=>VD (h.1 x b)) hn (by have:=h.2;lia) hd ?_;refine io EG ?_;exact fP rfl eV
def VF(h:BdG bd):Rds xD (cw "if" :: bdB) (gQ (cw "if") (bWd bd)) (.lst (bd.map Pa.toD)):=λl W p post hd a=>by
 refine fD ?_;unfold xC;show wp _ [rd l W p] _
 by_cases e:bd=[]
 .subst e;exact eZ (lW (b:=ag) (noX (cwD "if") (show W.drop p=post from hd) λz=>a (by rw[z];exact bB)) (λe=>by cases e) λ_=>aN rfl) eV
 .have c:gQ (cw "if") (bWd bd)=cw "if" :: bWd bd:=if_neg λz=>e (KM.mp z);rw[c]at hd ⊢;have d:=m6 (show W.drop p=cw "if" :: (bWd bd++post)from hd);refine eZ (lW (b:=ac) (yH (cwD "if") hd) (λ_=>fS (K9 h e) rfl d λz=>a (cD _ z)) λe=>by cases e) ?_;rw[bg,show p+((bWd bd).length+1)=p+1+(bWd bd).length by lia];exact eV
def VG(q:Pa)(h:PaG q):m2 dEq (mIx (au 0) (kI 0)) (kSt "unlike") [.im q.toD]=aa (.bl ag):=by
 cases q with
 |is t=>rfl
 |no t=>rfl
 |un a b=>exact h.elim
 |ct w n its ov=>cases w <;> rfl
def VH{α:Type}(bd:List α)(h:bd≠[]):(bd.map λ_=>ag).all id=ag:=by
 cases bd with
 |nil=>exact absurd rfl h
 |cons a b=>rfl
def VI(a:BdG bd)(hn:bd≠[]){W:L2N}(hd:W.drop p=bWd bd):Dv l [] (fls W p)=aa (fls W (p+(bWd bd).length),Ro.toD (.never bd [])):=by
 have c:W.drop p=bWd bd++[]:=by rw[cr];exact hd
 have f:=jT c;have i:=a.2;refine fD ?_;unfold xE;show wp _ [rd l W p,.no] _;apply ak;refine dA (fS (K9 a hn) rfl c (by decide +kernel)) ?_;show wp _ [rd l W (p+(bWd bd).length),.im (.lst (bd.map Pa.toD))] _;apply ak
 have g:bx 1 [] (bn (ae 1)) (aH 0) kY (m2 dEq (mIx (au 0) (kI 0)) (kSt "unlike")) [rd l W (p+(bWd bd).length),.im (.lst (bd.map Pa.toD))]=aa ((bd.map λ_=>ag).map D.bl):=by
  rw[map_map];exact fZ bd Pa.toD _ rfl (by lia) λq h=>fu rfl rfl (VG q (a.1 q h))
 refine aX (b:=ag) (il (d:=.bl ((bd.map λ_=>ag).all id)) (aS (ai (b6 g) rfl) (JM _)) (by rw[VH bd hn];rfl)) (λe=>by cases e) λ_=>bm ?_;refine eZ (d:=Ro.toD (.never bd [])) (ρ1:=[rd l W (p+(bWd bd).length),.im (.lst (bd.map Pa.toD))]) (ge (aQ (aN rfl) (aQ (aN rfl) (aQ (fS (M:=[]) K8 rfl (post:=[]) f (by decide +kernel)) rfl)))) eV
def VJ(c:w≠cw "rule")(d:w≠cw "may"):dIn (sT w) (.tup [.str "rule",.str "may"])=aa (.bl ag):=by
 have a:(("rule":Str)==tx w)=ag:=beq_eq_false_iff_ne.mpr λe=>c (gM (e.symm.trans (cwT "rule")));have b:(("may":Str)==tx w)=ag:=beq_eq_false_iff_ne.mpr λe=>d (gM (e.symm.trans (cwT "may")));show aa (D.bl ((("rule":Str)==tx w) || ((("may":Str)==tx w) || false)))=_;rw[a,b];rfl
def VL(b:Bool):dIn (sT (cw (ruS b))) (.tup [.str "rule",.str "may"])=aa (.bl ac):=by
 rw[<- cwD]
 cases b <;> rfl
def eqC(w:LN)(z:Str):dEq (sT w) (.str z)=aa (.bl (decide (w=cw z))):=by rw[cwD z];exact eqT _ _
def VM(bd:List Pa):hd (gQ (cw "if") (bWd bd))=cw "if" \/ hd (gQ (cw "if") (bWd bd))=[]:=by
 unfold gQ;split
 .exact .inr rfl
 .exact .inl rfl
def VN(h:RoG r)(l:Addr):Dw l [] (fls (hX r) 0)=aa (fls (hX r) (hX r).length,r.toD):=by
 refine fD ?_;unfold xF;show wp _ [rd l (hX r) 0,.no] _;apply ak;refine dA (jk (p:=0) rfl rfl (uz l (hX r) 0)) ?_
 cases r with
 |kind n ns=>exact h.elim
 |choose a b c d e f=>exact h.elim
 |rule b t bd ps=>
  obtain⟨j,m,o⟩:=(show ThG t/\BdG bd/\ps=[]from h);subst o;show wp _ [rd l (cw (ruS b)::(dL t++gQ (cw "if") (bWd bd))) (0+1),.im (sT (cw (ruS b)))] _;have i:(cw (ruS b)::(dL t++gQ (cw "if") (bWd bd))).drop (0+1)=dL t++gQ (cw "if") (bWd bd):=rfl;have s:=jT i;have g:(cw (ruS b)::(dL t++gQ (cw "if") (bWd bd))).drop (0+1+(dL t).length)=gQ (cw "if") (bWd bd)++[]:=by rw[cr];exact s
  have u:=jT g;have w:=VM bd;generalize v:cw (ruS b)::(dL t++gQ (cw "if") (bWd bd))=W at i s g u;have q:W.length=0+1+(dL t).length+(gQ (cw "if") (bWd bd)).length:=by rw[<- v,bg,aI];lia
  apply ak
  refine aX (b:=ag) (aY (aA rfl rfl ((eqC _ _).trans (by rw[decide_eq_false (by cases b <;> decide +kernel)])))) (λe=>by cases e) λ_=>bm ?_
  show wp _ [rd l W (0+1),.im (sT (cw (ruS b)))] _;apply ak;refine aX (b:=ac) (aY (aA rfl rfl (VL b))) (λ_=>?_) λe=>by cases e
  refine eZ (d:=Ro.toD (.rule b t bd [])) (ρ1:=[rd l W (0+1+(dL t).length+(gQ (cw "if") (bWd bd)).length),.im (sT (cw (ruS b)))]) ((ge (aQ (aN rfl) (aQ (fS (yI j) rfl i λz=>?_) (aQ (fS (VF m) rfl g (by decide +kernel)) (aQ (fS (M:=[]) K8 rfl (post:=[]) u (by decide +kernel)) rfl))))).trans ?_) ?_
  .rcases w with e |e <;> (rw[e]at z;revert z;decide +kernel)
  .show aa (D.tup [sT (cw (ruS b)),kdD t,.lst (bd.map Pa.toD),.lst []],_)=aa (D.tup [.str (if b then "rule" else "may"),kdD t,.lst (bd.map Pa.toD),.lst []],_);rw[show D.str (if b then "rule" else "may")=sT (cw (ruS b))from cwD _];rfl
  .have:hX (.rule b t bd [])=W:=v;rw[this,q]
   exact eV
 |never bd ps=>
  obtain⟨j,m,o⟩:=(show BdG bd/\bd≠[]/\ps=[]from h);subst o;show wp _ [rd l (cw "never" :: bWd bd) (0+1),.im (sT (cw "never"))] _;have i:(cw "never" :: bWd bd).drop (0+1)=bWd bd:=rfl;apply ak;refine aX (b:=ag) (aY (aA rfl rfl ((eqC _ _).trans (by rw[decide_eq_false (by decide +kernel)])))) (λe=>by cases e) λ_=>bm ?_;show wp _ [rd l (cw "never" :: bWd bd) (0+1),.im (sT (cw "never"))] _;apply ak;refine aX (b:=ag) (aY (aA rfl rfl (VJ (by decide +kernel) (by decide +kernel)))) (λe=>by cases e) λ_=>bm ?_;show wp _ [rd l (cw "never" :: bWd bd) (0+1),.im (sT (cw "never"))] _;apply ak;refine aX (b:=ag) (aY (aA rfl rfl ((eqC _ _).trans (by rw[decide_eq_false (by decide +kernel)])))) (λe=>by cases e) λ_=>bm ?_;show wp _ [rd l (cw "never" :: bWd bd) (0+1),.im (sT (cw "never"))] _;apply ak;refine aX (b:=ac) (aY (aA rfl rfl ((eqC _ _).trans (by rw[decide_eq_true rfl])))) (λ_=>?_) λe=>by cases e
  have em:=VI j m (l:=l) (W:=cw "never" :: bWd bd) (p:=0+1) i;refine eZ (jk (ds:=[]) rfl rfl em) ?_;show kR l (hX (.never bd [])) (cw "never" :: bWd bd).length _ _;rw[bg,show(bWd bd).length+1=0+1+(bWd bd).length by lia];exact eV
open Classical in
def La{W:L2N}{q:Nat}{a b:Sl}(hn:rN.contains nm=ag)(h:∀l,m l [] (fls W p)=aa (fls W q,d)):om 1 "Reader" nm rN m aq [a,.obj "Reader" rN (fls W p),b]=aa (d,[a,.obj "Reader" rN (fls W q),b]):=by
 unfold om;show(if ("Reader":Str)="Reader" /\ rN=rN/\rN.contains nm=ag then _ else ab)=_;rw[if_pos ⟨rfl,rfl,hn⟩];show(if ("Reader":Str)="Reader" /\ rN=rN then (if h:∃q,∀l,m l [] (fls W p)=aa q then aa (h.choose.2,[a,.obj "Reader" rN h.choose.1,b]) else ab) else ab)=_;rw[if_pos ⟨rfl,rfl⟩,dif_pos ⟨(fls W q,d),h⟩]
 have e:(⟨(fls W q,d),h⟩:∃q,∀l,m l [] (fls W p)=aa q).choose=(fls W q,d):=by
  have:=(⟨(fls W q,d),h⟩:∃q,∀l,m l [] (fls W p)=aa q).choose_spec 0;rw[h 0]at this;exact cN this.symm
 rw[e]
def VO(h:RoG r):xH [.str (tx (roX r))]=aa r.toD:=by
 apply bK;unfold xG;show wp _ [.im (.str (tx (roX r))),.no,.no] _;apply ak;refine mL (o:=.nx [.im (.str (tx (roX r))),.obj "Reader" rN (fls (hX r) 0),.no]) ?_ ?_
 .unfold wf;rw[ai (aS rfl (KY h)) rfl];rfl
 show wp _ [.im (.str (tx (roX r))),.obj "Reader" rN (fls (hX r) 0),.no] _;apply ak;refine dA (La rfl λl=>VN h l) ?_;show wp _ [.im (.str (tx (roX r))),.obj "Reader" rN (fls (hX r) (hX r).length),.im r.toD] _;apply ak;refine AD (La rfl λl=>Vl (bh _)) ?_;exact n4 rfl (b9 rfl)
def VP(l:LN):ju (tx l) ("\n":Str)=(dZ 10 l []).map tx:=by
 have e:("\n":Str)=⟨#[10]⟩:=rfl;rw[e];have h:=yz 10 (ju (tx l) ⟨#[10]⟩) (Kt _ _) (zp (tx l) 10);rw[zq]at h;rw[show(tx l).cps.toList=l from rfl]at h;rw[h,map_map]
 conv=>lhs;rw[<- map_id (ju (tx l) ⟨#[10]⟩)]
 apply nh;intro p _;exact(mW p).symm
def Lb(l:LN)(h:l.length<=10000000):lF (.str (tx l)) (.str "\n")=aa (.lst ((dZ 10 l []).map λw=>.str (tx w))):=by
 unfold lF;dsimp only;have:=Ku (tx l) ("\n":Str);rw[dn]at this;rw[if_pos ⟨by decide,by rw[dn];lia,by lia⟩,VP,map_map];rfl
def VQ(a:L2N)(hn:a≠[])(h:∀l∈a,10∉l):dZ 10 (jn [10] a) []=a:=by
 have q:=yz 10 (a.map tx) (by intro e; exact hn (map_eq_nil_iff.mp e)) (λp c=>by
  obtain⟨l,b,rfl⟩:=bp.mp c;exact h l b)
 have e:(j3 ⟨#[10]⟩ (a.map tx))=tx (jn [10] a):=by
  have:=Eg [10] a;rw[show Txt.join (tx [10]) (a.map tx)=j3 (tx [10]) (a.map tx)from StrLaws.glued_eq_join ..]at this;exact this
 rw[e,map_map]at q;rw[show(tx (jn [10] a)).cps.toList=jn [10] a from rfl]at q;rw[q]
 conv=>rhs;rw[<- map_id a]
 rfl
def VR(a:LN)(ws:L2N)(ha:a.length<=16)(b:dO ws+ws.length<=1048000):hU (.str (tx a)) (.lst (ws.map sT))=aa (.str (tx (jn a ws))):=by
 have e:ws.map sT=(ws.map tx).map D.str:=by rw[map_map];rfl
 show(iu (ws.map sT)).bind (λzs=>if uU (tx a) zs=ac then aa (D.str (u7 (tx a) zs)) else ab)=_;rw[e,AM,aG,if_pos,Eg];refine joinOk_of_weight ?_ (by rw[dn];exact ha);rw[map_map,ay];have:(λx=>x.length) ∘ tx=fG:=funext λw=>dn w;rw[this];unfold dO at b;lia
def oT{a:LN}(ha:10∉a):∀ws:L2N,(∀w∈ws,10∉w)->10∉jn a ws
 | [],_=>cO
 | [x],h=>h x bB
 |x::y::r,h=>by
  show 10∉x++a++jn a (y::r);have c:=oT ha (y::r) λw b=>h w (cD _ b);have:=h x bB;simp only[cM,not_or];exact⟨⟨this,ha⟩,c⟩
def Lc(h:c8 w=ac):10∉w:=λz=>by have:=Ez (qG h) 10 z;lia
def Ld(n:Int):10∉bO n:=λz=>by rcases Ew 10 z with e |e <;> lia
def yJ(h:ThG t):10∉thT t:=by
 obtain⟨b,c,e⟩:=h;have a:=Lc b;unfold thT;split
 .exact a
 .have W6:=oT (a:=[44]) (by decide) t.2 λw d=>Lc (c w d);simp only[cM,bi,not_or];exact⟨⟨⟨a,by decide⟩,W6⟩,by decide⟩
variable{p:Pa}
def VS(h:PaG p):10∉ppX (ppG p):=by
 refine oT (by decide) _ λw d=>?_
 cases p with
 |is t=>
  rw[bi.mp (show w∈[thT t]from d)]
  exact yJ h
 |no t=>
  rcases bZ.mp (show w∈cw "not" :: [thT t]from d)with e |e
  .rw[e];decide +kernel
  .rw[bi.mp e];exact yJ h
 |un a b=>exact h.elim
 |ct c n its ov=>
  obtain⟨i,f,j,_⟩:=(show dC n/\(∀z∈its,ItG z)/\(0<its.length/\its.length<=27)/\ov=[]from h);have d:w=cw (leS c)\/w=bO n\/w=cw "of" \/ w=isX (its.map λz=>(thT z.1,z.2)):=by simpa[ppL,ppG]using d
  rcases d with e |e |e |e
  .rw[e];cases c <;> decide +kernel
  .rw[e];exact Ld n
  .rw[e];decide +kernel
  .rw[e];refine oT (by decide) _ λw d=>?_;obtain⟨y,g,rfl⟩:=bp.mp d;obtain⟨z,hz,rfl⟩:=bp.mp g;have a:=yJ (f z hz).1;unfold itX;split
   .exact a
   .simp only[cM,bi,not_or];exact⟨⟨Ld _,by decide⟩,a⟩
def VT(h:RoG r):10∉roX r:=by
 have i:∀bd:List Pa,BdG bd->10∉bX (bd.map ppG):=λbd h=>oT (by decide) _ λw g=>by
  obtain⟨y,o,rfl⟩:=bp.mp g;obtain⟨p,m,rfl⟩:=bp.mp o;exact VS (h.1 p m)
 cases r with
 |kind n ns=>exact h.elim
 |choose a b c d e f=>exact h.elim
 |never bd ps=>
  refine oT (by decide) _ λw g=>?_
  rcases bZ.mp (show w∈cw "never" :: [bX (bd.map ppG)]from g)with e |e
  .rw[e];decide +kernel
  .rw[bi.mp e];exact i bd h.1
 |rule b t bd ps=>
  obtain⟨j,l,_⟩:=(show ThG t/\BdG bd/\ps=[]from h);refine oT (by decide) _ λw g=>?_
  rcases cM.mp (show w∈[cw (ruS b),thT t]++gO (cw "if") (bX (bd.map ppG))from g)with e |e
  .rcases bZ.mp e with e |e
   .rw[e];cases b <;> decide +kernel
   .rw[bi.mp e];exact yJ j
  .unfold gO at e;split at e
   .exact absurd e cO
   .rcases bZ.mp e with e |e
    .rw[e];decide +kernel
    .rw[bi.mp e];exact i bd l
def VU(h:RoG r):nN (.lst (wD (hX r)))=aa ac:=by
 cases r with
 |kind n ns=>exact h.elim
 |choose a b c d e f=>exact h.elim
 |never bd ps=>rfl
 |rule b t bd ps=>rfl
def VV(rs:List Ro)(h:∀r∈rs,RoG r)(d:rs.length<=80):hU (.str "\n") (.lst ((rs.map roX).map sT))=aa (sT (jn [10] (rs.map roX)))/\Dx [sT (jn [10] (rs.map roX))]=aa (.lst (rs.map Ro.toD)):=by
 have s:=qA 12000 (rs.map roX) λw c=>by obtain⟨r,a,rfl⟩:=bp.mp c;exact KW (h r a)
 rw[ay]at s;have W6:=m3 [10] (rs.map roX);rw[ay,e7]at W6;refine⟨VR [10] (rs.map roX) (by decide) (by rw[ay];lia),?_⟩
 have e:bx 1 [] (bn (m2 lF (ae 0) (kSt "\n"))) (aH 0) (gj (aJ qo (af (ae 0) nZ))) (aJ xH (af (ae 0) nZ)) [.im (sT (jn [10] (rs.map roX)))]=aa (rs.map Ro.toD):=by
  by_cases q:rs=[]
  .subst q;refine(su (k:=1) (js:=[]) [([]:LN)] sT (λ_=>ag) (λ_=>D.non) (b8 (aA rfl rfl (Lb [] (by decide))) rfl) (by decide) λw c=>?_).trans rfl;rw[bi.mp c];exact mK (b:=ag) rfl (il (aS rfl (Kx [] (by decide))) rfl) λe=>nomatch e
  ·refine (su (k:=1) (js:=[]) rs (λr=>sT (roX r)) (λ_=>ac) Ro.toD (b8 (aA rfl rfl (Lb _ (by lia))) (by
    rw[VQ (rs.map roX) (by simpa using q) λl d=>by obtain⟨r,a,rfl⟩:=bp.mp d;exact VT (h r a)];show aa (((rs.map roX)).map _)=_;rw[map_map];rfl)) (by lia) λr a=>?_).trans (by rw[filter_eq_self.mpr λ_ _=>rfl])
   exact mK (b:=ac) rfl (il (aS rfl (KY (h r a))) (VU (h r a))) λ_=>aS rfl (VO (h r a))
 apply bK;unfold xI;exact lC e (g9 rfl)
abbrev gT(n:As)(t:Th):Th:=(t.1,t.2.map (nmF n))
abbrev gI(C:List Kd)(ov:List Pr)(n:As)(its:List Ti):List Ti:=its.flatMap λz=>(nbw C ov n).map λm=>(gT m z.1,z.2)
abbrev gP(C:List Kd)(n:As):Pa->Pa
 |.is t=>.is (gT n t)
 |.no t=>.no (gT n t)
 |.ct w k its ov=>.ct w k (gI C ov n its) []
 |.un a b=>.un a b
abbrev gB(C:List Kd)(n:As)(bd:List Pa):List Pa:=(bd.filter λp=>!isU p).map (gP C n)
abbrev gC(lo hi:Int)(its:List Ti)(b:List Pa):List Ro:=(its.map λz=>Ro.rule ag z.1 b [])++[.never (b++[.ct ag (lo-1) its []]) [],.never (b++[.ct ac (hi+1) its []]) []]
abbrev gR(C:List Kd)(n:As):Ro->List Ro
 |.kind _ _=>[]
 |.rule b t bd _=>[.rule b (gT n t) (gB C n bd) []]
 |.choose lo hi its ov bd _=>gC lo hi (gI C ov n its) (gB C n bd)
 |.never bd _=>[.never (gB C n bd) []]
abbrev gW(C:List Kd)(r:Ro):List Ro:=((nbw C (roP r) []).filter λn=>!fB n (roB r)).flatMap λn=>gR C n r
abbrev gS(C:List Kd)(rs:List Ro):List Ro:=rs.flatMap λr=>if hV r then [] else gW C r
abbrev prG:Ro->PR
 |.kind _ _=>⟨"",ab,[]⟩
 |.rule b t bd _=>⟨if b then "make" else "may",aa (thT t),bd.map ppG⟩
 |.choose _ _ _ _ _ _=>⟨"",ab,[]⟩
 |.never bd _=>⟨"never",ab,bd.map ppG⟩
def EI(C:List Kd)(ov:List Pr)(n:As)(its:List Ti):(gI C ov n its).map (λz=>(thT z.1,z.2))=itF C ov n its:=by
 unfold gI itF;rw[map_flatMap]
 congr 1
 funext z;rw[map_map];rfl
def Le(C:List Kd)(n:As)(p:Pa)(h:isU p=ag):ppG (gP C n p)=ppF C n p:=by
 cases p with
 |is t=>rfl
 |no t=>rfl
 |un a b=>exact nomatch h
 |ct w k its ov=>
  show PP.c w k _=PP.c w k _;rw[EI]
def EJ(C:List Kd)(n:As)(bd:List Pa):(gB C n bd).map ppG=bdF C n bd:=by
 unfold gB bdF;rw[map_map];exact nh λp a=>Le C n p (by simpa using (nj.mp a).2)
def VW(C:List Kd)(n:As)(r:Ro):(gR C n r).map prG=rbF C n r:=by
 cases r with
 |kind a b=>rfl
 |rule b t bd ps=>
  show[PR.mk _ _ _]=[PR.mk _ _ _];rw[EJ]
  rfl
 |never bd ps=>
  show[PR.mk _ _ _]=[PR.mk _ _ _]
  rw[EJ]
 |choose lo hi its ov bd ps=>
  show(gC lo hi (gI C ov n its) (gB C n bd)).map prG=chF lo hi (itF C ov n its) (bdF C n bd);unfold gC chF;rw[bF,map_map,<- EI,<- EJ,map_map];show _++[PR.mk "never" ab ((gB C n bd++[_]).map ppG),PR.mk "never" ab ((gB C n bd++[_]).map ppG)]=_;rw[bF,bF];rfl
def Lf(rs:List Ro):plR rs=(gS (dJ rs) rs).map prG:=by
 unfold plR rsF gS;rw[map_flatMap]
 congr 1
 funext r;split
 .rfl
 .unfold rwF gW;rw[map_flatMap]
  congr 1
  funext n;rw[VW]
def EK(G:List Ro)(h:∀r∈G,RoG r):dJ G=[]:=by
 unfold dJ;rw[flatMap_eq_nil_iff];intro r g;have:=h r g
 cases r with
 |kind a b=>exact this.elim
 |rule b t bd ps=>rfl
 |never bd ps=>rfl
 |choose a b c d e f=>rfl
def qI:nbw [] [] []=[[]]:=rfl
def Lg:nmF []=λw=>w:=funext λ_=>rfl
def tT0(t:Th):tT [] t=thT t:=by
 unfold tT;rw[Lg,map_id']
def pp0(h:PaG p):ppF [] [] p=ppG p/\isU p=ag:=by
 cases p with
 |is t=>exact⟨congrArg PP.i (tT0 t),rfl⟩
 |no t=>exact⟨congrArg PP.o (tT0 t),rfl⟩
 |un a b=>exact h.elim
 |ct w k its ov=>
  have d:ov=[]:=h.2.2.2;subst d;refine⟨?_,rfl⟩;show PP.c w k (itF [] [] [] its)=PP.c w k _
  congr 1
  unfold itF;rw[qI];show its.flatMap (λz=>[(tT [] z.1,z.2)])=_;rw[<- map_eq_flatMap];exact nh λz _=>by rw[tT0]
def bd0(h:∀p∈bd,PaG p):bdF [] [] bd=bd.map ppG:=by
 unfold bdF;rw[filter_eq_self.mpr λp a=>by rw[(pp0 (h p a)).2];rfl];exact nh λp a=>(pp0 (h p a)).1
def Lh(h:∀p∈bd,PaG p):fB [] bd=ag:=by
 unfold fB;refine any_eq_false.mpr λp c=>?_;have:=h p c
 cases p with
 |is t=>exact cq
 |no t=>exact cq
 |un a b=>exact this.elim
 |ct w k its ov=>exact cq
def rw0(h:RoG r):hV r=ag/\rwF [] r=[prG r]:=by
 cases r with
 |kind a b=>exact h.elim
 |choose a b c d e f=>exact h.elim
 |rule b t bd ps=>
  obtain⟨g,i,j⟩:=(show ThG t/\BdG bd/\ps=[]from h);subst j;refine⟨rfl,?_⟩;unfold rwF;show((nbw [] [] []).filter λn=>!fB n bd).flatMap _=_;rw[qI];show([[]].filter λn=>!fB n bd).flatMap _=_;rw[yW (by rw[Lh i.1];rfl)];show[PR.mk _ (aa (tT [] t)) (bdF [] [] bd)]=[PR.mk _ _ _]
  rw[tT0,bd0 i.1]
 |never bd ps=>
  obtain⟨g,i,j⟩:=(show BdG bd/\bd≠[]/\ps=[]from h);subst j;refine⟨rfl,?_⟩;unfold rwF;show((nbw [] [] []).filter λn=>!fB n bd).flatMap _=_;rw[qI];show([[]].filter λn=>!fB n bd).flatMap _=_;rw[yW (by rw[Lh g.1];rfl)];show[PR.mk _ ab (bdF [] [] bd)]=[PR.mk _ _ _];rw[bd0 g.1]
def Li(G:List Ro)(h:∀r∈G,RoG r):plR G=G.map prG:=by
 unfold plR rsF;rw[EK G h]
 induction G with
 |nil=>rfl
 |cons r G d=>
  obtain⟨a,b⟩:=rw0 (h r bB);rw[iQ,d λq c=>h q (cD _ c),a,eL,if_neg cq,b];rfl
def VX(h:RoG r):PrX (prG r) (roX r):=by
 cases r with
 |kind a b=>exact h.elim
 |choose a b c d e f=>exact h.elim
 |rule b t bd ps=>exact .ru b (thT t) _ (uw h.1) (ux h.2.1)
 |never bd ps=>exact .ne _ (by simpa using h.2.1) (ux h.1)
abbrev ThD(y:Lay)(kn:L2N)(t:Th):Prop:=(t.1,((t.2.length:Nat):Int))∈y.h/\∀w∈t.2,w∈kn\/w∈y.p
structure PsD(C:List Kd)(kn:L2N)(ps:List Pr):Prop where
 o:lQ (C.map (·.1)) kn ps
 l:ps.length<=2
structure ItD(y:Lay)(C:List Kd)(kn:L2N)(its:List Ti)(ov:List Pr):Prop where
 p:PsD C kn ov
 l:0<its.length/\its.length<=3
 t:∀z∈its,ThD y (kn++vrs ov) z.1
 w:∀z∈its,0<=z.2/\z.2<10 ^ 30
abbrev PaD(y:Lay)(C:List Kd)(kn:L2N):Pa->Prop
 |.is t=>ThD y kn t
 |.no t=>ThD y kn t
 |.un _ _=>True
 |.ct _ n its ov=>dC (n-1)/\dC n/\dC (n+1)/\ItD y C kn its ov
def uA(s:Int):dC ((bY s).2-1)/\dC (bY s).2/\dC ((bY s).2+1):=by
 have a:=bS s (k:=9) (by decide);have b:=bS (nx (nx s)) (k:=10 ^ 10) (by decide)
 have:-(10 ^ 25)<(bY s).2/\(bY s).2<10 ^ 25:=by
  unfold bY;split
  .show -(10 ^ 25)<(dr s 9-2)*10 ^ 20+dr (nx (nx s)) (10 ^ 10)/\_;lia
  .show -(10 ^ 25)<dr s 9-2/\dr s 9-2<10 ^ 25;lia
 unfold dC;lia
abbrev qJ(y:Lay):Prop:=∃a b c d:LN×Int,y.h=[a,b,c,d]/\a.2.toNat<=3/\b.2.toNat<=2/\c.2.toNat<=2/\d.2.toNat<=1
def VY(s:Int):qJ (je s).2:=by
 have one:∀(m:Int) s,0<=m->(hdP (.int m) s).2.2.toNat<=m.toNat:=λm s hm=>by
  have d:=bS (bI s).1 (k:=4) (by decide);show(if dr (bI s).1 4<m then dr (bI s).1 4 else m).toNat<=m.toNat
  split <;> lia
 exact⟨_,_,_,_,rfl,one 3 _ (by decide),one 2 _ (by decide),one 2 _ (by decide),one 1 _ (by decide)⟩
def Lj(hn:kn.Nodup)(s:Int):PsD C kn (cz C kn 2 s).2:=by
 refine⟨(mZ hn 2 s (by decide)).2.1,?_⟩;obtain⟨a,b,c⟩:=D0 C 2 s (by decide);have d:oM (C.map (·.1)) kn 0 (nx (nx s),[]):=⟨bV _,⟨by simpa using hn,λ_ z=>(cO z).elim,λ_ z=>(cO z).elim⟩,bh _⟩;unfold cz
 by_cases e:0<C.length
 .obtain⟨g,h,i⟩:=qw (I:=oM (C.map (·.1)) kn) (λn p f=>DZ e n p f) d (prN C 2 s);have:(2:Int).toNat=2:=rfl;lia
 .rw[c (oV.mp (by lia))];simp[itN]
section
variable{y:Lay}(hy:dB y)
include hy
def VZ{kn:L2N}(s:Int):(fR y kn s).2∈kn\/(fR y kn s).2∈y.p:=by
 obtain⟨a,b,c,d⟩:=hy.p;have dp:∀s,dN y.p [] (dr s (y.p.length:Nat))∈y.p:=λs=>kX (bS s (by lia));unfold fR;split
 .exact .inr (dp _)
 .rename_i h;split
  .exact .inl (kX (bS _ (by have:=jW.mpr h;lia)))
  .exact .inr (dp _)
def yK{kn:L2N}(f:kn.length<=1000)(s:Int):ThD y kn (thP y kn s).2:=by
 obtain⟨g,c⟩:=hy.h;have d:=bS s (k:=4) (by decide);have hm:=kX (W3:=y.h) (z:=([],0)) (k:=dr s 4) (by lia);have e:=c _ hm;obtain⟨a,b⟩:=lP (F:=fR y kn) (λs=>(yi hy s f).1) (dN y.h ([],0) (dr s 4)).2.toNat (nx s) (bV _);refine⟨?_,kW (F:=fR y kn) (P:=λw=>w∈kn\/w∈y.p) (λs=>VZ hy s) _ _⟩;show((dN y.h ([],0) (dr s 4)).1,(((itP (fR y kn) _ (nx s)).2.length:Nat):Int))∈y.h;rw[b,Int.toNat_of_nonneg e.2.1];exact hm
def Lk(C:List Kd){kn:L2N}(hn:kn.Nodup)(e:kn.length<=100){many:Int}(hm:0<many/\many<=3)(s:Int):ItD y C kn (cZ y kn C many s).2.1 (cZ y kn C many s).2.2:=by
 obtain⟨f,g,h,i,j⟩:=oN hy C hn e hm.1 s;have c:=Lj (C:=C) hn s;have b:(kn++vrs (cz C kn 2 s).2).length<=1000:=by rw[aI,ay];have:=c.l;lia
 have a:0<(cZ y kn C many s).2.1.length:=by
  have d:=bS (cz C kn 2 s).1 hm.1;show 0<(itP (itS y (kn++vrs (cz C kn 2 s).2)) (1+dr (cz C kn 2 s).1 many).toNat (nx (cz C kn 2 s).1)).2.length;rw[(lP (F:=itS y (kn++vrs (cz C kn 2 s).2)) (λs=>(yj hy s b).1) _ _ (bV _)).2];lia
 refine⟨c,⟨a,by lia⟩,?_,?_⟩
 .exact kW (F:=itS y (kn++vrs (cz C kn 2 s).2)) (P:=λz=>ThD y (kn++vrs (cz C kn 2 s).2) z.1) (λs=>yK hy b _) _ _
 .refine kW (F:=itS y (kn++vrs (cz C kn 2 s).2)) (P:=λz=>0<=z.2/\z.2<10 ^ 30) (λs=>?_) _ _;have:=t5 s;show 0<=(if dr (bY s).1 2=0 then (1:Int) else ((bY s).2.natAbs:Int))/\(if dr (bY s).1 2=0 then (1:Int) else ((bY s).2.natAbs:Int))<10 ^ 30;split
  .decide
  .omega
def V0(C:List Kd){kn:L2N}(hn:kn.Nodup)(a:kn.length<=100)(s:Int):PaD y C kn (fA y kn C s).2:=by
 unfold fA;split
 .unfold unS;dsimp only
  split <;> trivial
 .split
  .exact⟨(uA _).1,(uA _).2.1,(uA _).2.2,Lk hy C hn a (many:=2) (by decide) (nx s)⟩
  .dsimp only;split
   .exact yK hy (by lia) _
   .exact yK hy (by lia) _
def V1(C:List Kd){kn:L2N}(hn:kn.Nodup)(a:kn.length<=100)(s:Int):∀p∈(gN y kn C s).2,PaD y C kn p:=kW (F:=fA y kn C) (λs=>V0 hy C hn a s) _ _
end
structure NmD(y:Lay)(L:L2N)(n:As):Prop where
 k:n.map (·.1)=L
 v:∀p∈n,p.2∈y.p
def Ll{n:As}(h:NmD y L n)(c:w∈L\/w∈y.p):nmF n w∈y.p:=by
 unfold nmF
 cases a:n.find? (λp=>decide (p.1=w))with
 |some p=>exact h.v p (mem_of_find?_eq_some a)
 |none=>
  refine c.resolve_left λz=>?_;rw[<- h.k]at z;obtain⟨p,b,e⟩:=bp.mp z;exact find?_eq_none.mp a p b (decide_eq_true e)
def yL(b:Nat):∀(S:List L2N),(∀ns∈S,ns.length<=b)->(fm S.reverse).length<=b ^ S.length
 | [],_=>bh _
 |ns::S,h=>by
  rw[jX,oO,uj,bg,Nat.pow_succ];exact Nat.mul_le_mul (yL b S λm hm=>h m (cD _ hm)) (h ns bB)
def EL:∀(S:List L2N),∀w∈fm S.reverse,∀x∈w,∃ns∈S,x∈ns
 | [],w,hw,x,hx=>by cases bi.mp hw;exact(cO hx).elim
 |ns::S,w,hw,x,hx=>by
  rw[jX,oO]at hw;obtain⟨v,c,a⟩:=f8.mp hw;obtain⟨n,hn,rfl⟩:=bp.mp a
  rcases cM.mp hx with e |e
  .obtain⟨d,hm,b⟩:=EL S v c x e;exact⟨d,cD _ hm,b⟩
  .rw[bi.mp e];exact⟨ns,bB,hn⟩
def Lm(p:L2N):∀ws:L2N,(∀w∈ws,w∈p)->ws.reverse∈fm (gm ws.length p)
 | [],_=>bi.mpr rfl
 |w::ws,h=>by
  rw[jX,bg,replicate_succ',oO];exact f8.mpr ⟨_,Lm p ws λx a=>h x (cD _ a),bp.mpr ⟨w,h w bB,rfl⟩⟩
def V2(p ws:L2N)(h:∀w∈ws,w∈p):ws∈fm (gm ws.length p):=by
 have:=Lm p ws.reverse λw a=>h w (l6.mp a)
 rwa [ng,qR]at this
abbrev gU(y:Lay):L2N:=y.h.flatMap λx=>(fm (gm x.2.toNat y.p)).map λws=>thT (x.1,ws)
section
variable{y:Lay}(hy:dB y)
include hy
def V3(n:qJ y):(gU y).length<=60:=by
 obtain⟨a,b,c,d,e,g,i,j,l⟩:=n;have o:=hy.p.2.2.2
 have f:∀k m:Nat,k<=m->(fm (gm k y.p)).length<=3 ^ m:=λk m h=>by
  have:=yL 3 (gm k y.p) λns hn=>by rw[(mem_replicate.mp hn).2];exact o
  rw[reverse_replicate,nc]at this;exact cP this (oZ (by decide) h)
 have q:=f _ _ g;have r:=f _ _ i;have s:=f _ _ j;have t:=f _ _ l;unfold gU;rw[e];simp only[iQ,flatMap_nil,aI,ay,gY];lia
def m7{L:L2N}{n:As}{t:Th}(h:NmD y L n)(c:ThD y L t):m5 n t/\tT n t∈gU y:=by
 have e:=hy.h.2 _ c.1
 have b:∀w∈t.2.map (nmF n),w∈y.p:=λw d=>by
  obtain⟨x,f,rfl⟩:=bp.mp d;exact Ll h (c.2 x f)
 refine⟨⟨(ug e.1).1,?_,λw d=>?_⟩,?_⟩
 .show(t.2.map (nmF n)).length<=3;rw[ay];have:((t.2.length:Nat):Int)<=3:=e.2.2;lia
 .have a:=hy.p.2.1 w (b w d);refine⟨?_,(ug a).1⟩;unfold c8 made at a;simp only[cV,decide_eq_true_eq]at a;exact a.1.1.1
 .refine f8.mpr ⟨_,c.1,bp.mpr ⟨t.2.map (nmF n),?_,rfl⟩⟩;have:=V2 y.p _ b
  rwa [ay]at this
end
def yM{α c:Type}(f:α->List c)(b:Nat):∀l:List α,(∀x∈l,(f x).length<=b)->(l.flatMap f).length<=l.length*b:=λl=>by
 induction l with
 |nil=>intro _;simp
 |cons x l a=>
  intro h;rw[iQ,aI,bg,qW];have:=h x bB;have:=a λz hz=>h z (cD _ hz);lia
section
variable{y:Lay}(hy:dB y){C:List Kd}(b0:∀k∈C,k∈y.k)
include hy b0
def yN{k:LN}(d:k∈C.map (·.1)):0<(kOf C k).length/\(kOf C k).length<=3/\∀w∈kOf C k,w∈y.p:=by
 obtain⟨q,_,e,f⟩:=Ee d;obtain⟨a,b,c⟩:=hy.k.1.ns q (b0 q f);rw[e];refine⟨jW.mpr b,?_,c⟩;have:=yY a (λw g=>c w g);have:=hy.p.2.2.2;lia
def EM{kn:L2N}{ps:List Pr}(h:lQ (C.map (·.1)) kn ps)(a:ps.length<=3):PsK C ps:=⟨h.kd,λp b=>by have:=yN hy b0 (h.kd p b);lia,a⟩
def EN{kn:L2N}{ps:List Pr}(h:PsD C kn ps):PsK C ps:=EM hy b0 h.o (by have:=h.l;lia)
def V4{L:L2N}{n:As}{ov:List Pr}(h:NmD y L n)(c:PsD C L ov):(nbw C ov n).length<=9/\∀m∈nbw C ov n,NmD y (L++vrs ov) m:=by
 have i:=EN hy b0 c
 have b:∀w∈fm (psN C ov),∀x∈w,x∈y.p:=λw d x j=>by
  have:=EL (psN C ov).reverse w (by rw[ng];exact d) x j;obtain⟨ns,hn,f⟩:=this;obtain⟨p,a,rfl⟩:=bp.mp (l6.mp hn);exact(yN hy b0 (c.o.kd p a)).2.2 x f
 constructor
 .unfold nbw;rw[ay]
  have:=yL 3 (psN C ov).reverse λns hn=>by
   obtain⟨p,a,rfl⟩:=bp.mp (l6.mp hn);exact(yN hy b0 (c.o.kd p a)).2.1
  rw[ng,qR]at this;have g:(psN C ov).length<=2:=by unfold psN;rw[ay];exact c.l
  exact cP this (oZ (by decide) g)
 .intro m hm;obtain⟨w,d,rfl⟩:=bp.mp hm;have g:=(uk i).2 w d;refine⟨?_,λp a=>?_⟩
  .rw[bF,h.k,ni (by rw[ay];lia)]
  .rcases cM.mp a with e |e
   .exact h.v p e
   .exact b w d p.2 (of_mem_zip e).2
def EO{L:L2N}{n:As}{its:List Ti}{ov:List Pr}(h:NmD y L n)(hi:ItD y C L its ov):ItK C n its ov/\(itF C ov n its).length<=27/\∀z∈itF C ov n its,z.1∈gU y:=by
 obtain⟨e,nm⟩:=V4 hy b0 h hi.p;have b:=hi.l.2
 have c:(itF C ov n its).length<=27:=by
  have:=yM (λz:Ti=>(nbw C ov n).map λm=>(tT m z.1,z.2)) 9 its λz _=>by rw[ay];exact e
  unfold itF;have a:=yZ 9 b;lia
 refine⟨⟨EN hy b0 hi.p,by rw[h.k];exact hi.p.o.nd,λz hz m hm=>(m7 hy (nm m hm) (hi.t z hz)).1,by lia,by lia⟩,c,λz hz=>?_⟩;obtain⟨x,d,a⟩:=f8.mp hz;obtain⟨m,hm,rfl⟩:=bp.mp a;exact(m7 hy (nm m hm) (hi.t x d)).2
def Ln{L:L2N}{n:As}(h:NmD y L n)(p:Pa)(d:PaD y C L p):PaK C n p/\(isU p=ag->(ppT (ppF C n p)).length<=27/\∀t∈ppT (ppF C n p),t∈gU y):=by
 cases p with
 |is t=>exact⟨(m7 hy h d).1,λ_=>⟨by simp[ppF,ppT],λx f=>by rw[bi.mp (show x∈[tT n t]from f)];exact(m7 hy h d).2⟩⟩
 |no t=>exact⟨(m7 hy h d).1,λ_=>⟨by simp[ppF,ppT],λx f=>by rw[bi.mp (show x∈[tT n t]from f)];exact(m7 hy h d).2⟩⟩
 |un a b=>exact⟨trivial,λe=>nomatch e⟩
 |ct w k its ov=>
  obtain⟨a,b,c⟩:=EO hy b0 h d.2.2.2;refine⟨a,λ_=>⟨by show((itF C ov n its).map (·.1)).length<=27;rw[ay];exact b,λt g=>?_⟩⟩;obtain⟨z,hz,rfl⟩:=bp.mp (show t∈(itF C ov n its).map (·.1)from g);exact c z hz
end
section
variable{y:Lay}(hy:dB y)
include hy
def Lo{kn:L2N}(C:List (LN×L2N))(hn:kn.Nodup)(e:kn.length<=100)(many s:Int):∀z∈(cZ y kn C many s).2.1,z.1.2.length<=100:=by
 obtain⟨a,b,c⟩:=mZ (C:=C) hn 2 s (by decide);unfold cZ;generalize cz C kn 2 s=q at a b c;have d:(kn++vrs q.2).length<=1000:=by rw[aI,ay];lia
 refine kW (F:=itS y (kn++vrs q.2)) (P:=λz=>z.1.2.length<=100) (λs=>?_) _ _;have:=(kZ hy (kn:=kn++vrs q.2) (nx (bY s).1) d).2.2;exact cP this (by decide)
def V5{kn:L2N}(C:List (LN×L2N))(hn:kn.Nodup)(b:kn.length<=100)(s:Int):PaS (fA y kn C s).2:=by
 unfold fA;split
 .unfold unS;dsimp only
  split <;> trivial
 .split
  .obtain⟨_,_,_,_,a⟩:=oN hy C hn b (many:=2) (by decide) (nx s);exact⟨cP a (by decide),Lo hy C hn b 2 _⟩
  .have:=(kZ hy (kn:=kn) (nx s) (by lia)).2.2;dsimp only
   split <;> exact cP this (by decide)
def V6(f:Bool)(C:List (LN×L2N))(s:Int):RoS (e6 y f C s).2:=by
 obtain⟨h,g,i⟩:=mZ (C:=C) (kn:=[]) gp (mst f) s (by cases f <;> decide)
 unfold e6;generalize cz C [] (mst f) s=q at h g i;have hn:(vrs q.2).Nodup:=by simpa using g.nd
 have e:(vrs q.2).length<=100:=by rw[ay];lia
 obtain⟨j,l,m⟩:=ym hy C hn e q.1;have d:∀p∈(gN y (vrs q.2) C q.1).2,PaS p:=kW (F:=fA y (vrs q.2) C) (λs=>V5 hy C hn e s) _ _;generalize gN y (vrs q.2) C q.1=b at j l m d;have n:=(kZ hy (kn:=vrs q.2) (nx b.1) (by lia)).2.2;have o:=(kZ hy (kn:=vrs q.2) (nx (nx b.1)) (by lia)).2.2;unfold qy;split
 .refine⟨by rw[aI,e7];lia,λp c=>?_⟩
  rcases cM.mp c with c |c
  .exact d p c
  .rw[bi.mp c]
   split <;> exact cP o (by decide)
 .split
  .obtain⟨_,_,_,_,a⟩:=oN hy C hn e (many:=3) (by decide) (nx b.1);exact⟨⟨cP a (by decide),Lo hy C hn e 3 _⟩,by lia,d⟩
  .exact⟨cP n (by decide),by lia,d⟩
end
abbrev lY:List Kd->List Ro->Prop
 | _,[]=>True
 |C,r::rs=>(ui C r/\RoS r)/\lY (C++k7 r) rs
def Lp:∀(a b:List Ro) (C:List Kd),lY C a->lY (C++dJ a) b->lY C (a++b)
 | [],b,C,_,h=>by simpa[dJ]using h
 |r::a,b,C,h,h2=>⟨h.1,Lp a b _ h.2 (by rw[cL];exact h2)⟩
def Lq:∀(pre:List Ro) (r:Ro) (post:List Ro) (C:List Kd),lY C (pre++r::post)->ui (C++dJ pre) r/\RoS r
 | [],r,post,C,h=>by
  have:=h.1;rw[show dJ []=[]from rfl,cr]
  exact this
 |x::pre,r,post,C,h=>by
  have:=Lq pre r post _ h.2;rw[cL]at this;exact this
variable{rs:List Ro}
def Lr(h:lY [] rs):yq rs:=λpre r post e=>by
 subst e;exact Lq pre r post [] h
abbrev jU(k:Kd):Ro:=.kind k.1 k.2
def V7(a b:List Ro):dJ (a++b)=dJ a++dJ b:=by
 unfold dJ;rw[gX]
def EQ:∀C:List Kd,dJ (C.map jU)=C
 | []=>rfl
 |k::C=>by
  have:=EQ C;unfold dJ at this;show[(k.1,k.2)]++(C.map jU).flatMap k7=_;rw[this];rfl
def Lu:∀(b a:List Kd),((a++b).map (·.1)).Nodup->(∀k∈b,k.2.Nodup/\k.2.length<=100)->lY a (b.map jU)
 | [],_,_,_=>trivial
 |k::b,a,h,h2=>by
  refine⟨⟨⟨λz=>?_,(h2 k bB).1⟩,(h2 k bB).2⟩,?_⟩
  .rw[bF,jY]at h;exact h.2.2 _ z _ bB rfl
  .refine Lu b _ ?_ λx c=>h2 x (cD _ c);show((a++[(k.1,k.2)]++b).map (·.1)).Nodup;rw[cL];exact h
abbrev ctK(y:Lay):Lay:=⟨y.h,y.p,y.k.map λk=>(k.1,k.2.take 2)⟩
def Lv(d:dB y):dB (ctK y)/\∀k∈(ctK y).k,k.2.length<=2:=by
 refine⟨⟨d.h,d.p,⟨?_,?_,?_⟩,?_⟩,?_⟩
 .show((y.k.map λk=>(k.1,k.2.take 2)).map (·.1)).Nodup;rw[map_map];exact d.k.1.nd
 .intro k f;obtain⟨q,g,rfl⟩:=bp.mp f;exact d.k.1.nm q g
 .intro k f;obtain⟨q,g,rfl⟩:=bp.mp f;obtain⟨a,b,c⟩:=d.k.1.ns q g;refine⟨a.sublist (take_sublist 2 q.2),λe=>b ?_,λw i=>c w (mem_of_mem_take i)⟩;have e:=congrArg fG (show q.2.take 2=[]from e);rw[iR,gY]at e;exact oV.mp (by lia)
 .show(y.k.map λk=>(k.1,k.2.take 2)).length<=3;rw[ay];exact d.k.2
 .intro k f;obtain⟨q,g,rfl⟩:=bp.mp f;show(q.2.take 2).length<=2;rw[iR];lia
abbrev rws(y:Lay):Bool->LI0->List Ro
 | _,[]=>[]
 |f,s::ss=>(e6 y f y.k s).2::rws y ag ss
abbrev fE(y:Lay)(ss:LI0):List Ro:=y.k.map jU++rws y ac ss
def ER(y:Lay):∀(f:Bool) (ss:LI0),(rws y f ss).length=ss.length
 | _,[]=>rfl
 |f,s::ss=>congrArg (· + 1) (ER y ag ss)
def Lw(y:Lay)(f:Bool)(C:List Kd)(s:Int):k7 (e6 y f C s).2=[]/\hV (e6 y f C s).2=ag:=by
 unfold e6 qy;split
 .exact⟨rfl,rfl⟩
 .split <;> exact⟨rfl,rfl⟩
def Lx(y:Lay):∀(f:Bool) (ss:LI0),dJ (rws y f ss)=[]
 | _,[]=>rfl
 |f,s::ss=>by
  have:=Lx y ag ss;unfold dJ at this ⊢;unfold rws;rw[iQ,this,(Lw y f y.k s).1,cr]
def ES(y:Lay)(ss:LI0):dJ (fE y ss)=y.k:=by
 unfold fE;rw[V7,EQ,Lx,cr]
def Ly{y:Lay}(i:dB y):∀(f:Bool) (ss:LI0),lY y.k (rws y f ss)
 | _,[]=>trivial
 |f,s::ss=>by
  refine⟨⟨?_,V6 i f y.k s⟩,?_⟩
  .have h:=(Tk i f y.k s).2;generalize (e6 y f y.k s).2=r at h
   cases r with
   |kind a b=>exact h.elim
   |rule a b c d=>exact h
   |choose a b c d e g=>exact h
   |never a b=>exact h
  .rw[(Lw y f y.k s).1,cr];exact Ly i ag ss
def V8(a:dB y)(ss:LI0):yq (fE y ss):=by
 refine Lr (Lp _ _ [] (Lu y.k [] (by rw[jm];exact a.k.1.nd) λk b=>⟨(a.k.1.ns k b).1,?_⟩) ?_)
 .have:=yY (a.k.1.ns k b).1 (λw c=>(a.k.1.ns k b).2.2 w c);have:=a.p.2.2.2;lia
 .rw[jm,EQ];exact Ly a ac ss
structure qK(y:Lay)(C:List Kd)(r:Ro):Prop where
 k:hV r=ag
 p:lQ (C.map (·.1)) [] (roP r)
 l:(roP r).length<=3
 b:∀p∈roB r,PaD y C (vrs (roP r)) p
 n:(roB r).length<=4
 t:∀b t bd ps,r=.rule b t bd ps->ThD y (vrs ps) t
 c:∀lo hi its ov bd ps,r=.choose lo hi its ov bd ps->ps.length<=2/\bd.length<=3/\dC (lo-1)/\dC (hi+1)/\ItD y C (vrs ps) its ov
 v:∀bd ps,r=.never bd ps->∃p∈bd,isU p=ag
abbrev isC:Ro->Bool
 |.choose _ _ _ _ _ _=>ac
 | _=>ag
def ET(h:dB y)(f:Bool)(C:List Kd)(s:Int):qK y C (e6 y f C s).2/\(f=ag->isC (e6 y f C s).2=ag):=by
 obtain⟨o,a,d⟩:=mZ (C:=C) (kn:=[]) gp (mst f) s (by cases f <;> decide)
 have j:f=ac->(cz C [] (mst f) s).2.length<=2:=λe=>by
  subst e;exact(Lj (C:=C) gp s).l
 unfold e6;generalize cz C [] (mst f) s=q at o a d j;have hn:(vrs q.2).Nodup:=by simpa using a.nd
 have i:(vrs q.2).length<=100:=by rw[ay];lia
 obtain⟨r,t,u⟩:=ym h C hn i q.1;have g:=V1 h C hn i q.1;generalize gN y (vrs q.2) C q.1=b at r t u g;have n:=λs=>yK h (kn:=vrs q.2) (by lia) s;have v:=λs=>Lk h C hn i (many:=3) (by decide) s;unfold qy;split
 .refine⟨⟨rfl,a,d,λp c=>?_,by show(b.2++[_]).length<=4;rw[aI,e7];lia,(λ_ _ _ _ e=>nomatch e),(λ_ _ _ _ _ _ e=>nomatch e),λbd ps e=>?_⟩,λ_=>rfl⟩
  .rcases cM.mp (show p∈b.2++[_]from c)with c |c
   .exact g p c
   .rw[bi.mp c]
    split <;> exact n _
  .injection e with e1 e2
   rw[<- e1];refine⟨_,h7 _ (bi.mpr rfl),?_⟩
   split <;> rfl
 .split
  .rename_i m;refine⟨⟨rfl,a,d,g,by show b.2.length<=4;lia,(λ_ _ _ _ e=>nomatch e),λ_ _ _ _ _ _ e=>?_,(λ_ _ e=>nomatch e)⟩,λe=>by rw[m.2]at e;nomatch e⟩;cases e;exact⟨j m.2,by lia,(uA _).1,(uA _).2.2,v _⟩
  .exact⟨⟨rfl,a,d,g,by show b.2.length<=4;lia,λ_ _ _ _ e=>by cases e;exact n _,(λ_ _ _ _ _ _ e=>nomatch e),(λ_ _ e=>nomatch e)⟩,λ_=>rfl⟩
def Lz:∀(S:List L2N),(∀ns∈S,0<ns.length)->0<(fm S.reverse).length
 | [],_=>Nat.one_pos
 |ns::S,h=>by
  rw[jX,oO,uj];exact Nat.mul_pos (Lz S λm hm=>h m (cD _ hm)) (h ns bB)
section
variable{y:Lay}(hy:dB y){C:List Kd}(b0:∀k∈C,k∈y.k)
include hy b0
def EU{L:L2N}{n:As}{ov:List Pr}(h:NmD y L n)(f:lQ (C.map (·.1)) L ov)(g:ov.length<=3):∀m∈nbw C ov n,NmD y (L++vrs ov) m:=by
 have i:=EM hy b0 f g
 have b:∀w∈fm (psN C ov),∀x∈w,x∈y.p:=λw c x j=>by
  have:=EL (psN C ov).reverse w (by rw[ng];exact c) x j;obtain⟨ns,hn,d⟩:=this;obtain⟨p,a,rfl⟩:=bp.mp (l6.mp hn);exact(yN hy b0 (f.kd p a)).2.2 x d
 intro m hm;obtain⟨w,c,rfl⟩:=bp.mp hm;have l:=(uk i).2 w c;refine⟨?_,λp a=>?_⟩
 .rw[bF,h.k,ni (by rw[ay];lia)]
 .rcases cM.mp a with e |e
  .exact h.v p e
  .exact b w c p.2 (of_mem_zip e).2
omit hy b0 in
def LA{ov:List Pr}(b:∀k∈C,k.2.length<=2)(d:∀p∈ov,p.2∈C.map (·.1))(n:As):(nbw C ov n).length<=2 ^ ov.length:=by
 unfold nbw;rw[ay]
 have:=yL 2 (psN C ov).reverse λns hn=>by
  obtain⟨p,a,rfl⟩:=bp.mp (l6.mp hn);obtain⟨q,_,e,f⟩:=Ee (d p a);rw[e];exact b q f
 rw[ng,qR]at this;have c:(psN C ov).length=ov.length:=by unfold psN;rw[ay]
 rwa [c]at this
def yO{L:L2N}{n:As}{t:Th}(h:NmD y L n)(b:ThD y L t):ThG (gT n t)/\thT (gT n t)∈gU y:=by
 have c:=hy.h.2 _ b.1;refine⟨⟨c.1,λa ha=>?_,?_⟩,(m7 hy h b).2⟩
 .obtain⟨x,d,rfl⟩:=bp.mp ha;exact hy.p.2.1 _ (Ll h (b.2 x d))
 .show(t.2.map (nmF n)).length<=3;rw[ay];have:((t.2.length:Nat):Int)<=3:=c.2.2;lia
def LB{L:L2N}{n:As}{its:List Ti}{ov:List Pr}(h:NmD y L n)(hi:ItD y C L its ov):(∀z∈gI C ov n its,ItG z/\thT z.1∈gU y)/\0<(gI C ov n its).length/\(gI C ov n its).length<=27:=by
 have nm:=EU hy b0 h hi.p.o (by have:=hi.p.l;lia);have e:=(EO hy b0 h hi).2.1;refine⟨λz hz=>?_,?_,?_⟩
 .obtain⟨x,c,f⟩:=f8.mp hz;obtain⟨m,hm,rfl⟩:=bp.mp f;obtain⟨a,b⟩:=yO hy b0 (nm m hm) (hi.t x c);exact⟨⟨a,hi.w x c⟩,b⟩
 .obtain⟨x,c⟩:=exists_mem_of_length_pos hi.l.1;have g:=EN hy b0 hi.p
  obtain⟨m,hm⟩:∃m,m∈nbw C ov n:=by
   have:0<(nbw C ov n).length:=by
    unfold nbw;rw[ay]
    have i:=Lz (psN C ov).reverse λns hn=>by
     obtain⟨p,d,rfl⟩:=bp.mp (l6.mp hn);exact(g.l p d).1
    rwa [ng]at i
   exact exists_mem_of_length_pos this
  exact length_pos_of_mem (f8.mpr ⟨x,c,bp.mpr ⟨m,hm,rfl⟩⟩)
 .rw[<- EI,ay]at e;exact e
def V9{L:L2N}{n:As}(h:NmD y L n)(p:Pa)(d:PaD y C L p)(e:isU p=ag):PaG (gP C n p)/\∀t∈ppT (ppG (gP C n p)),t∈gU y:=by
 have f:=((Ln hy b0 h p d).2 e).2;rw[<- Le C n p e]at f;refine⟨?_,f⟩
 cases p with
 |is t=>exact(yO hy b0 h d).1
 |no t=>exact(yO hy b0 h d).1
 |un a b=>nomatch e
 |ct w k its ov=>
  obtain⟨a,b,c⟩:=LB hy b0 h d.2.2.2;exact⟨d.2.1,λz hz=>(a z hz).1,⟨b,c⟩,rfl⟩
def Wb{L:L2N}{n:As}(h:NmD y L n)(bd:List Pa)(c:∀p∈bd,PaD y C L p):(∀p∈gB C n bd,PaG p/\∀t∈ppT (ppG p),t∈gU y)/\(gB C n bd).length<=bd.length:=by
 refine⟨λp d=>?_,?_⟩
 .obtain⟨q,e,rfl⟩:=bp.mp d;obtain⟨a,b⟩:=nj.mp e;exact V9 hy b0 h q (c q a) (by simpa using b)
 .unfold gB;rw[ay];exact uK _ _
end
section
variable{y:Lay}(hy:dB y){C:List Kd}(b0:∀k∈C,k∈y.k)
include hy b0
abbrev GrA(y:Lay)(g:Ro):Prop:=RoG g/\∀t∈prT (prG g),t∈gU y
omit hy b0 in
def ctG{y:Lay}{bd:List Pa}{w:Bool}{k:Int}{its:List Ti}(c:∀p∈bd,PaG p/\∀t∈ppT (ppG p),t∈gU y)(i:bd.length<=3)(d:dC k)(hi:(∀z∈its,ItG z/\thT z.1∈gU y)/\0<its.length/\its.length<=27):GrA y (.never (bd++[.ct w k its []]) []):=by
 refine⟨⟨⟨λp b=>?_,by rw[aI,e7];lia⟩,by simp,rfl⟩,λt g=>?_⟩
 .rcases cM.mp b with e |e
  .exact(c p e).1
  .rw[bi.mp e];exact⟨d,λz hz=>(hi.1 z hz).1,hi.2,rfl⟩
 .obtain⟨q,f,a⟩:=f8.mp (show t∈((bd++[Pa.ct w k its []]).map ppG).flatMap ppT from g);obtain⟨p,b,rfl⟩:=bp.mp f
  rcases cM.mp b with e |e
  .exact(c p e).2 t a
  .rw[bi.mp e]at a;obtain⟨z,hz,rfl⟩:=bp.mp (show t∈(its.map λz=>(thT z.1,z.2)).map (·.1)from a);obtain⟨x,h,rfl⟩:=bp.mp hz;exact(hi.1 x h).2
omit hy b0 in
def ruG{y:Lay}{bd:List Pa}{b:Bool}{t:Th}(c:∀p∈bd,PaG p/\∀t∈ppT (ppG p),t∈gU y)(f:bd.length<=5)(d:ThG t/\thT t∈gU y):GrA y (.rule b t bd []):=by
 refine⟨⟨d.1,⟨λp a=>(c p a).1,f⟩,rfl⟩,λx g=>?_⟩
 rcases cM.mp (show x∈[thT t]++(bd.map ppG).flatMap ppT from g)with q |q
 .rw[bi.mp q];exact d.2
 .obtain⟨z,hz,e⟩:=f8.mp q;obtain⟨p,a,rfl⟩:=bp.mp hz;exact(c p a).2 x e
omit hy b0 in
def neG{y:Lay}{bd:List Pa}(b:∀p∈bd,PaG p/\∀t∈ppT (ppG p),t∈gU y)(d:bd.length<=5)(hn:bd≠[]):GrA y (.never bd []):=by
 refine⟨⟨⟨λp a=>(b p a).1,d⟩,hn,rfl⟩,λx e=>?_⟩;obtain⟨z,hz,c⟩:=f8.mp (show x∈(bd.map ppG).flatMap ppT from e);obtain⟨p,a,rfl⟩:=bp.mp hz;exact(b p a).2 x c
def Wc{r:Ro}(f:qK y C r){n:As}(hn:NmD y (vrs (roP r)) n):∀g∈gR C n r,GrA y g:=by
 obtain⟨h,j⟩:=Wb hy b0 hn (roB r) f.b;have l:=f.n;intro g i
 cases r with
 |kind a b=>nomatch f.k
 |rule b t bd ps=>
  rw[bi.mp i]
  exact ruG h (by show(gB C n bd).length<=5;have:(gB C n bd).length<=bd.length:=j;have:bd.length<=4:=l;lia) (yO hy b0 hn (f.t b t bd ps rfl))
 |never bd ps=>
  rw[bi.mp i];refine neG h (by show(gB C n bd).length<=5;have:(gB C n bd).length<=bd.length:=j;have:bd.length<=4:=l;lia) ?_;obtain⟨p,u,w⟩:=f.v bd ps rfl
  exact ne_nil_of_mem (bp.mpr ⟨p,nj.mpr ⟨u,by rw[w];rfl⟩,rfl⟩)
 |choose lo hi its ov bd ps=>
  obtain⟨x,A,m,o,q⟩:=f.c lo hi its ov bd ps rfl;have d:=LB hy b0 hn q;have s:(gB C n bd).length<=bd.length:=j
  rcases cM.mp (show g∈((gI C ov n its).map λz=>Ro.rule ag z.1 (gB C n bd) [])++[.never (gB C n bd++[.ct ag (lo-1) (gI C ov n its) []]) [],.never (gB C n bd++[.ct ac (hi+1) (gI C ov n its) []]) []]from i)with e |e
  .obtain⟨z,hz,rfl⟩:=bp.mp e;exact ruG h (by lia) ⟨(d.1 z hz).1.1,(d.1 z hz).2⟩
  .rcases bZ.mp e with e |e
   .rw[e];exact ctG h (by lia) m d
   .rw[bi.mp e];exact ctG h (by lia) o d
def We{r:Ro}(a:qK y C r):∀g∈gW C r,GrA y g:=by
 have d:NmD y [] []:=⟨rfl,λ_ z=>(cO z).elim⟩;have nm:=EU hy b0 d a.p a.l;rw[jm]at nm;intro g c;obtain⟨n,hn,b⟩:=f8.mp c;exact Wc hy b0 a (nm n (nj.mp hn).1) g b
omit hy b0 in
def LC{r:Ro}(h:∀k∈C,k.2.length<=2)(d:qK y C r):(gW C r).length<=56/\(isC r=ag->(gW C r).length<=8):=by
 have a:=LA h d.p.kd [];have j:=d.l
 have one:∀m,(∀n,(gR C n r).length<=m)->(gW C r).length<=(nbw C (roP r) []).length*m:=λm hm=>by
  unfold gW;refine cP (yM _ m _ λn _=>hm n) (yZ _ (uK _ _))
 have x:(2:Nat) ^ (roP r).length<=2 ^ 3:=oZ (by decide) j
 cases r with
 |kind a b=>nomatch d.k
 |rule b t bd ps=>
  have:=one 1 λn=>bh 1
  exact⟨by lia,λ_=>by lia⟩
 |never bd ps=>
  have:=one 1 λn=>bh 1
  exact⟨by lia,λ_=>by lia⟩
 |choose lo hi its ov bd ps=>
  obtain⟨i,_,_,_,f⟩:=d.c lo hi its ov bd ps rfl
  have:=one 14 λn=>by
   show(((gI C ov n its).map λ(z:Ti)=>Ro.rule ag z.1 (gB C n bd) [])++[_,_]).length<=14;rw[aI,ay]
   have s:=yM (λz:Ti=>(nbw C ov n).map λm=>(gT m z.1,z.2)) 4 its λz _=>by
    rw[ay];have:=LA h f.p.o.kd n;have v:(2:Nat) ^ ov.length<=2 ^ 2:=oZ (by decide) f.p.l;lia
   have u:=f.l.2;show(gI C ov n its).length+2<=14;unfold gI;lia
  have w:(2:Nat) ^ ps.length<=2 ^ 2:=oZ (by decide) i;have q:(nbw C ps []).length<=2 ^ ps.length:=a;have g:(gW C (.choose lo hi its ov bd ps)).length<=(nbw C ps []).length*14:=this;exact⟨by lia,λe=>nomatch e⟩
def Wf{r:Ro}(e:qK y C r):RwK C r:=by
 have i:NmD y [] []:=⟨rfl,λ_ z=>(cO z).elim⟩;have d:=EU hy b0 i e.p e.l;rw[jm]at d;have j:=e.l;have g:=e.n;have f:∀n∈nbw C (roP r) [],∀p∈roB r,PaK C n p:=λn hn p h=>(Ln hy b0 (d n hn) p (e.b p h)).1;refine⟨EM hy b0 e.p e.l,by simpa using e.p.nd,by lia,λn hn _=>⟨?_,?_⟩⟩
 .cases r with
  |kind a b=>nomatch e.k
  |choose lo hi its ov bd ps=>exact⟨(EO hy b0 (d n hn) (e.c lo hi its ov bd ps rfl).2.2.2.2).1,by have:bd.length<=4:=g;lia,f n hn⟩
  |rule b t bd ps=>exact⟨(m7 hy (d n hn) (e.t b t bd ps rfl)).1,by have:bd.length<=4:=g;lia,f n hn⟩
  |never bd ps=>exact⟨by have:bd.length<=4:=g;lia,f n hn⟩
 .have:=congrArg fG (d n hn).k;rw[ay,ay]at this;lia
end
def EV{y:Lay}(a:dB y):∀(f:Bool) (ss:LI0),∀r∈rws y f ss,qK y y.k r
 | _,[],r,h=>(cO h).elim
 |f,s::ss,r,h=>by
  rcases bZ.mp h with e |e
  .rw[e];exact(ET a f y.k s).1
  .exact EV a ag ss r e
def Wg(C:List Kd)(a b:List Ro):gS C (a++b)=gS C a++gS C b:=gX
def LF(C:List Kd):∀k:List Kd,gS C (k.map jU)=[]
 | []=>rfl
 |k::l=>by
  show[]++gS C (l.map jU)=[];rw[LF C l];rfl
def LG(C:List Kd)(r:Ro)(h:hV r=ag)(rs:List Ro):gS C (r::rs)=gW C r++gS C rs:=by
 unfold gS;rw[iQ,h];rfl
def LH(b:dB y)(f:Bool)(ss:LI0):∀g∈gS y.k (rws y f ss),GrA y g:=λg c=>by
 obtain⟨r,e,a⟩:=f8.mp c;have hd:=EV b f ss r e;rw[hd.k]at a;exact We b (λk d=>d) hd g a
def LI{y:Lay}(d:dB y)(c:∀k∈y.k,k.2.length<=2):∀ss:LI0,(gS y.k (rws y ag ss)).length<=8*ss.length
 | []=>bh _
 |s::ss=>by
  obtain⟨a,b⟩:=ET d ag y.k s;have:=LI d c ss;have:=(LC c a).2 (b rfl);show(gS y.k ((e6 y ag y.k s).2::rws y ag ss)).length<=_;rw[LG _ _ a.k,aI,bg];lia
def LJ(d:dB y)(c:∀k∈y.k,k.2.length<=2)(ss:LI0)(h:ss.length<=3):(gS y.k (rws y ac ss)).length<=72:=by
 cases ss with
 |nil=>exact gg _
 |cons s ss=>
  obtain⟨a,b⟩:=ET d ac y.k s;have:=LI d c ss;have:=(LC c a).1;show(gS y.k ((e6 y ac y.k s).2::rws y ag ss)).length<=_;rw[bg]at h;rw[LG _ _ a.k,aI];lia
variable{G:List Ro}
def LK(e:plR rs=G.map prG)(h:∀g∈G,GrA y g):∀r∈plR rs,r.b.length<=1000/\∀p∈r.b,(ppT p).length<=1000:=λr m=>by
 rw[e]at m;obtain⟨g,n,rfl⟩:=bp.mp m
 have i:∀bd:List Pa,BdG bd->(bd.map ppG).length<=1000/\∀p∈bd.map ppG,(ppT p).length<=1000:=λbd l=>by
  refine⟨by rw[ay];have:=l.2;lia,λp o=>?_⟩;obtain⟨q,s,rfl⟩:=bp.mp o;have:=l.1 q s
  cases q with
  |is t=>show 1<=1000;decide
  |no t=>show 1<=1000;decide
  |un a b=>exact this.elim
  |ct w k its ov=>
   show((its.map λz=>(thT z.1,z.2)).map (·.1)).length<=1000;rw[ay,ay];have:=this.2.2.1.2;lia
 have j:=(h g n).1
 cases g with
 |kind a b=>exact j.elim
 |choose a b c d e f=>exact j.elim
 |rule b t bd ps=>exact i bd j.2.1
 |never bd ps=>exact i bd j.1
def LL(j:dB y)(d:qJ y)(e:plR rs=G.map prG)(h:∀g∈G,GrA y g):(plT rs).length<=60:=by
 have a:=um ((plR rs).flatMap prT) [] gp
 have:=yY (l₂:=gU y) a.1 λt i=>by
  rcases(a.2.1 t).mp i with e' |e'
  .exact(cO e').elim
  .obtain⟨r,b,c⟩:=f8.mp e';rw[e]at b;obtain⟨g,f,rfl⟩:=bp.mp b;exact(h g f).2 t c
 have:=V3 j d;unfold plT tbF;lia
def LM(y:Lay)(ss:LI0):gS (dJ (fE y ss)) (fE y ss)=gS y.k (rws y ac ss):=by
 rw[ES];unfold fE;rw[Wg,LF,jm]
def Wh(a:dB y)(f:qJ y)(d:∀k∈y.k,k.2.length<=2)(ss:LI0)(h:ss.length<=3):PlK (fE y ss):=by
 have e:=Lf (fE y ss);rw[LM]at e;have c:=LH a ac ss;refine⟨V8 a ss,?_,?_,λr g b=>?_,?_,LK e c,LL a f e c⟩
 .unfold fE;rw[aI,ay,ER];have:=a.k.2;lia
 .rw[ES];exact a.k.1.nd
 .rw[ES]
  rcases cM.mp g with e |e
  .obtain⟨k,_,rfl⟩:=bp.mp e
   nomatch b
  .exact Wf a (λk b=>b) (EV a ac ss r e)
 .rw[e,ay];have:=LJ a d ss h;lia
def yP(h:ThG t):m5 [] t:=by
 have e:(t.1,t.2.map (nmF []))=t:=by rw[Lg,map_id']
 unfold m5;rw[e];exact⟨(oQ h.1).2,h.2.2,λw a=>oQ (h.2.1 w a)⟩
def EW:PsK [] []:=⟨λ_ h=>(cO h).elim,λ_ h=>(cO h).elim,by decide⟩
def EX:PsL [] [] []:=D9 gp
def yQ(h:ThG t):jg [] t:=λw a=>.inr (h.2.1 w a)
def qL(h:PaG p):oK [] [] p/\PaS p/\PaK [] [] p:=by
 cases p with
 |is t=>exact⟨yQ h,cP h.2.2 (by decide),yP h⟩
 |no t=>exact⟨yQ h,cP h.2.2 (by decide),yP h⟩
 |un a b=>exact h.elim
 |ct w k its ov=>
  obtain⟨d,c,e,rfl⟩:=h;refine⟨⟨EX,λz hz=>yQ (c z hz).1⟩,⟨by lia,λz hz=>cP (c z hz).1.2.2 (by decide)⟩,⟨EW,gp,λz hz m hm=>?_,?_,by lia⟩⟩
  .rw[qI]at hm;rw[bi.mp hm];exact yP (c z hz).1
  .have:=yM (λz:Ti=>(nbw [] [] []).map λm=>(tT m z.1,z.2)) 1 its λz _=>by rw[qI];exact bh 1
   unfold itF;lia
def LO(h:RoG r):ui [] r/\RoS r/\k7 r=[]/\RwK [] r:=by
 have hn:∀n∈nbw [] [] [],n=([]:As):=λn hn=>by rw[qI]at hn;exact bi.mp hn
 cases r with
 |kind a b=>exact h.elim
 |choose a b c d e f=>exact h.elim
 |rule b t bd ps=>
  obtain⟨l,i,rfl⟩:=(show ThG t/\BdG bd/\ps=[]from h);have m:=i.2
  exact⟨⟨EX,yQ l,λp g=>(qL (i.1 p g)).1⟩,⟨cP l.2.2 (by decide),by lia,λp g=>(qL (i.1 p g)).2.1⟩,rfl,⟨EW,gp,by show bd.length<=1000;lia,λn j _=>by rw[hn n j];exact⟨⟨yP l,by lia,λp g=>(qL (i.1 p g)).2.2⟩,by decide⟩⟩⟩
 |never bd ps=>
  obtain⟨i,l,rfl⟩:=(show BdG bd/\bd≠[]/\ps=[]from h);have m:=i.2;exact⟨⟨EX,λp g=>(qL (i.1 p g)).1⟩,⟨by lia,λp g=>(qL (i.1 p g)).2.1⟩,rfl,⟨EW,gp,by show bd.length<=1000;lia,λn j _=>by rw[hn n j];exact⟨⟨by lia,λp g=>(qL (i.1 p g)).2.2⟩,by decide⟩⟩⟩
def LP:∀G:List Ro,(∀g∈G,RoG g)->lY [] G
 | [],_=>trivial
 |g::G,h=>by
  obtain⟨a,b,c,_⟩:=LO (h g bB);refine⟨⟨a,b⟩,?_⟩;rw[c];exact LP G λx d=>h x (cD _ d)
def Wi(d:dB y)(a:qJ y)(G:List Ro)(h:∀g∈G,GrA y g)(i:G.length<=72):PlK G:=by
 have h':∀g∈G,RoG g:=λg b=>(h g b).1;have e:=Li G h';refine⟨Lr (LP G h'),by lia,?_,λr c f=>?_,?_,LK e h,LL d a e h⟩
 .rw[EK G h'];exact gp
 .rw[EK G h'];exact(LO (h' r c)).2.2.2
 .rw[e,ay];lia
def Wj(e:plR rs=G.map prG)(h:∀g∈G,RoG g):plD G=plD rs:=by
 have a:=Li G h;unfold plD plT;rw[a,e]
def Wk{m:Addr->LD->LD->LD->Option (LD×D)}{f:MF2}{M ys:LD}(a:f U=aa M)(h:∀l,m l [] [] M=aa (ys,d)):sQ m f U=aa d:=by
 unfold sQ;rw[a,aG,dif_pos ⟨(ys,d),h⟩]
 have e:(⟨(ys,d),h⟩:∃q,∀l,m l [] [] M=aa q).choose=(ys,d):=by
  have:=(⟨(ys,d),h⟩:∃q,∀l,m l [] [] M=aa q).choose_spec 0;rw[h 0]at this;exact cN this.symm
 rw[e]
def Wl{α:Type}{l h:LS->Option (Option Int)}{g:α->D}{M:List α}{b:Int}(e:f U=aa (.lst (M.map g)))(a:l U=aa ab)(c:h U=aa (aa b))(d:0<=b):mSl f l h U=aa ((M.take b.toNat).map g):=by
 rw[Hc e a c];obtain⟨m,rfl⟩:=Int.eq_ofNat_of_zero_le d;rw[HT.sIx_nat,show HT.sIx M.length 0 ab=0 from rfl,drop_zero,Nat.sub_zero,qO]
 by_cases hm:m<=M.length
 .rw[Nat.min_eq_left hm]
 .rw[Nat.min_eq_right (by lia),m9 (by lia),m9 (by lia)]
variable{n:Nat}
def Wm{pre post:LN}(h:cW n=pre++i::post):i=pre.length/\pre.length<n:=by
 have b:=congrArg fG h;rw[e8,aI,bg]at b;have a:=congrArg (λl:LN=>l[pre.length]?) h;rw[yV (by lia),l5 (bh _),Nat.sub_self]at a;exact⟨(cN a).symm,by lia⟩
variable{ss:LI0}
def Wn(h:n<ss.length):atI (ss.map D.int) (n:Int)=aa (.int (ss.getD n 0)):=by
 unfold atI ixN;rw[if_pos (by lia),if_pos (by rw[ay];lia),aG,gf,qO,dE h,fF,dE h];rfl
def Wo(h:n<ss.length):ss.getD n 0∈ss:=by
 rw[fF,dE h];exact na h
def LQ(y:Lay):∀(f:Bool) (T:LI0) (s:Int),rws y f (T++[s])=rws y f T++[(e6 y (f && decide (T.length=0)) y.k s).2]
 |f,[],s=>by cases f <;> rfl
 |f,t::T,s=>by
  show(e6 y f y.k t).2::rws y ag (T++[s])=_;rw[LQ y ag T s]
  have e:(f && decide ((t::T).length=0))=ag:=by cases f <;> rfl
  rw[e];rfl
def Wp{T:LI0}(h:n<T.length):T.take (n+1)=T.take n++[T.getD n 0]:=by
 rw[qS,fF,dE h];rfl
def Wq(y:Lay)(c:dB y)(U:LS)(h:bn (mIx (au 3) (kI 2)) U=aa (y.k.map kdD)):aU (bx 2 [] (bn (mIx (au 3) (kI 2))) (cT (bo (aH 0) (bo (aH 1) cS))) kY (bJ (af (ae 0) (af (aU (mSl (ae 1) (λ_=>aa ab) (mPt (kI 2)))) nZ)))) U=aa (.lst ((ctK y).k.map kdD)):=by
 have a:=c.k.2;refine b6 ?_;rw[fZ y.k kdD (λk=>kdD (k.1,k.2.take 2)) h (by lia) λk a=>fu rfl rfl (cH (ai rfl (ai (b6 (Wl (M:=k.2) (g:=sT) (b:=2) rfl rfl rfl (by decide))) rfl)))];show _=aa ((y.k.map λk=>(k.1,k.2.take 2)).map kdD);rw[map_map];rfl
def Wr(C:List Kd)(a:C.length<=3)(U:LS)(h:bn (ae 4) U=aa (C.map kdD)):bx 2 [] (bn (ae 4)) (cT (bo (aH 0) (bo (aH 1) cS))) kY (bJ (af (kSt "kind") (af (ae 0) (af (aU (au 1)) nZ)))) U=aa ((C.map jU).map Ro.toD):=by
 rw[fZ C kdD (λk=>(jU k).toD) h (by lia) λk _=>fu rfl rfl (cH (ai rfl (ai rfl (ai rfl rfl)))),map_map];rfl
def Ws(b:D)(many:Int)(hm:1<=many/\many<=3)(a:Int)(T:LI0)(v:(T.length:Int)=many)(m:okS a)(r:∀s∈T,okS s)(es:wH [b,.int (many+1)]=aa (.lst ((a::T).map D.int))):
  CG [b,.int many]=aa (.lst ((fE (ctK (je a).2) T).map Ro.toD)):=by
 apply bK;unfold wI;show wp _ [.im b,.im (.int many),.no,.no,.no,.no,.no] _;apply ak;refine cf (aS (ai rfl (ai (aA rfl rfl hE) rfl)) es) ?_;obtain⟨t,e⟩:=JH a;apply ak;refine cf (Wk (ai (d:=.int a) (aw rfl rfl (DY _ _)) rfl) λl=>Tg l a m) ?_;generalize je a=q at t e;obtain⟨s1,y⟩:=q;have e:dB y:=e;dsimp only;show wp _ [.im b,.im (.int many),.im (.lst ((a::T).map D.int)),.im y.toD,.no,.no,.no] _;apply ak;refine cf (Wq y e _ rfl) ?_;show wp _ [.im b,.im (.int many),.im (.lst ((a::T).map D.int)),.im y.toD,.im (.lst ((ctK y).k.map kdD)),.no,.no] _;obtain⟨f,u⟩:=Lv e;apply ak;refine fO (Wr (ctK y).k f.k.2 _ rfl) ?_;show wp _ [.im b,.im (.int many),.im (.lst ((a::T).map D.int)),.im y.toD,.im (.lst ((ctK y).k.map kdD)),.own (((ctK y).k.map jU).map Ro.toD),.no] _;apply ak;refine eY (cW T.length) (λ(i:Nat)=>D.int i) (λpre U=>∃g,U=[.im b,.im (.int many),.im (.lst ((a::T).map D.int)),.im y.toD,.im (.lst ((ctK y).k.map kdD)),.own ((fE (ctK y) (T.take pre.length)).map Ro.toD),g]) ?_ ⟨.no,?_⟩ ?_ ?_
 .exact(O8 (n:=many) (ai rfl rfl) (by lia) (by lia)).trans (by rw[show many.toNat=T.length by lia])
 .rw[gY,take_zero];show _=[_,_,_,_,_,Sl.own (((ctK y).k.map jU++[]).map Ro.toD),_];rw[cr]
 .rintro pre i post U o ⟨g,rfl⟩;refine⟨_,rfl,?_⟩;obtain⟨h,c⟩:=Wm o;subst h;rw[aI,e7];generalize hn:pre.length=n at c;show wp _ [.im b,.im (.int many),.im (.lst ((a::T).map D.int)),.im y.toD,.im (.lst ((ctK y).k.map kdD)),.own ((fE (ctK y) (T.take n)).map Ro.toD),.im (.int n)] _;have j:=r _ (Wo (ss:=T) (n:=n) c)
  have p:(fE (ctK y) (T.take n)).length<=1000:=by
   unfold fE;rw[aI,ay,ER,iR];have:=f.k.2;lia
  refine jG (d:=(e6 (ctK y) (decide (n=0)) (ctK y).k (T.getD n 0)).2.toD) (QY (q:=([.int (e6 (ctK y) (decide (n=0)) (ctK y).k (T.getD n 0)).1],_)) (ai (d:=.int (T.getD n 0)) (aw rfl (aA rfl rfl hE) ?_) rfl) (ai (cH (ai (aw rfl rfl rfl) (ai (aw rfl rfl rfl) (ai rfl rfl)))) (ai (aA rfl rfl (lB _ _)) rfl)) λl=>?_) rfl (by rw[ay];lia) ⟨.im (.int n),?_⟩
  .have:=Wn (ss:=a::T) (n:=n+1) (by rw[bg];lia);rw[show((n+1:Nat):Int)=(n:Int)+1 by lia]at this;exact this
  .have:=Tu f l (decide (n=0)) (by have:=f.k.2;lia) (T.getD n 0) j;rw[show((n:Int)==0)=decide (n=0)from decide_eq_decide.mpr (by lia)];exact this
  .rw[Wp c];unfold fE;rw[LQ,<- cL,bF (l₁:=(ctK y).k.map jU++rws (ctK y) ac (T.take n))];have:(T.take n).length=n:=by rw[iR];lia
   rw[this,Bool.true_and];rfl
 .rintro U ⟨g,rfl⟩;rw[e8,take_length];exact n5 rfl (g9 rfl)
def Wt{α:Type}{f:MF2}{g:α->D}{M:List α}(d:α)(e:f U=aa [.kl (M.map g)]):jE f U=aa ((cW M.length).map λi=>D.tup [.int (i:Nat),g (M.getD i d)]):=by
 unfold jE;rw[e,<- Hd];rfl
def Wu(ns:LI0)(many:Int)(hm:0<many/\many<=6):∃ss:LI0,ss.length=many.toNat/\(∀s∈ss,okS s)/\wH [.kl (ns.map D.int),.int many]=aa (.lst (ss.map D.int)):=by
 have w:wp wG [.im (.kl (ns.map D.int)),.im (.int many),.no,.no,.no,.no] (sB λd=>∃ss:LI0,d=.lst (ss.map D.int)/\ss.length=many.toNat/\∀s∈ss,okS s):=by
  generalize o:D.kl _=g;apply ak
  have y:bx 1 [] (i3 (af (ae 1) nZ)) (aH 0) kY (m2 cv (m2 kH (ae 0) (kI 7368787)) (kI 1000003)) [.im g,.im (.int many),.no,.no,.no,.no]=aa (((cW many.toNat).map λ(k:Nat)=>(k:Int)*7368787+1000003).map D.int):=by
   rw[map_map];refine fZ _ (λ(i:Nat)=>D.int i) _ ?_ (by rw[e8];lia) λi hi=>?_
   .unfold i3;rw[show af _ _ _=aa _ from rfl,aG,ye _ (by lia) (by lia)]
   .have A:=l7.mp hi;exact fu rfl rfl (aA (aA rfl rfl (n6 (.inl (.inr ⟨by decide,by decide⟩)))) rfl hE)
  refine fO y ?_;apply ak;refine eY _ _ (λ_ U=>∃(ss:LI0) (h j l:Sl),(ss.length=many.toNat/\∀s∈ss,okS s)/\U=[.im g,.im _,.own (ss.map D.int),h,j,l]) (by subst o;exact Wt 0 rfl) ⟨_,_,_,_,⟨by rw[ay,e8],λs a=>?_⟩,rfl⟩ ?_ ?_
  .obtain⟨k,B,rfl⟩:=bp.mp a;have:=l7.mp B;unfold okS;lia
  .rintro pre i post U C ⟨ss,h,j,l,⟨b,a⟩,rfl⟩;refine⟨_,rfl,?_⟩;generalize ns.getD i 0=c;have p:0<=i % many/\i % many<many:=⟨Int.emod_nonneg _ (by lia),yS _ hm.1⟩;have m:∀(u v:Sl),m2 iY (ae 3) (ae 1) [.im g,.im _,.own (ss.map D.int),.im _,u,v]=aa (.int (i % many)):=λ_ _=>aA rfl rfl (lD hm.1);generalize _ % many=q at p m;have f:q.toNat<ss.length:=by lia
   have r:atI (ss.map D.int) q=aa (.int ss[q.toNat]):=by
    unfold atI ixN;rw[if_pos p.1,if_pos (by rw[ay];lia),aG,gf,dE f];rfl
   have t:=a _ (na f);unfold okS at t;generalize ss[q.toNat]=s at r t;apply ak;refine cf (aA (aA (aw rfl (m _ _) r) rfl (n6 (.inr ⟨by lia,by decide⟩))) (aA rfl (aA rfl rfl (vV (by decide))) (lD (by decide))) hE) ?_;refine Pt (aA (aA rfl rfl hE) (aA (aA rfl rfl (vV (by decide))) rfl mM) (lD (by decide))) (m _ _) rfl p.1 (by rw[ay];lia) ?_;refine⟨ss.set q.toNat ((s*1000003+c % 10 ^ 30+i) % (2 ^ 61-1)),.im (.int i),.im (.int c),.im (.int (s*1000003+c % 10 ^ 30)),⟨by rw[length_set];exact b,λz hz=>?_⟩,?_⟩
   .rcases mem_or_eq_of_mem_set hz with e |e
    .exact a z e
    .have x:=Int.emod_nonneg (s*1000003+c % 10 ^ 30+i) (show(2 ^ 61-1:Int)≠0 by decide);rw[e];exact⟨x,(yS _ (show _<2 ^ 61-1 by decide))⟩
   .rw[map_set];rfl
  .rintro U ⟨ss,h,j,l,⟨b,a⟩,rfl⟩;exact n5 rfl (g9 ⟨ss,rfl,b,a⟩)
 obtain⟨d,e,ss,rfl,b,a⟩:=Ha (n:=6) (ds:=[.kl _,.int many]) w;exact⟨ss,b,a,e⟩
def Wv(ws:L2N)(n:Nat):kB (n+2) (.lst (ws.map sT)):=λx a=>by
 obtain⟨w,_,rfl⟩:=bp.mp a;rfl
def Ww(tb:L2N)(n:Nat)(p:PP):kB (n+5) (p.nD tb):=by
 cases p with
 |i t=>
  intro x a
  rcases bZ.mp a with e |e
  .rw[e];rfl
  .rw[bi.mp e];rfl
 |o t=>
  intro x a
  rcases bZ.mp a with e |e
  .rw[e];rfl
  .rw[bi.mp e];rfl
 |c w k its=>
  intro x a
  rcases bZ.mp a with e |e
  .rw[e];rfl
  rcases bZ.mp e with e |e
  .rw[e];rfl
  rw[bi.mp e];intro y d;obtain⟨z,_,rfl⟩:=bp.mp d;intro u b
  rcases bZ.mp b with e |e
  .rw[e];rfl
  .rw[bi.mp e];rfl
def Wx(tb:L2N)(n:Nat)(b:List PP):kB (n+6) (.lst (b.map (PP.nD tb))):=λx a=>by
 obtain⟨p,_,rfl⟩:=bp.mp a;exact Ww tb n p
def Wy(tb:L2N)(n:Nat)(r:PR):kB (n+7) (r.nD tb):=λx a=>by
 rcases bZ.mp a with e |e
 .rw[e];rfl
 rcases bZ.mp e with e |e
 .rw[e];cases r.h <;> rfl
 rw[bi.mp e];exact Wx tb n r.b
def Wz(tb:L2N)(R:List PR):kB 20 (.tup [.lst (tb.map sT),.tup [.int (tb.length:Nat),.lst (R.map (PR.nD tb))]]):=λx a=>by
 rcases bZ.mp a with e |e
 .rw[e];exact Wv tb 17
 rw[bi.mp e];intro y b
 rcases bZ.mp b with e |e
 .rw[e];rfl
 rw[bi.mp e];intro z hz;obtain⟨r,_,rfl⟩:=bp.mp hz;exact Wy tb 10 r
def WA(ns:LI0)(h:ns.length<=63):m_2 [.kl (ns.map D.int)]=aa (.bl ac):=by
 apply bK;unfold b_2;generalize p:D.kl _=j;show wp _ [.im j,.no,.no,.no,.no,.no,.no,.no] _;apply ak;refine cf rfl ?_;refine kG (λU=>∃many:Int,(1<=many/\many<=3)/\U=[.im j,.im (.int many),.no,.no,.no,.no,.no,.no]) ?_ ?_
 .subst p;refine aX (aY (aA (aS rfl (Hb ns D.int)) rfl jH)) (λe=>?_) λe=>bm (k_J ⟨1,by decide,rfl⟩);have E:0<ns.length:=by have:=of_decide_eq_true e;lia
  have ea:atI (ns.map D.int) 0=aa (.int ns[0]):=by
   unfold atI ixN;rw[if_pos (by decide),if_pos (by rw[ay];lia),aG,gf];show(ns[0]?).map D.int=_;rw[dE E];rfl
  refine cf (aA rfl (aA (aw rfl rfl ea) rfl (lD (by decide))) hE) (k_J ⟨1+ns[0] % 3,by lia,rfl⟩)
 rintro U ⟨many,hm,rfl⟩;obtain⟨ss,E,z,es⟩:=Wu ns (many+1) (by lia);rw[p]at es;clear p
 obtain⟨m,T,rfl⟩:∃m T,ss=m::T:=by
  cases ss with
  |nil=>rw[gY]at E;lia
  |cons a b=>exact⟨a,b,rfl⟩
 rw[bg]at E;have h0:=z m bB;have H:=Ws j many hm m T (by lia) h0 (λs h=>z s (cD _ h)) es;have M:qJ (ctK (je m).2):=VY m;obtain⟨A,I⟩:=Lv (JH m).2;generalize ctK (je m).2=y at H M A I;have Q:T.length<=3:=by lia
 have N:=Wh A M I T Q;have u:=Kg _ N;have B:=Lf (fE y T);rw[LM]at B;have J:=LH A ac T;have v:=LJ A I T Q;generalize gS y.k (rws y ac T)=G at B J v;have L:=Wi A M G J v;have o:∀g∈G,RoG g:=λg C=>(J g C).1;have i:=Kg _ L;rw[Wj B o]at i;have w:=N.b;have f:∀r∈plR (fE y T),∀t∈prT r,t∈plT (fE y T):=λr x t ht=>((um ((plR _).flatMap prT) [] gp).2.1 t).mpr (.inr (f8.mpr ⟨r,x,ht⟩));have l:=Wz (plT (fE y T)) (plR (fE y T));unfold plD at u i;rw[B]at w f l u i;generalize plT (fE y T)=tb at u i f l;generalize (fE y T).map Ro.toD=c at H u;obtain⟨ej,er⟩:=VV G o (by lia);apply ak;refine cf (aS (ai rfl (ai rfl rfl)) H) ?_;show wp _ [.im j,.im (.int many),.im (.lst c),.no,.no,.no,.no,.no] _;apply ak;refine PF (aS (ai rfl rfl) u) rfl ?_;show wp _ [.im j,.im (.int many),.im (.lst c),.im (.lst (tb.map sT)),.im (.tup [.int (tb.length:Nat),.lst ((G.map prG).map (PR.nD tb))]),.no,.no,.no] _;apply ak;refine fO rfl ?_;show wp _ [.im j,.im (.int many),.im (.lst c),.im (.lst (tb.map sT)),.im (.tup [.int (tb.length:Nat),.lst ((G.map prG).map (PR.nD tb))]),.own [],.no,.no] _;refine kG (λU=>∃q n,U=[.im j,.im (.int many),.im (.lst c),.im (.lst (tb.map sT)),.im (.tup [.int (tb.length:Nat),.lst ((G.map prG).map (PR.nD tb))]),.own ((G.map roX).map sT),q,n]) ?_ ?_
 .refine eY G (λg=>(prG g).nD tb) (λpre U=>∃q n,U=[.im j,.im (.int many),.im (.lst c),.im (.lst (tb.map sT)),.im (.tup [.int (tb.length:Nat),.lst ((G.map prG).map (PR.nD tb))]),.own ((pre.map roX).map sT),q,n]) (b8 (aw rfl rfl rfl) (by rw[map_map];rfl)) ⟨_,_,rfl⟩ ?_ ?_
  .rintro pre g post U Y ⟨q,n,rfl⟩;refine⟨_,rfl,?_⟩;have C:g∈G:=by rw[Y];simp
   have hx:=VX (o g C);have x:prG g∈G.map prG:=bp.mpr ⟨g,C,rfl⟩;have e1:=UD tb (prG g) (roX g) hx (f _ x) (w _ x).2;have e2:=UK tb (prG g) (roX g) hx (f _ x);show wp _ [.im j,.im (.int many),.im (.lst c),.im (.lst (tb.map sT)),.im (.tup [.int (tb.length:Nat),.lst ((G.map prG).map (PR.nD tb))]),.own ((pre.map roX).map sT),.im ((prG g).nD tb),n] _
   have hpre:pre.length<=72:=by
    have:=congrArg fG Y;rw[aI]at this;lia
   apply ak;refine cf (aS (ai rfl (ai rfl rfl)) e1) ?_;show wp _ [.im j,.im (.int many),.im (.lst c),.im (.lst (tb.map sT)),.im (.tup [.int (tb.length:Nat),.lst ((G.map prG).map (PR.nD tb))]),.own ((pre.map roX).map sT),.im ((prG g).nD tb),.im (sT (roX g))] _;apply ak;refine aX (b:=ag) ?_ (λe=>nomatch e) λ_=>bm ?_
   .exact GZ (a:=ag) (b:=ag) rfl (aY (aA rfl (aS (ai rfl (ai rfl rfl)) e2) (GV rfl)))
   .refine jG (d:=sT (roX g)) rfl rfl (by rw[ay,ay];lia) ⟨.im ((prG g).nD tb),.im (sT (roX g)),?_⟩;rw[bF,bF];rfl
  .rintro U ⟨q,n,rfl⟩;exact k_J ⟨_,_,rfl⟩
 rintro U ⟨q,n,rfl⟩;apply ak;refine aX (b:=ag) (aY (aA (cH (ai rfl (ai rfl rfl))) (aS (ai rfl rfl) u) (GV l))) (λe=>nomatch e) λ_=>bm ?_;refine io rfl ?_;refine cB (aA (aS (ai (aS (ai (aA rfl rfl ej) rfl) er) rfl) i) (cH (ai rfl (ai rfl rfl))) (O1 l)) ?_;exact b9 rfl
abbrev sp_law(K:br):Sp:=λL H Q _=>∃(a:Addr) (ns:LI0),L=[.ref a]/\SqL K H a (ns.map V.int)/\ns.length<=63/\∀H',Q (.bl ac) H'
variable{K:br}
def sp_law_of{H:Hp}{a:Addr}{ns:LI0}{W5:XK}(c:ns.length<=63)(b:SqL K H a (ns.map V.int)):sp_law K [.ref a] H (λv _=>v=.bl ac) W5:=⟨a,ns,rfl,b,c,λ_=>rfl⟩
variable{w:World}
def law_ok{a:Wa}(W:Wd K mg a):eX P w K mg base CX0 17 a.e_2.1 a.e_2.2 ["_law_script"] (sp_law K):=(S4 W).ok.imp λL H Q W5 ⟨a,ns,b,c,d,k⟩=>
 ⟨H,[.kl (ns.map D.int)],.bl ac,aR.refl _,⟨.ref a,[],b,⟨a,_,rfl,c,aF.ints ns⟩,rfl⟩,rfl,WA ns d,λv j H' x r=>by rw[show v=V.bl ac from r];exact k H'⟩
variable{P:LVa->Prop}
def uB(h:P []):∀us:LVa,us.length=0->P us:=λus e=>by
 rw[eq_nil_of_length_eq_zero e];exact h
def hZ(h:∀a (us:LVa),us.length=n->P (a::us)):∀us:LVa,us.length=n+1->P us:=λus e=>by
 cases us with
 |nil=>cases e
 |cons a us=>exact h a us (Nat.succ.inj e)
def LR(h:∀a:Value,P [a]):∀us:LVa,us.length=1->P us:=hZ (P:=λus=>P (us)) λa=>uB (h a)
def WB(h:∀a b:Value,P [a,b]):∀us:LVa,us.length=2->P us:=hZ (P:=λus=>P (us)) λa=>hZ (P:=λus=>P (a::us)) λb=>uB (h a b)
def WC(h:∀a b c:Value,P [a,b,c]):∀us:LVa,us.length=3->P us:=hZ (P:=λus=>P (us)) λa=>hZ (P:=λus=>P (a::us)) λb=>hZ (P:=λus=>P (a::b::us)) λc=>uB (h a b c)
def WD(h:∀a b c d:Value,P [a,b,c,d]):∀us:LVa,us.length=4->P us:=hZ (P:=λus=>P (us)) λa=>hZ (P:=λus=>P (a::us)) λb=>hZ (P:=λus=>P (a::b::us)) λc=>hZ (P:=λus=>P (a::b::c::us)) λd=>uB (h a b c d)
def WE(h:∀a b c d e:Value,P [a,b,c,d,e]):∀us:LVa,us.length=5->P us:=hZ (P:=λus=>P (us)) λa=>hZ (P:=λus=>P (a::us)) λb=>hZ (P:=λus=>P (a::b::us)) λc=>hZ (P:=λus=>P (a::b::c::us)) λd=>hZ (P:=λus=>P (a::b::c::d::us)) λe=>uB (h a b c d e)
local macro_rules | `(tactic| walk_at "bd")=>`(tactic| exact λ_ _ _ _ _ _=>by first | exact LR λ_=>rfl | exact WB λ_ _=>rfl | exact WC λ_ _ _=>rfl | exact WD λ_ _ _ _=>rfl | exact WE λ_ _ _ _ _=>rfl)
set_option autoImplicit true in
def all_mk{ad:Addr}{h:Heap}{ar as au Q bK av aw ax ay az aA aB aC aD aE aF aG aH aI aJ aK aM aN aO aP aQ aR T aS aT aU aV aW aX aY aZ a0 a1 a2 a3 a4 a5 a6 a7 a8 a9 bL ba bb bM bc bN H bO bd I J bf U bg Y L bP bh bQ M bR bS bi bj bk bl bT bm bn bo bp N bq br bs bu bv bw bx bz bA bB bC bD:fT}{u bE:Nat}{af ag ah ai aj ak al am an ao w x y z A B:Tok}{ap aq t bF j c g:Tok}{fa:Addr}(X:K.In h)(G:h.Ns cQ mg)(hfa:mg "law"=aa (.ref fa))
 (l:eN K cQ "Reader"=aa (aa (.ref ad)))
 (bU:Dq K "shown_row" A5 f_34 ar)
 (bV:Dq K "behind_word" A6 f_35 as)
 (bW:Dq K "shown_end" A7 f_51 au)
 (bX:Dq K "if_any" A8 f_16 Q)
 (de:Dq K "shown_thing" s_4 f_4 bK)
 (bY:Dq K "shown_body" A9 f_52 av)
 (bZ:Dq K "shown_part" Ba f_53 aw)
 (b0:Dq K "shown_over" Bb f_54 ax)
 (b1:Dq K "shown_item" Bc f_55 ay)
 (b2:Dq K "shown_pairs" Bd f_36 az)
 (b3:Dq K "shown_rule" Be f_41 aA)
 (b4:Dq K "row_part" Bf f_65 aB)
 (b5:Dq K "row_thing" Bg f_27 aC)
 (b6:Dq K "words_of" Bh f_20 aD)
 (b7:Dq K "is_made_of" Bi f_28 aE)
 (b8:Dq K "is_name" Bj f_85 aF)
 (b9:Dq K "is_variable" Bk f_42 aG)
 (ca:Dq K "is_number" Bl f_43 aH)
 (cb:Dq K "kinds_of" Bm f_56 aI)
 (cc:Dq K "must_be_new" Bn f_66 aJ)
 (cd:Dq K "must_be_unlike" Bo f_67 aK)
 (ce:Dq K "must_be_known" Bp f_57 aM)
 (cf:Dq K "must_be_pairs" Bq f_37 aN)
 (cg:Dq K "must_be_told" Br f_68 aO)
 (ch:Dq K "uses" Bs f_79 aP)
 (ci:Dq K "part_uses" Bt f_80 aQ)
 (cj:Dq K "args_of" Bu f_38 aR)
 (ck:Dq K "ways" Bv f_17 T)
 (cm:Dq K "plain_of" Bw f_21 aS)
 (cn:Dq K "rules_of" Bx f_44 aT)
 (co:Dq K "must_be_narrow" By f_39 aU)
 (cp:Dq K "names_by_ways" Bz f_22 aV)
 (cq:Dq K "has_like" BA f_81 aW)
 (cr:Dq K "name_all" BB f_69 aX)
 (cs:Dq K "text_of" BC f_29 aY)
 (ct:Dq K "rules_by" BD f_58 aZ)
 (cu:Dq K "choice" BE f_70 a0)
 (cv:Dq K "put_part" BF f_71 a1)
 (cw:Dq K "put_items" BG f_30 a2)
 (cx:Dq K "places_in" BH f_45 a3)
 (cy:Dq K "texts_in" BI f_59 a4)
 (cz:Dq K "numbered" BJ f_72 a5)
 (cA:Dq K "numbered_part" BK f_82 a6)
 (cB:Dq K "read" BL f_83 a7)
 (cC:Dq K "read_row" BM f_46 a8)
 (cD:Dq K "at_most" BN f_23 a9)
 (df:Dq K "_law_next" s_0 f_0 bL)
 (cE:Dq K "_law_seeds" BO f_31 ba)
 (cF:Dq K "_law_small" BP f_24 bb)
 (dg:Dq K "_law_name" s_6 f_6 bM)
 (cG:Dq K "_law_variable" BQ f_47 bc)
 (dh:Dq K "_law_number" s_9 f_9 bN)
 (cH:Dq K "_law_lay" BR f_10 H)
 (di:Dq K "_law_thing" s_5 f_5 bO)
 (cI:Dq K "_law_pairs" BS f_25 bd)
 (cJ:Dq K "_law_items" BU f_11 I)
 (cK:Dq K "_law_part" BV f_12 J)
 (cL:Dq K "_law_body" BW f_73 bf)
 (cM:Dq K "_law_row" BX f_18 U)
 (cN:Dq K "_law_rows" BY f_32 bg)
 (cO:Dq K "_law_part_text" BZ f_19 Y)
 (cP:Dq K "_law_rule_text" B0 f_13 L)
 (cR:Dq K "law" s_2 f_2 bP)
 (bG:Dp K ad "__init__" "Reader.__init__" B1 f_89 bh)
 (dj:Dp K ad "coming" "Reader.coming" s_3 f_3 bQ)
 (cS:Dp K ad "take" "Reader.take" B2 f_14 M)
 (dk:Dp K ad "passes" "Reader.passes" s_1 f_1 bR)
 (dm:Dp K ad "must_pass" "Reader.must_pass" s_7 f_7 bS)
 (cT:Dp K ad "must_end" "Reader.must_end" B3 f_86 bi)
 (cU:Dp K ad "read_form" "Reader.read_form" B4 f_74 bj)
 (cV:Dp K ad "read_choose" "Reader.read_choose" B5 f_84 bk)
 (cW:Dp K ad "read_never" "Reader.read_never" B6 f_75 bl)
 (dn:Dp K ad "read_name" "Reader.read_name" s_8 f_8 bT)
 (cX:Dp K ad "read_names" "Reader.read_names" B7 f_87 bm)
 (cY:Dp K ad "read_variable" "Reader.read_variable" B8 f_60 bn)
 (cZ:Dp K ad "read_number" "Reader.read_number" B9 f_26 bo)
 (c0:Dp K ad "read_arg" "Reader.read_arg" Ca f_33 bp)
 (c1:Dp K ad "read_thing" "Reader.read_thing" Cb f_15 N)
 (c2:Dp K ad "read_args" "Reader.read_args" Cc f_76 bq)
 (c3:Dp K ad "read_if" "Reader.read_if" Cd f_61 br)
 (c4:Dp K ad "read_body" "Reader.read_body" Ce f_48 bs)
 (c5:Dp K ad "read_part" "Reader.read_part" Cf f_62 bu)
 (c6:Dp K ad "read_unlike" "Reader.read_unlike" Cg f_88 bv)
 (c7:Dp K ad "read_count" "Reader.read_count" Ch f_63 bw)
 (c8:Dp K ad "read_items" "Reader.read_items" Ci f_49 bx)
 (c9:Dp K ad "read_item" "Reader.read_item" Cj f_50 bz)
 (da:Dp K ad "read_over" "Reader.read_over" Ck f_64 bA)
 (db:Dp K ad "read_for" "Reader.read_for" Cm f_40 bB)
 (dc:Dp K ad "read_pairs" "Reader.read_pairs" Cn f_77 bC)
 (dd:Dp K ad "read_pair" "Reader.read_pair" Co f_78 bD)
 (p:rC K ad jt=ac)
 (n:W.hasDictIn K ad=ac)
 (q:W.plainOver K ad=ac)
 (r:ia K (.ref ad) "__setattr__"=aa (aa (.builtin "object.__setattr__")))
 (en:W.makesIn K ad=ac)
 (o:nG K (.ref ad)=ac)
 (d8:ia K (.ref ad) "words"=aa ab)
 (dl:ia K (.ref ad) "place"=aa ab)
 (bH:eN K cQ "KEPT"=aa (aa (.ref u)))
 (bI:K.lookup u=aa ⟨.type "tuple",od_KEPT,.seq #[.str "kind" af,.str "rule" ag,.str "may" ah,.str "choose" ai,.str "never" aj,.str "if" ak,.str "and" al,.str "not" am,.str "unlike" an,.str "least" ao,.str "most" w,.str "of" x,.str "to" y,.str "over" z,.str "in" A,.str "for" B] bE,sl_KEPT⟩)
 (E:eN K cQ "SMALL"=aa (aa (.str "abcdefghijklmnopqrstuvwxyz" ap)))
 (C:eN K cQ "GREAT"=aa (aa (.str "ABCDEFGHIJKLMNOPQRSTUVWXYZ" aq)))
 (m:eN K cQ "FIGURES"=aa (aa (.str "0123456789" t)))
 (bJ:eN K cQ "LONE"=aa (aa (.str "()," bF)))
 (f:eN K cQ "MOST_RULES"=aa (aa (.int 400 j)))
 (b:eN K cQ "MOST_THINGS"=aa (aa (.int 60 c)))
 (d:eN K cQ "MOST_ITEMS"=aa (aa (.int 60 g)))
 (ae:eN K cQ "ValueError"=aa ab)
 (hB:eN K cQ "abs"=aa ab)
 (gs:eN K cQ "all"=aa ab)
 (hF:eN K cQ "any"=aa ab)
 (eG:eN K cQ "dict"=aa ab)
 (ek:eN K cQ "enumerate"=aa ab)
 (e5:eN K cQ "int"=aa ab)
 (el:eN K cQ "isinstance"=aa ab)
 (d9:eN K cQ "len"=aa ab)
 (eR:eN K cQ "list"=aa ab)
 (g1:eN K cQ "min"=aa ab)
 (eh:eN K cQ "range"=aa ab)
 (hG:eN K cQ "set"=aa ab)
 (eA:eN K cQ "str"=aa ab)
 (hH:eN K cQ "zip"=aa ab)
 (gn:Ae K "str")
  : ∃a:Wa,∃W:Wd K mg a,a.e_2.1=fa/\∀(s:aL) (v:Value),BindsTo s a.e_2.2 ⟨[v],[]⟩ [("_law_script",v)]:=by
 have e:=hfa.symm.trans (jw X G cR.a);cases e;have hc:∃cl:Str->Addr,ad=cl "Reader":=⟨λs=>if s="Reader" then ad else 0,rfl⟩;obtain⟨cl,rfl⟩:=hc
 exact⟨⟨(f_34,ar),(f_35,as),(f_51,au),(f_16,Q),(f_4,bK),(f_52,av),(f_53,aw),(f_54,ax),(f_55,ay),(f_36,az),(f_41,aA),(f_65,aB),(f_27,aC),(f_20,aD),(f_28,aE),(f_85,aF),(f_42,aG),(f_43,aH),(f_56,aI),(f_66,aJ),(f_67,aK),(f_57,aM),(f_37,aN),(f_68,aO),(f_79,aP),(f_80,aQ),(f_38,aR),(f_17,T),(f_21,aS),(f_44,aT),(f_39,aU),(f_22,aV),(f_81,aW),(f_69,aX),(f_29,aY),(f_58,aZ),(f_70,a0),(f_71,a1),(f_30,a2),(f_45,a3),(f_59,a4),(f_72,a5),(f_82,a6),(f_83,a7),(f_46,a8),(f_23,a9),(f_0,bL),(f_31,ba),(f_24,bb),(f_6,bM),(f_47,bc),(f_9,bN),(f_10,H),(f_5,bO),(f_25,bd),(f_11,I),(f_12,J),(f_73,bf),(f_18,U),(f_32,bg),(f_19,Y),(f_13,L),(f_2,bP),(f_89,bh),(f_3,bQ),(f_14,M),(f_1,bR),(f_7,bS),(f_86,bi),(f_74,bj),(f_84,bk),(f_75,bl),(f_8,bT),(f_87,bm),(f_60,bn),(f_26,bo),(f_33,bp),(f_15,N),(f_76,bq),(f_61,br),(f_48,bs),(f_62,bu),(f_88,bv),(f_63,bw),(f_49,bx),(f_50,bz),(f_64,bA),(f_40,bB),(f_77,bC),(f_78,bD),cl⟩,⟨bU.mk2 X G,bV.mk2 X G,bW.mk2 X G,bX.mk2 X G,de.mk2 X G,bY.mk2 X G,bZ.mk2 X G,b0.mk2 X G,b1.mk2 X G,b2.mk2 X G,b3.mk2 X G,b4.mk2 X G,b5.mk2 X G,b6.mk2 X G,b7.mk2 X G,b8.mk2 X G,b9.mk2 X G,ca.mk2 X G,cb.mk2 X G,cc.mk2 X G,cd.mk2 X G,ce.mk2 X G,cf.mk2 X G,cg.mk2 X G,ch.mk2 X G,ci.mk2 X G,cj.mk2 X G,ck.mk2 X G,cm.mk2 X G,cn.mk2 X G,co.mk2 X G,cp.mk2 X G,cq.mk2 X G,cr.mk2 X G,cs.mk2 X G,ct.mk2 X G,cu.mk2 X G,cv.mk2 X G,cw.mk2 X G,cx.mk2 X G,cy.mk2 X G,cz.mk2 X G,cA.mk2 X G,cB.mk2 X G,cC.mk2 X G,cD.mk2 X G,df.mk2 X G,cE.mk2 X G,cF.mk2 X G,dg.mk2 X G,cG.mk2 X G,dh.mk2 X G,cH.mk2 X G,di.mk2 X G,cI.mk2 X G,cJ.mk2 X G,cK.mk2 X G,cL.mk2 X G,cM.mk2 X G,cN.mk2 X G,cO.mk2 X G,cP.mk2 X G,cR.mk2 X G,bG.mk2,dj.mk2,cS.mk2,dk.mk2,dm.mk2,cT.mk2,cU.mk2,cV.mk2,cW.mk2,dn.mk2,cX.mk2,cY.mk2,cZ.mk2,c0.mk2,c1.mk2,c2.mk2,c3.mk2,c4.mk2,c5.mk2,c6.mk2,c7.mk2,c8.mk2,c9.mk2,da.mk2,db.mk2,dc.mk2,dd.mk2,jw X G l,⟨p,n,q,r⟩,⟨en,bG.a,bG.i,o⟩,d8,dl,⟨_,_,_,_,jw X G bH,bI,rfl,rfl,(show 16<=be by decide),.cons ⟨_,rfl⟩ (.cons ⟨_,rfl⟩ (.cons ⟨_,rfl⟩ (.cons ⟨_,rfl⟩ (.cons ⟨_,rfl⟩ (.cons ⟨_,rfl⟩ (.cons ⟨_,rfl⟩ (.cons ⟨_,rfl⟩ (.cons ⟨_,rfl⟩ (.cons ⟨_,rfl⟩ (.cons ⟨_,rfl⟩ (.cons ⟨_,rfl⟩ (.cons ⟨_,rfl⟩ (.cons ⟨_,rfl⟩ (.cons ⟨_,rfl⟩ (.cons ⟨_,rfl⟩ (.nil))))))))))))))))⟩,⟨_,jw X G E⟩,⟨_,jw X G C⟩,⟨_,jw X G m⟩,⟨_,jw X G bJ⟩,⟨_,jw X G f⟩,⟨_,jw X G b⟩,⟨_,jw X G d⟩,g5 X G ae,g5 X G hB,g5 X G gs,g5 X G hF,g5 X G eG,g5 X G ek,g5 X G e5,g5 X G el,g5 X G d9,g5 X G eR,g5 X G g1,g5 X G eh,g5 X G hG,g5 X G eA,g5 X G hH,gn⟩,rfl,cR.bt (λ_ _ _ _ _ _=>LR λ_=>rfl)⟩
end N_k86
structure PySem.W.Fast:Prop where
 (tw4284260582517747632 tw2725244599710465962 tw8159611330188588172 tw1480766230005623953 tw18032113753380611216 tw13979512671489760995 tw18342637483975000046 tw16400076612498437786 tw13594738970708099453 tw1088553961672433825 tw6688443577635265470 te6562295813918167417 te14344739394939868365 te6282477543896762631 te17852715271613583405 te5494671076879320998 te11732561775514604591 te1481981704057031610 te12155915133862319032 te12508992161070127241 te6537678906727757084 te11236683831887952504 te17545759725839271918 te13784869027420262162 te11588962705925311284 te4187152344866080117 te17032933473968754011 te2791425700296077981 te10585630722777183708 te4833762455740598253:True)
open PySem PySem.W PyProof.Rows
set_option maxRecDepth 100000 in
set_option maxHeartbeats 0 in
theorem PySem.Challenge.cw_standstill_k86_shown_and_put_again_holds : PySem.Challenge.rw_standstill_k86_shown_and_put_again.Holds := by
 w_on; o_law; k_head; (case hw=>w_witness2)
 k_fill
 refine L2.walk_ofK (l:=PySem.Challenge.rw_standstill_k86_shown_and_put_again) (n:=63) (k:=17) (x:="_law_script") (CX:=L2.CX0) (sp:=N_k86.sp_law) rfl (by decide) rfl ⟨rfl,by decide,by decide⟩ (fun w h Y=>PySem.W.kIn_of Y) ?F (fun _ _ a ns hl _ hS=>N_k86.sp_law_of hl hS) (fun _ _ _ _ z=>z)
 case F =>
  intro w mg fa h KX G hmg
  have TT : ∃ a : N_k86.Wa,∃ W : N_k86.Wd (L2.KOf KX) mg a,a.e_2.1=fa /\ ∀ (s:Shared) (v:Value),BindsTo s a.e_2.2 ⟨[v],[]⟩ [("_law_script",v)]:=by
   dsimp only [L2.KOf]
   refine' N_k86.all_mk KX G hmg ..
   all_goals first | k_is | kit_is | k_exc | exact ⟨by k_is,L2.fun_mk (by k_is) (by k_is) (by k_is)⟩ | exact ⟨by k_is,by k_is,L2.fun_mk (by k_is) (by k_is) (by k_is)⟩ | (intro t ht; simp only [List.mem_cons,List.not_mem_nil,or_false] at ht; rcases ht with rfl | rfl | rfl | rfl | rfl | rfl | rfl <;> kit_is) | skip
  obtain ⟨a,W,e1,hb⟩:=TT
  subst e1
  exact ⟨_,hb,fun base kb nb=>N_k86.law_ok W⟩
