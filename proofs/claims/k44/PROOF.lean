import PyProof.Rows.All
import Wide.All
import OpenK.AllK
import Wide.FinOn
import Lean
import PyProof.EqAt
import PyProof.EqKinds
import PyProof.TupleCall
import PySem.Challenge.RW_gatekin_k44_every_wish_built
open PySem renaming PyData->ab,wpAny_bind->ag,Value->a8,wpAny_pure->bt,sizeLine->bE,Shared->dc,starEach->d6,wpAny->eh,model->eJ,mainGlobals->ff,bootBuiltins->fm,compareOp->fw,wpAny_seqItems->fR,sysModules->fT,Program->gc,mem_of_lookup->gp,wpAny_callSpecial?_slot->gy,wpAny_call_entry->gz,binaryOp->hV,wpAny_mono->hZ,swapsWith->ip,Around->iS,wpAny_truthy_bool->jv,foldedSetIterable->jI,wpAny_field->jS,Paired->ka,cLine->ke,bindArgs->kF,NameKind->kG,wpAny_specialOf->kP,World->kT,cellsFrom->kU,wpAny_newObj_type->lp,wpAny_holding->mi,wpAny_pyIter_tuple->mB,wpAny_setField_rec->mI,getitemInPython_of_ne->mN,wpAny_passesOwn->nc,wpAny_letTemporaryGo->nr,assignEach->nz,attributeBase->nE,FuncData->nN,backTo->nS,behindInMarks->oo,IsPair->oq,subscripted->oC,wpAny_tryCatch->oP,wpAny_isInstance->pb,atKey->pz,intKind->pT,getItem->pV,wpAny_operating->qa,builtinsNs->qk,wpAny_Call_Name_kw->qo,tupleKind_room_in1->qr,tupleKind->qB,sliceBounds->qV,DictEntry->ra,wpAny_letGo->rf,Keyword->rl,wpAny_pyIter_enum->rL,letTemporaryGo->rS,tupleKeyHash->rV,isSubtype_tuple_tuple->sk,rawInt->sF,wpAny_forIn_list->sM,keywordEach->tf,wpAny_updateSeq_pair->ti,wpAny_execs_nil->tz,wpAny_loadPart'->t9,wpAny_updateSeq->uS,PassesOwn->vn,Scope->vv,wpAny_rule->vE,wpAny_getItem_heap->vF,wpAny_tupleItemsOf->vS,wpAny_sequenceKey->we,valueAt->wq,storedH->wx,wpAny_pyIter_list->w9,wpAny_onRaise->xl,plainId_quiet->xo,codeAmong->xw,noFill_tuple_add->xy,IsZip->xE,wpAny_Name->x8,codeAny->ya,concat_meets->yb,IsPart->yi,wpAny_typeOf->yk,closureFor->yy,reduceHash->yA,letOwnedTupleGo->y7,codeAny_builtin->zd,backToKw->zi,callerA->zv,isTrue->Ap
open List renaming getD_eq_getElem?_getD->ae,length_map->af,getElem?_eq_getElem->ai,length_append->av,replicate->ax,mem_singleton->ay,getElem?_eq_some_iff->aS,map_append->a7,length_cons->a9,map_cons->bo,getElem?_map->br,getElem?_append_right->bX,mem_cons_self->b9,mem_map->cc,mem_cons_of_mem->cf,length_replicate->ck,map_congr_left->cn,mem_cons->cp,getElem?_append_left->cq,length_singleton->cx,mem_append->cK,mem_append_right->cS,length_take->c8,length_range->c9,map_map->de,mem_range->dn,append_nil->dr,size_toArray->dQ,append_assoc->d5,take_length->eD,mem_append_left->eK,mem_of_getElem?->eL,getElem?_range->eP,all_eq_true->fb,nil_append->fi,getElem?_eq_none->fk,replicate_succ->fo,map_nil->ft,nodup_append->fv,length_set->fy,getElem_mem->fE,foldl_append->fS,cons_append->gE,filter_cons_of_neg->gL,Nodup->gX,getElem?_replicate_of_lt->hW,take_of_length_le->h9,find?_cons->ij,getElem?_replicate->iO,filter_cons_of_pos->iP,sum_cons->kb,mem_flatMap->kz,mem_iff_getElem->kB,any_cons->kC,mem_filter->kM,lookup_cons->kX,map_replicate->k7,getElem?_take_of_lt->k9,eq_of_mem_replicate->lb,mem_of_mem_take->lj,flatten_cons->lx,length_eq_zero_iff->ly,length_nil->lS,range_succ->lT,filterMap_cons->l5,replicate_zero->l7,getElem?_set_self->ma,mem_filterMap->mn,take_zero->mE,drop_eq_getElem_cons->mS,mem_of_find?_eq_some->mT,nodup_cons->ng,length_reverse->nL,length_drop->nV,not_mem_nil->nX,any_eq_true->n9,eq_nil_of_length_eq_zero->oe,take_append_of_le_length->og,find?_eq_none->oj,take_add_one->ow,getElem?_set_ne->oy,flatMap_append->pj,foldl_cons->p9,sum_append->qh,pairwise_cons->qq,mem_replicate->qA,ext_getElem?->r6,any_eq_false->se,filter_eq_nil_iff->si,length_filter_le->sj,take_append_drop->sC,eq_replicate_iff->sD,all_cons->sP,replicate_succ'->tm,map_id->tw,dropLast_concat_getLast->uu,find?_some->ve,idxOf_lt_length_of_mem->vj,drop_zero->wa,lookup->wo,getElem?_set->xb,Pairwise->xh,drop_length->xC,range_succ_eq_map->yB,drop_of_length_le->yY,of_mem_zip->y8,forIn_cons->y9,nodup_nil->zk,map_take->zD
open PySem.W renaming Frag->aw,fnOf->fe,mg_of->iA,nsIn->iL,codeHdIn->i8,keepIn->lh,codeIn->mr,kia_one->nh,cellsFrom_some->oi,kitOne->oD,OpenLaw->x6,kla_obj->zw
open Nat renaming le_refl->aE,le_trans->dy,lt_of_lt_of_le->eW,ne_of_lt->fh,pow_le_pow_right->fx,lt_or_ge->gu,lt_irrefl->g9,lt_of_le_of_lt->ki,le_of_not_lt->ky,sub_self->kL,zero_le->kN,pow_lt_pow_right->ll,le_of_lt->l9,pow_le_pow_left->pv,not_lt_zero->qf,ne_of_gt->rg,or_lt_two_pow->sg,lt_succ_self->sL,add_assoc->sN,min_eq_left->va,pow_succ->vi,pow_pos->xc,min_le_right->xA,mod_eq_of_lt->xS,succ_mul->yv,mul_le_mul->zo,not_lt->As,mod_lt->Au,zero_add->AC
open PySem.Heap renaming get?_push_of_some->aI,lt_size->cy,get?_push_size->c6,size_push->iX,SameBut->oS,get?_none_of_le->sR
open Int renaming toNat_natCast->cE,emod_lt_of_pos->kx,emod_nonneg->kQ,pow_succ->la,natCast_pow->nk,le_refl->nv,one_mul->oQ,toNat_of_nonneg->pf,mul_assoc->pS,mul_comm->sf,fdiv_eq_ediv_of_nonneg->vx,mul_one->wd,natCast_add->ze,ofNat->zC,zero_ediv->zI,le_trans->AB
open PySem.Builtin.Range renaming rangeSize->dA,rangeFitsLong->ox
open Bool renaming and_eq_true->dS,false_ne_true->e8,eq_false_iff->ny,eq_iff_iff->qc,or_eq_true->tJ,not_eq_true'->xa,false_or->xi,true_and->xt,true_or->AA
open PySem.SeqAt renaming shaped->eI,canLay_of_shaped->mf
open Classical renaming not_forall->fq,byContradiction->hY,choose->xD
open PySem.Builtin.Tuple renaming tupleHashOf->fA,tupleItemsOf->oB
open PyProof.Rows renaming slot_tuple_getitem->fF,callWith_type1->iE,bitAnd_m1->ja,envOfC->oz,AllBare->wb,IntsAre->wm,IsTup->y6
open PySem.PyData renaming eqv->fI,canLayAll0->iF,canLay0->kK,depthAll->lP,eqvAll->sQ
open PySem.PassesOwn renaming never->gx
open PySem.Builtin renaming bitAnd->ia,bitNot->ib,bitOr->k8
open Option renaming isSome_iff_exists->iq,isSome_map->kH,map_eq_some_iff->md,map_eq_none_iff->sd
open PySem.Value renaming ref->iN,type->kD,isInt->zh
open Or renaming inl->i7,inr->uk
open PySem.F renaming plain_min_loop->i9,slot_dict_getitem->kR,slot_tuple_iterator_next->mx,plainAttrs_list->n0,args_tuple_add_2->pw,slot_dict_itemiterator_iter->pE,entry_tuple_add->qE,slot_tuple_add->rh,slot_list_append->rq,slot_tuple_hash->rX,entry_min_loop->r9,args_tuple_iterator_next_1->tN,slot_tuple_eq->ua,slot_zip_next->u7,type_list_append->xk,plainAttrs_dict->xB,slot_dict_items->xI
open True renaming intro->kr
open False renaming elim->lI
open Array renaming length_toList->l6,getElem?_toList->sm,forIn_toList->vT
open Sum renaming inl->l8,inr->ot
open PySem.NameKind renaming cell->mm
open PySem.Builtin.List renaming listFitsIndex->mw,listTooLong->nI
open PySem.Builtin.Slice renaming slicePlaces->mP,sliceAdjust->pd
open Ne renaming symm->nK
open ForInStep renaming yield->om
open PySem.Heap.SameBut renaming update->pe
open PySem.Calls renaming callWith_builtin->ro
open PySem.Around renaming under_plainId->tj
open PyProof renaming noPylong_small->x9
open PySem.Obj renaming mapSeq->yn
set_option Elab.async false
set_option linter.all false
set_option maxRecDepth 100000
local macro_rules | `(tactic| lia) => `(tactic| first | lia (config := {}) | omega)
namespace Zq
open PySem PySem.Spec PyProof.Rows
abbrev A7:=List (Addr×Obj)
abbrev A9:=List (Nat×Int)
abbrev B0:=List (ab×ab)
abbrev B1:=List (Str×Addr)
abbrev B2:=a8->dc->Prop
abbrev B3:=List Int
abbrev B4:=List ab
abbrev B5:=List Nat
abbrev B6:=List Str
abbrev B7:=Option a8
abbrev B8:=List a8
abbrev C1:=List Expr
abbrev C2:=List Addr
abbrev C3:=Option Int
abbrev C4:=Option Addr
abbrev C5:=List Stmt
abbrev C6:=List Env
abbrev nD(x:Str):Prop:=(x == ("__debug__" : Str))=false
end Zq
local macro_rules | `(tactic| walk_at "hf")=>`(tactic| first | exact .inl rfl | exact .inr rfl | assumption)
namespace Zq
open PySem PySem.Spec PyProof.Rows
abbrev Key:=Sum Int Str
abbrev C7:=List Key
noncomputable def zB:Key->a8->Bool
 | .inl k,v=>zh k v
 | .inr x,v=>Value.isStrOf x v
noncomputable def agy(w:kT):Key->Int
 | .inl k=>hashInt k
 | .inr x=>hashStr w x
theorem fY:∀{k:Key}{v:a8},zB k v=true->(∃i t,k=l8 i/\v=a8.int i t)\/(∃x t,k=ot x/\v=a8.str x t)
 | .inl i,v,h=>by
  obtain ⟨t,e⟩:=Value.isInt_shape h;exact .inl ⟨i,t,rfl,e⟩
 | .inr x,v,h=>by
  obtain ⟨t,e⟩:=Value.isStrOf_shape h;exact .inr ⟨x,t,rfl,e⟩
theorem S6(i:Int)(t:Tok):zB (.inl i) (.int i t)=true:=by simp[zB,zh]
theorem T6(x:Str)(t:Tok):zB (.inr x) (.str x t)=true:=by simp[zB,Value.isStrOf]
theorem abL(a b:Int):decide ((l8 a:Key)=l8 b)=(a == b):=by
 by_cases e:a=b
 . subst e;simp
 . have h:¬ (l8 a:Key)=l8 b:=λq=>e (l8.inj q);rw[decide_eq_false h];exact (beq_eq_false_iff_ne.mpr e).symm
theorem ac3(a b:Str):decide ((ot a:Key)=ot b)=decide (a=b):=by
 by_cases e:a=b
 . subst e;simp
 . have h:¬ (ot a:Key)=ot b:=λq=>e (ot.inj q);rw[decide_eq_false h,decide_eq_false e]
theorem ac5(a:Int)(b:Str):decide ((l8 a:Key)=ot b)=false:=decide_eq_false (λq=>nomatch q)
theorem ack(a:Str)(b:Int):decide ((ot a:Key)=l8 b)=false:=decide_eq_false (λq=>nomatch q)
noncomputable def b7(prog:gc)(w:kT):PySem.KeyKind prog w Key where
 is:=zB
 hash:=agy w
 inj:=λv a b ha hb=>by
  rcases fY ha with ⟨i,t,rfl,rfl⟩ | ⟨x,t,rfl,rfl⟩
  . rcases fY hb with ⟨j,u,rfl,e⟩ | ⟨y,u,rfl,e⟩
    . injection e with e1 _;rw[e1]
    . exact nomatch e
  . rcases fY hb with ⟨j,u,rfl,e⟩ | ⟨y,u,rfl,e⟩
    . exact nomatch e
    . injection e with e1 _;rw[e1]
 byValue:=λk v h=>by
  rcases fY h with ⟨i,t,rfl,rfl⟩ | ⟨x,t,rfl,rfl⟩ <;> rfl
 pyHash:=λhv h=>by
  rcases fY hv with ⟨i,t,rfl,rfl⟩ | ⟨x,t,rfl,rfl⟩
  . exact wpAny_pyHash_int h
  . exact wpAny_pyHash_str h
 eqBool:=λhu hv h=>by
  rcases fY hu with ⟨i,t,rfl,rfl⟩ | ⟨x,t,rfl,rfl⟩
  . rcases fY hv with ⟨j,u,rfl,rfl⟩ | ⟨y,u,rfl,rfl⟩
    . rw[abL] at h;exact wpAny_eqBool_int h
    . rw[ac5] at h;exact SeqAt.EqAt.int_str i t y u _ _ _ _ h
  . rcases fY hv with ⟨j,u,rfl,rfl⟩ | ⟨y,u,rfl,rfl⟩
    . rw[ack] at h;exact SeqAt.EqAt.str_int x t j u _ _ _ _ h
    . rw[ac3] at h;exact wpAny_eqBool_str h
 «strs» := λk x t v h=>by
  rcases fY h with ⟨i,u,rfl,e⟩ | ⟨y,u,rfl,e⟩
  . exact nomatch e
  . injection e with e1 _;subst e1;cases v <;> rfl
theorem M7(prog:gc)(w:kT)(i:Int)(t:Tok):(b7 prog w).is (.inl i) (.int i t)=true:=S6 i t
theorem Np(prog:gc)(w:kT)(x:Str)(t:Tok):(b7 prog w).is (.inr x) (.str x t)=true:=T6 x t
inductive V where
 | non | bl (b:Bool) | int (i:Int) | str (x:Str) | byt (b:Array UInt8) | flt (b:UInt64) | ref (a:Addr) | ty (n:String)
 deriving DecidableEq
abbrev A8:=List (Key×V)
abbrev C0:=List V
def AK:V->a8->Prop
 | .non,u=>u=a8.none
 | .bl b,u=>u=a8.bool b
 | .int i,u=>∃t,u=a8.int i t
 | .str x,u=>∃t,u=a8.str x t
 | .byt b,u=>∃t,u=Value.bytes b t
 | .flt b,u=>∃t,u=Value.float b t
 | .ref a,u=>u=iN a
 | .ty n,u=>u=kD n
abbrev AL:C0->B8->Prop:=ka AK
variable {xs:C0}{us:B8}
theorem AL.length(r:AL xs us):xs.length=us.length:=ka.length r
theorem AL.get:∀{xs:C0}{us:B8}{i:Nat}{x:V},AL xs us->xs[i]?=some x->∃u,us[i]?=some u/\AK x u
 | _,_,_,_,.nil,e=>by simp at e
 | _,_,0,_,.cons r _,e=>by simp at e;subst e;exact ⟨_,rfl,r⟩
 | _,_,i+1,x,.cons _ t,e=>by
  obtain ⟨u,h1,h2⟩:=AL.get t (by simpa using e);exact ⟨u,by simpa using h1,h2⟩
theorem AL.append:∀{xs ys:C0}{us ws:B8},AL xs us->AL ys ws->AL (xs++ys) (us++ws)
 | _,_,_,_,.nil,s=>s
 | _,_,_,_,.cons r t,s=>.cons r (AL.append t s)
theorem AL.take:∀{xs:C0}{us:B8} (n:Nat),AL xs us->AL (xs.take n) (us.take n)
 | _,_,0,_=>.nil
 | _,_,_+1,.nil=>.nil
 | _,_,n+1,.cons r t=>.cons r (AL.take n t)
theorem AL.drop:∀{xs:C0}{us:B8} (n:Nat),AL xs us->AL (xs.drop n) (us.drop n)
 | _,_,0,r=>r
 | _,_,_+1,.nil=>.nil
 | _,_,n+1,.cons _ t=>AL.drop n t
def mG:Option V->B7->Prop
 | some v,some u=>AK v u
 | none,none=>True
 | _,_=>False
def KV{κ:Type}:List (κ×V)->List (κ×a8)->Prop:=ka λ(p:κ×V) (q:κ×a8)=>p.1=q.1/\AK p.2 q.2
noncomputable def kV:Key->V
 | .inl i=>.int i
 | .inr x=>.str x
inductive HO where
 | lst (xs:C0)
 | tup (xs:C0)
 | dK (AE:A8) | dT (AE:List (C7×V))
 | set (S:Int->Bool) (n:Nat)
 | ins (C dx:Addr) (fs:List (Str×V))
 | own (x:Addr)
 | xd (fs:List (Str×V))
 | met (f x:Addr)
 | rng (lo hi:Int)
 | frz (o:Obj) (u:HO)
 | tbl (q:Str)
 | ext (φ:Heap->Prop)
abbrev Hp:=Addr->Option HO
noncomputable def AM(H:Hp)(a:Addr)(o:HO):Hp:=λb=>if b=a then some o else H b
variable {H:Hp}{a:Addr}{o:HO}
theorem aY:AM H a o a=some o:=by rw[AM,if_pos rfl]
variable {b:Addr}
theorem aH(h:b≠a):AM H a o b=H b:=by rw[AM,if_neg h]
theorem Py{u:HO}:AM (AM H a o) a u=AM H a u:=by
 funext b;unfold AM;split <;> rfl
theorem ae8{u:HO}(h:H a=some o)(h':H b=some u)(d:o≠u):a≠b:=by
 intro e;subst e;rw[h] at h';exact d (Option.some.inj h')
theorem cW(h:H a=some o)(h':H b=none):a≠b:=by
 intro e;subst e;rw[h] at h';cases h'
section
variable (P:gc) (w:kT)
def fX(H:Hp)(h:Heap)(a:Addr):HO->Prop
 | .lst xs=>xs.length<=bE/\∃(AG:B8) (n:Nat),AL xs AG/\h.get? a=some { cls:=.type "list",data:=.seq AG.toArray n }
 | .tup xs=>xs.length<=bE/\∃AG:B8,AL xs AG/\y6 h a AG.toArray
 | .dK AE=>AE.length<=bE/\(a == fT)=false/\∃vs,KV AE vs/\h.DictOf (b7 P w) a vs
 | .dT AE=>AE.length<=bE/\(a == fT)=false/\∃xs:List (C7×Addr×a8),
  ka (λ(p:C7×V) (q:C7×Addr×a8)=>p.1=q.1/\H q.2.1=some (.tup (p.1.map kV))/\AK p.2 q.2.2) AE xs /\
  ∃o es ep,h.get? a=some o/\o.ExactDict/\o.data= .dict es ep/\es.toList=xs.map (entryOfKey (qB (b7 P w)))/\(xs.map (·.1)).Nodup
 | .set S n=>h.SetOf (pT P w) a S n
 | .ins C dx fs=>H dx=some (.own a)/\fs.length<=1000/\dx≠a/\h.get? a=some (PySem.W.instObj C dx) /\
  ∃mA,h.Ns1 dx mA/\(∀f,mG (fs.lookup f) (mA f))/\PySem.Within mA (fs.map (·.1))
 | .own _=>∃o,h.get? a=some o
 | .xd fs=>∃mA,h.Ns1 a mA/\∀f,mG (fs.lookup f) (mA f)
 | .rng lo hi=>∃t u v,h.get? a=some { cls:=.type "range",data:=.fields #[.int lo t,.int hi u,.int 1 v] }
 | .frz o u=>h.get? a=some o/\fX H h a u
 | .tbl q=>∃ps:Array a8,h.get? a=some { cls:=.none,data:=.fields ps }/\TriplesOk ps.toList/\∀(pos:Pos) (cv:a8),xw pos ps.toList=some cv->∃c ob vs t,cv= .ref c/\H c=some (.own a)/\h.get? c=some ob/\ob.data= .fields vs/\vs[1]?=some (.str q t)
 | .met f x=>h.get? a=some (PySem.W.methodObj (.ref f) (.ref x))
 | .ext φ=>φ h/\(∃o,h.get? a=some o)/\∀h1 h2:Heap,φ h1->(∀o,h1.get? a=some o->h2.get? a=some o)->φ h2
def HOk(H:Hp)(h:Heap):Prop:=∀a o,H a=some o->fX P w H h a o
end
variable {P:gc}{w:kT}{h:Heap}
section
variable   {H':Hp}{h':Heap}
theorem fX.lt(x:fX P w H h a o):a<h.objs.size:=by
 cases o with
 | lst xs=>obtain ⟨_,_,_,_,e⟩:=x;exact cy e
 | tup xs=>obtain ⟨_,_,_,p⟩:=x;exact p.lt
 | dK AE=>obtain ⟨_,_,_,_,o,_,_,e,_⟩:=x;exact cy e
 | dT AE=>obtain ⟨_,_,_,_,o,_,_,e,_⟩:=x;exact cy e
 | set S n=>obtain ⟨o,_,_,_,e,_⟩:=x;exact cy e
 | ins C dx fs=>obtain ⟨_,_,_,e,_⟩:=x;exact cy e
 | own y=>obtain ⟨_,e⟩:=x;exact cy e
 | xd fs=>obtain ⟨_,⟨_,_,_,e,_⟩,_⟩:=x;exact cy e
 | rng lo hi=>obtain ⟨_,_,_,e⟩:=x;exact cy e
 | frz ob u=>obtain ⟨e,_⟩:=x;exact cy e
 | tbl q=>obtain ⟨_,e,_⟩:=x;exact cy e
 | met f y=>exact cy (x)
 | ext φ=>obtain ⟨_,⟨_,e⟩,_⟩:=x;exact cy e
theorem Paired.rP{α β:Type}{F G:α->β->Prop}:∀{l₁:List α}{l₂:List β},ka F l₁ l₂->(∀a b,F a b->G a b)->ka G l₁ l₂
 | _,_,.nil,_=>.nil
 | _,_,.cons r t,f=>.cons (f _ _ r) (Paired.rP t f)
theorem fX.stay(x:fX P w H h a o)(k:∀b u,(b=a\/H b=some (.own a))->h.get? b=some u->h'.get? b=some u)
 (ho:∀b,H b=some (.own a)->H' b=some (.own a)) (ht:∀b xs,H b=some (.tup xs)->H' b=some (.tup xs)):fX P w H' h' a o:=by
 induction o with
 | lst xs=>obtain ⟨z,AG,n,r,e⟩:=x;exact ⟨z,AG,n,r,k _ _ (.inl rfl) e⟩
 | tup xs=>obtain ⟨z,AG,r,ob,e,c⟩:=x;exact ⟨z,AG,r,ob,k _ _ (.inl rfl) e,c⟩
 | dK AE=>obtain ⟨z,y,vs,r,ob,es,ep,e,c⟩:=x;exact ⟨z,y,vs,r,ob,es,ep,k _ _ (.inl rfl) e,c⟩
 | dT AE=>
  obtain ⟨z,y,xs,r,ob,es,ep,e,c⟩:=x;exact ⟨z,y,xs,Paired.rP r λp q z=>⟨z.1,ht _ _ z.2.1,z.2.2⟩,ob,es,ep,k _ _ (.inl rfl) e,c⟩
 | set S n=>obtain ⟨ob,es,ep,t,e,c⟩:=x;exact ⟨ob,es,ep,t,k _ _ (.inl rfl) e,c⟩
 | ins C dx fs=>
  obtain ⟨d,z,ne,e,mA,⟨od,es,ep,e2,c⟩,r⟩:=x;exact ⟨ho _ d,z,ne,k _ _ (.inl rfl) e,mA,⟨od,es,ep,k _ _ (.inr d) e2,c⟩,r⟩
 | own y=>obtain ⟨ob,e⟩:=x;exact ⟨ob,k _ _ (.inl rfl) e⟩
 | xd fs=>obtain ⟨mA,⟨od,es,ep,e,c⟩,r⟩:=x;exact ⟨mA,⟨od,es,ep,k _ _ (.inl rfl) e,c⟩,r⟩
 | rng lo hi=>obtain ⟨t,u,v,e⟩:=x;exact ⟨t,u,v,k _ _ (.inl rfl) e⟩
 | frz ob u ih=>obtain ⟨e,q⟩:=x;exact ⟨k _ _ (.inl rfl) e,ih q⟩
 | tbl q=>
  obtain ⟨ps,e,ht,hc⟩:=x;refine ⟨ps,k _ _ (.inl rfl) e,ht,λpos cv hv=>?_⟩;obtain ⟨c,ob,vs,t,e1,e2,e3,e4⟩:=hc pos cv hv;exact ⟨c,ob,vs,t,e1,ho _ e2,k _ _ (.inr e2) e3,e4⟩
 | met f y=>
  have e:=x;exact k a _ (.inl rfl) e
 | ext φ=>obtain ⟨p,⟨o,e⟩,st⟩:=x;exact ⟨st _ _ p λo q=>k _ _ (.inl rfl) q,⟨o,k _ _ (.inl rfl) e⟩,st⟩
theorem HOk.lt(x:HOk P w H h)(e:H a=some o):a<h.objs.size:=(x a o e).lt
theorem HOk.fresh(x:HOk P w H h)(e:h.objs.size<=a):H a=none:=by
 cases q:H a with
 | none=>rfl
 | some u=>exact absurd (eW (x.lt q) e) (g9 _)
theorem HOk.kept(x:HOk P w H h)(k:∀b u,h.get? b=some u->h'.get? b=some u):HOk P w H h':=λa o e=>
 (x a o e).stay (λb u _ q=>k b u q) (λ_ q=>q) λ_ _ q=>q
theorem HOk.laid(x:HOk P w H h)(k:∀b u,h.get? b=some u->h'.get? b=some u)(hp:h.objs.size<=a)(new:fX P w (AM H a o) h' a o):HOk P w (AM H a o) h':=λb u e=>by
 have hn:=x.fresh hp
 by_cases hb:b=a
 . subst hb;rw[aY] at e;cases e;exact new
 . rw[aH hb] at e;exact (x b u e).stay (λc v _ q=>k c v q) (λc q=>by rw[aH (cW q hn)];exact q) λc xs q=>by rw[aH (cW q hn)];exact q
end
def Rd(H:Hp)(a:Addr)(u:HO):Prop:=H a=some u\/∃o,H a=some (.frz o u)
theorem Rd.ok{u:HO}(r:Rd H a u)(x:HOk P w H h):fX P w H h a u:=by
 rcases r with r | ⟨o,r⟩
 . exact x a u r
 . obtain ⟨_,q⟩:=x a _ r;exact q
def Mut:Option HO->Prop
 | some (.lst _)=>True
 | some (.dK _)=>True
 | some (.dT _)=>True
 | some (.set _ _)=>True
 | some (.ins _ _ _)=>True
 | some (.ext _)=>True
 | _=>False
section
variable    {h':Heap}{x e:Addr}{o':HO}
theorem HOk.write(ok:HOk P w H h)(mu:Mut (H x))(he:e=x\/H e=some (.own x))(k:∀b u,b≠e->h.get? b=some u->h'.get? b=some u)(heo:∃u,h'.get? e=some u)
 (new:fX P w (AM H x o') h' x o'):HOk P w (AM H x o') h':=λb u q=>by
 have adq:∀c y,H c=some (.own y)->c≠x:=λc y r z=>by subst z;rwa [r] at mu
 have agz:∀c xs,H c=some (.tup xs)->c≠x:=λc xs r z=>by subst z;rwa [r] at mu
 by_cases hb:b=x
 . subst hb;rw[aY] at q;cases q;exact new
 . rw[aH hb] at q
   by_cases hbe:b=e
   . have q':H b=some (.own x):=by
      rcases he with z | z
      . exact absurd (hbe.trans z) hb
      . rw[hbe];exact z
     rw[q] at q';cases q';obtain ⟨v,hv⟩:=heo;exact ⟨v,by rw[hbe];exact hv⟩
   . refine (ok b u q).stay (λc v hc r=>k c v ?_ r) (λc r=>by rw[aH (adq c b r)];exact r) λc xs r=>by rw[aH (agz c xs r)];exact r
     rcases hc with rfl | hc
     . exact hbe
     . rintro rfl;rcases he with z | z
       . exact adq c b hc z
       . rw[hc] at z;cases z;exact hb rfl
end
structure Un (fs ex:C2) (H H':Hp) (h h':Heap):Prop where
 keep:∀b o,h.get? b=some o->H b=none->b∉fs->b∉ex->h'.get? b=some o
 slot:∀b o,h.get? b=some o->H b=none->b∈fs->b∉ex->∃sl,h'.get? b=some { o with slots:=sl }
 free:∀b o,h.get? b=some o->H b=none->b∉ex->H' b=none
 there:∀b o,h.get? b=some o->b∉ex->∃o',h'.get? b=some o'
 tups:∀b xs,H b=some (.tup xs)->H' b=some (.tup xs)
 qd:∀b o u,H b=some (.frz o u)->H' b=some (.frz o u)
 nF:∀b q,H b=some (.tbl q)->H' b=some (.tbl q)
section
variable {fs fs' ex ex':C2}{H1 H2:Hp}{h1 h2 h':Heap}{x e:Addr}
theorem Un.any(u:Un fs ex H H1 h h1){ob:Obj}(q:h.get? b=some ob)(n:H b=none)(hx:b∉ex):∃sl,h1.get? b=some { ob with slots:=sl }:=by
 by_cases hb:b∈fs
 . exact u.slot b ob q n hb hx
 . exact ⟨ob.slots,u.keep b ob q n hb hx⟩
theorem Un.kept(k:∀b u,h.get? b=some u->h'.get? b=some u):Un fs ex H H h h':=
 ⟨λb ob q _ _ _=>k b ob q,λb ob q _ _ _=>⟨ob.slots,k b ob q⟩,λ_ _ _ n _=>n,λb ob q _=>⟨ob,k b ob q⟩,λ_ _ q=>q,λ_ _ _ q=>q,λ_ _ q=>q⟩
theorem Un.refl:Un fs ex H H h h:=Un.kept λ_ _ q=>q
theorem Un.laid(k:∀b u,h.get? b=some u->h'.get? b=some u)(hp:h.objs.size<=a)(hn:H a=none):Un fs ex H (AM H a o) h h' where
 keep:=λb u q _ _ _=>k b u q
 slot:=λb u q _ _ _=>⟨u.slots,k b u q⟩
 free:=λb u q n _=>by rw[aH (fh (eW (cy q) hp))];exact n
 there:=λb u q _=>⟨u,k b u q⟩
 tups:=λb xs q=>by rw[aH (cW q hn)];exact q
 qd:=λb u xs q=>by rw[aH (cW q hn)];exact q
 nF:=λb xs q=>by rw[aH (cW q hn)];exact q
theorem Un.write(mu:Mut (H x))(he:e=x\/H e=some (.own x))(k:∀b u,b≠e->h.get? b=some u->h'.get? b=some u)(heo:∃u,h'.get? e=some u):Un fs ex H (AM H x o) h h':=by
 have hx:∀b,H b=none->b≠x:=λb n z=>by subst z;rwa [n] at mu
 have hb:∀b,H b=none->b≠e:=λb n z=>by
  subst z;rcases he with r | r
  . exact hx b n r
  . rw[n] at r;cases r
 have hm:∀b u,H b=some u->¬ Mut (some u)->b≠x:=λb u q nm z=>by subst z;rw[q] at mu;exact nm mu
 refine ⟨λb u q n _ _=>k b u (hb b n) q,λb u q n _ _=>⟨u.slots,k b u (hb b n) q⟩,λb u q n _=>by rw[aH (hx b n)];exact n,λb u q _=>?_,
  λb xs q=>by rw[aH (hm b _ q λz=>z)];exact q,λb u xs q=>by rw[aH (hm b _ q λz=>z)];exact q,λb _ q=>by rw[aH (hm b _ q λz=>z)];exact q⟩
 by_cases hbe:b=e
 . subst hbe;exact heo
 . exact ⟨u,k b u hbe q⟩
end
noncomputable def trk(h:Heap)(H:Hp):C2:=(List.range h.objs.size).filter λa=>(H a).isSome
noncomputable def yx(h:Heap)(H:Hp):Heap:=PySem.W.hideAll h (trk h H)
theorem Tg(h:Heap)(H:Hp):(yx h H).objs.size=h.objs.size:=PySem.W.hideAll_size _ _
theorem Xz{o:Obj}(e:h.get? b=some o)(n:H b=none):(yx h H).get? b=some o:=
 PySem.W.hideAll_get _ e λhm=>by
  have q:=(kM.mp hm).2;rw[n] at q;simp at q
theorem abB{o:Obj}(e:(yx h H).get? b=some o):h.get? b=some o/\H b=none:=by
 have e':=PySem.W.of_hideAll (trk h H) e;refine ⟨e',?_⟩
 cases q:H b with
 | none=>rfl
 | some x=>
  have hm:b∈trk h H:=kM.mpr ⟨dn.mpr (cy e'),by simp[q]⟩;have z:(yx h H).get? b=none:=PySem.W.hideAll_none (trk h H) hm;rw[z] at e;cases e
structure Mod (K:aw) (mg:Str->B7) (base:Heap):Prop where
 kin:K.In base
 glob:base.Ns ff mg
 blt:∃mb,base.Ns qk mb/\∀x:Str,x ≠ "__name__" -> mb x=fm x
 nolimit:base.NoLimit
 bmain:∃bm ob,mg "__builtins__"= some (.ref bm)/\bm≠qk/\base.get? bm=some ob/\ob.cls= .type "module" /\ ob.dict=some qk/\ob.data= .plain
structure Cx where
 prog:gc
 w:kT
 K:aw
 mg:Str->B7
 base:Heap
 A:iS
 N:B6
 s₀:dc
 H₀:Hp
 env:Env
 AX:C6
 stack:C6
 ex:C2
 fn:Str->Bool
 calm:Bool
 pn:A7
 xe:a8->dc->Prop
noncomputable def frs(l:C6):C2:=l.filterMap (·.frame)
noncomputable abbrev Cx.fs(X:Cx):C2:=frs X.AX
def Vis(sc:vv)(x:Str):Prop:=sc.names.lookup x=some .local\/sc.names.lookup x=some .cell\/sc.names.lookup x=some .free
def Loc(sc:vv)(x:Str):Prop:=sc.names.lookup x=some .local\/sc.names.lookup x=some .cell
def Look(env:Env)(h:Heap)(m:Str->B7)(x:Str)(u:a8):Prop:=
 (env.kindOf x=some .local/\m x=some u)\/((env.kindOf x=some .cell\/env.kindOf x=some .free)/\∃c,env.cells.lookup x=some c/\h.IsCell c (some u))
def TabAt(K:aw)(mg:Str->B7)(P:Addr):Prop:=∃(f:Addr) (o:Obj) (fd:nN) (c:Addr),mg "ways"= some (.ref f)/\K.lookup f=some o/\o.data= .func fd/\fd.code= .ref c/\i8 K c P=true
noncomputable def jk:Str:= "ways.<locals>.<lambda>"
structure Cx.Ok (X:Cx):Prop where
 mod:Mod X.K X.mg X.base
 kind:X.env.scope.kind= .function
 glob:X.env.globals=ff
 blt:X.env.builtins=qk
 above:X.s₀.heap.objs.size<=X.env.locals
 inj:∀x y c,X.env.cells.lookup x=some c->X.env.cells.lookup y=some c->x=y
 has:∀x,(X.env.kindOf x=some .cell\/X.env.kindOf x=some .free)->∃c,X.env.cells.lookup x=some c
 cab:∀x c,X.fn x=true->X.env.cells.lookup x=some c->X.s₀.heap.objs.size<=c
 hd:X.calm=true->X.A.handled=none
 frames:X.A.frames=some X.stack
 stk:X.stack=X.AX\/(X.stack=X.env::X.AX/\X.env.frame=some X.env.locals)
 exf:∀b∈X.ex,b≠X.env.locals/\∀x c,X.env.cells.lookup x=some c->c≠b
 bs:∀b o,X.base.get? b=some o->X.s₀.heap.get? b=some o/\X.H₀ b=none
 bsz:X.base.objs.size<=X.s₀.heap.objs.size
 Le:∀b o,X.base.get? b=some o->b∉X.ex
 Q8:∀b∈X.ex,b∉X.fs
 tV:X.s₀.heap.FunFrames X.base X.AX
 frf:∀b∈X.fs,X.H₀ b=none
 tabs:∀P,TabAt X.K X.mg P->X.H₀ P=some (.tbl jk)
structure AJ (X:Cx) (AD:A7) (σ:List (Option V)) (H:Hp) (s:dc):Prop where
 ok:X.Ok
 os:s.os=X.s₀.os
 bare:wb s.gens
 base:Un X.fs X.ex X.H₀ H X.s₀.heap s.heap
 loc:∃m,s.heap.Ns X.env.locals m/\∀(i:Nat) (x:Str) (v:V),X.N[i]?=some x->σ[i]?=some (some v)->Vis X.env.scope x->∃u,AK v u/\Look X.env s.heap m x u
 cell:∀x c,X.env.cells.lookup x=some c->∃v,s.heap.IsCell c v
 free:H X.env.locals=none
 jZ:∀x c,X.env.cells.lookup x=some c->H c=none
 pin:∀p∈X.pn++AD,s.heap.get? p.1=some p.2/\H p.1=none/\p.1≠X.env.locals/\p.1∉X.fs/\∀v,p.2.data ≠ .cell v
 AR:HOk X.prog X.w H s.heap
 len:σ.length=X.N.length
variable {X:Cx}{AD:A7}{s s':dc}{g':Array GenState}{t' i:Nat}{ch:C2}{N:B6}{x:Str}{M:Model}{A:iS}{E:B2}{v:V}{u:a8}
section
variable   {σ:List (Option V)}{H':Hp}  {h':Heap}
theorem Cx.Ok.af0(ok:X.Ok){o:Obj}(e:X.base.get? b=some o):b∉X.fs:=λhb=>by
 have:=(ok.tV.mem hb).1;rw[e] at this;cases this
theorem AJ.bs(I:AJ X AD σ H s):∀b o,X.base.get? b=some o->s.heap.get? b=some o/\H b=none:=λb o e=>
 ⟨I.base.keep b o (I.ok.bs b o e).1 (I.ok.bs b o e).2 (I.ok.af0 e) (I.ok.Le b o e),I.base.free b o (I.ok.bs b o e).1 (I.ok.bs b o e).2 (I.ok.Le b o e)⟩
theorem AJ.bk(I:AJ X AD σ H s):∀b o,X.base.get? b=some o->s.heap.get? b=some o:=λb o e=>(I.bs b o e).1
theorem AJ.mod(I:AJ X AD σ H s):Mod X.K X.mg X.base:=I.ok.mod
theorem AJ.kIn(I:AJ X AD σ H s):X.K.In s.heap:=I.ok.mod.kin.keeps I.bk
theorem AJ.nolimit(I:AJ X AD σ H s):s.heap.NoLimit:=I.ok.mod.nolimit.keeps I.bk
theorem AJ.lt(I:AJ X AD σ H s):X.env.locals<s.heap.objs.size:=let ⟨_,hn,_⟩:=I.loc;hn.lt
theorem AJ.sz(I:AJ X AD σ H s):X.s₀.heap.objs.size<=s.heap.objs.size:=dy I.ok.above (l9 I.lt)
theorem AJ.agF(I:AJ X AD σ H s)(h:s.heap.objs.size<=a):a∉X.fs:=λhb=>by
 obtain ⟨_,o,ho,_⟩:=I.ok.tV.mem hb;exact absurd (eW (cy ho) (dy I.sz h)) (g9 _)
theorem AJ.cne(I:AJ X AD σ H s):∀x c,X.env.cells.lookup x=some c->c≠X.env.locals:=λx c e z=>by
 obtain ⟨v,o,ho,hd⟩:=I.cell x c e;obtain ⟨m,⟨o',es,ep,ho',hd',_⟩,_⟩:=I.loc;rw[z,ho'] at ho;cases ho;rw[hd'] at hd;cases hd
theorem AJ.tV(I:AJ X AD σ H s):s.heap.FunFrames X.base X.AX:=by
 have all:∀(l:C6),(∀b∈frs l,b∈X.fs)->X.s₀.heap.FunFrames X.base l->s.heap.FunFrames X.base l:=by
  intro l
  induction l with
  | nil=>intro _ _;trivial
  | cons env r ih=>
   rintro hs ⟨hk,⟨L,o,hf,hn,ho,hd⟩,hr⟩;have hL:=hs L (by rw[frs,l5,hf];exact b9);obtain ⟨sl,e⟩:=I.base.slot L o ho (I.ok.frf L hL) hL λz=>I.ok.Q8 L z hL;exact ⟨hk,⟨L,_,hf,hn,e,hd⟩,ih (λb hb=>hs b (by rw[frs,l5,hf];exact cf _ hb)) hr⟩
 exact all X.AX (λ_ hb=>hb) I.ok.tV
theorem AJ.stack(I:AJ X AD σ H s):s.heap.FunFrames X.base X.stack:=by
 rcases I.ok.stk with e | ⟨e,hf⟩
 . rw[e];exact I.tV
 . rw[e];obtain ⟨m,hn,_⟩:=I.loc;refine .cons (by rw[I.ok.kind];decide) hf hn ?_ I.tV;exact sR (dy I.ok.bsz I.ok.above)
theorem AJ.DN(I:AJ X AD σ H s):∀b∈frs X.stack,b∈X.env.locals::X.fs:=λb hb=>by
 rcases I.ok.stk with e | ⟨e,hf⟩
 . rw[e] at hb;exact cf _ hb
 . rw[e] at hb;unfold frs at hb;rwa [l5,hf] at hb
theorem AJ.N8(I:AJ X AD σ H s):∀b∈frs X.stack,H b=none:=λb hb=>by
 rcases cp.mp (I.DN b hb) with e | hb
 . rw[e];exact I.free
 . obtain ⟨_,o,ho,_⟩:=I.ok.tV.mem hb;exact I.base.free b o ho (I.ok.frf b hb) λz=>I.ok.Q8 b z hb
theorem AJ.step{d':Drawn}(I:AJ X AD σ H s)
 (hch:∀b∈ch,(b∈X.ex\/X.s₀.heap.objs.size<=b)/\b≠X.env.locals/\(∀x c,X.env.cells.lookup x=some c->c≠b)/\∀p∈X.pn++AD,p.1≠b)
 (keep:∀b o,b≠X.env.locals->b∉X.fs->b∉ch->s.heap.get? b=some o->H b=none->h'.get? b=some o)
 (slot:∀b o,b≠X.env.locals->b∈X.fs->b∉ch->s.heap.get? b=some o->H b=none->∃sl,h'.get? b=some { o with slots:=sl }) (free:∀b o,b∉ch->s.heap.get? b=some o->H b=none->H' b=none)
 (there:∀b o,b∉ch->s.heap.get? b=some o->∃o',h'.get? b=some o')
 (tups:∀b xs,H b=some (.tup xs)->H' b=some (.tup xs)) (qd:∀b o u,H b=some (.frz o u)->H' b=some (.frz o u)) (nF:∀b q,H b=some (.tbl q)->H' b=some (.tbl q))
 (ns:∀m,s.heap.Ns X.env.locals m->h'.Ns X.env.locals m) (AR:HOk X.prog X.w H' h') (hg:wb g') :
 AJ X AD σ H' { s with heap:=h',gens:=g',drawn:=d',toks:=t' }:=by
 have neL:∀b o,X.s₀.heap.get? b=some o->b≠X.env.locals:=λb o e=>fh (eW (cy e) I.ok.above);have neC:∀b o,X.s₀.heap.get? b=some o->b∉X.ex->b∉ch:=λb o e hx hb=>by
  rcases (hch b hb).1 with z | z
  . exact hx z
  . exact absurd (eW (cy e) z) (g9 _)
 have cellK:∀x c,X.env.cells.lookup x=some c->∀v,s.heap.IsCell c v->h'.IsCell c v:=λx c e v az=>by
  obtain ⟨o,ho,hd⟩:=az;have nch:=λz=>(hch c z).2.2.1 x c e rfl
  by_cases hc:c∈X.fs
  . obtain ⟨sl,q⟩:=slot c o (I.cne x c e) hc nch ho (I.jZ x c e);exact ⟨_,q,hd⟩
  . exact ⟨o,keep c o (I.cne x c e) hc nch ho (I.jZ x c e),hd⟩
 refine ⟨I.ok,I.os,hg,⟨λb o e n hb hx=>?_,λb o e n hb hx=>?_,λb o e n hx=>?_,λb o e hx=>?_,λb xs e=>tups b xs (I.base.tups b xs e),λb o xs e=>qd b o xs (I.base.qd b o xs e),λb ps e=>nF b ps (I.base.nF b ps e)⟩,?_,λx c e=>?_,?_,λx c e=>?_,λp hp=>?_,AR,I.len⟩
 . exact keep b o (neL b o e) hb (neC b o e hx) (I.base.keep b o e n hb hx) (I.base.free b o e n hx)
 . obtain ⟨sl,e1⟩:=I.base.slot b o e n hb hx;obtain ⟨sl',e2⟩:=slot b _ (neL b o e) hb (neC b o e hx) e1 (I.base.free b o e n hx);exact ⟨sl',e2⟩
 . obtain ⟨o',e1⟩:=I.base.there b o e hx;exact free b o' (neC b o e hx) e1 (I.base.free b o e n hx)
 . obtain ⟨o',e1⟩:=I.base.there b o e hx;exact there b o' (neC b o e hx) e1
 . obtain ⟨m,hn,hl⟩:=I.loc;refine ⟨m,ns m hn,λi x v e1 e2 e3=>?_⟩;obtain ⟨u,r,l⟩:=hl i x v e1 e2 e3;refine ⟨u,r,?_⟩;rcases l with l | ⟨k,c,e,z⟩
   . exact .inl l
   . exact .inr ⟨k,c,e,cellK x c e _ z⟩
 . obtain ⟨v,z⟩:=I.cell x c e;exact ⟨v,cellK x c e v z⟩
 . obtain ⟨m,⟨o,_,_,ho,_⟩,_⟩:=I.loc;exact free _ o (λz=>(hch _ z).2.1 rfl) ho I.free
 . obtain ⟨v,o,ho,hd⟩:=I.cell x c e;exact free c o (λz=>(hch c z).2.2.1 x c e rfl) ho (I.jZ x c e)
 . obtain ⟨e,n,ne,nf,d⟩:=I.pin p hp;have nch:=λz=>(hch p.1 z).2.2.2 p hp rfl;exact ⟨keep p.1 p.2 ne nf nch e n,free p.1 p.2 nch e n,ne,nf,d⟩
theorem AJ.un(I:AJ X AD σ H s)(u:Un X.fs [] H H' s.heap h')(AR:HOk X.prog X.w H' h'):AJ X AD σ H' { s with heap:=h',toks:=t' }:=by
 obtain ⟨m,⟨o,es,ep,ho,r⟩,_⟩:=id I.loc;obtain ⟨sl,hL⟩:=u.any ho I.free (by simp);exact I.step (ch:=[]) (λ_ z=>nomatch z) (λb o _ hb _ e n=>u.keep b o e n hb (by simp)) (λb o _ hb _ e n=>u.slot b o e n hb (by simp)) (λb o _ e n=>u.free b o e n (by simp)) (λb o _ e=>u.there b o e (by simp)) u.tups u.qd u.nF (λm' hm=>by
  obtain ⟨o',es',ep',ho',r'⟩:=hm;rw[ho] at ho';cases ho';exact ⟨_,es',ep',hL,r'⟩) AR I.bare
theorem AJ.call{d':Drawn}(I:AJ X AD σ H s)(u:Un (frs X.stack) ch H H' s.heap h')(AR:HOk X.prog X.w H' h')(hg:wb g')
 (hch:∀b∈ch,(b∈X.ex\/X.s₀.heap.objs.size<=b)/\b≠X.env.locals/\(∀x c,X.env.cells.lookup x=some c->c≠b)/\∀p∈X.pn++AD,p.1≠b) :
 AJ X AD σ H' { s with heap:=h',gens:=g',drawn:=d',toks:=t' }:=by
 obtain ⟨m,⟨o,es,ep,ho,r⟩,_⟩:=id I.loc;obtain ⟨sl,hL⟩:=u.any ho I.free λz=>(hch _ z).2.1 rfl;exact I.step hch (λb o hL hb hc e n=>u.keep b o e n (λz=>(cp.mp (I.DN b z)).elim hL hb) hc) (λb o _ _ hc e n=>u.any e n hc) (λb o hc e n=>u.free b o e n hc) (λb o hc e=>u.there b o e hc) u.tups u.qd u.nF (λm' hm=>by
  obtain ⟨o',es',ep',ho',r'⟩:=hm;rw[ho] at ho';cases ho';exact ⟨_,es',ep',hL,r'⟩) AR hg
theorem AJ.turned{it:Addr}(I:AJ X AD σ H s)(k:∀b o,b≠it->s.heap.get? b=some o->h'.get? b=some o)(hn:H it=none)(hL:it≠X.env.locals)
 (h1:it∈X.ex\/X.s₀.heap.objs.size<=it) (h2:∀x c,X.env.cells.lookup x=some c->c≠it) (h3:∀p∈X.pn++AD,p.1≠it):AJ X AD σ H { s with heap:=h',toks:=t' }:=by
 have nit:∀b u,H b=some u->b≠it:=λb u e z=>by rw[z,hn] at e;cases e
 refine I.step (ch:=[it]) (λb hb=>?_) (λb o _ _ hc e _=>k b o (λz=>hc (by simp[z])) e) (λb o _ _ hc e _=>⟨o.slots,k b o (λz=>hc (by simp[z])) e⟩) (λ_ _ _ _ n=>n)
  (λb o hc e=>⟨o,k b o (λz=>hc (by simp[z])) e⟩) (λ_ _ e=>e) (λ_ _ _ e=>e) (λ_ _ e=>e) (λm hm=>?_) (λb u e=>?_) I.bare
 . have e:=by simpa using hb
   subst e;exact ⟨h1,hL,h2,h3⟩
 . obtain ⟨o,es,ep,ho,r⟩:=hm;exact ⟨o,es,ep,k _ o (nK hL) ho,r⟩
 . refine (I.AR b u e).stay (λc v hc q=>k c v ?_ q) (λ_ q=>q) λ_ _ q=>q;rcases hc with z | z
   . rw[z];exact nit b u e
   . exact nit c _ z
theorem AJ.tok(I:AJ X AD σ H s)(t:Nat):AJ X AD σ H { s with toks:=t }:=I.un Un.refl I.AR
theorem AJ.kept(I:AJ X AD σ H s)(k:∀b u,s.heap.get? b=some u->h'.get? b=some u):AJ X AD σ H { s with heap:=h',toks:=t' }:=I.un (Un.kept k) (I.AR.kept k)
theorem AJ.laid(I:AJ X AD σ H s)(k:∀b u,s.heap.get? b=some u->h'.get? b=some u)(hp:s.heap.objs.size<=a)(new:fX X.prog X.w (AM H a o) h' a o) :
 AJ X AD σ (AM H a o) { s with heap:=h',toks:=t' }:=I.un (Un.laid k hp (I.AR.fresh hp)) (I.AR.laid k hp new)
theorem AJ.write{e:Addr}(I:AJ X AD σ H s)(mu:Mut (H a))(he:e=a\/H e=some (.own a))(k:∀b u,b≠e->s.heap.get? b=some u->h'.get? b=some u)(heo:∃u,h'.get? e=some u)
 (new:fX X.prog X.w (AM H a o) h' a o):AJ X AD σ (AM H a o) { s with heap:=h',toks:=t' }:=I.un (Un.write mu he k heo) (I.AR.write mu he k heo new)
theorem AJ.NQ{YL:A7}(I:AJ X AD σ H s)(h:∀p∈YL,s.heap.get? p.1=some p.2/\H p.1=none/\p.1≠X.env.locals/\p.1∉X.fs/\∀v,p.2.data ≠ .cell v):AJ X YL σ H s:=
 ⟨I.ok,I.os,I.bare,I.base,I.loc,I.cell,I.free,I.jZ,λp hp=>(cK.mp hp).elim (λz=>I.pin p (eK _ z)) (h p),I.AR,I.len⟩
theorem J8(hN:N.Nodup){j:Nat}(a:N[i]?=some x)(b:N[j]?=some x):i=j:=by
 obtain ⟨h1,e1⟩:=aS.mp a;obtain ⟨h2,e2⟩:=aS.mp b;exact (List.getElem_inj hN).mp (e1.trans e2.symm)
theorem Gs{Q:Unit->dc->Prop}(I:AJ X AD σ H s)(hN:X.N.Nodup)(hi:X.N[i]?=some x)(hx:Loc X.env.scope x)(r:AK v u)
 (h:∀s',AJ X AD (σ.set i (some v)) H s'->(∃a,oS a s.heap s'.heap/\(a=X.env.locals\/X.env.cells.lookup x=some a))->Q () s') (hf:X.fn x=true\/X.env.scope.names.lookup x=some .local:=by walk_at "hf"):eh M A (storeName X.env x u) Q E s:=by
 obtain ⟨m,hn,hl⟩:=id I.loc;have hcls:(X.env.scope.kind == .class||(X.env.scope.kind == .module&&X.env.locals != X.env.globals))=false:=by rw[I.ok.kind];rfl
 have hiσ:i < σ.length:=by rw[I.len];exact (aS.mp hi).1
 have cne:=I.cne;have tracked:∀{a:Addr}{h':Heap},(∃o,s.heap.get? a=some o/\H a=none)->oS a s.heap h'->HOk X.prog X.w H h':=λ{a h'} ha hs b ob e=>by
  obtain ⟨_,_,hfree⟩:=ha;refine (I.AR b ob e).stay (λc w' hc q=>(hs.2 c ?_).trans q) (λ_ q=>q) λ_ _ q=>q;rintro rfl;rcases hc with rfl | hc
  . rw[hfree] at e;cases e
  . rw[hfree] at hc;cases hc
 rcases hx with hk | hk
 . refine wpAny_storeName_local hk hn (λh' hn' hs=>?_) hcls;obtain ⟨oL,_,_,hoL,_⟩:=id hn;refine h _ ⟨I.ok,I.os,I.bare,⟨λb o e n hb hx=>?_,λb o e n hb hx=>?_,I.base.free,λb o e hx=>?_,I.base.tups,I.base.qd,I.base.nF⟩,⟨_,hn',λj y v' e1 e2 e3=>?_⟩,λy c e=>?_,I.free,I.jZ,λp hp=>?_,tracked ⟨oL,hoL,I.free⟩ hs,by simpa using I.len⟩ ⟨_,hs,.inl rfl⟩
   . exact (hs.2 b (fh (eW (cy e) I.ok.above))).trans (I.base.keep b o e n hb hx)
   . obtain ⟨sl,e1⟩:=I.base.slot b o e n hb hx;exact ⟨sl,(hs.2 b (fh (eW (cy e) I.ok.above))).trans e1⟩
   . obtain ⟨o',e1⟩:=I.base.there b o e hx;exact ⟨o',(hs.2 b (fh (eW (cy e) I.ok.above))).trans e1⟩
   . by_cases hj:j=i
     . subst hj;rw[hi] at e1;cases e1;rw[ma hiσ] at e2;cases e2;exact ⟨u,r,.inl ⟨hk,by simp⟩⟩
     . rw[oy (nK hj)] at e2;obtain ⟨u',r',q⟩:=hl j y v' e1 e2 e3;refine ⟨u',r',?_⟩;rcases q with ⟨k,e⟩ | ⟨k,c,e,z⟩
       . refine .inl ⟨k,?_⟩;have:y≠x:=λe=>hj (J8 hN e1 (e ▸ hi));simp[this,e]
       . exact .inr ⟨k,c,e,z.sameBut hs (cne y c e)⟩
   . obtain ⟨w',z⟩:=I.cell y c e;exact ⟨w',z.sameBut hs (cne y c e)⟩
   . obtain ⟨e,n,ne,nf,d⟩:=I.pin p hp;exact ⟨(hs.2 p.1 ne).trans e,n,ne,nf,d⟩
 . have hfn:X.fn x=true:=by
    rcases hf with z | z
    . exact z
    . rw[z] at hk;cases hk
   obtain ⟨c,hc⟩:=I.ok.has x (.inl hk);obtain ⟨w',z⟩:=I.cell x c hc;refine wpAny_storeName_cell I.ok.kind hk hc z (λh' hc' hs=>?_);obtain ⟨oc,hoc,age⟩:=id z;refine h { s with heap:=h' } ⟨I.ok,I.os,I.bare,⟨λb o e n hb hx=>?_,λb o e n hb hx=>?_,I.base.free,λb o e hx=>?_,I.base.tups,I.base.qd,I.base.nF⟩,⟨m,hn.sameBut hs (nK (cne x c hc)),λj y v' e1 e2 e3=>?_⟩,λy c' e=>?_,I.free,I.jZ,λp hp=>?_,tracked ⟨oc,hoc,I.jZ x c hc⟩ hs,by simpa using I.len⟩ ⟨c,hs,.inr hc⟩
   . exact (hs.2 b (fh (eW (cy e) (I.ok.cab x c hfn hc)))).trans (I.base.keep b o e n hb hx)
   . obtain ⟨sl,e1⟩:=I.base.slot b o e n hb hx;exact ⟨sl,(hs.2 b (fh (eW (cy e) (I.ok.cab x c hfn hc)))).trans e1⟩
   . obtain ⟨o',e1⟩:=I.base.there b o e hx;exact ⟨o',(hs.2 b (fh (eW (cy e) (I.ok.cab x c hfn hc)))).trans e1⟩
   . by_cases hj:j=i
     . subst hj;rw[hi] at e1;cases e1;rw[ma hiσ] at e2;cases e2;exact ⟨u,r,.inr ⟨.inl hk,c,hc,hc'⟩⟩
     . rw[oy (nK hj)] at e2;obtain ⟨u',r',q⟩:=hl j y v' e1 e2 e3;refine ⟨u',r',?_⟩;rcases q with q | ⟨k,c',e,z'⟩
       . exact .inl q
       . refine .inr ⟨k,c',e,z'.sameBut hs ?_⟩;rintro rfl;exact hj (J8 hN e1 (I.ok.inj _ _ _ e hc ▸ hi))
   . by_cases hcc:c'=c
     . subst hcc;exact ⟨_,hc'⟩
     . obtain ⟨w2,z2⟩:=I.cell y c' e;exact ⟨w2,z2.sameBut hs hcc⟩
   . obtain ⟨e,n,ne,nf,d⟩:=I.pin p hp;refine ⟨(hs.2 p.1 ?_).trans e,n,ne,nf,d⟩;intro q;rw[q,hoc] at e;have q':=Option.some.inj e;exact d w' (by rw[<- q'];exact age)
theorem JX{Q:Unit->dc->Prop}(I:AJ X AD σ H s)(hN:X.N.Nodup)(hi:X.N[i]?=some x)(hx:Loc X.env.scope x)(r:AK v u)
 (h:∀s',AJ X AD (σ.set i (some v)) H s'->Q () s') (hf:X.fn x=true\/X.env.scope.names.lookup x=some .local:=by walk_at "hf"):eh M A (storeName X.env x u) Q E s:=
 Gs I hN hi hx r (λs' I' _=>h s' I') hf
theorem AJ.call'(I:AJ X AD σ H s)(ho:s'.os=s.os)(u:Un (frs X.stack) ch H H' s.heap s'.heap)(AR:HOk X.prog X.w H' s'.heap)(hg:wb s'.gens)
 (hch:∀b∈ch,(b∈X.ex\/X.s₀.heap.objs.size<=b)/\b≠X.env.locals/\(∀x c,X.env.cells.lookup x=some c->c≠b)/\∀p∈X.pn++AD,p.1≠b):AJ X AD σ H' s':=by
 obtain ⟨h',g',d',t',o'⟩:=s';have e:=ho;subst e;exact I.call u AR hg hch
end
abbrev XK:=a8->C4->Hp->Prop
abbrev St:=List (Option V)
abbrev VK:=V->Hp->Prop
abbrev TE:=St->Hp->VK->Prop
abbrev TT:=St->Hp->(Bool->Hp->Prop)->Prop
abbrev TA:=St->Hp->(C0->Hp->Prop)->Prop
structure Ends where
 nx:St->Hp->Prop
 rt:VK
 bk:St->Hp->Prop:=λ_ _=>False
 ct:St->Hp->Prop:=λ_ _=>False
abbrev TS:=Ends->St->Hp->Prop
def EP(X:Cx)(AD:A7)(σ:St)(Q:VK)(u:a8)(s':dc):Prop:=∃v H',AJ X AD σ H' s'/\AK v u/\Q v H'
def TP(X:Cx)(AD:A7)(σ:St)(Q:Bool->Hp->Prop)(b:Bool)(s':dc):Prop:=∃H',AJ X AD σ H' s'/\Q b H'
def AP(X:Cx)(AD:A7)(σ:St)(Q:C0->Hp->Prop)(us:B8)(s':dc):Prop:=∃vs H',AJ X AD σ H' s'/\AL vs us/\Q vs H'
def SP(X:Cx)(AD:A7)(D:Ends)(f:Flow)(s':dc):Prop:=
 match f with
 | .next=>∃σ' H',AJ X AD σ' H' s'/\D.nx σ' H'
 | .brk=>∃σ' H',AJ X AD σ' H' s'/\D.bk σ' H'
 | .cont=>∃σ' H',AJ X AD σ' H' s'/\D.ct σ' H'
 | .ret u=>∃v σ' H',AJ X AD σ' H' s'/\AK v u/\D.rt v H'
def PE(X:Cx)(e:Expr)(t:TE):Prop:=
 ∀(AD:A7) (s:dc) (σ:St) (H:Hp) (Q:VK),AJ X AD σ H s->t σ H Q->eh (eJ X.prog X.w) X.A (eval e X.env) (EP X AD σ Q) X.xe s
def PT(X:Cx)(e:Expr)(t:TT):Prop:=
 ∀(AD:A7) (s:dc) (σ:St) (H:Hp) (Q:Bool->Hp->Prop),AJ X AD σ H s->t σ H Q->eh (eJ X.prog X.w) X.A (Ap e X.env (eval e X.env)) (TP X AD σ Q) X.xe s
def PW(X:Cx)(e:Expr)(t:TT):Prop:=
 ∀(whole:Sem a8) (AD:A7) (s:dc) (σ:St) (H:Hp) (Q:Bool->Hp->Prop),AJ X AD σ H s->t σ H Q->eh (eJ X.prog X.w) X.A (Ap e X.env whole) (TP X AD σ Q) X.xe s
variable {e:Expr}
theorem PW.pt{t:TT}(h:PW X e t):PT X e t:=h _
def PA(X:Cx)(es:C1)(t:TA):Prop:=
 ∀(pos:Pos) (AD:A7) (s:dc) (σ:St) (H:Hp) (Q:C0->Hp->Prop),AJ X AD σ H s->t σ H Q->eh (eJ X.prog X.w) X.A (spliced (nS pos (d6 es X.env))) (AP X AD σ Q) X.xe s
def PS(X:Cx)(st:Stmt)(t:TS):Prop:=
 ∀(AD:A7) (s:dc) (σ:St) (H:Hp) (D:Ends),AJ X AD σ H s->t D σ H->eh (eJ X.prog X.w) X.A (exec st X.env) (SP X AD D) X.xe s
def PSs(X:Cx)(st:C5)(t:TS):Prop:=
 ∀(AD:A7) (s:dc) (σ:St) (H:Hp) (D:Ends),AJ X AD σ H s->t D σ H->eh (eJ X.prog X.w) X.A (execs st X.env) (SP X AD D) X.xe s
theorem thn{α:Type}{t:Sem α}{Q Q':α->dc->Prop}(h:eh M A t Q E s)(hQ:∀a s,Q a s->Q' a s):eh M A t Q' E s:=hZ h hQ λ_ _ x=>x
variable {Q:B2}{pos:Pos}{σ:St}{c:Expr}
section
def ago(i:Nat):TE:=λσ H Q=>∃v,σ[i]?=some (some v)/\Q v H
def tC(v:V):TE:=λ_ H Q=>Q v H
theorem dM(hN:X.N[i]?=some x)(hv:Vis X.env.scope x)(hd:nD x:=by decide)(hcd:(x == ("__classdict__" : Str))=false:=by decide):PE X (.Name x pos) (ago i):=by
 rintro AD s σ H Q I ⟨v,e,h⟩;obtain ⟨m,hn,hl⟩:=I.loc;obtain ⟨u,r,l⟩:=hl i x v hN e hv;have fin:EP X AD σ Q u s:=⟨v,H,I,r,h⟩;rcases l with ⟨hk,hm⟩ | ⟨hk,c,hc,hcell⟩
 . exact x8 (wpAny_loadName_local I.ok.kind hk hn hm fin) hd
 . rcases hk with hk | hk
   . exact x8 (wpAny_loadName_cell I.ok.kind hk hc hcell fin) hd
   . exact x8 (wpAny_loadName_free I.ok.kind hk hc hcell fin hcd) hd
theorem JK{i j pos}:PE X (.Constant (.int i) j pos) (tC (.int i)):=λ_ _ _ H _ I h=>wpAny_Constant_int ⟨.int i,H,I.tok _,⟨_,rfl⟩,h⟩
theorem aeW{b j pos}:PE X (.Constant (.bool b) j pos) (tC (.bl b)):=λ_ _ _ H _ I h=>Constant_bool ⟨.bl b,H,I,rfl,h⟩
theorem aea{j pos}:PE X (.Constant .none j pos) (tC .non):=λ_ _ _ H _ I h=>Constant_none ⟨.non,H,I,rfl,h⟩
theorem Vg{x j pos}:PE X (.Constant (.str x) j pos) (tC (.str x)):=λ_ _ _ H _ I h=>Calls.Constant_str ⟨.str x,H,I.tok _,⟨_,rfl⟩,h⟩
def Gl(X:Cx)(x:Str):Prop:=X.env.kindOf x=some .globalImplicit
theorem Ov(I:AJ X AD σ H s)(hg:Gl X x)(hm:X.mg x=some u)(h:Q u s)
 (hd:nD x:=by decide):eh (eJ X.prog X.w) X.A (eval (.Name x pos) X.env) Q E s:=
 Calls.Name_function_global I.ok.kind hg (Calls.loadGlobal_global (by rw[I.ok.glob];exact I.mod.glob.keeps I.bk) hm h) hd
theorem nH(I:AJ X AD σ H s)(hg:Gl X x)(hm:X.mg x=none)(hv:fm x=some u)(h:Q u s)
 (hn:x ≠ "__name__" := by decide) (hd:nD x:=by decide):eh (eJ X.prog X.w) X.A (eval (.Name x pos) X.env) Q E s:=by
 obtain ⟨mb,h1,h2⟩:=I.mod.blt;exact Calls.Name_function_global I.ok.kind hg (Calls.loadGlobal_builtin (by rw[I.ok.glob];exact I.mod.glob.keeps I.bk) hm (by rw[I.ok.blt];exact h1.keeps I.bk) ((h2 x hn).trans hv) h) hd
theorem Od(hg:Gl X x)(hm:X.mg x=some u)(r:AK v u)(hd:nD x:=by decide):PE X (.Name x pos) (tC v):=
 λ_ _ _ H _ I h=>Ov I hg hm ⟨v,H,I,r,h⟩ hd
theorem aah(hg:Gl X x)(hm:X.mg x=none)(hv:fm x=some u)(r:AK v u)(hn:x ≠ "__name__" := by decide)(hd:nD x:=by decide):PE X (.Name x pos) (tC v):=
 λ_ _ _ H _ I h=>nH I hg hm hv ⟨v,H,I,r,h⟩ hn hd
variable {a b:Expr}{ta tb:TE}
def tB(t:TE):TT:=λσ H Q=>t σ H λx H1=>∃c,x= .bl c/\Q c H1
theorem acP{t:TE}(h:PE X e t)(he:∀whole,Ap e X.env whole=(do let v <- whole;standAt e.pos;holding [v] (truthy v)):=by intro _;rfl):PT X e (tB t):=by
 intro AD s σ H Q I hw;refine isTrue_plain (thn (h AD s σ H _ I hw) λv s1 az=>?_) (he _);obtain ⟨x,H1,I1,r1,q1⟩:=az;obtain ⟨d,rfl,q⟩:=q1;cases r1;exact jv ⟨H1,I1,q⟩
variable {tA tB':TT}{rest:C1}
def af1(t u:TT):TT:=λσ H Q=>t σ H λc H1=>if c=true then u σ H1 Q else Q false H1
def tOr(t u:TT):TT:=λσ H Q=>t σ H λc H1=>if c=true then Q true H1 else u σ H1 Q
def af4(t:TT):TT:=λσ H Q=>t σ H λc H1=>Q (!c) H1
theorem abu(ha:PT X a tA):PW X (.BoolOp .And [a] pos) tA:=by
 intro wh AD s σ H Q I h;refine isTrue_and (thn (ha AD s σ H Q I h) λc s1 e=>?_)
 cases c with
 | true=>exact isTrue_and_nil e
 | false=>exact e
theorem acg(ha:PT X a tA):PW X (.BoolOp .Or [a] pos) tA:=by
 intro wh AD s σ H Q I h;refine isTrue_or (thn (ha AD s σ H Q I h) λc s1 e=>?_)
 cases c with
 | false=>exact isTrue_or_nil e
 | true=>exact e
theorem acX(ha:PT X a tA)(hb:PW X (.BoolOp .And (b::rest) pos) tB'):PW X (.BoolOp .And (a::b::rest) pos) (af1 tA tB'):=by
 intro wh AD s σ H Q I h;refine isTrue_and (thn (ha AD s σ H _ I h) λc s1 az=>?_);obtain ⟨H1,I1,q1⟩:=az
 cases c with
 | true=>exact hb wh AD s1 σ H1 Q I1 q1
 | false=>exact ⟨H1,I1,q1⟩
theorem afu(ha:PT X a tA)(hb:PW X (.BoolOp .Or (b::rest) pos) tB'):PW X (.BoolOp .Or (a::b::rest) pos) (tOr tA tB'):=by
 intro wh AD s σ H Q I h;refine isTrue_or (thn (ha AD s σ H _ I h) λc s1 az=>?_);obtain ⟨H1,I1,q1⟩:=az
 cases c with
 | true=>exact ⟨H1,I1,q1⟩
 | false=>exact hb wh AD s1 σ H1 Q I1 q1
theorem aem(ha:PT X a tA):PT X (.UnaryOp .Not a pos) (af4 tA):=by
 intro AD s σ H Q I h;exact isTrue_not (ha AD s σ H (λc H1=>Q (!c) H1) I h)
def aeZ(ta tb:TE):TE:=λσ H Q=>ta σ H λx H1=>∃c,x= .bl c/\if c=true then tb σ H1 Q else Q (.bl false) H1
def afo(ta:TE):TE:=λσ H Q=>ta σ H λx H1=>∃c,x= .bl c/\Q (.bl (!c)) H1
theorem adR{op}{t:TE}(h:PE X a t):PE X (.BoolOp op [a] pos) t:=λAD s σ H Q I hw=>BoolOp_one (h AD s σ H Q I hw)
theorem ad5(ha:PE X a ta)(hb:PE X (.BoolOp .And (b::rest) pos) tb):PE X (.BoolOp .And (a::b::rest) pos) (aeZ ta tb):=by
 intro AD s σ H Q I h;refine BoolOp_and (thn (ha AD s σ H _ I h) λv s1 az=>?_);obtain ⟨x,H1,I1,r1,q1⟩:=az;obtain ⟨c,rfl,q1⟩:=q1;cases r1;refine jv ?_
 cases c with
 | true=>exact hb AD s1 σ H1 Q I1 q1
 | false=>exact ⟨.bl false,H1,I1,rfl,q1⟩
theorem ade(ha:PE X a ta):PE X (.UnaryOp .Not a pos) (afo ta):=by
 intro AD s σ H Q I h;refine UnaryOp_ (thn (ha AD s σ H _ I h) λv s1 az=>?_);obtain ⟨x,H1,I1,r1,q1⟩:=az;obtain ⟨c,rfl,q1⟩:=q1;cases r1;exact not_of (jv ⟨.bl (!c),H1,I1,rfl,q1⟩)
def tIf(t:TT)(ta tb:TE):TE:=λσ H Q=>t σ H λc H1=>if c=true then ta σ H1 Q else tb σ H1 Q
theorem W6(hc:PT X c tA)(ha:PE X a ta)(hb:PE X b tb):PE X (.IfExp c a b pos) (tIf tA ta tb):=by
 intro AD s σ H Q I h;refine wpAny_IfExp (thn (hc AD s σ H _ I h) λd s1 az=>?_);obtain ⟨H1,I1,q1⟩:=az
 cases d with
 | true=>exact ha AD s1 σ H1 Q I1 q1
 | false=>exact hb AD s1 σ H1 Q I1 q1
end
def SqL(K:aw)(H:Hp)(a:Addr)(xs:C0):Prop:=
 Rd H a (.lst xs) \/
  ∃(o:Obj) (AG:Array a8) (n:Nat),K.lookup a=some o/\o.cls= .type "list" /\ o.dict=none/\o.data= .seq AG n/\AG.size<=bE/\AL xs AG.toList
def SqT(K:aw)(H:Hp)(a:Addr)(xs:C0):Prop:=
 Rd H a (.tup xs) \/
  ∃(o:Obj) (AG:Array a8) (n:Nat),K.lookup a=some o/\o.cls= .type "tuple" /\ o.data= .seq AG n/\AG.size<=bE/\AL xs AG.toList
noncomputable def afE:a8->Option V
 | .none=>some .non
 | .bool b=>some (.bl b)
 | .int i _=>some (.int i)
 | .str x _=>some (.str x)
 | .bytes b _=>some (.byt b)
 | .float b _=>some (.flt b)
 | .ref a=>some (.ref a)
 | .type n=>some (.ty n)
 | _=>none
theorem AK.abs{x:V}(r:AK x u):afE u=some x:=by
 cases x with
 | non=>cases r;rfl
 | bl _=>cases r;rfl
 | int _=>obtain ⟨t,rfl⟩:=r;rfl
 | str _=>obtain ⟨t,rfl⟩:=r;rfl
 | byt _=>obtain ⟨t,rfl⟩:=r;rfl
 | flt _=>obtain ⟨t,rfl⟩:=r;rfl
 | ref _=>cases r;rfl
 | ty _=>cases r;rfl
theorem AK.inj{y:V}(r:AK v u)(q:AK y u):v=y:=Option.some.inj (r.abs.symm.trans q.abs)
theorem AL.inj:∀{xs ys:C0}{us:B8},AL xs us->AL ys us->xs=ys
 | _,_,_,.nil,.nil=>rfl
 | _,_,_,.cons r t,.cons r' t'=>by rw[r.inj r',AL.inj t t']
variable {K:aw}
section
variable       {ys:C0}
theorem SqL.of(h:H a=some (.lst xs)):SqL K H a xs:=.inl (.inl h)
theorem SqT.of(h:H a=some (.tup xs)):SqT K H a xs:=.inl (.inl h)
theorem AJ.list(I:AJ X AD σ H s)(h:SqL X.K H a xs):∃AG:B8,AL xs AG/\PlainL s.heap a AG.toArray/\xs.length<=bE:=by
 rcases h with h | ⟨o,AG,n,hk,hc,hd,hs,hz,r⟩
 . obtain ⟨z,AG,n,r,e⟩:=h.ok I.AR;exact ⟨AG,r,⟨_,n,e,rfl,rfl,rfl⟩,z⟩
 . refine ⟨AG.toList,r,⟨o,n,I.kIn a o hk,hc,hd,by simpa using hs⟩,?_⟩;have e:=r.length;simp only[l6] at e;lia
theorem AJ.tuple(I:AJ X AD σ H s)(h:SqT X.K H a xs):∃AG:B8,AL xs AG/\y6 s.heap a AG.toArray/\xs.length<=bE:=by
 rcases h with h | ⟨o,AG,n,hk,hc,hs,hz,r⟩
 . obtain ⟨z,AG,r,p⟩:=h.ok I.AR;exact ⟨AG,r,p,z⟩
 . refine ⟨AG.toList,r,⟨o,I.kIn a o hk,hc,n,by simpa using hs⟩,?_⟩;have e:=r.length;simp only[l6] at e;lia
theorem AJ.wO(I:AJ X AD σ H s)(h:SqL X.K H a xs)(h':SqL X.K H a ys):xs=ys:=by
 obtain ⟨AG,r,⟨o,n,e,_,_,d⟩,_⟩:=I.list h;obtain ⟨its',r',⟨o',n',e',_,_,d'⟩,_⟩:=I.list h';rw[e] at e';cases e';rw[d] at d';injection d' with d1 _;have:=by simpa using congrArg Array.toList d1
 subst this;exact r.inj r'
theorem AJ.yr(I:AJ X AD σ H s)(h:SqT X.K H a xs)(h':SqT X.K H a ys):xs=ys:=by
 obtain ⟨AG,r,⟨o,e,_,n,d⟩,_⟩:=I.tuple h;obtain ⟨its',r',⟨o',e',_,n',d'⟩,_⟩:=I.tuple h';rw[e] at e';cases e';rw[d] at d';injection d' with d1 _;have:=by simpa using congrArg Array.toList d1
 subst this;exact r.inj r'
end
noncomputable abbrev Cx.wish(X:Cx)(E:B2):Cx:={ X with xe:=E }
noncomputable abbrev Cx.nox(X:Cx):Cx:=X.wish λ_ _=>False
theorem Cx.Ok.wish(ok:X.Ok)(E:B2):(X.wish E).Ok:=
 ⟨ok.mod,ok.kind,ok.glob,ok.blt,ok.above,ok.inj,ok.has,ok.cab,ok.hd,ok.frames,ok.stk,ok.exf,ok.bs,ok.bsz,ok.Le,ok.Q8,ok.tV,ok.frf,ok.tabs⟩
theorem Cx.Ok.pX(ok:(X.wish E).Ok):X.Ok:=
 ⟨ok.mod,ok.kind,ok.glob,ok.blt,ok.above,ok.inj,ok.has,ok.cab,ok.hd,ok.frames,ok.stk,ok.exf,ok.bs,ok.bsz,ok.Le,ok.Q8,ok.tV,ok.frf,ok.tabs⟩
theorem AJ.wish(I:AJ X AD σ H s)(E:B2):AJ (X.wish E) AD σ H s:=⟨I.ok.wish E,I.os,I.bare,I.base,I.loc,I.cell,I.free,I.jZ,I.pin,I.AR,I.len⟩
theorem AJ.pX(I:AJ (X.wish E) AD σ H s):AJ X AD σ H s:=⟨I.ok.pX,I.os,I.bare,I.base,I.loc,I.cell,I.free,I.jZ,I.pin,I.AR,I.len⟩
theorem SP.pX{D:Ends}{f:Flow}(h:SP (X.wish E) AD D f s'):SP X AD D f s':=by
 cases f with
 | next=>obtain ⟨σ',H',I,q⟩:=h;exact ⟨σ',H',I.pX,q⟩
 | brk=>obtain ⟨σ',H',I,q⟩:=h;exact ⟨σ',H',I.pX,q⟩
 | cont=>obtain ⟨σ',H',I,q⟩:=h;exact ⟨σ',H',I.pX,q⟩
 | ret u=>obtain ⟨v,σ',H',I,r,q⟩:=h;exact ⟨v,σ',H',I.pX,r,q⟩
theorem PSs.nox{st:C5}{t:TS}(h:PSs X.nox st t):PSs X st t:=λAD s σ H D I hw=>
 hZ (h AD s σ H D (I.wish _) hw) (λ_ _ q=>q.pX) λ_ _ z=>lI z
section
variable  {st:Stmt}{rest:C5}{t u:TS}  {te:TE}
def afh:TS:=λD σ H=>D.nx σ H
def agi(t u:TS):TS:=λD σ H=>t { D with nx:=u D } σ H
theorem aaL:PSs X [] afh:=λ_ _ σ H _ I h=>tz ⟨σ,H,I,h⟩
theorem Yp(h1:PS X st t)(h2:PSs X rest u):PSs X (st::rest) (agi t u):=by
 intro AD s σ H D I h;refine wpAny_execs_cons (thn (h1 AD s σ H { D with nx:=u D } I h) λf s1 q=>?_)
 cases f with
 | next=>
  obtain ⟨σ',H',I',q⟩:=q;exact h2 AD s1 σ' H' D I' q
 | ret v=>exact q
 | brk=>exact q
 | cont=>exact q
theorem aa4(h1:PS X st t):PSs X [st] t:=by
 intro AD s σ H D I h;refine wpAny_execs_cons (thn (h1 AD s σ H D I h) λf s1 q=>?_)
 cases f with
 | next=>exact tz q
 | ret v=>exact q
 | brk=>exact q
 | cont=>exact q
theorem AJ.quiet(I:AJ X AD σ H s):interactive X.env=false:=by simp[interactive,I.ok.kind]
def afw(te:TE):TS:=λD σ H=>te σ H λ_ H1=>D.nx σ H1
theorem qX(he:PE X e te)(hs:ip e none pos.line X.env=pure false:=by rfl):PS X (.Expr e pos) (afw te):=by
 intro AD s σ H D I h;exact wpAny_Expr_any (thn (he AD s σ H _ I h) λv s1 ⟨x,H1,I1,r1,q1⟩=>⟨σ,H1,I1,q1⟩) I.quiet hs
def afY(te:TE):TS:=λD σ H=>te σ H D.rt
theorem yq(he:PE X e te):PS X (.Return (some e) pos) (afY te):=by
 intro AD s σ H D I h;exact wpAny_Return_some (thn (he AD s σ H _ I h) λv s1 ⟨x,H1,I1,r1,q1⟩=>⟨x,σ,H1,I1,r1,q1⟩)
def agp(c:TT)(t u:TS):TS:=λD σ H=>c σ H λb H1=>if b=true then t D σ H1 else u D σ H1
theorem ae4{a b:C5}{tc:TT}(hc:PT X c tc)(ha:PSs X a t)(hb:PSs X b u):PS X (.If c a b pos) (agp tc t u):=by
 intro AD s σ H D I h;refine wpAny_If (thn (hc AD s σ H _ I h) λd s1 az=>?_);obtain ⟨H1,I1,q1⟩:=az
 cases d with
 | true=>exact ha AD s1 σ H1 D I1 q1
 | false=>exact hb AD s1 σ H1 D I1 q1
def adt:TS:=λ_ _ _=>False
theorem VH:PS X st adt:=λ_ _ _ _ _ _ h=>h.elim
end
abbrev TG:=V->St->Hp->(St->Hp->Prop)->Prop
abbrev TGs:=C0->St->Hp->(St->Hp->Prop)->Prop
def PG(X:Cx)(target:Expr)(t:TG):Prop:=
 ∀(AD:A7) (s:dc) (σ:St) (H:Hp) (v:V) (u:a8) (Q:St->Hp->Prop),AJ X AD σ H s->AK v u->t v σ H Q ->
  eh (eJ X.prog X.w) X.A (assign target X.env u) (λ_ s'=>∃σ' H',AJ X AD σ' H' s'/\Q σ' H') X.xe s
def PGs(X:Cx)(ts:C1)(t:TGs):Prop:=
 ∀(AD:A7) (s:dc) (σ:St) (H:Hp) (vs:C0) (us:B8) (Q:St->Hp->Prop),AJ X AD σ H s->AL vs us->t vs σ H Q ->
  eh (eJ X.prog X.w) X.A (assignInOrder ((nz ts X.env).map (·.2)) us) (λ_ s'=>∃σ' H',AJ X AD σ' H' s'/\Q σ' H') X.xe s
variable {es:C1}
def DG(i:Nat):TG:=λv σ H Q=>Q (σ.set i (some v)) H
theorem ZJ(hN:X.N.Nodup)(hi:X.N[i]?=some x)(hx:Loc X.env.scope x)(hf:X.fn x=true\/X.env.scope.names.lookup x=some .local:=by walk_at "hf"):PG X (.Name x pos) (DG i):=by
 intro AD s σ H v u Q I r h;exact wpAny_assign_Name (JX I hN hi hx r (λs' I'=>⟨_,H,I',h⟩) hf)
def agw:TGs:=λvs σ H Q=>vs=[]/\Q σ H
def ae5(t:TG)(u:TGs):TGs:=λvs σ H Q=>∃v r,vs=v::r/\t v σ H λσ' H'=>u r σ' H' Q
theorem abr:PGs X [] agw:=by
 rintro AD s σ H vs us Q I r ⟨e,h⟩;subst e;cases r;exact assignInOrder_nil ⟨σ,H,I,h⟩
theorem Xg{t:TG}{u:TGs}(h1:PG X e t)(h2:PGs X es u)
 (hs:(nz (e::es) X.env).map (·.2)=assign e X.env::(nz es X.env).map (·.2):=by rfl):PGs X (e::es) (ae5 t u):=by
 rintro AD s σ H vs us Q I r ⟨v,vr,e1,h⟩;subst e1
 cases r with
 | cons r rr=>
  rw[hs];exact assignInOrder_cons (thn (h1 AD s σ H _ _ _ I r h) λ_ s1 ⟨σ1,H1,I1,q1⟩=>h2 AD s1 σ1 H1 _ _ Q I1 rr q1)
def afP(K:aw)(n:Nat)(t:TGs):TG:=λv σ H Q=>∃a xs,v= .ref a/\SqT K H a xs/\xs.length=n/\t xs σ H Q
theorem abR{t:TGs}{n:Nat}(hc:X.calm=true)(h:PGs X es t)
 (hn:(nz es X.env).length=n:=by rfl) (hst:(nz es X.env).findIdx? (·.1)=none:=by rfl):PG X (.Tuple es i pos) (afP X.K n t):=by
 rintro AD s σ H v u Q I r ⟨a,xs,e1,hq,hl,hw⟩;subst e1;cases r;obtain ⟨AG,rv,ht,hz⟩:=I.tuple hq;refine assign_Tuple_tuple (I.ok.hd hc) ht (by simp[hn,<- hl,rv.length]) hst λh' hx=>?_;have I1:=I.kept (t':=s.toks) λb o e=>hx b o (fh (cy e)) e;exact h AD _ σ H xs _ Q I1 (by simpa using rv) hw
def Qf(te:TE)(g:TG):TS:=λD σ H=>te σ H λx H1=>g x σ H1 D.nx
theorem Cm{te:TE}{pos':Pos}(hN:X.N.Nodup)(hi:X.N[i]?=some x)(hx:Loc X.env.scope x)(he:PE X e te)(hs:ip e (some (.Name x pos')) pos.line X.env=pure false:=by rfl)(hf:X.fn x=true\/X.env.scope.names.lookup x=some .local:=by walk_at "hf") :
 PS X (.Assign [.Name x pos'] e pos) (Qf te (DG i)):=by
 intro AD s σ H D I h;refine wpAny_Assign_Name (thn (he AD s σ H _ I h) λv s1 az=>?_) hs;obtain ⟨y,H1,I1,r1,q1⟩:=az;exact JX I1 hN hi hx r1 (λs2 I2=>⟨_,H1,I2,q1⟩) hf
variable {body:C5}
def ac9(c:TT)(tb:TS):TS:=λD σ H=>∃W:Nat->St->Hp->Prop,(∃m,W m σ H)/\∀m σ H,W m σ H ->
 c σ H λb H1=>if b=true then ∃N:St->Hp->Prop,(∀σ' H',N σ' H'->∃m',m'<m/\W m' σ' H')/\tb { D with nx:=N,ct:=N,bk:=D.nx } σ H1 else D.nx σ H1
theorem Yo{tc:TT}{tb:TS}(hp:vn (eJ X.prog X.w) X.A X.env X.xe)(hc:PT X c tc)(hb:PSs X body tb):PS X (.While c body [] pos) (ac9 tc tb):=by
 rintro AD s σ H D I ⟨W,⟨m0,w0⟩,turn⟩;refine wpAny_While (codeAny_whileLoop (λn s'=>∃σ' H',AJ X AD σ' H' s'/\W n σ' H') ?_ m0 ⟨σ,H,I,w0⟩);rintro n s1 ⟨σ1,H1,I1,w1⟩;refine nc hp (thn (hc AD s1 σ1 H1 _ I1 (turn n σ1 H1 w1)) λb s2 az=>?_);obtain ⟨H2,I2,q2⟩:=az
 cases b with
 | true=>
  obtain ⟨N,hN,q2⟩:=q2;rw[if_pos rfl];refine nc hp (thn (hb AD s2 σ1 H2 _ I2 q2) λf s3 q3=>?_)
  cases f with
  | next=>
   obtain ⟨σ3,H3,I3,n3⟩:=q3;obtain ⟨m',hm,w3⟩:=hN σ3 H3 n3;exact ⟨m',hm,σ3,H3,I3,w3⟩
  | cont=>
   obtain ⟨σ3,H3,I3,n3⟩:=q3;obtain ⟨m',hm,w3⟩:=hN σ3 H3 n3;exact ⟨m',hm,σ3,H3,I3,w3⟩
  | brk=>exact q3
  | ret v=>exact q3
 | false=>
  rw[if_neg e8];exact tz ⟨σ1,H2,I2,q2⟩
structure It where
 go:Nat->Hp->Prop
 yld:Nat->Hp->V->Hp->Prop
 stop:Nat->Hp->Prop
def uN(X:Cx)(AD:A7)(H:Hp)(b:Addr):Prop:=
 H b=none/\b≠X.env.locals/\b∉X.fs/\(b∈X.ex\/X.s₀.heap.objs.size<=b)/\(∀x c,X.env.cells.lookup x=some c->c≠b)/\∀p∈X.pn++AD,p.1≠b
theorem AJ.rT{H':Hp}(I:AJ X AD σ H s)(hb:s.heap.objs.size<=b)(hn:H' b=none):uN X AD H' b:=by
 refine ⟨hn,rg (eW I.lt hb),I.agF hb,.inr (dy I.sz hb),λx c e z=>?_,λp hp z=>?_⟩
 . obtain ⟨v,q⟩:=I.cell x c e;exact absurd (eW q.lt (by rw[z];exact hb)) (g9 _)
 . exact absurd (eW (cy (I.pin p hp).1) (by rw[z];exact hb)) (g9 _)
structure Turn (P:gc) (w:kT) (K:aw) (tg:Expr) (J:It) (fp:C2) (it:Addr) (tn:Nat->Heap->Prop):Prop where
 mem:it∈fp
 obj:∀i h,tn i h->∀b∈fp,∃o,h.get? b=some o/\∀v,o.data ≠ .cell v
 keep:∀i h h',tn i h->(∀b∈fp,∀o,h.get? b=some o->h'.get? b=some o)->tn i h'
 item:∀(X:Cx),X.prog=P->X.w=w->X.K=K->X.calm=true->∀(i:Nat) (AD:A7) (s:dc) (σ:St) (H:Hp) (E:B2),AJ X AD σ H s->(∀b∈fp,uN X AD H b)->tn i s.heap->J.go i H ->
  eh (eJ P w) X.A (pyNext (.ref it)) (λr s1=>∃u,r=some u /\
   eh (eJ P w) X.A (y7 tg (.ref it) u) (λ_ s2=>∃x H',AJ X AD σ H' s2/\AK x u/\J.yld i H x H'/\tn (i+1) s2.heap/\∀b∈fp,H' b=none) E s1) E s
 done:∀(X:Cx),X.prog=P->X.w=w->X.K=K->X.calm=true->∀(i:Nat) (AD:A7) (s:dc) (σ:St) (H:Hp) (E:B2),AJ X AD σ H s->(∀b∈fp,uN X AD H b)->tn i s.heap->J.stop i H ->
  eh (eJ P w) X.A (pyNext (.ref it)) (λr s1=>r=none/\AJ X AD σ H s1) E s
 self:∀(A:iS) (i:Nat) (s:dc) (Q:B2) (E:B2),tn i s.heap->Q (.ref it) s->eh (eJ P w) A (pyIter (.ref it)) Q E s
abbrev TI:=St->Hp->(It->Hp->Prop)->Prop
def PIE(X:Cx)(AD:A7)(σ:St)(tg:Expr)(R:It->Hp->Prop)(itv:a8)(s2:dc):Prop:=
 ∃(it:Addr) (fp:C2) (tn:Nat->Heap->Prop) (J:It) (H':Hp),itv= .ref it/\AJ X AD σ H' s2/\Turn X.prog X.w X.K tg J fp it tn/\tn 0 s2.heap/\(∀b∈fp,uN X AD H' b)/\R J H'
def PI(X:Cx)(tg iter:Expr)(wi:TI):Prop:=
 ∀(AD:A7) (s:dc) (σ:St) (H:Hp) (R:It->Hp->Prop),AJ X AD σ H s->wi σ H R ->
  eh (eJ X.prog X.w) X.A (eval iter X.env) (λv s1=>eh (eJ X.prog X.w) X.A (pyIter v) (PIE X AD σ tg R) X.xe s1) X.xe s
variable {tg:Expr}
theorem zy{o:Obj}{n:String}{vs:Array a8}{Q:Unit->dc->Prop}(ho:s.heap.get? a=some o)(hc:o.cls= .type n)(hd:o.data= .fields vs)
 (hn:["enumerate", "zip", "dict_itemiterator", "dict_reverseitemiterator", "odict_iterator", "itertools.zip_longest", "itertools.pairwise"].contains n=false) (hQ:Q () s):eh M A (y7 tg (.ref a) u) Q E s:=by
 cases tg <;> first
  | exact bt hQ
  | (cases u <;> first
   | exact bt hQ
   | (
    refine ag (wpAny_load ho ?_);rw[hc,hd];show eh M A (if (["enumerate", "zip", "dict_itemiterator", "dict_reverseitemiterator", "odict_iterator", "itertools.zip_longest", "itertools.pairwise"].contains n&&vs[0]? == some (sF _))=true then _ else _) Q E s;rw[if_neg (by intro h;rw[hn,Bool.false_and] at h;cases h)];exact bt hQ))
noncomputable def Itl(K:aw)(a:Addr):It:=
 ⟨λi H=>∃xs x,SqL K H a xs/\xs[i]?=some x,λi H x H'=>H'=H/\∀xs,SqL K H a xs->xs[i]?=some x,λi H=>∃xs,SqL K H a xs/\xs.length<=i⟩
noncomputable def Itt(K:aw)(a:Addr):It:=
 ⟨λi H=>∃xs x,SqT K H a xs/\xs[i]?=some x,λi H x H'=>H'=H/\∀xs,SqT K H a xs->xs[i]?=some x,λi H=>∃xs,SqT K H a xs/\xs.length<=i⟩
noncomputable def Itr(lo:Int)(n:Nat):It:=⟨λi _=>i<n,λi H x H'=>H'=H/\x= .int (lo+i),λi _=>n<=i⟩
theorem Ve(a it:Addr):Turn P w K tg (Itl K a) [it] it (λi h=>h.IsListIter it a i) where
 mem:=by simp
 obj:=λi h st b hb=>by
  have e:=by simpa using hb
  subst e;obtain ⟨o,e,c,d⟩:=st;exact ⟨o,e,λv z=>by rw[d] at z;cases z⟩
 keep:=λi h h' st k=>st.at λo e=>k it (by simp) o e
 item:=by
  intro X hP hw hK hc i AD s σ H E I hf st hg;subst hP hw hK;obtain ⟨xs,x,hq,hx⟩:=hg;obtain ⟨AG,rv,p,hz⟩:=I.list hq;obtain ⟨u,hu,ru⟩:=rv.get hx;obtain ⟨f0,f1,f2,f3,f4,f5⟩:=hf it (by simp);refine wpAny_pyNext_list_item st p.isList (by simpa using hu) λh' st' sb=>?_;have I1:=I.turned (t':=s.toks) (λb o hb e=>(sb.2 b hb).trans e) f0 f1 f3 f4 f5;obtain ⟨o,e,c,d⟩:=id st';exact ⟨u,rfl,zy e c d (by decide) ⟨x,H,I1,ru,⟨rfl,λys hy=>by rw[I.wO hy hq];exact hx⟩,st',λb hb=>(hf b hb).1⟩⟩
 done:=by
  intro X hP hw hK hc i AD s σ H E I hf st hg;subst hP hw hK;obtain ⟨xs,hq,hx⟩:=hg;obtain ⟨AG,rv,p,hz⟩:=I.list hq;obtain ⟨f0,f1,f2,f3,f4,f5⟩:=hf it (by simp);have hl:=rv.length;exact wpAny_pyNext_list_end (I.ok.hd hc) st p.isList (by simp;lia) λh' eb=>⟨rfl,I.turned (λb o hb e=>eb b o hb e) f0 f1 f3 f4 f5⟩
 self:=λ_ _ _ _ _ st h=>wpAny_pyIter_listiter st h
theorem Rk(a it:Addr):Turn P w K tg (Itt K a) [it] it (λi h=>h.IsTupleIter it a i) where
 mem:=by simp
 obj:=λi h st b hb=>by
  have e:=by simpa using hb
  subst e;obtain ⟨o,e,c,d⟩:=st;exact ⟨o,e,λv z=>by rw[d] at z;cases z⟩
 keep:=λi h h' st k=>st.at λo e=>k it (by simp) o e
 item:=by
  intro X hP hw hK hc i AD s σ H E I hf st hg;subst hP hw hK;obtain ⟨xs,x,hq,hx⟩:=hg;obtain ⟨AG,rv,p,hz⟩:=I.tuple hq;obtain ⟨u,hu,ru⟩:=rv.get hx;obtain ⟨f0,f1,f2,f3,f4,f5⟩:=hf it (by simp);refine wpAny_pyNext_tuple_item st (p) (by simpa using hu) λh' st' sb=>?_;have I1:=I.turned (t':=s.toks) (λb o hb e=>(sb.2 b hb).trans e) f0 f1 f3 f4 f5;obtain ⟨o,e,c,d⟩:=id st';exact ⟨u,rfl,zy e c d (by decide) ⟨x,H,I1,ru,⟨rfl,λys hy=>by rw[I.yr hy hq];exact hx⟩,st',λb hb=>(hf b hb).1⟩⟩
 done:=by
  intro X hP hw hK hc i AD s σ H E I hf st hg;subst hP hw hK;obtain ⟨xs,hq,hx⟩:=hg;obtain ⟨AG,rv,p,hz⟩:=I.tuple hq;obtain ⟨f0,f1,f2,f3,f4,f5⟩:=hf it (by simp);have hl:=rv.length;exact wpAny_pyNext_tuple_end (I.ok.hd hc) st (p) (by simp;lia) λh' eb=>⟨rfl,I.turned (λb o hb e=>eb b o hb e) f0 f1 f3 f4 f5⟩
 self:=λ_ _ _ _ _ st h=>wpAny_pyIter_tupleiter st h
theorem QF(it:Addr)(lo:Int)(n:Nat):Turn P w K tg (Itr lo n) [it] it (λi h=>IsRangeIter h it (lo+(i:Nat)*1) ((n:Int) - (i:Nat)) 1) where
 mem:=by simp
 obj:=λi h st b hb=>by
  have e:=by simpa using hb
  subst e;exact ⟨_,st,λv z=>by
   have z':=z;cases z'⟩
 keep:=λi h h' st k=>k it (by simp) _ st
 item:=by
  intro X hP hw hK hc i AD s σ H E I hf st hg;subst hP hw hK;obtain ⟨f0,f1,f2,f3,f4,f5⟩:=hf it (by simp);have W:=Walks.range (prog:=X.prog) (w:=X.w) (I.ok.hd hc) it lo 1 n;refine W.item i s _ _ hg st λv h' tk hv st' kk=>?_;obtain ⟨t,rfl⟩:=hv;have I1:AJ X AD σ H { s with heap:=h',toks:=tk }:=I.turned (λb o hb e=>kk b o (by simpa using hb) e) f0 f1 f3 f4 f5;refine ⟨_,rfl,zy st' rfl rfl (by decide) ⟨.int (lo+i),H,I1,⟨t,?_⟩,⟨rfl,rfl⟩,st',λb hb=>(hf b hb).1⟩⟩;rw[wd]
 done:=by
  intro X hP hw hK hc i AD s σ H E I hf st hg;subst hP hw hK;obtain ⟨f0,f1,f2,f3,f4,f5⟩:=hf it (by simp);exact wpAny_pyNext_range_end (I.ok.hd hc) st (by have:n<=i:=hg;lia) λh' eb=>⟨rfl,I.turned (λb o hb e=>eb b o hb e) f0 f1 f3 f4 f5⟩
 self:=λ_ _ _ _ _ st h=>wpAny_pyIter_rangeiter st h
variable {fp:C2}
theorem Vw{R:It->Hp->Prop}{lo hi:Int}{t u v:Tok}(I:AJ X AD σ H s)(h1 : -(2^62)<=lo)(h2:lo<2^62)(h3 : -(2^62)<=hi)(h4:hi<2^62)
 (q:R (Itr lo (hi - lo).toNat) H):eh (eJ X.prog X.w) X.A (pyIter (.ref s.heap.objs.size)) (PIE X AD σ tg R) E { s with heap:=s.heap.push { cls:=.type "range",data:=.fields #[.int lo t,.int hi u,.int 1 v] },toks:=t' }:=by
 refine wpAny_pyIter_range (IsRange.new ..) (small_one h1 h2 h3 h4) ?_;have I1:AJ X AD σ H { s with heap:=s.heap.push { cls:=.type "range",data:=.fields #[.int lo t,.int hi u,.int 1 v] },toks:=t' }:=I.kept λb o e=>aI _ e;refine ⟨(s.heap.push { cls:=.type "range",data:=.fields #[.int lo t,.int hi u,.int 1 v] }).objs.size,[(s.heap.push { cls:=.type "range",data:=.fields #[.int lo t,.int hi u,.int 1 v] }).objs.size],_,_,H,rfl,
  I1.kept λb o e=>aI _ e,QF _ lo (hi - lo).toNat,?_,λb hb=>?_,q⟩
 . have e1:lo+((0:Nat):Int)*1=lo:=by simp
   have e2:(((hi - lo).toNat:Nat):Int) - ((0:Nat):Int)=dA lo hi 1:=by rw[rangeSize_one];split <;> lia
   rw[e1,e2];exact c6 _ rfl
 . have e:b=(s.heap.push { cls:=.type "range",data:=.fields #[.int lo t,.int hi u,.int 1 v] }).objs.size:=by simpa using hb
   subst e;exact I1.rT (aE _) (I1.AR.fresh (aE _))
def afn(ta:TA):TI:=λσ H R=>ta σ H λvs H1=>∃j:Int,vs=[.int j] /\ -(2^62)<=j/\j<2^62/\R (Itr 0 j.toNat) H1
theorem Gq{ta:TA}{p:Pos}(hg:Gl X "range")(hm:X.mg "range"= none)(ha:PA X [c] ta)(hs:d6 [c] X.env=[(false,eval c X.env)]:=by rfl):PI X tg (.Call (.Name "range" p) [c] [] pos) (afn ta):=by
 intro AD s σ H R I h;refine Call_ (nH I hg hm boot_range (iE (thn (ha pos AD s σ H _ I h) λus s1 az=>?_) hs rfl));obtain ⟨vs,H1,I1,r1,q1⟩:=az;obtain ⟨j,e,q1,q2,q⟩:=q1;subst e
 cases r1 with
 | cons r rr=>
  cases rr;obtain ⟨t,rfl⟩:=r;exact call_range_1 (Vw I1 (by lia) (by lia) q1 q2 (by simpa using q))
def afB(wi:TI)(g:TG)(tb:TS):TS:=λD σ H=>wi σ H λJ H1=>∃W:Nat->Nat->St->Hp->Prop,(∃m,W 0 m σ H1)/\∀i m σ H,W i m σ H ->
 (J.stop i H/\D.nx σ H)\/(J.go i H/\∃N:St->Hp->Prop,(∀σ' H',N σ' H'->∃m',m'<m/\W (i+1) m' σ' H')/\∀x H',J.yld i H x H'->g x σ H' λσ2 H2=>tb { D with nx:=N,ct:=N,bk:=D.nx } σ2 H2)
noncomputable def xT(fp:C2)(h:Heap):A7:=fp.filterMap λb=>(h.get? b).map λo=>(b,o)
theorem qQ{o:Obj}(hb:b∈fp)(e:h.get? b=some o):(b,o)∈xT fp h:=mn.mpr ⟨b,hb,by rw[e];rfl⟩
theorem TY{p:Addr×Obj}(hp:p∈xT fp h):p.1∈fp/\h.get? p.1=some p.2:=by
 obtain ⟨b,hb,e⟩:=mn.mp hp
 cases q:h.get? b with
 | none=>rw[q] at e;cases e
 | some o=>
  rw[q] at e;have e':=Option.some.inj e;subst e';exact ⟨hb,q⟩
theorem AJ.pinned(I:AJ X AD σ H s)(hf:∀b∈fp,uN X AD H b)(ho:∀b∈fp,∃o,s.heap.get? b=some o/\∀v,o.data ≠ .cell v):AJ X (AD++xT fp s.heap) σ H s:=
 I.NQ λp hp=>(cK.mp hp).elim (λz=>I.pin p (cS _ z)) λz=>by
  obtain ⟨hb,e⟩:=TY z;obtain ⟨f0,f1,f2,_⟩:=hf p.1 hb;obtain ⟨o,e',d⟩:=ho p.1 hb;rw[e] at e';cases e';exact ⟨e,f0,f1,f2,d⟩
theorem AJ.wY{pl:A7}(I:AJ X (AD++pl) σ H s):AJ X AD σ H s:=I.NQ λp hp=>I.pin p (cS _ (eK _ hp))
theorem Up{wi:TI}{g:TG}{tb:TS}(hp:vn (eJ X.prog X.w) X.A X.env X.xe)(hc:X.calm=true)(hi:PI X tg c wi)(hg:PG X tg g)(hb:PSs X body tb)
 (hs:∀x,jI c X.env x=pure x:=by intro _;rfl):PS X (.For tg c body [] pos) (afB wi g tb):=by
 intro AD s σ H D I h;refine wpAny_For (thn (hi AD s σ H _ I h) λv s1 h1=>thn h1 λitv s2 h2=>?_) hs;obtain ⟨it,fp,tn,J,H2,e,I2,T,st2,f2,W,⟨m0,w0⟩,turn⟩:=h2;subst e;have stat:∀{H':Hp},(∀b∈fp,H' b=none)->∀b∈fp,uN X AD H' b:=λhn b hb=>⟨hn b hb,(f2 b hb).2⟩;refine codeAny_forLoop_any (λn s'=>∃i σ' H',AJ X AD σ' H' s'/\tn i s'.heap/\(∀b∈fp,H' b=none)/\W i n σ' H') ?_ m0 ⟨0,σ,H2,I2,st2,λb hb=>(f2 b hb).1,w0⟩;rintro n s3 ⟨i,σ3,H3,I3,st3,fr3,w3⟩;rcases turn i n σ3 H3 w3 with ⟨stop,qn⟩ | ⟨go,N,hN,step⟩
 . refine nc hp (thn (T.done X rfl rfl rfl hc i AD s3 σ3 H3 X.xe I3 (stat fr3) st3 stop) λr s4 az=>?_);obtain ⟨hr,I4⟩:=az;subst hr;exact tz ⟨σ3,H3,I4,qn⟩
 . refine nc hp (thn (T.item X rfl rfl rfl hc i AD s3 σ3 H3 X.xe I3 (stat fr3) st3 go) λr s4 az=>?_);obtain ⟨u,hr,h4⟩:=az;subst hr;refine nc hp (thn h4 λ_ s5 az=>?_);obtain ⟨x,H5,I5,r5,y5,st5,fr5⟩:=az;have I5':=I5.pinned (stat fr5) (T.obj _ _ st5);refine nc hp (thn (hg _ s5 σ3 H5 x u _ I5' r5 (step x H5 y5)) λ_ s6 ⟨σ6,H6,I6,q6⟩=>nc hp (thn (hb _ s6 σ6 H6 _ I6 q6) λf s7 q7=>?_));have again:∀{σ7:St}{H7:Hp},AJ X (AD++xT fp s5.heap) σ7 H7 s7->N σ7 H7->∃m,m<n/\∃i σ' H',AJ X AD σ' H' s7/\tn i s7.heap/\(∀b∈fp,H' b=none)/\W i m σ' H':=λ{σ7 H7} I7 n7=>by
    obtain ⟨m',hm,w7⟩:=hN σ7 H7 n7;refine ⟨m',hm,i+1,σ7,H7,I7.wY,T.keep _ _ _ st5 λb hb o e=>(I7.pin (b,o) (cS _ (cS _ (qQ hb e)))).1,λb hb=>?_,w7⟩;obtain ⟨o,e,d⟩:=T.obj _ _ st5 b hb;exact (I7.pin (b,o) (cS _ (cS _ (qQ hb e)))).2.1
   cases f with
   | next=>obtain ⟨σ7,H7,I7,n7⟩:=q7;exact again I7 n7
   | cont=>obtain ⟨σ7,H7,I7,n7⟩:=q7;exact again I7 n7
   | brk=>obtain ⟨σ7,H7,I7,q7⟩:=q7;exact ⟨σ7,H7,I7.wY,q7⟩
   | ret v=>obtain ⟨x7,σ7,H7,I7,r7,q7⟩:=q7;exact ⟨x7,σ7,H7,I7.wY,r7,q7⟩
abbrev R2:=V->V->Hp->VK->Prop
def OpR(X:Cx)(f:a8->a8->Sem a8)(r:R2):Prop:=
 ∀(AD:A7) (s:dc) (σ:St) (H:Hp) (x y:V) (v u:a8) (Q:VK),AJ X AD σ H s->AK x v->AK y u->r x y H Q ->
  eh (eJ X.prog X.w) X.A (f v u) (EP X AD σ Q) X.xe s
def UnR(X:Cx)(f:a8->Sem a8)(r:V->Hp->VK->Prop):Prop:=
 ∀(AD:A7) (s:dc) (σ:St) (H:Hp) (x:V) (v:a8) (Q:VK),AJ X AD σ H s->AK x v->r x H Q ->
  eh (eJ X.prog X.w) X.A (f v) (EP X AD σ Q) X.xe s
def fM(X:Cx)(f:a8)(r:C0->Hp->VK->Prop):Prop:=
 ∀(AD:A7) (s:dc) (σ:St) (H:Hp) (xs:C0) (us:B8) (Q:VK),AJ X AD σ H s->AL xs us->r xs H Q ->
  eh (eJ X.prog X.w) X.A (call f us) (EP X AD σ Q) X.xe s
def agh(X:Cx)(r:V->Hp->(Bool->Hp->Prop)->Prop):Prop:=
 ∀(AD:A7) (s:dc) (σ:St) (H:Hp) (x:V) (v:a8) (Q:Bool->Hp->Prop),AJ X AD σ H s->AK x v->r x H Q ->
  eh (eJ X.prog X.w) X.A (truthy v) (TP X AD σ Q) X.xe s
def tOp(r:R2)(ta tb:TE):TE:=λσ H Q=>ta σ H λx H1=>tb σ H1 λy H2=>r x y H2 Q
def tUn(r:V->Hp->VK->Prop)(ta:TE):TE:=λσ H Q=>ta σ H λx H1=>r x H1 Q
def rI(C:Int->Int->Prop)(g:Int->Int->V):R2:=λx y H Q=>∃i j,x= .int i/\y= .int j/\C i j/\Q (g i j) H
def rI0(g:Int->Int->V):R2:=λx y H Q=>∃i j,x= .int i/\y= .int j/\Q (g i j) H
def rU(g:Int->V):V->Hp->VK->Prop:=λx H Q=>∃i,x= .int i/\Q (g i) H
variable {r:R2}{g:Int->Int->Int}
section
variable  {a b:Expr}{ta tb tc:TE}
theorem Yx(ha:PE X a ta)(hb:PE X b tb){R:V->V->Hp->Prop}(I:AJ X AD σ H s)
 (h:ta σ H λx H1=>tb σ H1 λy H2=>R x y H2) {f:a8->a8->Sem a8}
 (hf:∀v u s2 x y H2,AJ X AD σ H2 s2->AK x v->AK y u->R x y H2->eh (eJ X.prog X.w) X.A (f v u) Q X.xe s2) :
 eh (eJ X.prog X.w) X.A (eval a X.env) (λv s₁=>eh (eJ X.prog X.w) X.A (eval b X.env) (λu s₂=>eh (eJ X.prog X.w) X.A (f v u) Q X.xe s₂) X.xe s₁) X.xe s:=by
 refine thn (ha AD s σ H _ I h) λv s1 ⟨x,H1,I1,r1,q1⟩=>thn (hb AD s1 σ H1 _ I1 q1) λu s2 az=>?_;obtain ⟨y,H2,I2,r2,q2⟩:=az;exact hf v u s2 x y H2 I2 r1 r2 q2
theorem Zj{op:Operator}(ho:OpR X (hV op) r)(ha:PE X a ta)(hb:PE X b tb):PE X (.BinOp a op b pos) (tOp r ta tb):=by
 intro AD s σ H Q I h;exact wpAny_BinOp (Yx ha hb I h λv u s2 x y H2 I2 rx ry q=>ho AD s2 σ H2 x y v u Q I2 rx ry q)
theorem aeV{op:UnaryOp}{r:V->Hp->VK->Prop}(ho:UnR X (unaryOp op) r)(ha:PE X a ta):PE X (.UnaryOp op a pos) (tUn r ta):=by
 intro AD s σ H Q I h;exact UnaryOp_ (thn (ha AD s σ H _ I h) λv s1 ⟨x,H1,I1,r1,q1⟩=>ho AD s1 σ H1 x v Q I1 r1 q1)
theorem opI{f:a8->a8->Sem a8}{C:Int->Int->Prop}
 (rule:∀(i j:Int) (t u:Tok) (s:dc) (Q:B2) (E:B2),C i j->Q (.int (g i j) s.toks) { s with toks:=s.toks+1 }->eh (eJ X.prog X.w) X.A (f (.int i t) (.int j u)) Q E s) :
 OpR X f (rI C λi j=>.int (g i j)):=by
 rintro AD s σ H x y v u Q I rx ry ⟨i,j,rfl,rfl,hc,q⟩;obtain ⟨t,rfl⟩:=rx;obtain ⟨t',rfl⟩:=ry;exact rule i j t t' s _ _ hc ⟨.int (g i j),H,I.tok _,⟨_,rfl⟩,q⟩
theorem Qe{f:a8->a8->Sem a8}
 (rule:∀(i j:Int) (t u:Tok) (s:dc) (Q:B2) (E:B2),Q (.int (g i j) s.toks) { s with toks:=s.toks+1 }->eh (eJ X.prog X.w) X.A (f (.int i t) (.int j u)) Q E s) :
 OpR X f (rI0 λi j=>.int (g i j)):=by
 rintro AD s σ H x y v u Q I rx ry ⟨i,j,rfl,rfl,q⟩;obtain ⟨t,rfl⟩:=rx;obtain ⟨t',rfl⟩:=ry;exact rule i j t t' s _ _ ⟨.int (g i j),H,I.tok _,⟨_,rfl⟩,q⟩
theorem Vr{f:a8->a8->Sem a8}{g:Int->Int->Bool}
 (rule:∀(i j:Int) (t u:Tok) (s:dc) (Q:B2) (E:B2),Q (.bool (g i j)) s->eh (eJ X.prog X.w) X.A (f (.int i t) (.int j u)) Q E s) :
 OpR X f (rI0 λi j=>.bl (g i j)):=by
 rintro AD s σ H x y v u Q I rx ry ⟨i,j,rfl,rfl,q⟩;obtain ⟨t,rfl⟩:=rx;obtain ⟨t',rfl⟩:=ry;exact rule i j t t' s _ _ ⟨.bl (g i j),H,I,rfl,q⟩
def Em(i j:Int):Prop:=0<j/\j<1073741824
def Gb(i j:Int):Prop:=0<=j/\j<=1000000/\i.natAbs<2^64
def rK(i j:Int):Prop:=(-(2^64)<i/\i<2^64)\/(-(2^64)<j/\j<2^64)
theorem rK.ok{i j:Int}(h:rK i j):IntMulOk i j:=by
 rcases h with ⟨h1,h2⟩ | ⟨h1,h2⟩
 . exact .of_left (intBits_le_64 h1 h2)
 . exact .of_right (intBits_le_64 h1 h2)
theorem two_pow_nn(k:Nat):(0:Int)<=2^k:=by
 rw[two_pow_cast];exact Int.natCast_nonneg _
theorem abZ:OpR X (hV .Add) (rI0 λi j=>.int (i+j)):=Qe λ_ _ _ _ _ _ _ q=>add_int q
theorem aeA:OpR X (hV .Sub) (rI0 λi j=>.int (i - j)):=Qe λ_ _ _ _ _ _ _ q=>sub_int q
theorem aeb:OpR X (hV .Mult) (rI rK λi j=>.int (i*j)):=opI λ_ _ _ _ _ _ _ hc q=>mul_int q hc.ok
theorem Z8:OpR X (hV .FloorDiv) (rI Em λi j=>.int (i / j)):=opI λi j _ _ _ _ _ hc q=>by
 have h1:=hc.1;have h2:=hc.2;exact floordiv_int (by lia) (by rw[vx i (by lia)];exact q) (.inl (x9 (by lia)))
theorem abU:OpR X (hV .Mod) (rI (λ_ j=>0<j) λi j=>.int (i % j)):=opI λi j _ _ _ _ _ hc q=>by
 have h1:=hc;exact mod_int' (by lia) (by rw[Int.fmod_eq_emod_of_nonneg i (by lia)];exact q)
theorem adS:OpR X (hV .LShift) (rI Gb λi j=>.int (i*2^j.toNat)):=opI λ_ _ _ _ _ _ _ hc q=>lshift_int_small hc.1 hc.2.1 hc.2.2 q
theorem ab6:OpR X (hV .RShift) (rI (λ_ j=>0<=j) λi j=>.int (i / 2^j.toNat)):=opI λi j _ _ _ _ _ hc q=>
 rshift_int hc (by rw[vx i (two_pow_nn _)];exact q)
theorem acu:OpR X (hV .BitAnd) (rI0 λi j=>.int (ia i j)):=Qe λ_ _ _ _ _ _ _ q=>and_int q
theorem aeB:OpR X (hV .BitOr) (rI0 λi j=>.int (k8 i j)):=Qe λ_ _ _ _ _ _ _ q=>or_int q
theorem unI{f:a8->Sem a8}{g:Int->Int}
 (rule:∀(i:Int) (t:Tok) (s:dc) (Q:B2) (E:B2),Q (.int (g i) s.toks) { s with toks:=s.toks+1 }->eh (eJ X.prog X.w) X.A (f (.int i t)) Q E s) :
 UnR X f (rU λi=>.int (g i)):=by
 rintro AD s σ H x v Q I rx ⟨i,rfl,q⟩;obtain ⟨t,rfl⟩:=rx;exact rule i t s _ _ ⟨.int (g i),H,I.tok _,⟨_,rfl⟩,q⟩
theorem ad6:UnR X (unaryOp .USub) (rU λi=>.int (-i)):=unI λ_ _ _ _ _ q=>neg_int q
theorem adF:UnR X (unaryOp .Invert) (rU λi=>.int (ib i)):=unI λ_ _ _ _ _ q=>invert_int q
theorem UT:OpR X (hV .Add) (λx y H Q=>∃i k,x= .int i/\y= .bl k/\Q (.int (i+b2i k)) H):=by
 rintro AD s σ H x y v u Q I rx ry ⟨i,k,rfl,rfl,q⟩;obtain ⟨t,rfl⟩:=rx;cases ry;exact add_int_bool ⟨.int (i+b2i k),H,I.tok _,⟨_,rfl⟩,q⟩
end
variable {op:CmpOp}
section
variable  {a b:Expr}{ta tb tc:TE}
theorem Tc{Q:VK}{k k':Bool}(I:AJ X AD σ H s)(q:Q (.bl k) H)(e:k=k'):EP X AD σ Q (.bool k') s:=by
 subst e;exact ⟨.bl k,H,I,rfl,q⟩
theorem afs:OpR X (fw .Lt) (rI0 λi j=>.bl (decide (i<j))):=Vr λ_ _ _ _ _ _ _ q=>lt_int q
theorem afg:OpR X (fw .LtE) (rI0 λi j=>.bl (decide (i<=j))):=Vr λ_ _ _ _ _ _ _ q=>le_int q
theorem aeD:OpR X (fw .Gt) (rI0 λi j=>.bl (decide (j<i))):=Vr λ_ _ _ _ _ _ _ q=>gt_int q
theorem aek:OpR X (fw .Is) (λx y H Q=>y= .non/\Q (.bl (decide (x= .non))) H):=by
 rintro AD s σ H x y v u Q I rx ry ⟨rfl,q⟩;cases ry;refine is_none_gen (Tc I q ?_);cases x <;> first
  | (cases rx;rfl)
  | (obtain ⟨t,rfl⟩:=rx;rfl)
theorem aay:OpR X (fw .IsNot) (λx y H Q=>y= .non/\Q (.bl (!decide (x= .non))) H):=by
 rintro AD s σ H x y v u Q I rx ry ⟨rfl,q⟩;cases ry;refine isnot_none_gen (Tc I q ?_);cases x <;> first
  | (cases rx;rfl)
  | (obtain ⟨t,rfl⟩:=rx;rfl)
theorem yj(b:Expr)(h:op ≠ .In:=by decide)(h2:op ≠ .NotIn:=by decide):oo op b=false:=by
 have e1:(op == CmpOp.In)=false:=by cases op <;> first | rfl | exact absurd rfl h
 have e2:(op == CmpOp.NotIn)=false:=by cases op <;> first | rfl | exact absurd rfl h2
 cases b <;> simp[oo,e1,e2]
theorem Z1(ho:OpR X (fw op) r)(ha:PE X a ta)(hb:PE X b tb)(hm:oo op b=false):PE X (.Compare a [op] [b] pos) (tOp r ta tb):=by
 intro AD s σ H Q I h;exact wpAny_Compare1 (Yx ha hb I h λv u s2 x y H2 I2 rx ry q=>ho AD s2 σ H2 x y v u Q I2 rx ry q) hm
def YS(t:TE):TT:=λσ H Q=>t σ H λx H'=>∃k,x= .bl k/\Q k H'
theorem NZ(ho:OpR X (fw op) r)(ha:PE X a ta)(hb:PE X b tb)(hm:oo op b=false):PT X (.Compare a [op] [b] pos) (YS (tOp r ta tb)):=by
 intro AD s σ H Q I h;refine wpAny_isTrue_Compare1 (thn (ha AD s σ H _ I h) λv s1 ⟨x,H1,I1,r1,q1⟩=>thn (hb AD s1 σ H1 _ I1 q1) λu s2 ⟨y,H2,I2,r2,q2⟩=>
  thn (ho AD s2 σ H2 x y v u _ I2 r1 r2 q2) λc s3 ⟨z,H3,I3,r3,k,e,q3⟩=>?_) hm
 subst e;cases r3;exact jv ⟨H3,I3,q3⟩
def Ux(r r':R2)(ta tb tc:TE):TE:=λσ H Q=>ta σ H λx H1=>tb σ H1 λy H2=>r x y H2 λz H3=>∃k,z= .bl k /\
 (if k=true then tc σ H3 λw' H4=>r' y w' H4 Q else Q (.bl false) H3)
theorem WR{op':CmpOp}{r':R2}(ho:OpR X (fw op) r)(ho':OpR X (fw op') r')(ha:PE X a ta)(hb:PE X b tb)(hc:PE X c tc)
 (hm:lastMarks [op,op'] [b,c]=false:=by with_unfolding_all rfl):PE X (.Compare a [op,op'] [b,c] pos) (Ux r r' ta tb tc):=by
 intro AD s σ H Q I h;refine Compare_chain (thn (ha AD s σ H _ I h) λv s1 ⟨x,H1,I1,r1,q1⟩=>chain_link (thn (hb AD s1 σ H1 _ I1 q1) λu s2 ⟨y,H2,I2,r2,q2⟩=>
  thn (ho AD s2 σ H2 x y v u _ I2 r1 r2 q2) λd s3 ⟨z,H3,I3,r3,k,e,q3⟩=>?_)) hm
 subst e;cases r3;refine jv ?_
 cases k with
 | false=>exact ite_ff ⟨.bl false,H3,I3,rfl,q3⟩
 | true=>exact ite_tt (chain_last (thn (hc AD s3 σ H3 _ I3 q3) λw' s4 ⟨z',H4,I4,r4,q4⟩=>ho' AD s4 σ H4 y z' u w' Q I4 r2 r4 q4))
def adw(K:aw)(x:V)(H:Hp)(k:Bool):Prop:=
 match x with
 | .non=>k=false
 | .bl b=>k=b
 | .int i=>k=(i != 0)
 | .str y=>y.length<=bE/\k=((y.length:Int) != 0)
 | .byt y=>y.size<=bE/\k=((y.size:Int) != 0)
 | .ref p=>(∃xs,SqL K H p xs/\k= !xs.isEmpty)\/(∃xs,SqT K H p xs/\k= !xs.isEmpty)\/∃AE,H p=some (.dK AE)/\k= !AE.isEmpty
 | _=>False
theorem Qj{κ:Type}{AE:List (κ×V)}{vs:List (κ×a8)}(r:KV AE vs):(!vs.isEmpty)= !AE.isEmpty:=by
 cases r <;> rfl
theorem DQ(r:AL xs us):(!us.toArray.isEmpty)= !xs.isEmpty:=by
 cases r <;> simp
theorem vq:(bE:Nat)<2^63:=by rw[sizeLine_eq];decide
theorem ado:agh X (λx H Q=>∃k,adw X.K x H k/\Q k H):=by
 rintro AD s σ H x v Q I rx ⟨k,e,q⟩;have hl:=vq;have hs:=sizeLine_eq
 cases x with
 | non=>
  cases rx;have e':=e;subst e';exact truthy_none ⟨H,I,q⟩
 | bl b=>
  cases rx;have e':=e;subst e';exact jv ⟨H,I,q⟩
 | int i=>
  obtain ⟨t,rfl⟩:=rx;have e':=e;subst e';exact PySem.P.truthy_int ⟨H,I,q⟩
 | str y=>
  obtain ⟨t,rfl⟩:=rx;obtain ⟨hy,e'⟩:y.length<=bE/\k=((y.length:Int) != 0):=e;subst e';exact PySem.P.truthy_str (by lia) ⟨H,I.tok _,q⟩
 | byt y=>
  obtain ⟨t,rfl⟩:=rx;obtain ⟨hy,e'⟩:y.size<=bE/\k=((y.size:Int) != 0):=e;subst e';exact PySem.W.truthy_bytes (by lia) ⟨H,I.tok _,q⟩
 | ref p=>
  cases rx;have e':=e;rcases e' with ⟨xs,hx,e'⟩ | ⟨xs,hx,e'⟩ | ⟨AE,hx,e'⟩
  . subst e';obtain ⟨AG,r,pl,hz⟩:=I.list hx;have hlen:=r.length;exact wpAny_truthy_list pl.isList (by simp only[dQ];lia) ⟨H,I.tok _,by rw[DQ r];exact q⟩
  . subst e';obtain ⟨AG,r,pl,hz⟩:=I.tuple hx;have hlen:=r.length;exact truthy_tuple pl (by simp only[dQ];lia) ⟨H,I.tok _,by rw[DQ r];exact q⟩
  . subst e';obtain ⟨hz,hS,vs,r,m⟩:AE.length<=bE/\(p == fT)=false/\∃vs,KV AE vs/\s.heap.DictOf (b7 X.prog X.w) p vs:=I.AR p _ hx;have hlen:=ka.length r;exact wpAny_truthy_dict hS m (by lia) ⟨H,I.tok _,by rw[Qj r];exact q⟩
 | _=>exact (e).elim
theorem VF(ha:PE X a ta)(he:∀whole,Ap a X.env whole=(do let v <- whole;standAt a.pos;holding [v] (truthy v))) :
 PT X a (λσ H Q=>ta σ H λx H'=>∃k,adw X.K x H' k/\Q k H'):=by
 intro AD s σ H Q I h;exact isTrue_plain (thn (ha AD s σ H _ I h) λv s1 ⟨x,H1,I1,r1,q1⟩=>ado AD s1 σ H1 x v Q I1 r1 q1) (he _)
theorem Rh:OpR X (hV .Add) (λx y H Q=>∃i j,x= .str i/\y= .str j/\i.length+j.length<=bE/\Q (.str (i++j)) H):=by
 rintro AD s σ H x y v u Q I rx ry ⟨i,j,rfl,rfl,hz,q⟩;obtain ⟨t,rfl⟩:=rx;obtain ⟨t',rfl⟩:=ry;exact add_str (λt' tk=>⟨.str (i++j),H,I.tok _,⟨_,rfl⟩,q⟩) hz
theorem vals1(r:AL [v] us):∃u,us=[u]/\AK v u:=by
 cases r with
 | cons r1 r2=>cases r2;exact ⟨_,rfl,r1⟩
theorem vals2{y:V}(r:AL [v,y] us):∃u w',us=[u,w']/\AK v u/\AK y w':=by
 cases r with
 | cons r1 r2=>
  cases r2 with
  | cons r3 r4=>cases r4;exact ⟨_,_,rfl,r1,r3⟩
theorem Sv(hc:X.calm=true):fM X (.builtin "min") (λxs H Q=>∃i j,xs=[.int i,.int j]/\Q (.int (if j<i then j else i)) H):=by
 rintro AD s σ H xs us Q I r ⟨i,j,rfl,q⟩;obtain ⟨u,w',rfl,⟨t,rfl⟩,⟨t',rfl⟩⟩:=vals2 r;refine min_two_ints (I.ok.hd hc) λh' tk k=>⟨_,H,I.kept k,?_,q⟩
 by_cases hj:j<i
 . rw[if_pos hj,if_pos hj];exact ⟨_,rfl⟩
 . rw[if_neg hj,if_neg hj];exact ⟨_,rfl⟩
end
theorem mG.some_of{o:B7}(r:mG (some v) o):∃u,o=some u/\AK v u:=by
 cases o with
 | none=>exact (r).elim
 | some u=>exact ⟨u,rfl,r⟩
structure dz (k:Nat) (A:iS):Prop where
 hd:A.handled=none
 dp:A.depth+3*k+5<recursionLimit
 un:A.units+16*k+200<ke
theorem dz.mono(r:dz i A)(h:t'<=i):dz t' A:=⟨r.hd,by have:=r.dp;lia,by have:=r.un;lia⟩
theorem dz.deeper(r:dz (t'+1) A)(env:Env):dz t' (A.deeper env):=
 ⟨r.hd,by have:=r.dp;show A.depth+1+3*t'+5<_;lia,by have:=r.un;show A.units+3+16*t'+200<_;lia⟩
theorem dz.depth(r:dz t' A):A.depth<recursionLimit:=by have:=r.dp;lia
theorem dz.units(r:dz t' A):A.units+64<ke:=by have:=r.un;lia
def afW:TA:=λ_ H Q=>Q [] H
def aeL(ta:TE)(tr:TA):TA:=λσ H Q=>ta σ H λx H1=>tr σ H1 λxs H2=>Q (x::xs) H2
section
variable    {te:TE}{t:TA}
theorem eQ:PA X [] afW:=λ_ _ _ _ H Q I h=>Calls.spliced_nil ⟨[],H,I,.nil,h⟩
theorem bY(ha:PE X e te)(hr:PA X es t)(hs:d6 (e::es) X.env=(false,eval e X.env)::d6 es X.env:=by rfl):PA X (e::es) (aeL te t):=by
 intro pos AD s σ H Q I h;rw[hs];exact Calls.spliced_cons (thn (ha AD s σ H _ I h) λu s1 ⟨x,H1,I1,r1,q1⟩=>thn (hr pos AD s1 σ H1 _ I1 q1) λus s2 ⟨xs,H2,I2,r2,q2⟩=>⟨x::xs,H2,I2,.cons r1 r2,q2⟩)
def af2(t:TA):TE:=λσ H Q=>t σ H λxs H1=>xs.length<=bE/\∀p,H1 p=none->Q (.ref p) (AM H1 p (.tup xs))
def afz(t:TA):TE:=λσ H Q=>t σ H λxs H1=>xs.length<=bE/\∀p,H1 p=none->Q (.ref p) (AM H1 p (.lst xs))
theorem aci{x1}(h:PA X es t):PE X (.Tuple es x1 pos) (af2 t):=by
 intro AD s σ H Q I hq;refine wpAny_Tuple_spliced (thn (h pos AD s σ H _ I hq) λus s1 ⟨xs,H1,I1,r,z,q⟩=>⟨by rw[<- r.length];exact z,?_⟩);have hf:=I1.AR.fresh (aE _);refine ⟨.ref s1.heap.objs.size,AM H1 s1.heap.objs.size (.tup xs),I1.laid (λb u e=>aI _ e) (aE _) ?_,rfl,q _ hf⟩;exact ⟨z,us,r,⟨_,c6 _ rfl,rfl,_,rfl⟩⟩
theorem aee(h:PA X es t):PE X (.List es pos) (afz t):=by
 intro AD s σ H Q I hq;refine wpAny_List_spliced (thn (h pos AD s σ H _ I hq) λus s1 ⟨xs,H1,I1,r,z,q⟩=>⟨by rw[<- r.length];exact z,?_⟩);have hf:=I1.AR.fresh (aE _);refine ⟨.ref s1.heap.objs.size,AM H1 s1.heap.objs.size (.lst xs),I1.laid (λb u e=>aI _ e) (aE _) ?_,rfl,q _ hf⟩;exact ⟨z,us,0,r,c6 _ rfl⟩
end
abbrev Sp:=C0->Hp->VK->XK->Prop
abbrev CXT:=C6->Hp->dc->XK->a8->dc->Prop
structure Qi (P:gc) (w:kT) (K:aw) (mg:Str->B7) (base:Heap) (A:iS) (AX:C6) (s:dc) (H:Hp):Prop where
 frames:A.frames=some AX
 mod:Mod K mg base
 bs:∀b o,base.get? b=some o->s.heap.get? b=some o/\H b=none
 bsz:base.objs.size<=s.heap.objs.size
 tV:s.heap.FunFrames base AX
 frf:∀b∈frs AX,H b=none
 AR:HOk P w H s.heap
 bare:wb s.gens
 tabs:∀P,TabAt K mg P->H P=some (.tbl jk)
def CE(AX:C6)(P:gc)(w:kT)(H:Hp)(s:dc)(Q:VK)(u:a8)(s':dc):Prop:=
 ∃v H',s'.os=s.os/\wb s'.gens/\Un (frs AX) [] H H' s.heap s'.heap/\HOk P w H' s'.heap/\AK v u/\Q v H'
def CR(CX:CXT)(AX:C6)(P:gc)(w:kT)(H:Hp)(s:dc)(Q:VK)(E:XK)(r:Result)(s':dc):Prop:=
 match r with
 | .ok (.ret u)=>CE AX P w H s Q u s'
 | .ok _=>False
 | .error e=>CX AX H s E e s'
structure rR (P:gc) (w:kT) (K:aw) (mg:Str->B7) (base:Heap) (CX:CXT) (k:Nat) (f:Addr) (fd:nN) (ps:B6) (sp:Sp):Prop where
 len:∀vs H Q E,sp vs H Q E->vs.length=ps.length
 run:∀(A:iS) (AX:C6) (s:dc) (H:Hp) (args:Args) (us:B8) (vs:C0) (Q:VK) (E:XK),dz k A->Qi P w K mg base A AX s H->BindsTo s fd args (ps.zip us)->AL vs us->sp vs H Q E ->
  ya (eJ P w) A (.call (.ref f) args) (CR CX AX P w H s Q E) s
theorem AJ.env0(I:AJ X AD σ H s):Qi X.prog X.w X.K X.mg X.base X.A X.stack s H:=
 ⟨I.ok.frames,I.ok.mod,I.bs,dy I.ok.bsz I.sz,I.stack,I.N8,I.AR,I.bare,λP h=>I.base.nF _ _ (I.ok.tabs P h)⟩
theorem AJ.after{Q:VK}(I:AJ X AD σ H s)(h:CE X.stack X.prog X.w H s Q u s'):EP X AD σ Q u s':=by
 obtain ⟨v,H',os,bare,un,AR,r,q⟩:=h;obtain ⟨hh,g,d,t,os'⟩:=s';obtain rfl:os'=s.os:=os;exact ⟨v,H',I.call un AR bare (λb z=>absurd z (by simp)),r,q⟩
def Zf(sp:Sp)(dvs:C0)(E:XK)(t:TA):TE:=λσ H Q=>t σ H λvs H1=>sp (vs++dvs) H1 Q E
def Binds(K:aw)(fd:nN)(ps:B6)(ds:B8):Prop:=
 ∀(s:dc) (us:B8),K.In s.heap->(us++ds).length=ps.length->BindsTo s fd ⟨us,[]⟩ (ps.zip (us++ds))
variable {ps:B6}
theorem Binds.all{fd:nN}(h:∀us:B8,us.length=ps.length->kF fd ⟨us,[]⟩=pure (ps.zip us)):Binds K fd ps []:=λs us _ hl=>by
 rw[dr] at hl ⊢;exact .of_eq (h us hl)
def Passes(CX:CXT)(X:Cx)(E:XK):Prop:=∀(AD:A7) (σ:St) (H:Hp) (s:dc) (e:a8) (s':dc),AJ X AD σ H s->CX X.stack H s E e s'->X.xe e s'
section
variable  {CX:CXT}{k:Nat}{f C:Addr}{fd:nN}  {sp:Sp}{dvs:C0}{ds:B8}{E:XK}{m:Str}{p apos:Pos}{o:Expr}  {ta:TE}{t:TA}
theorem acf{Q:VK}(F:rR X.prog X.w X.K X.mg X.base CX k f fd ps sp)(hr:dz k X.A)(hb:Binds X.K fd ps ds)(hd:AL dvs ds)(hx:Passes CX X E)
 (I:AJ X AD σ H s) (r:AL xs us) (h:sp (xs++dvs) H Q E):eh (eJ X.prog X.w) X.A (call (.ref f) us) (EP X AD σ Q) X.xe s:=by
 have r2:=r.append hd;have hl:(us++ds).length=ps.length:=by rw[<- r2.length];exact F.len _ _ _ _ h
 refine wpAny_call (codeAny_mono (F.run X.A X.stack s H ⟨us,[]⟩ (us++ds) (xs++dvs) Q E hr I.env0 (hb s us I.kIn hl) r2 h) λr s' hq=>?_)
 cases r with
 | error e=>exact hx AD σ H s e s' I hq
 | ok fl=>
  cases fl with
  | ret u=>exact I.after hq
  | next=>exact lI hq
  | brk=>exact lI hq
  | cont=>exact lI hq
theorem ZL(F:rR X.prog X.w X.K X.mg X.base CX k f fd ps sp)(hr:dz k X.A)(hg:Gl X x)(hm:X.mg x=some (.ref f))(hk:lh X.K (.ref f)=true)(hb:Binds X.K fd ps ds)(hd:AL dvs ds)(hx:Passes CX X E)
 (ha:PA X (e::es) t) (hdb:nD x:=by decide) (he:d6 (e::es) X.env=(false,eval e X.env)::d6 es X.env:=by rfl) (hpl:(nS pos (d6 es X.env)).any (·.1)=false:=by rfl) :
 PE X (.Call (.Name x p) (e::es) [] pos) (Zf sp dvs E t):=by
 intro AD s σ H Q I h;refine qo (Ov I hg hm ?_ hdb);refine PySem.W.callWith_K I.ok.mod.kin hk (thn (ha pos AD s σ H _ I h) λus s1 ⟨vs,H1,I1,r,q⟩=>⟨I1.kIn,?_⟩) he hpl;exact acf F hr hb hd hx I1 r q
end
structure cP (N P:B6) (sc:vv):Prop where
 kind:sc.kind= .function
 co:sc.isCoroutine=false
 gen:sc.isGenerator=false
 nd:N.Nodup
 pre:N.take P.length=P
 par:∀x∈P,sc.names.lookup x=some .local\/sc.names.lookup x=some .cell
 adV:∀y∈sc.names,y.2 ≠ .free
theorem Hg{kindOf:Str->Option kG}:∀{binds:List (Str×a8)}{m:Str->B7},(∀v,(x,v)∉binds)->bindL kindOf binds m x=m x
 | [],_,_=>rfl
 | (n,v)::r,m,h=>by
  rw[bindL,Hg λw hw=>h w (cf _ hw)];split
  . have:x≠n:=by rintro rfl;exact h v b9
    simp[this]
  . rfl
theorem Gm{kindOf:Str->Option kG}:∀{binds:List (Str×a8)}{m:Str->B7},(∀v,(x,v)∉binds)->bindC kindOf binds m x=m x
 | [],_,_=>rfl
 | (n,v)::r,m,h=>by
  rw[bindC,Gm λw hw=>h w (cf _ hw)];split
  . rfl
  . have:x≠n:=by rintro rfl;exact h v b9
    simp[this]
theorem Hh{kindOf:Str->Option kG}:∀{P:B6}{vs:B8}{i:Nat}{m:Str->B7},P.Nodup->P[i]?=some x->vs[i]?=some u->kindOf x=some .local ->
 bindL kindOf (P.zip vs) m x=some u
 | [],_,_,_,_,h,_,_=>by simp at h
 | _::_,[],_,_,_,_,h,_=>by simp at h
 | p::P,w::vs,0,m,nd,h1,h2,hk=>by
  simp at h1 h2;subst h1;subst h2;show bindL kindOf ((p,w)::P.zip vs) m p=_;rw[bindL,Hg λu hv=>(ng.mp nd).1 (y8 hv).1,if_pos hk];simp
 | p::P,w::vs,i+1,m,nd,h1,h2,hk=>by
  unfold bindL;exact Hh (ng.mp nd).2 (by simpa using h1) (by simpa using h2) hk
theorem Gu{kindOf:Str->Option kG}:∀{P:B6}{vs:B8}{i:Nat}{m:Str->B7},P.Nodup->P[i]?=some x->vs[i]?=some u->kindOf x≠some .local ->
 bindC kindOf (P.zip vs) m x=some u
 | [],_,_,_,_,h,_,_=>by simp at h
 | _::_,[],_,_,_,_,h,_=>by simp at h
 | p::P,w::vs,0,m,nd,h1,h2,hk=>by
  simp at h1 h2;subst h1;subst h2;show bindC kindOf ((p,w)::P.zip vs) m p=_;rw[bindC,Gm λu hv=>(ng.mp nd).1 (y8 hv).1,if_neg hk];simp
 | p::P,w::vs,i+1,m,nd,h1,h2,hk=>by
  unfold bindC;exact Gu (ng.mp nd).2 (by simpa using h1) (by simpa using h2) hk
noncomputable def start(N:B6)(vs:C0):St:=vs.map some++ax (N.length - vs.length) none
noncomputable def mF(CX:CXT)(P:gc)(w:kT)(K:aw)(mg:Str->B7)(base:Heap)(N:B6)(qual:Str)(scope:vv)(f:Addr)(cd:a8)(A:iS)(AX:C6)(s:dc)(H:Hp)(E:XK):Cx where
 prog:=P
 w:=w
 K:=K
 mg:=mg
 base:=base
 A:=A.deeper (oz qual scope s.heap.objs.size f cd)
 N:=N
 s₀:=s
 H₀:=H
 env:=oz qual scope s.heap.objs.size f cd
 AX:=AX
 stack:=oz qual scope s.heap.objs.size f cd::AX
 ex:=[]
 calm:=true
 fn:=λ_=>true
 pn:=[]
 xe:=λe s'=>eh (eJ P w) (A.deeper (oz qual scope s.heap.objs.size f cd)) (leaving (oz qual scope s.heap.objs.size f cd) e) (λ_ s''=>CX AX H s E e s'') (λe' s''=>CX AX H s E e' s'') s'
theorem Ld{sc:vv}(h:sc.names.lookup x=some .cell):∃c,(kU t' sc.names []).lookup x=some c:=by
 have q:=oi sc.names t' [] (.inl h);exact iq.mp q
variable {mg:Str->B7}
theorem Vp{CX:CXT}{base:Heap}{qual:Str}{scope:vv}{f:Addr}{cd:a8}{AX:C6}{s1:dc}{E:XK}
 (S:cP N ps scope) (hd:A.handled=none) (e0:Qi P w K mg base A AX s H) (hl:xs.length=ps.length) (r:AL xs us)
 (x:InCallC s s.heap.objs.size (bindL (oz qual scope s.heap.objs.size f cd).kindOf (ps.zip us) λ_=>none) (kU (s.heap.objs.size+1) scope.names []) (bindC (oz qual scope s.heap.objs.size f cd).kindOf (ps.zip us) λ_=>none) s1) :
 AJ (mF CX P w K mg base N qual scope f cd A AX s H E) [] (start N xs) H s1:=by
 have hpl:=by have:=congrArg List.length S.pre;rw[c8] at this;lia
 obtain ⟨h1,tk,rfl,hk⟩:=x.done;have noA:∀b:Addr,b∉(mF CX P w K mg base N qual scope f cd A AX s H E).ex:=λb z=>absurd (show b∈([]:C2) from z) (by simp);refine ⟨⟨e0.mod,S.kind,rfl,rfl,aE _,λy z c h1 h2=>?_,λy hy=>?_,λy c _ h=>?_,λ_=>hd,Around.frames_deeper e0.frames,.inr ⟨rfl,rfl⟩,λb z=>absurd z (noA b),e0.bs,e0.bsz,λb _ _=>noA b,λb z=>absurd z (noA b),e0.tV,e0.frf,e0.tabs⟩,
  rfl,e0.bare,Un.kept hk,⟨_,x.toInCall.ns,λi y v h1 h2 h3=>?_⟩,λy c h=>⟨_,x.cell y c h⟩,e0.AR.fresh (aE _),λy c h=>?_,λp hp=>absurd (show p∈([]:A7) from hp) (by simp),e0.AR.kept hk,?_⟩
 . exact name_of_addr x.apart (gp h1) (gp h2)
 . have hy:=hy;rcases hy with hy | hy
   . exact Ld hy
   . exact absurd rfl (S.adV _ (gp hy))
 . exact l9 (x.above y c (gp h))
 . have hi:i<xs.length:=by
    unfold start at h2
    by_cases hi:i<xs.length
    . exact hi
    . rw[bX (by simpa using hi)] at h2;rw[iO] at h2;split at h2 <;> cases h2
   have ha:xs[i]?=some v:=by
    unfold start at h2;rw[cq (by simpa using hi),br] at h2
    cases e:xs[i]? with
    | none=>rw[e] at h2;cases h2
    | some a=>rw[e] at h2;cases h2;rfl
   obtain ⟨u,hu,rv⟩:=r.get ha;have hp:ps[i]?=some y:=by
    rw[<- S.pre,k9 (by lia)];exact h1
   have ndP:ps.Nodup:=by rw[<- S.pre];exact S.nd.sublist (List.take_sublist _ _)
   refine ⟨u,rv,?_⟩;rcases S.par y (eL hp) with k | k
   . exact .inl ⟨k,Hh ndP hp hu k⟩
   . obtain ⟨c,e⟩:=Ld k;refine .inr ⟨.inl k,c,e,?_⟩;have q:=x.cell y c e;rw[Gu ndP hp hu (by show scope.names.lookup y≠_;rw[k];decide)] at q;exact q
 . exact e0.AR.fresh (l9 (x.above y c (gp h)))
 . unfold start;show _=N.length;rw[av,af,ck];lia
theorem YX{CX:CXT}{name qual:Str}{params:Arguments}{scope:vv}{dV kV doc pm AH ct oc:a8}{an od:C4}
 {osl:Array B7}{sp:Sp} (lk:K.lookup a=some ⟨oc,od,.func (fe name qual params body scope dV kV doc pm an AH ct),osl⟩) (hcd:mr K AH qual=true) (S:cP N ps scope)
 (len:∀vs H Q E,sp vs H Q E->vs.length=ps.length)
 (hbody:∀(A:iS) (AX:C6) (s:dc) (H:Hp) (vs:C0) (Q:VK) (E:XK),dz t' (A.deeper (oz qual scope s.heap.objs.size a AH))->sp vs H Q E ->
  ∃t,PSs (mF CX P w K mg h N qual scope a AH A AX s H E) body t/\t { nx:=λ_ H'=>Q .non H',rt:=Q } (start N vs) H) :
 rR P w K mg h CX (t'+1) a (fe name qual params body scope dV kV doc pm an AH ct) ps sp:=by
 refine ⟨len,λA AX s H args us vs Q E hr e0 hb r hsp=>?_⟩;have hl:=len _ _ _ _ hsp;have KX:=e0.mod.kin.keeps λb o e=>(e0.bs b o e).1;have lim:=e0.mod.nolimit.keeps λb o e=>(e0.bs b o e).1;have hkind:∀y∈ps.zip us,scope.names.lookup y.1=some .local\/(scope.names.lookup y.1=some .cell/\((kU (s.heap.objs.size+1) scope.names []).lookup y.1).isSome=true):=λ⟨n,v⟩ hy=>by
  rcases S.par n (y8 hy).1 with q | q
  . exact .inl q
  . exact .inr ⟨q,oi _ _ _ (.inl q)⟩
 refine codeAny_call_function hr.depth (KX _ _ lk) rfl S.co S.gen rfl (PySem.W.codeRec_of KX hcd) (hb _ _ _ _ (wpAny_newFunctionEnv_cells S.kind hkind λenv he s1 x=>?_));subst he;refine ⟨lim.keeps x.toInCall.keep,codeAny_func ?_⟩;obtain ⟨t,ht,hq⟩:=hbody A AX s H vs Q E (hr.deeper _) hsp;have I:AJ (mF CX P w K mg h N qual scope a AH A AX s H E) [] (start N vs) H s1:=Vp S hr.hd e0 hl r x;refine hZ (ht [] s1 (start N vs) H _ I hq) (λfl s' hs=>?_) λe s' hs=>hs;have fin:∀{σ':St}{H':Hp}{v:V}{u:a8},AJ (mF CX P w K mg h N qual scope a AH A AX s H E) [] σ' H' s'->AK v u->Q v H'->CE AX P w H s Q u s':=
  λ{σ' H' v u} J rv q=>⟨v,H',J.os,J.bare,J.base,J.AR,rv,q⟩
 cases fl with
 | ret u=>
  obtain ⟨v,σ',H',J,rv,q⟩:=hs;exact fin J rv q
 | next=>
  obtain ⟨σ',H',J,q⟩:=hs;exact fin (v:=V.non) J rfl q
 | brk=>
  obtain ⟨_,_,_,q⟩:=hs;exact lI q
 | cont=>
  obtain ⟨_,_,_,q⟩:=hs;exact lI q
section
variable   {p:Pos}   {t:TA}{id T:String}{r:C0->Hp->VK->Prop}
def tCB(r:C0->Hp->VK->Prop)(t:TA):TE:=λσ H Q=>t σ H λvs H1=>r vs H1 Q
theorem Lw(hc:fM X (.builtin id) r)(hg:Gl X x)(hm:X.mg x=none)(hv:fm x=some (.builtin id))(ha:PA X (e::es) t)(hn:x ≠ "__name__" := by decide)(hdb:nD x:=by decide)
 (he:d6 (e::es) X.env=(false,eval e X.env)::d6 es X.env:=by rfl) (hpl:(nS pos (d6 es X.env)).any (·.1)=false:=by rfl):PE X (.Call (.Name x p) (e::es) [] pos) (tCB r t):=by
 intro AD s σ H Q I h;refine qo (nH I hg hm hv ?_ hn hdb);exact PyProof.Rows.callWith_builtin1 (thn (ha pos AD s σ H _ I h) λus s1 ⟨vs,H1,I1,r1,q1⟩=>hc AD s1 σ H1 vs us Q I1 r1 q1) he hpl
theorem t8(hc:fM X (.type T) r)(hg:Gl X x)(hm:X.mg x=none)(hv:fm x=some (.type T))(ha:PA X (e::es) t)(hn:x ≠ "__name__" := by decide)(hdb:nD x:=by decide)
 (he:d6 (e::es) X.env=(false,eval e X.env)::d6 es X.env:=by rfl) (hpl:(nS pos (d6 es X.env)).any (·.1)=false:=by rfl):PE X (.Call (.Name x p) (e::es) [] pos) (tCB r t):=by
 intro AD s σ H Q I h;refine qo (nH I hg hm hv ?_ hn hdb);exact iE (thn (ha pos AD s σ H _ I h) λus s1 ⟨vs,H1,I1,r1,q1⟩=>hc AD s1 σ H1 vs us Q I1 r1 q1) he hpl
end
end Zq
namespace HT
open PySem PyProof.Rows
section
variable {prog:gc}{w:kT}{A:iS}{E:a8->dc->Prop}{s:dc}
theorem aaP{t b:Addr}{vs ws:List a8}{Q:a8->dc->Prop}(ht:y6 s.heap t vs.toArray)(hb:y6 s.heap b ws.toArray)(hv:vs≠[])
 (h1:ws=[]->Q (.ref t) s) (h2:ws≠[]->Q (.ref s.heap.objs.size) { s with heap:=s.heap.push { cls:=.type "tuple",data:=.seq (vs++ws).toArray } })
 (hsz:vs.length+ws.length<=bE):eh (eJ prog w) A (hV .Add (.ref t) (.ref b)) Q E s:=by
 obtain ⟨⟨cls,dd,data,sl⟩,ho,hc,n,hd⟩:=id ht;obtain ⟨⟨cls2,dd2,data2,sl2⟩,ho2,hc2,n2,hd2⟩:=id hb;simp only at hc hd hc2 hd2;subst hc hd hc2 hd2;have e:vs.toArray++ws.toArray=(vs++ws).toArray:=by simp
 by_cases hw:ws=[]
 . exact yb ⟨_,ho,rfl⟩ ⟨_,ho2,rfl⟩ xy seq_tuple_add rh qE (pw _ _)
    (tuple_addW1 t b vs.toArray ws.toArray n n2 dd dd2 sl sl2 (by simpa using hv) (by simp[hw])) ⟨ho,ho2,h1 hw⟩
 . refine yb ⟨_,ho,rfl⟩ ⟨_,ho2,rfl⟩ xy seq_tuple_add rh qE (pw _ _)
    (tuple_addW2 t b vs.toArray ws.toArray n n2 dd dd2 sl sl2 (by simpa using hv) (by simpa using hw) (by rw[dQ,dQ];exact hsz)) ⟨ho,ho2,?_⟩
   rw[e];exact h2 hw
noncomputable def sIx(n d:Nat):Option Int->Nat
 | none=>d
 | some v=>if v<0 then (v+(n:Int)).toNat else min v.toNat n
theorem Yn(n d:Nat):sIx n d none=d:=rfl
theorem aaQ(n d k:Nat):sIx n d (some (k:Int))=min k n:=by
 show (if (k:Int)<0 then ((k:Int)+(n:Int)).toNat else min (k:Int).toNat n)=min k n;rw[if_neg (by lia),cE]
theorem ad2(n d:Nat)(hd:d<=n)(o:Option Int):sIx n d o<=n:=by
 cases o with
 | none=>exact hd
 | some v=>
  show (if v<0 then (v+(n:Int)).toNat else min v.toNat n)<=n
  by_cases hv:v<0
  . rw[if_pos hv];lia
  . rw[if_neg hv];exact xA _ _
theorem N5(v:Int)(n d:Nat):(if v<0 then max (v+(n:Int)) 0 else min v (n:Int))=((sIx n d (some v):Nat):Int):=by
 show (if v<0 then max (v+(n:Int)) 0 else min v (n:Int))=(((if v<0 then (v+(n:Int)).toNat else min v.toNat n):Nat):Int)
 by_cases hv:v<0
 . simp only[if_pos hv];lia
 . simp only[if_neg hv];lia
theorem Ro(lo hi:Option Int)(n:Nat):pd lo hi 1 (n:Int)=(((sIx n 0 lo:Nat):Int),((sIx n n hi:Nat):Int)):=by
 have h1:¬ ((1:Int)<0):=by lia
 unfold pd;simp only[if_false];refine Prod.ext ?_ ?_
 . cases lo with
   | none=>rfl
   | some v=>exact N5 v n 0
 . cases hi with
   | none=>rfl
   | some v=>exact N5 v n n
theorem Rc(i j:Nat):mP (i:Int) (j:Int) 1=j - i:=by
 unfold mP;have h1:1 > 0:=by lia
 split <;> lia
theorem CN{v:a8}{o:Option Int}{Q:Option Int->dc->Prop}(p:yi v o)(h:Q o s):eh (eJ prog w) A (Builtin.Slice.slicePartIndex v) Q E s:=by
 cases p with
 | none=>exact slicePart_none h
 | int i t=>exact slicePart_int h
theorem rQ{sl:Addr}{vl vu:a8}{lo hi:Option Int}{n:Nat}{Q:Int×Int×Nat->dc->Prop}(hs:s.heap.IsSliceOf sl vl vu .none)(pl:yi vl lo)(pu:yi vu hi)
 (h:Q (((sIx n 0 lo:Nat):Int),1,sIx n n hi - sIx n 0 lo) s):eh (eJ prog w) A (Builtin.Slice.sliceApplied (.ref sl) (pure (n:Int))) Q E s:=by
 obtain ⟨os,hos,hcs,hds⟩:=id hs;refine ag (ag (jS hos hds rfl (ag (jS hos hds rfl (ag (jS hos hds rfl (bt (ag (slicePart_none ?_)))))))));rw[if_neg (by decide)];refine ag (CN pl (ag (CN pu (ag (bt ?_)))));show eh _ _ (match pd lo hi 1 (n:Int) with | (lo,hi)=>pure (lo,(1:Int),mP lo hi 1)) _ _ s;rw[Ro lo hi n];show eh _ _ (pure (((sIx n 0 lo:Nat):Int),(1:Int),mP ((sIx n 0 lo:Nat):Int) ((sIx n n hi:Nat):Int) 1)) _ _ s;rw[Rc];exact bt h
theorem Wy(xs:Array a8)(i k:Nat):((List.range k).filterMap λ(m:Nat)=>xs[((i:Int)+(m:Int)*1).toNat]?).toArray=((xs.toList.drop i).take k).toArray:=by
 have e:(λ(m:Nat)=>xs[((i:Int)+(m:Int)*1).toNat]?)=λm=>xs[i+m]?:=by
  funext m;have:((i:Int)+(m:Int)*1).toNat=i+m:=by lia
  rw[this]
 rw[e];have:=pick_run xs i k;rw[List.filterMap_map] at this;have e2:((λx=>xs[x]?)∘λx=>i+x)=λm=>xs[i+m]?:=rfl;rw[e2] at this;rw[this]
theorem Ae{t sl:Addr}{items:Array a8}{vl vu:a8}{lo hi:Option Int}{Q:a8->dc->Prop}(ht:y6 s.heap t items)(hs:s.heap.IsSliceOf sl vl vu .none)(pl:yi vl lo)(pu:yi vu hi)
 (hw:¬ (sIx items.size 0 lo=0/\sIx items.size items.size hi=items.size))
 (h:Q (.ref s.heap.objs.size) { s with heap:=s.heap.push { cls:=.type "tuple",data:=.seq ((items.toList.drop (sIx items.size 0 lo)).take (sIx items.size items.size hi - sIx items.size 0 lo)).toArray } })
 (hsz:items.size<=bE):eh (eJ prog w) A (pV (.ref t) (.ref sl)) Q E s:=by
 have HW:=by
  show ((items.toList.drop (sIx items.size 0 lo)).take (sIx items.size items.size hi - sIx items.size 0 lo)).toArray.size<=bE;rw[dQ,c8,nV,l6];lia
 have hj:sIx items.size items.size hi<=items.size:=ad2 _ _ (aE _) hi;obtain ⟨os,hos,hcs,hds⟩:=id hs;have hTs:s.TypeIs (.ref sl) "slice" := ⟨os,hos,hcs⟩;unfold pV
 try with_reducible refine mi ?_
 first | refine ag (bt ?_) | skip
 refine ag (we ht.typeIs (by decide) ?_);refine ag (gy ht.typeIs fF
  (gz fF ht.typeIs entry_tuple_getitem ?_ (args_tuple_getitem _ _)))
 show eh _ _ (oB (.ref t) >>= _) _ _ s;refine ag (tupleItemsOf_ ht (ag (yk hTs ?_)));rw[if_pos (by decide)];refine ag (rQ hs pl pu ?_);have hno:¬ ((((sIx items.size 0 lo:Nat):Int) == 0&&(1:Int) == 1&&(sIx items.size items.size hi - sIx items.size 0 lo) == items.size)=true):=by
  intro q;rw[dS,dS] at q;have q1:=eq_of_beq q.1.1;have q2:=eq_of_beq q.2;exact hw ⟨by lia,by lia⟩
 show eh _ _ (if (((sIx items.size 0 lo:Nat):Int) == 0&&(1:Int) == 1&&(sIx items.size items.size hi - sIx items.size 0 lo) == items.size)=true then _ else _) _ _ s;rw[if_neg hno,Wy]
 first
  | exact ag (lp (bt ⟨_,rfl,bt h⟩) HW)
  | exact ag (lp (ag (bt (bt ⟨_,rfl,bt h⟩))) HW)
  | exact ag (ag (lp (bt (bt ⟨_,rfl,bt h⟩)) HW))
  | exact ag (ag (lp (bt ⟨_,rfl,bt h⟩) HW))
end
end HT
namespace Zq
open PySem PySem.Spec PyProof.Rows
abbrev TO:=St->Hp->(C3->Hp->Prop)->Prop
def PO(X:Cx)(e:Option Expr)(t:TO):Prop:=
 ∀(AD:A7) (s:dc) (σ:St) (H:Hp) (Q:C3->Hp->Prop),AJ X AD σ H s->t σ H Q ->
  eh (eJ X.prog X.w) X.A (evalPart e X.env) (λu s'=>∃o H',AJ X AD σ H' s'/\yi u o/\Q o H') X.xe s
def ZW:TO:=λ_ H Q=>Q none H
def aeQ(t:TE):TO:=λσ H Q=>t σ H λx H1=>∃i,x= .int i/\Q (some i) H1
variable {xs:C0}{us:B8}
section
variable {X:Cx}{e:Expr}{te:TE}{lo hi:Option Expr}{tl th:TO}{pos p2:Pos}
theorem abD:PO X none ZW:=by
 intro AD s σ H Q I h;rw[evalPart_none];exact bt ⟨none,H,I,.none,h⟩
theorem Zr(h:PE X e te):PO X (some e) (aeQ te):=by
 intro AD s σ H Q I hw;rw[evalPart_some];refine thn (h AD s σ H _ I hw) λu s1 az=>?_;obtain ⟨x,H1,I1,r1,q1⟩:=az;obtain ⟨i,rfl,q⟩:=q1;obtain ⟨t,rfl⟩:=r1;exact ⟨some i,H1,I1,.int i t,q⟩
def SlR(X:Cx)(r:V->C3->C3->Hp->VK->Prop):Prop:=
 ∀(AD:A7) (s:dc) (σ:St) (H:Hp) (x:V) (v vl vu:a8) (lo hi:C3) (sl:Addr) (Q:VK),AJ X AD σ H s->AK x v->s.heap.IsSliceOf sl vl vu .none->yi vl lo->yi vu hi->r x lo hi H Q ->
  ∃T id,typeLookup (.type T) "__getitem__"= pure (some (.builtin id))/\s.TypeIs v T/\eh (eJ X.prog X.w) X.A (pV v (.ref sl)) (EP X AD σ Q) X.xe s
def tSl(r:V->C3->C3->Hp->VK->Prop)(te:TE)(tl th:TO):TE:=λσ H Q=>te σ H λx H1=>tl σ H1 λl H2=>th σ H2 λu H3=>r x l u H3 Q
theorem YD{r:V->C3->C3->Hp->VK->Prop}(hr:SlR X r)(he:PE X e te)(hl:PO X lo tl)(hu:PO X hi th):PE X (.Subscript e (.Slice lo hi none p2) pos) (tSl r te tl th):=by
 intro AD s σ H Q I h;refine Subscript_ (thn (he AD s σ H _ I h) λv s1 ⟨x,H1,I1,r1,q1⟩=>wpAny_Slice (thn (hl AD s1 σ H1 _ I1 q1) λvl s2 ⟨l,H2,I2,pl,q2⟩=>thn (hu AD s2 σ H2 _ I2 q2) λvu s3 az=>?_));obtain ⟨u,H3,I3,pu,q3⟩:=az;rw[evalPart_none];refine bt ?_;have I4:AJ X AD σ H3 { s3 with heap:=s3.heap.push { cls:=.type "slice",data:=.fields #[vl,vu,.none] } }:=I3.kept λb ob q=>aI _ q;obtain ⟨T,id,hT,ht,hg⟩:=hr AD { s3 with heap:=s3.heap.push { cls:=.type "slice",data:=.fields #[vl,vu,.none] } } σ H3 x v vl vu l u s3.heap.objs.size Q I4 r1 (Heap.IsSliceOf.new ..) pl pu q3;exact tail_any ht hT hg (by with_unfolding_all rfl)
noncomputable def yD(xs:C0)(lo hi:C3):C0:=(xs.drop (HT.sIx xs.length 0 lo)).take (HT.sIx xs.length xs.length hi - HT.sIx xs.length 0 lo)
theorem Al(xs:C0)(lo hi:C3):(yD xs lo hi).length<=xs.length:=by
 rw[yD,c8,nV];lia
def acD(K:aw):V->C3->C3->Hp->VK->Prop:=λx lo hi H Q=>∃a xs,x= .ref a/\SqT K H a xs /\
 ¬ (HT.sIx xs.length 0 lo=0/\HT.sIx xs.length xs.length hi=xs.length)/\∀p,H p=none->Q (.ref p) (AM H p (.tup (yD xs lo hi)))
theorem adv:SlR X (acD X.K):=by
 rintro AD s σ H x v vl vu lo hi sl Q I rx hs pl pu ⟨a,xs,rfl,hx,hw,q⟩;cases rx;obtain ⟨AG,r,ht,hz⟩:=I.tuple hx;have hlen:AG.toArray.size=xs.length:=by rw[dQ];exact r.length.symm
 refine ⟨"tuple",_,fF.lookup,ht.typeIs,?_⟩;refine HT.Ae ht hs pl pu (by rw[hlen];exact hw) ?_ (by rw[hlen];exact hz);rw[hlen];refine ⟨.ref s.heap.objs.size,_,I.laid (λb ob q=>aI _ q) (aE _) ?_,rfl,q _ (I.AR.fresh (aE _))⟩;exact ⟨dy (Al xs lo hi) hz,_,(r.drop (HT.sIx xs.length 0 lo)).take (HT.sIx xs.length xs.length hi - HT.sIx xs.length 0 lo),y6.new _ _⟩
def aeX(K:aw):R2:=λx y H Q=>∃a b xs ys,x= .ref a/\y= .ref b/\SqT K H a xs/\SqT K H b ys/\xs≠[]/\xs.length+ys.length<=bE /\
 (ys=[]->Q (.ref a) H)/\(ys≠[]->∀p,H p=none->Q (.ref p) (AM H p (.tup (xs++ys))))
theorem AL.Eh(r:AL xs us):us=[]↔xs=[]:=by
 cases r with
 | nil=>simp
 | cons _ _=>simp
theorem ZG:OpR X (hV .Add) (aeX X.K):=by
 rintro AD s σ H x y v u Q I rx ry ⟨a,b,xs,ys,rfl,rfl,ha,hb,hx,hz,q1,q2⟩;cases rx;cases ry;obtain ⟨AG,r1,p1,_⟩:=I.tuple ha;obtain ⟨its2,r2,p2,_⟩:=I.tuple hb;refine HT.aaP p1 p2 (λz=>hx (r1.Eh.mp z)) (λz=>⟨.ref a,H,I,rfl,q1 (r2.Eh.mp z)⟩) (λz=>?_) (by rw[<- r1.length,<- r2.length];exact hz);refine ⟨.ref s.heap.objs.size,_,I.laid (λb ob q=>aI _ q) (aE _) ?_,rfl,q2 (λw=>z (r2.Eh.mpr w)) _ (I.AR.fresh (aE _))⟩;exact ⟨by rw[av];exact hz,_,r1.append r2,y6.new _ _⟩
end
noncomputable def ixN(n:Nat)(i:Int):Option Nat:=if 0<=i then (if i<n then some i.toNat else none) else if -(n:Int)<=i then some (i+n).toNat else none
noncomputable def atI{α:Type}(xs:List α)(i:Int):Option α:=(ixN xs.length i).bind λj=>xs[j]?
theorem abg{n:Nat}{i:Int}{j:Nat}(h:ixN n i=some j):seqIndex? i n=some j/\j<n /\ -(n:Int)<=i/\i<n:=by
 unfold ixN at h
 by_cases h0:0<=i
 . rw[if_pos h0] at h
   by_cases h1:i<n
   . rw[if_pos h1] at h;have e:=Option.some.inj h;exact ⟨by rw[seqIndex_of h0 h1,e],by lia,by lia,h1⟩
   . rw[if_neg h1] at h;cases h
 . rw[if_neg h0] at h
   by_cases h1 : -n<=i
   . rw[if_pos h1] at h;have e:=Option.some.inj h;exact ⟨by rw[seqIndex_neg (by lia) h1,e],by lia,h1,by lia⟩
   . rw[if_neg h1] at h;cases h
theorem O3{α:Type}{xs:List α}{i:Int}{v:α}(h:atI xs i=some v):∃j,seqIndex? i xs.length=some j/\xs[j]?=some v/\j<xs.length /\ -(xs.length:Int)<=i/\i<xs.length:=by
 unfold atI at h
 cases e:ixN xs.length i with
 | none=>rw[e] at h;cases h
 | some j=>
  rw[e] at h;obtain ⟨h1,h2,h3,h4⟩:=abg e;exact ⟨j,h1,h,h2,h3,h4⟩
theorem Nx{α:Type}{xs:List α}{j:Nat}{v:α}(h:xs[j]?=some v):atI xs (j:Int)=some v:=by
 have hj:=(aS.mp h).1;have e:ixN xs.length (j:Int)=some j:=by
  rw[ixN,if_pos (by lia),if_pos (by lia)];simp
 rw[atI,e];exact h
def lF(b:Expr):Prop:=∀o i,oC b false o i=operate [o,i] (pV o i)
def IxR(X:Cx)(r:R2):Prop:=
 ∀(value slice:Expr) (AD:A7) (s:dc) (σ:St) (H:Hp) (x y:V) (v u:a8) (Q:VK),AJ X AD σ H s->AK x v->AK y u->r x y H Q ->
  oC slice false v u=operate [v,u] (pV v u)->eh (eJ X.prog X.w) X.A (subscriptTail value slice v u) (EP X AD σ Q) X.xe s
def MtR(X:Cx)(id:String)(r:V->C0->Hp->VK->Prop):Prop:=
 ∀(AD:A7) (s:dc) (σ:St) (H:Hp) (x:V) (xs:C0) (v:a8) (us:B8) (Q:VK),AJ X AD σ H s->AK x v->AL xs us->r x xs H Q ->
  eh (eJ X.prog X.w) X.A (call (.builtin id) (v::us)) (EP X AD σ Q) X.xe s
variable {AD:A7}{s:dc}
section
variable {X:Cx}{a b:Expr}{ta tb:TE}{pos:Pos}
theorem Du{r:R2}(hr:IxR X r)(ha:PE X a ta)(hb:PE X b tb)(hs:lF b):PE X (.Subscript a b pos) (tOp r ta tb):=by
 intro AD s σ H Q I h;exact Subscript_ (Yx ha hb I h λv u s2 x y H2 I2 rx ry q=>hr a b AD s2 σ H2 x y v u Q I2 rx ry q (hs _ _))
def afN(K:aw):R2:=λx y H Q=>∃p xs i v,x= .ref p/\y= .int i/\SqL K H p xs/\atI xs i=some v/\Q v H
def afJ(K:aw):R2:=λx y H Q=>∃p xs i v,x= .ref p/\y= .int i/\SqT K H p xs/\atI xs i=some v/\Q v H
theorem abj:IxR X (afN X.K):=by
 intro value slice AD s σ H x y v u Q I rx ry h hs;obtain ⟨p,xs,i,z,rfl,rfl,hq,he,q⟩:=h;cases rx;obtain ⟨t,rfl⟩:=ry;obtain ⟨AG,r,pl,hz⟩:=I.list hq;obtain ⟨j,h1,h2,h3,h4,h5⟩:=O3 he;obtain ⟨w,ew,rw'⟩:=r.get h2;have hl:=r.length;have hn:=vq;have fin:EP X AD σ Q w s:=⟨z,H,I,rw',q⟩
 by_cases h0:0<=i
 . have hj:=by
    rw[seqIndex_of h0 h5] at h1;exact Option.some.inj h1
   exact item_listR pl.isList h0 (by lia) (by rw[hj];simpa using ew) fin hs
 . have hj:(i+(AG.toArray.size:Int)).toNat=j:=by
    rw[seqIndex_neg (by lia) h4] at h1;rw[dQ,<- hl];exact Option.some.inj h1
   exact subscriptTail_builtinR pl.isList.typeIs slot_list_getitem.lookup
    (wpAny_getItem_list_neg pl.isList (by lia) (by rw[dQ] <;> lia) (by lia) (by rw[hj];simpa using ew) ⟨rfl,fin⟩) hs
theorem aez:IxR X (afJ X.K):=by
 intro value slice AD s σ H x y v u Q I rx ry h hs;obtain ⟨p,xs,i,z,rfl,rfl,hq,he,q⟩:=h;cases rx;obtain ⟨t,rfl⟩:=ry;obtain ⟨AG,r,pl,hz⟩:=I.tuple hq;obtain ⟨j,h1,h2,h3,h4,h5⟩:=O3 he;obtain ⟨w,ew,rw'⟩:=r.get h2;have hl:=r.length;have hn:=vq;have fin:EP X AD σ Q w s:=⟨z,H,I,rw',q⟩;exact subscriptTail_builtinR pl.typeIs fF.lookup
  (getItem_tuple pl (by lia) (by lia) (by rw[dQ,<- hl];exact h1) (by simpa using ew) ⟨rfl,fin⟩) hs
theorem AJ.lst{σ:St}{H:Hp}{p:Addr}(I:AJ X AD σ H s)(h:H p=some (.lst xs)) :
 ∃(AG:B8) (n:Nat),AL xs AG/\s.heap.get? p=some { cls:=.type "list",data:=.seq AG.toArray n }/\xs.length<=bE:=by
 obtain ⟨z,AG,n,r,e⟩:=I.AR p _ h;exact ⟨AG,n,r,e,z⟩
theorem JG(lo hi:C3)(n:Nat):(qV lo hi none n).1=((HT.sIx n 0 lo:Nat):Int)/\(qV lo hi none n).2.1=((HT.sIx n n hi:Nat):Int)/\(qV lo hi none n).2.2=1:=by
 refine ⟨?_,?_,rfl⟩
 . cases lo with
   | none=>simp[qV,HT.sIx]
   | some i=>
    simp only[qV,HT.sIx,Option.getD_none,show (1:Int) > 0 by decide,if_true]
    by_cases h:i<0
    . simp only[h,if_true] <;> lia
    . simp only[h,if_false] <;> lia
 . cases hi with
   | none=>simp[qV,HT.sIx]
   | some i=>
    simp only[qV,HT.sIx,Option.getD_none,show (1:Int) > 0 by decide,if_true]
    by_cases h:i<0
    . simp only[h,if_true] <;> lia
    . simp only[h,if_false] <;> lia
theorem Hr(AG:B8)(lo hi:C3):slicePick AG.toArray lo hi none=((AG.drop (HT.sIx AG.length 0 lo)).take (HT.sIx AG.length AG.length hi - HT.sIx AG.length 0 lo)).toArray:=by
 obtain ⟨h1,h2,h3⟩:=JG lo hi AG.toArray.size;rw[slicePick,h1,h2,h3];simp only[sliceRange_one,pick_run,dQ] <;> rfl
def acz(K:aw):V->C3->C3->Hp->VK->Prop:=λx lo hi H Q=>∃a xs,x= .ref a/\SqL K H a xs/\∀p,H p=none->Q (.ref p) (AM H p (.lst (yD xs lo hi)))
theorem abC:SlR X (acz X.K):=by
 rintro AD s σ H x v vl vu lo hi sl Q I rx hs pl pu ⟨a,xs,rfl,hx,q⟩;cases rx;obtain ⟨AG,r,ht,hz⟩:=I.list hx;have hlen:=r.length;refine ⟨"list",_,slot_list_getitem.lookup,ht.isList.typeIs,?_⟩;refine wpAny_getItem_list_slice ht.isList hs pl pu .none (by simp) ?_ (by rw[dQ] <;> lia);rw[Hr,<- hlen];refine ⟨.ref s.heap.objs.size,_,I.laid (λb ob q=>aI _ q) (aE _) ?_,rfl,q _ (I.AR.fresh (aE _))⟩;exact ⟨dy (Al xs lo hi) hz,_,0,(r.drop (HT.sIx xs.length 0 lo)).take (HT.sIx xs.length xs.length hi - HT.sIx xs.length 0 lo),c6 _ rfl⟩
theorem yX:fM X (.builtin "len") (λxs H Q=>∃p ys,xs=[.ref p]/\(SqL X.K H p ys\/SqT X.K H p ys)/\Q (.int ys.length) H):=by
 rintro AD s σ H xs us Q I r ⟨p,ys,rfl,hq,q⟩;obtain ⟨u,rfl,rx⟩:=vals1 r;cases rx;have hn:=vq;rcases hq with hq | hq
 . obtain ⟨AG,r',pl,hz⟩:=I.list hq;have hlen:=r'.length;exact Calls.call_len_list pl.isList (by simp only[dQ] <;> lia) ⟨.int ys.length,H,I.tok _,⟨s.toks+1,by rw[dQ,hlen]⟩,q⟩
 . obtain ⟨AG,r',pl,hz⟩:=I.tuple hq;have hlen:=r'.length;exact len_tuple pl (by simp only[dQ] <;> lia) ⟨.int ys.length,H,I.tok _,⟨s.toks+1,by rw[dQ,hlen]⟩,q⟩
theorem K4:fM X (.builtin "len") (λxs H Q=>∃z,xs=[.str z]/\z.length<=bE/\Q (.int z.length) H):=by
 rintro AD s σ H xs us Q I r ⟨z,rfl,hz,q⟩;obtain ⟨u,rfl,t,rfl⟩:=vals1 r;have hn:=vq;exact len_str (by lia) ⟨.int z.length,H,I.tok _,⟨_,rfl⟩,q⟩
theorem yg:fM X (.type "list") (λxs H Q=>∃p ys,xs=[.ref p]/\(SqL X.K H p ys\/SqT X.K H p ys)/\∀l,H l=none->Q (.ref l) (AM H l (.lst ys))):=by
 rintro AD s σ H xs us Q I r ⟨p,ys,rfl,hq,q⟩;obtain ⟨u,rfl,rx⟩:=vals1 r;cases rx;have fin:∀(AG:B8),AL ys AG->ys.length<=bE->∀(h':Heap) (c':Nat),(∀b o',s.heap.get? b=some o'->h'.get? b=some o') ->
  h'.get? s.heap.objs.size=some { cls:=.type "list",dict:=none,data:=.seq AG.toArray c',slots:=#[] }->EP X AD σ Q (.ref s.heap.objs.size) { s with heap:=h' }:=λAG r' hz h' c' kp e=>
  ⟨.ref s.heap.objs.size,_,I.laid kp (aE _) (show fX X.prog X.w _ h' _ (.lst ys) from ⟨hz,AG,c',r',e⟩),rfl,q _ (I.AR.fresh (aE _))⟩
 rcases hq with hq | hq
 . obtain ⟨AG,r',pl,hz⟩:=I.list hq;have hlen:=r'.length;obtain ⟨o,ho,hc,n,hd⟩:=pl.isList;exact call_list_seq p (.inl rfl) ho hc hd (λh' c' kp e=>fin AG r' hz h' c' kp e) (by simp only[dQ] <;> lia)
 . obtain ⟨AG,r',pl,hz⟩:=I.tuple hq;have hlen:=r'.length;obtain ⟨o,ho,hc,n,hd⟩:=pl;exact call_list_seq p (.inr rfl) ho hc hd (λh' c' kp e=>fin AG r' hz h' c' kp e) (by simp only[dQ] <;> lia)
theorem xx:fM X (.type "tuple") (λxs H Q=>∃p ys,xs=[.ref p]/\((SqL X.K H p ys/\∀l,H l=none->Q (.ref l) (AM H l (.tup ys)))\/(SqT X.K H p ys/\Q (.ref p) H))):=by
 rintro AD s σ H xs us Q I r ⟨p,ys,rfl,h⟩;obtain ⟨u,rfl,rx⟩:=vals1 r;cases rx;rcases h with ⟨hq,q⟩ | ⟨hq,q⟩
 . obtain ⟨AG,r',pl,hz⟩:=I.list hq;have hlen:=r'.length;refine call_tuple_list pl.isList (λh' kp=>?_) (by simp only[dQ] <;> lia);have I1:=I.kept (t':=s.toks) kp;have I2:=
    I1.laid (t':=s.toks) (λb o e=>aI _ e) (aE _) (show fX X.prog X.w _ _ _ (.tup ys) from ⟨hz,AG,r',y6.new _ _⟩)
   exact ⟨.ref h'.objs.size,_,I2,rfl,q _ (I1.AR.fresh (aE _))⟩
 . obtain ⟨AG,r',pl,hz⟩:=I.tuple hq;exact call_tuple_same pl ⟨.ref p,H,I,rfl,q⟩
def tyV(K:aw)(T:String)(x:V)(H:Hp):Prop:=match x with
 | .str _=>T = "str"
 | .int _=>T = "int"
 | .ref p=>(T = "list" /\ ∃xs,SqL K H p xs)\/(T = "tuple" /\ ∃o,K.lookup p=some o/\o.cls= .type "tuple" /\ o.dict=none) \/
  (T = "dict" /\ ((∃AE,H p=some (.dK AE))\/∃AE,H p=some (.dT AE)))\/(T = "set" /\ ∃S n,H p=some (.set S n))
 | _=>False
theorem aes{σ:St}{H:Hp}{T:String}{x:V}{v:a8}(I:AJ X AD σ H s)(r:AK x v)(ty:tyV X.K T x H) :
 s.TypeIs v T/\∀a,v= .ref a->∃ob,s.heap.get? a=some ob/\ob.dict=none:=by
 cases x with
 | str z=>
  obtain ⟨t,rfl⟩:=r;cases (ty);exact ⟨typeIs_str s z t,λ_ e=>nomatch e⟩
 | int i=>
  obtain ⟨t,rfl⟩:=r;cases (ty);exact ⟨typeIs_int s i t,λ_ e=>nomatch e⟩
 | ref p=>
  cases r;rcases ty with ⟨rfl,xs,hq⟩ | ⟨rfl,o,hk,hc,hd⟩ | ⟨rfl,hk⟩ | ⟨rfl,S,n,hk⟩
  . obtain ⟨AG,_,pl,_⟩:=I.list hq;refine ⟨pl.isList.typeIs,λa e=>?_⟩;cases e;obtain ⟨o,n,e,c,hd,_⟩:=pl;exact ⟨o,e,hd⟩
  . refine ⟨⟨o,I.kIn p o hk,hc⟩,λa e=>?_⟩;cases e;exact ⟨o,I.kIn _ o hk,hd⟩
  . have z:∃o,s.heap.get? p=some o/\o.ExactDict:=by
     rcases hk with ⟨AE,hk⟩ | ⟨AE,hk⟩
     . obtain ⟨_,_,_,_,o,_,_,e,ex,_⟩:=I.AR p _ hk;exact ⟨o,e,ex⟩
     . obtain ⟨_,_,_,_,o,_,_,e,ex,_⟩:=I.AR p _ hk;exact ⟨o,e,ex⟩
    obtain ⟨o,e,ex⟩:=z;refine ⟨⟨o,e,ex.1⟩,λa e2=>?_⟩;cases e2;exact ⟨o,e,ex.2.1⟩
  . obtain ⟨o,_,_,_,e,ex,_⟩:=I.AR p _ hk;refine ⟨⟨o,e,ex.1⟩,λa e2=>?_⟩;cases e2;exact ⟨o,e,ex.2.1⟩
 | _=>exact lI ty
def tBM(K:aw)(T:String)(r:V->C0->Hp->VK->Prop)(to:TE)(t:TA):TE:=λσ H Q=>to σ H λx H1=>tyV K T x H1/\t σ H1 λxs H2=>r x xs H2 Q
variable {o e:Expr}{es:C1}{to:TE}{t:TA}{name:Str}{apos cpos:Pos}{T id:String}{r:V->C0->Hp->VK->Prop}
theorem Ij(pa:PlainAttrs T)(slot:Slot T name id)(hty:typeOf (.builtin id)=pure (.type "method_descriptor"))(hm:MtR X id r)(ho:PE X o to)(ha:PA X (e::es) t)
 (hbase:nE o name X.env (eval o X.env)=eval o X.env:=by rfl)
 (hfew:((nS cpos (d6 (e::es) X.env)).all (λx=>!x.1)&&(zi cpos (tf [] X.env)).all (λx=>x.1.isSome)
  && decide ((e::es).length+([]:List rl).length+(if ([]:List rl).isEmpty then 0 else 1)<30))=true:=by rfl)
 (hline:(apos.endLine == cpos.line)=true:=by rfl) (hs:d6 (e::es) X.env=(false,eval e X.env)::d6 es X.env:=by rfl) (hplain:(nS cpos (d6 es X.env)).any (·.1)=false:=by rfl) :
 PE X (.Call (.Attribute o name apos) (e::es) [] cpos) (tBM X.K T r to t):=by
 intro AD s σ H Q I h;refine wpAny_Call_method_late hbase hfew hline rfl (thn (ho AD s σ H _ I h) λv s1 az=>?_);obtain ⟨x,H1,I1,r1,ty,q1⟩:=az;obtain ⟨h1,h2⟩:=aes I1 r1 ty;refine ⟨T,id,pa,slot,hty,h1,h2,?_⟩;have hA:=ha cpos AD s1 σ H1 _ I1 q1;rw[hs] at hA ⊢;exact ro (by show (false||(nS cpos (d6 es X.env)).any (·.1))=false;rw[hplain] <;> rfl) (Calls.evalArgs_plain (thn hA λus s2 ⟨vs,H2,I2,r2,q2⟩=>hm AD s2 σ H2 x vs v us Q I2 r1 r2 q2))
end
def MtM(X:Cx)(id:String)(r:V->C0->Hp->VK->Prop):Prop:=
 ∀(AD:A7) (s:dc) (σ:St) (H:Hp) (x:V) (xs:C0) (v:a8) (us:B8) (Q:VK),AJ X AD σ H s->AK x v->AL xs us->r x xs H Q ->
  eh (eJ X.prog X.w) X.A (call (.builtin id) (v::us)) (EP X AD σ Q) X.xe s
theorem AL.one{x:V}(h:AL [x] us):∃u,us=[u]/\AK x u:=by
 cases h with
 | cons r t=>cases t;exact ⟨_,rfl,r⟩
theorem AL.two{x y:V}(h:AL [x,y] us):∃u v,us=[u,v]/\AK x u/\AK y v:=by
 cases h with
 | cons r t=>
  cases t with
  | cons q t=>cases t;exact ⟨_,_,rfl,r,q⟩
theorem AL.rep(h:AL xs us):∀k:Nat,AL (ax k xs).flatten (ax k us).flatten
 | 0=>.nil
 | k+1=>by
  rw[fo,fo,lx,lx];exact AL.append h (AL.rep h k)
theorem foldl_rep(AG:B8):∀(k:Nat) (AF:B8),
 List.foldl (λx1 x2=>x1++x2) AF.toArray (ax k AG.toArray)=(AF++(ax k AG).flatten).toArray
 | 0,AF=>by simp
 | k+1,AF=>by
  have e:AF.toArray++AG.toArray=(AF++AG).toArray:=by simp
  have e2:(AF++AG)++(ax k AG).flatten=AF++(ax (k+1) AG).flatten:=by
   rw[fo,lx,d5]
  rw[<- e2,<- foldl_rep AG k (AF++AG),<- e,fo,p9]
variable {AG:B8}
section
variable {X:Cx}  {σ:St}{H:Hp}  {l b:Addr}{ys zs:C0}
theorem AJ.W4{its':B8}{n:Nat}{f:Array a8->Array a8}{t':Nat}(I:AJ X AD σ H s)(hH:H l=some (.lst xs))
 (e:s.heap.get? l=some { cls:=.type "list",data:=.seq AG.toArray n }) (hf:f AG.toArray=its'.toArray) (hv:AL ys its') (hz:ys.length<=bE) :
 AJ X AD σ (AM H l (.lst ys)) { s with heap:=s.heap.update l (yn f),toks:=t' }:=by
 have q:=PySem.IsL.update e f;rw[hf] at q;refine I.write (by rw[hH];exact trivial) (.inl rfl) (λb' u hb hu=>(Heap.get?_update_other s.heap (yn f) (nK hb)).trans hu) ⟨_,q⟩ ?_;exact ⟨hz,its',_,hv,q⟩
theorem AJ.ac6{t':Nat}(I:AJ X AD σ H s)(hv:AL ys AG)(hz:ys.length<=bE) :
 AJ X AD σ (AM H s.heap.objs.size (.lst ys)) { s with heap:=s.heap.push { cls:=.type "list",data:=.seq AG.toArray },toks:=t' }:=
 I.laid (λ_ _ q=>aI _ q) (aE _) ⟨hz,AG,0,hv,c6 _ rfl⟩
theorem AJ.fresh(I:AJ X AD σ H s):H s.heap.objs.size=none:=I.AR.fresh (aE _)
theorem AJ.Yq(I:AJ X AD σ H s)(hH:H l=some (.lst xs)):xs.length<=bE/\∃(AG:B8) (n:Nat),AL xs AG/\xs.length=AG.length/\s.heap.get? l=some { cls:=.type "list",data:=.seq AG.toArray n }:=by
 obtain ⟨z,AG,n,r,e⟩:=I.AR l _ hH;exact ⟨z,AG,n,r,r.length,e⟩
theorem XC{n:Nat}(h:n<=bE):nI n=false:=by
 exact decide_eq_false (by lia)
end
section
variable {X:Cx}
def aa7:V->C0->Hp->VK->Prop:=λx vs H Q=>∃l xs y,x= .ref l/\vs=[y]/\H l=some (.lst xs)/\xs.length<bE/\Q .non (AM H l (.lst (xs++[y])))
theorem yw:MtM X "list.append" aa7:=by
 rintro AD s σ H x vs v us Q I rx rv ⟨l,xs,y,rfl,rfl,hH,hz,q⟩;cases rx;obtain ⟨u,rfl,ru⟩:=rv.one;obtain ⟨z,AG,n,r,hl,e⟩:=I.Yq hH;refine call_meets rq ⟨_,e,rfl⟩ F.entry_list_append (F.args_list_append_2 _ _) (PySem.list_append l AG.toArray n u (by rw[dQ];lia)) ⟨e,?_⟩;refine ⟨.non,_,I.W4 hH e (by simp) (r.append (.cons ru .nil)) ?_,rfl,q⟩;rw[av,cx];lia
theorem len_rep{α:Type}(xs:List α)(k:Nat):(ax k xs).flatten.length=k*xs.length:=by
 induction k with
 | zero=>simp
 | succ k ih=>rw[fo,lx,av,ih,yv,Nat.add_comm]
end
end Zq
namespace Att
open PySem PySem.W PySem.Calls PyProof.Rows
theorem Dj{P:Params}{h:Heap}:∀(ns:List Int) (vs:List a8),WellAll P h vs (ns.map WData.int)->wm vs ns:=by
 intro ns
 induction ns with
 | nil=>
  intro vs w;rw[ft] at w;cases w;exact .nil
 | cons n ns ih=>
  intro vs w;rw[bo] at w
  cases w with
  | cons a b=>
   cases a;exact .cons _ _ (ih _ b)
theorem Uq{l:x6}{n:Nat}(hn:l.most=some n){P:Params}{h:Heap}{args:List WData}{vals:List a8}
 (hpre:l.row.toRowW.claim.pre args=true) (hwl:WellAll P h vals args) :
 ∃a vs ns,vals=[iN a]/\args=[WData.list (ns.map WData.int)]/\h.get? a=some { cls:=.type "list",data:=.seq vs.toArray }/\wm vs ns/\ns.length<=n:=by
 have hsh:=(pre_splitW hpre).1;have hc:=(pre_splitW hpre).2;obtain ⟨d,r,rfl,h1,h2⟩:=hasAllW_cons hsh;obtain rfl:=hasAllW_nil h2;obtain ⟨xs,rfl,h3⟩:=hasW_list h1;obtain ⟨ns,rfl⟩:=items_int h3;have hlen:ns.length<=n:=by
  have h4:(WTm.not (.lt (.lit (.int n)) (.len (.arg 0)))).holds [] { args:=[.list (ns.map .int)] }=true:=by
   have h4:=(holds_andW hc).1;rwa [hn] at h4
  have h5:=condW_of h4 (w_not (w_lt w_lit (w_len_list (w_arg rfl))));rw[af] at h5;refine ky λq=>?_;have q':n<(ns.length:Int):=by lia
  first
   | (rw[decide_eq_true q'] at h5;exact absurd h5 (by decide))
   | (simp at h5;lia)
 cases hwl with
 | cons w1 w2=>
  cases w2
  cases w1 with
  | list ho hall=>exact ⟨_,_,ns,rfl,rfl,ho,Dj ns _ hall,hlen⟩
theorem SM(l:x6)(args:List WData):l.row.toRowW.claim.post args (.bool true) args=true:=
 postW_of
  (show WShape.has [] (.bool true) .bool=true by first | rfl | decide | simp[WShape.arms,WShape.armsAll])
  (w_eq_bool (w_res rfl) w_lit) rfl
theorem Mu{l:x6}{n:Nat}{q:gc}{loose:List Str}{XP:(Str->Option a8)->Heap->Prop}{YP:kT->Heap->Prop}{d:DefRec}
 (hn:l.most=some n) (hdf:d.params.defaults=[])
 (call:∀(w:kT) (s₀ s₁:dc) (mg mb:Str->Option a8) (fa:Addr) (o:Obj) (pm cd doc:a8) (a:Addr) (vs:List a8) (ns:List Int),
  Ground q loose [] XP w s₀ mg mb s₁.heap->YP w s₁.heap ->
  s₁.heap.get? fa=some o->o.data= .func (docDef d.name d.params d.body d.scope pm cd doc)->s₁.heap.CodeRec cd d.name->mg d.name=some (.ref fa) ->
  s₁.heap.get? a=some { cls:=.type "list",data:=.seq vs.toArray }->wm vs ns->ns.length<=n->s₁.gens=#[] ->
  ya (eJ l.prog w) zv (.call (.ref fa) ⟨[.ref a],[]⟩) (λr s'=>r= .ok (.ret (.bool true))/\OldK s₁.heap s'.heap/\s'.os=s₁.os/\wb s'.gens) s₁) :
 WalkO q loose XP YP l.row.toRowW d [] (λf vs=>PySem.call f vs):=by
 intro w s₀ s₁ mg mb G Y fa o pm cd doc dV kV ho hd hcd hD hmg hg args vals as hpre hlay hrd hwl hlo;obtain rfl:dV= .none:=Dflts.none hD hdf;obtain rfl:kV= .none:=Dflts.noKw hD;obtain ⟨a,vs,ns,rfl,rfl,hobj,hints,hlen⟩:=Uq hn hpre hwl;refine enter_call (codeAny_mono (call w s₀ s₁ mg mb fa o pm cd doc a vs ns G Y ho (fd_plain hd) hcd hmg hobj hints hlen hg) λr s' hq=>?_);obtain ⟨rfl,h2,h3,h4⟩:=hq;exact ⟨.inl ⟨.bool true,.bool true,[],rfl,λ_=>rfl,.bool true,SM l _,λ_=>⟨xh.nil,λ_ hm=>(nomatch hm)⟩⟩,h2,h3,h4⟩
end Att
namespace Zq
open PySem PySem.Spec PyProof.Rows
theorem Gv:∀{vs:B8}{ns:B3},wm vs ns->AL (ns.map V.int) vs
 | _,_,.nil=>.nil
 | _,_,.cons n t h=>.cons ⟨t,rfl⟩ (Gv h)
noncomputable def cF(s:Stmt):Arguments:=match s with
 | .FunctionDef _ a _ _ _ _ _ _ _ _=>a
 | _=>{ posonlyargs:=[],args:=[],vararg:=none,kwonlyargs:=[],kw_defaults:=[],kwarg:=none,defaults:=[] }
noncomputable def bV(s:Stmt):C5:=match s with
 | .FunctionDef _ _ b _ _ _ _ _ _ _=>b
 | _=>[]
noncomputable def aN(s:Stmt):vv:=match s with
 | .FunctionDef _ _ _ _ _ _ sc _ _ _=>sc
 | _=>{ kind:=.function,names:=[],isGenerator:=false,isCoroutine:=false }
abbrev CX0:CXT:=λ_ _ _ _ _ _=>False
abbrev E0:XK:=λ_ _ _=>False
theorem aeT{X:Cx}:Passes CX0 X E0:=λ_ _ _ _ _ _ _ h=>h.elim
structure Fun (K:aw) (x qual:Str) (st:Stmt) (f:Addr) (fd:nN):Prop where
 ex:∃(oc:a8) (od:C4) (kV doc pm:a8) (an:C4) (AH ct:a8) (osl:Array B7),
  fd=fe x qual (cF st) (bV st) (aN st) .none kV doc pm an AH ct/\K.lookup f=some ⟨oc,od,.func fd,osl⟩/\mr K AH qual=true
 kp:lh K (.ref f)=true
variable {x qual:Str}
section
variable {P:gc}{w:kT}{K:aw}{mg:Str->B7}{base:Heap}
theorem Fun.ok{st:Stmt}{f:Addr}{fd:nN}{N ps:B6}{k:Nat}{sp:Sp}(F:Fun K x qual st f fd)(S:cP N ps (aN st))(len:∀vs H Q E,sp vs H Q E->vs.length=ps.length)
 (hbody:∀(AH:a8) (A:iS) (AX:C6) (s:dc) (H:Hp) (vs:C0) (Q:VK) (E:XK),dz k (A.deeper (oz qual (aN st) s.heap.objs.size f AH))->sp vs H Q E ->
  ∃t,PSs (mF CX0 P w K mg base N qual (aN st) f AH A AX s H E).nox (bV st) t/\t { nx:=λ_ H'=>Q .non H',rt:=Q } (start N vs) H):rR P w K mg base CX0 (k+1) f fd ps sp:=by
 obtain ⟨oc,od,kV,doc,pm,an,AH,ct,osl,rfl,lk,hcd⟩:=F.ex;refine YX lk hcd S len λA AX s H vs Q E hr hsp=>?_;obtain ⟨t,h,q⟩:=hbody AH A AX s H vs Q E hr hsp;exact ⟨t,h.nox,q⟩
theorem Fun.binds{st:Stmt}{f:Addr}{fd:nN}{ps:B6}(F:Fun K x qual st f fd)
 (h:∀(kV doc pm:a8) (an:C4) (AH ct:a8) (us:B8),us.length=ps.length->kF (fe x qual (cF st) (bV st) (aN st) .none kV doc pm an AH ct) ⟨us,[]⟩=pure (ps.zip us)):Binds K fd ps []:=by
 obtain ⟨oc,od,kV,doc,pm,an,AH,ct,osl,rfl,lk,hcd⟩:=F.ex;exact .all (h kV doc pm an AH ct)
theorem Jc{st:Stmt}{f:Addr}{oc:a8}{od an:C4}{osl:Array B7}{kV doc pm AH ct:a8}(l:K.lookup f=some ⟨oc,od,.func (fe x qual (cF st) (bV st) (aN st) .none kV doc pm an AH ct),osl⟩)
 (c:mr K AH qual=true) (k:lh K (.ref f)=true):Fun K x qual st f (fe x qual (cF st) (bV st) (aN st) .none kV doc pm an AH ct):=⟨⟨oc,od,kV,doc,pm,an,AH,ct,osl,rfl,l,c⟩,k⟩
end
theorem Tv{n:Nat}(h:n<=1000):n<bE:=ki h (by decide)
theorem xJ{A B:Prop}(h:B):if false=true then A else B:=by
 rw[if_neg e8];exact h
theorem xK{A B:Prop}(h:A):if true=true then A else B:=by
 rw[if_pos rfl];exact h
def aG(H H':Hp):Prop:=∀b o,H b=some o->H' b=some o
theorem aG.refl(H:Hp):aG H H:=λ_ _ h=>h
theorem aG.trans{H H1 H2:Hp}(a:aG H H1)(b:aG H1 H2):aG H H2:=λc o h=>b c o (a c o h)
theorem aG.free{H H':Hp}(e:aG H H'){l:Addr}(h:H' l=Option.none):H l=Option.none:=by
 cases q:H l with
 | none=>rfl
 | some o=>
  rw[e l o q] at h;cases h
theorem aG.seq{K:aw}{H H':Hp}{a:Addr}{xs:C0}(e:aG H H')(h:SqL K H a xs):SqL K H' a xs:=by
 rcases h with (h | ⟨o,h⟩) | h
 . exact .inl (.inl (e _ _ h))
 . exact .inl (.inr ⟨o,e _ _ h⟩)
 . exact .inr h
end Zq
set_option maxHeartbeats 4000000
namespace Zq
open PySem PySem.Spec PyProof.Rows
noncomputable def Cx.comp(X:Cx)(scope:vv)(tn:B6)(ix:B5)(cl:B1)(C:Addr)(s₂:dc)(H₂:Hp)(fp:C2):Cx where
 prog:=X.prog
 w:=X.w
 K:=X.K
 mg:=X.mg
 base:=X.base
 A:=X.A
 N:=tn++ix.map λi=>X.N.getD i Str.empty
 s₀:=s₂
 H₀:=H₂
 env:=compEnvC scope cl C X.env
 AX:=X.stack
 stack:=X.stack
 ex:=fp
 fn:=λx=>scope.names.lookup x == some .cell
 calm:=X.calm
 pn:=[]
 xe:=λ_ _=>False
noncomputable def vL(tn:B6)(ix:B5)(σ:St):St:=ax tn.length none++ix.map λi=>(σ[i]?).join
def sr(X:Cx)(ifs:C1)(t:TT):Prop:=
 ∀(AD:A7) (s:dc) (σ:St) (H:Hp) (Q:Bool->Hp->Prop),AJ X AD σ H s->t σ H Q ->
  eh (eJ X.prog X.w) X.A (forIn ifs true λc r=>if r=true then do let ok <- Ap c X.env (eval c X.env);pure (om ok) else pure (om r)) (TP X AD σ Q) X.xe s
def af8:TT:=λ_ H Q=>Q true H
variable {X:Cx}
theorem Yg:sr X [] af8:=λ_ _ _ H _ I h=>wpAny_tests_nil ⟨H,I,h⟩
theorem WQ{c:Expr}{t:TT}(h:PT X c t):sr X [c] t:=λAD s σ H Q I q=>wpAny_tests_one (h AD s σ H Q I q)
def adx(tn:B6)(ix:B5)(g:TG)(tt:TT)(te:TE)(σ:St)(Q:VK)(J:It)(H1:Hp):Prop:=∀D,H1 D=none ->
 ∃W:Nat->Nat->St->C0->Hp->Prop,(∃m,W 0 m (vL tn ix σ) [] (AM H1 D (.lst [])))/\∀i m σb AF H2,W i m σb AF H2->H2 D=some (.lst AF) /\
  ((
   J.stop i H2/\Q (.ref D) H2)\/(J.go i H2/\AF.length<bE/\∀x H3,J.yld i H2 x H3->g x σb H3 λσ4 H4=>tt σ4 H4 λb H5=>
   if b=true then te σ4 H5 λv H6=>H6 D=some (.lst AF)/\∃m',m'<m/\W (i+1) m' σ4 (AF++[v]) (AM H6 D (.lst (AF++[v]))) else ∃m',m'<m/\W (i+1) m' σ4 AF H5))
def Io(tn:B6)(ix:B5)(wi:TI)(g:TG)(tt:TT)(te:TE):TE:=λσ H Q=>wi σ H (adx tn ix g tt te σ Q)
variable {scope:vv}{env:Env}
theorem Hs(h:∀x∈scope.names,x.2= .free->∃c,env.cells.lookup x.1=some c) :
 ∃cl,yy scope env=pure cl/\(∀x c,cl.lookup x=some c->env.cells.lookup x=some c)/\∀x∈scope.names,x.2= .free->∃c,cl.lookup x.1=some c:=by
 have all:∀(l:List (Str×kG)) (AF:B1),(∀x∈l,x.2= .free->∃c,env.cells.lookup x.1=some c)->(∀x c,AF.lookup x=some c->env.cells.lookup x=some c) ->
  ∃cl,(forIn l AF λ(x:Str×kG) (r:B1)=>(if (x.2 == kG.free)=true then (do let a <- cellOf env x.1;pure (om ((x.1,a)::r))) else pure (om r):Sem (ForInStep B1)))=pure cl /\
   (∀x c,cl.lookup x=some c->env.cells.lookup x=some c)/\(∀x∈l,x.2= .free->∃c,cl.lookup x.1=some c)/\∀x,(∃c,AF.lookup x=some c)->∃c,cl.lookup x=some c:=by
  intro l
  induction l with
  | nil=>intro AF _ ha;exact ⟨AF,rfl,ha,λx hx=>absurd hx (by simp),λx hx=>hx⟩
  | cons y r ih=>
   intro AF hl ha;obtain ⟨n,k⟩:=y
   by_cases hk:k= .free
   . subst hk;obtain ⟨c,hc⟩:=hl (n,.free) (by simp) rfl;have ha':∀x c',wo x ((n,c)::AF)=some c'->env.cells.lookup x=some c':=λx c' e=>by
      rw[kX] at e
      cases hx:x == n with
      | true=>
       rw[hx] at e;have e1:=beq_iff_eq.mp hx;cases e;rw[e1];exact hc
      | false=>rw[hx] at e;exact ha x c' e
     obtain ⟨cl,e1,e2,e3,e4⟩:=ih ((n,c)::AF) (λx hx=>hl x (cf _ hx)) ha';have ec:cellOf env n=pure c:=by rw[cellOf,hc]
     refine ⟨cl,?_,e2,λx hx hf=>?_,λx ⟨c',hc'⟩=>?_⟩
     . rw[y9];simp only[ec,beq_self_eq_true,pure_bind];exact e1
     . rcases cp.mp hx with rfl | hx
       . exact e4 n ⟨c,by simp⟩
       . exact e3 x hx hf
     . refine e4 x ?_;rw[kX]
       cases x == n with
       | true=>exact ⟨c,rfl⟩
       | false=>exact ⟨c',hc'⟩
   . have hb:(k == kG.free)=false:=by simpa using hk
     obtain ⟨cl,e1,e2,e3,e4⟩:=ih AF (λx hx=>hl x (cf _ hx)) ha;refine ⟨cl,?_,e2,λx hx hf=>?_,e4⟩
     . rw[y9];simp only[hb,Bool.false_eq_true,pure_bind];exact e1
     . rcases cp.mp hx with rfl | hx
       . exact absurd hf hk
       . exact e3 x hx hf
 obtain ⟨cl,e1,e2,e3,_⟩:=all scope.names [] h (λx c e=>by simp at e);refine ⟨cl,?_,e2,e3⟩;refine Eq.trans rfl ?_;have e0:=congrArg (· >>= pure) e1
 first
  | (exact e0)
  | exact e0.trans (pure_bind _ _)
theorem nU{env:Env}:∀{names:List (Str×kG)}{x:Str},names.lookup x=some .free ->
 (names.map λ(n,k)=>if (k == kG.free&&env.scope.kind == .function&&env.kindOf n == some .cell) then (n,mm) else (n,k)).lookup x=some .cell \/
 (names.map λ(n,k)=>if (k == kG.free&&env.scope.kind == .function&&env.kindOf n == some .cell) then (n,mm) else (n,k)).lookup x=some .free
 | [],_,h=>by simp at h
 | (n,k)::r,x,h=>by
  have ih:=@nU env r x;show wo x ((if (k == kG.free&&env.scope.kind == .function&&env.kindOf n == some .cell)=true then (n,mm) else (n,k))::_)=_\/wo x ((if (k == kG.free&&env.scope.kind == .function&&env.kindOf n == some .cell)=true then (n,mm) else (n,k))::_)=_
  cases hx:x == n with
  | true=>
   simp only[kX,hx] at h;cases h
   by_cases hc:(kG.free == kG.free&&env.scope.kind == .function&&env.kindOf n == some .cell)=true
   . rw[if_pos hc];exact .inl (by simp[kX,hx])
   . rw[if_neg hc];exact .inr (by simp[kX,hx])
  | false=>
   simp only[kX,hx] at h
   by_cases hc:(k == kG.free&&env.scope.kind == .function&&env.kindOf n == some .cell)=true
   . rw[if_pos hc];simp only[kX,hx];exact ih h
   . rw[if_neg hc];simp only[kX,hx];exact ih h
noncomputable def iU(X:Cx)(scope:vv)(ix:B5):Bool:=
 scope.kind == .function&&scope.names.all (λy=>scope.names.lookup y.1 == some y.2&&(y.2 != .free||(X.env.scope.names.lookup y.1 == some .cell||X.env.scope.names.lookup y.1 == some .free))&&(y.2 != .local||scope.names.lookup y.1 == some .local)) &&
 ix.all λi=>match X.N[i]? with
  | some x=>scope.names.lookup x == some .free
  | none=>false
structure Lr (X:Cx) (scope:vv) (ix:B5):Prop where
 kind:scope.kind= .function
 one:∀y∈scope.names,scope.names.lookup y.1=some y.2
 free:∀y∈scope.names,y.2= .free->X.env.scope.names.lookup y.1=some .cell\/X.env.scope.names.lookup y.1=some .free
 loc:∀y∈scope.names,y.2= .local->scope.names.lookup y.1=some .local
 ix:∀i∈ix,∃x,X.N[i]?=some x/\scope.names.lookup x=some .free
theorem iU.of{ix:B5}(h:iU X scope ix=true):Lr X scope ix:=by
 unfold iU at h;rw[dS,dS] at h;obtain ⟨⟨h1,h2⟩,h3⟩:=h;rw[fb] at h2 h3;have g:∀y∈scope.names,(scope.names.lookup y.1=some y.2/\(y.2= .free->X.env.scope.names.lookup y.1=some .cell\/X.env.scope.names.lookup y.1=some .free))/\(y.2= .local->scope.names.lookup y.1=some .local):=λy hy=>by
  have q:=h2 y hy;rw[dS,dS,tJ,tJ,tJ] at q;obtain ⟨⟨q1,q2⟩,q3⟩:=q;refine ⟨⟨by simpa using q1,λe=>?_⟩,λe=>?_⟩
  . rcases q2 with q2 | q2 | q2
    . exact absurd e (by simpa using q2)
    . exact .inl (by simpa using q2)
    . exact .inr (by simpa using q2)
  . rcases q3 with q3 | q3
    . exact absurd e (by simpa using q3)
    . simpa using q3
 refine ⟨by simpa using h1,λy hy=>(g y hy).1.1,λy hy=>(g y hy).1.2,λy hy=>(g y hy).2,λi hi=>?_⟩;have q:=h3 i hi
 cases e:X.N[i]? with
 | none=>rw[e] at q;cases q
 | some x=>rw[e] at q;exact ⟨x,rfl,by simpa using q⟩
variable {AD:A7}{σ:St}{H:Hp}{s:dc}
section
variable       {tn:B6}{ix:B5}{cl:B1}{C D:Addr}{fp:C2}{h₁:Heap}{tk:Nat}
theorem AJ.block(S:Lr X scope ix)(I:AJ X AD σ H s)(uT:∀x c,cl.lookup x=some c->(X.env.cells.lookup x=some c/\scope.names.lookup x≠some .cell)\/(scope.names.lookup x=some .cell/\s.heap.objs.size<=c/\c≠D/\h₁.IsCell c none))
 (hinj:∀x y c,cl.lookup x=some c->cl.lookup y=some c->scope.names.lookup x=some .cell->scope.names.lookup y=some .cell->x=y) (afT:∀x,scope.names.lookup x=some .cell->∃c,cl.lookup x=some c) (V7:∀x∈scope.names,x.2= .free->∃c,cl.lookup x.1=some c)
 (hfp:∀b∈fp,uN X AD H b) (hfo:∀b∈fp,∃o,s.heap.get? b=some o) (old:∀b o,s.heap.get? b=some o->h₁.get? b=some o) (hD:s.heap.objs.size<=D) (hC:s.heap.objs.size<=C) (hDC:D≠C)
 (hd:h₁.get? D=some { cls:=.type "list",data:=.seq ([]:B8).toArray }) (hn:∃m,h₁.Ns C m) :
 AJ (X.comp scope tn ix cl C s H fp) [] (vL tn ix σ) (AM H D (.lst [])) { s with heap:=h₁,toks:=tk }:=by
 have frD:=I.AR.fresh hD;have frC:=I.AR.fresh hC;have Qu:∀x c,X.env.cells.lookup x=some c->c<s.heap.objs.size:=λx c e=>by
  obtain ⟨v,q⟩:=I.cell x c e;exact q.lt
 have hcl:∀x c,scope.names.lookup x=some .free->cl.lookup x=some c->X.env.cells.lookup x=some c:=λx c hx e=>by
  rcases uT x c e with z | z
  . exact z.1
  . rw[hx] at z;cases z.1
 have ok:(X.comp scope tn ix cl C s H fp).Ok:=by
  refine ⟨I.ok.mod,S.kind,I.ok.glob,I.ok.blt,hC,λx y c h1 h2=>?_,λx hx=>?_,λx c h e=>?_,I.ok.hd,I.ok.frames,.inl rfl,λb hb=>⟨?_,λx c e=>?_⟩,I.bs,
   dy I.ok.bsz I.sz,λb o e hb=>?_,λb hb hf=>?_,I.stack,I.N8,λP h=>I.base.nF _ _ (I.ok.tabs P h)⟩
  . rcases uT x c h1 with z1 | z1 <;> rcases uT y c h2 with z2 | z2
    . exact I.ok.inj x y c z1.1 z2.1
    . exact absurd (Qu x c z1.1) (As.mpr z2.2.1)
    . exact absurd (Qu y c z2.1) (As.mpr z1.2.1)
    . exact hinj x y c h1 h2 z1.1 z2.1
  . -- a cell or a free name of the block has AG cell
    have hx':=hx;have hm:∃k,(x,k)∈(scope.names.map λ(n,k)=>if (k == kG.free&&X.env.scope.kind == .function&&X.env.kindOf n == some .cell) then (n,mm) else (n,k))/\(k= .cell\/k= .free):=by
     rcases hx' with h | h
     . exact ⟨_,gp h,.inl rfl⟩
     . exact ⟨_,gp h,.inr rfl⟩
    obtain ⟨k,hm,hk⟩:=hm;obtain ⟨⟨n,k'⟩,hy,e⟩:=cc.mp hm
    dsimp only at e
    by_cases hc:(k' == kG.free&&X.env.scope.kind == .function&&X.env.kindOf n == some .cell)=true
    . rw[if_pos hc] at e;cases e;rw[dS,dS] at hc;exact V7 _ hy (by simpa using hc.1.1)
    . rw[if_neg hc] at e;cases e;rcases hk with hk | hk
      . exact afT _ (by rw[<- hk];exact S.one _ hy)
      . exact V7 _ hy hk
  . rcases uT x c e with z | z
    . have h:(scope.names.lookup x == some mm)=true:=h;exact absurd (by simpa using h) z.2
    . exact z.2.1
  . intro z;obtain ⟨o,e⟩:=hfo b hb;exact absurd (eW (cy e) (by rw[z];exact hC)) (g9 _)
  . rcases uT x c e with z | z
    . exact (hfp b hb).2.2.2.2.1 x c z.1
    . intro y;obtain ⟨o,e'⟩:=hfo b hb;have q:=cy e';rw[<- y] at q;exact absurd q (As.mpr z.2.1)
  . rcases (hfp b hb).2.2.2.1 with z | z
    . exact I.ok.Le b o e z
    . exact absurd (eW (cy (I.ok.bs b o e).1) z) (g9 _)
  . rcases cp.mp (I.DN b hf) with z | z
    . exact (hfp b hb).2.1 z
    . exact (hfp b hb).2.2.1 z
 refine ⟨ok,rfl,I.bare,Un.laid old hD frD,?_,λx c e=>?_,?_,λx c e=>?_,λp hp=>absurd (show p∈([]:A7) from hp) (by simp),?_,?_⟩
 . obtain ⟨m,hn⟩:=hn;refine ⟨m,hn,λi x v e1 e2 e3=>?_⟩;have hi:tn.length<=i:=by
    rcases gu i tn.length with hi | hi
    . have e2':(ax tn.length none++ix.map λi=>(σ[i]?).join)[i]?=some (some v):=e2;rw[cq (by simpa using hi),iO,if_pos hi] at e2';cases e2'
    . exact hi
   have e1':(tn++ix.map λi=>X.N.getD i Str.empty)[i]?=some x:=e1;have e2':(ax tn.length none++ix.map λi=>(σ[i]?).join)[i]?=some (some v):=e2;rw[bX hi,br] at e1';rw[bX (by simpa using hi),br,ck] at e2'
   cases ek:ix[i - tn.length]? with
   | none=>rw[ek] at e1';cases e1'
   | some k=>
    rw[ek] at e1' e2';have afS:X.N.getD k Str.empty=x:=Option.some.inj e1';have Qg:(σ[k]?).join=some v:=Option.some.inj e2';have e2s:σ[k]?=some (some v):=by
     cases q:σ[k]? with
     | none=>rw[q] at Qg;cases Qg
     | some o=>rw[q] at Qg;have:o=some v:=Qg;rw[this]
    obtain ⟨x',hx',hfx⟩:=S.ix k (eL ek);have exx:x'=x:=by
     rw[<- afS,ae,hx'];rfl
    subst exx;have hfr:=S.free _ (gp hfx) rfl;obtain ⟨m0,hn0,hl0⟩:=I.loc;obtain ⟨u,ru,lk⟩:=hl0 k x' v hx' e2s (.inr hfr);refine ⟨u,ru,?_⟩;rcases lk with ⟨kl,_⟩ | ⟨kc,c,ec,ic⟩
    . exfalso
      have kl':X.env.scope.names.lookup x'=some .local:=kl;rcases hfr with z | z <;> rw[z] at kl' <;> cases kl'
    . obtain ⟨c',ec'⟩:=V7 _ (gp hfx) rfl;have ecc:=by
       have q:=hcl x' c' hfx ec';rw[ec] at q;exact (Option.some.inj q).symm
      subst ecc;refine .inr ⟨nU hfx,c',ec',?_⟩;obtain ⟨o,ho,hdat⟩:=ic;exact ⟨o,old _ _ ho,hdat⟩
 . rcases uT x c e with z | z
   . obtain ⟨v,o,ho,hdat⟩:=I.cell x c z.1;exact ⟨v,o,old _ _ ho,hdat⟩
   . exact ⟨_,z.2.2.2⟩
 . show AM H D (.lst []) C=none;rw[aH (nK hDC)];exact frC
 . rcases uT x c e with z | z
   . rw[aH (fh (eW (Qu x c z.1) hD))];exact I.jZ x c z.1
   . rw[aH z.2.2.1];exact I.AR.fresh z.2.1
 . exact I.AR.laid old hD ⟨kN _,[],0,.nil,hd⟩
 . show (vL tn ix σ).length=(tn++ix.map λi=>X.N.getD i Str.empty).length;rw[vL,av,av,ck,af,af]
end
variable {prog:gc}{w:kT}{A:iS}{pos:Pos}
theorem JR{R:Result->dc->Prop}{s:dc}{elt target iter:Expr}{ifs:C1}{it AF:a8}(I:Nat->dc->Prop)
 (turn:∀n s,I n s->eh (eJ prog w) A (pyNext it) (λr s₁=>match r with
  | none=>R (.ok .next) s₁
  | some v=>eh (eJ prog w) A (y7 target it v) (λ_ s₁'=>eh (eJ prog w) A (assign target env v) (λ_ s₂=>
   eh (eJ prog w) A (forIn ifs true λc r=>if r=true then do let ok <- Ap c env (eval c env);pure (om ok) else pure (om r)) (λok s₃=>
    if ok=true then eh (eJ prog w) A (eval elt env) (λx s₄=>
     eh (eJ prog w) A (call (.builtin "list.append") [AF,x]) (λ_ s₅=>∃m,m<n/\I m s₅) (λ_ _=>False) s₄) (λ_ _=>False) s₃
    else ∃m,m<n/\I m s₃) (λ_ _=>False) s₂) (λ_ _=>False) s₁') (λ_ _=>False) s₁) (λ_ _=>False) s)
 (n:Nat) (h:I n s) :
 ya (eJ prog w) A (.compLoop (.ListComp elt [⟨target,iter,ifs,0⟩] scope pos) 0 it AF env) R s:=by
 refine codeAny_loop rfl I (λn s hI=>?_) n h;refine wpAny_noted ?_;rw[compTurn_list];refine ag (wpAny_standAt (ag (hZ (turn n s hI) (λr s₁ h₁=>?_) λ_ _ f=>f.elim)))
 cases r with
 | none=>exact bt h₁
 | some v=>
  refine ag (hZ h₁ (λ_ s₁' h₁'=>?_) λ_ _ f=>f.elim);refine ag (hZ h₁' (λ_ s₂ h₂=>ag (hZ h₂ (λok s₃ h₃=>?_) λ_ _ f=>f.elim)) λ_ _ f=>f.elim)
  cases ok with
  | false=>exact bt ⟨rfl,h₃⟩
  | true=>
   exact ag (ag (hZ h₃ (λx s₄ h₄=>ag (hZ h₄ (λ_ s₅ h₅=>bt (bt ⟨rfl,h₅⟩)) λ_ _ f=>f.elim)) λ_ _ f=>f.elim))
variable {x:Str}{E:B2}{i:Nat}
section
variable       {tn:B6}{ix:B5}{elt tg iter:Expr}{ifs:C1}  {wi:TI}{g:TG}{tt:TT}{te:TE}{Q:VK}
theorem xV{c0:B1}:∀{l:List (Str×kG)}{n:Nat}{AF:B1},kU n l (AF++c0)=kU n l AF++c0
 | [],n,AF=>rfl
 | (y,k)::l,n,AF=>by
  unfold kU
  by_cases hk:(k == .cell)=true
  . rw[if_pos hk,if_pos hk];exact xV (AF:=(y,n)::AF)
  . rw[if_neg hk,if_neg hk];exact xV
theorem yN{c:Addr}:∀{l:List (Str×kG)}{n:Nat}{AF:B1},(x,c)∈kU n l AF->(x,c)∈AF\/(x,mm)∈l
 | [],n,AF,h=>.inl h
 | (y,k)::l,n,AF,h=>by
  unfold kU at h
  by_cases hk:(k == .cell)=true
  . rw[if_pos hk] at h;rcases yN h with z | z
    . rcases cp.mp z with e | z
      . cases e;exact .inr (by rw[show k=mm by simpa using hk];exact b9)
      . exact .inl z
    . exact .inr (cf _ z)
  . rw[if_neg hk] at h;rcases yN h with z | z
    . exact .inl z
    . exact .inr (cf _ z)
theorem G9{x y:Str}{c:Addr}:∀{cs:B1},cs.Pairwise (λx y=>x.2≠y.2)->(x,c)∈cs->(y,c)∈cs->x=y
 | [],_,h,_=>nomatch h
 | z::cs,h,h1,h2=>by
  obtain ⟨h3,h4⟩:=qq.mp h;rcases cp.mp h1 with e1 | e1
  . rcases cp.mp h2 with e2 | e2
    . rw[<- e1] at e2;cases e2;rfl
    . rw[<- e1] at h3;exact (h3 (y,c) e2 rfl).elim
  . rcases cp.mp h2 with e2 | e2
    . rw[<- e2] at h3;exact (h3 (x,c) e1 rfl).elim
    . exact G9 h4 e1 e2
theorem T7{M:Model}{globals:Addr}{cl:B1}{Q:Env->dc->Prop}
 (h:Q (newEnv scope s.heap.objs.size globals (kU (s.heap.objs.size+1) scope.names cl) x none .none (some env) qk) { s with heap:=pushCells (s.heap.push { cls:=.type "dict",data:=.dict #[] }) scope.names }) :
 eh M A (newFunctionEnv scope globals cl [] x none .none (some env)) Q E s:=by
 refine ag (wpAny_alloc (ag (wpAny_layCells _ (λname kind cells=>by cases hkc:kind == mm <;> simp[hkc]) _ _ _ _ ?_)));rw[iX ..];exact ag (bt (bt h))
theorem GX(S:Lr X scope ix)(hc:X.calm=true)(hi:PI X tg iter wi)
 (hg:∀cl C s₂ H₂ fp,PG (X.comp scope tn ix cl C s₂ H₂ fp) tg g) (ht:∀cl C s₂ H₂ fp,sr (X.comp scope tn ix cl C s₂ H₂ fp) ifs tt) (he:∀cl C s₂ H₂ fp,PE (X.comp scope tn ix cl C s₂ H₂ fp) elt te)
 {P:a8->Addr->Result->dc->Prop} (I:AJ X AD σ H s) (h:Io tn ix wi g tt te σ H Q)
 (hP:∀D C s' H',AJ X AD σ H' s'->(∃m,s'.heap.Ns C m)->uN X AD H' C->Q (.ref D) H'->P (.ref D) C (.ok .next) s') :
 ∃cl,yy scope X.env=pure cl/\eh (eJ X.prog X.w) X.A (eval iter X.env) (λx s₁=>eh (eJ X.prog X.w) X.A (pyIter x) (λit s₂=>eh (eJ X.prog X.w) X.A (newList []) (λAF s₃=>
  eh (eJ X.prog X.w) X.A (newFunctionEnv scope X.env.globals cl [] X.env.qual none .none (some X.env)) (λcenv s₄=>
   ya (eJ X.prog X.w) X.A (.compStart (.ListComp elt [⟨tg,iter,ifs,0⟩] scope pos) 0 it AF { cenv with scope:=relabel scope X.env }) (P AF cenv.locals) s₄) X.xe s₃) X.xe s₂) X.xe s₁) X.xe s:=by
 obtain ⟨cl,hcl,hc1,hc2⟩:=Hs λx hx hf=>I.ok.has x.1 (S.free x hx hf);refine ⟨cl,hcl,thn (hi AD s σ H _ I h) λv s1 h1=>thn h1 λitv s2 h2=>?_⟩;obtain ⟨it,fp,tnn,J,H2,e,I2,T,st2,f2,R⟩:=h2;subst e;refine lp (T7 ?_);generalize hHH:s2.heap.push { cls:=.type "list",dict:=none,data:=.seq ([]:B8).toArray }=HH;have hCs:HH.objs.size=s2.heap.objs.size+1:=by rw[<- hHH,iX]
 have hDC:s2.heap.objs.size≠HH.objs.size:=by rw[hCs];exact fh (sL _)
 have hCle:s2.heap.objs.size<=HH.objs.size:=by rw[hCs];exact Nat.le_succ _
 have Wd:∀b o,HH.get? b=some o->(pushCells (HH.push { cls:=.type "dict",data:=.dict #[] }) scope.names).get? b=some o:=λb o e=>pushCells_keeps _ _ b o (aI _ e);have hns₁:(pushCells (HH.push { cls:=.type "dict",data:=.dict #[] }) scope.names).Ns HH.objs.size (λ_=>none):=(Heap.Ns.new HH (.type "dict")).keeps (pushCells_keeps _ _);have okc:=cellsFrom_ok scope.names (HH.push { cls:=.type "dict",data:=.dict #[] }) (HH.objs.size+1) [] ⟨λ_ _ hm=>(nomatch hm),xh.nil⟩ (by rw[iX];exact aE _);rw[iX] at okc;have eCL:kU (HH.objs.size+1) scope.names cl=kU (HH.objs.size+1) scope.names []++cl:=xV (AF:=[]);have spl:∀x c,(kU (HH.objs.size+1) scope.names cl).lookup x=some c->(scope.names.lookup x=some .cell/\(x,c)∈kU (HH.objs.size+1) scope.names [])\/(cl.lookup x=some c/\scope.names.lookup x≠some .cell):=λx c e=>by
  rw[eCL,List.lookup_append] at e
  cases q:(kU (HH.objs.size+1) scope.names []).lookup x with
  | none=>
   rw[q] at e;refine .inr ⟨e,λz=>?_⟩;have:=oi scope.names (HH.objs.size+1) [] (.inl z);rw[q] at this;cases this
  | some d=>
   rw[q] at e;have e:=e;cases e;have m:=gp q;rcases yN m with z | z
   . nomatch z
   . exact .inl ⟨S.one _ z,m⟩
 have has:∀x,scope.names.lookup x=some .cell\/(cl.lookup x).isSome=true->∃c,(kU (HH.objs.size+1) scope.names cl).lookup x=some c:=λx z=>iq.mp (oi scope.names (HH.objs.size+1) cl z);generalize hCL:kU (HH.objs.size+1) scope.names cl=CL at spl has ⊢;generalize hh1:pushCells (HH.push { cls:=.type "dict",data:=.dict #[] }) scope.names=h₁ at Wd hns₁ okc ⊢;have old:=λb o e=>Wd b o (hHH ▸ aI _ e);have hacc:=Wd _ _ (hHH ▸ c6 _ rfl);have hfo:∀b∈fp,∃o,s2.heap.get? b=some o:=λb hb=>let ⟨o,e,_⟩:=T.obj _ _ st2 b hb;⟨o,e⟩;obtain ⟨W,⟨m0,w0⟩,turn⟩:=R s2.heap.objs.size (I2.AR.fresh (aE _));have uT:∀x c,CL.lookup x=some c->(X.env.cells.lookup x=some c/\scope.names.lookup x≠some .cell)\/(scope.names.lookup x=some .cell/\s2.heap.objs.size<=c/\c≠s2.heap.objs.size/\h₁.IsCell c none):=λx c e=>by
  rcases spl x c e with ⟨z,m⟩ | ⟨z,m⟩
  . obtain ⟨q1,q2⟩:=okc.empty x c m;rw[hCs] at q2;exact .inr ⟨z,by lia,λy=>by rw[y] at q2;lia,q1⟩
  . exact .inl ⟨hc1 x c z,m⟩
 have J0:AJ (X.comp scope tn ix CL HH.objs.size s2 H2 fp) [] (vL tn ix σ) (AM H2 s2.heap.objs.size (.lst [])) { s2 with heap:=h₁,toks:=s2.toks }:=
  AJ.block S I2 uT (λx y c e1 e2 k1 k2=>by
   rcases spl x c e1 with ⟨_,m1⟩ | ⟨_,m1⟩
   . rcases spl y c e2 with ⟨_,m2⟩ | ⟨_,m2⟩
     . exact G9 okc.apart m1 m2
     . exact absurd k2 m2
   . exact absurd k1 m1) (λx z=>has x (.inl z)) (λx hx hf=>by
   obtain ⟨c,e⟩:=hc2 x hx hf;exact has x.1 (.inr (by rw[e];rfl))) f2 hfo old (aE _) hCle hDC hacc ⟨_,hns₁⟩
 have stat:∀{H':Hp},(∀b∈fp,H' b=none)->∀b∈fp,uN (X.comp scope tn ix CL HH.objs.size s2 H2 fp) [] H' b:=λhn b hb=>by
  refine ⟨hn b hb,λz=>?_,λz=>?_,.inl hb,λx c e=>?_,λp hp=>absurd (show p∈([]:A7) from hp) (by simp)⟩
  . obtain ⟨o,e⟩:=hfo b hb;exact absurd (eW (cy e) (by rw[z];exact hCle)) (g9 _)
  . rcases cp.mp (I2.DN b z) with z | z
    . exact (f2 b hb).2.1 z
    . exact (f2 b hb).2.2.1 z
  . rcases uT x c e with z | z
    . exact (f2 b hb).2.2.2.2.1 x c z.1
    . intro y;obtain ⟨o,e'⟩:=hfo b hb;have q:=cy e';rw[<- y] at q;exact absurd q (As.mpr z.2.1)
 have fp0:∀b∈fp,AM H2 s2.heap.objs.size (.lst []) b=none:=λb hb=>by
  obtain ⟨o,e⟩:=hfo b hb;rw[aH (fh (cy e))];exact (f2 b hb).1
 have st1:=T.keep _ _ _ st2 λb hb o e=>old b o e;have loop:∀s₃:dc,s₃={ s2 with heap:=h₁,toks:=s2.toks } ->
  ya (eJ X.prog X.w) X.A (.compLoop (.ListComp elt [⟨tg,iter,ifs,0⟩] scope pos) 0 (.ref it) (.ref s2.heap.objs.size) (compEnvC scope CL HH.objs.size X.env)) (P (.ref s2.heap.objs.size) HH.objs.size) s₃:=by
  rintro s₃ rfl;refine JR (λn s'=>∃i σ' AF H',AJ (X.comp scope tn ix CL HH.objs.size s2 H2 fp) [] σ' H' s'/\tnn i s'.heap/\(∀b∈fp,H' b=none)/\W i n σ' AF H') ?_ m0 ⟨0,_,[],_,J0,st1,fp0,w0⟩;rintro n s3 ⟨i,σ3,AF,H3,I3,st3,fr3,w3⟩;obtain ⟨hD3,ways⟩:=turn i n σ3 AF H3 w3;rcases ways with ⟨stop,qn⟩ | ⟨go,hsz,step⟩
  . refine thn (T.done (X.comp scope tn ix CL HH.objs.size s2 H2 fp) rfl rfl rfl hc i [] s3 σ3 H3 _ I3 (stat fr3) st3 stop) λr s4 az=>?_;obtain ⟨hr,I4⟩:=az;subst hr;have I5:=I2.call' I4.os I4.base I4.AR I4.bare λb hb=>⟨(f2 b hb).2.2.2.1,(f2 b hb).2.1,(f2 b hb).2.2.2.2.1,(f2 b hb).2.2.2.2.2⟩;obtain ⟨m4,hn4,_⟩:=I4.loc;exact hP _ _ s4 H3 I5 ⟨m4,hn4⟩ (I2.rT hCle I4.free) qn
  . refine thn (T.item (X.comp scope tn ix CL HH.objs.size s2 H2 fp) rfl rfl rfl hc i [] s3 σ3 H3 _ I3 (stat fr3) st3 go) λr s4 az=>?_;obtain ⟨u,hr,h4⟩:=az;subst hr;refine thn h4 λ_ s5 az=>?_;obtain ⟨x,H5,I5,r5,y5,st5,fr5⟩:=az;have I5':=I5.pinned (stat fr5) (T.obj _ _ st5);have back:∀{σ7:St}{H7:Hp}{s7:dc},AJ (X.comp scope tn ix CL HH.objs.size s2 H2 fp) ([]++xT fp s5.heap) σ7 H7 s7->AJ (X.comp scope tn ix CL HH.objs.size s2 H2 fp) [] σ7 H7 s7/\tnn (i+1) s7.heap/\∀b∈fp,H7 b=none:=λ{σ7 H7 s7} I7=>by
     refine ⟨I7.wY,T.keep _ _ _ st5 λb hb o e=>(I7.pin (b,o) (cS _ (cS _ (qQ hb e)))).1,λb hb=>?_⟩;obtain ⟨o,e,d⟩:=T.obj _ _ st5 b hb;exact (I7.pin (b,o) (cS _ (cS _ (qQ hb e)))).2.1
    refine thn (hg CL HH.objs.size s2 H2 fp _ s5 σ3 H5 x u _ I5' r5 (step x H5 y5)) λ_ s6 ⟨σ6,H6,I6,q6⟩=>thn (ht CL HH.objs.size s2 H2 fp _ s6 σ6 H6 _ I6 q6) λok s7 az=>?_;obtain ⟨H7,I7,q7⟩:=az
    cases ok with
    | false=>
     rw[if_neg e8] at q7 ⊢;obtain ⟨m',hm,w7⟩:=q7;obtain ⟨b1,b2,b3⟩:=back I7;exact ⟨m',hm,i+1,σ6,AF,H7,b1,b2,b3,w7⟩
    | true=>
     rw[if_pos rfl] at q7 ⊢;refine thn (he CL HH.objs.size s2 H2 fp _ s7 σ6 H7 _ I7 q7) λxv s8 ⟨v8,H8,I8,r8,hD8,m',hm,w8⟩=>thn (yw _ s8 σ6 H8 (.ref s2.heap.objs.size) [v8] (.ref s2.heap.objs.size) [xv] (λ_ H9=>H9=AM H8 s2.heap.objs.size (.lst (AF++[v8]))) I8 rfl (.cons r8 .nil) ⟨_,AF,v8,rfl,rfl,hD8,hsz,rfl⟩) λ_ s9 az=>?_;obtain ⟨_,H9,I9,_,e9⟩:=az;subst e9;obtain ⟨b1,b2,b3⟩:=back I9;exact ⟨m',hm,i+1,σ6,AF++[v8],_,b1,b2,b3,w8⟩
 exact codeAny_compStart_list (loop _ rfl) (T.self X.A 0 _ _ _ st1 (loop _ rfl))
theorem aaC(S:iU X scope ix=true)(hc:X.calm=true)(hi:PI X tg iter wi)
 (hg:∀cl C s₂ H₂ fp,PG (X.comp scope tn ix cl C s₂ H₂ fp) tg g) (ht:∀cl C s₂ H₂ fp,sr (X.comp scope tn ix cl C s₂ H₂ fp) ifs tt) (he:∀cl C s₂ H₂ fp,PE (X.comp scope tn ix cl C s₂ H₂ fp) elt te)
 (hs:∀x,jI iter X.env x=pure x:=by intro _;rfl):PE X (.ListComp elt [⟨tg,iter,ifs,0⟩] scope pos) (Io tn ix wi g tt te):=by
 intro AD s σ H Q I h;obtain ⟨cl,hcl,q⟩:=GX (P:=λAF C=>compPost (eJ X.prog X.w) X.A X.xe none (EP X AD σ Q) AF C) (iU.of S) hc hi hg ht he I h λD C s' H' I' ⟨m,hn⟩ f q=>by
  refine ⟨m,hn,λh' sb=>⟨.ref D,H',?_,rfl,q⟩⟩;exact I'.turned (λb o hb e=>sb.extBut b o hb e) f.1 f.2.1 f.2.2.2.1 f.2.2.2.2.1 f.2.2.2.2.2
 rw[eval_ListComp];exact wpAny_comprehension_free rfl hs hcl (iU.of S).kind (iU.of S).loc q
theorem Ox{y:Str}{py spos:Pos}(hN:X.N.Nodup)(hiN:X.N[i]?=some y)(hy:Loc X.env.scope y)(S:iU X scope ix=true)(hc:X.calm=true)(hi:PI X tg iter wi)
 (hg:∀cl C s₂ H₂ fp,PG (X.comp scope tn ix cl C s₂ H₂ fp) tg g) (ht:∀cl C s₂ H₂ fp,sr (X.comp scope tn ix cl C s₂ H₂ fp) ifs tt) (he:∀cl C s₂ H₂ fp,PE (X.comp scope tn ix cl C s₂ H₂ fp) elt te)
 (hsw:ip (.ListComp elt [⟨tg,iter,ifs,0⟩] scope pos) (some (.Name y py)) spos.line X.env=pure true:=by rfl)
 (hf:X.fn y=true\/X.env.scope.names.lookup y=some .local:=by walk_at "hf")
 (hs:∀x,jI iter X.env x=pure x:=by intro _;rfl):PS X (.Assign [.Name y py] (.ListComp elt [⟨tg,iter,ifs,0⟩] scope pos) spos) (Qf (Io tn ix wi g tt te) (DG i)):=by
 intro AD s σ H E I h;rw[exec_Assign_Name_used _ _ _ _ hsw];refine ag (wpAny_standAt (ag ?_));obtain ⟨cl,hcl,q⟩:=GX (P:=λAF C=>compPost (eJ X.prog X.w) X.A X.xe (some (assign (.Name y py) X.env)) (λ_ s'=>SP X AD E .next s') AF C) (iU.of S) hc hi hg ht he I h λD C s' H' I' ⟨m,hn⟩ f q=>by
  refine wpAny_assign_Name (Gs (v:=.ref D) I' hN hiN hy rfl (λs2 I2 az=>?_) hf);obtain ⟨a,sb,ha⟩:=az;have hCa:C≠a:=by
   rcases ha with ha | ha
   . rw[ha];exact f.2.1
   . exact λz=>f.2.2.2.2.1 y a ha z.symm
  refine ⟨m,hn.sameBut sb hCa,λh' sb'=>⟨_,H',?_,q⟩⟩;exact I2.turned (λb o hb e=>sb'.extBut b o hb e) f.1 f.2.1 f.2.2.2.1 f.2.2.2.2.1 f.2.2.2.2.2
 refine ag (hZ (wpAny_comprehension_free rfl hs hcl (iU.of S).kind (iU.of S).loc q) (λ_ s' hq=>bt (bt hq)) λ_ _ e=>e)
end
variable {K:aw}{H':Hp}{a:Addr}
theorem aG.fP{xs:C0}(e:aG H H')(h:SqT K H a xs):SqT K H' a xs:=by
 rcases h with (h | ⟨o,h⟩) | h
 . exact .inl (.inl (e _ _ h))
 . exact .inl (.inr ⟨o,e _ _ h⟩)
 . exact .inr h
theorem aG.new(h:H a=none)(o:HO):aG H (AM H a o):=λb u q=>by rw[aH (cW q h)];exact q
theorem aG.up{o:HO}(s:aG H H')(h:H a=none):aG H (AM H' a o):=λb u q=>by rw[aH (cW q h)];exact s b u q
mutual
def Is(K:aw)(H:Hp):ab->V->Prop
 | .none,v=>v= .non
 | .bool b,v=>v= .bl b
 | .int i,v=>v= .int i
 | .str x,v=>v= .str x
 | .list ds,v=>∃a vs,v= .ref a/\SqL K H a vs/\eZ K H ds vs
 | .tuple ds,v=>∃a vs,v= .ref a/\SqT K H a vs/\eZ K H ds vs
 | .dict _,_=>False
def eZ(K:aw)(H:Hp):B4->C0->Prop
 | [],vs=>vs=[]
 | d::ds,vs=>∃v r,vs=v::r/\Is K H d v/\eZ K H ds r
end
mutual
theorem Is.mono(e:aG H H'):∀(d:ab) {v:V},Is K H d v->Is K H' d v
 | .none,v,h=>h
 | .bool _,v,h=>h
 | .int _,v,h=>h
 | .str _,v,h=>h
 | .list ds,v,h=>by
  rw[Is] at h ⊢;obtain ⟨a,vs,h1,h2,h3⟩:=h;exact ⟨a,vs,h1,e.seq h2,eZ.mono e ds h3⟩
 | .tuple ds,v,h=>by
  rw[Is] at h ⊢;obtain ⟨a,vs,h1,h2,h3⟩:=h;exact ⟨a,vs,h1,e.fP h2,eZ.mono e ds h3⟩
 | .dict _,v,h=>h
theorem eZ.mono(e:aG H H'):∀(ds:B4) {vs:C0},eZ K H ds vs->eZ K H' ds vs
 | [],vs,h=>h
 | d::ds,vs,h=>by
  rw[eZ] at h ⊢;obtain ⟨v,r,h1,h2,h3⟩:=h;exact ⟨v,r,h1,Is.mono e d h2,eZ.mono e ds h3⟩
end
mutual
theorem Is.reads(I:AJ X AD σ H s):∀(d:ab) {v:V}{u:a8},Is X.K H d v->AK v u->∃as,Reads s.heap u d as
 | .none,v,u,h,r=>by
  rw[Is] at h;subst h;cases r;exact ⟨_,.none⟩
 | .bool b,v,u,h,r=>by
  rw[Is] at h;subst h;cases r;exact ⟨_,.bool b⟩
 | .int i,v,u,h,r=>by
  rw[Is] at h;subst h;obtain ⟨t,rfl⟩:=r;exact ⟨_,.int i t⟩
 | .str x,v,u,h,r=>by
  rw[Is] at h;subst h;obtain ⟨t,rfl⟩:=r;exact ⟨_,.str x t⟩
 | .list ds,v,u,h,r=>by
  rw[Is] at h;obtain ⟨a,vs,rfl,h2,h3⟩:=h;cases r;obtain ⟨AG,rv,⟨o,n,e,c,_,d⟩,_⟩:=I.list h2;obtain ⟨as,q⟩:=eZ.reads I ds h3 rv;exact ⟨_,.list e c d (by simpa using q)⟩
 | .tuple ds,v,u,h,r=>by
  rw[Is] at h;obtain ⟨a,vs,rfl,h2,h3⟩:=h;cases r;obtain ⟨AG,rv,⟨o,e,c,n,d⟩,_⟩:=I.tuple h2;obtain ⟨as,q⟩:=eZ.reads I ds h3 rv;exact ⟨_,.tuple e c d (by simpa using q)⟩
 | .dict _,v,u,h,r=>by
  rw[Is] at h;exact h.elim
theorem eZ.reads(I:AJ X AD σ H s):∀(ds:B4) {vs:C0}{us:B8},eZ X.K H ds vs->AL vs us->∃as,ReadsAll s.heap us ds as
 | [],vs,us,h,r=>by
  rw[eZ] at h;subst h;cases r;exact ⟨_,.nil⟩
 | d::ds,vs,us,h,r=>by
  rw[eZ] at h;obtain ⟨v,rr,rfl,h2,h3⟩:=h
  cases r with
  | cons r1 r2=>
   obtain ⟨as,q⟩:=Is.reads I d h2 r1;obtain ⟨bs,q'⟩:=eZ.reads I ds h3 r2;exact ⟨_,.cons q q'⟩
end
theorem qT:∀ns:B3,lP (ns.map ab.int)=0
 | []=>by rw[ft,lP]
 | n::ns=>by rw[bo,lP,ab.depth,qT ns];rfl
def afA(K:aw):R2:=λx y H Q=>∃d e,Is K H d x/\Is K H e y/\eI d=true/\eI e=true/\Q (.bl (fI d e)) H
def agA(K:aw):R2:=λx y H Q=>∃d e,Is K H d x/\Is K H e y/\eI d=true/\eI e=true/\Q (.bl (!fI d e)) H
theorem adO(hu:X.A.units+64<ke):OpR X (fw .Eq) (afA X.K):=by
 rintro AD s σ H x y v u Q I rx ry ⟨d,e,h1,h2,h3,h4,q⟩;obtain ⟨as,r1⟩:=Is.reads I d h1 rx;obtain ⟨bs,r2⟩:=Is.reads I e h2 ry;exact eq_dataH r1 r2 h3 h4 hu ⟨.bl (fI d e),H,I,rfl,q⟩
theorem ad4(hu:X.A.units+64<ke):OpR X (fw .NotEq) (agA X.K):=by
 rintro AD s σ H x y v u Q I rx ry ⟨d,e,h1,h2,h3,h4,q⟩;obtain ⟨as,r1⟩:=Is.reads I d h1 rx;obtain ⟨bs,r2⟩:=Is.reads I e h2 ry;exact ne_dataH r1 r2 h3 h4 hu ⟨.bl (!fI d e),H,I,rfl,q⟩
def Z4:V->C0->Hp->VK->Prop:=λx vs H Q=>∃(l:Addr) (xs:C0) (i:Int) (y:V),x= .ref l/\vs=[.int i,y]/\H l=some (.lst xs)/\0<=i/\i<=xs.length/\xs.length<1000/\Q .non (AM H l (.lst (xs.take i.toNat++y::xs.drop i.toNat)))
theorem aev{k:Int}(h0:0<=k)(h1:k<1000):¬ (!mw k)=true:=by
 have h:mw k=true:=by
  rw[mw,dS];exact ⟨decide_eq_true (by lia),decide_eq_true (by lia)⟩
 rw[h];decide
theorem Vk:MtM X "list.insert" Z4:=by
 rintro AD s σ H x vs v us Q I rx rv ⟨l,xs,i,y,rfl,rfl,hH,h0,hi,hz,q⟩;cases rx;obtain ⟨u0,u,rfl,r0,ru⟩:=AL.two rv;obtain ⟨t0,rfl⟩:=r0;have hf:=aev h0 (show i<1000 by lia);obtain ⟨z,AG,n,r,hl,e⟩:=I.Yq hH;have hsz:AG.toArray.size<=bE:=by rw[dQ,<- hl];exact z
 refine call_meets F.slot_list_insert ⟨_,e,rfl⟩ F.entry_list_insert (F.args_list_insert_3 _ _ _) (AutoSeq1.list_insert_list_int_val_1 l AG.toArray n i t0 u hf hsz) ⟨e,?_⟩;refine ⟨.non,_,I.W4 (its':=AG.take i.toNat++u::AG.drop i.toNat) hH e ?_ ?_ ?_,rfl,q⟩
 . have hn:¬ i<0:=by lia
   have hm:min i.toNat AG.toArray.size=i.toNat:=by rw[dQ];lia
   rw[if_neg hn,hm];apply Array.ext';simp[h9]
 . exact (r.take i.toNat).append (.cons ru (r.drop i.toNat))
 . rw[av,a9,c8,nV];exact l9 (Tv (by lia))
noncomputable def Itv(K:aw)(a:Addr)(n:Nat):It:=
 ⟨λi H=>i<n/\∃xs x,SqL K H a xs/\xs[n - 1 - i]?=some x,λi H x H'=>H'=H/\∀xs,SqL K H a xs->xs[n - 1 - i]?=some x,λi _=>i=n⟩
variable {P:gc}
theorem V2{tg:Expr}(a it:Addr)(n:Nat):Turn P w K tg (Itv K a n) [it] it (λi h=>h.IsRevIter it a ((n:Int) - 1 - (i:Nat))) where
 mem:=by simp
 obj:=λi h st b hb=>by
  have e:=by simpa using hb
  subst e;obtain ⟨o,e,c,d⟩:=st;exact ⟨o,e,λv z=>by rw[d] at z;cases z⟩
 keep:=λi h h' st k=>st.at λo e=>k it (by simp) o e
 item:=by
  intro X hP hw hK hc i AD s σ H E I hf st hg;subst hP hw hK;obtain ⟨hi,xs,x,hq,hx⟩:=hg;obtain ⟨AG,rv,p,hz⟩:=I.list hq;obtain ⟨u,hu,ru⟩:=rv.get hx;obtain ⟨f0,f1,f2,f3,f4,f5⟩:=hf it (by simp);have e:n - 1 - i=((n - 1 - i:Nat):Int):=by lia
  rw[e] at st;refine wpAny_pyNext_rev_item st p.isList (by simpa using hu) λh' st' sb=>?_;have e2:((n - 1 - i:Nat):Int) - 1=n - 1 - ((i+1:Nat):Int):=by lia
  rw[e2] at st';have I1:=I.turned (t':=s.toks) (λb o hb e=>(sb.2 b hb).trans e) f0 f1 f3 f4 f5;obtain ⟨o,e,c,d⟩:=id st';exact ⟨u,rfl,zy e c d (by decide) ⟨x,H,I1,ru,⟨rfl,λys hy=>by rw[I.wO hy hq];exact hx⟩,st',λb hb=>(hf b hb).1⟩⟩
 done:=by
  intro X hP hw hK hc i AD s σ H E I hf st hg;subst hP hw hK;have hg':=hg;subst hg';obtain ⟨f0,f1,f2,f3,f4,f5⟩:=hf it (by simp);have e:(i:Int) - 1 - i= -1:=by lia
  rw[e] at st;exact wpAny_pyNext_rev_end (I.ok.hd hc) st λh' eb=>⟨rfl,I.turned (λb o hb e=>eb b o hb e) f0 f1 f3 f4 f5⟩
 self:=λ_ _ _ _ _ st h=>wpAny_pyIter_revIter st h
section
variable  {tg:Expr}
def agr(K:aw)(ta:TA):TI:=λσ H R=>ta σ H λvs H1=>∃a xs,vs=[.ref a]/\SqL K H1 a xs/\R (Itv K a xs.length) H1
theorem adH{a:Expr}{ta:TA}{p:Pos}(hg:Gl X "reversed")(hm:X.mg "reversed"= none)(ha:PA X [a] ta)(hs:d6 [a] X.env=[(false,eval a X.env)]:=by rfl):PI X tg (.Call (.Name "reversed" p) [a] [] pos) (agr X.K ta):=by
 intro AD s σ H R I h;refine Call_ (nH I hg hm boot_reversed (iE (thn (ha pos AD s σ H _ I h) λus s1 az=>?_) hs rfl));obtain ⟨vs,H1,I1,r1,q1⟩:=az;obtain ⟨l,xs,e,hq,q⟩:=q1;subst e;obtain ⟨u,rfl,ru⟩:=AL.one r1;cases ru;obtain ⟨AG,rv,pl,hz⟩:=I1.list hq;refine call_reversed_list pl.isList ?_;have hit:(s1.heap.push (revObj l ((AG.toArray.size:Int) - 1))).IsRevIter s1.heap.objs.size l (xs.length - 1 - (0:Int)):=by
  have e1:(AG.toArray.size:Int) - 1=xs.length - 1 - (0:Int):=by
   have:=rv.length;rw[dQ];lia
  rw[e1];exact ⟨_,c6 _ rfl,rfl,rfl⟩
 refine wpAny_pyIter_revIter hit (⟨s1.heap.objs.size,[s1.heap.objs.size],_,_,H1,rfl,I1.kept λb o e=>aI _ e,V2 l _ xs.length,hit,λb hb=>?_,q⟩);have e:=by simpa using hb
 subst e;exact I1.rT (aE _) (I1.AR.fresh (aE _))
end
noncomputable def Ite(K:aw)(a:Addr):It:=
 ⟨λi H=>∃xs x,SqL K H a xs/\xs[i]?=some x,λi H x H'=>∃p v,H p=none/\x= .ref p/\H'=AM H p (.tup [.int (i:Nat),v])/\∀xs,SqL K H a xs->xs[i]?=some v,λi H=>∃xs,SqL K H a xs/\xs.length<=i⟩
variable {y:V}{u:a8}
theorem AJ.zK{h2:Heap}{tk:Nat}{fp:C2}{x:V}{v:a8}{ob:Obj}(I:AJ X AD σ H s)(hf:∀b∈fp,uN X AD H b)
 (k3:∀c o,s.heap.get? c=some o->c∉fp->h2.get? c=some o) (hN:h2.get? s.heap.objs.size=some ob) (ho:ob.cls= .type "tuple") (hd:ob.data= .seq #[u,v] 0) (ru:AK x u) (rv:AK y v) :
 AJ X AD σ (AM H s.heap.objs.size (.tup [x,y])) { s with heap:=h2,toks:=tk }:=by
 have hnew:=I.AR.fresh (aE s.heap.objs.size);have ge:∀c o,H c=some o->c∉fp:=λc o q hc=>by rw[(hf c hc).1] at q;cases q
 have nb:∀b o,s.heap.get? b=some o->b≠s.heap.objs.size:=λb o q=>fh (cy q);refine I.call' (ch:=fp) (s':={ s with heap:=h2,toks:=tk }) rfl ⟨λb o q n _ hc=>k3 b o q hc,λb o q n _ hc=>⟨o.slots,k3 b o q hc⟩,λb o q n hc=>by rw[aH (nb b o q)];exact n,λb o q hc=>⟨o,k3 b o q hc⟩,λb ys q=>?_,λb o y q=>?_,λb ps q=>?_⟩ (λb o q=>?_) I.bare λb hb=>?_
 . rw[aH (cW q hnew)];exact q
 . rw[aH (cW q hnew)];exact q
 . rw[aH (cW q hnew)];exact q
 . by_cases hb:b=s.heap.objs.size
   . subst hb;rw[aY] at q;cases q;exact ⟨by show 2<=bE;decide,[u,v],.cons ru (.cons rv .nil),⟨ob,hN,ho,0,hd⟩⟩
   . rw[aH hb] at q;refine (I.AR b o q).stay (λc w hc q'=>?_) (λc q'=>by rw[aH (cW q' hnew)];exact q') λc ys q'=>by rw[aH (cW q' hnew)];exact q'
     rcases hc with rfl | hc
     . exact k3 c w q' (ge c _ q)
     . exact k3 c w q' (ge c _ hc)
 . obtain ⟨f0,f1,f2,f3,f4,f5⟩:=hf b hb;exact ⟨f3,f1,f4,f5⟩
variable {elts:C1}{tpos:Pos}
theorem U3{x1}(a e it:Addr)(hne:e≠it) :
 Turn P w K (.Tuple elts x1 tpos) (Ite K a) [e,it] e (λi h=>(∃old,IsEnum h e it (i:Nat) old)/\h.IsListIter it a i) where
 mem:=by simp
 obj:=λi h st b hb=>by
  obtain ⟨⟨old,he⟩,o,ho,c,d⟩:=st;have hb':b=e\/b=it:=by simpa using hb
  rcases hb' with rfl | rfl
  . exact ⟨_,he,λv z=>by cases z⟩
  . exact ⟨o,ho,λv z=>by rw[d] at z;cases z⟩
 keep:=λi h h' st k=>by
  obtain ⟨⟨old,he⟩,hl⟩:=st;exact ⟨⟨old,k e (by simp) _ he⟩,hl.at λo q=>k it (by simp) o q⟩
 item:=by
  intro X hP hw hK hc i AD s σ H E I hf st hg;subst hP hw hK;obtain ⟨⟨old,he⟩,hit⟩:=st;obtain ⟨xs,x,hq,hx⟩:=hg;obtain ⟨AG,rv,p,hz⟩:=I.list hq;obtain ⟨u,hu,ru⟩:=rv.get hx;obtain ⟨f0,f1,f2,f3,f4,f5⟩:=hf e (by simp);obtain ⟨g0,g1,g2,g3,g4,g5⟩:=hf it (by simp);refine wpAny_pyNext_enum_item he hit p.isList (x:=u) (by simpa using hu) hne λh' he' hit' ht' hz' hk'=>?_;refine ⟨_,rfl,?_⟩;refine wpAny_letOwnedTupleGo_enum (s:={ s with heap:=h',toks:=s.toks+1 }) he' λh2 he2 sb2=>?_;have hnew:H s.heap.objs.size=none:=I.AR.fresh (aE _);have hpe:s.heap.objs.size≠e:=rg (cy he);have ht2:h2.get? s.heap.objs.size=some { cls:=.type "tuple",data:=.seq #[.int (i:Nat) s.toks,u] }:=sb2.extBut _ _ hpe ht';have k2:∀b o,b≠e->b≠it->s.heap.get? b=some o->h2.get? b=some o:=λb o b1 b2 q=>sb2.extBut b o b1 (hk' b o b1 b2 q);have hit2:h2.IsListIter it a (i+1):=hit'.extBut sb2.extBut (nK hne);have I2:=I.zK (tk:=s.toks+1) (x:=.int (i:Nat)) hf (λc o q hc=>k2 c o (λz=>hc (by simp[z])) (λz=>hc (by simp[z])) q) ht2 rfl rfl ⟨_,rfl⟩ ru;refine ⟨.ref s.heap.objs.size,_,I2,rfl,⟨_,x,hnew,rfl,rfl,λys hy=>by rw[I.wO hy hq];exact hx⟩,⟨⟨u,?_⟩,hit2⟩,λb hb=>?_⟩
  . have e3:(((i+1:Nat)):Int)=(i:Int)+1:=by lia
    rw[e3];exact he2
  . have hb':b=e\/b=it:=by simpa using hb
    rcases hb' with rfl | rfl
    . rw[aH (nK hpe)];exact f0
    . obtain ⟨o,ho,_⟩:=hit;rw[aH (fh (cy ho))];exact g0
 done:=by
  intro X hP hw hK hc i AD s σ H E I hf st hg;subst hP hw hK;obtain ⟨⟨old,he⟩,hit⟩:=st;obtain ⟨xs,hq,hx⟩:=hg;obtain ⟨AG,rv,p,hz⟩:=I.list hq;obtain ⟨g0,g1,g2,g3,g4,g5⟩:=hf it (by simp);have hl:=rv.length;exact wpAny_pyNext_enum_end (I.ok.hd hc) he hit p.isList (by simp;lia) λh' eb=>⟨rfl,I.turned (t':=s.toks) (λb o hb e=>eb b o hb e) g0 g1 g3 g4 g5⟩
 self:=λ_ _ _ _ _ st h=>let ⟨⟨_,he⟩,_⟩:=st;rL he h
structure At (K:aw) (mg:Str->B7) (x:Str) (st:Stmt) (ps:B6):Prop where
 ex:∃f fd,Fun K x x st f fd/\Binds K fd ps []/\mg x=some (.ref f)
structure Def (P:gc) (w:kT) (K:aw) (mg:Str->B7) (base:Heap) (k:Nat) (x:Str) (ps:B6) (sp:Sp):Prop where
 ex:∃f fd,rR P w K mg base CX0 k f fd ps sp/\Binds K fd ps []/\lh K (.ref f)=true/\mg x=some (.ref f)
variable {ps:B6}
section
variable    {mg:Str->B7}{base:Heap}
theorem At.ok{st:Stmt}{N:B6}{sp:Sp}(F:At K mg x st ps)(S:cP N ps (aN st))(len:∀vs H Q E,sp vs H Q E->vs.length=ps.length)
 (hbody:∀(f:Addr) (AH:a8) (A:iS) (AX:C6) (s:dc) (H:Hp) (vs:C0) (Q:VK) (E:XK),dz i (A.deeper (oz x (aN st) s.heap.objs.size f AH))->sp vs H Q E ->
  ∃t,PSs (mF CX0 P w K mg base N x (aN st) f AH A AX s H E).nox (bV st) t/\t { nx:=λ_ H'=>Q .non H',rt:=Q } (start N vs) H):Def P w K mg base (i+1) x ps sp:=by
 obtain ⟨f,fd,F,b,m⟩:=F.ex;exact ⟨f,fd,F.ok S len (hbody f),b,F.kp,m⟩
theorem At.mk'{st:Stmt}{od an:C4}{osl:Array B7}{kV doc pm AH ct:a8}(m:mg x=some (.ref a))
 (l:K.lookup a=some ⟨u,od,.func (fe x x (cF st) (bV st) (aN st) .none kV doc pm an AH ct),osl⟩) (c:mr K AH x=true) (k:lh K (.ref a)=true)
 (h:∀(kV doc pm:a8) (an:C4) (AH ct:a8) (us:B8),us.length=ps.length->kF (fe x x (cF st) (bV st) (aN st) .none kV doc pm an AH ct) ⟨us,[]⟩=pure (ps.zip us)):At K mg x st ps:=
 ⟨a,_,Jc l c k,(Jc l c k).binds h,m⟩
end
section
variable  {k:Nat}   {sp:Sp}{p:Pos}{e:Expr}{es:C1}{t:TA}
theorem Cw(F:Def X.prog X.w X.K X.mg X.base k x ps sp)(hr:dz k X.A)(hg:Gl X x)(ha:PA X (e::es) t)(hdb:nD x:=by decide)
 (he:d6 (e::es) X.env=(false,eval e X.env)::d6 es X.env:=by rfl) (hpl:(nS pos (d6 es X.env)).any (·.1)=false:=by rfl):PE X (.Call (.Name x p) (e::es) [] pos) (Zf sp [] E0 t):=by
 obtain ⟨f,fd,F,b,kp,m⟩:=F.ex;exact ZL F hr hg m kp b .nil aeT ha hdb he hpl
end
variable {it l:Addr}{Q:B2}{items AG:Array a8}
section
open Builtin Builtin.Str
theorem jg{items}{x:a8}(hit:s.heap.IsTupleIter it l i)
 (hl:s.heap.IsTuple l items) (hx:items[i]?=some x)
 (hQ:∀h',h'.IsTupleIter it l (i+1)->oS it s.heap h'->Q x { s with heap:=h' }) :
 eh (eJ prog w) A (Builtin.SmallTypes.nextOf (.ref it)) Q E s:=by
 obtain ⟨o,ho,hc,hd⟩:=id hit;obtain ⟨ol,hol,_,nl,hdl⟩:=hl;refine ag (gy hit.typeIs mx
  (gz mx hit.typeIs F.entry_tuple_iterator_next ?_ (tN _)))
 show eh _ _ (field (.ref it) 0 >>= _) _ _ s;refine ag (jS ho hd rfl ?_);show eh _ _ (if (iN l == a8.none)=true then _ else _) _ _ s;rw[if_neg (show ¬ ((iN l == a8.none)=true) from e8)];refine ag (jS ho hd rfl (ag (fR hol hdl ?_)));simp only[cE,hx];refine ag (wpAny_setField ho hd (by simp) (bt ⟨x,rfl,bt (hQ _ ?_ (pe ..))⟩));exact ⟨_,Heap.get?_update_self _ ho (Obj.isFreed_of_fields (Obj.data_mapFields hd _)),(Obj.cls_mapFields ..).trans hc,by
  rw[Obj.data_mapFields hd];simp[sF]⟩
theorem jG{items}(hh:A.handled=none)
 (hit:s.heap.IsTupleIter it l i) (hl:s.heap.IsTuple l items) (hx:items[i]?=none)
 (hE:∀h' e,Heap.ExtBut it s.heap h'->(∃o,h'.get? e=some o/\o.cls= .type "StopIteration")->E (.ref e) { s with heap:=h' }) :
 eh (eJ prog w) A (Builtin.SmallTypes.nextOf (.ref it)) Q E s:=by
 obtain ⟨o,ho,hc,hd⟩:=id hit;obtain ⟨ol,hol,_,nl,hdl⟩:=hl;refine ag (gy hit.typeIs mx
  (gz mx hit.typeIs F.entry_tuple_iterator_next ?_ (tN _)))
 show eh _ _ (field (.ref it) 0 >>= _) _ _ s;refine ag (jS ho hd rfl ?_);show eh _ _ (if (iN l == a8.none)=true then _ else _) _ _ s;rw[if_neg (show ¬ ((iN l == a8.none)=true) from e8)];refine ag (jS ho hd rfl (ag (fR hol hdl ?_)));simp only[cE,hx];refine ag (vE (ag (wpAny_setField ho hd (by simp) (ag ?_))));refine ag (lp ?_ (by size_fits));refine ag (wpAny_of_eq (by first | rfl | (rfl)) (lp ?_ (by size_fits)));refine ag (wpAny_handled ?_)
 first | rw[hh] | rw[hh]
 exact ag (bt (wpAny_throw (hE _ _ (((pe ..).extBut.push _).push _) ⟨_,c6 _ rfl,rfl⟩)))
theorem _root_.PySem.Draws.tuple(hh:A.handled=none)(it l:Addr)(hne:l≠it)(items:Array a8) :
 Draws prog w A it [it,l] items.size (λi v=>items[i]?=some v) (λi h=>h.IsTupleIter it l i/\h.IsTuple l items) where
 live:=λ_ _ st=>let ⟨o,ho,_⟩:=st.1;⟨o,ho⟩
 frame:=λ_ _ _ st hk=>⟨st.1.at λo e=>hk it (by simp) o e,let ⟨o,ho,r⟩:=st.2;⟨o,hk l (by simp) o ho,r⟩⟩
 item:=λi s Q E hi st hQ=>by
  exact jg st.1 st.2 (x:=items[i]) (by simp[hi]) λh' hit' hs'=>hQ _ h' s.toks (by simp[hi]) ⟨hit',let ⟨o,ho,r⟩:=st.2;⟨o,hs'.extBut l o hne ho,r⟩⟩ hs'
 done:=λs Q E st hE=>jG hh st.1 st.2 (by simp) hE
theorem uJ{Q:B7->dc->Prop}(hh:A.in1.handled=none)
 (he:IsEnum s.heap a it i u) (hit:s.heap.IsTupleIter it l i) (hl:s.heap.IsTuple l items) (hx:items[i]?=none)
 (hQ:∀h',Heap.ExtBut it s.heap h'->Q none { s with heap:=h' }):eh (eJ prog w) A (pyNext (.ref a)) Q E s:=by
 have hT:s.TypeIs (.ref a) "enumerate" := ⟨_,he,rfl⟩;refine ag (wpAny_attempt (gy hT F.slot_enumerate_next
  (gz F.slot_enumerate_next hT F.entry_enumerate_next ?_ (F.args_enumerate_next_1 _))))
 show eh _ _ (field (.ref a) 2 >>= _) _ _ _;refine ag (jS he rfl rfl (ag (jG hh hit hl hx λh' x he' hx'=>?_)));obtain ⟨o,ho,hc⟩:=hx';exact ag (pb ⟨o,ho,hc⟩ isSubtype_stop (bt (hQ _ he')))
open AutoSeq1 (wpAny_loadPart') in
theorem vV(l:Addr)(items:Array a8)(n:Nat)(dct:C4)(sl:Array B7) :
 Meets (Builtin.«enumerate.__new__» ⟨[.type "enumerate",.ref l],[]⟩) (λ_ R s=>s.heap.get? l=some { cls:=.type "tuple",dict:=dct,data:=.seq items n,slots:=sl } /\
  R (.ok (.ret (.ref (s.heap.push { cls:=.type "tuple_iterator",data:=.fields #[.ref l,.int 0 0] }).objs.size)))
   { s with heap:=(s.heap.push { cls:=.type "tuple_iterator",data:=.fields #[.ref l,.int 0 0] }).push { cls:=.type "enumerate",data:=.fields #[.none,.bool false,.ref s.heap.objs.size,sF 0,.none,.none] } }):=
 .of_wp λprog w A R s h=>by
  obtain ⟨hp,g,d,tk,os⟩:=s;obtain ⟨hl,h⟩:=h;have hsub:=sub_enumerate;have hL:Heap.IsTuple (Shared.heap ⟨hp,g,d,tk,os⟩) l items:=⟨_,hl,rfl,n,rfl⟩
  wp_walk using t9 hl
  refine wpAny_stack_any λst=>bt ?_;split
  . rename_i c _ _ _ _ _;cases (c == kD "enumerate")
    . wp_walk using t9 hl,mB hL
      exact ⟨_,rfl,h⟩
    . wp_walk using t9 hl,mB hL
      exact ⟨_,rfl,h⟩
  . wp_walk using t9 hl,mB hL
    exact ⟨_,rfl,h⟩
theorem yZ(hL:s.heap.IsTuple l items)
 (h:∀h',IsEnum h' (s.heap.objs.size+1) s.heap.objs.size 0 .none->h'.IsTupleIter s.heap.objs.size l 0->h'.objs.size=s.heap.objs.size+2 ->
  (∀b o,s.heap.get? b=some o->h'.get? b=some o)->Q (.ref (s.heap.objs.size+1)) { s with heap:=h' }) :
 eh (eJ prog w) A (call (.type "enumerate") [.ref l]) Q E s:=by
 obtain ⟨⟨c,dct,dt,sl⟩,hl,hc,n,hd⟩:=hL;replace hc:c= .type "tuple" := hc;replace hd:dt= .seq items n:=hd;subst hc hd;refine callType_new F.called_enumerate (by decide) (F.typeCall_enumerate_1 _) (F.newCall_enumerate_1 _) (λobj=>F.args_object_init_2 obj _) F.entry_enumerate_new
  (vV l items n dct sl) ⟨hl,?_⟩
 have hz:(s.heap.push { cls:=.type "tuple_iterator",data:=.fields #[.ref l,.int 0 0] }).objs.size=s.heap.objs.size+1:=iX ..
 rw[hz];have he:=by
  have:=c6 (s.heap.push { cls:=.type "tuple_iterator",data:=.fields #[.ref l,.int 0 0] })
   (o:={ cls:=.type "enumerate",data:=.fields #[.none,.bool false,.ref s.heap.objs.size,sF 0,.none,.none] }) rfl
  rwa [hz] at this
 refine ⟨⟨_,he,rfl⟩,h _ he ⟨_,aI _ (c6 _ rfl),rfl,rfl⟩ (by rw[iX,hz]) λb o x=>aI _ (aI _ x)⟩
theorem Qx{h:Heap}(p:h.IsTuple a AG)(q:h.IsTupleIter it l i):a≠it:=by
 rintro rfl;obtain ⟨o,ho,c,_⟩:=p;obtain ⟨o',ho',c',_⟩:=q;rw[ho] at ho';cases ho';rw[c] at c';exact absurd c' (by decide)
theorem Qo{h:Heap}{e:Addr}{i:Int}(p:h.IsTuple a AG)(q:IsEnum h e it i u):a≠e:=by
 rintro rfl;obtain ⟨o,ho,c,_⟩:=p;rw[q] at ho;cases ho;exact absurd c (by show ¬ (kD "enumerate"= kD "tuple");decide)
noncomputable def Wk(K:aw)(a:Addr):It:=
 ⟨λi H=>∃xs x,SqT K H a xs/\xs[i]?=some x,λi H x H'=>∃p v,H p=none/\x= .ref p/\H'=AM H p (.tup [.int (i:Nat),v])/\∀xs,SqT K H a xs->xs[i]?=some v,λi H=>∃xs,SqT K H a xs/\xs.length<=i⟩
theorem Rr{x1}(a e it:Addr)(hne:e≠it) :
 Turn P w K (.Tuple elts x1 tpos) (Wk K a) [e,it] e (λi h=>(∃old,IsEnum h e it (i:Nat) old)/\h.IsTupleIter it a i) where
 mem:=by simp
 obj:=λi h st b hb=>by
  obtain ⟨⟨old,he⟩,o,ho,c,d⟩:=st;have hb':b=e\/b=it:=by simpa using hb
  rcases hb' with rfl | rfl
  . exact ⟨_,he,λv z=>by cases z⟩
  . exact ⟨o,ho,λv z=>by rw[d] at z;cases z⟩
 keep:=λi h h' st k=>by
  obtain ⟨⟨old,he⟩,hl⟩:=st;exact ⟨⟨old,k e (by simp) _ he⟩,hl.at λo q=>k it (by simp) o q⟩
 item:=by
  intro X hP hw hK hc i AD s σ H E I hf st hg;subst hP hw hK;obtain ⟨⟨old,he⟩,hit⟩:=st;obtain ⟨xs,x,hq,hx⟩:=hg;obtain ⟨AG,rv,p,hz⟩:=I.tuple hq;obtain ⟨u,hu,ru⟩:=rv.get hx;obtain ⟨f0,f1,f2,f3,f4,f5⟩:=hf e (by simp);obtain ⟨g0,g1,g2,g3,g4,g5⟩:=hf it (by simp);have pt:s.heap.IsTuple a AG.toArray:=p;have nai:a≠it:=Qx pt hit;have nae:a≠e:=Qo pt he;refine wpAny_pyNext_enum_itemD (Draws.tuple (show X.A.in1.handled=none from I.ok.hd hc) it a nai AG.toArray) he ⟨hit,pt⟩ (by have:=rv.length;have:=(aS.mp hx).1;simp;lia) hne (by simp[hne,nK nae]) λu' h' tk hu' he' st' ht' hz' hk'=>?_;have eu:u'=u:=by
   have:AG[i]?=some u':=by simpa using hu'
   rw[hu] at this;exact (Option.some.inj this).symm
  subst eu;obtain ⟨hit',-⟩:=st';refine ⟨_,rfl,?_⟩;refine wpAny_letOwnedTupleGo_enum (s:={ s with heap:=h',toks:=tk+1 }) he' λh2 he2 sb2=>?_;have hnew:H s.heap.objs.size=none:=I.AR.fresh (aE _);have hpe:s.heap.objs.size≠e:=rg (cy he);have ht2:h2.get? s.heap.objs.size=some { cls:=.type "tuple",data:=.seq #[.int (i:Nat) tk,u'] }:=sb2.extBut _ _ hpe ht';have k2:∀b o,b≠e->b≠it->s.heap.get? b=some o->h2.get? b=some o:=λb o b1 b2 q=>sb2.extBut b o b1 (hk' b o b1 b2 q);have hit2:h2.IsTupleIter it a (i+1):=hit'.extBut sb2.extBut (nK hne);have I2:=I.zK (tk:=tk+1) (x:=.int (i:Nat)) hf (λc o q hc=>k2 c o (λz=>hc (by simp[z])) (λz=>hc (by simp[z])) q) ht2 rfl rfl ⟨_,rfl⟩ ru;refine ⟨.ref s.heap.objs.size,_,I2,rfl,⟨_,x,hnew,rfl,rfl,λys hy=>by rw[I.yr hy hq];exact hx⟩,⟨⟨u',?_⟩,hit2⟩,λb hb=>?_⟩
  . have e3:(((i+1:Nat)):Int)=(i:Int)+1:=by lia
    rw[e3];exact he2
  . have hb':b=e\/b=it:=by simpa using hb
    rcases hb' with rfl | rfl
    . rw[aH (nK hpe)];exact f0
    . obtain ⟨o,ho,_⟩:=hit;rw[aH (fh (cy ho))];exact g0
 done:=by
  intro X hP hw hK hc i AD s σ H E I hf st hg;subst hP hw hK;obtain ⟨⟨old,he⟩,hit⟩:=st;obtain ⟨xs,hq,hx⟩:=hg;obtain ⟨AG,rv,p,hz⟩:=I.tuple hq;obtain ⟨g0,g1,g2,g3,g4,g5⟩:=hf it (by simp);have hl:=rv.length;have pt:s.heap.IsTuple a AG.toArray:=p;exact uJ (show X.A.in1.handled=none from I.ok.hd hc) he hit pt (by simp;lia) λh' eb=>⟨rfl,I.turned (t':=s.toks) (λb o hb e=>eb b o hb e) g0 g1 g3 g4 g5⟩
 self:=λ_ _ _ _ _ st h=>let ⟨⟨_,he⟩,_⟩:=st;rL he h
def acC(K:aw)(ta:TA):TI:=λσ H R=>ta σ H λvs H1=>∃a xs,vs=[.ref a]/\((SqL K H1 a xs/\R (Ite K a) H1)\/(SqT K H1 a xs/\R (Wk K a) H1))
theorem Jy{x1}{a:Expr}{ta:TA}{p:Pos}(hg:Gl X "enumerate")(hm:X.mg "enumerate"= none)(ha:PA X [a] ta)(hs:d6 [a] X.env=[(false,eval a X.env)]:=by rfl) :
 PI X (.Tuple elts x1 tpos) (.Call (.Name "enumerate" p) [a] [] pos) (acC X.K ta):=by
 intro AD s σ H R I h;refine Call_ (nH I hg hm (show fm "enumerate"= some (.type "enumerate") by decide +kernel) (iE (thn (ha pos AD s σ H _ I h) λus s1 az=>?_) hs rfl));obtain ⟨vs,H1,I1,r1,q1⟩:=az;obtain ⟨l,xs,e,q⟩:=q1;subst e;obtain ⟨u,rfl,ru⟩:=AL.one r1;cases ru;have hfp:∀b,b∈[s1.heap.objs.size+1,s1.heap.objs.size]->_:=λb hb=>by
  have hb':=by simpa using hb
  exact show s1.heap.objs.size<=b by lia
 rcases q with ⟨hq,q⟩ | ⟨hq,q⟩
 . obtain ⟨AG,rv,pl,hz⟩:=I1.list hq;refine call_enumerate_list pl.isList λh' he hit hz' k=>rL he ?_;exact ⟨s1.heap.objs.size+1,[s1.heap.objs.size+1,s1.heap.objs.size],_,_,H1,rfl,I1.kept k,U3 l _ _ (Nat.succ_ne_self _),⟨⟨_,he⟩,hit⟩,λb hb=>I1.rT (hfp b hb) (I1.AR.fresh (hfp b hb)),q⟩
 . obtain ⟨AG,rv,pl,hz⟩:=I1.tuple hq;have pt:=pl;refine yZ pt λh' he hit hz' k=>rL he ?_;exact ⟨s1.heap.objs.size+1,[s1.heap.objs.size+1,s1.heap.objs.size],_,_,H1,rfl,I1.kept k,Rr l _ _ (Nat.succ_ne_self _),⟨⟨_,he⟩,hit⟩,λb hb=>I1.rT (hfp b hb) (I1.AR.fresh (hfp b hb)),q⟩
end
variable {o:Option V}
section
variable {κ:Type} [DecidableEq κ]
noncomputable def gY(AE:List (κ×V))(k:κ):Option V:=(AE.find? λkv=>decide (kv.1=k)).map (·.2)
noncomputable def putK(AE:List (κ×V))(k:κ)(v:V):List (κ×V):=
 if (AE.any λkv=>decide (kv.1=k))=true then AE.map (λkv=>if kv.1=k then (kv.1,v) else kv) else AE++[(k,v)]
noncomputable def uv(AE:List (κ×V))(k:κ):List (κ×V):=AE.filter λkv=>decide (kv.1≠k)
theorem oO{p:κ×V}{r:List (κ×V)}{k:κ}(e:p.1=k):gY (p::r) k=some p.2:=by simp[gY,ij,e]
theorem oG{p:κ×V}{r:List (κ×V)}{k:κ}(e:¬ p.1=k):gY (p::r) k=gY r k:=by simp[gY,ij,e]
theorem Bp(k:κ):∀AE:List (κ×V),(AE.any λkv=>decide (kv.1=k))=(gY AE k).isSome
 | []=>rfl
 | p::r=>by
  rw[kC]
  by_cases e:p.1=k
  . simp only[oO e,decide_eq_true e,AA,Option.isSome_some]
  . rw[oG e,decide_eq_false e,xi];exact Bp k r
theorem o9(AE:List (κ×V))(k:κ)(v:V):(putK AE k v).length<=AE.length+1:=by
 unfold putK;split
 . rw[af];lia
 . rw[av,a9,lS];lia
theorem mG.lz{u:B7}(r:mG o u):o.isSome=u.isSome:=by
 cases o with
 | none=>cases u with
  | none=>rfl
  | some _=>exact (r).elim
 | some _=>cases u with
  | none=>exact (r).elim
  | some _=>rfl
theorem mG.getD{u:B7}{d':a8}(r:mG o u)(rd:AK y d'):AK (o.getD y) (u.getD d'):=by
 cases o with
 | none=>cases u with
  | none=>exact rd
  | some _=>exact (r).elim
 | some _=>cases u with
  | none=>exact (r).elim
  | some _=>exact r
theorem KV.val{AE:List (κ×V)}{vs:List (κ×a8)}(r:KV AE vs)(k:κ):mG (gY AE k) (wq vs k):=by
 induction r with
 | nil=>exact kr
 | @cons p q ps qs h t ih=>
  obtain ⟨h1,h2⟩:=h
  by_cases e:p.1=k
  . have e':=h1.symm.trans e;have b:wq (q::qs) k=some q.2:=by simp[wq,ij,e']
    rw[oO e,b];exact h2
  . have e':¬ q.1=k:=λz=>e (h1.trans z);have b:wq (q::qs) k=wq qs k:=by simp[wq,ij,e']
    rw[oG e,b];exact ih
theorem KV.any{AE:List (κ×V)}{vs:List (κ×a8)}(r:KV AE vs)(k:κ):(AE.any λkv=>decide (kv.1=k))=vs.any λkv=>decide (kv.1=k):=by
 induction r with
 | nil=>rfl
 | cons h t ih=>rw[kC,kC,ih,h.1]
theorem KV.repl{AE:List (κ×V)}{vs:List (κ×a8)}(r:KV AE vs)(k:κ)(ry:AK y u) :
 KV (AE.map λkv=>if kv.1=k then (kv.1,y) else kv) (vs.map λkv=>if kv.1=k then (kv.1,u) else kv):=by
 induction r with
 | nil=>exact .nil
 | @cons p q ps qs h t ih=>
  rw[bo,bo];refine .cons ?_ ih;obtain ⟨h1,h2⟩:=h
  by_cases e:p.1=k
  . rw[if_pos e,if_pos (h1.symm.trans e)];exact ⟨h1,ry⟩
  . rw[if_neg e,if_neg (λz=>e (h1.trans z))];exact ⟨h1,h2⟩
theorem KV.put{AE:List (κ×V)}{vs:List (κ×a8)}(r:KV AE vs)(k:κ)(ry:AK y u):KV (putK AE k y) (stored vs k u):=by
 unfold putK stored;rw[r.any k]
 by_cases e:(vs.any λkv=>decide (kv.1=k))=true
 . rw[if_pos e,if_pos e];exact r.repl k ry
 . rw[if_neg e,if_neg e];exact ka.snoc r ⟨rfl,ry⟩
theorem KV.drop{AE:List (κ×V)}{vs:List (κ×a8)}(r:KV AE vs)(k:κ):KV (uv AE k) (without vs k):=by
 unfold uv without
 induction r with
 | nil=>exact .nil
 | @cons p q ps qs h t ih=>
  obtain ⟨h1,h2⟩:=h;rw[List.filter_cons,List.filter_cons]
  by_cases e:p.1=k
  . have a:¬ decide (p.1≠k)=true:=by simp[e]
    have b:¬ decide (q.1≠k)=true:=by simp[h1.symm.trans e]
    rw[if_neg a,if_neg b];exact ih
  . have e':¬ q.1=k:=λz=>e (h1.trans z);have a:decide (p.1≠k)=true:=by simp[e]
    have b:decide (q.1≠k)=true:=by simp[e']
    rw[if_pos a,if_pos b];exact .cons ⟨h1,h2⟩ ih
theorem KV.length{AE:List (κ×V)}{vs:List (κ×a8)}(r:KV AE vs):AE.length=vs.length:=ka.length r
theorem Xe(AE:List (κ×V))(k:κ):(uv AE k).length<=AE.length:=sj _ _
end
theorem wj{k:Key}(r:AK (kV k) u):(b7 P w).is k u=true:=by
 cases k with
 | inl i=>obtain ⟨t,e⟩:=(r);subst e;exact M7 P w i t
 | inr x=>obtain ⟨t,e⟩:=(r);subst e;exact Np P w x t
theorem Hl:∀{ks:C7}{us:B8},AL (ks.map kV) us->ItemsAre (b7 P w) ks us
 | [],_,r=>by rw[ft] at r;cases r;exact .nil
 | k::ks,_,r=>by
  rw[bo] at r
  cases r with
  | cons h t=>exact .cons (wj h) (Hl t)
abbrev KT(H:Hp):List (C7×V)->List (C7×Addr×a8)->Prop:=ka λp q=>p.1=q.1/\H q.2.1=some (.tup (p.1.map kV))/\AK p.2 q.2.2
variable {AE:List (C7×V)}{xs:List (C7×Addr×a8)}
theorem KT.val(r:KT H AE xs)(k:C7):mG (gY AE k) ((pz xs k).map (·.2)):=by
 induction r with
 | nil=>exact kr
 | @cons p q ps qs h t ih=>
  obtain ⟨h1,_,h2⟩:=h
  by_cases e:p.1=k
  . have e':=h1.symm.trans e;have b:pz (q::qs) k=some q.2:=by simp[pz,ij,e']
    rw[oO e,b];exact h2
  . have e':¬ q.1=k:=λz=>e (h1.trans z);have b:pz (q::qs) k=pz qs k:=by simp[pz,ij,e']
    rw[oG e,b];exact ih
theorem KT.repl(r:KT H AE xs)(k:C7)(ry:AK y u) :
 KT H (AE.map λkv=>if kv.1=k then (kv.1,y) else kv) (xs.map (putAt k u)):=by
 induction r with
 | nil=>exact .nil
 | @cons p q ps qs h t ih=>
  rw[bo,bo];refine .cons ?_ ih;obtain ⟨h1,h2,h3⟩:=h;unfold putAt
  by_cases e:p.1=k
  . rw[if_pos e,if_pos (h1.symm.trans e)];exact ⟨h1,h2,ry⟩
  . rw[if_neg e,if_neg (λz=>e (h1.trans z))];exact ⟨h1,h2,h3⟩
theorem KT.put(r:KT H AE xs)(k:C7)(hb:H a=some (.tup (k.map kV)))(ry:AK y u) :
 KT H (putK AE k y) (wx xs k a u):=by
 have e:(AE.any λkv=>decide (kv.1=k))=(pz xs k).isSome:=by
  rw[Bp,(r.val k).lz,kH]
 unfold putK wx;rw[e]
 by_cases q:(pz xs k).isSome=true
 . rw[if_pos q,if_pos q];exact r.repl k ry
 . rw[if_neg q,if_neg q];exact ka.snoc r ⟨rfl,hb,ry⟩
theorem KT.keeps(r:KT H AE xs)(ht:∀b ys,H b=some (.tup ys)->H' b=some (.tup ys)):KT H' AE xs:=
 Paired.rP r λ_ _ z=>⟨z.1,ht _ _ z.2.1,z.2.2⟩
section
variable    {h:Heap}
theorem Ze{u:HO}(ok:HOk P w H h)(e:Rd H a u):fX P w H h a u:=e.ok ok
theorem qw{AE:A8}(ok:HOk P w H h)(e:Rd H a (.dK AE)):AE.length<=bE/\(a == fT)=false/\∃vs,KV AE vs/\h.DictOf (b7 P w) a vs:=
 Ze ok e
theorem Di{AE:A8}(ok:HOk P w H h)(e:H a=some (.dK AE)):AE.length<=bE/\(a == fT)=false/\∃vs,KV AE vs/\h.DictOf (b7 P w) a vs:=qw ok (.inl e)
theorem xZ{ks:C7}(ok:HOk P w H h)(e:H a=some (.tup (ks.map kV))):(qB (b7 P w)).is h ks a:=by
 obtain ⟨_,AG,r,o,h1,h2,n,h3⟩:=(ok a _ e);exact ⟨o,AG.toArray,n,h1,h2,h3,by simpa using Hl r⟩
theorem zE(ok:HOk P w H h)(e:Rd H a (.dT AE)):AE.length<=bE/\(a == fT)=false /\
 ∃xs,KT H AE xs/\h.DictOfH (qB (b7 P w)) a xs:=by
 obtain ⟨z,y,xs,r,o,es,ep,h1,h2,h3,h4,h5⟩:=(Ze ok e);refine ⟨z,y,xs,r,o,es,ep,h1,h2,h3,h4,λx hx=>?_,h5⟩;have all:∀{l:List (C7×V)}{m:List (C7×Addr×a8)},KT H l m->∀x∈m,(qB (b7 P w)).is h x.1 x.2.1:=by
  intro l m q
  induction q with
  | nil=>intro x hx;exact nomatch hx
  | @cons p q ps qs hq t ih=>
   intro x hx;rcases cp.mp hx with e | hx
   . subst e;exact xZ ok (by rw[<- hq.1];exact hq.2.1)
   . exact ih x hx
 exact all r x hx
theorem afc(ok:HOk P w H h)(e:H a=some (.dT AE)):AE.length<=bE/\(a == fT)=false /\
 ∃xs,KT H AE xs/\h.DictOfH (qB (b7 P w)) a xs:=zE ok (.inl e)
end
def Jd(H:Hp)(a:Addr)(y:V)(r:Option V):Prop:=
 (∃AE k,Rd H a (.dK AE)/\y=kV k/\r=gY AE k)\/∃AE k b,Rd H a (.dT AE)/\y= .ref b/\H b=some (.tup (k.map kV))/\r=gY AE k
def Ey(H:Hp)(a:Addr)(y v:V)(H':Hp):Prop:=
 (∃AE k,H a=some (.dK AE)/\y=kV k/\AE.length<bE/\H'=AM H a (.dK (putK AE k v))) \/
 ∃AE k b,H a=some (.dT AE)/\y= .ref b/\H b=some (.tup (k.map kV))/\AE.length<bE/\H'=AM H a (.dT (putK AE k v))
theorem Ey.k{AE:A8}{k:Key}(e:H a=some (.dK AE))(hl:AE.length<bE):Ey H a (kV k) y (AM H a (.dK (putK AE k y))):=.inl ⟨AE,k,e,rfl,hl,rfl⟩
section
variable       {v:V}{r:a8}
theorem AJ.big(I:AJ X AD σ H s):fT<s.heap.objs.size:=by
 have h:=(I.mod.glob.keeps I.bk).lt;exact Nat.lt_trans (by decide) h
theorem Ut(hu:A.units+1<ke)(I:AJ X AD σ H s)(g:Jd H a y (some v))(ry:AK y u)(h:∀w' s',AJ X AD σ H s'->AK v w'->Q w' s') :
 eh (eJ X.prog X.w) A (pV (.ref a) u) Q E s:=by
 rcases g with ⟨AE,k,e,ey,l⟩ | ⟨AE,k,b,e,ey,eb,l⟩
 . subst ey;obtain ⟨z,hd,vs,rel,dd⟩:=qw I.AR e;obtain ⟨w',hw,rw'⟩:=mG.some_of (by rw[l];exact rel.val k);exact wpAny_getItem_of (wj ry) dd.mapOf hw (h w' _ (I.tok _) rw')
 . subst ey;cases (ry);obtain ⟨z,hd,xs,rel,dd⟩:=zE I.AR e;obtain ⟨w',hw,rw'⟩:=mG.some_of (by rw[l];exact rel.val k);obtain ⟨p,hp,hp2⟩:=md.mp hw;refine vF (qr hu) (xZ I.AR eb) dd hp ?_;rw[hp2];exact h w' _ (I.tok _) rw'
theorem agc(hu:A.units+1<ke)(I:AJ X AD σ H s)(g:Jd H a y o)(ry:AK y u)(h:∀s',AJ X AD σ H s'->Q (.bool o.isSome) s') :
 eh (eJ X.prog X.w) A (fw .In u (.ref a)) Q E s:=by
 rcases g with ⟨AE,k,e,ey,l⟩ | ⟨AE,k,b,e,ey,eb,l⟩
 . subst ey;obtain ⟨z,hd,vs,rel,dd⟩:=qw I.AR e;refine wpAny_in_of (wj ry) hd dd.mapOf ?_;rw[<- (rel.val k).lz,<- l];exact h _ (I.tok _)
 . subst ey;cases (ry);obtain ⟨z,hd,xs,rel,dd⟩:=zE I.AR e;refine wpAny_in_heap (qr hu) (xZ I.AR eb) hd dd ?_;have q:=(rel.val k).lz;rw[kH] at q;rw[<- q,<- l];exact h _ (I.tok _)
theorem aaJ(hu:A.units+1<ke)(I:AJ X AD σ H s)(g:Jd H a y o)(ry:AK y u)(h:∀s',AJ X AD σ H s'->Q (.bool (!o.isSome)) s') :
 eh (eJ X.prog X.w) A (fw .NotIn u (.ref a)) Q E s:=by
 rcases g with ⟨AE,k,e,ey,l⟩ | ⟨AE,k,b,e,ey,eb,l⟩
 . subst ey;obtain ⟨z,hd,vs,rel,dd⟩:=qw I.AR e;refine wpAny_notIn_of (wj ry) hd dd.mapOf ?_;rw[<- (rel.val k).lz,<- l];exact h _ (I.tok _)
 . subst ey;cases (ry);obtain ⟨z,hd,xs,rel,dd⟩:=zE I.AR e;refine wpAny_notIn_heap (qr hu) (xZ I.AR eb) hd dd ?_;have q:=(rel.val k).lz;rw[kH] at q;rw[<- q,<- l];exact h _ (I.tok _)
theorem mV{h':Heap}{t':Nat}{ob:HO}(I:AJ X AD σ H s)(mu:Mut (H a))(hs:oS a s.heap h')(he:∃q,h'.get? a=some q)(new:fX X.prog X.w (AM H a ob) h' a ob) :
 AJ X AD σ (AM H a ob) { s with heap:=h',toks:=t' }:=
 I.write mu (.inl rfl) (λb q hb z=>(hs.2 b hb).trans z) he new
theorem Je{h':Heap}{AE:A8}{vs:List (Key×a8)}(z:AE.length<=bE)(hd:(a == fT)=false)(rel:KV AE vs)(dd:h'.DictOf (b7 P w) a vs) :
 fX P w H' h' a (.dK AE):=⟨z,hd,vs,rel,dd⟩
theorem Tz{Q:Unit->dc->Prop}(hu:A.units+1<ke)(I:AJ X AD σ H s)(g:Ey H a y v H')(ry:AK y u)(rv:AK v r)(h:∀s',AJ X AD σ H' s'->Q () s') :
 eh (eJ X.prog X.w) A (setItem (.ref a) u r) Q E s:=by
 rcases g with ⟨AE,k,e,ey,l,eH⟩ | ⟨AE,k,b,e,ey,eb,l,eH⟩
 . subst ey eH;obtain ⟨z,hd,vs,rel,dd⟩:=Di I.AR e;have hz:vs.length<=bE:=by rw[<- rel.length];exact z
   have hl:(putK AE k v).length<=bE:=by have:=o9 AE k v;lia
   refine wpAny_setItem_pairs (wj ry) dd λh' dd' hs=>h _ ?_;have he:∃q,h'.get? a=some q:=let ⟨q,_,_,hq,_⟩:=dd';⟨q,hq⟩;exact mV I (by rw[e];exact kr) hs he (Je hl hd (rel.put k rv) dd')
 . subst ey eH;cases (ry);obtain ⟨z,hd,xs,rel,dd⟩:=afc I.AR e;have hz:xs.length<=bE:=by rw[<- ka.length rel];exact z
   have hl:(putK AE k v).length<=bE:=by have:=o9 AE k v;lia
   refine wpAny_setItem_heap (qr hu) (xZ I.AR eb) dd λh' dd' hs=>h _ ?_;obtain ⟨q,es,ep,hq,h2,h3,h4,_,h5⟩:=dd';refine mV I (by rw[e];exact kr) hs ⟨q,hq⟩ ⟨hl,hd,_,(rel.put k eb rv).keeps λc ys ec=>?_,q,es,ep,hq,h2,h3,h4,h5⟩;rw[aH (ae8 ec e (λz=>nomatch z))];exact ec
end
section
variable       {AE:A8}{k:Key}
theorem afd{more:B8}(I:AJ X AD σ H s)(e:H a=some (.dK AE))(ry:AK (kV k) u)(l:gY AE k=some y)(hm:more=[]\/∃x,more=[x])
 (h:∀w' s',AJ X AD σ (AM H a (.dK (uv AE k))) s'->AK y w'->Q w' s'):eh (eJ X.prog X.w) A (call (.builtin "dict.pop") (.ref a::u::more)) Q E s:=by
 obtain ⟨z,hd,vs,rel,dd⟩:=Di I.AR e;obtain ⟨w',hw,rw'⟩:=mG.some_of (by rw[<- l];exact rel.val k);have hp:(keyPart u).isSome=true:=by
  cases k with
  | inl i=>obtain ⟨t,q⟩:=(ry);subst q;rfl
  | inr x=>obtain ⟨t,q⟩:=(ry);subst q;rfl
 have ha:argsOk "dict.pop" ⟨.ref a::u::more,[]⟩:=by
  rcases hm with q | ⟨x,q⟩
  . subst q;exact PySem.F.args_dict_pop_2 _ _
  . subst q;exact PySem.F.args_dict_pop_3 _ _ _
 refine call_meetsIn PySem.F.slot_dict_pop dd.typeIs PySem.F.entry_dict_pop ha (meets_dict_pop_there (b7 X.prog X.w) a (wj ry) more hm hp)
  ⟨vs,w',dd,by rw[<- rel.length];exact z,hw,λh' dd' hs=>h w' _ ?_ rw'⟩
 have he:∃q,h'.get? a=some q:=let ⟨q,_,_,hq,_⟩:=dd';⟨q,hq⟩;exact mV I (by rw[e];exact kr) hs he (Je (dy (Xe AE k) z) hd (rel.drop k) dd')
theorem aeG(I:AJ X AD σ H s)(e:Rd H a (.dK AE))(h:∀t s',AJ X AD σ H s'->Q (.int AE.length t) s'):eh (eJ X.prog X.w) A (call (.builtin "len") [.ref a]) Q E s:=by
 obtain ⟨z,hd,vs,rel,dd⟩:=qw I.AR e;refine call_len_dict hd dd (by rw[<- rel.length];rw[sizeLine_eq] at z;lia) ?_;rw[<- rel.length];exact h _ _ (I.tok _)
end
def Wu(i:Expr):Prop:=∀ov iv,oC i false ov iv=operate [ov,iv] (pV ov iv)
theorem Pn{value slice:Expr}{T id:String}
 (hl:typeLookup (.type T) "__getitem__"= pure (some (.builtin id))) (hs:Wu slice)
 (h:eh (eJ prog w) A (eval value env) (λo s₁=>eh (eJ prog w) A (eval slice env) (λi s₂=>s₂.TypeIs o T/\eh (eJ prog w) A (pV o i) Q E s₂) E s₁) E s) :
 eh (eJ prog w) A (eval (.Subscript value slice pos) env) Q E s:=by
 refine Subscript_ (hZ h (λo s₁ h₁=>hZ h₁ (λi s₂ h₂=>?_) λ_ _ x=>x) λ_ _ x=>x);obtain ⟨hT,h₂⟩:=h₂;refine ag ?_;rw[mN hT.not_modules];refine ag (kP hT hl ?_);have fin:eh (eJ prog w) A (oC slice false o i) (λr s₃=>eh (eJ prog w) A (rS value o r >>= λ_=>pure r) Q E s₃) E s₂:=by
  rw[hs o i];exact qa (hZ h₂ (λr s₃ h₃=>ag (nr (bt h₃))) λ_ _ x=>x)
 first
  | exact bt (ag fin)
  | exact ag (bt (ag fin))
  | exact ag fin
theorem Mg(I:AJ X AD σ H s)(g:Jd H a y o):s.TypeIs (.ref a) "dict" := by
 rcases g with ⟨AE,k,e,_,_⟩ | ⟨AE,k,b,e,_,_,_⟩
 . obtain ⟨_,_,vs,_,dd⟩:=qw I.AR e;exact dd.typeIs
 . obtain ⟨_,_,xs,_,dd⟩:=zE I.AR e;exact dd.typeIs
def ae6(td ty tv:TE):TS:=λD σ H=>tv σ H λv H1=>td σ H1 λx H2=>ty σ H2 λy H3=>∃a H4,x= .ref a/\Ey H3 a y v H4/\D.nx σ H4
section
variable  {o i e value:Expr}{pos':Pos}{td ty tv:TE}
theorem Pg(hu:X.A.units+1<ke)(ho:PE X o td)(hi:PE X i ty)(hv:PE X value tv)(hs:ip value (some (.Subscript o i pos')) pos.line X.env=pure false) :
 PS X (.Assign [.Subscript o i pos'] value pos) (ae6 td ty tv):=by
 intro AD s σ H D I h;refine wpAny_Assign_Subscript (thn (hv AD s σ H _ I h) λr s1 ⟨v,H1,I1,rv,q1⟩=>thn (ho AD s1 σ H1 _ I1 q1) λu s2 ⟨x,H2,I2,rx,q2⟩=>thn (hi AD s2 σ H2 _ I2 q2) λiv s3 az=>?_) hs;obtain ⟨y,H3,I3,ry,a,H4,ex,g,q3⟩:=az;subst ex;obtain rfl:u=iN a:=rx;exact Tz hu I3 g ry rv λs4 I4=>⟨σ,H4,I4,q3⟩
end
theorem Aw(h:Heap)(hb:fT<h.objs.size):fX P w H (h.push { cls:=.type "dict",data:=.dict #[] }) h.objs.size (.dK []):=
 ⟨kN _,beq_eq_false_iff_ne.mpr (nK (fh hb)),[],.nil,Heap.DictOf.new h⟩
def ad0:TE:=λ_ H Q=>∀p,H p=none->Q (.ref p) (AM H p (.dK []))
theorem WN:PE X (.Dict [] [] pos) ad0:=λAD s σ H Q I h=>
 wpAny_Dict_empty ⟨.ref s.heap.objs.size,_,I.laid (λ_ _ q=>aI _ q) (aE _) (Aw s.heap I.big),rfl,h _ (I.AR.fresh (aE _))⟩
def sZ:List (TE×TE)->St->Hp->(List (V×V)->Hp->Prop)->Prop
 | [],_,H,Q=>Q [] H
 | (tk,tv)::r,σ,H,Q=>tk σ H λx H1=>tv σ H1 λy H2=>sZ r σ H2 λps H3=>Q ((x,y)::ps) H3
abbrev VV:List (V×V)->List (a8×a8)->Prop:=ka λp q=>AK p.1 q.1/\AK p.2 q.2
def PPs(X:Cx)(pos:Pos)(keys:List (Option Expr))(values:C1)(trs:List (TE×TE)):Prop:=
 ∀(AD:A7) (s:dc) (σ:St) (H:Hp) (Q:List (V×V)->Hp->Prop),AJ X AD σ H s->sZ trs σ H Q ->
  eh (eJ X.prog X.w) X.A (evalPairs (pairTrees keys values X.env pos)) (λvs s'=>∃ps H',AJ X AD σ H' s'/\VV ps vs/\Q ps H') X.xe s
theorem zW:PPs X pos [] [] []:=λAD s σ H Q I h=>pairTrees_nil_walk ⟨[],H,I,.nil,h⟩
variable {trs:List (TE×TE)}
theorem su{k v:Expr}{ks:List (Option Expr)}{tk tv:TE}(hk:PE X k tk)(hv:PE X v tv)(hr:PPs X pos ks elts trs) :
 PPs X pos (some k::ks) (v::elts) ((tk,tv)::trs):=λAD s σ H Q I h=>
 pairTrees_cons_walk (thn (hk AD s σ H _ I h) λu s1 ⟨x,H1,I1,rx,q1⟩=>thn (hv AD s1 σ H1 _ I1 q1) λw2 s2 ⟨y,H2,I2,ry,q2⟩=>
  thn (hr AD s2 σ H2 _ I2 q2) λws s3 ⟨ps,H3,I3,rel,q3⟩=>⟨(x,y)::ps,H3,I3,.cons ⟨rx,ry⟩ rel,q3⟩)
noncomputable def lW(AE more:A8):A8:=more.foldl (λAF kv=>putK AF kv.1 kv.2) AE
theorem KV.merge:∀{more:A8}{rs:List (Key×a8)}{AE:A8}{vs:List (Key×a8)},KV more rs->KV AE vs->KV (lW AE more) (merged vs rs):=by
 intro more rs AE vs r
 induction r generalizing AE vs with
 | nil=>intro q;exact q
 | @cons p q ps qs h t ih=>
  intro r0;have e:KV (putK AE p.1 p.2) (stored vs q.1 q.2):=by
   have:=r0.put p.1 h.2;rw[<- h.1];exact this
  exact ih e
theorem xF:∀(more AE:A8),(lW AE more).length<=AE.length+more.length
 | [],AE=>by show AE.length<=AE.length+0;lia
 | p::r,AE=>by
  have h1:=xF r (putK AE p.1 p.2);have h2:=o9 AE p.1 p.2;show (lW (putK AE p.1 p.2) r).length<=_;rw[a9];lia
theorem BW:∀{AE:A8}{ws:List (a8×a8)},VV (AE.map λkv=>(kV kv.1,kv.2)) ws->∃rs,Carries (b7 P w) ws rs/\KV AE rs
 | [],_,r=>by rw[ft] at r;cases r;exact ⟨[],kr,.nil⟩
 | p::AE,_,r=>by
  rw[bo] at r
  cases r with
  | @cons a b as bs h t=>
   obtain ⟨rs,c,q⟩:=BW t;obtain ⟨b1,b2⟩:=b;exact ⟨(p.1,b2)::rs,⟨wj h.1,rfl,c⟩,.cons ⟨rfl,h.2⟩ q⟩
def aeF(trs:List (TE×TE)):TE:=λσ H Q=>∀p,H p=none->sZ trs σ (AM H p (.dK [])) λps H2=>H2 p=some (.dK [])/\∃AE:A8,ps=AE.map (λkv=>(kV kv.1,kv.2))/\AE.length<=15/\Q (.ref p) (AM H2 p (.dK (lW [] AE)))
theorem Fx{keys:List (Option Expr)}(h:PPs X pos keys elts trs)(hall:keys.all (·.isSome)=true)(hl:keys.length=elts.length)(h0:keys≠[])
 (h15:keys.length<=15):PE X (.Dict keys elts pos) (aeF trs):=by
 intro AD s σ H Q I q;have hn:=I.AR.fresh (aE s.heap.objs.size);have I1:=I.laid (t':=s.toks) (λ_ _ q=>aI _ q) (aE _) (Aw s.heap I.big);refine wpAny_Dict_walk (knd:=b7 X.prog X.w) hall hl h0 h15 (thn (h AD _ σ _ _ I1 (q _ hn)) λws s2 az=>?_);obtain ⟨ps,H2,I2,rel,e,AE,ep,lk,q2⟩:=az;subst ep;obtain ⟨rs,c,rk⟩:=BW rel;obtain ⟨z,hd,vs0,r0,dd⟩:=Di I2.AR e;cases r0;refine ⟨rs,c,dd,λh' dd' hs=>⟨.ref s.heap.objs.size,_,?_,rfl,q2⟩⟩;have hz:(lW [] AE).length<=bE:=by
  have h1:=xF AE [];rw[lS] at h1;rw[sizeLine_eq];lia
 have he:∃q,h'.get? s.heap.objs.size=some q:=let ⟨q,_,_,hq,_⟩:=dd';⟨q,hq⟩;exact mV I2 (by rw[e];exact kr) hs he (Je hz hd (rk.merge .nil) dd')
structure M1 (X:Cx) (o:Expr) (m:Str) (apos:Pos) (e:Expr) (cpos:Pos):Prop where
 base:nE o m X.env (eval o X.env)=eval o X.env
 few:((nS cpos (d6 [e] X.env)).all (λx=>!x.1)&&(zi cpos (tf [] X.env)).all (λx=>x.1.isSome)
  && decide (([e]:C1).length+([]:List rl).length+(if ([]:List rl).isEmpty then 0 else 1)<30))=true
 line:(apos.endLine == cpos.line)=true
 trees:nS cpos (d6 [e] X.env)=[(false,eval e X.env)]
def IsD(H:Hp)(a:Addr):Prop:=(∃AE,Rd H a (.dK AE))\/∃AE,Rd H a (.dT AE)
theorem Uv(I:AJ X AD σ H s)(d:IsD H a) :
 s.TypeIs (.ref a) "dict" /\ (∀b,iN a= .ref b->∃ob,s.heap.get? b=some ob/\ob.dict=none)/\(a == fT)=false:=by
 rcases d with ⟨AE,e⟩ | ⟨AE,e⟩
 . obtain ⟨_,hd,vs,_,dd⟩:=qw I.AR e;refine ⟨dd.typeIs,λb q=>?_,hd⟩;cases q;obtain ⟨ob,_,_,h1,h2,_⟩:=dd;exact ⟨ob,h1,h2.2.1⟩
 . obtain ⟨_,hd,xs,_,dd⟩:=zE I.AR e;refine ⟨dd.typeIs,λb q=>?_,hd⟩;cases q;obtain ⟨ob,_,_,h1,h2,_⟩:=dd;exact ⟨ob,h1,h2.2.1⟩
def abM(td ty:TE):TE:=λσ H Q=>td σ H λx H1=>∃a,x= .ref a/\IsD H1 a/\ty σ H1 λy H2=>∃AE k v,H2 a=some (.dK AE)/\y=kV k/\gY AE k=some v/\Q v (AM H2 a (.dK (uv AE k)))
section
variable  {o e f:Expr}{apos cpos:Pos}{td ty tx:TE}
theorem VP(ho:PE X o td)(he:PE X e ty)(m:M1 X o "pop" apos e cpos):PE X (.Call (.Attribute o "pop" apos) [e] [] cpos) (abM td ty):=by
 intro AD s σ H Q I h;refine wpAny_Call_method m.base m.few m.line xB PySem.F.slot_dict_pop PySem.F.type_dict_pop (thn (ho AD s σ H _ I h) λu s1 az=>?_);obtain ⟨x,H1,I1,rx,a,ex,d,q1⟩:=az;subst ex;obtain rfl:u=iN a:=rx;obtain ⟨t1,t2,_⟩:=Uv I1 d;refine ⟨t1,t2,?_⟩;rw[m.trees];refine ro rfl (Calls.evalArgs_plain (Calls.spliced_cons (thn (he AD s1 σ H1 _ I1 q1) λiv s2 ⟨y,H2,I2,ry,AE,k,v,ea,ey,l,q2⟩=>Calls.spliced_nil ?_)));subst ey;exact afd I2 ea ry l (.inl rfl) λw' s3 I3 rw'=>⟨v,_,I3,rw',q2⟩
end
abbrev dw:=List B3
noncomputable def aeJ(ks:dw):Int:=yA (fA (ks.map λk=>yA (fA (k.map hashInt))))
noncomputable def iw(a:Addr)(xs:List (dw×Addr×a8)):HO:=.ext λh=>
 xs.length<=bE/\(a == fT)=false/\(xs.map (·.1)).Nodup/\∃o es ep,h.get? a=some o/\o.ExactDict/\o.data= .dict es ep/\es.toList=xs.map λx=>⟨aeJ x.1,.ref x.2.1,x.2.2⟩
def oM(K:aw)(H:Hp)(ks:dw)(b:Addr):Prop:=∃cs:C2,SqT K H b (cs.map V.ref)/\ka (λ(k:B3) c=>SqT K H c (k.map V.int)) ks cs
abbrev KN(K:aw)(H:Hp):List (dw×V)->List (dw×Addr×a8)->Prop:=ka λp q=>p.1=q.1/\oM K H p.1 q.2.1/\AK p.2 q.2.2
theorem oM.keeps{ks:dw}{b:Addr}(n:oM K H ks b)(ht:∀b ys,SqT K H b ys->SqT K H' b ys):oM K H' ks b:=by
 obtain ⟨cs,h1,h2⟩:=n;exact ⟨cs,ht _ _ h1,Paired.rP h2 λ_ _ z=>ht _ _ z⟩
theorem KN.keeps{AE:List (dw×V)}{xs:List (dw×Addr×a8)}(r:KN K H AE xs)(ht:∀b ys,SqT K H b ys->SqT K H' b ys):KN K H' AE xs:=
 Paired.rP r λ_ _ z=>⟨z.1,z.2.1.keeps ht,z.2.2⟩
noncomputable def aft(k:B3):Int:=yA (fA (k.map hashInt))
noncomputable def jY(a:Addr)(xs:List (B3×Addr×a8)):HO:=.ext λh=>
 xs.length<=bE/\(a == fT)=false/\(xs.map (·.1)).Nodup/\∃o es ep,h.get? a=some o/\o.ExactDict/\o.data= .dict es ep/\es.toList=xs.map λx=>⟨aft x.1,.ref x.2.1,x.2.2⟩
end Zq
namespace PySem
open Sem (wp)
section
variable {prog:gc}{w:kT}{K:Type} [DecidableEq K] (knd:KeyKind prog w K)
inductive fQ (h:Heap):List (List K)->List a8->Prop
 | nil:fQ h [] []
 | cons {k:List K}{a:Addr}{ks:List (List K)}{vs:List a8}:IsTupleKey knd h k a->fQ h ks vs->fQ h (k::ks) (.ref a::vs)
def dH(h:Heap)(ks:List (List K))(a:Addr):Prop:=∃o items n,h.get? a=some o/\o.cls= .type "tuple" /\ o.data= .seq items n/\fQ knd h ks items.toList
variable {knd}
theorem fQ.inj{h:Heap}{x y:List (List K)}{vs:List a8}(hx:fQ knd h x vs)(hy:fQ knd h y vs):x=y:=by
 induction hx generalizing y with
 | nil=>cases hy;rfl
 | cons h1 _ ih=>cases hy with
  | cons h2 t2=>rw[h1.inj h2,ih t2]
theorem dH.typeIs{s:dc}{ks:List (List K)}{a:Addr}(x:dH knd s.heap ks a):s.TypeIs (.ref a) "tuple" := let ⟨o,_,_,ho,hc,_⟩:=x;⟨o,ho,hc⟩
theorem dH.inj{h:Heap}{a:Addr}{x y:List (List K)}(hx:dH knd h x a)(hy:dH knd h y a):x=y:=by
 obtain ⟨o,items,n,ho,_,hd,hi⟩:=hx;obtain ⟨o',items',n',ho',_,hd',hi'⟩:=hy;obtain rfl:o=o':=Option.some.inj (ho.symm.trans ho');rw[hd] at hd';injection hd' with h1 _;subst h1;exact hi.inj hi'
theorem fQ.keeps{h h':Heap}{ks:List (List K)}{vs:List a8}{d:Addr}{o:Obj}{es ep}(x:fQ knd h ks vs)(ho:h.get? d=some o)(hd:o.data= .dict es ep)(hs:oS d h h'):fQ knd h' ks vs:=by
 induction x with
 | nil=>exact .nil
 | cons h1 _ ih=>exact .cons (h1.keeps ho hd hs) ih
theorem dH.keeps{h h':Heap}{ks:List (List K)}{a d:Addr}{o:Obj}{es ep}(x:dH knd h ks a)(ho:h.get? d=some o)(hd:o.data= .dict es ep)(hs:oS d h h'):dH knd h' ks a:=by
 obtain ⟨o',items,n,ho',hc,hd',hi⟩:=x;have hne:a≠d:=by
  rintro rfl;obtain rfl:o'=o:=Option.some.inj (ho'.symm.trans ho);rw[hd] at hd';exact nomatch hd'
 exact ⟨o',items,n,(hs.2 a hne).trans ho',hc,hd',hi.keeps ho hd hs⟩
noncomputable def Bj(knd:KeyKind prog w K)(ks:List (List K)):Int:=yA (fA (ks.map (rV knd)))
noncomputable def fJ:List (List K)->Nat
 | []=>0
 | k::ks=>k.length+1+fJ ks
theorem Hy(a b:List (List K)):fJ (a++b)=fJ a+fJ b:=by
 induction a with
 | nil=>simp[fJ]
 | cons x t ih=>rw[gE,fJ,fJ,ih];lia
variable {A:iS}{E:a8->dc->Prop}{s:dc}
theorem IsTupleKey.toks{ks:List K}{a:Addr}{n:Nat}(x:IsTupleKey knd s.heap ks a):IsTupleKey knd { s with toks:=n }.heap ks a:=x
theorem Ag{ks:List (List K)}{a:Addr}{Q:Int->dc->Prop}(hu:A.units+64<ke)(hk:dH knd s.heap ks a)(h:Q (Bj knd ks) { s with toks:=s.toks+(fJ ks+1) }) :
 eh (eJ prog w) A (pyHash (.ref a)) Q E s:=by
 have hT:=hk.typeIs;obtain ⟨o,items,n,ho,_,hd,hi⟩:=hk
 first | unfold pyHashByItsType | skip
 first | refine ag (wpAny_cRoomFor_or (.inr (by lia)) ?_) | skip
 refine ag (kP hT rX.lookup ?_);rw[if_neg (by rw[beq_builtin_none];exact e8)];refine ag (kP hT rX.lookup (ag (wpAny_callSpecialIfBoundUnlessNone?_slot hT rX (gz rX hT F.entry_tuple_hash ?_ (F.args_tuple_hash_1 _)))));show eh _ _ (oB (.ref a) >>= _) _ _ s;refine ag (vS ho hd (ag ?_));rw[<- vT];refine sM _
  (λrest b s'=>∃done left,ks=done++left/\fQ knd s.heap left rest/\b.toList=done.map (rV knd)/\s'={ s with toks:=s.toks+fJ done })
  _ ?_ ?_ _ _ ⟨[],ks,rfl,hi,rfl,rfl⟩
 . rintro x rest b s' ⟨done,left,rfl,hl,hb,rfl⟩
   cases hl with
   | @cons k _ ks' _ h1 hl'=>
    refine ag (wpAny_pyHash_tuple (by first | lia | (show _+_<_;lia)) h1 ?_);have e:fJ (done++[k])=fJ done+(k.length+1):=by rw[Hy];rfl
    first
     | exact bt ⟨done++[k],ks',by simp,hl',by simp[hb],by rw[e];simp[sN]⟩
     | exact ag (bt (bt ⟨done++[k],ks',by simp,hl',by simp[hb],by rw[e];simp[sN]⟩))
 . rintro b s' ⟨done,left,rfl,hl,hb,rfl⟩;cases hl;rw[dr] at h;show eh _ _ (retInt (fA b.toList)) _ _ _;rw[hb];refine wpAny_ret_mkInt ?_;show eh _ _ (if (decide (-(2:Int)^63<=fA (done.map (rV knd)))&&decide (fA (done.map (rV knd))<2^63))=true then _ else _) Q E _;unfold Bj yA at h
   by_cases hr:(decide (-2^63<=fA (done.map (rV knd)))&&decide (fA (done.map (rV knd))<2^63))=true
   . rw[if_pos hr];rw[if_pos hr] at h;exact bt (by simpa[sN] using h)
   . rw[if_neg hr];rw[if_neg hr] at h;exact ag (vE (bt (by simpa[sN] using h)))
theorem Jr{x y:List (List K)}{a b:Addr}{P:Fin->dc->Prop}(hu:A.units+8<ke)(hx:dH knd s.heap x a)(hy:dH knd s.heap y b)(h:P (.done (.ret (.bool (decide (x=y))))) s) :
 eh (eJ prog w) A (Builtin.«tuple.__eq__» ⟨[.ref a,.ref b],[]⟩) P E s:=by
 have hTb:=hy.typeIs;obtain ⟨oa,xs,na,hoa,_,hda,hia⟩:=hx;obtain ⟨ob,ys,nb,hob,_,hdb,hib⟩:=hy;show eh _ _ (isInstance (.ref b) (.type "tuple") >>= _) _ _ s;refine ag (pb hTb sk (ag (vS hoa hda ?_)));refine ag (vS hob hdb (ag ?_));refine sM _
  (λrest r s'=>r.1=none/\s'=s/\∃x' y' xs' ys',rest=List.zip xs' ys'/\fQ knd s.heap x' xs'/\fQ knd s.heap y' ys'/\decide (x'=y')=decide (x=y)/\(xs'.length == ys'.length)=(xs.size == ys.size))
  _ ?_ ?_ _ _ ⟨rfl,rfl,x,y,xs.toList,ys.toList,rfl,hia,hib,rfl,by simp⟩
 . rintro ⟨u,v⟩ rest r s' ⟨hr,rfl,x',y',xs',ys',hz,hx',hy',hdec,hlen⟩
   cases hx' with
   | nil=>simp at hz
   | @cons k1 u' x'' xs'' h1 hx''=>
    cases hy' with
    | nil=>simp at hz
    | @cons k2 v' y'' ys'' h2 hy''=>
     obtain ⟨⟨rfl,rfl⟩,rfl⟩:=hz;refine ag (wpAny_eqBool_tuple (by lia) h1 h2 ?_)
     by_cases hk:k1=k2
     . subst hk;rw[decide_eq_true rfl];refine bt ⟨rfl,rfl,x'',y'',xs'',ys'',rfl,hx'',hy'',?_,by simpa using hlen⟩;rw[<- hdec]
       by_cases hxy:x''=y''
       . simp[hxy]
       . simp[hxy]
     . rw[decide_eq_false hk];have hf:decide (x=y)=false:=by rw[<- hdec];simp[hk]
       rw[hf] at h;exact ag (bt (bt (bt h)))
 . rintro ⟨r1,r2⟩ s' ⟨hr,rfl,x',y',xs',ys',hz,hx',hy',hdec,hlen⟩;simp only at hr;subst hr;refine bt ?_;have hfin:(xs.size == ys.size)=decide (x=y):=by
    rw[<- hdec,<- hlen]
    cases hx' with
    | nil=>
     cases hy' with
     | nil=>simp
     | cons _ _=>simp
    | cons _ _=>
     cases hy' with
     | nil=>simp
     | cons _ _=>simp at hz
   show P (.done (.ret (.bool (xs.size == ys.size)))) s';rw[hfin];exact h
theorem Ah{x y:List (List K)}{a b:Addr}{Q:Bool->dc->Prop}(hu:A.units+64<ke)(hx:dH knd s.heap x a)(hy:dH knd s.heap y b)(h:Q (decide (x=y)) s) :
 eh (eJ prog w) A (eqBool (.ref a) (.ref b)) Q E s:=by
 unfold eqBool
 try with_reducible refine mi ?_
 by_cases hab:(iN a == iN b)=true
 . rw[if_pos hab];have e:=by have:=eq_of_beq hab;injection this
   subst e;obtain rfl:=hx.inj hy;exact ag (vE (bt (by simpa using h)))
 . rw[if_neg hab];exact ag (wpAny_richCompare_same_room hx.typeIs hy.typeIs ua
    (gz ua hx.typeIs F.entry_tuple_eq (Jr (by first | lia | (simp[Around.in1];lia)) hx hy ⟨_,rfl,(λe=>nomatch e),jv h⟩) (F.args_tuple_eq_2 _ _)) (by lia))
theorem Ab(m:Nat){ks:List K}{a:Addr}{Q:Bool->dc->Prop}(hk:IsTupleKey knd s.heap ks a)(h:Q true s):eh (eJ prog w) A (eqIsQuiet (m+1) (.ref a)) Q E s:=by
 have hT:=hk.typeIs;obtain ⟨o,items,n,ho,_,hd,hi⟩:=hk;unfold eqIsQuiet;refine ag (kP hT ua.lookup (ag (pb hT sk ?_)));refine ag (fR ho hd (ag ?_));rw[<- vT];refine sM _ (λrest r s'=>r.1=none/\s'=s/\∀v∈rest,carriedByValue v=true) _ ?_ ?_ _ _ ⟨rfl,rfl,hi.byValue⟩
 . rintro v rest r s' ⟨hr,rfl,hall⟩;rw[eqIsQuiet_byValue _ (hall v b9)];exact ag (bt (bt ⟨rfl,rfl,λu hu'=>hall u (cf _ hu')⟩))
 . rintro ⟨r1,r2⟩ s' ⟨hr,rfl,_⟩;simp only at hr;subst hr;exact bt h
theorem BK(m:Nat){ks:List (List K)}{a:Addr}{Q:Bool->dc->Prop}(hk:dH knd s.heap ks a)(h:Q true s):eh (eJ prog w) A (eqIsQuiet (m+2) (.ref a)) Q E s:=by
 have hT:=hk.typeIs;obtain ⟨o,items,n,ho,_,hd,hi⟩:=hk;unfold eqIsQuiet;refine ag (kP hT ua.lookup (ag (pb hT sk ?_)));refine ag (fR ho hd (ag ?_));rw[<- vT];refine sM _ (λrest r s'=>r.1=none/\s'=s/\∃x',fQ knd s.heap x' rest) _ ?_ ?_ _ _ ⟨rfl,rfl,_,hi⟩
 . rintro v rest r s' ⟨hr,rfl,x',hall⟩
   cases hall with
   | cons h1 ht=>
    exact ag (Ab m h1 (bt ⟨rfl,rfl,_,ht⟩))
 . rintro ⟨r1,r2⟩ s' ⟨hr,rfl,_⟩;simp only at hr;subst hr;exact bt h
end
noncomputable def sY{prog:gc}{w:kT}{K:Type}[DecidableEq K](knd:KeyKind prog w K):HeapKind prog w (List (List K)) where
 is:=dH knd
 hash:=Bj knd
 draws:=λks=>fJ ks+1
 room:=λA=>A.units+64<ke
 inj:=λhx hy=>hx.inj hy
 keeps:=λx ho hd hs=>x.keeps ho hd hs
 pyHash:=λhu hk h=>Ag hu hk h
 eqBool:=λhu hx hy h=>Ah hu hx hy h
 quiet:=λhk h=>BK 6 hk h
end PySem
namespace Zq
open PySem PySem.Spec PyProof.Rows
variable {K:aw}{H:Hp}{xs:List (dw×Addr×a8)}
theorem KN.val{AE:List (dw×V)}(r:KN K H AE xs)(k:dw):mG (gY AE k) ((pz xs k).map (·.2)):=by
 induction r with
 | nil=>exact kr
 | @cons p q ps qs h t ih=>
  obtain ⟨h1,_,h2⟩:=h
  by_cases e:p.1=k
  . have e':=h1.symm.trans e;have b:pz (q::qs) k=some q.2:=by simp[pz,ij,e']
    rw[oO e,b];exact h2
  . have e':¬ q.1=k:=λz=>e (h1.trans z);have b:pz (q::qs) k=pz qs k:=by simp[pz,ij,e']
    rw[oG e,b];exact ih
theorem KN.repl{AE:List (dw×V)}(r:KN K H AE xs)(k:dw){y:V}{u:a8}(ry:AK y u) :
 KN K H (AE.map λkv=>if kv.1=k then (kv.1,y) else kv) (xs.map (putAt k u)):=by
 induction r with
 | nil=>exact .nil
 | @cons p q ps qs h t ih=>
  rw[bo,bo];refine .cons ?_ ih;obtain ⟨h1,h2,h3⟩:=h;unfold putAt
  by_cases e:p.1=k
  . rw[if_pos e,if_pos (h1.symm.trans e)];exact ⟨h1,h2,ry⟩
  . rw[if_neg e,if_neg (λz=>e (h1.trans z))];exact ⟨h1,h2,h3⟩
theorem KN.put{AE:List (dw×V)}(r:KN K H AE xs)(k:dw){b:Addr}{y:V}{u:a8}(hb:oM K H k b)(ry:AK y u) :
 KN K H (putK AE k y) (wx xs k b u):=by
 have e:(AE.any λkv=>decide (kv.1=k))=(pz xs k).isSome:=by
  rw[Bp,(r.val k).lz,kH]
 unfold putK wx;rw[e]
 by_cases q:(pz xs k).isSome=true
 . rw[if_pos q,if_pos q];exact r.repl k ry
 . rw[if_neg q,if_neg q];exact ka.snoc r ⟨rfl,hb,ry⟩
theorem Jv:∀{cs:C2}{us:B8},AL (cs.map V.ref) us->us=cs.map iN
 | [],_,r=>by rw[ft] at r;cases r;rfl
 | c::cs,_,r=>by
  rw[bo] at r
  cases r with
  | @cons _ u _ us h t=>
   cases (h);rw[Jv t];rfl
theorem Gx{P:gc}{w:kT}:∀{ks:B3}{us:B8},AL (ks.map V.int) us->ItemsAre (pT P w) ks us
 | [],_,r=>by rw[ft] at r;cases r;exact .nil
 | k::ks,_,r=>by
  rw[bo] at r
  cases r with
  | @cons _ u _ us h t=>
   obtain ⟨n,e⟩:=(h);subst e;exact .cons (by show zh k (.int k n)=true;simp[zh]) (Gx t)
variable {a:Addr}{H':Hp}
theorem Zc{P:gc}{w:kT}{h':Heap}(z:xs.length<=bE)(hd:(a == fT)=false)(dd:h'.DictOfH (sY (pT P w)) a xs):fX P w H' h' a (iw a xs):=by
 obtain ⟨o,es,ep,h1,h2,h3,h4,_,h5⟩:=dd;exact ⟨⟨z,hd,h5,o,es,ep,h1,h2,h3,h4⟩,⟨o,h1⟩,λg1 g2 ⟨a1,a2,a3,o',es',ep',b1,b2⟩ k=>⟨a1,a2,a3,o',es',ep',k _ b1,b2⟩⟩
variable {Q:B2}
section
variable {X:Cx}{AD:A7}{σ:St}  {s:dc}{b:Addr}{v:V}{u r:a8}{A:iS}{E:B2}{AE:List (dw×V)}  {k:dw}
theorem zM{ks:B3}(I:AJ X AD σ H s)(e:SqT X.K H a (ks.map V.int)):(qB (pT X.prog X.w)).is s.heap ks a:=by
 obtain ⟨AG,r,⟨o,h1,h2,n,h3⟩,_⟩:=I.tuple e;exact ⟨o,AG.toArray,n,h1,h2,h3,by simpa using Gx r⟩
theorem W8{ks:dw}{cs:C2}(I:AJ X AD σ H s)(r:ka (λ(k:B3) c=>SqT X.K H c (k.map V.int)) ks cs):fQ (pT X.prog X.w) s.heap ks (cs.map iN):=by
 induction r with
 | nil=>exact .nil
 | cons h1 _ ih=>exact .cons (zM I h1) ih
theorem zZ{ks:dw}(I:AJ X AD σ H s)(n:oM X.K H ks a):(sY (pT X.prog X.w)).is s.heap ks a:=by
 obtain ⟨cs,e,r⟩:=n;obtain ⟨AG,r2,⟨o,h1,h2,n,h3⟩,_⟩:=I.tuple e;exact ⟨o,AG.toArray,n,h1,h2,h3,by rw[Jv r2];simpa using W8 I r⟩
theorem Ih(I:AJ X AD σ H s)(e:H a=some (iw a xs))(r:KN X.K H AE xs):AE.length<=bE/\(a == fT)=false/\s.heap.DictOfH (sY (pT X.prog X.w)) a xs:=by
 obtain ⟨⟨z,y,h5,o,es,ep,h1,h2,h3,h4⟩,_⟩:=(I.AR a _ e);refine ⟨by rw[ka.length r];exact z,y,o,es,ep,h1,h2,h3,h4,λx hx=>?_,h5⟩;have all:∀{l:List (dw×V)}{m:List (dw×Addr×a8)},KN X.K H l m->∀x∈m,(sY (pT X.prog X.w)).is s.heap x.1 x.2.1:=by
  intro l m q
  induction q with
  | nil=>intro x hx;exact nomatch hx
  | @cons p q ps qs hq t ih=>
   intro x hx;rcases cp.mp hx with e | hx
   . subst e;exact zZ I (by rw[<- hq.1];exact hq.2.1)
   . exact ih x hx
 exact all r x hx
theorem Kf(hu:A.units+65<ke):(sY (pT X.prog X.w)).room A.in1:=show A.units+1+64<ke by lia
theorem Sg(hu:A.units+65<ke)(I:AJ X AD σ H s)(e:H a=some (iw a xs))(rel:KN X.K H AE xs)(eb:oM X.K H k b)(l:gY AE k=some v)(h:∀w' s',AJ X AD σ H s'->AK v w'->Q w' s') :
 eh (eJ X.prog X.w) A (pV (.ref a) (.ref b)) Q E s:=by
 obtain ⟨z,hd,dd⟩:=Ih I e rel;obtain ⟨w',hw,rw'⟩:=mG.some_of (by rw[<- l];exact rel.val k);obtain ⟨p,hp,hp2⟩:=md.mp hw;refine vF (Kf hu) (zZ I eb) dd hp ?_;rw[hp2];exact h w' _ (I.tok _) rw'
theorem ZD(hu:A.units+65<ke)(I:AJ X AD σ H s)(e:H a=some (iw a xs))(rel:KN X.K H AE xs)(eb:oM X.K H k b)(h:∀s',AJ X AD σ H s'->Q (.bool (!(gY AE k).isSome)) s') :
 eh (eJ X.prog X.w) A (fw .NotIn (.ref b) (.ref a)) Q E s:=by
 obtain ⟨z,hd,dd⟩:=Ih I e rel;refine wpAny_notIn_heap (Kf hu) (zZ I eb) hd dd ?_;have q:=(rel.val k).lz;rw[kH] at q;rw[<- q];exact h _ (I.tok _)
theorem RQ{Q:Unit->dc->Prop}(hu:A.units+65<ke)(I:AJ X AD σ H s)(e:H a=some (iw a xs))(rel:KN X.K H AE xs)(eb:oM X.K H k b)(rv:AK v r)(hl:AE.length<bE)
 (h:∀s',AJ X AD σ (AM H a (iw a (wx xs k b r))) s'->Q () s'):eh (eJ X.prog X.w) A (setItem (.ref a) (.ref b) r) Q E s:=by
 obtain ⟨z,hd,dd⟩:=Ih I e rel;have hz:xs.length<=bE:=by rw[<- ka.length rel];exact z
 refine wpAny_setItem_heap (Kf hu) (zZ I eb) dd λh' dd' hs=>?_;have hl2:(wx xs k b r).length<=bE:=by have:=o9 AE k v;rw[<- ka.length (rel.put k eb rv)];lia
 have he:∃q,h'.get? a=some q:=let ⟨q,_,_,hq,_⟩:=dd';⟨q,hq⟩;exact h _ (mV I (by rw[e];exact kr) hs he (Zc hl2 hd dd'))
theorem ae1(I:AJ X AD σ H s)(e:H a=some (.dK [])):AJ X AD σ (AM H a (iw a [])) s:=by
 obtain ⟨z,hd,vs,rel,dd⟩:=Di I.AR e;cases rel;obtain ⟨o,es,ep,h1,h2,h3,_,h4,_⟩:=dd
 have hes:es.toList=[]:=by cases h:es.toList with
  | nil=>rfl
  | cons x t=>rw[h] at h4;cases h4
 exact mV I (by rw[e];exact kr) ⟨rfl,λ_ _=>rfl⟩ ⟨o,h1⟩ (Zc (kN _) hd ⟨o,es,ep,h1,h2,h3,by rw[hes];rfl,λx hx=>(nomatch hx),zk⟩)
end
structure Exn where
 cls:Str
 arg:Option ab
inductive AI (α:Type) where
 | ok (a:α)
 | err (x:Exn)
 | bad
abbrev C8:=ab->ab->AI ab
abbrev C9:=ab->AI ab
noncomputable def AI.bind{α β:Type}:AI α->(α->AI β)->AI β
 | .ok a,f=>f a
 | .err x,_=>.err x
 | .bad,_=>.bad
@[simp] theorem AI.aQ {α β:Type} (a:α) (f:α->AI β):(AI.ok a).bind f=f a:=rfl
theorem AI.au{α β:Type}{r:AI α}{f:α->AI β}{b:β}(h:r.bind f= .ok b):∃a,r= .ok a/\f a= .ok b:=by
 cases r with
 | ok a=>exact ⟨a,rfl,h⟩
 | err x=>cases h
 | bad=>cases h
noncomputable def gd{α:Type}(c:Prop)[Decidable c](r:AI α):AI α:=if c then r else .bad
theorem cu{α:Type}{c:Prop}[Decidable c]{r:AI α}{a:α}(h:gd c r= .ok a):c/\r= .ok a:=by
 unfold gd at h
 by_cases hc:c
 . rw[if_pos hc] at h;exact ⟨hc,h⟩
 . rw[if_neg hc] at h;cases h
theorem bD{α:Type}{c:Prop}[Decidable c]{r:AI α}(h:c):gd c r=r:=if_pos h
abbrev Ev:=List (Option ab)
inductive Out where
 | nx (Γ:Ev)
 | rt (d:ab)
 | bk (Γ:Ev)
 | ct (Γ:Ev)
abbrev ME:=Ev->AI ab
abbrev MS:=Ev->AI Out
noncomputable def bO:ab->Option Key
 | .int i=>some (.inl i)
 | .str x=>some (.inr x)
 | _=>none
mutual
def Rp(K:aw)(A:Hp):ab->V->Prop
 | .none,v=>v= .non
 | .bool b,v=>v= .bl b
 | .int i,v=>v= .int i
 | .str x,v=>v= .str x
 | .list ds,v=>∃a vs,v= .ref a/\SqL K A a vs/\aA K A ds vs
 | .tuple ds,v=>∃a vs,v= .ref a/\SqT K A a vs/\aA K A ds vs
 | .dict AE,v=>∃a u,v= .ref a/\Rd A a (.dK u)/\bw K A AE u
def aA(K:aw)(A:Hp):B4->C0->Prop
 | [],vs=>vs=[]
 | d::ds,vs=>∃v r,vs=v::r/\Rp K A d v/\aA K A ds r
def bw(K:aw)(A:Hp):B0->A8->Prop
 | [],u=>u=[]
 | (k,d)::r,u=>∃key v u',u=(key,v)::u'/\bO k=some key/\Rp K A d v/\bw K A r u'
end
theorem aG.rd(e:aG H H'){u:HO}(h:Rd H a u):Rd H' a u:=by
 rcases h with h | ⟨o,h⟩
 . exact .inl (e _ _ h)
 . exact .inr ⟨o,e _ _ h⟩
theorem Rd.seq{vs:C0}(h:Rd H a (.lst vs)):SqL K H a vs:=.inl h
mutual
theorem Rp.mono(e:aG H H'):∀(d:ab) {v:V},Rp K H d v->Rp K H' d v
 | .none,v,h=>by rw[Rp] at h ⊢;exact h
 | .bool _,v,h=>by rw[Rp] at h ⊢;exact h
 | .int _,v,h=>by rw[Rp] at h ⊢;exact h
 | .str _,v,h=>by rw[Rp] at h ⊢;exact h
 | .list ds,v,h=>by
  rw[Rp] at h ⊢;obtain ⟨a,vs,h1,h2,h3⟩:=h;exact ⟨a,vs,h1,e.seq h2,aA.mono e ds h3⟩
 | .tuple ds,v,h=>by
  rw[Rp] at h ⊢;obtain ⟨a,vs,h1,h2,h3⟩:=h;exact ⟨a,vs,h1,e.fP h2,aA.mono e ds h3⟩
 | .dict AE,v,h=>by
  rw[Rp] at h ⊢;obtain ⟨a,u,h1,h2,h3⟩:=h;exact ⟨a,u,h1,aG.rd e h2,bw.mono e AE h3⟩
theorem aA.mono(e:aG H H'):∀(ds:B4) {vs:C0},aA K H ds vs->aA K H' ds vs
 | [],vs,h=>by rw[aA] at h ⊢;exact h
 | d::ds,vs,h=>by
  rw[aA] at h ⊢;obtain ⟨v,r,h1,h2,h3⟩:=h;exact ⟨v,r,h1,Rp.mono e d h2,aA.mono e ds h3⟩
theorem bw.mono(e:aG H H'):∀(AE:B0) {u:A8},bw K H AE u->bw K H' AE u
 | [],u,h=>by rw[bw] at h ⊢;exact h
 | (k,d)::r,u,h=>by
  rw[bw] at h ⊢;obtain ⟨key,v,u',h1,h2,h3,h4⟩:=h;exact ⟨key,v,u',h1,h2,Rp.mono e d h3,bw.mono e r h4⟩
end
mutual
theorem Rp.is:∀(d:ab) {v:V},d.canLay0=true->Rp K H d v->Is K H d v
 | .none,v,_,h=>by rw[Rp] at h;rw[Is];exact h
 | .bool _,v,_,h=>by rw[Rp] at h;rw[Is];exact h
 | .int _,v,_,h=>by rw[Rp] at h;rw[Is];exact h
 | .str _,v,_,h=>by rw[Rp] at h;rw[Is];exact h
 | .list ds,v,c,h=>by
  rw[Rp] at h;rw[Is];rw[kK] at c;obtain ⟨a,vs,h1,h2,h3⟩:=h;exact ⟨a,vs,h1,h2,aA.is ds c h3⟩
 | .tuple ds,v,c,h=>by
  rw[Rp] at h;rw[Is];rw[kK] at c;obtain ⟨a,vs,h1,h2,h3⟩:=h;exact ⟨a,vs,h1,h2,aA.is ds c h3⟩
 | .dict _,v,c,h=>by rw[kK] at c;cases c
theorem aA.is:∀(ds:B4) {vs:C0},iF ds=true->aA K H ds vs->eZ K H ds vs
 | [],vs,_,h=>by rw[aA] at h;rw[eZ];exact h
 | d::ds,vs,c,h=>by
  rw[aA] at h;rw[eZ];rw[iF,dS] at c;obtain ⟨v,r,h1,h2,h3⟩:=h;exact ⟨v,r,h1,Rp.is d c.1 h2,aA.is ds c.2 h3⟩
end
variable {A:Hp}{ds:B4}
section
variable   {v:V}
theorem Rp.int{i:Int}:Rp K A (.int i) v↔v= .int i:=by rw[Rp]
theorem Rp.bool{b:Bool}:Rp K A (.bool b) v↔v= .bl b:=by rw[Rp]
theorem Rp.none:Rp K A .none v↔v= .non:=by rw[Rp]
theorem Rp.str{x:Str}:Rp K A (.str x) v↔v= .str x:=by rw[Rp]
theorem Rp.list:Rp K A (.list ds) v↔∃a vs,v= .ref a/\SqL K A a vs/\aA K A ds vs:=by rw[Rp]
theorem Rp.tuple:Rp K A (.tuple ds) v↔∃a vs,v= .ref a/\SqT K A a vs/\aA K A ds vs:=by rw[Rp]
theorem aA.nil{vs:C0}:aA K A [] vs↔vs=[]:=by rw[aA]
theorem aA.cons{d:ab}{ds:B4}{vs:C0}:aA K A (d::ds) vs↔∃v r,vs=v::r/\Rp K A d v/\aA K A ds r:=by rw[aA]
theorem aA.length:∀{ds:B4}{vs:C0},aA K A ds vs->ds.length=vs.length
 | [],vs,h=>by rw[aA.nil] at h;rw[h];rfl
 | d::ds,vs,h=>by
  rw[aA.cons] at h;obtain ⟨v,r,rfl,_,h⟩:=h;rw[a9,a9,aA.length h]
theorem aA.get:∀{ds:B4}{vs:C0}{i:Nat}{x:V},aA K A ds vs->vs[i]?=some x->∃d,ds[i]?=some d/\Rp K A d x
 | [],vs,i,x,h,e=>by rw[aA.nil] at h;subst h;simp at e
 | d::ds,vs,i,x,h,e=>by
  rw[aA.cons] at h;obtain ⟨v,r,rfl,h1,h⟩:=h
  match i with
  | 0=>simp at e;subst e;exact ⟨d,rfl,h1⟩
  | i+1=>
   have e':=by simpa using e
   obtain ⟨d',h2,h3⟩:=aA.get h e';exact ⟨d',by simpa using h2,h3⟩
theorem aA.get':∀{ds:B4}{vs:C0}{i:Nat}{d:ab},aA K A ds vs->ds[i]?=some d->∃x,vs[i]?=some x/\Rp K A d x
 | [],vs,i,x,h,e=>by simp at e
 | d::ds,vs,i,x,h,e=>by
  rw[aA.cons] at h;obtain ⟨v,r,rfl,h1,h⟩:=h
  match i with
  | 0=>simp at e;subst e;exact ⟨v,rfl,h1⟩
  | i+1=>
   have e':=by simpa using e
   obtain ⟨d',h2,h3⟩:=aA.get' h e';exact ⟨d',by simpa using h2,h3⟩
theorem aA.append:∀{ds es:B4}{vs us:C0},aA K A ds vs->aA K A es us->aA K A (ds++es) (vs++us)
 | [],es,vs,us,h,g=>by rw[aA.nil] at h;subst h;exact g
 | d::ds,es,vs,us,h,g=>by
  rw[aA.cons] at h;obtain ⟨v,r,rfl,h1,h⟩:=h;rw[gE,gE,aA.cons];exact ⟨v,r++us,rfl,h1,aA.append h g⟩
theorem aA.one{d:ab}{x:V}(h:Rp K A d x):aA K A [d] [x]:=by rw[aA.cons];exact ⟨x,[],rfl,h,aA.nil.mpr rfl⟩
theorem aA.take:∀{ds:B4}{vs:C0} (n:Nat),aA K A ds vs->aA K A (ds.take n) (vs.take n)
 | _,_,0,_=>by rw[mE,mE];exact aA.nil.mpr rfl
 | [],vs,n+1,h=>by rw[aA.nil] at h;subst h;exact aA.nil.mpr rfl
 | d::ds,vs,n+1,h=>by
  rw[aA.cons] at h;obtain ⟨v,r,rfl,h1,h⟩:=h;rw[List.take_succ_cons,List.take_succ_cons,aA.cons];exact ⟨v,_,rfl,h1,aA.take n h⟩
theorem aA.drop:∀{ds:B4}{vs:C0} (n:Nat),aA K A ds vs->aA K A (ds.drop n) (vs.drop n)
 | _,_,0,h=>by rw[wa,wa];exact h
 | [],vs,n+1,h=>by rw[aA.nil] at h;subst h;exact aA.nil.mpr rfl
 | d::ds,vs,n+1,h=>by
  rw[aA.cons] at h;obtain ⟨v,r,rfl,h1,h⟩:=h;rw[List.drop_succ_cons,List.drop_succ_cons];exact aA.drop n h
theorem aA.reverse:∀{ds:B4}{vs:C0},aA K A ds vs->aA K A ds.reverse vs.reverse
 | [],vs,h=>by rw[aA.nil] at h;subst h;exact aA.nil.mpr rfl
 | d::ds,vs,h=>by
  rw[aA.cons] at h;obtain ⟨v,r,rfl,h1,h⟩:=h;rw[List.reverse_cons,List.reverse_cons];exact (aA.reverse h).append (aA.one h1)
theorem aA.ints{ns:B3}:aA K A (ns.map ab.int) (ns.map V.int):=by
 induction ns with
 | nil=>exact aA.nil.mpr rfl
 | cons n ns ih=>exact aA.cons.mpr ⟨_,_,rfl,Rp.int.mpr rfl,ih⟩
end
inductive Fl where
 | AO | AN | own | fix (p:Addr) | exc (C:Addr) | nst (b:Bool) | kit
 deriving DecidableEq
abbrev B9:=List Fl
noncomputable def isO:Fl->Bool
 | .own=>true
 | .fix _=>true
 | _=>false
noncomputable def isX:Fl->Bool
 | .exc _=>true
 | .nst _=>true
 | .kit=>true
 | _=>false
def afK(A:Hp)(C:Addr)(v:V):Prop:=∃p ob,v= .ref p/\A p=some (.frz ob (.own 0))/\ob.cls= .ref C
noncomputable def nG:B4->Option B3
 | []=>some []
 | .int i::r=>match nG r with
  | some l=>some (i::l)
  | none=>none
 | _::_=>none
noncomputable def uc:B4->Option dw
 | []=>some []
 | .tuple ds::r=>match nG ds,uc r with
  | some a,some b=>some (a::b)
  | _,_=>none
 | _::_=>none
noncomputable def jE:ab->Option dw
 | .tuple ds=>uc ds
 | _=>none
def RpN(K:aw)(A:Hp)(AE:B0)(xs:List (dw×Addr×a8)):Prop:=∃us:List (dw×V),KN K A us xs/\ka (λp q=>jE p.1=some q.1/\Rp K A p.2 q.2) AE us
def aga(K:aw)(A B H:Hp)(d:ab)(v:V):Prop:=∃p xs AE,v= .ref p/\d= .dict AE/\H p=some (iw p xs)/\A p=none/\B p=none/\RpN K A AE xs
noncomputable def oZ:ab->Option B3
 | .tuple ds=>nG ds
 | _=>none
abbrev RpT(K:aw)(A:Hp):B0->List (B3×Addr×a8)->Prop:=ka λp q=>oZ p.1=some q.1/\SqT K A q.2.1 (q.1.map V.int)/\∃v,AK v q.2.2/\Rp K A p.2 v
def p7(K:aw)(A:Hp)(d:ab)(v:V):Prop:=∃p xs AE,v= .ref p/\d= .dict AE/\A p=some (jY p xs)/\RpT K A AE xs
theorem p7.mono{d:ab}{v:V}(sa:aG A H)(h:p7 K A d v):p7 K H d v:=by
 obtain ⟨p,xs,AE,e1,e2,h1,h2⟩:=h;exact ⟨p,xs,AE,e1,e2,sa _ _ h1,Paired.rP h2 λ_ _ z=>⟨z.1,sa.fP z.2.1,z.2.2.imp λv y=>⟨y.1,Rp.mono sa _ y.2⟩⟩⟩
def Pk(K:aw)(A H:Hp)(d:ab)(v:V):Prop:=
 Rp K A d v\/(∃p vs ds,v= .ref p/\d= .list ds/\SqL K H p vs/\aA K A ds vs)\/∃p u AE,v= .ref p/\d= .dict AE/\Rd H p (.dK u)/\bw K A AE u
def iY(K:aw)(A:Hp)(d:ab)(o:HO):Prop:=(∃ds vs,d= .list ds/\o= .lst vs/\aA K A ds vs)\/∃AE u,d= .dict AE/\o= .dK u/\bw K A AE u
def Own(K:aw)(A B H:Hp)(d:ab)(v:V):Prop:=∃p o,v= .ref p/\H p=some o/\A p=none/\B p=none/\iY K A d o
def Aa(K:aw)(A B H:Hp):Fl->ab->V->Prop
 | .AO,d,v=>Rp K A d v
 | .AN,d,v=>Pk K A B d v
 | .own,d,v=>Own K A B H d v
 | .fix p,d,v=>v= .ref p/\Own K A B H d v
 | .exc C,_,v=>afK A C v
 | .nst b,d,v=>b=true->aga K A B H d v
 | .kit,d,v=>p7 K A d v
def HX(K:aw)(A B H:Hp)(f:Fl)(d:Option ab)(v:Option V):Prop:=∀d',d=some d'->∃v',v=some v'/\Aa K A B H f d' v'
noncomputable abbrev fl(O:B9)(i:Nat):Fl:=O.getD i .AO
noncomputable abbrev gv(Γ:Ev)(i:Nat):Option ab:=Γ.getD i none
noncomputable abbrev sv(σ:St)(i:Nat):Option V:=σ.getD i none
structure aZ (K:aw) (A B H:Hp) (O:B9) (σ:St) (Γ:Ev):Prop where
 a:aG A H
 b:aG B H
 len:Γ.length=σ.length
 slot:∀i,HX K A B H (fl O i) (gv Γ i) (sv σ i)
 sep:∀i j,i≠j->isO (fl O i)=true->isO (fl O j)=true->gv Γ i≠none->gv Γ j≠none->sv σ i≠sv σ j
def New(A A' B:Hp):Prop:=∀p,A p=none->B p≠none->A' p=none
structure aX (A H A' H':Hp):Prop where
 aa:aG A A'
 hh:aG H H'
 ah:aG A' H'
 nw:New A A' H
theorem aX.refl(h:aG A H):aX A H A H:=⟨aG.refl _,aG.refl _,h,λ_ h _=>h⟩
variable {p:Addr}
theorem aG.ne(e:aG H H')(h:H p≠none):H' p≠none:=by
 cases q:H p with
 | none=>exact absurd q h
 | some o=>rw[e p o q];simp
theorem aX.trans{H1 A2 H2:Hp}(g:aX A H H' H1)(g':aX H' H1 A2 H2):aX A H A2 H2:=
 ⟨g.aa.trans g'.aa,g.hh.trans g'.hh,g'.ah,λp h1 h2=>g'.nw p (g.nw p h1 h2) (aG.ne g.hh h2)⟩
theorem New.mono{B:Hp}(n:New A H H')(s:aG B H'):New A H B:=λp h1 h2=>n p h1 (aG.ne s h2)
theorem New.trans{B:Hp}(n:New A H B)(m:New H H' B):New A H' B:=λp h1 h2=>m p (n p h1 h2) h2
variable {AE:B0}{o:HO}
section
variable  {B A':Hp}{O:B9}{σ:St}{Γ:Ev}{d:ab}{v:V}
theorem Pk.mono(ha:aG A A')(hh:aG H H')(h:Pk K A H d v):Pk K A' H' d v:=by
 rcases h with h | ⟨p,vs,ds,e1,e2,h1,h2⟩ | ⟨p,u,AE,e1,e2,h1,h2⟩
 . exact .inl (Rp.mono ha d h)
 . exact .inr (.inl ⟨p,vs,ds,e1,e2,hh.seq h1,aA.mono ha ds h2⟩)
 . exact .inr (.inr ⟨p,u,AE,e1,e2,aG.rd hh h1,bw.mono ha AE h2⟩)
theorem iY.mono(ha:aG A A')(h:iY K A d o):iY K A' d o:=by
 rcases h with ⟨ds,vs,e1,e2,h⟩ | ⟨AE,u,e1,e2,h⟩
 . exact .inl ⟨ds,vs,e1,e2,aA.mono ha ds h⟩
 . exact .inr ⟨AE,u,e1,e2,bw.mono ha AE h⟩
theorem RpN.mono(ha:aG A A')(h:RpN K A AE xs):RpN K A' AE xs:=by
 obtain ⟨us,h1,h2⟩:=h;exact ⟨us,h1.keeps λb ys e=>ha.fP e,Paired.rP h2 λ_ _ z=>⟨z.1,Rp.mono ha _ z.2⟩⟩
theorem iY.nx(h:iY K A d o)(e:some o=some (iw p xs)):False:=by
 rcases h with ⟨ds,vs,e1,e2,h⟩ | ⟨AE,u,e1,e2,h⟩ <;> (rw[e2] at e;cases e)
theorem Aa.grow(g:aX A H A' H'){f:Fl}(h:Aa K A B H f d v):Aa K A' B H' f d v:=by
 cases f with
 | AO=>exact Rp.mono g.aa d h
 | AN=>exact Pk.mono g.aa (aG.refl _) h
 | own=>
  obtain ⟨p,o,e,h1,h2,h3,h4⟩:=h;exact ⟨p,o,e,g.hh _ _ h1,g.nw p h2 (by rw[h1];simp),h3,h4.mono g.aa⟩
 | fix p0=>
  obtain ⟨e0,p,o,e,h1,h2,h3,h4⟩:=h;exact ⟨e0,p,o,e,g.hh _ _ h1,g.nw p h2 (by rw[h1];simp),h3,h4.mono g.aa⟩
 | exc C=>
  obtain ⟨p,ob,e,h1,h2⟩:=h;exact ⟨p,ob,e,g.aa _ _ h1,h2⟩
 | nst b=>
  intro z;obtain ⟨p,xs,AE,w1,w2,w3,w4,w5,w6⟩:=h z;exact ⟨p,xs,AE,w1,w2,g.hh _ _ w3,g.nw p w4 (by rw[w3];simp),w5,w6.mono g.aa⟩
 | kit=>exact p7.mono g.aa h
theorem HX.grow(g:aX A H A' H'){f:Fl}{d:Option ab}{v:Option V}(h:HX K A B H f d v):HX K A' B H' f d v:=λd' e=>
 let ⟨v',e',q⟩:=h d' e;⟨v',e',q.grow g⟩
theorem aZ.grow(g:aX A H A' H')(r:aZ K A B H O σ Γ):aZ K A' B H' O σ Γ:=
 ⟨g.ah,r.b.trans g.hh,r.len,λi=>(r.slot i).grow g,r.sep⟩
theorem iY.share(h:iY K A d o)(s:aG A (AM A p o)):Rp K (AM A p o) d (.ref p):=by
 rcases h with ⟨ds,vs,e1,e2,h⟩ | ⟨AE,u,e1,e2,h⟩
 . subst e1;subst e2;exact Rp.list.mpr ⟨p,vs,rfl,SqL.of aY,aA.mono s ds h⟩
 . subst e1;subst e2;exact (by rw[Rp];exact ⟨p,u,rfl,.inl aY,bw.mono s AE h⟩)
theorem Own.pk(h:Own K A B H d v):Pk K A H d v:=by
 obtain ⟨p,o,e,h1,_,_,⟨ds,vs,e2,e3,h4⟩ | ⟨AE,u,e2,e3,h4⟩⟩:=h
 . subst e3;exact .inr (.inl ⟨p,vs,ds,e,e2,SqL.of h1,h4⟩)
 . subst e3;exact .inr (.inr ⟨p,u,AE,e,e2,.inl h1,h4⟩)
theorem Aa.pk(hb:aG B H){f:Fl}(h:Aa K A B H f d v)(hx:isX f=false):Pk K A H d v:=by
 cases f with
 | AO=>exact .inl h
 | AN=>exact Pk.mono (aG.refl _) hb h
 | own=>exact Own.pk h
 | fix p0=>exact Own.pk h.2
 | exc C=>cases hx
 | nst b=>cases hx
 | kit=>cases hx
theorem Pk.list(ha:aG A H)(h:Pk K A H (.list ds) v):∃p vs,v= .ref p/\SqL K H p vs/\aA K A ds vs:=by
 rcases h with h | ⟨p,vs,ds',e1,e2,h1,h2⟩ | ⟨p,u,AE,e1,e2,h1,h2⟩
 . obtain ⟨a,vs,e,h1,h2⟩:=Rp.list.mp h;exact ⟨a,vs,e,ha.seq h1,h2⟩
 . cases e2;exact ⟨p,vs,e1,h1,h2⟩
 . cases e2
theorem Pk.lY(h:Pk K A H d v)(n:∀ds,d ≠ .list ds)(n2:∀AE,d ≠ .dict AE):Rp K A d v:=by
 rcases h with h | ⟨p,vs,ds',e1,e2,h1,h2⟩ | ⟨p,u,AE,e1,e2,h1,h2⟩
 . exact h
 . exact absurd e2 (n ds')
 . exact absurd e2 (n2 AE)
theorem Pk.int{i:Int}(h:Pk K A H (.int i) v):v= .int i:=Rp.int.mp (h.lY (λ_ z=>nomatch z) (λ_ z=>nomatch z))
theorem Pk.bool{i:Bool}(h:Pk K A H (.bool i) v):v= .bl i:=Rp.bool.mp (h.lY (λ_ z=>nomatch z) (λ_ z=>nomatch z))
theorem Pk.none(h:Pk K A H .none v):v= .non:=Rp.none.mp (h.lY (λ_ z=>nomatch z) (λ_ z=>nomatch z))
theorem Pk.str{x:Str}(h:Pk K A H (.str x) v):v= .str x:=Rp.str.mp (h.lY (λ_ z=>nomatch z) (λ_ z=>nomatch z))
theorem Pk.tuple(ha:aG A H)(h:Pk K A H (.tuple ds) v):∃p vs,v= .ref p/\SqT K H p vs/\aA K A ds vs:=by
 obtain ⟨a,vs,e,h1,h2⟩:=Rp.tuple.mp (h.lY (λ_ z=>nomatch z) (λ_ z=>nomatch z));exact ⟨a,vs,e,ha.fP h1,h2⟩
theorem Pk.is(ha:aG A H)(hc:eI d=true)(h:Pk K A H d v):Is K H d v:=by
 have c:=mf hc;rcases h with h | ⟨p,vs,ds',e1,e2,h1,h2⟩ | ⟨p,u,AE,e1,e2,h1,h2⟩
 rotate_right
 . subst e2;rw[kK] at c;cases c
 . exact Is.mono ha d (Rp.is d c h)
 . subst e2;rw[Is];rw[kK] at c;exact ⟨p,vs,e1,h1,eZ.mono ha ds' (aA.is ds' c h2)⟩
theorem Rp.dict:Rp K A (.dict AE) v↔∃a u,v= .ref a/\Rd A a (.dK u)/\bw K A AE u:=by rw[Rp]
theorem bw.nil{u:A8}:bw K A [] u↔u=[]:=by rw[bw]
theorem bw.cons{k d:ab}{r:B0}{u:A8}:bw K A ((k,d)::r) u↔∃key v u',u=(key,v)::u'/\bO k=some key/\Rp K A d v/\bw K A r u':=by rw[bw]
theorem Pk.dict(ha:aG A H)(h:Pk K A H (.dict AE) v):∃a u,v= .ref a/\Rd H a (.dK u)/\bw K A AE u:=by
 rcases h with h | ⟨p,vs,ds',e1,e2,h1,h2⟩ | ⟨p,u,kvs',e1,e2,h1,h2⟩
 . obtain ⟨a,u,e,h1,h2⟩:=Rp.dict.mp h;exact ⟨a,u,e,aG.rd ha h1,h2⟩
 . cases e2
 . cases e2;exact ⟨p,u,e1,h1,h2⟩
theorem aX.new(ha:aG A H)(h:H p=none):aX A H (AM A p o) (AM H p o):=
 ⟨aG.new (ha.free h) o,aG.new h o,λb u q=>by
  by_cases hb:b=p
  . subst hb;rw[aY] at q ⊢;exact q
  . rw[aH hb] at q ⊢;exact ha b u q,λb h1 h2=>by
  have hb:b≠p:=λz=>h2 (z ▸ h);rw[aH hb];exact h1⟩
theorem aX.lay(ha:aG A H)(h:H p=none):aX A H A (AM H p o):=
 ⟨aG.refl _,aG.new h o,ha.trans (aG.new h o),λb h1 _=>h1⟩
end
structure Nm (X:Cx) (i:Nat) (x:Str):Prop where
 a:X.N[i]?=some x
 b:Vis X.env.scope x
 c:nD x
 d:(x == ("__classdict__" : Str))=false
end Zq
local macro_rules | `(tactic| walk_at "nm")=>`(tactic| exact ⟨rfl,by first | exact i7 rfl | exact uk (i7 rfl) | exact uk (uk rfl),by decide,by decide⟩)
namespace Zq
open PySem PySem.Spec PyProof.Rows
noncomputable def AV:Expr->Bool
 | .Starred _ _=>false
 | _=>true
noncomputable def jh:C1->Bool
 | []=>true
 | e::es=>AV e&&jh es
variable {e:Expr}{es:C1}
theorem cU{env:Env}(h:AV e=true):d6 (e::es) env=(false,eval e env)::d6 es env:=by
 cases e <;> first | rfl | cases h
theorem jA:∀{es:C1}{env:Env}{pos:Pos},jh es=true->(nS pos (d6 es env)).any (·.1)=false
 | [],_,_,_=>rfl
 | e::es,env,pos,h=>by
  rw[jh,dS] at h;rw[cU h.1];show (false||(nS pos (d6 es env)).any (·.1))=false;rw[jA h.2];rfl
def tE(K:aw)(O:B9)(m:ME):TE:=λσ H Q=>∃A B Γ d,aZ K A B H O σ Γ/\m Γ = .ok d/\∀v A' H',aX A H A' H'->Rp K A' d v->Q v H'
def tP(K:aw)(O:B9)(m:ME):TE:=λσ H Q=>∃A B Γ d,aZ K A B H O σ Γ/\m Γ = .ok d/\∀v A' H',aX A H A' H'->Pk K A' H' d v->Q v H'
def yH(K:aw)(H A' H':Hp)(d:ab)(v:V):Prop:=∃p o,v= .ref p/\H p=none/\H' p=some o/\A' p=none/\iY K A' d o
def tF(K:aw)(O:B9)(m:ME):TE:=λσ H Q=>∃A B Γ d,aZ K A B H O σ Γ/\m Γ = .ok d/\∀v A' H',aX A H A' H'->yH K H A' H' d v->Q v H'
def tT(K:aw)(O:B9)(m:ME):TT:=λσ H Q=>∃A B Γ b,aZ K A B H O σ Γ/\m Γ = .ok (.bool b)/\∀A' H',aX A H A' H'->Q b H'
variable {X:Cx}{t t':TT}{tg:Expr}
theorem PE.imp{t t':TE}(h:PE X e t)(i:∀σ H Q,t' σ H Q->t σ H Q):PE X e t':=λAD s σ H Q I q=>h AD s σ H Q I (i σ H Q q)
theorem PT.imp(h:PT X e t)(i:∀σ H Q,t' σ H Q->t σ H Q):PT X e t':=λAD s σ H Q I q=>h AD s σ H Q I (i σ H Q q)
theorem PW.imp(h:PW X e t)(i:∀σ H Q,t' σ H Q->t σ H Q):PW X e t':=λw AD s σ H Q I q=>h w AD s σ H Q I (i σ H Q q)
theorem PA.imp{t t':TA}(h:PA X es t)(i:∀σ H Q,t' σ H Q->t σ H Q):PA X es t':=λpos AD s σ H Q I q=>h pos AD s σ H Q I (i σ H Q q)
theorem PS.imp{e:Stmt}{t t':TS}(h:PS X e t)(i:∀D σ H,t' D σ H->t D σ H):PS X e t':=λAD s σ H D I q=>h AD s σ H D I (i D σ H q)
theorem PSs.imp{e:C5}{t t':TS}(h:PSs X e t)(i:∀D σ H,t' D σ H->t D σ H):PSs X e t':=λAD s σ H D I q=>h AD s σ H D I (i D σ H q)
theorem PI.imp{t t':TI}(h:PI X tg e t)(i:∀σ H R,t' σ H R->t σ H R):PI X tg e t':=λAD s σ H R I q=>h AD s σ H R I (i σ H R q)
section
variable (X:Cx)
structure QE (e:Expr) (t:TE):Prop where
 h:PE X e t
structure QT (e:Expr) (t:TT):Prop where
 h:PT X e t
structure QW (e:Expr) (t:TT):Prop where
 h:PW X e t
structure QA (e:C1) (t:TA):Prop where
 h:PA X e t
structure QS (e:Stmt) (t:TS):Prop where
 h:PS X e t
structure QSs (e:C5) (t:TS):Prop where
 h:PSs X e t
structure QI (tg e:Expr) (t:TI):Prop where
 h:PI X tg e t
structure QO (e:Option Expr) (t:TO):Prop where
 h:PO X e t
structure QG (tg:Expr) (t:TG):Prop where
 h:PG X tg t
structure QGs (tg:C1) (t:TGs):Prop where
 h:PGs X tg t
structure yc (e:C1) (t:TT):Prop where
 h:sr X e t
end
theorem QE.imp{t t':TE}(h:PE X e t)(i:∀σ H Q,t' σ H Q->t σ H Q):QE X e t':=⟨PE.imp h i⟩
theorem QT.imp(h:PT X e t)(i:∀σ H Q,t' σ H Q->t σ H Q):QT X e t':=⟨PT.imp h i⟩
theorem QW.imp(h:PW X e t)(i:∀σ H Q,t' σ H Q->t σ H Q):QW X e t':=⟨PW.imp h i⟩
theorem QA.imp{t t':TA}(h:PA X es t)(i:∀σ H Q,t' σ H Q->t σ H Q):QA X es t':=⟨PA.imp h i⟩
theorem QS.imp{e:Stmt}{t t':TS}(h:PS X e t)(i:∀D σ H,t' D σ H->t D σ H):QS X e t':=⟨PS.imp h i⟩
theorem QSs.imp{e:C5}{t t':TS}(h:PSs X e t)(i:∀D σ H,t' D σ H->t D σ H):QSs X e t':=⟨PSs.imp h i⟩
theorem QI.imp{t t':TI}(h:PI X tg e t)(i:∀σ H R,t' σ H R->t σ H R):QI X tg e t':=⟨PI.imp h i⟩
variable {K:aw}{O:B9}{m m1 m2:ME}{a b c:Expr}{pos:Pos}{A H A' H':Hp}{v:V}{i:Nat}{Γ:Ev}{σ:St}{x:Str}{op:CmpOp}{rest:C1}{ds:B4}{vs:C0}
theorem sp(h:QE X e (tE K O m)):QE X e (tP K O m):=QE.imp h.h λσ H Q az=>by obtain ⟨A,B,Γ,d,r,em,k⟩:=az;exact ⟨A,B,Γ,d,r,em,λv A' H' g p=>k v A' H' g (.inl p)⟩
theorem yH.share{d:ab}(g:aX A H A' H')(h:yH K H A' H' d v):∃A'',aX A H A'' H'/\Rp K A'' d v:=by
 obtain ⟨p,o,rfl,h1,h2,h3,h4⟩:=h;have s:aG A' (AM A' p o):=aG.new h3 _;refine ⟨AM A' p o,⟨g.aa.trans s,g.hh,λb u q=>?_,λb n1 n2=>?_⟩,h4.share s⟩
 . by_cases hb:b=p
   . subst hb;rw[aY] at q;rw[h2];exact q
   . rw[aH hb] at q;exact g.ah b u q
 . have hb:b≠p:=λz=>n2 (z ▸ h1);rw[aH hb];exact g.nw b n1 n2
theorem sfe(h:QE X e (tF K O m)):QE X e (tE K O m):=QE.imp h.h λσ H Q ⟨A,B,Γ,d,r,em,k⟩=>⟨A,B,Γ,d,r,em,λv A' H' g p=>by
 obtain ⟨A'',g',p'⟩:=p.share g;exact k v A'' H' g' p'⟩
theorem sfp(h:QE X e (tF K O m)):QE X e (tP K O m):=sp (sfe h)
noncomputable def aj(i:Nat):ME:=λΓ=>match gv Γ i with
 | some d=>.ok d
 | none=>.bad
noncomputable def eC(d:ab):ME:=λ_=>.ok d
theorem q8{d:ab}(h:aj i Γ = .ok d):gv Γ i=some d:=by
 unfold aj at h
 cases q:gv Γ i with
 | none=>rw[q] at h;cases h
 | some d'=>rw[q] at h;cases h;rfl
theorem dO(h:sv σ i=some v):σ[i]?=some (some v):=by
 unfold sv at h;rw[ae] at h
 cases q:σ[i]? with
 | none=>rw[q] at h;cases h
 | some o=>rw[q] at h;exact congrArg some h
theorem aq(i:Nat)(nm:Nm X i x:=by walk_at "nm")(hx:isX (fl O i)=false:=by rfl):QE X (.Name x pos) (tP K O (aj i)):=QE.imp (dM nm.1 nm.2 nm.3 nm.4) λσ H Q az=>by
 obtain ⟨A,B,Γ,d,r,em,k⟩:=az;obtain ⟨v,e1,q⟩:=r.slot i d (q8 em);exact ⟨v,dO e1,k v A H (aX.refl r.a) (q.pk r.b hx)⟩
theorem bh(i:Nat)(hi:fl O i= .AO:=by rfl)(nm:Nm X i x:=by walk_at "nm"):QE X (.Name x pos) (tE K O (aj i)):=QE.imp (dM nm.1 nm.2 nm.3 nm.4) λσ H Q az=>by
 obtain ⟨A,B,Γ,d,r,em,k⟩:=az;obtain ⟨v,e1,q⟩:=r.slot i d (q8 em);rw[hi] at q;exact ⟨v,dO e1,k v A H (aX.refl r.a) q⟩
theorem Iw{d:ab}(h:PE X e (tC v))(hr:∀A,Rp K A d v):QE X e (tE K O (eC d)):=QE.imp h λσ H Q az=>by
 obtain ⟨A,B,Γ,d',r,em,k⟩:=az;cases em;exact k v A H (aX.refl r.a) (hr A)
theorem gb{i:Int}{j pos}:QE X (.Constant (.int i) j pos) (tE K O (eC (.int i))):=Iw JK λ_=>Rp.int.mpr rfl
theorem gR{i:Bool}{j pos}:QE X (.Constant (.bool i) j pos) (tE K O (eC (.bool i))):=Iw aeW λ_=>Rp.bool.mpr rfl
theorem lO{j pos}:QE X (.Constant .none j pos) (tE K O (eC .none)):=Iw aea λ_=>Rp.none.mpr rfl
theorem gZ{j pos}:QE X (.Constant (.str x) j pos) (tE K O (eC (.str x))):=Iw Vg λ_=>Rp.str.mpr rfl
theorem ou{u:a8}{d:ab}(hg:Gl X x)(hm:X.mg x=some u)(r:AK v u)(hr:∀A,Rp K A d v)(hd:nD x:=by decide):QE X (.Name x pos) (tE K O (eC d)):=
 Iw (Od hg hm r hd) hr
noncomputable def ao(f:C8)(a b:ME):ME:=λΓ=>(a Γ).bind λx=>(b Γ).bind λy=>f x y
def rD(K:aw)(f:C8):R2:=λx y H Q=>∃A d1 d2 d,f d1 d2= .ok d/\aG A H/\Pk K A H d1 x/\Pk K A H d2 y/\∀v A' H',aX A H A' H'->Rp K A' d v->Q v H'
theorem yE{f:C8}{Q:VK}(h:tE K O (ao f m1 m2) σ H Q):tOp (rD K f) (tP K O m1) (tP K O m2) σ H Q:=by
 obtain ⟨A,B,Γ,d,r,em,k⟩:=h;obtain ⟨d1,e1,em⟩:=AI.au em;obtain ⟨d2,e2,em⟩:=AI.au em;refine ⟨A,B,Γ,d1,r,e1,λx A1 H1 g1 p1=>⟨A1,B,Γ,d2,r.grow g1,e2,λy A2 H2 g2 p2=>⟨A2,d1,d2,d,em,g2.ah,p1.mono g2.aa g2.hh,p2,λv A' H' g3 p3=>k v A' H' ((g1.trans g2).trans g3) p3⟩⟩⟩
theorem adg{f:C8}{Q:Bool->Hp->Prop}(h:tT K O (ao f m1 m2) σ H Q):YS (tOp (rD K f) (tP K O m1) (tP K O m2)) σ H Q:=by
 obtain ⟨A,B,Γ,bb,r,em,k⟩:=h;exact yE ⟨A,B,Γ,_,r,em,λv A' H' g p=>⟨bb,Rp.bool.mp p,k A' H' g⟩⟩
theorem aL{op:Operator}{f:C8}(ho:OpR X (hV op) (rD K f))(ha:QE X a (tP K O m1))(hb:QE X b (tP K O m2)):QE X (.BinOp a op b pos) (tE K O (ao f m1 m2)):=QE.imp (Zj ho ha.h hb.h) λ_ _ _=>yE
theorem xR{f:C8}(ho:OpR X (fw op) (rD K f))(ha:QE X a (tP K O m1))(hb:QE X b (tP K O m2))(hm:oo op b=false):QE X (.Compare a [op] [b] pos) (tE K O (ao f m1 m2)):=QE.imp (Z1 ho ha.h hb.h hm) λ_ _ _=>yE
theorem tH{f:C8}(ho:OpR X (fw op) (rD K f))(ha:QE X a (tP K O m1))(hb:QE X b (tP K O m2))(hm:oo op b=false):QT X (.Compare a [op] [b] pos) (tT K O (ao f m1 m2)):=QT.imp (NZ ho ha.h hb.h hm) λ_ _ _=>adg
noncomputable def CK(f g:C8)(a b c:ME):ME:=λΓ=>(a Γ).bind λx=>(b Γ).bind λy=>(f x y).bind λt=>match t with
 | .bool true=>(c Γ).bind λz=>g y z
 | .bool false=>.ok (.bool false)
 | _=>.bad
theorem WW{f g:C8}{Q:VK}(h:tE K O (CK f g m1 m2 m) σ H Q):Ux (rD K f) (rD K g) (tP K O m1) (tP K O m2) (tP K O m) σ H Q:=by
 obtain ⟨A,B,Γ,d,r,em,k⟩:=h;obtain ⟨d1,e1,em⟩:=AI.au em;obtain ⟨d2,e2,em⟩:=AI.au em;obtain ⟨t,e3,em⟩:=AI.au em;refine ⟨A,B,Γ,d1,r,e1,λx A1 H1 g1 p1=>⟨A1,B,Γ,d2,r.grow g1,e2,λy A2 H2 g2 p2=>⟨A2,d1,d2,t,e3,g2.ah,p1.mono g2.aa g2.hh,p2,λv A3 H3 g3 p3=>?_⟩⟩⟩
 cases t with
 | bool bb=>
  refine ⟨bb,Rp.bool.mp p3,?_⟩
  cases bb with
  | false=>
   cases em;exact xJ (k _ A3 H3 ((g1.trans g2).trans g3) (Rp.bool.mpr rfl))
  | true=>
   obtain ⟨d3,e4,em⟩:=AI.au em;exact xK ⟨A3,B,Γ,d3,((r.grow g1).grow g2).grow g3,e4,λz A4 H4 g4 p4=>⟨A4,d2,d3,d,em,g4.ah,(p2.mono g3.aa g3.hh).mono g4.aa g4.hh,p4,λv A' H' g5 p5=>k v A' H' ((((g1.trans g2).trans g3).trans g4).trans g5) p5⟩⟩
 | _=>cases em
theorem Wz{op':CmpOp}{f g:C8}(ho:OpR X (fw op) (rD K f))(ho':OpR X (fw op') (rD K g))(ha:QE X a (tP K O m1))(hb:QE X b (tP K O m2))(hc:QE X c (tP K O m))
 (hm:lastMarks [op,op'] [b,c]=false:=by with_unfolding_all rfl):QE X (.Compare a [op,op'] [b,c] pos) (tE K O (CK f g m1 m2 m)):=QE.imp (WR ho ho' ha.h hb.h hc.h hm) λ_ _ _=>WW
noncomputable def n8(a b:ME):ME:=λΓ=>(a Γ).bind λx=>match x with
 | .bool true=>b Γ
 | .bool false=>.ok (.bool false)
 | _=>.bad
noncomputable def eOr(a b:ME):ME:=λΓ=>(a Γ).bind λx=>match x with
 | .bool false=>b Γ
 | .bool true=>.ok (.bool true)
 | _=>.bad
noncomputable def mJ(a:ME):ME:=λΓ=>(a Γ).bind λx=>match x with
 | .bool t=>.ok (.bool (!t))
 | _=>.bad
noncomputable def eIf(c a b:ME):ME:=λΓ=>(c Γ).bind λx=>match x with
 | .bool true=>a Γ
 | .bool false=>b Γ
 | _=>.bad
theorem DR{op}(h:QE X a (tE K O m)):QE X (.BoolOp op [a] pos) (tE K O m):=⟨adR h.h⟩
theorem ym(ha:QE X a (tE K O m1))(hb:QE X (.BoolOp .And (b::rest) pos) (tE K O m2)):QE X (.BoolOp .And (a::b::rest) pos) (tE K O (n8 m1 m2)):=QE.imp (ad5 ha.h hb.h) λσ H Q az=>by
 obtain ⟨A,B,Γ,d,r,em,k⟩:=az;obtain ⟨d1,e1,em⟩:=AI.au em;refine ⟨A,B,Γ,d1,r,e1,λv A1 H1 g1 p1=>?_⟩
 cases d1 with
 | bool bb=>
  refine ⟨bb,Rp.bool.mp p1,?_⟩
  cases bb with
  | true=>exact xK ⟨A1,B,Γ,d,r.grow g1,em,λv A' H' g p=>k v A' H' (g1.trans g) p⟩
  | false=>cases em;exact xJ (k _ A1 H1 g1 (Rp.bool.mpr rfl))
 | _=>cases em
theorem acx(ha:QE X a (tE K O m1)):QE X (.UnaryOp .Not a pos) (tE K O (mJ m1)):=QE.imp (ade ha.h) λσ H Q az=>by
 obtain ⟨A,B,Γ,d,r,em,k⟩:=az;obtain ⟨d1,e1,em⟩:=AI.au em;refine ⟨A,B,Γ,d1,r,e1,λv A1 H1 g1 p1=>?_⟩
 cases d1 with
 | bool bb=>cases em;exact ⟨bb,Rp.bool.mp p1,k _ A1 H1 g1 (Rp.bool.mpr rfl)⟩
 | _=>cases em
theorem aen(h:QE X e (tE K O m))(he:∀whole,Ap e X.env whole=(do let v <- whole;standAt e.pos;holding [v] (truthy v)):=by intro _;rfl):QT X e (tT K O m):=QT.imp (acP h.h he) λσ H Q ⟨A,B,Γ,bb,r,em,k⟩=>
 ⟨A,B,Γ,_,r,em,λv A' H' g p=>⟨bb,Rp.bool.mp p,k A' H' g⟩⟩
theorem vI(ha:QT X a (tT K O m)):QW X (.BoolOp .And [a] pos) (tT K O m):=⟨abu ha.h⟩
theorem rN(ha:QT X a (tT K O m)):QW X (.BoolOp .Or [a] pos) (tT K O m):=⟨acg ha.h⟩
theorem yG(ha:QT X a (tT K O m1))(hb:QW X (.BoolOp .And (b::rest) pos) (tT K O m2)):QW X (.BoolOp .And (a::b::rest) pos) (tT K O (n8 m1 m2)):=QW.imp (acX ha.h hb.h) λσ H Q az=>by
 obtain ⟨A,B,Γ,d,r,em,k⟩:=az;obtain ⟨d1,e1,em⟩:=AI.au em
 cases d1 with
 | bool bb=>
  refine ⟨A,B,Γ,bb,r,e1,λA1 H1 g1=>?_⟩
  cases bb with
  | true=>exact xK ⟨A1,B,Γ,d,r.grow g1,em,λA' H' g=>k A' H' (g1.trans g)⟩
  | false=>cases em;exact xJ (k A1 H1 g1)
 | _=>cases em
theorem wR(ha:QT X a (tT K O m1))(hb:QW X (.BoolOp .Or (b::rest) pos) (tT K O m2)):QW X (.BoolOp .Or (a::b::rest) pos) (tT K O (eOr m1 m2)):=QW.imp (afu ha.h hb.h) λσ H Q az=>by
 obtain ⟨A,B,Γ,d,r,em,k⟩:=az;obtain ⟨d1,e1,em⟩:=AI.au em
 cases d1 with
 | bool bb=>
  refine ⟨A,B,Γ,bb,r,e1,λA1 H1 g1=>?_⟩
  cases bb with
  | false=>exact xJ ⟨A1,B,Γ,d,r.grow g1,em,λA' H' g=>k A' H' (g1.trans g)⟩
  | true=>cases em;exact xK (k A1 H1 g1)
 | _=>cases em
theorem mC(h:QW X e (tT K O m)):QT X e (tT K O m):=⟨h.h.pt⟩
theorem kJ(ha:QT X a (tT K O m1)):QT X (.UnaryOp .Not a pos) (tT K O (mJ m1)):=QT.imp (aem ha.h) λσ H Q az=>by
 obtain ⟨A,B,Γ,d,r,em,k⟩:=az;obtain ⟨d1,e1,em⟩:=AI.au em
 cases d1 with
 | bool bb=>cases em;exact ⟨A,B,Γ,bb,r,e1,λA1 H1 g1=>k A1 H1 g1⟩
 | _=>cases em
theorem QD(hc:QT X c (tT K O m))(ha:QE X a (tE K O m1))(hb:QE X b (tE K O m2)):QE X (.IfExp c a b pos) (tE K O (eIf m m1 m2)):=QE.imp (W6 hc.h ha.h hb.h) λσ H Q az=>by
 obtain ⟨A,B,Γ,d,r,em,k⟩:=az;obtain ⟨d1,e1,em⟩:=AI.au em
 cases d1 with
 | bool bb=>
  refine ⟨A,B,Γ,bb,r,e1,λA1 H1 g1=>?_⟩
  cases bb with
  | true=>exact xK ⟨A1,B,Γ,d,r.grow g1,em,λv A' H' g p=>k v A' H' (g1.trans g) p⟩
  | false=>exact xJ ⟨A1,B,Γ,d,r.grow g1,em,λv A' H' g p=>k v A' H' (g1.trans g) p⟩
 | _=>cases em
noncomputable def oH:ab->AI ab
 | .none=>.ok (.bool false)
 | .bool b=>.ok (.bool b)
 | .int i=>.ok (.bool (i != 0))
 | .list ds=>.ok (.bool (!ds.isEmpty))
 | .tuple ds=>.ok (.bool (!ds.isEmpty))
 | .str x=>gd (x.length<=bE) (.ok (.bool ((x.length:Int) != 0)))
 | _=>.bad
noncomputable def eUn(f:C9)(a:ME):ME:=λΓ=>(a Γ).bind f
theorem aA.isEmpty(h:aA K A ds vs):vs.isEmpty=ds.isEmpty:=by
 cases ds with
 | nil=>rw[aA.nil] at h;subst h;rfl
 | cons d ds=>rw[aA.cons] at h;obtain ⟨v,r,rfl,_⟩:=h;rfl
theorem kI(h:QE X a (tP X.K O m))(he:∀whole,Ap a X.env whole=(do let v <- whole;standAt a.pos;holding [v] (truthy v)):=by intro _;rfl):QT X a (tT X.K O (eUn oH m)):=QT.imp (VF h.h he) λσ H Q az=>by
 obtain ⟨A,B,Γ,bb,r,em,k⟩:=az;obtain ⟨d1,e1,em⟩:=AI.au em;refine ⟨A,B,Γ,d1,r,e1,λv A1 H1 g1 p1=>⟨bb,?_,k A1 H1 g1⟩⟩
 cases d1 with
 | none=>cases em;rw[p1.none];rfl
 | bool b=>cases em;rw[p1.bool];rfl
 | int i=>cases em;rw[p1.int];rfl
 | str x=>
  obtain ⟨hz,em⟩:=cu em;cases em;rw[p1.str];exact ⟨hz,rfl⟩
 | list ds=>
  cases em;obtain ⟨p,vs,rfl,h1,h2⟩:=p1.list g1.ah;exact .inl ⟨vs,h1,by rw[h2.isEmpty]⟩
 | tuple ds=>
  cases em;obtain ⟨p,vs,rfl,h1,h2⟩:=p1.tuple g1.ah;exact .inr (.inl ⟨vs,h1,by rw[h2.isEmpty]⟩)
 | dict _=>cases em
noncomputable def qg(g:Int->Int->AI ab):ab->ab->AI ab
 | .int a,.int b=>g a b
 | _,_=>.bad
theorem jo{g:Int->Int->AI ab}{a b d:ab}(e:qg g a b= .ok d):∃i j,a= .int i/\b= .int j/\g i j= .ok d:=by
 cases a with
 | int i=>
  cases b with
  | int j=>exact ⟨i,j,rfl,rfl,e⟩
  | _=>cases e
 | _=>cases e
noncomputable def cJ:ab->ab->AI ab
 | .int a,.int b=>.ok (.int (a+b))
 | .str a,.str b=>gd (a.length+b.length<=bE) (.ok (.str (a++b)))
 | .list a,.list b=>gd (a.length+b.length<=bE) (.ok (.list (a++b)))
 | .tuple a,.tuple b=>gd (a.length+b.length<=bE) (.ok (.tuple (a++b)))
 | .int a,.bool b=>.ok (.int (a+b2i b))
 | _,_=>.bad
noncomputable def jb:ab->ab->AI ab:=qg λa b=>.ok (.int (a - b))
instance (i j:Int):Decidable (rK i j):=by unfold rK;infer_instance
instance (i j:Int):Decidable (Em i j):=by unfold Em;infer_instance
instance (i j:Int):Decidable (Gb i j):=by unfold Gb;infer_instance
noncomputable def lM:ab->ab->AI ab:=qg λa b=>gd (rK a b) (.ok (.int (a*b)))
noncomputable def lJ:ab->ab->AI ab:=qg λa b=>gd (Em a b) (.ok (.int (a / b)))
noncomputable def jU:ab->ab->AI ab:=qg λa b=>gd (0<b) (.ok (.int (a % b)))
noncomputable def Bu:ab->ab->AI ab:=qg λa b=>gd (Gb a b) (.ok (.int (a*2^b.toNat)))
noncomputable def wu:ab->ab->AI ab:=qg λa b=>gd (0<=b) (.ok (.int (a / 2^b.toNat)))
noncomputable def rW:ab->ab->AI ab:=qg λa b=>.ok (.int (ia a b))
noncomputable def orD:ab->ab->AI ab:=qg λa b=>.ok (.int (k8 a b))
noncomputable def LQ:ab->AI ab
 | .int a=>.ok (.int (-a))
 | _=>.bad
noncomputable def ltD:ab->ab->AI ab:=qg λa b=>.ok (.bool (decide (a<b)))
noncomputable def leD:ab->ab->AI ab:=qg λa b=>.ok (.bool (decide (a<=b)))
noncomputable def gtD:ab->ab->AI ab:=qg λa b=>.ok (.bool (decide (b<a)))
noncomputable def eqD(a b:ab):AI ab:=gd (eI a=true/\eI b=true) (.ok (.bool (fI a b)))
noncomputable def neD(a b:ab):AI ab:=gd (eI a=true/\eI b=true) (.ok (.bool (!fI a b)))
noncomputable def Xi:ab->Bool
 | .none=>true
 | _=>false
noncomputable def wU:ab->ab->AI ab
 | a,.none=>.ok (.bool (Xi a))
 | _,_=>.bad
noncomputable def DY:ab->ab->AI ab
 | a,.none=>.ok (.bool (!Xi a))
 | _,_=>.bad
noncomputable def AQ:ab->ab->AI ab
 | .list ds,.int i=>match atI ds i with | some d=>.ok d | none=>.bad
 | .tuple ds,.int i=>match atI ds i with | some d=>.ok d | none=>.bad
 | _,_=>.bad
variable {g:a8->a8->Sem a8}
theorem xU{f:C8}{C:Int->Int->Prop}{h:Int->Int->Int}(ho:OpR X g (rI C λi j=>.int (h i j)))
 (hf:∀a b d,f a b= .ok d->∃i j,a= .int i/\b= .int j/\C i j/\d= .int (h i j)):OpR X g (rD X.K f):=by
 rintro AD s σ H x y v u Q I rx ry ⟨A,d1,d2,d,e,ha,p1,p2,k⟩;obtain ⟨i,j,rfl,rfl,hc,rfl⟩:=hf _ _ _ e;exact ho AD s σ H x y v u Q I rx ry ⟨i,j,p1.int,p2.int,hc,k _ A H (aX.refl ha) (Rp.int.mpr rfl)⟩
theorem Eo{f:C8}{h:Int->Int->Int}(ho:OpR X g (rI0 λi j=>.int (h i j)))
 (hf:∀a b d,f a b= .ok d->∃i j,a= .int i/\b= .int j/\d= .int (h i j)):OpR X g (rD X.K f):=by
 rintro AD s σ H x y v u Q I rx ry ⟨A,d1,d2,d,e,ha,p1,p2,k⟩;obtain ⟨i,j,rfl,rfl,rfl⟩:=hf _ _ _ e;exact ho AD s σ H x y v u Q I rx ry ⟨i,j,p1.int,p2.int,k _ A H (aX.refl ha) (Rp.int.mpr rfl)⟩
theorem Kd{f:C8}{h:Int->Int->Bool}(ho:OpR X g (rI0 λi j=>.bl (h i j)))
 (hf:∀a b d,f a b= .ok d->∃i j,a= .int i/\b= .int j/\d= .bool (h i j)):OpR X g (rD X.K f):=by
 rintro AD s σ H x y v u Q I rx ry ⟨A,d1,d2,d,e,ha,p1,p2,k⟩;obtain ⟨i,j,rfl,rfl,rfl⟩:=hf _ _ _ e;exact ho AD s σ H x y v u Q I rx ry ⟨i,j,p1.int,p2.int,k _ A H (aX.refl ha) (Rp.bool.mpr rfl)⟩
theorem iQ:OpR X (hV .Sub) (rD X.K jb):=Eo aeA λa b d e=>by
 obtain ⟨i,j,rfl,rfl,e⟩:=jo e;cases e;exact ⟨_,_,rfl,rfl,rfl⟩
theorem ji:OpR X (hV .FloorDiv) (rD X.K lJ):=xU Z8 λa b d e=>by
 obtain ⟨i,j,rfl,rfl,e⟩:=jo e;obtain ⟨hc,e⟩:=cu e;cases e;exact ⟨_,_,rfl,rfl,hc,rfl⟩
theorem gK:OpR X (hV .Mod) (rD X.K jU):=xU abU λa b d e=>by
 obtain ⟨i,j,rfl,rfl,e⟩:=jo e;obtain ⟨hc,e⟩:=cu e;cases e;exact ⟨_,_,rfl,rfl,hc,rfl⟩
theorem yS:OpR X (hV .LShift) (rD X.K Bu):=xU adS λa b d e=>by
 obtain ⟨i,j,rfl,rfl,e⟩:=jo e;obtain ⟨hc,e⟩:=cu e;cases e;exact ⟨_,_,rfl,rfl,hc,rfl⟩
theorem vC:OpR X (hV .RShift) (rD X.K wu):=xU ab6 λa b d e=>by
 obtain ⟨i,j,rfl,rfl,e⟩:=jo e;obtain ⟨hc,e⟩:=cu e;cases e;exact ⟨_,_,rfl,rfl,hc,rfl⟩
theorem pH:OpR X (hV .BitAnd) (rD X.K rW):=Eo acu λa b d e=>by
 obtain ⟨i,j,rfl,rfl,e⟩:=jo e;cases e;exact ⟨_,_,rfl,rfl,rfl⟩
theorem YJ:OpR X (hV .BitOr) (rD X.K orD):=Eo aeB λa b d e=>by
 obtain ⟨i,j,rfl,rfl,e⟩:=jo e;cases e;exact ⟨_,_,rfl,rfl,rfl⟩
theorem Ib:OpR X (fw .Lt) (rD X.K ltD):=Kd afs λa b d e=>by
 obtain ⟨i,j,rfl,rfl,e⟩:=jo e;cases e;exact ⟨_,_,rfl,rfl,rfl⟩
theorem afe:OpR X (fw .LtE) (rD X.K leD):=Kd afg λa b d e=>by
 obtain ⟨i,j,rfl,rfl,e⟩:=jo e;cases e;exact ⟨_,_,rfl,rfl,rfl⟩
theorem zq:OpR X (fw .Gt) (rD X.K gtD):=Kd aeD λa b d e=>by
 obtain ⟨i,j,rfl,rfl,e⟩:=jo e;cases e;exact ⟨_,_,rfl,rfl,rfl⟩
theorem d9(hu:X.A.units+64<ke):OpR X (fw .Eq) (rD X.K eqD):=by
 rintro AD s σ H x y v u Q I rx ry ⟨A,d1,d2,d,e,ha,p1,p2,k⟩;obtain ⟨⟨h1,h2⟩,e⟩:=cu e;cases e;exact adO hu AD s σ H x y v u Q I rx ry ⟨d1,d2,p1.is ha h1,p2.is ha h2,h1,h2,k _ A H (aX.refl ha) (Rp.bool.mpr rfl)⟩
theorem zA(hu:X.A.units+64<ke):OpR X (fw .NotEq) (rD X.K neD):=by
 rintro AD s σ H x y v u Q I rx ry ⟨A,d1,d2,d,e,ha,p1,p2,k⟩;obtain ⟨⟨h1,h2⟩,e⟩:=cu e;cases e;exact ad4 hu AD s σ H x y v u Q I rx ry ⟨d1,d2,p1.is ha h1,p2.is ha h2,h1,h2,k _ A H (aX.refl ha) (Rp.bool.mpr rfl)⟩
theorem Pk.isNone{d:ab}(ha:aG A H)(p:Pk K A H d v):decide (v=V.non)=Xi d:=by
 cases d with
 | none=>rw[p.none];rfl
 | bool b=>rw[p.bool];rfl
 | int b=>rw[p.int];rfl
 | str b=>rw[p.str];rfl
 | list b=>obtain ⟨q,vs,rfl,_⟩:=p.list ha;rfl
 | tuple b=>obtain ⟨q,vs,rfl,_⟩:=p.tuple ha;rfl
 | dict b=>obtain ⟨q,u,rfl,_⟩:=p.dict ha;rfl
noncomputable def Ea:ab->ab->AI ab
 | .bool a,.bool b=>.ok (.bool (!(a == b)))
 | _,_=>.bad
theorem Pj:OpR X (fw .IsNot) (rD X.K Ea):=by
 rintro AD s σ H x y v u Q I rx ry ⟨A,d1,d2,d,e,ha,p1,p2,k⟩
 cases d1 with
 | bool a=>
  cases d2 with
  | bool b=>
   cases e;rw[p1.bool] at rx;rw[p2.bool] at ry;cases rx;cases ry;refine wpAny_isNot_plain rfl ⟨.bl (!(a == b)),H,I,?_,k _ A H (aX.refl ha) (Rp.bool.mpr rfl)⟩;cases a <;> cases b <;> rfl
  | _=>cases e
 | _=>cases e
theorem Ku:OpR X (fw .Is) (rD X.K wU):=by
 rintro AD s σ H x y v u Q I rx ry ⟨A,d1,d2,d,e,ha,p1,p2,k⟩
 cases d2 with
 | none=>
  have e':=AI.ok.inj e;subst e';exact aek AD s σ H x y v u Q I rx ry ⟨p2.none,by rw[p1.isNone ha];exact k _ A H (aX.refl ha) (Rp.bool.mpr rfl)⟩
 | _=>cases e
theorem NT:OpR X (fw .IsNot) (rD X.K DY):=by
 rintro AD s σ H x y v u Q I rx ry ⟨A,d1,d2,d,e,ha,p1,p2,k⟩
 cases d2 with
 | none=>
  have e':=AI.ok.inj e;subst e';refine aay AD s σ H x y v u Q I rx ry ⟨p2.none,?_⟩;rw[p1.isNone ha];exact k _ A H (aX.refl ha) (Rp.bool.mpr rfl)
 | _=>cases e
def ae9(K:aw):R2:=λx y H Q=>∃l b xs zs,x= .ref l/\y= .ref b/\SqL K H l xs/\SqL K H b zs/\xs.length+zs.length<=bE/\∀p,H p=none->Q (.ref p) (AM H p (.lst (xs++zs)))
theorem ZZ:OpR X (hV .Add) (ae9 X.K):=by
 rintro AD s σ H x y v u Q I rx ry ⟨l,b,xs,zs,rfl,rfl,hH,hB,hz,q⟩;cases rx;cases ry;obtain ⟨AG,r,pl,_⟩:=I.list hH;obtain ⟨its2,r2,pl2,_⟩:=I.list hB;have hl:=r.length;have hl2:=r2.length;obtain ⟨⟨cls,dd,data,sl⟩,ho,hc,n,hd⟩:=pl.isList;obtain ⟨⟨cls2,dd2,data2,sl2⟩,ho2,hc2,n2,hd2⟩:=pl2.isList;simp only at hc hd hc2 hd2;subst hc hd hc2 hd2;have ea:AG.toArray++its2.toArray=(AG++its2).toArray:=by simp
 refine yb ⟨_,ho,rfl⟩ ⟨_,ho2,rfl⟩ noFill_list_add seq_list_add PySem.F.slot_list_add PySem.F.entry_list_add (PySem.F.args_list_add_2 _ _) (list_addW l b AG.toArray its2.toArray n n2 dd dd2 sl sl2 (by simp only[dQ];lia)) ⟨ho,ho2,?_⟩;rw[ea];exact ⟨.ref _,_,I.ac6 (r.append r2) (by rw[av];lia),rfl,q _ I.fresh⟩
theorem X6:OpR X (hV .Add) (λx y H Q=>∃a b ys,x= .ref a/\y= .ref b/\SqT X.K H a []/\SqT X.K H b ys/\Q (.ref b) H):=by
 rintro AD s σ H x y v u Q I rx ry ⟨a,b,ys,rfl,rfl,ha,hb,q⟩;cases rx;cases ry;obtain ⟨AG,r1,p1,_⟩:=I.tuple ha;obtain ⟨its2,r2,p2,_⟩:=I.tuple hb;cases r1;obtain ⟨⟨cls,dd,data,sl⟩,ho,hc,n,hd⟩:=id p1;obtain ⟨⟨cls2,dd2,data2,sl2⟩,ho2,hc2,n2,hd2⟩:=id p2;simp only at hc hd hc2 hd2;subst hc hd hc2 hd2;exact yb ⟨_,ho,rfl⟩ ⟨_,ho2,rfl⟩ xy seq_tuple_add rh qE (pw _ _)
  (tuple_addW0 a b _ its2.toArray n n2 dd dd2 sl sl2 rfl) ⟨ho,ho2,⟨.ref b,H,I,rfl,q⟩⟩
theorem cz:OpR X (hV .Add) (rD X.K cJ):=by
 rintro AD s σ H x y v u Q I rx ry ⟨A,d1,d2,d,e,ha,p1,p2,k⟩
 cases d1 with
 | int i=>
  cases d2 with
  | int j=>cases e;exact abZ AD s σ H x y v u Q I rx ry ⟨i,j,p1.int,p2.int,k _ A H (aX.refl ha) (Rp.int.mpr rfl)⟩
  | bool j=>cases e;exact UT AD s σ H x y v u Q I rx ry ⟨i,j,p1.int,p2.bool,k _ A H (aX.refl ha) (Rp.int.mpr rfl)⟩
  | _=>cases e
 | str i=>
  cases d2 with
  | str j=>
   obtain ⟨hc,e⟩:=cu e;cases e;exact Rh AD s σ H x y v u Q I rx ry ⟨i,j,p1.str,p2.str,hc,k _ A H (aX.refl ha) (Rp.str.mpr rfl)⟩
  | _=>cases e
 | list i=>
  cases d2 with
  | list j=>
   obtain ⟨hc,e⟩:=cu e;cases e;obtain ⟨l1,xs,e1,h1,q1⟩:=p1.list ha;obtain ⟨l2,ys,e2,h2,q2⟩:=p2.list ha;refine ZZ AD s σ H x y v u Q I rx ry ⟨l1,l2,xs,ys,e1,e2,h1,h2,by rw[<- q1.length,<- q2.length];exact hc,λp hp=>?_⟩;have g:=aX.new (o:=.lst (xs++ys)) ha hp;exact k _ _ _ g (Rp.list.mpr ⟨p,_,rfl,SqL.of aY,(aA.mono g.aa _ q1).append (aA.mono g.aa _ q2)⟩)
  | _=>cases e
 | tuple i=>
  cases d2 with
  | tuple j=>
   obtain ⟨hc,e⟩:=cu e;cases e;obtain ⟨l1,xs,e1,h1,q1⟩:=p1.tuple ha;obtain ⟨l2,ys,e2,h2,q2⟩:=p2.tuple ha
   by_cases hne:i=[]
   . subst hne;have ex:=oe q1.length.symm;subst ex;refine X6 AD s σ H x y v u Q I rx ry ⟨l1,l2,ys,e1,e2,h1,h2,?_⟩;rw[fi] at k;refine k _ A H (aX.refl ha) ?_;have:=p2.lY (λ_ z=>nomatch z) (λ_ z=>nomatch z);rwa [e2] at this
   refine ZG AD s σ H x y v u Q I rx ry ⟨l1,l2,xs,ys,e1,e2,h1,h2,λz=>?_,by rw[<- q1.length,<- q2.length];exact hc,λz=>?_,λz p hp=>?_⟩
   . subst z;have:=q1.length;exact hne (oe this)
   . subst z;have e0:=oe q2.length;subst e0;rw[dr] at k;refine k _ A H (aX.refl ha) ?_;have:=p1.lY (λ_ z=>nomatch z) (λ_ z=>nomatch z);rwa [e1] at this
   . have g:=aX.new (o:=.tup (xs++ys)) ha hp;exact k _ _ _ g (Rp.tuple.mpr ⟨p,_,rfl,SqT.of aY,(aA.mono g.aa _ q1).append (aA.mono g.aa _ q2)⟩)
  | _=>cases e
 | _=>cases e
def aeN:R2:=λx y H Q=>∃l k xs,x= .ref l/\y= .int k/\Rd H l (.lst xs) /\ -(2^63)<=k/\k<2^63/\xs.length*k.toNat<=bE /\
 ∀p,H p=none->Q (.ref p) (AM H p (.lst (ax k.toNat xs).flatten))
theorem Zy:OpR X (hV .Mult) aeN:=by
 rintro AD s σ H x y v u Q I rx ry ⟨l,k,xs,rfl,rfl,hH,h1,h2,hz,q⟩;cases rx;obtain ⟨t,rfl⟩:=ry;obtain ⟨z,AG,n,r,e⟩:=hH.ok I.AR;have hl:=r.length;have hlen:AG.toArray.size*k.toNat<=bE:=by rw[dQ,<- hl];exact hz
 have agn:¬ AG.toArray.size*k.toNat > (2^63 - 1) / 8:=by
  have:(bE:Nat)<=(2^63 - 1) / 8:=by decide
  lia
 have hfit:¬ (!mw k)=true:=by
  rw[fitsIndex_both h1 h2];exact e8
 have aeY:¬ nI (AG.toArray.size*k.toNat)=true:=by
  rw[XC hlen];exact e8
 have hnew:List.foldl (λx1 x2=>x1++x2) #[] (ax (if AG.toArray.isEmpty=true then 0 else k.toNat) AG.toArray)=(ax k.toNat AG).flatten.toArray:=by
  have f0:=λm=>by
   have:=foldl_rep AG m [];rwa [fi] at this
  rw[f0]
  cases AG with
  | nil=>simp
  | cons a r'=>rw[if_neg (by simp)]
 refine wpAny_binaryOp_repeat_ref (by decide) ⟨_,e,rfl⟩ (λs'=>typeIs_int s' k t) noFill_list_mul F.fills_int_mul F.slot_int_rmul repeat_list F.slot_int_index.lookup
  (call_meets F.slot_int_rmul (typeIs_int s k t) F.entry_int_rmul (F.args_int_rmul_2 _ _) (int___rmul___int_list k t l AG.toArray n)
   ⟨e,rfl,⟨_,e,rfl⟩,call_meets F.slot_list_mul ⟨_,e,rfl⟩ F.entry_list_mul (F.args_list_mul_2 _ _) (AutoListH.list___mul___list_int_3 l AG.toArray n k t hfit agn aeY) ⟨e,?_⟩⟩)
 rw[hnew];exact ⟨.ref _,_,I.ac6 (r.rep k.toNat) (by rw[len_rep,Nat.mul_comm];exact hz),rfl,q _ I.fresh⟩
theorem aA.reps(h:aA K A ds vs)(k:Nat):aA K A (ax k ds).flatten (ax k vs).flatten:=by
 induction k with
 | zero=>exact aA.nil.mpr rfl
 | succ k ih=>rw[fo,fo,lx,lx];exact h.append ih
theorem iI:OpR X (hV .Mult) (rD X.K lM):=xU aeb λa b d e=>by
 obtain ⟨i,j,rfl,rfl,e⟩:=jo e;obtain ⟨hc,e⟩:=cu e;cases e;exact ⟨_,_,rfl,rfl,hc,rfl⟩
noncomputable def vY:ab->ab->AI ab
 | .list a,.int k=>gd (-(2^63)<=k/\k<2^63/\a.length*k.toNat<=bE) (.ok (.list (ax k.toNat a).flatten))
 | _,_=>.bad
theorem Dn(ha:QE X a (tF X.K O m1))(hb:QE X b (tP X.K O m2)):QE X (.BinOp a .Mult b pos) (tF X.K O (ao vY m1 m2)):=QE.imp (Zj Zy ha.h hb.h) λσ H Q az=>by
 obtain ⟨A,B,Γ,d,r,em,k⟩:=az;obtain ⟨d1,e1,em⟩:=AI.au em;obtain ⟨d2,e2,em⟩:=AI.au em;refine ⟨A,B,Γ,d1,r,e1,λx A1 H1 g1 p1=>⟨A1,B,Γ,d2,r.grow g1,e2,λy A2 H2 g2 p2=>?_⟩⟩
 cases d1 with
 | list i=>
  cases d2 with
  | int j=>
   obtain ⟨hc,em⟩:=cu em;cases em;obtain ⟨l1,o,rfl,h0,h1,h2,⟨ds,xs,e3,rfl,q1⟩ | ⟨AE,u,e3,_⟩⟩:=p1
   rotate_right
   . cases e3
   cases e3;refine ⟨l1,j,xs,rfl,p2.int,.inl (g2.hh _ _ h1),hc.1,hc.2.1,by rw[<- q1.length];exact hc.2.2,λp hp=>?_⟩;have gg:=g1.trans g2;exact k _ _ _ (gg.trans (aX.lay g2.ah hp)) ⟨p,_,rfl,gg.hh.free hp,aY,g2.ah.free hp,.inl ⟨_,_,rfl,rfl,(aA.mono g2.aa _ q1).reps _⟩⟩
  | _=>cases em
 | _=>cases em
theorem aA.atI{i:Int}{d:ab}(h:aA K A ds vs)(e:Zq.atI ds i=some d):∃x,Zq.atI vs i=some x/\Rp K A d x:=by
 unfold Zq.atI at e ⊢;rw[<- h.length]
 cases q:ixN ds.length i with
 | none=>rw[q] at e;cases e
 | some j=>rw[q] at e;exact h.get' e
theorem HS:IxR X (rD X.K AQ):=by
 intro value slice AD s σ H x y v u Q I rx ry hq hs;obtain ⟨A,d1,d2,d,e,ha,p1,p2,k⟩:=hq
 cases d1 with
 | list ds=>
  cases d2 with
  | int i=>
   have e':(match Zq.atI ds i with | some d=>AI.ok d | none=>.bad)= .ok d:=e
   cases q:Zq.atI ds i with
   | none=>rw[q] at e';cases e'
   | some d0=>
    rw[q] at e';cases e';obtain ⟨l,vs,e1,h1,q2⟩:=p1.list ha;obtain ⟨z,hz,rz⟩:=q2.atI q;exact abj value slice AD s σ H x y v u Q I rx ry ⟨l,vs,i,z,e1,p2.int,h1,hz,k _ A H (aX.refl ha) rz⟩ hs
  | _=>cases e
 | tuple ds=>
  cases d2 with
  | int i=>
   have e':(match Zq.atI ds i with | some d=>AI.ok d | none=>.bad)= .ok d:=e
   cases q:Zq.atI ds i with
   | none=>rw[q] at e';cases e'
   | some d0=>
    rw[q] at e';cases e';obtain ⟨l,vs,e1,h1,q2⟩:=p1.tuple ha;obtain ⟨z,hz,rz⟩:=q2.atI q;exact aez value slice AD s σ H x y v u Q I rx ry ⟨l,vs,i,z,e1,p2.int,h1,hz,k _ A H (aX.refl ha) rz⟩ hs
  | _=>cases e
 | _=>cases e
theorem YZ(ha:QE X a (tP X.K O m1))(hb:QE X b (tP X.K O m2))(hs:lF b):QE X (.Subscript a b pos) (tE X.K O (ao AQ m1 m2)):=QE.imp (Du HS ha.h hb.h hs) λ_ _ _=>yE
noncomputable def evs:List ME->Ev->AI B4
 | [],_=>.ok []
 | m::ms,Γ=>(m Γ).bind λd=>(evs ms Γ).bind λds=>.ok (d::ds)
theorem qL:∀{ms:List ME}{Γ:Ev}{ds:B4},evs ms Γ = .ok ds->ds.length=ms.length
 | [],_,_,h=>by cases h;rfl
 | m::ms,Γ,ds,h=>by
  obtain ⟨d,_,h⟩:=AI.au h;obtain ⟨r,e,h⟩:=AI.au h;cases h;rw[a9,a9,qL e]
def tAi(K:aw)(O:B9)(ms:List ME):TA:=λσ H Q=>∃A B Γ ds,aZ K A B H O σ Γ/\evs ms Γ = .ok ds/\∀vs A' H',aX A H A' H'->aA K A' ds vs->Q vs H'
def Be(K:aw)(A H:Hp):Fl->ab->V->Prop
 | .AO,d,v=>Rp K A d v
 | _,d,v=>Pk K A H d v
def pN(K:aw)(A H:Hp):B9->B4->C0->Prop
 | [],ds,vs=>ds=[]/\vs=[]
 | f::fs,ds,vs=>∃d r v s,ds=d::r/\vs=v::s/\Be K A H f d v/\pN K A H fs r s
def tAr(K:aw)(O:B9)(fs:B9)(ms:List ME):TA:=λσ H Q=>∃A B Γ ds,aZ K A B H O σ Γ/\evs ms Γ = .ok ds/\∀vs A' H',aX A H A' H'->pN K A' H' fs ds vs->Q vs H'
variable {ms:List ME}
section
variable      {fs:B9}
theorem aJ:QA X [] (tAi K O []):=QA.imp eQ λσ H Q az=>by
 obtain ⟨A,B,Γ,ds,r,em,k⟩:=az;cases em;exact k [] A H (aX.refl r.a) (aA.nil.mpr rfl)
theorem aD(ha:QE X e (tE K O m))(hr:QA X es (tAi K O ms))(hs:AV e=true:=by rfl):QA X (e::es) (tAi K O (m::ms)):=QA.imp (bY ha.h hr.h (cU hs)) λσ H Q az=>by
 obtain ⟨A,B,Γ,ds,r,em,k⟩:=az;obtain ⟨d,e1,em⟩:=AI.au em;obtain ⟨ds',e2,em⟩:=AI.au em;cases em;exact ⟨A,B,Γ,d,r,e1,λv A1 H1 g1 p1=>⟨A1,B,Γ,ds',r.grow g1,e2,λvs A2 H2 g2 p2=>k (v::vs) A2 H2 (g1.trans g2) (aA.cons.mpr ⟨v,vs,rfl,Rp.mono g2.aa d p1,p2⟩)⟩⟩
theorem aB:QA X [] (tAr K O [] []):=QA.imp eQ λσ H Q az=>by
 obtain ⟨A,B,Γ,ds,r,em,k⟩:=az;cases em;exact k [] A H (aX.refl r.a) ⟨rfl,rfl⟩
theorem fc(ha:QE X e (tE K O m))(hr:QA X es (tAr K O fs ms))(hs:AV e=true:=by rfl):QA X (e::es) (tAr K O (.AO::fs) (m::ms)):=QA.imp (bY ha.h hr.h (cU hs)) λσ H Q az=>by
 obtain ⟨A,B,Γ,ds,r,em,k⟩:=az;obtain ⟨d,e1,em⟩:=AI.au em;obtain ⟨ds',e2,em⟩:=AI.au em;cases em;exact ⟨A,B,Γ,d,r,e1,λv A1 H1 g1 p1=>⟨A1,B,Γ,ds',r.grow g1,e2,λvs A2 H2 g2 p2=>k (v::vs) A2 H2 (g1.trans g2) ⟨d,ds',v,vs,rfl,rfl,Rp.mono g2.aa d p1,p2⟩⟩⟩
theorem bz(ha:QE X e (tP K O m))(hr:QA X es (tAr K O fs ms))(hs:AV e=true:=by rfl):QA X (e::es) (tAr K O (.AN::fs) (m::ms)):=QA.imp (bY ha.h hr.h (cU hs)) λσ H Q az=>by
 obtain ⟨A,B,Γ,ds,r,em,k⟩:=az;obtain ⟨d,e1,em⟩:=AI.au em;obtain ⟨ds',e2,em⟩:=AI.au em;cases em;exact ⟨A,B,Γ,d,r,e1,λv A1 H1 g1 p1=>⟨A1,B,Γ,ds',r.grow g1,e2,λvs A2 H2 g2 p2=>k (v::vs) A2 H2 (g1.trans g2) ⟨d,ds',v,vs,rfl,rfl,p1.mono g2.aa g2.hh,p2⟩⟩⟩
noncomputable def bM(ms:List ME):ME:=λΓ=>(evs ms Γ).bind λds=>.ok (.tuple ds)
noncomputable def bU(ms:List ME):ME:=λΓ=>(evs ms Γ).bind λds=>.ok (.list ds)
theorem bC{x1}(h:QA X es (tAi K O ms))(hl:ms.length<=bE:=by first | decide | exact of_decide_eq_true rfl):QE X (.Tuple es x1 pos) (tE K O (bM ms)):=QE.imp (aci h.h) λσ H Q az=>by
 obtain ⟨A,B,Γ,d,r,em,k⟩:=az;obtain ⟨ds,e1,em⟩:=AI.au em;cases em;refine ⟨A,B,Γ,ds,r,e1,λvs A1 H1 g1 p1=>⟨by rw[<- p1.length,qL e1];exact hl,λp hp=>?_⟩⟩;have g:=aX.new (o:=.tup vs) g1.ah hp;exact k _ _ _ (g1.trans g) (Rp.tuple.mpr ⟨p,vs,rfl,SqT.of aY,aA.mono g.aa ds p1⟩)
theorem bF(h:QA X es (tAi K O ms))(hl:ms.length<=bE:=by first | decide | exact of_decide_eq_true rfl):QE X (.List es pos) (tF K O (bU ms)):=QE.imp (aee h.h) λσ H Q az=>by
 obtain ⟨A,B,Γ,d,r,em,k⟩:=az;obtain ⟨ds,e1,em⟩:=AI.au em;cases em;refine ⟨A,B,Γ,ds,r,e1,λvs A1 H1 g1 p1=>⟨by rw[<- p1.length,qL e1];exact hl,λp hp=>?_⟩⟩;exact k _ _ _ (g1.trans (aX.lay g1.ah hp)) ⟨p,_,rfl,g1.hh.free hp,aY,g1.ah.free hp,.inl ⟨ds,vs,rfl,rfl,p1⟩⟩
noncomputable def jC:List (Str×ME)->ME
 | []=>λ_=>.ok (.dict [])
 | (x,m)::r=>λΓ=>(m Γ).bind λd=>(jC r Γ).bind λe=>match e with
  | .dict ds=>.ok (.dict ((.str x,d)::ds))
  | _=>.bad
theorem rA:QE X (.Dict [] [] pos) (tF K O (jC [])):=QE.imp WN λσ H Q az=>by
 obtain ⟨A,B,Γ,d,r,em,k⟩:=az;cases em;intro p hp;exact k _ _ _ (aX.lay r.a hp) ⟨p,_,rfl,hp,aY,r.a.free hp,.inr ⟨_,_,rfl,rfl,bw.nil.mpr rfl⟩⟩
theorem Zk{op:UnaryOp}{f:C9}{r:V->Hp->VK->Prop}(ho:UnR X (unaryOp op) r)(hf:∀A H d1 d x (Q:VK),f d1= .ok d->aG A H->Pk K A H d1 x->(∀v A' H',aX A H A' H'->Rp K A' d v->Q v H')->r x H Q)
 (ha:QE X a (tP K O m)):QE X (.UnaryOp op a pos) (tE K O (eUn f m)):=QE.imp (aeV ho ha.h) λσ H Q az=>by
 obtain ⟨A,B,Γ,d,r,em,k⟩:=az;obtain ⟨d1,e1,em⟩:=AI.au em;exact ⟨A,B,Γ,d1,r,e1,λv A1 H1 g1 p1=>hf A1 H1 d1 d v Q em g1.ah p1 λv A' H' g p=>k v A' H' (g1.trans g) p⟩
theorem Um(ha:QE X a (tP K O m)):QE X (.UnaryOp .USub a pos) (tE K O (eUn LQ m)):=Zk ad6 (λA H d1 d x Q e hA p k=>by
 cases d1 with
 | int i=>cases e;exact ⟨i,p.int,k _ A H (aX.refl hA) (Rp.int.mpr rfl)⟩
 | _=>cases e) ha
noncomputable def eFn(f:B4->AI ab)(ms:List ME):ME:=λΓ=>(evs ms Γ).bind f
def qy(K:aw)(A H:Hp)(ds:B4)(vs:C0):Prop:=pN K A H (ds.map λ_=>.AN) ds vs
def rC(K:aw)(f:B4->AI ab):C0->Hp->VK->Prop:=λvs H Q=>∃A ds d,f ds= .ok d/\aG A H/\qy K A H ds vs/\∀v A' H',aX A H A' H'->Rp K A' d v->Q v H'
def rCF(K:aw)(f:B4->AI ab):C0->Hp->VK->Prop:=λvs H Q=>∃A ds d,f ds= .ok d/\aG A H/\qy K A H ds vs/\∀v A' H',aX A H A' H'->yH K H A' H' d v->Q v H'
noncomputable def sU(ms:List ME):B9:=ms.map λ_=>.AN
theorem Vb(h:evs ms Γ = .ok ds):sU ms=ds.map λ_=>.AN:=by
 have e:=qL h;rw[sU,List.map_const',List.map_const',e]
theorem Y9{f:B4->AI ab}{Q:VK}(h:tE K O (eFn f ms) σ H Q):tCB (rC K f) (tAr K O (sU ms) ms) σ H Q:=by
 obtain ⟨A,B,Γ,d,r,em,k⟩:=h;obtain ⟨ds,e1,em⟩:=AI.au em;refine ⟨A,B,Γ,ds,r,e1,λvs A1 H1 g1 p1=>⟨A1,ds,d,em,g1.ah,by rw[qy,<- Vb e1];exact p1,λv A' H' g p=>k v A' H' (g1.trans g) p⟩⟩
theorem afa{f:B4->AI ab}{Q:VK}(h:tF K O (eFn f ms) σ H Q):tCB (rCF K f) (tAr K O (sU ms) ms) σ H Q:=by
 obtain ⟨A,B,Γ,d,r,em,k⟩:=h;obtain ⟨ds,e1,em⟩:=AI.au em;refine ⟨A,B,Γ,ds,r,e1,λvs A1 H1 g1 p1=>⟨A1,ds,d,em,g1.ah,by rw[qy,<- Vb e1];exact p1,λv A' H' g p=>k v A' H' (g1.trans g) ?_⟩⟩;obtain ⟨q,o,e,h1,h2⟩:=p;exact ⟨q,o,e,g1.hh.free h1,h2⟩
variable  {p:Pos}{id:String}{f:B4->AI ab}
theorem cj(hc:fM X (.builtin id) (rC K f))(hg:Gl X x)(hm:X.mg x=none)(hv:fm x=some (.builtin id))(ha:QA X (e::es) (tAr K O (sU ms) ms))(hn:x ≠ "__name__" := by decide)(hdb:nD x:=by decide)
 (hs:AV e=true:=by rfl) (hpl:jh es=true:=by rfl):QE X (.Call (.Name x p) (e::es) [] pos) (tE K O (eFn f ms)):=QE.imp (Lw hc hg hm hv ha.h hn hdb (cU hs) (jA hpl)) λ_ _ _=>Y9
theorem fG(hc:fM X (.type id) (rC K f))(hg:Gl X x)(hm:X.mg x=none)(hv:fm x=some (.type id))(ha:QA X (e::es) (tAr K O (sU ms) ms))(hn:x ≠ "__name__" := by decide)(hdb:nD x:=by decide)
 (hs:AV e=true:=by rfl) (hpl:jh es=true:=by rfl):QE X (.Call (.Name x p) (e::es) [] pos) (tE K O (eFn f ms)):=QE.imp (t8 hc hg hm hv ha.h hn hdb (cU hs) (jA hpl)) λ_ _ _=>Y9
theorem ud(hc:fM X (.type id) (rCF K f))(hg:Gl X x)(hm:X.mg x=none)(hv:fm x=some (.type id))(ha:QA X (e::es) (tAr K O (sU ms) ms))(hn:x ≠ "__name__" := by decide)(hdb:nD x:=by decide)
 (hs:AV e=true:=by rfl) (hpl:jh es=true:=by rfl):QE X (.Call (.Name x p) (e::es) [] pos) (tF K O (eFn f ms)):=QE.imp (t8 hc hg hm hv ha.h hn hdb (cU hs) (jA hpl)) λ_ _ _=>afa
end
theorem qy.nil(h:qy K A H [] vs):vs=[]:=h.2
theorem qy.cons{K:aw}{A H:Hp}{d:ab}{ds:B4}{vs:C0}(h:qy K A H (d::ds) vs):∃v r,vs=v::r/\Pk K A H d v/\qy K A H ds r:=by
 obtain ⟨d',r',v,s,e1,e2,h1,h2⟩:=h;cases e1;exact ⟨v,s,e2,h1,h2⟩
noncomputable def fL:B4->AI ab
 | [.list ds]=>.ok (.int ds.length)
 | [.tuple ds]=>.ok (.int ds.length)
 | [.str x]=>gd (x.length<=bE) (.ok (.int x.length))
 | _=>.bad
noncomputable def Dt:B4->AI ab
 | [.list ds]=>.ok (.list ds)
 | [.tuple ds]=>.ok (.list ds)
 | _=>.bad
noncomputable def gJ:B4->AI ab
 | [.list ds]=>.ok (.tuple ds)
 | [.tuple ds]=>.ok (.tuple ds)
 | _=>.bad
noncomputable def minD:B4->AI ab
 | [.int i,.int j]=>.ok (.int (if j<i then j else i))
 | _=>.bad
theorem gk:fM X (.builtin "len") (rC X.K fL):=by
 rintro AD s σ H xs us Q I r ⟨A,ds,d,e,ha,p,k⟩
 match ds,e with
 | [.list es],e=>
  cases e;obtain ⟨v,r',rfl,p1,p2⟩:=p.cons;obtain rfl:=p2.nil;obtain ⟨l,vs,rfl,h1,q1⟩:=p1.list ha;exact yX AD s σ H _ us Q I r ⟨l,vs,rfl,.inl h1,by rw[<- q1.length];exact k _ A H (aX.refl ha) (Rp.int.mpr rfl)⟩
 | [.tuple es],e=>
  cases e;obtain ⟨v,r',rfl,p1,p2⟩:=p.cons;obtain rfl:=p2.nil;obtain ⟨l,vs,rfl,h1,q1⟩:=p1.tuple ha;exact yX AD s σ H _ us Q I r ⟨l,vs,rfl,.inr h1,by rw[<- q1.length];exact k _ A H (aX.refl ha) (Rp.int.mpr rfl)⟩
 | [.str x],e=>
  obtain ⟨hc,e⟩:=cu e;cases e;obtain ⟨v,r',rfl,p1,p2⟩:=p.cons;obtain rfl:=p2.nil;exact K4 AD s σ H _ us Q I r ⟨x,by rw[p1.str],hc,k _ A H (aX.refl ha) (Rp.int.mpr rfl)⟩
theorem El:fM X (.type "list") (rCF X.K Dt):=by
 rintro AD s σ H xs us Q I r ⟨A,ds,d,e,ha,p,k⟩
 match ds,e with
 | [.list es],e=>
  cases e;obtain ⟨v,r',rfl,p1,p2⟩:=p.cons;obtain rfl:=p2.nil;obtain ⟨l,vs,rfl,h1,q1⟩:=p1.list ha;exact yg AD s σ H _ us Q I r ⟨l,vs,rfl,.inl h1,λq hq=>k _ A _ (aX.lay ha hq) ⟨q,_,rfl,hq,aY,ha.free hq,.inl ⟨_,_,rfl,rfl,q1⟩⟩⟩
 | [.tuple es],e=>
  cases e;obtain ⟨v,r',rfl,p1,p2⟩:=p.cons;obtain rfl:=p2.nil;obtain ⟨l,vs,rfl,h1,q1⟩:=p1.tuple ha;exact yg AD s σ H _ us Q I r ⟨l,vs,rfl,.inr h1,λq hq=>k _ A _ (aX.lay ha hq) ⟨q,_,rfl,hq,aY,ha.free hq,.inl ⟨_,_,rfl,rfl,q1⟩⟩⟩
theorem gG:fM X (.type "tuple") (rC X.K gJ):=by
 rintro AD s σ H xs us Q I r ⟨A,ds,d,e,ha,p,k⟩
 match ds,e with
 | [.list es],e=>
  cases e;obtain ⟨v,r',rfl,p1,p2⟩:=p.cons;obtain rfl:=p2.nil;obtain ⟨l,vs,rfl,h1,q1⟩:=p1.list ha;exact xx AD s σ H _ us Q I r ⟨l,vs,rfl,.inl ⟨h1,λq hq=>by
   have g:=aX.new (o:=.tup vs) ha hq;exact k _ _ _ g (Rp.tuple.mpr ⟨q,vs,rfl,SqT.of aY,aA.mono g.aa _ q1⟩)⟩⟩
 | [.tuple es],e=>
  cases e;obtain ⟨v,r',rfl,p1,p2⟩:=p.cons;obtain rfl:=p2.nil;have p1':=p1.lY (λ_ z=>nomatch z) (λ_ z=>nomatch z);obtain ⟨l,vs,rfl,h1,q1⟩:=p1.tuple ha;exact xx AD s σ H _ us Q I r ⟨l,vs,rfl,.inr ⟨h1,k _ A H (aX.refl ha) p1'⟩⟩
theorem aeu(hc:X.calm=true):fM X (.builtin "min") (rC X.K minD):=by
 rintro AD s σ H xs us Q I r ⟨A,ds,d,e,ha,p,k⟩
 match ds,e with
 | [.int i,.int j],e=>
  cases e;obtain ⟨v,r',rfl,p1,p0⟩:=p.cons;obtain ⟨v2,r',rfl,p2,p3⟩:=p0.cons;obtain rfl:=p3.nil;exact Sv hc AD s σ H _ us Q I r ⟨i,j,by rw[p1.int,p2.int],k _ A H (aX.refl ha) (Rp.int.mpr rfl)⟩
noncomputable def tyN:ab->String
 | .none => "NoneType"
 | .bool _ => "bool"
 | .int _ => "int"
 | .str _ => "str"
 | .list _ => "list"
 | .tuple _ => "tuple"
 | .dict _ => "dict"
noncomputable def gm(T:String)(d:ab):Bool:=tyN d == T||(T == "int" && tyN d == "bool")
noncomputable def Ew(T:String)(a:ME):ME:=λΓ=>(a Γ).bind λd=>.ok (.bool (gm T d))
variable {T:String}
theorem Bb(t:String):oD K (.type t) (.type t)=some true:=by rw[oD,if_pos (by simp)]
theorem J4{t:String}{b:Bool}(hne:(kD t == kD T)=false)(h:(if PySem.W.kitMeta T=true then (fastBuiltinMro t).map (·.contains (kD T)) else none)=some b):oD K (.type t) (.type T)=some b:=by
 unfold oD PySem.W.kitCls;rw[if_neg (by rw[hne];exact e8)];exact h
def Fg(K:aw)(T:String):Prop:=∀d:ab,oD K (.type (tyN d)) (.type T)=some (gm T d)
theorem J1(h:∀t∈["NoneType", "bool", "int", "str", "list", "tuple", "dict"],oD K (.type t) (.type T)=some (t == T||(T == "int" && t == "bool"))):Fg K T:=λd=>h (tyN d) (by cases d <;> simp[tyN])
theorem abp:Fg K "int" := J1 λt h=>by
 simp only[cp,nX,or_false] at h;rcases h with rfl | rfl | rfl | rfl | rfl | rfl | rfl <;> first | exact (Bb _).trans (by decide +kernel) | exact J4 (by decide +kernel) (by decide +kernel)
theorem Vt:Fg K "bool" := J1 λt h=>by
 simp only[cp,nX,or_false] at h;rcases h with rfl | rfl | rfl | rfl | rfl | rfl | rfl <;> first | exact (Bb _).trans (by decide +kernel) | exact J4 (by decide +kernel) (by decide +kernel)
theorem GR:Fg K "tuple" := J1 λt h=>by
 simp only[cp,nX,or_false] at h;rcases h with rfl | rfl | rfl | rfl | rfl | rfl | rfl <;> first | exact (Bb _).trans (by decide +kernel) | exact J4 (by decide +kernel) (by decide +kernel)
section
variable     {p:Pos}
def ae2(K:aw)(T:String):C0->Hp->VK->Prop:=λxs H Q=>∃x A d,xs=[x,.ty T]/\aG A H/\Pk K A H d x/\Q (.bl (gm T d)) H
theorem adf(hT:Fg X.K T):fM X (.builtin "isinstance") (ae2 X.K T):=by
 rintro AD s σ H xs us Q I r ⟨x,A,d,rfl,ha,p1,q⟩;obtain ⟨u,c,rfl,rx,rc⟩:=AL.two r;cases rc;have fin:∀tk,EP X AD σ Q (.bool (gm T d)) { s with toks:=tk }:=λtk=>⟨.bl _,H,I.tok tk,rfl,q⟩;have e:=hT d
 cases d with
 | none=>rw[p1.none] at rx;cases rx;exact nh PySem.W.kitx_none I.kIn kr e (λz=>nomatch z) fin
 | bool y=>rw[p1.bool] at rx;cases rx;exact nh PySem.W.kitx_bool I.kIn kr e (λz=>nomatch z) fin
 | int i=>rw[p1.int] at rx;obtain ⟨t,rfl⟩:=rx;exact nh PySem.W.kitx_int I.kIn kr e (λz=>nomatch z) fin
 | str y=>rw[p1.str] at rx;obtain ⟨t,rfl⟩:=rx;exact nh PySem.W.kitx_str I.kIn kr e (λz=>nomatch z) fin
 | list ds=>
  obtain ⟨l,vs,rfl,h1,q1⟩:=p1.list ha;cases rx;obtain ⟨AG,_,pl,_⟩:=I.list h1;obtain ⟨o,h2,h3,_⟩:=pl.isList;exact nh PySem.W.kitx_list I.kIn ⟨o,h2,h3⟩ e (λz=>nomatch z) fin
 | tuple ds=>
  obtain ⟨l,vs,rfl,h1,q1⟩:=p1.tuple ha;cases rx;obtain ⟨AG,_,⟨o,h2,h3,_⟩,_⟩:=I.tuple h1;exact nh PySem.W.kitx_tuple I.kIn ⟨o,h2,h3⟩ e (λz=>nomatch z) fin
 | dict ds=>
  obtain ⟨l,AE,rfl,h1,_⟩:=p1.dict ha;cases rx;obtain ⟨_,_,vs,_,hd⟩:AE.length<=bE/\(l == fT)=false/\∃vs,KV AE vs/\s.heap.DictOf (b7 X.prog X.w) l vs:=qw I.AR h1;obtain ⟨o,_,_,h2,h3,_⟩:=hd;exact nh PySem.W.kitx_dict I.kIn ⟨o,h2,h3.1⟩ e (λz=>nomatch z) fin
theorem Ce(hT:Fg X.K T)(hg:Gl X "isinstance")(hm:X.mg "isinstance"= none)(ha:QE X a (tP X.K O m))(hb:PE X b (tC (.ty T)))
 (h1:d6 (a::[b]) X.env=(false,eval a X.env)::d6 [b] X.env:=by rfl) (h2:d6 [b] X.env=(false,eval b X.env)::d6 [] X.env:=by rfl) (hpl:(nS pos (d6 [b] X.env)).any (·.1)=false:=by rfl) :
 QE X (.Call (.Name "isinstance" p) [a,b] [] pos) (tE X.K O (Ew T m)):=
 QE.imp (Lw (adf hT) hg hm (show fm "isinstance"= some (.builtin "isinstance") by decide +kernel) (bY ha.h (bY hb eQ h2) h1) (by decide) (by decide) h1 hpl) λσ H Q az=>by
  obtain ⟨A,B,Γ,d,r,em,k⟩:=az;obtain ⟨d1,e1,em⟩:=AI.au em;cases em;exact ⟨A,B,Γ,d1,r,e1,λv A1 H1 g1 p1=>⟨v,A1,d1,rfl,g1.ah,p1,k _ A1 H1 g1 (Rp.bool.mpr rfl)⟩⟩
theorem Ii(hg:Gl X x)(hm:X.mg x=none)(hv:fm x=some (.type T))(hn:x ≠ "__name__" := by decide)(hd:nD x:=by decide):PE X (.Name x pos) (tC (.ty T)):=
 aah hg hm hv rfl hn hd
end
noncomputable def cutD(xs:B4)(lo hi:C3):B4:=(xs.drop (HT.sIx xs.length 0 lo)).take (HT.sIx xs.length xs.length hi - HT.sIx xs.length 0 lo)
def MO:=Ev->AI C3
noncomputable def PN:MO:=λ_=>.ok none
noncomputable def QL(m:ME):MO:=λΓ=>(m Γ).bind λd=>match d with
 | .int i=>.ok (some i)
 | _=>.bad
noncomputable def slD:ab->C3->C3->AI ab
 | .list ds,lo,hi=>.ok (.list (cutD ds lo hi))
 | .tuple ds,lo,hi=>.ok (.tuple (cutD ds lo hi))
 | _,_,_=>.bad
noncomputable def eSl(a:ME)(lo hi:MO):ME:=λΓ=>(a Γ).bind λd=>(lo Γ).bind λl=>(hi Γ).bind λh=>slD d l h
def tO(K:aw)(O:B9)(m:MO):TO:=λσ H Q=>∃A B Γ o,aZ K A B H O σ Γ/\m Γ = .ok o/\∀A' H',aX A H A' H'->Q o H'
theorem PO.imp{e:Option Expr}{t t':TO}(h:PO X e t)(i:∀σ H Q,t' σ H Q->t σ H Q):PO X e t':=λAD s σ H Q I q=>h AD s σ H Q I (i σ H Q q)
theorem QO.imp{e:Option Expr}{t t':TO}(h:PO X e t)(i:∀σ H Q,t' σ H Q->t σ H Q):QO X e t':=⟨PO.imp h i⟩
variable {prog:gc}{w:kT}{E Q:B2}{s:dc}{items:Array a8}{hi:C3}
section
variable    {lo hi:Option Expr}{ml mh:MO}  {p p2:Pos}
theorem aab:QO X none (tO X.K O PN):=QO.imp abD λσ H Q az=>by obtain ⟨A,B,Γ,o,r,em,k⟩:=az;cases em;exact k A H (aX.refl r.a)
theorem aag(h:QE X e (tP X.K O m)):QO X (some e) (tO X.K O (QL m)):=QO.imp (Zr h.h) λσ H Q az=>by
 obtain ⟨A,B,Γ,o,r,em,k⟩:=az;obtain ⟨d,e1,em⟩:=AI.au em
 cases d with
 | int i=>cases em;exact ⟨A,B,Γ,_,r,e1,λv A1 H1 g1 p1=>⟨i,p1.int,k A1 H1 g1⟩⟩
 | _=>cases em
section
variable   {A:iS}
open HT in
theorem Ad{t sl:Addr}{vl vu:a8}{lo hi:C3}(ht:y6 s.heap t items)(hs:s.heap.IsSliceOf sl vl vu .none)(pl:yi vl lo)(pu:yi vu hi)
 (hw:sIx items.size 0 lo=0/\sIx items.size items.size hi=items.size) (h:Q (.ref t) s):eh (eJ prog w) A (pV (.ref t) (.ref sl)) Q E s:=by
 obtain ⟨os,hos,hcs,hds⟩:=id hs;have hTs:s.TypeIs (.ref sl) "slice" := ⟨os,hos,hcs⟩;unfold pV
 try with_reducible refine mi ?_
 first | refine ag (bt ?_) | skip
 refine ag (we ht.typeIs (by decide) ?_);refine ag (gy ht.typeIs fF
  (gz fF ht.typeIs entry_tuple_getitem ?_ (args_tuple_getitem _ _)))
 show eh _ _ (oB (.ref t) >>= _) _ _ s;refine ag (tupleItemsOf_ ht (ag (yk hTs ?_)));rw[if_pos (by decide)];refine ag (rQ hs pl pu ?_);show eh _ _ (if (((sIx items.size 0 lo:Nat):Int) == 0&&(1:Int) == 1&&(sIx items.size items.size hi - sIx items.size 0 lo) == items.size)=true then _ else _) _ _ s;rw[hw.1,hw.2,if_pos (by simp)];refine ag (ag (yk ht.typeIs (bt ?_)));rw[if_pos (by decide)];exact ag (vE (bt ⟨_,rfl,bt h⟩))
end
def adm(K:aw):V->C3->C3->Hp->VK->Prop:=λx lo hi H Q=>∃a xs,x= .ref a/\SqT K H a xs /\
 (HT.sIx xs.length 0 lo=0/\HT.sIx xs.length xs.length hi=xs.length)/\Q (.ref a) H
theorem aaR:SlR X (adm X.K):=by
 rintro AD s σ H x v vl vu lo hi sl Q I rx hs pl pu ⟨a,xs,rfl,hx,hw,q⟩;cases rx;obtain ⟨AG,r,ht,hz⟩:=I.tuple hx;have hlen:AG.toArray.size=xs.length:=by rw[dQ];exact r.length.symm
 refine ⟨"tuple",_,fF.lookup,ht.typeIs,?_⟩;exact Ad ht hs pl pu (by rw[hlen];exact hw) ⟨.ref a,H,I,rfl,q⟩
theorem WY{lo hi:C3}(h:HT.sIx ds.length 0 lo=0/\HT.sIx ds.length ds.length hi=ds.length):cutD ds lo hi=ds:=by
 rw[cutD,h.1,h.2,wa,Nat.sub_zero,eD]
def af3(K:aw):V->C3->C3->Hp->VK->Prop:=λx lo hi H Q=>acz K x lo hi H Q\/acD K x lo hi H Q\/adm K x lo hi H Q
theorem af5:SlR X (af3 X.K):=by
 intro AD s σ H x v vl vu lo hi sl Q I rx hs pl pu h;rcases h with h | h | h
 . exact abC AD s σ H x v vl vu lo hi sl Q I rx hs pl pu h
 . exact adv AD s σ H x v vl vu lo hi sl Q I rx hs pl pu h
 . exact aaR AD s σ H x v vl vu lo hi sl Q I rx hs pl pu h
theorem aA.cut(h:aA K A ds vs)(lo hi:C3):aA K A (cutD ds lo hi) (yD vs lo hi):=by
 unfold cutD yD;rw[<- h.length];exact (h.drop _).take _
theorem aeR(ha:QE X a (tP X.K O m))(hl:QO X lo (tO X.K O ml))(hh:QO X hi (tO X.K O mh)):QE X (.Subscript a (.Slice lo hi none p2) pos) (tE X.K O (eSl m ml mh)):=QE.imp (YD af5 ha.h hl.h hh.h) λσ H Q az=>by
 obtain ⟨A,B,Γ,d,r,em,k⟩:=az;obtain ⟨d1,e1,em⟩:=AI.au em;obtain ⟨l,e2,em⟩:=AI.au em;obtain ⟨h,e3,em⟩:=AI.au em;refine ⟨A,B,Γ,d1,r,e1,λv A1 H1 g1 p1=>⟨A1,B,Γ,l,r.grow g1,e2,λA2 H2 g2=>⟨A2,B,Γ,h,(r.grow g1).grow g2,e3,λA3 H3 g3=>?_⟩⟩⟩;have g:=(g1.trans g2).trans g3;have p3:=p1.mono (g2.trans g3).aa (g2.trans g3).hh
 cases d1 with
 | list ds=>
  cases em;obtain ⟨q,vs,rfl,h1,q1⟩:=p3.list g3.ah;refine .inl ⟨q,vs,rfl,h1,λt ht=>?_⟩;have gn:=aX.new (o:=.lst (yD vs l h)) g3.ah ht;exact k _ _ _ (g.trans gn) (Rp.list.mpr ⟨t,_,rfl,SqL.of aY,aA.mono gn.aa _ (q1.cut l h)⟩)
 | tuple ds=>
  cases em;have rp:=p3.lY (λ_ z=>nomatch z) (λ_ z=>nomatch z);obtain ⟨q,vs,rfl,h1,q1⟩:=p3.tuple g3.ah
  by_cases hc:HT.sIx ds.length 0 l=0/\HT.sIx ds.length ds.length h=ds.length
  . refine .inr (.inr ⟨q,vs,rfl,h1,by rw[<- q1.length];exact hc,?_⟩);rw[WY hc] at k;exact k _ _ _ g rp
  refine .inr (.inl ⟨q,vs,rfl,h1,by rw[<- q1.length];exact hc,λt ht=>?_⟩);have gn:=aX.new (o:=.tup (yD vs l h)) g3.ah ht;exact k _ _ _ (g.trans gn) (Rp.tuple.mpr ⟨t,_,rfl,SqT.of aY,aA.mono gn.aa _ (q1.cut l h)⟩)
 | _=>cases em
end
theorem bK{α:Type}{l:List α}{x d:α}(h:i<l.length):(l.set i x).getD i d=x:=by
 rw[ae,ma h];rfl
variable {j:Nat}
theorem aU{α:Type}{l:List α}{x d:α}(h:i≠j):(l.set i x).getD j d=l.getD j d:=by
 rw[ae,ae,oy h]
variable {p:Addr}{B:Hp}{o:HO}
section
variable       {d:ab}
theorem aZ.set(r:aZ K A B H O σ Γ)(hi:i < Γ.length)(hO:i<O.length)(p:Rp K A d v):aZ K A B H (O.set i .AO) (σ.set i (some v)) (Γ.set i (some d)):=by
 have hs:i < σ.length:=by rw[<- r.len];exact hi
 refine ⟨r.a,r.b,by rw[fy,fy];exact r.len,λj=>?_,λj k hjk h1 h2 h3 h4=>?_⟩
 . by_cases hj:i=j
   . subst hj;unfold fl gv sv;rw[bK hO,bK hi,bK hs];exact λd' e=>⟨v,rfl,by cases e;exact p⟩
   . unfold fl gv sv;rw[aU hj,aU hj,aU hj];exact r.slot j
 . have hj:i≠j:=λz=>by subst z;unfold fl at h1;rw[bK hO] at h1;cases h1
   have hk:i≠k:=λz=>by subst z;unfold fl at h2;rw[bK hO] at h2;cases h2
   unfold fl at h1 h2;unfold gv at h3 h4;rw[aU hj] at h1 h3;rw[aU hk] at h2 h4;unfold sv;rw[aU hj,aU hk];exact r.sep j k hjk h1 h2 h3 h4
theorem aZ.agG(r:aZ K A B H O σ Γ)(hi:i < Γ.length)(hO:i<O.length)(h1:H p=some o)(h2:A p=none)(h3:B p=none)(h4:iY K A d o)
 (hn:∀j,isO (fl O j)=true->gv Γ j≠none->sv σ j≠some (.ref p)):aZ K A B H (O.set i .own) (σ.set i (some (.ref p))) (Γ.set i (some d)):=by
 have hs:i < σ.length:=by rw[<- r.len];exact hi
 refine ⟨r.a,r.b,by rw[fy,fy];exact r.len,λj=>?_,λj k hjk q1 q2 q3 q4=>?_⟩
 . by_cases hj:i=j
   . subst hj;unfold fl gv sv;rw[bK hO,bK hi,bK hs];exact λd' e=>⟨_,rfl,by cases e;exact ⟨p,o,rfl,h1,h2,h3,h4⟩⟩
   . unfold fl gv sv;rw[aU hj,aU hj,aU hj];exact r.slot j
 . unfold fl at q1 q2;unfold gv at q3 q4;unfold sv
   by_cases hj:i=j
   . subst hj;have hk:=hjk;rw[aU hk] at q2 q4;rw[bK hs,aU hk];exact λz=>hn k q2 q4 z.symm
   . rw[aU hj] at q1 q3;rw[aU hj]
     by_cases hk:i=k
     . subst hk;rw[bK hs];exact hn j q1 q3
     . rw[aU hk] at q2 q4;rw[aU hk];exact r.sep j k hjk q1 q2 q3 q4
theorem aZ.nu(r:aZ K A B H O σ Γ)(h1:isO (fl O j)=true)(h2:gv Γ j≠none):∃d p o,gv Γ j=some d/\sv σ j=some (.ref p)/\H p=some o/\A p=none/\B p=none/\iY K A d o:=by
 cases e:gv Γ j with
 | none=>exact absurd e h2
 | some d=>
  obtain ⟨v,e1,q⟩:=r.slot j d e
  cases hf:fl O j with
  | AO=>rw[hf] at h1;cases h1
  | AN=>rw[hf] at h1;cases h1
  | own=>
   rw[hf] at q;obtain ⟨p,o,rfl,q⟩:=q;exact ⟨d,p,o,rfl,e1,q⟩
  | fix p0=>
   rw[hf] at q;obtain ⟨_,p,o,rfl,q⟩:=q;exact ⟨d,p,o,rfl,e1,q⟩
  | exc C=>rw[hf] at h1;cases h1
  | nst b=>rw[hf] at h1;cases h1
  | kit=>rw[hf] at h1;cases h1
theorem aZ.fresh(r:aZ K A B H O σ Γ)(g:aX A H A' H')(hi:i < Γ.length)(hO:i<O.length)(h0:H p=none)(h1:H' p=some o)(h2:A' p=none)(h4:iY K A' d o) :
 aZ K A' B H' (O.set i .own) (σ.set i (some (.ref p))) (Γ.set i (some d)):=by
 refine (r.grow g).agG hi hO h1 h2 (r.b.free h0) h4 λj q1 q2 z=>?_;obtain ⟨d',p',o',e1,e2,e3,_⟩:=r.nu q1 q2;rw[e2] at z;cases z;rw[h0] at e3;cases e3
theorem aZ.freeze(r:aZ K A B H O σ Γ)(hi:fl O i= .own)(hO:i<O.length):∃A',aG A A'/\New A A' B/\aZ K A' B H (O.set i .AO) σ Γ:=by
 by_cases hg:gv Γ i=none
 . refine ⟨A,aG.refl _,λ_ h _=>h,r.a,r.b,r.len,λj=>?_,λj k hjk h1 h2 h3 h4=>?_⟩
   . by_cases hj:i=j
     . subst hj;intro d e;rw[hg] at e;cases e
     . rw[fl,aU hj];exact r.slot j
   . have hj:i≠j:=λz=>by subst z;exact h3 hg
     have hk:i≠k:=λz=>by subst z;exact h4 hg
     unfold fl at h1 h2;rw[aU hj] at h1;rw[aU hk] at h2;exact r.sep j k hjk h1 h2 h3 h4
 . have hiO:isO (fl O i)=true:=by rw[hi];rfl
   obtain ⟨d,p,o,e1,e2,h1,h2,h3,h4⟩:=r.nu hiO hg;have s:=aG.new h2 o;refine ⟨AM A p o,s,λq n1 n2=>?_,λb u q=>?_,r.b,r.len,λj=>?_,λj k hjk q1 q2 q3 q4=>?_⟩
   . have hq:q≠p:=λz=>n2 (z ▸ h3);rw[aH hq];exact n1
   . by_cases hb:b=p
     . subst hb;rw[aY] at q;rw[h1];exact q
     . rw[aH hb] at q;exact r.a b u q
   . by_cases hj:i=j
     . subst hj;rw[fl,bK hO];intro d' e';rw[e1] at e';cases e';refine ⟨_,e2,?_⟩;exact h4.share s
     . rw[fl,aU hj];intro d' e';obtain ⟨v',e'',q⟩:=r.slot j d' e';refine ⟨v',e'',?_⟩
       cases hf:fl O j with
       | AO=>rw[hf] at q;unfold fl at hf;rw[hf];exact Rp.mono s d' q
       | AN=>rw[hf] at q;unfold fl at hf;rw[hf];exact Pk.mono s (aG.refl _) q
       | own=>
        rw[hf] at q;have hf':=hf;unfold fl at hf;rw[hf];obtain ⟨p',o',rfl,g1,g2,g3,g4⟩:=q;refine ⟨p',o',rfl,g1,?_,g3,g4.mono s⟩;have hne:p'≠p:=λz=>by
         refine r.sep i j hj hiO (by rw[hf'];rfl) hg (by rw[e'];simp) ?_;rw[e2,e'',z]
        rw[aH hne];exact g2
       | fix p0=>
        rw[hf] at q;have hf':=hf;unfold fl at hf;rw[hf];obtain ⟨q0,p',o',rfl,g1,g2,g3,g4⟩:=q;refine ⟨q0,p',o',rfl,g1,?_,g3,g4.mono s⟩;have hne:p'≠p:=λz=>by
         refine r.sep i j hj hiO (by rw[hf'];rfl) hg (by rw[e'];simp) ?_;rw[e2,e'',z]
        rw[aH hne];exact g2
       | kit=>rw[hf] at q;unfold fl at hf;rw[hf];exact p7.mono s q
       | exc C=>
        rw[hf] at q;unfold fl at hf;rw[hf];obtain ⟨p',ob,w1,w2,w3⟩:=q;exact ⟨p',ob,w1,s _ _ w2,w3⟩
       | nst b=>
        rw[hf] at q;unfold fl at hf;rw[hf];intro z;obtain ⟨p',xs,AE,w1,w2,w3,w4,w5,w6⟩:=q z;refine ⟨p',xs,AE,w1,w2,w3,?_,w5,w6.mono s⟩;have hne:p'≠p:=λz=>by subst z;rw[h1] at w3;exact h4.nx w3
        rw[aH hne];exact w4
   . have hj:i≠j:=λz=>by subst z;unfold fl at q1;rw[bK hO] at q1;cases q1
     have hk:i≠k:=λz=>by subst z;unfold fl at q2;rw[bK hO] at q2;cases q2
     unfold fl at q1 q2;rw[aU hj] at q1;rw[aU hk] at q2;exact r.sep j k hjk q1 q2 q3 q4
theorem aZ.change{o':HO}{d':ab}(r:aZ K A B H O σ Γ)(hi:isO (fl O i)=true)(hl:i < Γ.length)(he:gv Γ i≠none)(hs:sv σ i=some (.ref p))(h1:H p=some o)(h4:iY K A d' o') :
 aZ K A B (AM H p o') O σ (Γ.set i (some d')):=by
 obtain ⟨d,p',o0,e1,e2,g1,g2,g3,g4⟩:=r.nu hi he;rw[hs] at e2;cases e2;refine ⟨λb u q=>?_,λb u q=>?_,by rw[fy];exact r.len,λj=>?_,λj k hjk q1 q2 q3 q4=>?_⟩
 . have hb:b≠p:=λz=>by rw[z,g2] at q;cases q
   rw[aH hb];exact r.a b u q
 . have hb:b≠p:=λz=>by rw[z,g3] at q;cases q
   rw[aH hb];exact r.b b u q
 . by_cases hj:i=j
   . subst hj;rw[gv,bK hl];intro d'' e;cases e;refine ⟨_,hs,?_⟩
     cases hf:fl O i with
     | AO=>rw[hf] at hi;cases hi
     | AN=>rw[hf] at hi;cases hi
     | own=>exact ⟨p,o',rfl,aY,g2,g3,h4⟩
     | fix p0=>
      obtain ⟨v',ev,q⟩:=r.slot i d e1;rw[hf] at q;rw[hs] at ev;cases ev;exact ⟨q.1,p,o',rfl,aY,g2,g3,h4⟩
     | exc C=>rw[hf] at hi;cases hi
     | nst b=>rw[hf] at hi;cases hi
     | kit=>rw[hf] at hi;cases hi
   . rw[gv,aU hj];intro d'' e'';obtain ⟨v',ev,q⟩:=r.slot j d'' e'';refine ⟨v',ev,?_⟩
     cases hf:fl O j with
     | AO=>rwa [hf] at q
     | AN=>rwa [hf] at q
     | own=>
      rw[hf] at q;obtain ⟨p',o',rfl,u1,u2,u3,u4⟩:=q;refine ⟨p',o',rfl,?_,u2,u3,u4⟩;have hne:p'≠p:=λz=>by
       refine r.sep i j hj hi (by rw[hf];rfl) he (by rw[gv,e''];simp) ?_;rw[hs,ev,z]
      rw[aH hne];exact u1
     | fix p0=>
      rw[hf] at q;obtain ⟨q0,p',o',rfl,u1,u2,u3,u4⟩:=q;refine ⟨q0,p',o',rfl,?_,u2,u3,u4⟩;have hne:p'≠p:=λz=>by
       refine r.sep i j hj hi (by rw[hf];rfl) he (by rw[gv,e''];simp) ?_;rw[hs,ev,z]
      rw[aH hne];exact u1
     | kit=>rwa [hf] at q
     | exc C=>rwa [hf] at q
     | nst b=>
      rw[hf] at q;intro z;obtain ⟨p',xs,AE,w1,w2,w3,w4,w5,w6⟩:=q z;have hne:p'≠p:=λz=>by subst z;rw[g1] at w3;exact g4.nx w3
      exact ⟨p',xs,AE,w1,w2,by rw[aH hne];exact w3,w4,w5,w6⟩
 . have h3:gv Γ j≠none:=by
    by_cases hj:i=j
    . subst hj;exact he
    . unfold gv at q3 ⊢;rwa [aU hj] at q3
   have h4':gv Γ k≠none:=by
    by_cases hk:i=k
    . subst hk;exact he
    . unfold gv at q4 ⊢;rwa [aU hk] at q4
   exact r.sep j k hjk q1 q2 h3 h4'
theorem aZ.weak{Γ':Ev}(r:aZ K A B H O σ Γ)(hl:Γ'.length=Γ.length)(h:∀j,gv Γ' j=none\/gv Γ' j=gv Γ j):aZ K A B H O σ Γ':=by
 have h':∀j,gv Γ' j≠none->gv Γ j≠none:=λj n=>by
  rcases h j with z | z
  . exact absurd z n
  . rw[<- z];exact n
 refine ⟨r.a,r.b,hl.trans r.len,λj d e=>?_,λj k hjk q1 q2 q3 q4=>r.sep j k hjk q1 q2 (h' j q3) (h' k q4)⟩;rcases h j with z | z
 . rw[z] at e;cases e
 . rw[z] at e;exact r.slot j d e
end
noncomputable def clr(l:B5)(Γ:Ev):Ev:=l.foldl (λΓ i=>Γ.set i none) Γ
theorem Dk:∀(l:B5) (Γ:Ev),(clr l Γ).length=Γ.length/\∀j,gv (clr l Γ) j=none\/gv (clr l Γ) j=gv Γ j
 | [],Γ=>⟨rfl,λ_=>.inr rfl⟩
 | i::l,Γ=>by
  obtain ⟨h1,h2⟩:=Dk l (Γ.set i none);refine ⟨h1.trans (fy ..),λj=>?_⟩;rcases h2 j with z | z
  . exact .inl z
  . by_cases hj:i=j
    . subst hj;left;show gv (clr l (Γ.set i none)) i=none;rw[z];rw[gv,ae]
      by_cases hi:i < Γ.length
      . rw[ma hi];rfl
      . rw[fk (by rw[fy];lia)];rfl
    . right;show gv (clr l (Γ.set i none)) j=gv Γ j;rw[z];exact aU hj
theorem aZ.clr(r:aZ K A B H O σ Γ)(l:B5):aZ K A B H O σ (Zq.clr l Γ):=r.weak (Dk l Γ).1 (Dk l Γ).2
inductive Rm where
 | f | t | m (p:Addr)
def Xd(K:aw)(rm:Rm)(B A' H':Hp)(d:ab)(v:V):Prop:=match rm with
 | .f=>Rp K A' d v
 | .t=>yH K B A' H' d v
 | .m p=>∃d1 dm o,d= .tuple [d1,dm]/\Rp K A' d1 v/\H' p=some o/\A' p=none/\iY K A' dm o
def uq(K:aw)(rm:Rm)(Ol O':B9)(A B:Hp)(D:Ends):Out->Prop
 | .nx Γ'=>∀σ' A' H',aZ K A' B H' O' σ' Γ'->aG A A'->New A A' B->D.nx σ' H'
 | .bk Γ'=>∀σ' A' H',aZ K A' B H' Ol σ' Γ'->aG A A'->New A A' B->D.bk σ' H'
 | .ct Γ'=>∀σ' A' H',aZ K A' B H' Ol σ' Γ'->aG A A'->New A A' B->D.ct σ' H'
 | .rt d=>∀v A' H',aG A' H'->aG B H'->aG A A'->New A A' B->Xd K rm B A' H' d v->D.rt v H'
def tS(K:aw)(rm:Rm)(Ol O O':B9)(m:MS):TS:=λD σ H=>∃A B Γ o,aZ K A B H O σ Γ/\m Γ = .ok o/\uq K rm Ol O' A B D o
variable {rm:Rm}{Ol O':B9}
section
variable    {A1 H1:Hp}{D:Ends}{o:Out}
theorem uq.sub(sa:aG A A1)(nw:New A A1 B)(h:uq K rm Ol O' A B D o):uq K rm Ol O' A1 B D o:=by
 cases o with
 | nx Γ=>exact λσ' A' H' r s n=>h σ' A' H' r (sa.trans s) (nw.trans n)
 | bk Γ=>exact λσ' A' H' r s n=>h σ' A' H' r (sa.trans s) (nw.trans n)
 | ct Γ=>exact λσ' A' H' r s n=>h σ' A' H' r (sa.trans s) (nw.trans n)
 | rt d=>exact λv A' H' s1 s2 s n=>h v A' H' s1 s2 (sa.trans s) (nw.trans n)
theorem aX.nB(g:aX A H A1 H1)(b:aG B H):New A A1 B:=g.nw.mono b
end
noncomputable def cB:MS:=λΓ=>.ok (.nx Γ)
noncomputable def aK(a b:MS):MS:=λΓ=>(a Γ).bind λo=>match o with
 | .nx Γ'=>b Γ'
 | .rt d=>.ok (.rt d)
 | .bk Γ'=>.ok (.bk Γ')
 | .ct Γ'=>.ok (.ct Γ')
noncomputable def bc(i:Nat)(m:ME):MS:=λΓ=>(m Γ).bind λd=>gd (i < Γ.length) (.ok (.nx (Γ.set i (some d))))
noncomputable def sIf(c:ME)(a b:MS):MS:=λΓ=>(c Γ).bind λx=>match x with
 | .bool true=>a Γ
 | .bool false=>b Γ
 | _=>.bad
noncomputable def bB(m:ME):MS:=λΓ=>(m Γ).bind λd=>.ok (.rt d)
noncomputable def sEx(m:ME):MS:=λΓ=>(m Γ).bind λ_=>.ok (.nx Γ)
noncomputable def FJ:MS:=λ_=>.bad
variable {O1 O2:B9}{pos':Pos}
section
variable      {m1 m2:MS}  {st:Stmt}{rest a b:C5}
theorem bR:QSs X [] (tS K rm Ol O O cB):=QSs.imp aaL λD σ H az=>by
 obtain ⟨A,B,Γ,o,r,em,k⟩:=az;cases em;exact k σ A H r (aG.refl _) λ_ h _=>h
theorem bN(h1:QS X st (tS K rm Ol O O1 m1))(h2:QSs X rest (tS K rm Ol O1 O2 m2)):QSs X (st::rest) (tS K rm Ol O O2 (aK m1 m2)):=QSs.imp (Yp h1.h h2.h) λD σ H az=>by
 obtain ⟨A,B,Γ,o,r,em,k⟩:=az;obtain ⟨o1,e1,em⟩:=AI.au em
 cases o1 with
 | nx Γ1=>exact ⟨A,B,Γ,_,r,e1,λσ' A' H' r' sa nw=>⟨A',B,Γ1,o,r',em,k.sub sa nw⟩⟩
 | rt d=>cases em;exact ⟨A,B,Γ,_,r,e1,k⟩
 | bk d=>cases em;exact ⟨A,B,Γ,_,r,e1,k⟩
 | ct d=>cases em;exact ⟨A,B,Γ,_,r,e1,k⟩
theorem aC(h1:QS X st (tS K rm Ol O O1 m1)):QSs X [st] (tS K rm Ol O O1 m1):=⟨aa4 h1.h⟩
theorem S7(i:Nat)(h:QS X st (tS K rm Ol O2 O' m1))(hO:O.set i .AO=O2:=by rfl)(hi:fl O i= .own:=by rfl)(hl:i<O.length:=by exact of_decide_eq_true rfl):QS X st (tS K rm Ol O O' m1):=QS.imp (hO ▸ h.h) λD σ H az=>by
 obtain ⟨A,B,Γ,o,r,em,k⟩:=az;obtain ⟨A',sa,nw,r'⟩:=r.freeze hi hl;exact ⟨A',B,Γ,o,r',em,k.sub sa nw⟩
theorem Xp{te:TE}(h:∀σ H Q,tE K O m σ H Q->te σ H Q)(hl:i<O.length){D:Ends}{σ:St}{H:Hp}(q:tS K rm Ol O (O.set i .AO) (bc i m) D σ H):Qf te (DG i) D σ H:=by
 obtain ⟨A,B,Γ,o,r,em,k⟩:=q;obtain ⟨d,e1,em⟩:=AI.au em;obtain ⟨hi,em⟩:=cu em;cases em;refine h σ H _ ⟨A,B,Γ,d,r,e1,λv A' H' g p=>?_⟩;exact k _ A' H' ((r.grow g).set hi hl p) g.aa (g.nB r.b)
theorem yC{te:TE}(h:∀σ H Q,tF K O m σ H Q->te σ H Q)(hl:i<O.length){D:Ends}{σ:St}{H:Hp}(q:tS K rm Ol O (O.set i .own) (bc i m) D σ H):Qf te (DG i) D σ H:=by
 obtain ⟨A,B,Γ,o,r,em,k⟩:=q;obtain ⟨d,e1,em⟩:=AI.au em;obtain ⟨hi,em⟩:=cu em;cases em;refine h σ H _ ⟨A,B,Γ,d,r,e1,λv A' H' g p=>?_⟩;obtain ⟨p,o,rfl,h0,h1,h2,h4⟩:=p;exact k _ A' H' (r.fresh g hi hl h0 h1 h2 h4) g.aa (g.nB r.b)
theorem adz(i:Nat)(hN:X.N.Nodup)(hi:X.N[i]?=some x)(hx:Loc X.env.scope x)(he:QE X e (tE K O m))(hl:i<O.length:=by exact of_decide_eq_true rfl)(hs:ip e (some (.Name x pos')) pos.line X.env=pure false:=by rfl)
 (hf:X.fn x=true\/X.env.scope.names.lookup x=some .local:=by walk_at "hf") (hO:O.set i .AO=O2:=by rfl):QS X (.Assign [.Name x pos'] e pos) (tS K rm Ol O O2 (bc i m)):=
 hO ▸ QS.imp (Cm hN hi hx he.h hs hf) λD σ H=>Xp (λ_ _ _ z=>z) hl
theorem Zx(i:Nat)(hN:X.N.Nodup)(hi:X.N[i]?=some x)(hx:Loc X.env.scope x)(he:QE X e (tF K O m))(hl:i<O.length:=by exact of_decide_eq_true rfl)(hs:ip e (some (.Name x pos')) pos.line X.env=pure false:=by rfl)
 (hf:X.fn x=true\/X.env.scope.names.lookup x=some .local:=by walk_at "hf") (hO:O.set i .own=O2:=by rfl):QS X (.Assign [.Name x pos'] e pos) (tS K rm Ol O O2 (bc i m)):=
 hO ▸ QS.imp (Cm hN hi hx he.h hs hf) λD σ H=>yC (λ_ _ _ z=>z) hl
theorem bZ(hc:QT X c (tT K O m))(ha:QSs X a (tS K rm Ol O O' m1))(hb:QSs X b (tS K rm Ol O O' m2)):QS X (.If c a b pos) (tS K rm Ol O O' (sIf m m1 m2)):=QS.imp (ae4 hc.h ha.h hb.h) λD σ H az=>by
 obtain ⟨A,B,Γ,o,r,em,k⟩:=az;obtain ⟨d1,e1,em⟩:=AI.au em
 cases d1 with
 | bool bb=>
  refine ⟨A,B,Γ,bb,r,e1,λA1 H1 g1=>?_⟩
  cases bb with
  | true=>exact xK ⟨A1,B,Γ,o,r.grow g1,em,k.sub g1.aa (g1.nB r.b)⟩
  | false=>exact xJ ⟨A1,B,Γ,o,r.grow g1,em,k.sub g1.aa (g1.nB r.b)⟩
 | _=>cases em
theorem bu(he:QE X e (tE K O m)):QS X (.Return (some e) pos) (tS K .f Ol O O' (bB m)):=QS.imp (yq he.h) λD σ H az=>by
 obtain ⟨A,B,Γ,o,r,em,k⟩:=az;obtain ⟨d1,e1,em⟩:=AI.au em;cases em;exact ⟨A,B,Γ,d1,r,e1,λv A' H' g p=>k v A' H' g.ah (r.b.trans g.hh) g.aa (g.nB r.b) p⟩
theorem rE(he:QE X e (tF K O m)):QS X (.Return (some e) pos) (tS K .t Ol O O' (bB m)):=QS.imp (yq he.h) λD σ H az=>by
 obtain ⟨A,B,Γ,o,r,em,k⟩:=az;obtain ⟨d1,e1,em⟩:=AI.au em;cases em;refine ⟨A,B,Γ,d1,r,e1,λv A' H' g p=>k v A' H' g.ah (r.b.trans g.hh) g.aa (g.nB r.b) ?_⟩;obtain ⟨q,o,e,h1,h2⟩:=p;exact ⟨q,o,e,r.b.free h1,h2⟩
theorem oW(i:Nat)(hi:fl O i= .own:=by rfl)(nm:Nm X i x:=by walk_at "nm"):QS X (.Return (some (.Name x pos')) pos) (tS K .t Ol O O' (bB (aj i))):=QS.imp (yq (dM nm.1 nm.2 nm.3 nm.4)) λD σ H az=>by
 obtain ⟨A,B,Γ,o,r,em,k⟩:=az;obtain ⟨d1,e1,em⟩:=AI.au em;cases em;obtain ⟨v,e2,q⟩:=r.slot i d1 (q8 e1);rw[hi] at q;refine ⟨v,dO e2,k v A H r.a r.b (aG.refl _) (λ_ h _=>h) ?_⟩;obtain ⟨pos',o,e,h1,h2,h3,h4⟩:=q;exact ⟨pos',o,e,h3,h1,h2,h4⟩
theorem LK:QS X st (tS K rm Ol O O' FJ):=QS.imp VH λD σ H az=>by obtain ⟨A,B,Γ,o,r,em,k⟩:=az;cases em
theorem aeH(he:QE X e (tP K O m))(hs:ip e none pos.line X.env=pure false:=by rfl):QS X (.Expr e pos) (tS K rm Ol O O (sEx m)):=QS.imp (qX he.h hs) λD σ H az=>by
 obtain ⟨A,B,Γ,o,r,em,k⟩:=az;obtain ⟨d1,e1,em⟩:=AI.au em;cases em;exact ⟨A,B,Γ,d1,r,e1,λv A' H' g p=>k σ A' H' (r.grow g) g.aa (g.nB r.b)⟩
end
def spF(K:aw)(fs:B9)(rm:Rm)(f:B4->AI ab):Sp:=λvs H Q _=>∃A ds d,aG A H/\pN K A H fs ds vs/\f ds= .ok d/\∀v A' H',aX A H A' H'->Xd K rm H A' H' d v->Q v H'
theorem pN.length:∀{fs:B9}{ds:B4}{vs:C0},pN K A H fs ds vs->vs.length=fs.length/\ds.length=fs.length
 | [],ds,vs,h=>by obtain ⟨rfl,rfl⟩:=h;exact ⟨rfl,rfl⟩
 | f::fs,ds,vs,h=>by
  obtain ⟨d,r,v,s,rfl,rfl,_,h⟩:=h;have:=h.length;exact ⟨by rw[a9,a9,this.1],by rw[a9,a9,this.2]⟩
noncomputable def aM(f:B4->AI ab)(ms:List ME):ME:=λΓ=>(evs ms Γ).bind f
variable {ps:B6}
section
variable  {k:Nat}   {fs:B9}{f:B4->AI ab}   {p:Pos}
theorem jO(F:Def X.prog X.w X.K X.mg X.base k x ps (spF X.K fs .f f))(hr:dz k X.A)(hg:Gl X x)(ha:QA X (e::es) (tAr X.K O fs ms))(hdb:nD x:=by decide)
 (he:AV e=true:=by rfl) (hpl:jh es=true:=by rfl):QE X (.Call (.Name x p) (e::es) [] pos) (tE X.K O (aM f ms)):=
 QE.imp (Cw F hr hg ha.h hdb (cU he) (jA hpl)) λσ H Q az=>by
  obtain ⟨A,B,Γ,d,r,em,k⟩:=az;obtain ⟨ds,e1,em⟩:=AI.au em;refine ⟨A,B,Γ,ds,r,e1,λvs A1 H1 g1 p1=>?_⟩;show spF X.K fs .f f (vs++[]) H1 Q E0;rw[dr];exact ⟨A1,ds,d,g1.ah,p1,em,λv A' H' g p=>k v A' H' (g1.trans g) p⟩
theorem Fz(F:Def X.prog X.w X.K X.mg X.base k x ps (spF X.K fs .t f))(hr:dz k X.A)(hg:Gl X x)(ha:QA X (e::es) (tAr X.K O fs ms))(hdb:nD x:=by decide)
 (he:AV e=true:=by rfl) (hpl:jh es=true:=by rfl):QE X (.Call (.Name x p) (e::es) [] pos) (tF X.K O (aM f ms)):=
 QE.imp (Cw F hr hg ha.h hdb (cU he) (jA hpl)) λσ H Q az=>by
  obtain ⟨A,B,Γ,d,r,em,k⟩:=az;obtain ⟨ds,e1,em⟩:=AI.au em;refine ⟨A,B,Γ,ds,r,e1,λvs A1 H1 g1 p1=>?_⟩;show spF X.K fs .t f (vs++[]) H1 Q E0;rw[dr];refine ⟨A1,ds,d,g1.ah,p1,em,λv A' H' g p=>k v A' H' (g1.trans g) ?_⟩;obtain ⟨q,o,e,h1,h2⟩:=p;exact ⟨q,o,e,g1.hh.free h1,h2⟩
end
noncomputable def fnR(n:Nat)(m:MS)(ds:B4):AI ab:=(m (ds.map some++ax (n - ds.length) none)).bind λo=>match o with
 | .rt d=>.ok d
 | _=>.bad
variable {P:gc}{mg:Str->B7}{N:B6}
section
variable     {base:Heap}
theorem pK:∀{ds:B4}{vs:C0},aG A H->pN K A H Ol ds vs->(∀i,i<Ol.length->(fl O i= .AO/\fl Ol i= .AO)\/fl O i= .AN)->Ol.length<=N.length ->
 aZ K A H H O (Zq.start N vs) (ds.map some++ax (N.length - ds.length) none):=by
 intro ds vs ha h hO hn;have hl:=h.length;have one:∀(Ol:B9) (ds:B4) (vs:C0),pN K A H Ol ds vs->∀i d,ds[i]?=some d->∃v,vs[i]?=some v/\Be K A H (fl Ol i) d v:=by
  intro Ol
  induction Ol with
  | nil=>intro ds vs h i d e;obtain ⟨rfl,rfl⟩:=h;simp at e
  | cons f Ol ih=>
   intro ds vs h i d e;obtain ⟨d0,r,v,s,rfl,rfl,h1,h⟩:=h
   match i with
   | 0=>simp at e;subst e;exact ⟨v,rfl,h1⟩
   | i+1=>
    obtain ⟨v',h2,h3⟩:=ih r s h i d (by simpa using e);exact ⟨v',by simpa using h2,h3⟩
 have gvN:∀i,gv (ds.map some++ax (N.length - ds.length) none) i=ds[i]?:=λi=>by
  rw[gv,ae];rcases gu i ds.length with h | h
  . rw[cq (by simpa using h),br,ai h];rfl
  . rw[bX (by simpa using h),iO,fk h];split <;> rfl
 have svN:∀i v,vs[i]?=some v->sv (Zq.start N vs) i=some v:=λi v e=>by
  unfold sv Zq.start;rw[ae];have h:=(aS.mp e).1;rw[cq (by simpa using h),br,e];rfl
 refine ⟨ha,aG.refl _,?_,λi d e=>?_,λi j hij h1 h2 h3 h4=>?_⟩
 . rw[Zq.start,av,av,af,af,ck,ck];lia
 . rw[gvN] at e;obtain ⟨v,e1,q⟩:=one Ol ds vs h i d e;refine ⟨v,svN i v e1,?_⟩;have hi:i<Ol.length:=by rw[<- hl.2];exact (aS.mp e).1
   rcases hO i hi with ⟨z,z'⟩ | z
   . rw[z];rwa [z'] at q
   . rw[z]
     cases hf:fl Ol i with
     | AO=>rw[hf] at q;exact .inl q
     | AN=>rwa [hf] at q
     | own=>rwa [hf] at q
     | fix p0=>rwa [hf] at q
     | exc C=>rwa [hf] at q
     | nst b=>rwa [hf] at q
     | kit=>rwa [hf] at q
 . rw[gvN] at h3;have hi:i<Ol.length:=by
    rw[<- hl.2];rcases gu i ds.length with h | h
    . exact h
    . exact absurd (fk h) h3
   rcases hO i hi with ⟨z,_⟩ | z <;> rw[z] at h1 <;> cases h1
theorem abE{st:Stmt}{fd:nN}{fs:B9}{m:MS}(F:Fun K x x st p fd)(S:cP N ps (aN st))(hf:fs.length=ps.length)(hn:ps.length<=N.length)
 (hO:∀i,i<fs.length->(fl O i= .AO/\fl fs i= .AO)\/fl O i= .AN)
 (hbody:∀(f:Addr) (AH:a8) (A:iS) (AX:C6) (s:dc) (H:Hp) (E:XK),dz j (A.deeper (oz x (aN st) s.heap.objs.size f AH)) ->
  QSs (mF CX0 P w K mg base N x (aN st) f AH A AX s H E).nox (bV st) (tS K rm Ol O O' m)):rR P w K mg base CX0 (j+1) p fd ps (spF K fs rm (fnR N.length m)):=by
 refine F.ok S (λvs H Q E h=>?_) (λAH A AX s H vs Q E hr h=>?_)
 . obtain ⟨A,ds,d,_,h,_⟩:=h;rw[h.length.1,hf]
 . obtain ⟨A',ds,d,ha,h,em,q⟩:=h;obtain ⟨o,e1,em⟩:=AI.au em
   cases o with
   | rt d'=>
    cases em;refine ⟨_,(hbody p AH A AX s H E hr).h,A',H,_,_,pK ha h hO (by lia),e1,λv A2 H2 s1 s2 sa nw rv=>q v A2 H2 ⟨sa,s2,s1,nw⟩ rv⟩
   | _=>cases em
theorem aaA{st:Stmt}{k:Nat}(F:At K mg x st ps)(S:cP N ps (aN st)):Def P w K mg base (k+1) x ps (spF K O rm (λ_=>.bad)):=by
 refine F.ok S (λvs H Q E h=>?_) (λf AH A AX s H vs Q E hr h=>?_)
 . obtain ⟨A,ds,d,_,_,em,_⟩:=h;cases em
 . obtain ⟨A,ds,d,_,_,em,_⟩:=h;cases em
theorem adi{st:Stmt}{m:MS}(F:At K mg x st ps)(S:cP N ps (aN st))(hf:O1.length=ps.length)(hn:ps.length<=N.length)
 (hO:∀i,i<O1.length->(fl O i= .AO/\fl O1 i= .AO)\/fl O i= .AN)
 (hbody:∀(f:Addr) (AH:a8) (A:iS) (AX:C6) (s:dc) (H:Hp) (E:XK),dz j (A.deeper (oz x (aN st) s.heap.objs.size f AH)) ->
  QSs (mF CX0 P w K mg base N x (aN st) f AH A AX s H E).nox (bV st) (tS K rm Ol O O' m)):Def P w K mg base (j+1) x ps (spF K O1 rm (fnR N.length m)):=by
 refine F.ok S (λvs H Q E h=>?_) (λf AH A AX s H vs Q E hr h=>?_)
 . obtain ⟨A,ds,d,_,h,_⟩:=h;rw[h.length.1,hf]
 . obtain ⟨A',ds,d,ha,h,em,q⟩:=h;obtain ⟨o,e1,em⟩:=AI.au em
   cases o with
   | rt d'=>
    cases em;refine ⟨_,(hbody f AH A AX s H E hr).h,A',H,_,_,pK ha h hO (by lia),e1,λv A2 H2 s1 s2 sa nw rv=>q v A2 H2 ⟨sa,s2,s1,nw⟩ rv⟩
   | _=>cases em
end
abbrev MI:=Ev->AI B4
structure tu (K:aw) (A B:Hp) (J:It) (xs:B4):Prop where
 go:∀i H,aG A H->aG B H->i<xs.length->J.go i H
 stop:∀H,aG A H->aG B H->J.stop xs.length H
 yld:∀i A2 H x H',aG A A2->aG A2 H->aG B H->i<xs.length->J.yld i H x H'->∃A' d,xs[i]?=some d/\aX A2 H A' H'/\Rp K A' d x
def tI(K:aw)(O:B9)(it:MI):TI:=λσ H R=>∃A B Γ xs,aZ K A B H O σ Γ/\it Γ = .ok xs/\∀J A1 H1,aX A H A1 H1->tu K A1 B J xs->R J H1
def tIc(K:aw)(O:B9)(it:MI):TI:=λσ H R=>∃A B Γ xs,aZ K A B H O σ Γ/\it Γ = .ok xs/\∀J A1 H1,aX A H A1 H1->tu K A1 H1 J xs->R J H1
def tQ(K:aw)(O:B9)(m:ME):TE:=λσ H Q=>∃A B Γ d,aZ K A B H O σ Γ/\m Γ = .ok d/\∀v A' H',aX A H A' H'->Pk K A' B d v->Q v H'
theorem sq(h:QE X e (tE K O m)):QE X e (tQ K O m):=QE.imp h.h λσ H Q az=>by obtain ⟨A,B,Γ,d,r,em,k⟩:=az;exact ⟨A,B,Γ,d,r,em,λv A' H' g p=>k v A' H' g (.inl p)⟩
theorem ig(i:Nat)(hi:isO (fl O i)=false:=by rfl)(nm:Nm X i x:=by walk_at "nm")(hx:isX (fl O i)=false:=by rfl):QE X (.Name x pos) (tQ K O (aj i)):=QE.imp (dM nm.1 nm.2 nm.3 nm.4) λσ H Q az=>by
 obtain ⟨A,B,Γ,d,r,em,k⟩:=az;obtain ⟨v,e1,q⟩:=r.slot i d (q8 em);refine ⟨v,dO e1,k v A H (aX.refl r.a) ?_⟩
 cases hf:fl O i with
 | AO=>rw[hf] at q;exact .inl q
 | AN=>rwa [hf] at q
 | own=>rw[hf] at hi;cases hi
 | fix p0=>rw[hf] at hi;cases hi
 | exc C=>rw[hf] at hx;cases hx
 | nst b=>rw[hf] at hx;cases hx
 | kit=>rw[hf] at hx;cases hx
theorem Pk.Rn{H:Hp}(h:Pk K A B (.list ds) v):∃p vs,v= .ref p/\aA K A ds vs/\∀H,aG A H->aG B H->SqL K H p vs:=by
 rcases h with h | ⟨p,vs,ds',e1,e2,h1,h2⟩ | ⟨_,_,_,_,e2,_⟩
 . obtain ⟨a,vs,e,h1,h2⟩:=Rp.list.mp h;exact ⟨a,vs,e,h2,λH s _=>s.seq h1⟩
 . cases e2;exact ⟨p,vs,e1,h2,λH _ s=>s.seq h1⟩
 . cases e2
theorem Pk.fP{H:Hp}(h:Pk K A B (.tuple ds) v):∃p vs,v= .ref p/\aA K A ds vs/\∀H,aG A H->SqT K H p vs:=by
 obtain ⟨a,vs,e,h1,h2⟩:=Rp.tuple.mp (h.lY (λ_ z=>nomatch z) (λ_ z=>nomatch z));exact ⟨a,vs,e,h2,λH s=>s.fP h1⟩
theorem aao(hr:aA K A ds vs)(hq:∀H,aG A H->aG B H->SqL K H p vs):tu K A B (Itl K p) ds:=by
 have hl:=hr.length;refine ⟨λi H s1 s2 hi=>?_,λH s1 s2=>⟨vs,hq H s1 s2,by lia⟩,λi A2 H x H' sa s1 s2 hi y=>?_⟩
 . exact ⟨vs,vs[i]'(by lia),hq H s1 s2,ai _⟩
 . obtain ⟨rfl,y⟩:=y;have e:=y vs (hq H' (sa.trans s1) s2);obtain ⟨d,e1,q⟩:=hr.get e;exact ⟨A2,d,e1,aX.refl s1,Rp.mono sa d q⟩
theorem acZ(hr:aA K A ds vs)(hq:∀H,aG A H->SqT K H p vs):tu K A B (Itt K p) ds:=by
 have hl:=hr.length;refine ⟨λi H s1 s2 hi=>?_,λH s1 s2=>⟨vs,hq H s1,by lia⟩,λi A2 H x H' sa s1 s2 hi y=>?_⟩
 . exact ⟨vs,vs[i]'(by lia),hq H s1,ai _⟩
 . obtain ⟨rfl,y⟩:=y;have e:=y vs (hq H' (sa.trans s1));obtain ⟨d,e1,q⟩:=hr.get e;exact ⟨A2,d,e1,aX.refl s1,Rp.mono sa d q⟩
theorem K8(lo:Int)(n:Nat):tu K A B (Itr lo n) ((List.range n).map λi=>ab.int (lo+(i:Nat))):=by
 have hl:((List.range n).map λi=>ab.int (lo+(i:Nat))).length=n:=by rw[af,c9]
 refine ⟨λi H _ _ hi=>(by rwa [hl] at hi),λH _ _=>(by rw[hl];exact aE _),λi A2 H x H' sa s1 s2 hi y=>?_⟩;obtain ⟨rfl,rfl⟩:=y;rw[hl] at hi;exact ⟨A2,.int (lo+i),by rw[br,eP hi];rfl,aX.refl s1,Rp.int.mpr rfl⟩
theorem abN(hr:aA K A ds vs)(hq:∀H,aG A H->aG B H->SqL K H p vs):tu K A B (Itv K p vs.length) ds.reverse:=by
 have hl:=hr.length;refine ⟨λi H s1 s2 hi=>?_,λH s1 s2=>?_,λi A2 H x H' sa s1 s2 hi y=>?_⟩
 . rw[nL,hl] at hi;exact ⟨hi,vs,vs[vs.length - 1 - i]'(by lia),hq H s1 s2,ai _⟩
 . rw[nL,hl];rfl
 . rw[nL,hl] at hi;obtain ⟨rfl,y⟩:=y;have e:=y vs (hq H' (sa.trans s1) s2);have e':vs.reverse[i]?=some x:=by rw[List.getElem?_reverse hi];exact e
   obtain ⟨d,e1,q⟩:=hr.reverse.get e';exact ⟨A2,d,e1,aX.refl s1,Rp.mono sa d q⟩
noncomputable def eY(ds:B4):B4:=(List.range ds.length).map λi=>ab.tuple [.int (i:Nat),ds.getD i .none]
theorem Ot(hr:aA K A ds vs)(hq:∀H,aG A H->aG B H->SqL K H p vs):tu K A B (Ite K p) (eY ds):=by
 have hl:=hr.length;have he:(eY ds).length=vs.length:=by rw[eY,af,c9,hl]
 refine ⟨λi H s1 s2 hi=>?_,λH s1 s2=>⟨vs,hq H s1 s2,by lia⟩,λi A2 H x H' sa s1 s2 hi y=>?_⟩
 . exact ⟨vs,vs[i]'(by lia),hq H s1 s2,ai _⟩
 . obtain ⟨q,v,hq0,rfl,rfl,y⟩:=y;have e:=y vs (hq H (sa.trans s1) s2);obtain ⟨d,e1,rd⟩:=hr.get e;have g:=aX.new (o:=.tup [.int (i:Nat),v]) s1 hq0;refine ⟨_,.tuple [.int i,d],?_,g,Rp.tuple.mpr ⟨q,_,rfl,SqT.of aY,aA.cons.mpr ⟨_,_,rfl,Rp.int.mpr rfl,aA.one (Rp.mono (sa.trans g.aa) d rd)⟩⟩⟩;rw[eY,br,eP (by lia)];show some (ab.tuple [ab.int (i:Nat),ds.getD i .none])=_;rw[ae,e1];rfl
theorem JW(hr:aA K A ds vs)(hq:∀H,aG A H->SqT K H p vs):tu K A B (Wk K p) (eY ds):=by
 have hl:=hr.length;have he:(eY ds).length=vs.length:=by rw[eY,af,c9,hl]
 refine ⟨λi H s1 s2 hi=>?_,λH s1 s2=>⟨vs,hq H s1,by lia⟩,λi A2 H x H' sa s1 s2 hi y=>?_⟩
 . exact ⟨vs,vs[i]'(by lia),hq H s1,ai _⟩
 . obtain ⟨q,v,hq0,rfl,rfl,y⟩:=y;have e:=y vs (hq H (sa.trans s1));obtain ⟨d,e1,rd⟩:=hr.get e;have g:=aX.new (o:=.tup [.int (i:Nat),v]) s1 hq0;refine ⟨_,.tuple [.int i,d],?_,g,Rp.tuple.mpr ⟨q,_,rfl,SqT.of aY,aA.cons.mpr ⟨_,_,rfl,Rp.int.mpr rfl,aA.one (Rp.mono (sa.trans g.aa) d rd)⟩⟩⟩;rw[eY,br,eP (by lia)];show some (ab.tuple [ab.int (i:Nat),ds.getD i .none])=_;rw[ae,e1];rfl
noncomputable def itL(m:ME):MI:=λΓ=>(m Γ).bind λd=>match d with
 | .list ds=>.ok ds
 | .tuple ds=>.ok ds
 | _=>.bad
noncomputable def iy(m:ME):MI:=λΓ=>(m Γ).bind λd=>match d with
 | .int j=>gd (-(2^62)<=j/\j<2^62) (.ok ((List.range j.toNat).map λi=>ab.int (0+(i:Nat))))
 | _=>.bad
noncomputable def itV(m:ME):MI:=λΓ=>(m Γ).bind λd=>match d with
 | .list ds=>.ok ds.reverse
 | _=>.bad
noncomputable def itE(m:ME):MI:=λΓ=>(m Γ).bind λd=>match d with
 | .list ds=>.ok (eY ds)
 | .tuple ds=>.ok (eY ds)
 | _=>.bad
variable {m':ME}{xs:B4}{elts:C1}{tpos:Pos}
section
variable     {p:Pos}
def agq(K:aw)(tl:TE):TI:=λσ H R=>tl σ H λx H1=>∃a,x= .ref a/\(((∃xs,SqL K H1 a xs)/\R (Itl K a) H1)\/((∃xs,SqT K H1 a xs)/\R (Itt K a) H1))
theorem Sh{tl:TE}(hl:PE X c tl):PI X tg c (agq X.K tl):=by
 intro AD s σ H R I h;refine thn (hl AD s σ H _ I h) λv s1 az=>?_;obtain ⟨x,H1,I1,r1,q1⟩:=az;obtain ⟨a,e,q1⟩:=q1;subst e;cases r1;rcases q1 with ⟨⟨xs,hq⟩,q⟩ | ⟨⟨xs,hq⟩,q⟩
 . obtain ⟨AG,rv,p,hz⟩:=I1.list hq;refine w9 p.isList (⟨s1.heap.objs.size,[s1.heap.objs.size],_,_,H1,rfl,I1.kept λb o e=>aI _ e,Ve a _,⟨_,c6 _ rfl,rfl,rfl⟩,λb hb=>?_,q⟩);have e:=by simpa using hb
   subst e;exact I1.rT (aE _) (I1.AR.fresh (aE _))
 . obtain ⟨AG,rv,p,hz⟩:=I1.tuple hq;refine mB (p) (⟨s1.heap.objs.size,[s1.heap.objs.size],_,_,H1,rfl,I1.kept λb o e=>aI _ e,Rk a _,⟨_,c6 _ rfl,rfl,rfl⟩,λb hb=>?_,q⟩);have e:=by simpa using hb
   subst e;exact I1.rT (aE _) (I1.AR.fresh (aE _))
theorem Ou{d:ab}{R:It->Hp->Prop}(sa:aG A A')(sb:aG B A')(p:Pk K A B d v)(e:(match d with | .list ds=>AI.ok ds | .tuple ds=>.ok ds | _=>.bad)= .ok xs)
 (k:∀J,tu K A B J xs->R J A'):∃a,v= .ref a/\(((∃xs,SqL K A' a xs)/\R (Itl K a) A')\/((∃xs,SqT K A' a xs)/\R (Itt K a) A')):=by
 cases d with
 | list ds=>
  cases e;obtain ⟨q,vs,rfl,h2,h1⟩:=p.Rn (H:=A');exact ⟨q,rfl,.inl ⟨⟨vs,h1 A' sa sb⟩,k _ (aao h2 h1)⟩⟩
 | tuple ds=>
  cases e;obtain ⟨q,vs,rfl,h2,h1⟩:=p.fP (H:=A');exact ⟨q,rfl,.inr ⟨⟨vs,h1 A' sa⟩,k _ (acZ h2 h1)⟩⟩
 | _=>cases e
theorem fC(h:QE X e (tQ X.K O m)):QI X tg e (tI X.K O (itL m)):=QI.imp (Sh h.h) λσ H R az=>by
 obtain ⟨A,B,Γ,xs,r,em,k⟩:=az;obtain ⟨d,e1,em⟩:=AI.au em;refine ⟨A,B,Γ,d,r,e1,λv A1 H1 g1 p1=>Ou g1.ah (r.b.trans g1.hh) p1 em λJ hj=>k J A1 H1 g1 hj⟩
theorem mj(h:QE X e (tP X.K O m)):QI X tg e (tIc X.K O (itL m)):=QI.imp (Sh h.h) λσ H R az=>by
 obtain ⟨A,B,Γ,xs,r,em,k⟩:=az;obtain ⟨d,e1,em⟩:=AI.au em;refine ⟨A,B,Γ,d,r,e1,λv A1 H1 g1 p1=>Ou g1.ah (aG.refl _) p1 em λJ hj=>k J A1 H1 g1 hj⟩
theorem gV(hg:Gl X "range")(hm:X.mg "range"= none)(ha:QE X a (tP X.K O m))(hs:d6 [a] X.env=[(false,eval a X.env)]:=by rfl):QI X tg (.Call (.Name "range" p) [a] [] pos) (tI X.K O (iy m)):=
 QI.imp (Gq hg hm (bY ha.h eQ hs) hs) λσ H R az=>by
  obtain ⟨A,B,Γ,xs,r,em,k⟩:=az;obtain ⟨d,e1,em⟩:=AI.au em
  cases d with
  | int j=>
   obtain ⟨hc,em⟩:=cu em;cases em;exact ⟨A,B,Γ,_,r,e1,λv A1 H1 g1 p1=>⟨j,by rw[p1.int],hc.1,hc.2,k _ A1 H1 g1 (K8 0 _)⟩⟩
  | _=>cases em
theorem j8(hg:Gl X "range")(hm:X.mg "range"= none)(ha:QE X a (tP X.K O m))(hs:d6 [a] X.env=[(false,eval a X.env)]:=by rfl):QI X tg (.Call (.Name "range" p) [a] [] pos) (tIc X.K O (iy m)):=
 QI.imp (Gq hg hm (bY ha.h eQ hs) hs) λσ H R az=>by
  obtain ⟨A,B,Γ,xs,r,em,k⟩:=az;obtain ⟨d,e1,em⟩:=AI.au em
  cases d with
  | int j=>
   obtain ⟨hc,em⟩:=cu em;cases em;exact ⟨A,B,Γ,_,r,e1,λv A1 H1 g1 p1=>⟨j,by rw[p1.int],hc.1,hc.2,k _ A1 H1 g1 (K8 0 _)⟩⟩
  | _=>cases em
theorem ac4(hg:Gl X "reversed")(hm:X.mg "reversed"= none)(ha:QE X a (tQ X.K O m))(hs:d6 [a] X.env=[(false,eval a X.env)]:=by rfl):QI X tg (.Call (.Name "reversed" p) [a] [] pos) (tI X.K O (itV m)):=
 QI.imp (adH hg hm (bY ha.h eQ hs) hs) λσ H R az=>by
  obtain ⟨A,B,Γ,xs,r,em,k⟩:=az;obtain ⟨d,e1,em⟩:=AI.au em
  cases d with
  | list ds=>
   cases em;refine ⟨A,B,Γ,_,r,e1,λv A1 H1 g1 p1=>?_⟩;obtain ⟨q,vs,rfl,h2,h1⟩:=p1.Rn (H:=H1);exact ⟨q,vs,rfl,h1 H1 g1.ah (r.b.trans g1.hh),k _ A1 H1 g1 (abN h2 h1)⟩
  | _=>cases em
theorem Fw{x1}(hg:Gl X "enumerate")(hm:X.mg "enumerate"= none)(ha:QE X a (tQ X.K O m))(hs:d6 [a] X.env=[(false,eval a X.env)]:=by rfl):QI X (.Tuple elts x1 tpos) (.Call (.Name "enumerate" p) [a] [] pos) (tI X.K O (itE m)):=
 QI.imp (Jy hg hm (bY ha.h eQ hs) hs) λσ H R az=>by
  obtain ⟨A,B,Γ,xs,r,em,k⟩:=az;obtain ⟨d,e1,em⟩:=AI.au em
  cases d with
  | list ds=>
   cases em;refine ⟨A,B,Γ,_,r,e1,λv A1 H1 g1 p1=>?_⟩;obtain ⟨q,vs,rfl,h2,h1⟩:=p1.Rn (H:=H1);exact ⟨q,vs,rfl,.inl ⟨h1 H1 g1.ah (r.b.trans g1.hh),k _ A1 H1 g1 (Ot h2 h1)⟩⟩
  | tuple ds=>
   cases em;refine ⟨A,B,Γ,_,r,e1,λv A1 H1 g1 p1=>?_⟩;obtain ⟨q,vs,rfl,h2,h1⟩:=p1.fP (H:=H1);exact ⟨q,vs,rfl,.inr ⟨h1 H1 g1.ah,k _ A1 H1 g1 (JW h2 h1)⟩⟩
  | _=>cases em
theorem ZF{x1}(hg:Gl X "enumerate")(hm:X.mg "enumerate"= none)(ha:QE X a (tP X.K O m))(hs:d6 [a] X.env=[(false,eval a X.env)]:=by rfl):QI X (.Tuple elts x1 tpos) (.Call (.Name "enumerate" p) [a] [] pos) (tIc X.K O (itE m)):=
 QI.imp (Jy hg hm (bY ha.h eQ hs) hs) λσ H R az=>by
  obtain ⟨A,B,Γ,xs,r,em,k⟩:=az;obtain ⟨d,e1,em⟩:=AI.au em
  cases d with
  | list ds=>
   cases em;refine ⟨A,B,Γ,_,r,e1,λv A1 H1 g1 p1=>?_⟩;obtain ⟨q,vs,rfl,h2,h1⟩:=p1.Rn (H:=H1);exact ⟨q,vs,rfl,.inl ⟨h1 H1 g1.ah (aG.refl _),k _ A1 H1 g1 (Ot h2 h1)⟩⟩
  | tuple ds=>
   cases em;refine ⟨A,B,Γ,_,r,e1,λv A1 H1 g1 p1=>?_⟩;obtain ⟨q,vs,rfl,h2,h1⟩:=p1.fP (H:=H1);exact ⟨q,vs,rfl,.inr ⟨h1 H1 g1.ah,k _ A1 H1 g1 (JW h2 h1)⟩⟩
  | _=>cases em
end
abbrev MG:=ab->Ev->AI Ev
noncomputable def gN(i:Nat):MG:=λd Γ=>gd (i < Γ.length) (.ok (Γ.set i (some d)))
noncomputable def gTs:List MG->B4->Ev->AI Ev
 | [],[],Γ=>.ok Γ
 | g::gs,d::ds,Γ=>(g d Γ).bind λΓ'=>gTs gs ds Γ'
 | _,_,_=>.bad
noncomputable def gT(gs:List MG):MG:=λd Γ=>match d with
 | .tuple ds=>gTs gs ds Γ
 | _=>.bad
def qU(is:B5)(σ σ':St):Prop:=σ'.length=σ.length/\∀j,j∉is->σ'[j]?=σ[j]?
theorem qU.trans{is js:B5}{σ' σ'':St}(h:qU is σ σ')(h':qU js σ' σ''):qU (is++js) σ σ'':=
 ⟨h'.1.trans h.1,λj hj=>(h'.2 j λz=>hj (cS _ z)).trans (h.2 j λz=>hj (eK _ z))⟩
def tG(K:aw)(O O':B9)(is:B5)(g:MG):TG:=λv σ H Q=>∃A B Γ d Γ',aZ K A B H O σ Γ/\Rp K A d v/\g d Γ = .ok Γ'/\∀σ',aZ K A B H O' σ' Γ'->qU is σ σ'->Q σ' H
def tGs(K:aw)(O O':B9)(is:B5)(gs:List MG):TGs:=λvs σ H Q=>∃A B Γ ds Γ',aZ K A B H O σ Γ/\aA K A ds vs/\gTs gs ds Γ = .ok Γ'/\∀σ',aZ K A B H O' σ' Γ'->qU is σ σ'->Q σ' H
theorem PG.imp{t t':TG}(h:PG X tg t)(i:∀v σ H Q,t' v σ H Q->t v σ H Q):PG X tg t':=λAD s σ H v u Q I r q=>h AD s σ H v u Q I r (i v σ H Q q)
theorem PGs.imp{t t':TGs}(h:PGs X es t)(i:∀v σ H Q,t' v σ H Q->t v σ H Q):PGs X es t':=λAD s σ H v u Q I r q=>h AD s σ H v u Q I r (i v σ H Q q)
theorem QG.imp{t t':TG}(h:PG X tg t)(i:∀v σ H Q,t' v σ H Q->t v σ H Q):QG X tg t':=⟨PG.imp h i⟩
theorem QGs.imp{t t':TGs}(h:PGs X es t)(i:∀v σ H Q,t' v σ H Q->t v σ H Q):QGs X es t':=⟨PGs.imp h i⟩
theorem Dr:∀{gs:List MG}{ds:B4}{Γ Γ':Ev},gTs gs ds Γ = .ok Γ'->ds.length=gs.length
 | [],[],_,_,_=>rfl
 | g::gs,d::ds,Γ,Γ',h=>by
  obtain ⟨Γ1,_,h⟩:=AI.au h;rw[a9,a9,Dr h]
section
variable   {is js:B5}{g:MG}{gs:List MG}
theorem dq(i:Nat)(hN:X.N.Nodup)(hi:X.N[i]?=some x)(hx:Loc X.env.scope x)(hl:i<O.length:=by exact of_decide_eq_true rfl)(hf:X.fn x=true\/X.env.scope.names.lookup x=some .local:=by walk_at "hf")(hO:O.set i .AO=O2:=by rfl) :
 QG X (.Name x pos) (tG X.K O O2 [i] (gN i)):=hO ▸ QG.imp (ZJ hN hi hx hf) λv σ H Q az=>by
 obtain ⟨A,B,Γ,d,Γ',r,p,em,k⟩:=az;obtain ⟨hi,em⟩:=cu em;cases em;exact k _ (r.set hi hl p) ⟨fy ..,λj hj=>oy (λz=>hj (by rw[z];exact b9))⟩
theorem mX:QGs X [] (tGs X.K O O [] []):=QGs.imp abr λvs σ H Q az=>by
 obtain ⟨A,B,Γ,ds,Γ',r,p,em,k⟩:=az
 cases ds with
 | nil=>cases em;exact ⟨aA.nil.mp p,k σ r ⟨rfl,λ_ _=>rfl⟩⟩
 | cons d ds=>cases em
theorem mL(h1:QG X e (tG X.K O O1 is g))(h2:QGs X es (tGs X.K O1 O2 js gs))(hs:(nz (e::es) X.env).map (·.2)=assign e X.env::(nz es X.env).map (·.2):=by rfl):QGs X (e::es) (tGs X.K O O2 (is++js) (g::gs)):=by
 refine QGs.imp (Xg h1.h h2.h ?_) λvs σ H Q ⟨A,B,Γ,ds,Γ',r,p,em,k⟩=>?_
 . exact hs
 . cases ds with
   | nil=>cases em
   | cons d ds=>
    obtain ⟨Γ1,e1,em⟩:=AI.au em;obtain ⟨v,r',rfl,p1,p2⟩:=aA.cons.mp p;exact ⟨v,r',rfl,A,B,Γ,d,Γ1,r,p1,e1,λσ' r2 y=>⟨A,B,Γ1,ds,Γ',r2,p2,em,λσ2 r3 y2=>k σ2 r3 (y.trans y2)⟩⟩
theorem pP{n:Nat}(hc:X.calm=true)(h:QGs X es (tGs X.K O O' is gs))(hgs:gs.length=n:=by rfl)
 (hn:(nz es X.env).length=n:=by rfl) (hst:(nz es X.env).findIdx? (·.1)=none:=by rfl):QG X (.Tuple es i pos) (tG X.K O O' is (gT gs)):=QG.imp (abR hc h.h hn hst) λv σ H Q az=>by
 obtain ⟨A,B,Γ,d,Γ',r,p,em,i⟩:=az
 cases d with
 | tuple ds=>
  have p':=Rp.tuple.mp p;obtain ⟨a,vs,rfl,h1,h2⟩:=p';exact ⟨a,vs,rfl,r.a.fP h1,by rw[<- h2.length,<- hgs];exact Dr em,A,B,Γ,ds,Γ',r,h2,em,i⟩
 | _=>cases em
end
noncomputable def ph(O Oe:B9)(cl:B5):Bool:=Oe.length == O.length&&(List.range O.length).all λj=>decide (fl Oe j=fl O j)||cl.contains j
variable {Oe:B9}{cl:B5}
theorem X7(h:ph O Oe cl=true)(j:Nat):fl Oe j=fl O j\/j∈cl:=by
 unfold ph at h;rw[dS,fb] at h;rcases gu j O.length with hj | hj
 . have:=h.2 j (dn.mpr hj);rw[tJ] at this;rcases this with z | z
   . exact .inl (of_decide_eq_true z)
   . exact .inr (by simpa using z)
 . left;unfold fl;rw[ae,ae,fk hj,fk (by rw[show Oe.length=O.length by simpa using h.1];exact hj)]
theorem KR:∀(l:B5) (Γ:Ev) (j:Nat),j∈l->gv (clr l Γ) j=none
 | i::l,Γ,j,h=>by
  by_cases hj:j∈l
  . exact KR l (Γ.set i none) j hj
  . have e:j=i:=by
     rcases cp.mp h with z | z
     . exact z
     . exact absurd z hj
    subst e;rcases (Dk l (Γ.set j none)).2 j with z | z
    . exact z
    . show gv (clr l (Γ.set j none)) j=none;rw[z];rw[gv,ae]
      by_cases hi:j < Γ.length
      . rw[ma hi];rfl
      . rw[fk (by rw[fy];lia)];rfl
theorem aZ.iB(hE:ph O Oe cl=true)(r:aZ K A B H Oe σ Γ):aZ K A B H O σ (Zq.clr cl Γ):=by
 have r':=r.clr cl;have hf:∀j,gv (Zq.clr cl Γ) j≠none->fl O j=fl Oe j:=λj n=>by
  rcases X7 hE j with z | z
  . exact z.symm
  . exact absurd (KR cl Γ j z) n
 refine ⟨r'.a,r'.b,r'.len,λj d e=>?_,λi j hij h1 h2 h3 h4=>r'.sep i j hij (by rw[<- hf i h3];exact h1) (by rw[<- hf j h4];exact h2) h3 h4⟩;have:=r'.slot j d e;rw[hf j (by rw[e];simp)];exact this
noncomputable def forR(g:MG)(cl:B5)(b:MS):B4->Ev->AI Out
 | [],Γ=>.ok (.nx Γ)
 | x::xs,Γ=>(g x Γ).bind λΓ1=>(b Γ1).bind λo=>match o with
  | .nx Γ2=>forR g cl b xs (clr cl Γ2)
  | .ct Γ2=>forR g cl b xs (clr cl Γ2)
  | .bk Γ2=>.ok (.nx (clr cl Γ2))
  | .rt d=>.ok (.rt d)
noncomputable def cL(it:MI)(g:MG)(cl:B5)(b:MS):MS:=λΓ=>(it Γ).bind λxs=>forR g cl b xs Γ
section
variable    {is:B5}{g:MG}{it:MI}  {mb:MS}{iter:Expr}{body:C5}
theorem kW(hp:vn (eJ X.prog X.w) X.A X.env X.xe)(hc:X.calm=true)(cl:B5)(hi:QI X tg iter (tI X.K O it))(hg:QG X tg (tG X.K O O is g))(hb:QSs X body (tS X.K rm Oe O Oe mb))(hE:ph O Oe cl=true)
 (hs:∀x,jI iter X.env x=pure x:=by intro _;rfl):QS X (.For tg iter body [] pos) (tS X.K rm Ol O O (cL it g cl mb)):=by
 refine QS.imp (Up hp hc hi.h hg.h hb.h hs) λD σ H az=>?_;obtain ⟨A,B,Γ,o,r,em,k⟩:=az;obtain ⟨xs,e1,em⟩:=AI.au em;refine ⟨A,B,Γ,xs,r,e1,λJ A1 H1 g1 hj=>?_⟩;refine ⟨λi n σ' H'=>n=xs.length - i/\i<=xs.length/\∃A2 Γ2,aZ X.K A2 B H' O σ' Γ2/\aG A A2/\New A A2 B/\aG A1 A2/\forR g cl mb (xs.drop i) Γ2= .ok o,⟨xs.length,rfl,kN _,A1,Γ,r.grow g1,g1.aa,g1.nB r.b,aG.refl _,em⟩,?_⟩;rintro i n σ' H' ⟨rfl,hi.h,A2,Γ2,r2,sa,nw,s12,e2⟩
 by_cases hlt:i<xs.length
 . refine .inr ⟨hj.go i H' (s12.trans r2.a) r2.b hlt,λσ'' H''=>i+1<=xs.length/\∃A3 Γ3,aZ X.K A3 B H'' O σ'' Γ3/\aG A A3/\New A A3 B/\aG A1 A3/\forR g cl mb (xs.drop (i+1)) Γ3= .ok o,?_,λx H3 y=>?_⟩
   . rintro σ'' H'' ⟨h1,A3,Γ3,h2⟩;exact ⟨xs.length - (i+1),by lia,rfl,h1,A3,Γ3,h2⟩
   . obtain ⟨A3,d,ed,g3,p3⟩:=hj.yld i A2 H' x H3 s12 r2.a r2.b hlt y;have hd:xs.drop i=d::xs.drop (i+1):=by
      rw[mS hlt];rw[ai hlt] at ed;cases ed;rfl
     rw[hd] at e2;obtain ⟨Γ3,e3,e2⟩:=AI.au e2;obtain ⟨o3,e4,e2⟩:=AI.au e2;have sa3:=sa.trans g3.aa;have nw3:=nw.trans (g3.nB r2.b);refine ⟨A3,B,Γ2,d,Γ3,r2.grow g3,p3,e3,λσ4 r4 _=>⟨A3,B,Γ3,o3,r4,e4,?_⟩⟩;have sb:∀{D':Ends},uq X.K rm Ol O A B D' o->uq X.K rm Ol O A3 B D' o:=λh=>h.sub sa3 nw3
     cases o3 with
     | nx Γ4=>exact λσ5 A5 H5 r5 s5 n5=>⟨hlt,A5,clr cl Γ4,r5.iB hE,sa3.trans s5,nw3.trans n5,s12.trans (g3.aa.trans s5),e2⟩
     | ct Γ4=>exact λσ5 A5 H5 r5 s5 n5=>⟨hlt,A5,clr cl Γ4,r5.iB hE,sa3.trans s5,nw3.trans n5,s12.trans (g3.aa.trans s5),e2⟩
     | bk Γ4=>
      cases e2;exact λσ5 A5 H5 r5 s5 n5=>k σ5 A5 H5 (r5.iB hE) (sa3.trans s5) (nw3.trans n5)
     | rt d'=>
      cases e2;exact λv A5 H5 q1 q2 s5 n5 rv=>k v A5 H5 q1 q2 (sa3.trans s5) (nw3.trans n5) rv
 . have e:i=xs.length:=by lia
   subst e;rw[xC] at e2;cases e2;exact .inl ⟨hj.stop H' (s12.trans r2.a) r2.b,k σ' A2 H' r2 sa nw⟩
end
noncomputable def whR(c:ME)(cl:B5)(b:MS):Nat->Ev->AI Out
 | 0,_=>.bad
 | n+1,Γ=>(c Γ).bind λx=>match x with
  | .bool true=>(b Γ).bind λo=>match o with
   | .nx Γ2=>whR c cl b n (clr cl Γ2)
   | .ct Γ2=>whR c cl b n (clr cl Γ2)
   | .bk Γ2=>.ok (.nx (clr cl Γ2))
   | .rt d=>.ok (.rt d)
  | .bool false=>.ok (.nx Γ)
  | _=>.bad
noncomputable def sy(fuel:Nat)(c:ME)(cl:B5)(b:MS):MS:=λΓ=>whR c cl b fuel Γ
section
variable      {mc:ME}{mb:MS}{body:C5}
theorem VN(hp:vn (eJ X.prog X.w) X.A X.env X.xe)(fuel:Nat)(cl:B5)(hc:QT X c (tT X.K O mc))(hb:QSs X body (tS X.K rm Oe O Oe mb))(hE:ph O Oe cl=true):QS X (.While c body [] pos) (tS X.K rm Ol O O (sy fuel mc cl mb)):=by
 refine QS.imp (Yo hp hc.h hb.h) λD σ H ⟨A,B,Γ,o,r,em,k⟩=>⟨λn σ' H'=>∃A2 Γ2,aZ X.K A2 B H' O σ' Γ2/\aG A A2/\New A A2 B/\whR mc cl mb n Γ2= .ok o,⟨fuel,A,Γ,r,aG.refl _,λ_ h _=>h,em⟩,?_⟩;rintro n σ' H' ⟨A2,Γ2,r2,sa,nw,e2⟩
 cases n with
 | zero=>cases e2
 | succ n=>
  obtain ⟨x,e3,e2⟩:=AI.au e2
  cases x with
  | bool bb=>
   refine ⟨A2,B,Γ2,bb,r2,e3,λA3 H3 g3=>?_⟩;have sa3:=sa.trans g3.aa;have nw3:=nw.trans (g3.nB r2.b)
   cases bb with
   | false=>
    cases e2;exact xJ (k σ' A3 H3 (r2.grow g3) sa3 nw3)
   | true=>
    obtain ⟨o3,e4,e2⟩:=AI.au e2;refine xK ⟨λσ'' H''=>∃A2 Γ2,aZ X.K A2 B H'' O σ'' Γ2/\aG A A2/\New A A2 B/\whR mc cl mb n Γ2= .ok o,λσ'' H'' h=>⟨n,sL _,h⟩,A3,B,Γ2,o3,r2.grow g3,e4,?_⟩
    cases o3 with
    | nx Γ4=>exact λσ5 A5 H5 r5 s5 n5=>⟨A5,clr cl Γ4,r5.iB hE,sa3.trans s5,nw3.trans n5,e2⟩
    | ct Γ4=>exact λσ5 A5 H5 r5 s5 n5=>⟨A5,clr cl Γ4,r5.iB hE,sa3.trans s5,nw3.trans n5,e2⟩
    | bk Γ4=>cases e2;exact λσ5 A5 H5 r5 s5 n5=>k σ5 A5 H5 (r5.iB hE) (sa3.trans s5) (nw3.trans n5)
    | rt d'=>cases e2;exact λv A5 H5 q1 q2 s5 n5 rv=>k v A5 H5 q1 q2 (sa3.trans s5) (nw3.trans n5) rv
  | _=>cases e2
end
noncomputable def pC(g:MG)(c:ME)(e:ME)(Γ:Ev):B4->AI B4
 | []=>.ok []
 | x::xs=>(g x Γ).bind λΓ1=>(c Γ1).bind λt=>match t with
  | .bool true=>(e Γ1).bind λd=>(pC g c e Γ xs).bind λds=>.ok (d::ds)
  | .bool false=>pC g c e Γ xs
  | _=>.bad
noncomputable def gh(nt:Nat)(ix:B5)(Γ:Ev):Ev:=ax nt none++ix.map (gv Γ)
noncomputable def bfl:Fl->Fl
 | .own=>.AN
 | .fix _=>.AN
 | .nst _=>.nst false
 | f=>f
noncomputable def m9(nt:Nat)(ix:B5)(O:B9):B9:=ax nt .AO++ix.map λi=>bfl (fl O i)
noncomputable def cC(it:MI)(g:MG)(c e:ME)(nt:Nat)(ix:B5):ME:=λΓ=>(it Γ).bind λxs=>gd (xs.length<bE) ((pC g c e (gh nt ix Γ) xs).bind λds=>.ok (.list ds))
theorem abv:(σ[i]?).join=sv σ i:=by
 rw[sv,ae]
 cases σ[i]? with
 | none=>rfl
 | some o=>rfl
theorem uh{α:Type}{os:List α}{ix:B5}{f:Nat->α}{d:α}(j:Nat):(os++ix.map f).getD j d=if j<os.length then os.getD j d else match ix[j - os.length]? with | some i=>f i | none=>d:=by
 rw[ae];split
 . rename_i h;rw[cq h,ae]
 . rename_i h;rw[bX (by lia),br];cases ix[j - os.length]? <;> rfl
theorem aZ.block(r:aZ K A B H O σ Γ){os:List (Option V)}{nt:Nat}(ho:os.length=nt)(ix:B5):aZ K A H H (m9 nt ix O) (os++ix.map λi=>(σ[i]?).join) (gh nt ix Γ):=by
 have fN:∀j,isO (fl (m9 nt ix O) j)=false:=λj=>by
  unfold fl m9;rw[uh,ck];split
  . rw[ae,iO];split <;> rfl
  . cases ix[j - nt]? with
    | none=>rfl
    | some i=>simp only;cases fl O i <;> rfl
 refine ⟨r.a,aG.refl _,?_,λj d e=>?_,λi j _ h1 _ _ _=>absurd (h1.symm.trans (fN i)) Bool.noConfusion⟩
 . rw[gh,av,av,ck,af,af,ho]
 . unfold gv gh at e;rw[uh,ck] at e;split at e
   . rw[ae,iO] at e;split at e <;> cases e
   . rename_i hj
     cases q:ix[j - nt]? with
     | none=>rw[q] at e;cases e
     | some i=>
      rw[q] at e;obtain ⟨v,e1,sl⟩:=r.slot i d e;refine ⟨v,?_,?_⟩
      . rw[sv,uh,if_neg (by lia),ho,q];show (σ[i]?).join=some v;rw[abv];exact e1
      . have ef:fl (m9 nt ix O) j=bfl (fl O i):=by
         unfold fl m9;rw[uh,ck,if_neg hj,q]
        rw[ef]
        cases hf:fl O i with
        | AO=>rwa [hf] at sl
        | AN=>rw[hf] at sl;exact Pk.mono (aG.refl _) r.b sl
        | own=>rw[hf] at sl;exact Own.pk sl
        | fix p0=>rw[hf] at sl;exact Own.pk sl.2
        | exc C=>rwa [hf] at sl
        | nst b=>exact λz=>nomatch z
        | kit=>rwa [hf] at sl
variable {ifs:C1}
theorem sr.imp(h:sr X ifs t)(i:∀σ H Q,t' σ H Q->t σ H Q):sr X ifs t':=λAD s σ H Q I q=>h AD s σ H Q I (i σ H Q q)
theorem yc.imp(h:sr X ifs t)(i:∀σ H Q,t' σ H Q->t σ H Q):yc X ifs t':=⟨sr.imp h i⟩
theorem dW:yc X [] (tT X.K O (eC (.bool true))):=yc.imp Yg λσ H Q az=>by
 obtain ⟨A,B,Γ,b,r,em,k⟩:=az;cases em;exact k A H (aX.refl r.a)
theorem wk(h:QT X c (tT X.K O m)):yc X [c] (tT X.K O m):=⟨WQ h.h⟩
section
variable  {Ob:B9}{tn:B6}{ix:B5}{it:MI}{g:MG}{mc me:ME}
theorem Bo(hOb:Ob=m9 tn.length ix O){nt:Nat}(hnt:nt=tn.length)(his:∀j∈cl,j<tn.length){Q:VK}(h:tF K O (cC it g mc me nt ix) σ H Q):Io tn ix (tIc K O it) (tG K Ob O1 cl g) (tT K O1 mc) (tE K O1 me) σ H Q:=by
 subst hOb hnt;obtain ⟨A,B,Γ,d,r,em,k⟩:=h;obtain ⟨xs,e1,em⟩:=AI.au em;obtain ⟨hz,em⟩:=cu em;obtain ⟨ds,e2,em⟩:=AI.au em;cases em;refine ⟨A,B,Γ,xs,r,e1,λJ A1 H1 g1 hj D hD=>?_⟩;have r1:=r.grow g1;have hAD:=g1.ah.free hD;refine ⟨λi n σb AF H2=>n=xs.length - i/\i<=xs.length/\AF.length<=i/\(∃os:List (Option V),os.length=tn.length/\σb=os++ix.map λi=>(σ[i]?).join)/\∃A2,aG A1 A2/\New A1 A2 H1/\aG A2 H2/\aG H1 H2/\A2 D=none/\H2 D=some (.lst AF) /\
  ∃ds1 ds2,ds=ds1++ds2/\aA K A2 ds1 AF/\pC g mc me (gh tn.length ix Γ) (xs.drop i)= .ok ds2,⟨xs.length,rfl,kN _,kN _,⟨_,ck,rfl⟩,A1,aG.refl _,λ_ h _=>h,g1.ah.trans (aG.new hD _),aG.new hD _,hAD,aY,[],ds,rfl,aA.nil.mpr rfl,e2⟩,?_⟩
 rintro i n σb AF H2 ⟨rfl,hi,hacc,⟨os,ho,rfl⟩,A2,sa,nw,s2,sh,a2,hD2,ds1,ds2,rfl,rp,e3⟩;refine ⟨hD2,?_⟩
 by_cases hlt:i<xs.length
 . refine .inr ⟨hj.go i H2 (sa.trans s2) sh hlt,by lia,λx H3 y=>?_⟩;obtain ⟨A3,dx,ed,g3,p3⟩:=hj.yld i A2 H2 x H3 sa s2 sh hlt y;have hd:xs.drop i=dx::xs.drop (i+1):=by
    rw[mS hlt];rw[ai hlt] at ed;cases ed;rfl
   rw[hd] at e3;obtain ⟨Γ1,e4,e3⟩:=AI.au e3;obtain ⟨t,e5,e3⟩:=AI.au e3;have rb:=by
    have rr:aZ K A3 B H3 O σ Γ:=by
     refine ⟨g3.ah,r1.b.trans (sh.trans g3.hh),r1.len,λj=>?_,r1.sep⟩;intro d' e';obtain ⟨v',e'',q⟩:=r1.slot j d' e';refine ⟨v',e'',?_⟩
     cases hf:fl O j with
     | AO=>rw[hf] at q;exact Rp.mono (sa.trans g3.aa) d' q
     | AN=>rw[hf] at q;exact Pk.mono (sa.trans g3.aa) (aG.refl _) q
     | own=>
      rw[hf] at q;obtain ⟨p',o',rfl,u1,u2,u3,u4⟩:=q;have n1:=nw p' u2 (by rw[u1];simp);exact ⟨p',o',rfl,g3.hh _ _ (sh _ _ u1),g3.nw p' n1 (by rw[sh _ _ u1];simp),u3,u4.mono (sa.trans g3.aa)⟩
     | fix p0=>
      rw[hf] at q;obtain ⟨q0,p',o',rfl,u1,u2,u3,u4⟩:=q;have n1:=nw p' u2 (by rw[u1];simp);exact ⟨q0,p',o',rfl,g3.hh _ _ (sh _ _ u1),g3.nw p' n1 (by rw[sh _ _ u1];simp),u3,u4.mono (sa.trans g3.aa)⟩
     | kit=>rw[hf] at q;exact p7.mono (sa.trans g3.aa) q
     | exc C=>
      rw[hf] at q;obtain ⟨p',ob,w1,w2,w3⟩:=q;exact ⟨p',ob,w1,(sa.trans g3.aa) _ _ w2,w3⟩
     | nst b=>
      rw[hf] at q;intro z;obtain ⟨p',xs,AE,w1,w2,w3,w4,w5,w6⟩:=q z;have n1:=nw p' w4 (by rw[w3];simp);exact ⟨p',xs,AE,w1,w2,g3.hh _ _ (sh _ _ w3),g3.nw p' n1 (by rw[sh _ _ w3];simp),w5,w6.mono (sa.trans g3.aa)⟩
    exact rr.block ho ix
   refine ⟨A3,H3,_,dx,Γ1,rb,p3,e4,λσ4 r4 y4=>?_⟩;have hos:∃os':List (Option V),os'.length=tn.length/\σ4=os'++ix.map λi=>(σ[i]?).join:=by
    have hl4:σ4.length=tn.length+ix.length:=by rw[y4.1,av,af,ho]
    refine ⟨σ4.take tn.length,by rw[c8];lia,r6 λj=>?_⟩;rcases gu j tn.length with hj | hj
    . rw[cq (by rw[c8];lia),k9 hj]
    . rw[y4.2 j (λz=>absurd (his j z) (by lia)),bX (by lia),bX (by rw[c8];lia),c8,ho];congr 1;lia
   cases t with
   | bool bb=>
    refine ⟨A3,H3,Γ1,bb,r4,e5,λA4 H4 g4=>?_⟩;have nw4:=nw.trans ((g3.trans g4).nw.mono sh);have hD4:=g4.hh _ _ (g3.hh _ _ hD2);have a4:=(g3.trans g4).nw D a2 (by rw[hD2];simp)
    cases bb with
    | false=>
     refine xJ ⟨xs.length - (i+1),by lia,rfl,hlt,by lia,hos,A4,sa.trans (g3.trans g4).aa,nw4,g4.ah,sh.trans (g3.trans g4).hh,a4,hD4,ds1,ds2,rfl,aA.mono (g3.trans g4).aa _ rp,e3⟩
    | true=>
     obtain ⟨dv,e6,e3⟩:=AI.au e3;obtain ⟨ds3,e7,e3⟩:=AI.au e3;cases e3;refine xK ⟨A4,H3,Γ1,dv,r4.grow g4,e6,λv A5 H5 g5 p5=>?_⟩;have gg:=(g3.trans g4).trans g5;have hD5:=g5.hh _ _ hD4;have a5:=gg.nw D a2 (by rw[hD2];simp);refine ⟨hD5,xs.length - (i+1),by lia,rfl,hlt,by rw[av,cx];lia,hos,A5,sa.trans gg.aa,nw.trans (gg.nw.mono sh),λb u q=>?_,?_,a5,aY,ds1++[dv],ds3,by rw[d5];rfl,(aA.mono gg.aa _ rp).append (aA.one p5),e7⟩
     . have hb:b≠D:=λz=>by rw[z,a5] at q;cases q
       rw[aH hb];exact g5.ah b u q
     . exact (sh.trans gg.hh).up hD
   | _=>cases e3
 . have e:i=xs.length:=by lia
   subst e;rw[xC] at e3;cases e3;rw[dr] at k;refine .inl ⟨hj.stop H2 (sa.trans s2) sh,k _ A2 H2 ⟨g1.aa.trans sa,g1.hh.trans sh,s2,λp n1 n2=>nw p (g1.nw p n1 n2) (aG.ne g1.hh n2)⟩ ⟨D,_,rfl,g1.hh.free hD,hD2,a2,.inl ⟨ds1,AF,rfl,rfl,rp⟩⟩⟩
end
section
variable  {Ob:B9}{scope:vv}{tn:B6}{ix is:B5}{it:MI}{g:MG}{mc me:ME}{elt iter:Expr}   {nt:Nat}
theorem dY(tn:B6)(ix:B5)(S:iU X scope ix=true)(hc:X.calm=true)(hOb:Ob=m9 tn.length ix O)(hnt:nt=tn.length)(his:∀j∈is,j<tn.length)(hi:QI X tg iter (tIc X.K O it))
 (hg:∀cl C s₂ H₂ fp,QG (X.comp scope tn ix cl C s₂ H₂ fp) tg (tG X.K Ob O1 is g)) (ht:∀cl C s₂ H₂ fp,yc (X.comp scope tn ix cl C s₂ H₂ fp) ifs (tT X.K O1 mc)) (he:∀cl C s₂ H₂ fp,QE (X.comp scope tn ix cl C s₂ H₂ fp) elt (tE X.K O1 me))
 (hs:∀x,jI iter X.env x=pure x:=by intro _;rfl):QE X (.ListComp elt [⟨tg,iter,ifs,0⟩] scope pos) (tF X.K O (cC it g mc me nt ix)):=
 QE.imp (aaC S hc hi.h (λcl C s₂ H₂ fp=>(hg cl C s₂ H₂ fp).h) (λcl C s₂ H₂ fp=>(ht cl C s₂ H₂ fp).h) (λcl C s₂ H₂ fp=>(he cl C s₂ H₂ fp).h) hs) λσ H Q h=>Bo hOb hnt his h
theorem abk(i:Nat)(tn:B6)(ix:B5){y:Str}(hN:X.N.Nodup)(hiN:X.N[i]?=some y)(hy:Loc X.env.scope y)(S:iU X scope ix=true)(hc:X.calm=true)(hOb:Ob=m9 tn.length ix O)(hnt:nt=tn.length)(his:∀j∈is,j<tn.length)(hi:QI X tg iter (tIc X.K O it))
 (hg:∀cl C s₂ H₂ fp,QG (X.comp scope tn ix cl C s₂ H₂ fp) tg (tG X.K Ob O1 is g)) (ht:∀cl C s₂ H₂ fp,yc (X.comp scope tn ix cl C s₂ H₂ fp) ifs (tT X.K O1 mc)) (he:∀cl C s₂ H₂ fp,QE (X.comp scope tn ix cl C s₂ H₂ fp) elt (tE X.K O1 me))
 (hl:i<O.length:=by exact of_decide_eq_true rfl) (hsw:ip (.ListComp elt [⟨tg,iter,ifs,0⟩] scope pos) (some (.Name y pos')) tpos.line X.env=pure true:=by rfl)
 (hf:X.fn y=true\/X.env.scope.names.lookup y=some .local:=by walk_at "hf")
 (hs:∀x,jI iter X.env x=pure x:=by intro _;rfl) (hO:O.set i .own=O2:=by rfl):QS X (.Assign [.Name y pos'] (.ListComp elt [⟨tg,iter,ifs,0⟩] scope pos) tpos) (tS X.K rm Ol O O2 (bc i (cC it g mc me nt ix))):=
 hO ▸ QS.imp (Ox hN hiN hy S hc hi.h (λcl C s₂ H₂ fp=>(hg cl C s₂ H₂ fp).h) (λcl C s₂ H₂ fp=>(ht cl C s₂ H₂ fp).h) (λcl C s₂ H₂ fp=>(he cl C s₂ H₂ fp).h) hsw hf hs) λD σ H=>yC (λσ H Q h=>Bo hOb hnt his h) hl
end
noncomputable def mH(i:Nat)(m:ME):MS:=λΓ=>(m Γ).bind λd=>match gv Γ i with
 | some (.list ds)=>gd (ds.length<bE/\i < Γ.length) (.ok (.nx (Γ.set i (some (.list (ds++[d]))))))
 | _=>.bad
noncomputable def PK(i:Nat)(m:ME):MS:=λΓ=>(m Γ).bind λd=>match gv Γ i,d with
 | some (.list ds),.list es=>gd (ds.length+es.length<=bE/\i < Γ.length) (.ok (.nx (Γ.set i (some (.list (ds++es))))))
 | _,_=>.bad
noncomputable def Rv(i:Nat)(m m':ME):MS:=λΓ=>(m Γ).bind λk=>(m' Γ).bind λd=>match gv Γ i,k with
 | some (.list ds),.int j=>gd (0<=j/\j<=ds.length/\ds.length<1000/\i < Γ.length) (.ok (.nx (Γ.set i (some (.list (ds.take j.toNat++d::ds.drop j.toNat))))))
 | _,_=>.bad
variable {apos cpos:Pos}
section
variable      {p:Pos}
theorem sV(r:aZ K A B H O σ Γ)(hi:isO (fl O i)=true)(he:gv Γ i=some (.list ds)):∃q vs,sv σ i=some (.ref q)/\H q=some (.lst vs)/\aA K A ds vs:=by
 obtain ⟨d,q,o,e1,e2,h1,h2,h3,⟨ds',vs,rfl,rfl,h4⟩ | ⟨AE,u,rfl,rfl,h4⟩⟩:=r.nu hi (by rw[he];simp)
 rotate_right
 . rw[he] at e1;cases e1
 rw[he] at e1;cases e1;exact ⟨q,vs,e2,h1,h4⟩
theorem jK(i:Nat)(he:QE X e (tE X.K O m))(hi:isO (fl O i)=true:=by rfl)(nm:Nm X i x:=by walk_at "nm")(hbase:nE (.Name x p) "append" X.env (eval (.Name x p) X.env)=eval (.Name x p) X.env:=by rfl)
 (hfew:((nS cpos (d6 (e::[]) X.env)).all (λx=>!x.1)&&(zi cpos (tf [] X.env)).all (λx=>x.1.isSome)
  && decide ((e::[]).length+([]:List rl).length+(if ([]:List rl).isEmpty then 0 else 1)<30))=true:=by rfl)
 (hline:(apos.endLine == cpos.line)=true:=by rfl) (hs:d6 (e::[]) X.env=(false,eval e X.env)::d6 [] X.env:=by rfl) (hplain:(nS cpos (d6 [] X.env)).any (·.1)=false:=by rfl)
 (hsw:ip (.Call (.Attribute (.Name x p) "append" apos) [e] [] cpos) none pos.line X.env=pure false:=by rfl) :
 QS X (.Expr (.Call (.Attribute (.Name x p) "append" apos) [e] [] cpos) pos) (tS X.K rm Ol O O (mH i m)):=by
 refine QS.imp (qX (Ij n0 rq xk yw (dM nm.1 nm.2 nm.3 nm.4) (bY he.h eQ hs) hbase hfew hline hs hplain) hsw) λD σ H az=>?_;obtain ⟨A,B,Γ,o,r,em,k⟩:=az;obtain ⟨d,e1,em⟩:=AI.au em
 cases hg:gv Γ i with
 | none=>rw[hg] at em;cases em
 | some dl=>
  rw[hg] at em
  cases dl with
  | list ds=>
   obtain ⟨⟨hc,hlt⟩,em⟩:=cu em;cases em;obtain ⟨q,vs,e2,h1,h4⟩:=sV r hi hg;refine ⟨.ref q,dO e2,.inl ⟨rfl,vs,SqL.of h1⟩,A,B,Γ,d,r,e1,λv A1 H1 g1 p1=>⟨q,vs,v,rfl,rfl,g1.hh _ _ h1,by rw[<- h4.length];exact hc,?_⟩⟩;exact k σ A1 _ ((r.grow g1).change hi hlt (by rw[hg];simp) e2 (g1.hh _ _ h1) (.inl ⟨_,_,rfl,rfl,(aA.mono g1.aa _ h4).append (aA.one p1)⟩)) g1.aa (g1.nB r.b)
  | _=>cases em
theorem acn(i:Nat)(ha:QE X a (tE X.K O m))(hb:QE X b (tE X.K O m'))(hi:isO (fl O i)=true:=by rfl)(nm:Nm X i x:=by walk_at "nm")(hbase:nE (.Name x p) "insert" X.env (eval (.Name x p) X.env)=eval (.Name x p) X.env:=by rfl)
 (hfew:((nS cpos (d6 (a::[b]) X.env)).all (λx=>!x.1)&&(zi cpos (tf [] X.env)).all (λx=>x.1.isSome)
  && decide ((a::[b]).length+([]:List rl).length+(if ([]:List rl).isEmpty then 0 else 1)<30))=true:=by rfl)
 (hline:(apos.endLine == cpos.line)=true:=by rfl) (hs:d6 (a::[b]) X.env=(false,eval a X.env)::d6 [b] X.env:=by rfl) (hs2:d6 (b::[]) X.env=(false,eval b X.env)::d6 [] X.env:=by rfl) (hplain:(nS cpos (d6 [b] X.env)).any (·.1)=false:=by rfl)
 (hsw:ip (.Call (.Attribute (.Name x p) "insert" apos) [a,b] [] cpos) none pos.line X.env=pure false:=by rfl) :
 QS X (.Expr (.Call (.Attribute (.Name x p) "insert" apos) [a,b] [] cpos) pos) (tS X.K rm Ol O O (Rv i m m')):=by
 refine QS.imp (qX (Ij n0 PySem.F.slot_list_insert PySem.F.type_list_insert Vk (dM nm.1 nm.2 nm.3 nm.4) (bY ha.h (bY hb.h eQ hs2) hs) hbase hfew hline hs hplain) hsw) λD σ H az=>?_;obtain ⟨A,B,Γ,o,r,em,k⟩:=az;obtain ⟨kd,e1,em⟩:=AI.au em;obtain ⟨d,e2,em⟩:=AI.au em
 cases hg:gv Γ i with
 | none=>rw[hg] at em;cases em
 | some dl=>
  rw[hg] at em
  cases dl with
  | list ds=>
   cases kd with
   | int j=>
    obtain ⟨⟨hc1,hc2,hc3,hlt⟩,em⟩:=cu em;cases em;obtain ⟨q,vs,e3,h1,h4⟩:=sV r hi hg;have hl:=h4.length;refine ⟨.ref q,dO e3,.inl ⟨rfl,vs,SqL.of h1⟩,A,B,Γ,_,r,e1,λv A1 H1 g1 p1=>⟨A1,B,Γ,d,r.grow g1,e2,λu A2 H2 g2 p2=>⟨q,vs,j,u,rfl,by rw[Rp.int.mp p1],(g1.trans g2).hh _ _ h1,hc1,by lia,by lia,?_⟩⟩⟩;have gg:=g1.trans g2;refine k σ A2 _ ((r.grow gg).change hi hlt (by rw[hg];simp) e3 (gg.hh _ _ h1) (.inl ⟨_,_,rfl,rfl,?_⟩)) gg.aa (gg.nB r.b);have h5:=aA.mono gg.aa _ h4;exact (h5.take _).append (aA.cons.mpr ⟨u,_,rfl,p2,h5.drop _⟩)
   | _=>cases em
  | _=>cases em
end
noncomputable def intsOf:B4->Option B3
 | []=>some []
 | .int i::ds=>(intsOf ds).map (i :: ·)
 | _::_=>none
theorem Hj:∀{ds:B4}{ns:B3},intsOf ds=some ns->ds=ns.map ab.int
 | [],ns,h=>by cases h;rfl
 | .int i::ds,ns,h=>by
  unfold intsOf at h
  cases e:intsOf ds with
  | none=>rw[e] at h;cases h
  | some ms=>rw[e] at h;cases h;rw[Hj e];rfl
@[simp] theorem wL (ns:B3):intsOf (ns.map ab.int)=some ns:=by
 induction ns with
 | nil=>rfl
 | cons n ns ih=>rw[bo,intsOf,ih];rfl
noncomputable def boolsOf:B4->Option (List Bool)
 | []=>some []
 | .bool i::ds=>(boolsOf ds).map (i :: ·)
 | _::_=>none
theorem BZ:∀{ds:B4}{ns:List Bool},boolsOf ds=some ns->ds=ns.map ab.bool
 | [],ns,h=>by cases h;rfl
 | .bool i::ds,ns,h=>by
  unfold boolsOf at h
  cases e:boolsOf ds with
  | none=>rw[e] at h;cases h
  | some ms=>rw[e] at h;cases h;rw[BZ e];rfl
@[simp] theorem Mq (ns:List Bool):boolsOf (ns.map ab.bool)=some ns:=by
 induction ns with
 | nil=>rfl
 | cons n ns ih=>rw[bo,boolsOf,ih];rfl
noncomputable def Fe:B4->AI ab
 | [.list ds]=>match intsOf ds with
  | some ns=>.ok (.int ns.sum)
  | none=>.bad
 | _=>.bad
noncomputable def XX:B4->AI ab
 | [.list ds]=>match boolsOf ds with
  | some bs=>.ok (.bool (bs.all id))
  | none=>.bad
 | _=>.bad
theorem aA.acT:∀{ns:B3}{vs:C0},aA K A (ns.map ab.int) vs->vs=ns.map V.int
 | [],vs,h=>by rwa [ft,aA.nil] at h
 | n::ns,vs,h=>by
  rw[bo,aA.cons] at h;obtain ⟨v,r,rfl,h1,h2⟩:=h;rw[Rp.int.mp h1,h2.acT];rfl
theorem aA.Zh:∀{ns:List Bool}{vs:C0},aA K A (ns.map ab.bool) vs->vs=ns.map V.bl
 | [],vs,h=>by rwa [ft,aA.nil] at h
 | n::ns,vs,h=>by
  rw[bo,aA.cons] at h;obtain ⟨v,r,rfl,h1,h2⟩:=h;rw[Rp.bool.mp h1,h2.Zh];rfl
theorem Hd:∀{ns:B3}{us:B8},AL (ns.map V.int) us->wm us ns
 | [],_,.nil=>.nil
 | n::ns,_,.cons r t=>by
  obtain ⟨tk,rfl⟩:=r;exact .cons n tk (Hd t)
theorem Cq:∀{ns:List Bool}{us:B8},AL (ns.map V.bl) us->us=ns.map a8.bool
 | [],_,.nil=>rfl
 | n::ns,_,.cons r t=>by
  rw[r,Cq t];rfl
theorem K7(hc:X.calm=true):fM X (.builtin "sum") (rC X.K Fe):=by
 rintro AD s σ H xs us Q I r ⟨A,ds,d,e,ha,p,k⟩
 match ds,e with
 | [.list es],e=>
  have e':(match intsOf es with | some ns=>AI.ok (ab.int ns.sum) | none=>.bad)= .ok d:=e
  cases hn:intsOf es with
  | none=>rw[hn] at e';cases e'
  | some ns=>
   rw[hn] at e';cases e';obtain rfl:=Hj hn;obtain ⟨v,r',rfl,p1,p2⟩:=p.cons;obtain rfl:=p2.nil;obtain ⟨l,vs,rfl,h1,q1⟩:=p1.list ha;obtain rfl:=q1.acT;obtain ⟨u,rfl,rx⟩:=AL.one r;cases rx;obtain ⟨AG,rv,pl,hz⟩:=I.list h1;have hi:=Hd rv;have hall:=hi.allInts;obtain ⟨ys,ey⟩:=hall.items;have e2:=nums_intItems ys;refine sum_intListG (I.ok.hd hc) (by rw[<- ey];exact pl.isList) λh' tk t' hk=>?_;have e3:numsOf (intItems ys).toList=ns:=by
    rw[<- ey];exact hi.numsOf
   rw[e2] at e3;rw[preSum_eq,h9 (by simp),e3];exact ⟨.int ns.sum,H,I.kept hk,⟨t',rfl⟩,k _ A H (aX.refl ha) (Rp.int.mpr rfl)⟩
theorem Mj{A:iS}{bs:List Bool}:TruthOf P w A (λi v=>(bs.map a8.bool).toArray[i]?=some v) (λi=>bs.getD i false):=by
 intro i v s Q E hP hQ;have hP':(bs.map a8.bool)[i]?=some v:=by simpa using hP
 rw[br] at hP'
 cases e:bs[i]? with
 | none=>rw[e] at hP';cases hP'
 | some b=>
  rw[e] at hP';cases hP';have hQ':Q (bs.getD i false) s:=hQ;rw[ae,e] at hQ';exact jv hQ'
theorem all_range(bs:List Bool):((List.range bs.length).all λi=>bs.getD i false)=bs.all id:=by
 rw[qc,fb,fb];refine ⟨λh b hb=>?_,λh i hi=>?_⟩
 . obtain ⟨i,hi,rfl⟩:=List.getElem_of_mem hb;have:=h i (dn.mpr hi);rwa [ae,ai hi] at this
 . have hi':=dn.mp hi;rw[ae,ai hi'];exact h _ (fE hi')
theorem acU(hc:X.calm=true):fM X (.builtin "all") (rC X.K XX):=by
 rintro AD s σ H xs us Q I r ⟨A,ds,d,e,ha,p,k⟩
 match ds,e with
 | [.list es],e=>
  have e':(match boolsOf es with | some ns=>AI.ok (ab.bool (ns.all id)) | none=>.bad)= .ok d:=e
  cases hn:boolsOf es with
  | none=>rw[hn] at e';cases e'
  | some bs=>
   rw[hn] at e';cases e';obtain rfl:=BZ hn;obtain ⟨v,r',rfl,p1,p2⟩:=p.cons;obtain rfl:=p2.nil;obtain ⟨l,vs,rfl,h1,q1⟩:=p1.list ha;obtain rfl:=q1.Zh;obtain ⟨u,rfl,rx⟩:=AL.one r;cases rx;obtain ⟨AG,rv,pl,hz⟩:=I.list h1;obtain rfl:=Cq rv;have hlt:=pl.lt;refine call_all_walk (w9 pl.isList ⟨_,_,_,_,_,_,λi=>bs.getD i false,rfl,Walks.list (A:=X.A.in1) (I.ok.hd hc) s.heap.objs.size l (fh hlt) (bs.map a8.bool).toArray,⟨⟨_,c6 _ rfl,rfl,rfl⟩,pl.isList.push _⟩,Mj,λh' tk hk=>?_⟩);have e4:(bs.map a8.bool).toArray.size=bs.length:=by simp
   rw[e4,all_range];exact ⟨.bl _,H,I.kept λb o q=>hk b o (λz=>absurd (ay.mp z) (fh (cy q))) (aI _ q),rfl,k _ A H (aX.refl ha) (Rp.bool.mpr rfl)⟩
theorem Rz{a:Addr}{ns:B3}{f:B4->AI ab}{fg:Fl}{E:XK}(hm:f [.list (ns.map ab.int)]= .ok (.bool true))(hS:SqL K H a (ns.map V.int)):spF K [fg] .f f [.ref a] H (λv _=>v= .bl true) E:=by
 refine ⟨H,[.list (ns.map ab.int)],.bool true,aG.refl _,⟨_,_,_,_,rfl,rfl,?_,rfl,rfl⟩,hm,λv A' H' g p=>(Rp.bool (K:=K) (A:=A')).mp p⟩;have q:=Rp.list.mpr ⟨a,_,rfl,hS,aA.ints⟩
 cases fg with
 | AO=>exact q
 | AN=>exact .inl q
 | own=>exact .inl q
 | fix p0=>exact .inl q
 | exc C=>exact .inl q
 | nst b=>exact .inl q
 | kit=>exact .inl q
section
variable   {A:iS}
local macro_rules | `(tactic| walk_at "up_eq")=>`(tactic| (refine congrArg (_ >>= ·) (funext fun _=>?_);refine congrArg (_ >>= ·) (funext fun c=>?_);obtain ⟨r,m⟩:=c;cases r <;> rfl))
end
noncomputable def insI(x:Int):B3->B3
 | []=>[x]
 | y::ys=>if x<=y then x::y::ys else y::insI x ys
noncomputable def srt:B3->B3
 | []=>[]
 | x::xs=>insI x (srt xs)
theorem insI_perm(x:Int):∀ys:B3,(insI x ys).Perm (x::ys)
 | []=>.refl _
 | y::ys=>by
  unfold insI
  by_cases h:x<=y
  . rw[if_pos h]
  . rw[if_neg h];exact ((insI_perm x ys).cons y).trans (.swap ..)
theorem BP:∀xs:B3,(srt xs).Perm xs
 | []=>.refl _
 | x::xs=>(insI_perm x (srt xs)).trans ((BP xs).cons x)
theorem Aj(x:Int):∀{ys:B3},ys.Pairwise (· <= ·)->(insI x ys).Pairwise (· <= ·)
 | [],_=>List.pairwise_singleton _ _
 | y::ys,h=>by
  unfold insI;have hy:=(qq.mp h)
  by_cases hxy:x<=y
  . rw[if_pos hxy];refine qq.mpr ⟨λz hz=>?_,h⟩;rcases cp.mp hz with rfl | hz
    . exact hxy
    . exact AB hxy (hy.1 z hz)
  . rw[if_neg hxy];refine qq.mpr ⟨λz hz=>?_,Aj x hy.2⟩;rcases cp.mp ((insI_perm x ys).mem_iff.mp hz) with rfl | hz
    . lia
    . exact hy.1 z hz
theorem Cg:∀xs:B3,(srt xs).Pairwise (· <= ·)
 | []=>.nil
 | x::xs=>Aj x (Cg xs)
open Classical in
noncomputable def eqR(h:Heap)(x:ab)(y:a8):Bool:=if q:∃d as,Reads h y d as/\d.canLay0=true then fI (xD q) x else false
variable {h:Heap}
theorem U9{x d:ab}{y:a8}{as:C2}(r:Reads h y d as)(hd:d.canLay0=true):eqR h x y=fI d x:=by
 unfold eqR;have q:∃d as,Reads h y d as/\d.canLay0=true:=⟨d,as,r,hd⟩;rw[dif_pos q];obtain ⟨as',r',c'⟩:=Classical.choose_spec q;rw[(PySem.Reads.unique r' d as r).1]
theorem anyR{x:ab}:∀{us:B8}{ds:B4}{as:C2},ReadsAll h us ds as->iF ds=true->us.any (eqR h x)=ds.any λd=>fI d x
 | _,_,_,.nil,_=>rfl
 | _,_,_,.cons r rs,c=>by
  rw[iF,dS] at c;rw[kC,kC,U9 r c.1,anyR rs c.2]
theorem ad8:∀{us:B8}{ds:B4}{as:C2}{u:a8},ReadsAll h us ds as->u∈us->∃d as,d∈ds/\Reads h u d as
 | _,_,_,u,.nil,m=>nomatch m
 | _,_,_,u,.cons r rs,m=>by
  rcases cp.mp m with rfl | m
  . exact ⟨_,_,b9,r⟩
  . obtain ⟨d',as,h1,h2⟩:=ad8 rs m;exact ⟨d',as,cf _ h1,h2⟩
noncomputable def inB(a:ab)(ds:B4):Bool:=ds.any λy=>fI y a
noncomputable def inX:ab->ab->AI ab
 | a,.list ds=>gd (eI a=true/\ds.all eI=true) (.ok (.bool (inB a ds)))
 | a,.tuple ds=>gd (eI a=true/\ds.all eI=true) (.ok (.bool (inB a ds)))
 | _,_=>.bad
noncomputable def TJ:ab->ab->AI ab
 | a,.list ds=>gd (eI a=true/\ds.all eI=true) (.ok (.bool (!inB a ds)))
 | a,.tuple ds=>gd (eI a=true/\ds.all eI=true) (.ok (.bool (!inB a ds)))
 | _,_=>.bad
theorem Ef:∀{ds:B4},ds.all eI=true->iF ds=true
 | [],_=>by rw[iF]
 | d::ds,h=>by
  rw[sP,dS] at h;rw[iF,mf h.1,Ef h.2];rfl
theorem Jk{d:ab}(h:eI d=true):d.depth<=64:=by
 unfold eI at h;rw[dS] at h;exact of_decide_eq_true h.2
variable {AD:A7}
theorem Dy{d1:ab}{x:V}{v:a8}{AG:B8}(hu:X.A.units+66<ke)(I:AJ X AD σ H s)(rx:AK x v)(ha:aG A H)
 (p1:Pk X.K A H d1 x) (f1:eI d1=true) (f2:ds.all eI=true) (q2:aA X.K A ds vs) (r:AL vs AG) :
 (∀y,y∈AG.toArray->SeqAt.EqAt X.A.in1 s y v (eqR s.heap d1 y))/\AG.toArray.any (eqR s.heap d1)=inB d1 ds:=by
 obtain ⟨as,r1⟩:=Is.reads I d1 (p1.is ha f1) rx;obtain ⟨bs,r2⟩:=eZ.reads I ds (eZ.mono ha ds (aA.is ds (Ef f2) q2)) r;refine ⟨λy hy=>?_,by rw[List.any_toArray,anyR r2 (Ef f2)];rfl⟩;obtain ⟨d,cs,hd,ry⟩:=ad8 r2 (by simpa using hy);have hs:=fb.mp f2 d hd;rw[U9 ry (mf hs)];refine SeqAt.eqAt_reads d d1 X.A.in1 s y v cs as ry r1 (mf hs) (mf f1) ?_;have:=Jk hs;have e:X.A.in1.units=X.A.units+1:=rfl;have:=Nat.min_le_left d.depth d1.depth;lia
theorem UG(hu:X.A.units+66<ke):OpR X (fw .In) (rD X.K inX):=by
 rintro AD s σ H x y v u Q I rx ry ⟨A,d1,d2,d,e,ha,p1,p2,k⟩
 cases d2 with
 | list ds=>
  obtain ⟨⟨f1,f2⟩,e⟩:=cu e;have e':=AI.ok.inj e;subst e';obtain ⟨l,vs,rfl,h1,q2⟩:=p2.list ha;cases ry;obtain ⟨AG,r,pl,hz⟩:=I.list h1;obtain ⟨w1,w2⟩:=Dy hu I rx ha p1 f1 f2 q2 r;refine SeqAt.in_listAt (eqR s.heap d1) pl.isList w1 ?_;rw[w2];exact ⟨.bl _,H,I,rfl,k _ A H (aX.refl ha) (Rp.bool.mpr rfl)⟩
 | tuple ds=>
  obtain ⟨⟨f1,f2⟩,e⟩:=cu e;have e':=AI.ok.inj e;subst e';obtain ⟨l,vs,rfl,h1,q2⟩:=p2.tuple ha;cases ry;obtain ⟨AG,r,pl,hz⟩:=I.tuple h1;obtain ⟨w1,w2⟩:=Dy hu I rx ha p1 f1 f2 q2 r;refine SeqAt.in_tupleAt (eqR s.heap d1) (pl) w1 ?_;rw[w2];exact ⟨.bl _,H,I,rfl,k _ A H (aX.refl ha) (Rp.bool.mpr rfl)⟩
 | _=>cases e
theorem GC(hu:X.A.units+66<ke):OpR X (fw .NotIn) (rD X.K TJ):=by
 rintro AD s σ H x y v u Q I rx ry ⟨A,d1,d2,d,e,ha,p1,p2,k⟩
 cases d2 with
 | list ds=>
  obtain ⟨⟨f1,f2⟩,e⟩:=cu e;have e':=AI.ok.inj e;subst e';obtain ⟨l,vs,rfl,h1,q2⟩:=p2.list ha;cases ry;obtain ⟨AG,r,pl,hz⟩:=I.list h1;obtain ⟨w1,w2⟩:=Dy hu I rx ha p1 f1 f2 q2 r;refine SeqAt.notIn_listAt (eqR s.heap d1) pl.isList w1 ?_;rw[w2];exact ⟨.bl _,H,I,rfl,k _ A H (aX.refl ha) (Rp.bool.mpr rfl)⟩
 | tuple ds=>
  obtain ⟨⟨f1,f2⟩,e⟩:=cu e;have e':=AI.ok.inj e;subst e';obtain ⟨l,vs,rfl,h1,q2⟩:=p2.tuple ha;cases ry;obtain ⟨AG,r,pl,hz⟩:=I.tuple h1;obtain ⟨w1,w2⟩:=Dy hu I rx ha p1 f1 f2 q2 r;refine SeqAt.notIn_tupleAt (eqR s.heap d1) (pl) w1 ?_;rw[w2];exact ⟨.bl _,H,I,rfl,k _ A H (aX.refl ha) (Rp.bool.mpr rfl)⟩
 | _=>cases e
theorem _root_.Zq.dz.cY{A:iS}(r:dz i A):A.units+66<ke:=by have:=r.un;lia
noncomputable def cR(key:Key):B0->Option ab
 | []=>none
 | (k,d)::r=>if bO k=some key then some d else cR key r
noncomputable def oE(key:Key):B0->Bool
 | []=>false
 | (k,_)::r=>if bO k=some key then true else oE key r
noncomputable def uM(key:Key)(x:ab):B0->B0
 | []=>[]
 | (k,d)::r=>(if bO k=some key then (k,x) else (k,d))::uM key x r
noncomputable def gU(kd:ab)(key:Key)(x:ab)(AE:B0):B0:=if oE key AE=true then uM key x AE else AE++[(kd,x)]
theorem mY{k:ab}{key key':Key}(h:bO k=some key'):bO k=some key↔key'=key:=by rw[h];simp
variable {kd:ab}{AE:B0}{u:A8}
section
variable   {key:Key}
theorem bw.look:∀{AE:B0}{u:A8},bw K A AE u->(∀d,cR key AE=some d->∃v,gY u key=some v/\Rp K A d v)/\(cR key AE=none->gY u key=none)
 | [],u,h=>by
  rw[bw.nil] at h;subst h;exact ⟨λd e=>(nomatch e),λ_=>rfl⟩
 | (k,d)::r,u,h=>by
  obtain ⟨key',v,u',rfl,hk,hd,hr⟩:=bw.cons.mp h;unfold cR
  by_cases e:bO k=some key
  . have e':=(mY hk).mp e;rw[if_pos e];exact ⟨λd' z=>by cases z;exact ⟨v,oO e',hd⟩,λz=>(nomatch z)⟩
  . have e':=λz=>e ((mY hk).mpr z);rw[if_neg e,oG e'];exact bw.look hr
theorem bw.has:∀{AE:B0}{u:A8},bw K A AE u->(u.any λkv=>decide (kv.1=key))=oE key AE
 | [],u,h=>by rw[bw.nil] at h;subst h;rfl
 | (k,d)::r,u,h=>by
  obtain ⟨key',v,u',rfl,hk,hd,hr⟩:=bw.cons.mp h;rw[oE,kC,bw.has hr]
  by_cases e:bO k=some key
  . rw[if_pos e,decide_eq_true ((mY hk).mp e)];rfl
  . rw[if_neg e,decide_eq_false λz=>e ((mY hk).mpr z)];rfl
theorem bw.set{w:V}(hx:Rp K A kd w):∀{AE:B0}{u:A8},bw K A AE u->bw K A (uM key kd AE) (u.map λkv=>if kv.1=key then (kv.1,w) else kv)
 | [],u,h=>by rw[bw.nil] at h;subst h;exact bw.nil.mpr rfl
 | (k,d)::r,u,h=>by
  obtain ⟨key',v,u',rfl,hk,hd,hr⟩:=bw.cons.mp h;rw[uM,bo]
  by_cases e:bO k=some key
  . rw[if_pos e,if_pos ((mY hk).mp e)];exact bw.cons.mpr ⟨key',w,_,rfl,hk,hx,bw.set hx hr⟩
  . rw[if_neg e,if_neg λz=>e ((mY hk).mpr z)];exact bw.cons.mpr ⟨key',v,_,rfl,hk,hd,bw.set hx hr⟩
theorem bw.snoc{x:ab}{w:V}(hk:bO kd=some key)(hx:Rp K A x w):∀{AE:B0}{u:A8},bw K A AE u->bw K A (AE++[(kd,x)]) (u++[(key,w)])
 | [],u,h=>by rw[bw.nil] at h;subst h;exact bw.cons.mpr ⟨key,w,[],rfl,hk,hx,bw.nil.mpr rfl⟩
 | (k,d)::r,u,h=>by
  obtain ⟨key',v,u',rfl,hk',hd,hr⟩:=bw.cons.mp h;exact bw.cons.mpr ⟨key',v,_,rfl,hk',hd,bw.snoc hk hx hr⟩
theorem bw.put{x:ab}(hk:bO kd=some key)(hx:Rp K A x v)(h:bw K A AE u):bw K A (gU kd key x AE) (putK u key v):=by
 unfold gU putK;rw[h.has]
 by_cases e:oE key AE=true
 . rw[if_pos e,if_pos e];exact h.set hx
 . rw[if_neg e,if_neg e];exact h.snoc hk hx
theorem bw.length:∀{AE:B0}{u:A8},bw K A AE u->AE.length=u.length
 | [],u,h=>by rw[bw.nil] at h;subst h;rfl
 | (k,d)::r,u,h=>by
  obtain ⟨key',v,u',rfl,_,_,hr⟩:=bw.cons.mp h;rw[a9,a9,bw.length hr]
end
noncomputable def inY:ab->ab->AI ab
 | a,.dict AE=>match bO a with
  | some key=>.ok (.bool (cR key AE).isSome)
  | none=>.bad
 | a,b=>inX a b
noncomputable def lV:ab->ab->AI ab
 | a,.dict AE=>match bO a with
  | some key=>.ok (.bool (!(cR key AE).isSome))
  | none=>.bad
 | a,b=>TJ a b
theorem Pk.key{key:Key}(p:Pk K A H kd v)(h:bO kd=some key):v=kV key:=by
 cases kd with
 | int i=>cases h;exact p.int
 | str x=>cases h;exact p.str
 | _=>cases h
theorem bw.some{key:Key}(h:bw K A AE u):(gY u key).isSome=(cR key AE).isSome:=by
 have:=h.look (key:=key)
 cases e:cR key AE with
 | none=>rw[this.2 e];rfl
 | some d=>obtain ⟨v,e1,_⟩:=this.1 d e;rw[e1];rfl
theorem SJ(hu:X.A.units+66<ke):OpR X (fw .In) (rD X.K inY):=by
 rintro AD s σ H x y v u Q I rx ry ⟨A,d1,d2,d,e,ha,p1,p2,k⟩
 cases d2 with
 | dict AE=>
  have e:(match bO d1 with | some key=>AI.ok (ab.bool (cR key AE).isSome) | none=>.bad)= .ok d:=e
  cases hk:bO d1 with
  | none=>rw[hk] at e;cases e
  | some key=>
   rw[hk] at e;cases e;obtain ⟨l,w,rfl,h1,h2⟩:=p2.dict ha;cases ry;rw[p1.key hk] at rx;exact agc (by lia) I ((i7 ⟨_,key,h1,rfl,rfl⟩)) rx λs' I'=>⟨.bl _,H,I',rfl,k _ A H (aX.refl ha) (Rp.bool.mpr (by rw[h2.some]))⟩
 | list ds=>exact UG hu AD s σ H x y v u Q I rx ry ⟨A,d1,.list ds,d,e,ha,p1,p2,k⟩
 | tuple ds=>exact UG hu AD s σ H x y v u Q I rx ry ⟨A,d1,.tuple ds,d,e,ha,p1,p2,k⟩
 | _=>cases e
theorem pY(hu:X.A.units+66<ke):OpR X (fw .NotIn) (rD X.K lV):=by
 rintro AD s σ H x y v u Q I rx ry ⟨A,d1,d2,d,e,ha,p1,p2,k⟩
 cases d2 with
 | dict AE=>
  have e:(match bO d1 with | some key=>AI.ok (ab.bool (!(cR key AE).isSome)) | none=>.bad)= .ok d:=e
  cases hk:bO d1 with
  | none=>rw[hk] at e;cases e
  | some key=>
   rw[hk] at e;cases e;obtain ⟨l,w,rfl,h1,h2⟩:=p2.dict ha;cases ry;rw[p1.key hk] at rx;exact aaJ (by lia) I ((i7 ⟨_,key,h1,rfl,rfl⟩)) rx λs' I'=>⟨.bl _,H,I',rfl,k _ A H (aX.refl ha) (Rp.bool.mpr (by rw[h2.some]))⟩
 | list ds=>exact GC hu AD s σ H x y v u Q I rx ry ⟨A,d1,.list ds,d,e,ha,p1,p2,k⟩
 | tuple ds=>exact GC hu AD s σ H x y v u Q I rx ry ⟨A,d1,.tuple ds,d,e,ha,p1,p2,k⟩
 | _=>cases e
noncomputable def je(i:Nat)(mk mv:ME):MS:=λΓ=>(mv Γ).bind λx=>(mk Γ).bind λkd=>match gv Γ i with
 | some (.dict AE)=>match bO kd with
  | some key=>gd (AE.length<bE/\i < Γ.length) (.ok (.nx (Γ.set i (some (.dict (gU kd key x AE))))))
  | none=>.bad
 | _=>.bad
section
variable      {p:Pos}
theorem wV(r:aZ K A B H O σ Γ)(hi:isO (fl O i)=true)(he:gv Γ i=some (.dict AE)):∃q u,sv σ i=some (.ref q)/\H q=some (.dK u)/\bw K A AE u:=by
 obtain ⟨d,q,o,e1,e2,h1,h2,h3,⟨ds',vs,rfl,rfl,h4⟩ | ⟨AE,u,rfl,rfl,h4⟩⟩:=r.nu hi (by rw[he];simp)
 . rw[he] at e1;cases e1
 . rw[he] at e1;cases e1;exact ⟨q,u,e2,h1,h4⟩
theorem Rp.key{key:Key}(p:Rp K A kd v)(h:bO kd=some key):v=kV key:=Pk.key (H:=A) (.inl p) h
theorem rF(i:Nat)(hu:X.A.units+66<ke)(ha:QE X a (tE X.K O m))(he:QE X e (tE X.K O m'))(hi:isO (fl O i)=true:=by rfl)(nm:Nm X i x:=by walk_at "nm")(hs:ip e (some (.Subscript (.Name x pos') a tpos)) pos.line X.env=pure false:=by rfl) :
 QS X (.Assign [.Subscript (.Name x pos') a tpos] e pos) (tS X.K rm Ol O O (je i m m')):=by
 refine QS.imp (Pg (by lia) (dM nm.1 nm.2 nm.3 nm.4) ha.h he.h hs) λD σ H az=>?_;obtain ⟨A,B,Γ,o,r,em,k⟩:=az;obtain ⟨d,e1,em⟩:=AI.au em;obtain ⟨kd,e2,em⟩:=AI.au em
 cases hg:gv Γ i with
 | none=>rw[hg] at em;cases em
 | some dl=>
  rw[hg] at em
  cases dl with
  | dict AE=>
   have em':=em
   cases hk:bO kd with
   | none=>rw[hk] at em';cases em'
   | some key=>
    rw[hk] at em';obtain ⟨⟨hz,hlt⟩,em'⟩:=cu em';cases em';obtain ⟨q,u,e3,h2,h4⟩:=wV r hi hg;refine ⟨A,B,Γ,d,r,e1,λv A1 H1 g1 p1=>⟨.ref q,dO e3,A1,B,Γ,_,r.grow g1,e2,λw A2 H2 g2 p2=>?_⟩⟩;have gg:=g1.trans g2;refine ⟨q,_,rfl,by rw[Rp.key p2 hk];exact Ey.k (gg.hh _ _ h2) (by rw[<- h4.length];exact hz),?_⟩;exact k σ A2 _ ((r.grow gg).change hi hlt (by rw[hg];simp) e3 (gg.hh _ _ h2) (.inr ⟨_,_,rfl,rfl,bw.put hk (Rp.mono g2.aa _ p1) (bw.mono gg.aa _ h4)⟩)) gg.aa (gg.nB r.b)
  | _=>cases em
end
noncomputable def ixY:ab->ab->AI ab
 | .dict AE,a=>match bO a with
  | some key=>match cR key AE with
   | some d=>.ok d
   | none=>.bad
  | none=>.bad
 | a,b=>AQ a b
theorem aaV:IxR X (λx y H Q=>∃a v,x= .ref a/\Jd H a y (some v)/\X.A.units+1<ke/\Q v H):=by
 intro value slice AD s σ H x y v u Q I rx ry h hs;obtain ⟨a,w,rfl,g,hu,q⟩:=h;cases rx;have hT:=Mg I g;refine ag ?_;rw[mN hT.not_modules];refine ag (kP hT kR.lookup ?_);have fin:eh (eJ X.prog X.w) X.A (oC slice false (.ref a) u) (λr s₃=>eh (eJ X.prog X.w) X.A (rS value (.ref a) r >>= λ_=>pure r) (EP X AD σ Q) X.xe s₃) X.xe s:=by
  rw[hs];exact qa (hZ (Ut hu I g ry λw' s' I' rw'=>(⟨w,H,I',rw',q⟩:EP X AD σ Q w' s')) (λr s₃ h₃=>ag (nr (bt h₃))) λ_ _ x=>x)
 first
  | exact bt (ag fin)
  | exact ag (bt (ag fin))
  | exact ag fin
theorem ad1(hu:X.A.units+66<ke):IxR X (rD X.K ixY):=by
 intro value slice AD s σ H x y v u Q I rx ry hq hs;obtain ⟨A,d1,d2,d,e,ha,p1,p2,k⟩:=hq
 cases d1 with
 | dict AE=>
  have e:(match bO d2 with | some key=>(match cR key AE with | some d=>AI.ok d | none=>.bad) | none=>.bad)= .ok d:=e
  cases hk:bO d2 with
  | none=>rw[hk] at e;cases e
  | some key=>
   rw[hk] at e;have e:(match cR key AE with | some d=>AI.ok d | none=>.bad)= .ok d:=e
   cases hl:cR key AE with
   | none=>rw[hl] at e;cases e
   | some d0=>
    rw[hl] at e;cases e;obtain ⟨l,w,rfl,h1,h2⟩:=p1.dict ha;obtain ⟨v0,ev,rv⟩:=(h2.look).1 d hl;refine aaV value slice AD s σ H _ y v u Q I rx ry ⟨l,v0,rfl,?_,by lia,k _ A H (aX.refl ha) rv⟩ hs;rw[p2.key hk,<- ev];exact (.inl ⟨_,_,h1,rfl,rfl⟩)
 | list ds=>exact HS value slice AD s σ H x y v u Q I rx ry ⟨A,.list ds,d2,d,e,ha,p1,p2,k⟩ hs
 | tuple ds=>exact HS value slice AD s σ H x y v u Q I rx ry ⟨A,.tuple ds,d2,d,e,ha,p1,p2,k⟩ hs
 | str ds=>exact HS value slice AD s σ H x y v u Q I rx ry ⟨A,.str ds,d2,d,e,ha,p1,p2,k⟩ hs
 | _=>cases e
theorem pO(hu:X.A.units+66<ke)(ha:QE X a (tP X.K O m1))(hb:QE X b (tP X.K O m2))(hs:lF b):QE X (.Subscript a b pos) (tE X.K O (ao ixY m1 m2)):=QE.imp (Du (ad1 hu) ha.h hb.h hs) λ_ _ _=>yE
theorem Mx:fM X (.type "range") (λxs H Q=>∃n,xs=[.int n]/\∀p,H p=none->Q (.ref p) (AM H p (.rng 0 n))):=by
 rintro AD s σ H xs us Q I r ⟨n,rfl,q⟩;obtain ⟨z,rfl,t,rfl⟩:=vals1 r;refine call_range_1 ⟨.ref s.heap.objs.size,_,I.laid (o:=.rng 0 n) (λb o e=>aI _ e) (aE _) ⟨_,_,_,c6 _ rfl⟩,rfl,q _ (I.AR.fresh (aE _))⟩
theorem QK(hc:X.calm=true):fM X (.type "list") (λxs H Q=>∃p n,xs=[.ref p]/\H p=some (.rng 0 n)/\(-(2^20)<=n/\n<=2^20)/\∀l,H l=none->Q (.ref l) (AM H l (.lst ((List.range n.toNat).map λi=>V.int (i:Nat))))):=by
 rintro AD s σ H xs us Q I r ⟨p,n,rfl,he,hn,q⟩;obtain ⟨z,rfl,rx⟩:=vals1 r;cases rx;obtain ⟨t,u,v,eo⟩:=(I.AR p _ he);refine call_list_range (n:=n.toNat) (I.ok.hd hc) (eo) (small_one (by decide) (by decide) (by lia) (by lia)) (by rw[rangeSize_one];split <;> lia) (by lia) λh' tk AF c hk hS hacc=>⟨.ref s.heap.objs.size,_,I.laid (o:=.lst ((List.range n.toNat).map λi=>V.int (i:Nat))) hk (aE _) ⟨?_,AF.toList,c,?_,by simpa using hS⟩,rfl,q _ (I.AR.fresh (aE _))⟩
 . rw[af,c9,PySem.sizeLine_eq];lia
 . have hv:∀(m:Nat) vs,vs.length=m->(∀(j:Nat) v,vs[j]?=some v->∃t,v=a8.int (0+j*1) t)->∀k:Nat,(∀(j:Nat) v,vs[j]?=some v->∃t,v=a8.int (0+j*1) t)->AL ((List.range m).map λi=>V.int (i:Nat)) vs:=by
    intro m
    induction m with
    | zero=>intro vs h _ _ _;rw[ly.mp h];exact .nil
    | succ m ih=>
     intro vs hl g k _;rw[lT,a7];obtain ⟨ws,x,rfl⟩:∃ws x,vs=ws++[x]:=⟨vs.dropLast,vs.getLast (by intro z;rw[z] at hl;cases hl),(uu _).symm⟩;have hl':=by simpa using hl
     refine AL.append (ih ws hl' (λj v e=>g j v (by rw[cq (aS.mp e).1];exact e)) 0 λj v e=>g j v (by rw[cq (aS.mp e).1];exact e)) (.cons ?_ .nil);obtain ⟨t,e⟩:=g m x (by rw[bX (by lia)];simp[hl']);exact ⟨t,by rw[e];congr 1;lia⟩
   have g:=λj v e=>hacc.2 j v (by rw[<- sm];exact e);exact hv n.toNat AF.toList (by rw[l6];exact hacc.1) g 0 g
noncomputable def lrD:ab->AI ab
 | .int n=>gd (-(2^20)<=n/\n<=2^20) (.ok (.list ((List.range n.toNat).map λi=>ab.int (i:Nat))))
 | _=>.bad
theorem aA.range{K:aw}{A:Hp}:aA K A ((List.range j).map λi=>ab.int (i:Nat)) ((List.range j).map λi=>V.int (i:Nat)):=by
 have:=aA.ints (K:=K) (A:=A) (ns:=(List.range j).map λi=>((i:Nat):Int));rwa [de,de] at this
theorem G6(hc:X.calm=true)(hgl:Gl X "list")(hml:X.mg "list"= none)(hvl:fm "list"= some (.type "list"))(hgr:Gl X "range")(hmr:X.mg "range"= none)(hvr:fm "range"= some (.type "range"))(he:QE X e (tP X.K O m))
 (hst:AV e=true:=by rfl):QE X (.Call (.Name "list" pos') [.Call (.Name "range" tpos) [e] [] apos] [] pos) (tF X.K O (eUn lrD m)):=by
 refine QE.imp (t8 (QK hc) hgl hml hvl (bY (t8 Mx hgr hmr hvr (bY he.h eQ (cU hst)) (by decide) (by decide) (cU hst) (jA rfl)) eQ)) λσ H Q az=>?_;obtain ⟨A,B,Γ,d,r,em,k⟩:=az;obtain ⟨d1,e1,em⟩:=AI.au em
 cases d1 with
 | int n=>
  obtain ⟨hn,em⟩:=cu em;cases em;refine ⟨A,B,Γ,_,r,e1,λv A1 H1 g1 p1=>⟨n,by rw[p1.int],λq hq=>⟨q,n,rfl,aY,hn,λl hl=>?_⟩⟩⟩;have hq1:H1 l=none:=by
   by_cases z:l=q
   . subst z;rw[aY] at hl;cases hl
   . rwa [aH z] at hl
  have g2:=aX.lay (o:=HO.rng 0 n) g1.ah hq;have g3:=aX.lay (o:=HO.lst ((List.range n.toNat).map λi=>V.int (i:Nat))) g2.ah hl;exact k _ A1 _ (g1.trans (g2.trans g3)) ⟨l,_,rfl,g1.hh.free hq1,aY,g2.ah.free hl,.inl ⟨_,_,rfl,rfl,aA.range⟩⟩
 | _=>cases em
noncomputable def rem(H:Hp)(p:Addr):Hp:=λb=>if b=p then none else H b
theorem Jl:rem H p p=none:=if_pos rfl
theorem pZ{b:Addr}(h:b≠p):rem H p b=H b:=if_neg h
theorem abn:aG (rem H p) H:=λb o e=>by
 by_cases h:b=p
 . subst h;rw[Jl] at e;cases e
 . rwa [pZ h] at e
theorem nZ(s:aG B H)(hp:B p=none):aG B (rem H p):=λb o e=>by
 have h:b≠p:=λz=>by rw[z,hp] at e;cases e
 rw[pZ h];exact s b o e
theorem Zb(h:gv Γ i≠none):i < Γ.length:=by
 rcases gu i Γ.length with z | z
 . exact z
 . exact absurd (by rw[gv,ae,fk z];rfl) h
theorem aZ.ael(r:aZ K A B H O σ Γ)(hi:isO (fl O i)=true)(he:gv Γ i≠none)(hs:sv σ i=some (.ref p))(sa:aG A A')(ah:aG A' H')(hk:∀b u,b≠p->H b=some u->H' b=some u)(nw:New A A' H)
 (ap:A' p=none) (hp:H' p=some o) (ho:iY K A' kd o):aZ K A' B H' O σ (Γ.set i (some kd)):=by
 obtain ⟨d,p',o0,e1,e2,g1,g2,g3,g4⟩:=r.nu hi he;rw[hs] at e2;cases e2;have hl:=Zb he;refine ⟨ah,λb u q=>?_,by rw[fy];exact r.len,λj=>?_,λj k hjk q1 q2 q3 q4=>?_⟩
 . have hb:b≠p:=λz=>by rw[z,g3] at q;cases q
   exact hk b u hb (r.b b u q)
 . by_cases hj:i=j
   . subst hj;rw[gv,bK hl];intro d'' e;cases e;refine ⟨_,hs,?_⟩
     cases hf:fl O i with
     | AO=>rw[hf] at hi;cases hi
     | AN=>rw[hf] at hi;cases hi
     | own=>exact ⟨p,o,rfl,hp,ap,g3,ho⟩
     | fix p0=>
      obtain ⟨v',ev,q⟩:=r.slot i d e1;rw[hf] at q;rw[hs] at ev;cases ev;exact ⟨q.1,p,o,rfl,hp,ap,g3,ho⟩
     | exc C=>rw[hf] at hi;cases hi
     | nst b=>rw[hf] at hi;cases hi
     | kit=>rw[hf] at hi;cases hi
   . rw[gv,aU hj];intro d'' e'';obtain ⟨v',ev,q⟩:=r.slot j d'' e'';refine ⟨v',ev,?_⟩;have hne:isO (fl O j)=true->∀p',v'= .ref p'->p'≠p:=λhf p' ez z=>by
      refine r.sep i j hj hi hf he (by rw[gv,e''];simp) ?_;rw[hs,ev,ez,z]
     cases hf:fl O j with
     | AO=>rw[hf] at q;exact Rp.mono sa d'' q
     | AN=>rw[hf] at q;exact Pk.mono sa (aG.refl _) q
     | own=>
      rw[hf] at q;obtain ⟨p',o,rfl,u1,u2,u3,u4⟩:=q;exact ⟨p',o,rfl,hk _ _ (hne (by rw[hf];rfl) p' rfl) u1,nw p' u2 (by rw[u1];simp),u3,u4.mono sa⟩
     | fix p0=>
      rw[hf] at q;obtain ⟨q0,p',o,rfl,u1,u2,u3,u4⟩:=q;exact ⟨q0,p',o,rfl,hk _ _ (hne (by rw[hf];rfl) p' rfl) u1,nw p' u2 (by rw[u1];simp),u3,u4.mono sa⟩
     | kit=>rw[hf] at q;exact p7.mono sa q
     | exc C=>
      rw[hf] at q;obtain ⟨p',ob,w1,w2,w3⟩:=q;exact ⟨p',ob,w1,sa _ _ w2,w3⟩
     | nst b=>
      rw[hf] at q;intro z;obtain ⟨p',xs,AE,w1,w2,w3,w4,w5,w6⟩:=q z;have hn:p'≠p:=λz=>by subst z;rw[g1] at w3;exact g4.nx w3
      exact ⟨p',xs,AE,w1,w2,hk _ _ hn w3,nw p' w4 (by rw[w3];simp),w5,w6.mono sa⟩
 . have h3:gv Γ j≠none:=by
    by_cases hj:i=j
    . subst hj;exact he
    . unfold gv at q3 ⊢;rwa [aU hj] at q3
   have h4':gv Γ k≠none:=by
    by_cases hk:i=k
    . subst hk;exact he
    . unfold gv at q4 ⊢;rwa [aU hk] at q4
   exact r.sep j k hjk q1 q2 h3 h4'
inductive MA where
 | AO | AN | var (i:Nat) | new
def PQ(K:aw)(A B:Hp)(σ:St)(Γ:Ev)(H0 H:Hp):MA->ab->V->Prop
 | .AO,d,v=>Rp K A d v
 | .AN,d,v=>Pk K A B d v
 | .var i,d,v=>sv σ i=some v/\gv Γ i=some d
 | .new,d,v=>∃p o,v= .ref p/\H0 p=none/\H p=some o/\A p=none/\iY K A d o
def o4(K:aw)(A B:Hp)(σ:St)(Γ:Ev)(H0 H:Hp):List MA->B4->C0->Prop
 | [],ds,vs=>ds=[]/\vs=[]
 | a::as,ds,vs=>∃d r v s,ds=d::r/\vs=v::s/\PQ K A B σ Γ H0 H a d v/\o4 K A B σ Γ H0 H as r s
section
variable  {H0:Hp}
theorem o4.base(s:aG H0 H):∀{as:List MA}{ds:B4}{vs:C0},o4 K A B σ Γ H H' as ds vs->o4 K A B σ Γ H0 H' as ds vs
 | [],ds,vs,h=>h
 | a::as,ds,vs,h=>by
  obtain ⟨d,r,v,t,rfl,rfl,h1,h2⟩:=h;refine ⟨d,r,v,t,rfl,rfl,?_,o4.base s h2⟩
  cases a with
  | new=>obtain ⟨p,o,e,h0,q⟩:=h1;exact ⟨p,o,e,s.free h0,q⟩
  | AO=>exact h1
  | AN=>exact h1
  | var i=>exact h1
theorem o4.len:∀{as:List MA}{ds:B4}{vs:C0},o4 K A B σ Γ H0 H as ds vs->ds.length=as.length/\vs.length=as.length
 | [],ds,vs,h=>by obtain ⟨rfl,rfl⟩:=h;exact ⟨rfl,rfl⟩
 | a::as,ds,vs,h=>by
  obtain ⟨d,r,v,t,rfl,rfl,_,h2⟩:=h;have:=h2.len;exact ⟨by rw[a9,a9,this.1],by rw[a9,a9,this.2]⟩
theorem o4.get:∀{as:List MA}{ds:B4}{vs:C0}{i:Nat}{d:ab}{v:V}{a:MA},o4 K A B σ Γ H0 H as ds vs->as[i]?=some a->ds[i]?=some d->vs[i]?=some v->PQ K A B σ Γ H0 H a d v
 | [],ds,vs,i,d,v,a,h,ea,ed,ev=>by simp at ea
 | b::as,ds,vs,i,d,v,a,h,ea,ed,ev=>by
  obtain ⟨d0,r,v0,t,rfl,rfl,h1,h2⟩:=h
  match i with
  | 0=>simp at ea ed ev;subst ea;subst ed;subst ev;exact h1
  | i+1=>exact h2.get (by simpa using ea) (by simpa using ed) (by simpa using ev)
end
def tAm(K:aw)(O:B9)(as:List MA)(ms:List ME):TA:=λσ H Q=>∃A B Γ ds,aZ K A B H O σ Γ/\evs ms Γ = .ok ds/\∀vs A' H',aX A H A' H'->o4 K A' B σ Γ H H' as ds vs->Q vs H'
section
variable      {as:List MA}
theorem jL:QA X [] (tAm K O [] []):=QA.imp eQ λσ H Q az=>by
 obtain ⟨A,B,Γ,ds,r,em,k⟩:=az;cases em;exact k [] A H (aX.refl r.a) ⟨rfl,rfl⟩
theorem pQ(ha:QE X e (tE K O m))(hr:QA X es (tAm K O as ms))(hs:AV e=true:=by rfl):QA X (e::es) (tAm K O (.AO::as) (m::ms)):=QA.imp (bY ha.h hr.h (cU hs)) λσ H Q az=>by
 obtain ⟨A,B,Γ,ds,r,em,k⟩:=az;obtain ⟨d,e1,em⟩:=AI.au em;obtain ⟨ds',e2,em⟩:=AI.au em;cases em;exact ⟨A,B,Γ,d,r,e1,λv A1 H1 g1 p1=>⟨A1,B,Γ,ds',r.grow g1,e2,λvs A2 H2 g2 p2=>k (v::vs) A2 H2 (g1.trans g2) ⟨d,ds',v,vs,rfl,rfl,Rp.mono g2.aa d p1,p2.base g1.hh⟩⟩⟩
theorem d7(ha:QE X e (tQ K O m))(hr:QA X es (tAm K O as ms))(hs:AV e=true:=by rfl):QA X (e::es) (tAm K O (.AN::as) (m::ms)):=QA.imp (bY ha.h hr.h (cU hs)) λσ H Q az=>by
 obtain ⟨A,B,Γ,ds,r,em,k⟩:=az;obtain ⟨d,e1,em⟩:=AI.au em;obtain ⟨ds',e2,em⟩:=AI.au em;cases em;exact ⟨A,B,Γ,d,r,e1,λv A1 H1 g1 p1=>⟨A1,B,Γ,ds',r.grow g1,e2,λvs A2 H2 g2 p2=>k (v::vs) A2 H2 (g1.trans g2) ⟨d,ds',v,vs,rfl,rfl,Pk.mono g2.aa (aG.refl _) p1,p2.base g1.hh⟩⟩⟩
theorem jM(i:Nat)(hr:QA X es (tAm K O as ms))(nm:Nm X i x:=by walk_at "nm"):QA X (.Name x pos::es) (tAm K O (.var i::as) (aj i::ms)):=QA.imp (bY (dM nm.1 nm.2 nm.3 nm.4) hr.h (cU rfl)) λσ H Q az=>by
 obtain ⟨A,B,Γ,ds,r,em,k⟩:=az;obtain ⟨d,e1,em⟩:=AI.au em;obtain ⟨ds',e2,em⟩:=AI.au em;cases em;obtain ⟨v,e3,_⟩:=r.slot i d (q8 e1);exact ⟨v,dO e3,A,B,Γ,ds',r,e2,λvs A2 H2 g2 p2=>k (v::vs) A2 H2 g2 ⟨d,ds',v,vs,rfl,rfl,⟨e3,q8 e1⟩,p2⟩⟩
end
def spM(K:aw)(fs:B9)(j:Nat)(f:B4->AI ab):Sp:=λvs H Q _=>∃A B ds d dm p o,aG A H/\aG B H/\vs.length=fs.length/\ds.length=fs.length/\vs[j]?=some (.ref p)/\H p=some o/\A p=none/\B p=none /\
 (∀e,ds[j]?=some e->iY K A e o)/\(∀(i:Nat) e v,i≠j->ds[i]?=some e->vs[i]?=some v->Be K A B (fl fs i) e v)/\f ds= .ok (.tuple [d,dm]) /\
 ∀v A' H' o',aG A A'->aG A' H'->(∀b u,b≠p->H b=some u->H' b=some u)->New A A' H->A' p=none->H' p=some o'->iY K A' dm o'->Rp K A' d v->Q v H'
noncomputable def kOk:MA->Fl->Bool
 | .AO,.AO=>true
 | .AO,.AN=>true
 | .AN,.AN=>true
 | _,_=>false
theorem PQ.afR{a:MA}{f:Fl}(h:PQ K A B σ Γ A' H a kd v)(hk:kOk a f=true):Be K A B f kd v:=by
 cases a <;> cases f <;> first | exact h | exact .inl h | cases hk
noncomputable def nY:ab->Option (ab×ab)
 | .tuple [d,dm]=>some (d,dm)
 | _=>none
def tM(K:aw)(O:B9)(i:Nat)(f:B4->AI ab)(ms:List ME):TE:=λσ H Q=>∃A B Γ ds d dm,aZ K A B H O σ Γ/\evs ms Γ = .ok ds/\f ds= .ok (.tuple [d,dm]) /\
 ∀v A' H',aZ K A' B H' O σ (Γ.set i (some dm))->aG A A'->New A A' B->Rp K A' d v->Q v H'
section
variable  {k:Nat}   {fs:B9}  {f:B4->AI ab}  {as:List MA}  {p:Pos}
theorem iG(i:Nat)(F:Def X.prog X.w X.K X.mg X.base k x ps (spM X.K fs j f))(hr:dz k X.A)(hg:Gl X x)(ha:QA X (e::es) (tAm X.K O as ms))(hj:as[j]?=some (.var i))(hi:isO (fl O i)=true)(hlen:as.length=fs.length)(hfs:∀l,l<fs.length->l≠j->kOk (as.getD l .new) (fl fs l)=true)
 (hdb:nD x:=by decide) (he:AV e=true:=by rfl) (hpl:jh es=true:=by rfl):QE X (.Call (.Name x p) (e::es) [] pos) (tM X.K O i f ms):=
 QE.imp (Cw F hr hg ha.h hdb (cU he) (jA hpl)) λσ H Q az=>by
  obtain ⟨A,B,Γ,ds,d,dm,r,e1,e2,k⟩:=az;refine ⟨A,B,Γ,ds,r,e1,λvs A1 H1 g1 p1=>?_⟩;show spM X.K fs j f (vs++[]) H1 Q E0;rw[dr];have hl:=p1.len;have r1:=r.grow g1;have hjl:=(aS.mp hj).1;have hdj:ds[j]?=some ds[j]:=ai (by lia);have hvj:vs[j]?=some vs[j]:=ai (by lia);obtain ⟨hs,hg'⟩:sv σ i=some vs[j]/\gv Γ i=some ds[j]:=p1.get hj hdj hvj;have hgn:gv Γ i≠none:=by rw[hg'];simp
  obtain ⟨d',p',o,u1,u2,u3,u4,u5,u6⟩:=r1.nu hi hgn;rw[hs] at u2;rw[hg'] at u1;have u1:=Option.some.inj u1;have u2:=Option.some.inj u2;refine ⟨A1,B,ds,d,dm,p',o,g1.ah,r1.b,by lia,by lia,by rw[hvj,u2],u3,u4,u5,λz hz=>?_,λl z v hlj hz hv=>?_,e2,λv A2 H2 o2 s1 s2 s3 s4 s5 s6 s7 s8=>?_⟩
  . rw[hdj] at hz;rw[<- Option.some.inj hz,u1];exact u6
  . have hll:l<as.length:=by have:=(aS.mp hz).1;lia
    have ea:as[l]?=some (as.getD l .new):=by rw[ae,ai hll];rfl
    exact (p1.get ea hz hv).afR (hfs l (by lia) hlj)
  . exact k v A2 H2 (r1.ael hi hgn (by rw[hs,u2]) s1 s2 s3 s4 s5 s6 s7) (g1.aa.trans s1) ((g1.nB r.b).trans (s4.mono r1.b)) s8
end
noncomputable def Cj(x i:Nat)(f:B4->AI ab)(ms:List ME):MS:=λΓ=>(evs ms Γ).bind λds=>(f ds).bind λr=>match nY r with
 | some (d,dm)=>gd (x < Γ.length) (.ok (.nx ((Γ.set i (some dm)).set x (some d))))
 | none=>.bad
theorem zT{d dm:ab}(h:nY kd=some (d,dm)):kd= .tuple [d,dm]:=by
 unfold nY at h;split at h
 . cases h;rfl
 . cases h
section
variable     {f:B4->AI ab}
theorem Fd(x i:Nat){y:Str}(hN:X.N.Nodup)(hi:X.N[x]?=some y)(hx:Loc X.env.scope y)(he:QE X e (tM K O i f ms))(hl:x<O.length)(hs:ip e (some (.Name y pos')) pos.line X.env=pure false:=by rfl)
 (hf:X.fn y=true\/X.env.scope.names.lookup y=some .local:=by walk_at "hf") (hO:O.set x .AO=O2:=by rfl):QS X (.Assign [.Name y pos'] e pos) (tS K rm Ol O O2 (Cj x i f ms)):=
 hO ▸ QS.imp (Cm hN hi hx he.h hs hf) λD σ H az=>by
  obtain ⟨A,B,Γ,o,r,em,k⟩:=az;obtain ⟨ds,e1,em⟩:=AI.au em;obtain ⟨t,e2,em⟩:=AI.au em
  cases h:nY t with
  | none=>rw[h] at em;cases em
  | some q=>
   obtain ⟨d,dm⟩:=q;rw[h] at em;obtain ⟨hxl,em⟩:=cu em;cases em;rw[zT h] at e2;exact ⟨A,B,Γ,ds,d,dm,r,e1,e2,λv A' H' r' sa nw p=>k _ A' H' (r'.set (by rw[fy];exact hxl) hl p) sa nw⟩
noncomputable def Im(k i:Nat)(f:B4->AI ab)(ms:List ME):MS:=λΓ=>(evs ms Γ).bind λds=>(f ds).bind λr=>match nY r,gv Γ k with
 | some (d,dm),some (.list es)=>gd (es.length<bE) (.ok (.nx ((Γ.set i (some dm)).set k (some (.list (es++[d]))))))
 | _,_=>.bad
theorem Pa(i j:Nat)(hij:j≠i)(he:QE X e (tM X.K O j f ms))(hi:isO (fl O i)=true:=by rfl)(nm:Nm X i x:=by walk_at "nm")(hbase:nE (.Name x pos') "append" X.env (eval (.Name x pos') X.env)=eval (.Name x pos') X.env:=by rfl)
 (hfew:((nS cpos (d6 (e::[]) X.env)).all (λx=>!x.1)&&(zi cpos (tf [] X.env)).all (λx=>x.1.isSome)
  && decide ((e::[]).length+([]:List rl).length+(if ([]:List rl).isEmpty then 0 else 1)<30))=true:=by rfl)
 (hline:(apos.endLine == cpos.line)=true:=by rfl) (hs:d6 (e::[]) X.env=(false,eval e X.env)::d6 [] X.env:=by rfl) (hplain:(nS cpos (d6 [] X.env)).any (·.1)=false:=by rfl)
 (hsw:ip (.Call (.Attribute (.Name x pos') "append" apos) [e] [] cpos) none pos.line X.env=pure false:=by rfl) :
 QS X (.Expr (.Call (.Attribute (.Name x pos') "append" apos) [e] [] cpos) pos) (tS X.K rm Ol O O (Im i j f ms)):=by
 refine QS.imp (qX (Ij n0 rq xk yw (dM nm.1 nm.2 nm.3 nm.4) (bY he.h eQ hs) hbase hfew hline hs hplain) hsw) λD σ H az=>?_;obtain ⟨A,B,Γ,o,r,em,k⟩:=az;obtain ⟨ds,e1,em⟩:=AI.au em;obtain ⟨t,e2,em⟩:=AI.au em
 cases h:nY t with
 | none=>rw[h] at em;cases em
 | some q=>
  obtain ⟨d,dm⟩:=q;rw[h] at em;rw[zT h] at e2
  cases hg:gv Γ i with
  | none=>rw[hg] at em;cases em
  | some dl=>
   rw[hg] at em
   cases dl with
   | list es=>
    obtain ⟨hc,em⟩:=cu em;cases em;obtain ⟨q,vs,e3,h1,h4⟩:=sV r hi hg;have hgi:gv (Γ.set j (some dm)) i=some (.list es):=by
     have:=hg;unfold gv at this ⊢;rw[aU hij];exact this
    refine ⟨.ref q,dO e3,.inl ⟨rfl,vs,SqL.of h1⟩,A,B,Γ,ds,d,dm,r,e1,e2,λv A1 H1 r1 sa nw p1=>?_⟩;obtain ⟨q',vs',e4,h5,h6⟩:=sV r1 hi hgi;rw[e3] at e4;cases e4;refine ⟨q,vs',v,rfl,rfl,h5,by rw[<- h6.length];exact hc,?_⟩;exact k σ A1 _ (r1.change hi (Zb (by rw[hgi];simp)) (by rw[hgi];simp) e3 h5 (.inl ⟨_,_,rfl,rfl,h6.append (aA.one p1)⟩)) sa nw
   | _=>cases em
noncomputable def Dd(j:Nat)(m:ME):MS:=λΓ=>(m Γ).bind λd=>match gv Γ j with
 | some dm=>.ok (.rt (.tuple [d,dm]))
 | none=>.bad
theorem FT(j:Nat)(hj:fl O j= .fix p)(he:QE X e (tE K O m)):QS X (.Return (some e) pos) (tS K (.m p) Ol O O' (Dd j m)):=QS.imp (yq he.h) λD σ H az=>by
 obtain ⟨A,B,Γ,o,r,em,k⟩:=az;obtain ⟨d1,e1,em⟩:=AI.au em
 cases hg:gv Γ j with
 | none=>rw[hg] at em;cases em
 | some dm=>
  rw[hg] at em;cases em;refine ⟨A,B,Γ,d1,r,e1,λv A' H' g q=>k v A' H' g.ah (r.b.trans g.hh) g.aa (g.nB r.b) ?_⟩;obtain ⟨v',_,s⟩:=(r.grow g).slot j dm hg;rw[hj] at s;obtain ⟨rfl,p',o',e',h1,h2,_,h4⟩:=s;cases e';exact ⟨d1,dm,o',rfl,q,h1,h2,h4⟩
theorem CJ:ph O O cl=true:=by
 rw[ph,dS];exact ⟨beq_self_eq_true _,fb.mpr λj _=>by rw[decide_eq_true rfl];rfl⟩
end
section
variable     {base:Heap}
theorem v9(ha:aG A H)(hb:aG B H)(hv:vs.length=Ol.length)(hd:ds.length=Ol.length)(hj:vs[j]?=some (.ref p))(hp:H p=some o)(ap:A p=none)(bp:B p=none)
 (hown:∀e,ds[j]?=some e->iY K A e o) (hargs:∀(i:Nat) e v,i≠j->ds[i]?=some e->vs[i]?=some v->Be K A B (fl Ol i) e v) (hOj:fl O j= .fix p) (hO:∀i,i<Ol.length->i≠j->(fl O i= .AO/\fl Ol i= .AO)\/fl O i= .AN) (hn:Ol.length<=N.length) :
 aZ K A (rem H p) H O (Zq.start N vs) (ds.map some++ax (N.length - ds.length) none):=by
 have gvN:∀i,gv (ds.map some++ax (N.length - ds.length) none) i=ds[i]?:=λi=>by
  rw[gv,ae];rcases gu i ds.length with h | h
  . rw[cq (by simpa using h),br,ai h];rfl
  . rw[bX (by simpa using h),iO,fk h];split <;> rfl
 have svN:∀i v,vs[i]?=some v->sv (Zq.start N vs) i=some v:=λi v e=>by
  unfold sv Zq.start;rw[ae];have h:=(aS.mp e).1;rw[cq (by simpa using h),br,e];rfl
 have isj:∀i,i<Ol.length->isO (fl O i)=true->i=j:=λi hi h=>by
  rcases Classical.em (i=j) with z | z
  . exact z
  . rcases hO i hi z with ⟨q,_⟩ | q <;> rw[q] at h <;> cases h
 refine ⟨ha,abn,?_,λi d e=>?_,λi l hil h1 h2 h3 h4=>?_⟩
 . rw[Zq.start,av,av,af,af,ck,ck];lia
 . rw[gvN] at e;have hi:i<Ol.length:=by rw[<- hd];exact (aS.mp e).1
   by_cases z:i=j
   . subst z;exact ⟨_,svN i _ hj,by rw[hOj];exact ⟨rfl,p,o,rfl,hp,ap,Jl,hown d e⟩⟩
   . have ev:vs[i]?=some vs[i]:=ai (by lia);refine ⟨_,svN i _ ev,?_⟩;have q:=hargs i d _ z e ev;rcases hO i hi z with ⟨z1,z2⟩ | z1
     . rw[z1];rwa [z2] at q
     . rw[z1]
       cases hf:fl Ol i with
       | AO=>rw[hf] at q;exact .inl q
       | AN=>rw[hf] at q;exact Pk.mono (aG.refl _) (nZ hb bp) q
       | own=>rw[hf] at q;exact Pk.mono (aG.refl _) (nZ hb bp) q
       | fix p0=>rw[hf] at q;exact Pk.mono (aG.refl _) (nZ hb bp) q
       | exc C=>rw[hf] at q;exact Pk.mono (aG.refl _) (nZ hb bp) q
       | nst b=>rw[hf] at q;exact Pk.mono (aG.refl _) (nZ hb bp) q
       | kit=>rw[hf] at q;exact Pk.mono (aG.refl _) (nZ hb bp) q
 . rw[gvN] at h3 h4;have hi:i<Ol.length:=by
    rw[<- hd];rcases gu i ds.length with h | h
    . exact h
    . exact absurd (fk h) h3
   have hl:l<Ol.length:=by
    rw[<- hd];rcases gu l ds.length with h | h
    . exact h
    . exact absurd (fk h) h4
   exact absurd ((isj i hi h1).trans (isj l hl h2).symm) hil
theorem Ep{st:Stmt}{k:Nat}{fs:B9}{O O':Addr->B9}{m:MS}(F:At K mg x st ps)(S:cP N ps (aN st))(hf:fs.length=ps.length)(hn:ps.length<=N.length)
 (hOj:∀p,fl (O p) j= .fix p) (hO:∀p i,i<fs.length->i≠j->(fl (O p) i= .AO/\fl fs i= .AO)\/fl (O p) i= .AN)
 (hbody:∀(p:Addr) (f:Addr) (AH:a8) (A:iS) (AX:C6) (s:dc) (H:Hp) (E:XK),dz k (A.deeper (oz x (aN st) s.heap.objs.size f AH)) ->
  QSs (mF CX0 P w K mg base N x (aN st) f AH A AX s H E).nox (bV st) (tS K (.m p) Ol (O p) (O' p) m)):Def P w K mg base (k+1) x ps (spM K fs j (fnR N.length m)):=by
 refine F.ok S (λvs H Q E h=>?_) (λf AH A AX s H vs Q E hr h=>?_)
 . obtain ⟨_,_,_,_,_,_,_,_,_,h,_⟩:=h;rw[h,hf]
 . obtain ⟨A',B,ds,d,dm,p,o,ha,hb,hv,hd,hj,hp,ap,bp,hown,hargs,em,q⟩:=h;obtain ⟨out,e1,em⟩:=AI.au em
   cases out with
   | rt d'=>
    cases em;refine ⟨_,(hbody p f AH A AX s H E hr).h,A',rem H p,_,_,v9 ha hb hv hd hj hp ap bp hown hargs (hOj p) (hO p) (by lia),e1,λv A2 H2 s1 s2 sa nw rv=>?_⟩;obtain ⟨d1,dm1,o1,ed,r1,r2,r3,r4⟩:=rv;cases ed;refine q v A2 H2 o1 sa s1 (λb u hbp hu=>s2 b u (by rw[pZ hbp];exact hu)) (λb q1 q2=>?_) r3 r2 r4 r1
    by_cases z:b=p
    . subst z;exact r3
    . exact nw b q1 (by rw[pZ z];exact q2)
   | _=>cases em
theorem Wg{st:Stmt}{k:Nat}(F:At K mg x st ps)(S:cP N ps (aN st)):Def P w K mg base (k+1) x ps (spM K O j (λ_=>.bad)):=by
 refine F.ok S (λvs H Q E h=>?_) (λf AH A AX s H vs Q E hr h=>?_)
 . obtain ⟨_,_,_,_,_,_,_,_,_,_,_,_,_,_,_,_,_,em,_⟩:=h;cases em
 . obtain ⟨_,_,_,_,_,_,_,_,_,_,_,_,_,_,_,_,_,em,_⟩:=h;cases em
end
abbrev MZ:=Ev->AI Str
variable {l:Addr}
section
open Builtin Builtin.Str
def Y0(h:Heap)(a l:Addr)(i:Int):Prop:=∃o,h.get? a=some o/\o.cls= .type "reversed" /\ o.data= .fields #[.ref l,sF i]
theorem Y0.typeIs{i:Int}(x:Y0 s.heap p l i):s.TypeIs (.ref p) "reversed" := let ⟨o,ho,hc,_⟩:=x;⟨o,ho,hc⟩
end
noncomputable def RB(lo c:Int)(n:Nat):It:=⟨λi _=>i<n,λi H x H'=>H'=H/\x= .int (lo+i*c),λi _=>n<=i⟩
theorem MF(it:Addr)(lo c:Int)(n:Nat):Turn P w K tg (RB lo c n) [it] it (λi h=>IsRangeIter h it (lo+(i:Nat)*c) ((n:Int) - (i:Nat)) c) where
 mem:=by simp
 obj:=λi h st b hb=>by
  have e:=by simpa using hb
  subst e;exact ⟨_,st,λv z=>by
   have z':=z;cases z'⟩
 keep:=λi h h' st k=>k it (by simp) _ st
 item:=by
  intro X hP hw hK hc i AD s σ H E I hf st hg;subst hP hw hK;obtain ⟨f0,f1,f2,f3,f4,f5⟩:=hf it (by simp);have W:=Walks.range (prog:=X.prog) (w:=X.w) (I.ok.hd hc) it lo c n;refine W.item i s _ _ hg st λv h' tk hv st' kk=>?_;obtain ⟨t,rfl⟩:=hv;have I1:AJ X AD σ H { s with heap:=h',toks:=tk }:=I.turned (λb o hb e=>kk b o (by simpa using hb) e) f0 f1 f3 f4 f5;refine ⟨_,rfl,zy st' rfl rfl (by decide) ⟨.int (lo+i*c),H,I1,⟨t,rfl⟩,⟨rfl,rfl⟩,st',λb hb=>(hf b hb).1⟩⟩
 done:=by
  intro X hP hw hK hc i AD s σ H E I hf st hg;subst hP hw hK;obtain ⟨f0,f1,f2,f3,f4,f5⟩:=hf it (by simp);exact wpAny_pyNext_range_end (I.ok.hd hc) st (by have:n<=i:=hg;lia) λh' eb=>⟨rfl,I.turned (λb o hb e=>eb b o hb e) f0 f1 f3 f4 f5⟩
 self:=λ_ _ _ _ _ st h=>wpAny_pyIter_rangeiter st h
theorem SQ{R:It->Hp->Prop}{lo hi c:Int}{t u v:Tok}(I:AJ X AD σ H s)(hs:Builtin.Range.small lo hi c=true)(h0:0<=dA lo hi c)
 (q:R (RB lo c (dA lo hi c).toNat) H):eh (eJ X.prog X.w) X.A (pyIter (.ref s.heap.objs.size)) (PIE X AD σ tg R) E { s with heap:=s.heap.push { cls:=.type "range",data:=.fields #[.int lo t,.int hi u,.int c v] },toks:=i }:=by
 refine wpAny_pyIter_range (IsRange.new ..) hs ?_;have I1:AJ X AD σ H { s with heap:=s.heap.push { cls:=.type "range",data:=.fields #[.int lo t,.int hi u,.int c v] },toks:=i }:=I.kept λb o e=>aI _ e;refine ⟨(s.heap.push { cls:=.type "range",data:=.fields #[.int lo t,.int hi u,.int c v] }).objs.size,[(s.heap.push { cls:=.type "range",data:=.fields #[.int lo t,.int hi u,.int c v] }).objs.size],_,_,H,rfl,
  I1.kept λb o e=>aI _ e,MF _ lo c (dA lo hi c).toNat,?_,λb hb=>?_,q⟩
 . have e1:lo+((0:Nat):Int)*c=lo:=by simp
   have e2:(((dA lo hi c).toNat:Nat):Int) - ((0:Nat):Int)=dA lo hi c:=by lia
   rw[e1,e2];exact c6 _ rfl
 . have e:b=(s.heap.push { cls:=.type "range",data:=.fields #[.int lo t,.int hi u,.int c v] }).objs.size:=by simpa using hb
   subst e;exact I1.rT (aE _) (I1.AR.fresh (aE _))
def aeO(ta:TA):TI:=λσ H R=>ta σ H λvs H1=>∃i j c:Int,vs=[.int i,.int j,.int c]/\(c≠0/\c.natAbs<1073741824/\Builtin.Range.small i j c=true/\0<=dA i j c)/\R (RB i c (dA i j c).toNat) H1
theorem Gp{ta:TA}(hg:Gl X "range")(hm:X.mg "range"= none)(ha:PA X [a,b,c] ta)(hs:d6 [a,b,c] X.env=[(false,eval a X.env),(false,eval b X.env),(false,eval c X.env)]:=by rfl)(hs2:d6 [b,c] X.env=[(false,eval b X.env),(false,eval c X.env)]:=by rfl) :
 PI X tg (.Call (.Name "range" pos') [a,b,c] [] pos) (aeO ta):=by
 intro AD s σ H R I h;refine Call_ (nH I hg hm boot_range (iE (thn (ha pos AD s σ H _ I h) λus s1 az=>?_) (by rw[hs,hs2]) (by rw[hs2];rfl)));obtain ⟨vs,H1,I1,r1,q1⟩:=az;obtain ⟨i,j,k,e,⟨q0,q1,q2,q3⟩,q⟩:=q1;subst e
 cases r1 with
 | cons r rr=>
  cases rr with
  | cons r' rr=>
   cases rr with
   | cons r'' rr=>
    cases rr;obtain ⟨t,rfl⟩:=r;obtain ⟨t',rfl⟩:=r';obtain ⟨t'',rfl⟩:=r'';exact call_range_3 q0 (SQ I1 q2 q3 q) (.inl (x9 q1))
section
variable   {m'':ME}  {p:Pos}
theorem Hc(lo c:Int)(n:Nat):tu K A B (RB lo c n) ((List.range n).map λi=>ab.int (lo+(i:Nat)*c)):=by
 have hl:((List.range n).map λi=>ab.int (lo+(i:Nat)*c)).length=n:=by rw[af,c9]
 refine ⟨λi H _ _ hi=>(by rwa [hl] at hi),λH _ _=>(by rw[hl];exact aE _),λi A2 H x H' sa s1 s2 hi y=>?_⟩;obtain ⟨rfl,rfl⟩:=y;rw[hl] at hi;exact ⟨A2,.int (lo+i*c),by rw[br,eP hi];rfl,aX.refl s1,Rp.int.mpr rfl⟩
noncomputable def Gk(d d' d'':ab):AI B4:=match d,d',d'' with
 | .int i,.int j,.int c=>gd (c≠0/\c.natAbs<1073741824/\Builtin.Range.small i j c=true/\0<=dA i j c) (.ok ((List.range (dA i j c).toNat).map λk=>ab.int (i+(k:Nat)*c)))
 | _,_,_=>.bad
noncomputable def Bs(m m' m'':ME):MI:=λΓ=>(m Γ).bind λd=>(m' Γ).bind λd'=>(m'' Γ).bind λd''=>Gk d d' d''
theorem Pq{d' d'':ab}(h:Gk kd d' d''= .ok xs):∃i j c:Int,kd= .int i/\d'= .int j/\d''= .int c/\(c≠0/\c.natAbs<1073741824/\Builtin.Range.small i j c=true/\0<=dA i j c)/\xs=(List.range (dA i j c).toNat).map λk=>ab.int (i+(k:Nat)*c):=by
 unfold Gk at h;split at h
 . obtain ⟨hc,em⟩:=cu h;cases em;exact ⟨_,_,_,rfl,rfl,rfl,hc,rfl⟩
 . cases h
theorem Tw(hg:Gl X "range")(hm:X.mg "range"= none)(ha:QE X a (tP X.K O m))(hb:QE X b (tP X.K O m'))(hc:QE X c (tP X.K O m''))(hs:d6 [a,b,c] X.env=[(false,eval a X.env),(false,eval b X.env),(false,eval c X.env)]:=by rfl)(hs2:d6 [b,c] X.env=[(false,eval b X.env),(false,eval c X.env)]:=by rfl)(hs3:d6 [c] X.env=[(false,eval c X.env)]:=by rfl) :
 QI X tg (.Call (.Name "range" p) [a,b,c] [] pos) (tI X.K O (Bs m m' m'')):=
 QI.imp (Gp hg hm (bY ha.h (bY hb.h (bY hc.h eQ hs3) (by rw[hs2,hs3])) (by rw[hs,hs2])) hs hs2) λσ H R az=>by
  obtain ⟨A,B,Γ,xs,r,em,k⟩:=az;obtain ⟨d,e1,em⟩:=AI.au em;obtain ⟨d',e2,em⟩:=AI.au em;obtain ⟨d'',e3,em⟩:=AI.au em;obtain ⟨i,j,s,rfl,rfl,rfl,hc,rfl⟩:=Pq em;exact ⟨A,B,Γ,_,r,e1,λv A1 H1 g1 p1=>⟨A1,B,Γ,_,r.grow g1,e2,λv' A2 H2 g2 p2=>⟨A2,B,Γ,_,(r.grow g1).grow g2,e3,λv'' A3 H3 g3 p3=>⟨i,j,s,by rw[p1.int,p2.int,p3.int],hc,k _ A3 H3 ((g1.trans g2).trans g3) (Hc i s _)⟩⟩⟩⟩
theorem Ug(hg:Gl X "range")(hm:X.mg "range"= none)(ha:QE X a (tP X.K O m))(hb:QE X b (tP X.K O m'))(hc:QE X c (tP X.K O m''))(hs:d6 [a,b,c] X.env=[(false,eval a X.env),(false,eval b X.env),(false,eval c X.env)]:=by rfl)(hs2:d6 [b,c] X.env=[(false,eval b X.env),(false,eval c X.env)]:=by rfl)(hs3:d6 [c] X.env=[(false,eval c X.env)]:=by rfl) :
 QI X tg (.Call (.Name "range" p) [a,b,c] [] pos) (tIc X.K O (Bs m m' m'')):=
 QI.imp (Gp hg hm (bY ha.h (bY hb.h (bY hc.h eQ hs3) (by rw[hs2,hs3])) (by rw[hs,hs2])) hs hs2) λσ H R az=>by
  obtain ⟨A,B,Γ,xs,r,em,k⟩:=az;obtain ⟨d,e1,em⟩:=AI.au em;obtain ⟨d',e2,em⟩:=AI.au em;obtain ⟨d'',e3,em⟩:=AI.au em;obtain ⟨i,j,s,rfl,rfl,rfl,hc,rfl⟩:=Pq em;exact ⟨A,B,Γ,_,r,e1,λv A1 H1 g1 p1=>⟨A1,B,Γ,_,r.grow g1,e2,λv' A2 H2 g2 p2=>⟨A2,B,Γ,_,(r.grow g1).grow g2,e3,λv'' A3 H3 g3 p3=>⟨i,j,s,by rw[p1.int,p2.int,p3.int],hc,k _ A3 H3 ((g1.trans g2).trans g3) (Hc i s _)⟩⟩⟩⟩
noncomputable def abW:ab->AI ab
 | .int a=>.ok (.int (ib a))
 | _=>.bad
theorem acV(ha:QE X a (tP K O m)):QE X (.UnaryOp .Invert a pos) (tE K O (eUn abW m)):=Zk adF (λA H d1 d x Q e hA p k=>by
 cases d1 with
 | int i=>cases e;exact ⟨i,p.int,k _ A H (aX.refl hA) (Rp.int.mpr rfl)⟩
 | _=>cases e) ha
end
def adh(xs:Array Nat):Prop:=xs.toList.Pairwise (· < ·)
structure TabOk (led:Bool) (t:SetTable):Prop where
 up:adh t.place
 led:t.led=led
noncomputable def agB:a8->Int
 | .int k _=>k
 | _=>0
noncomputable def af7(w:kT):Bool:=!(w.params.followText "set-order")
noncomputable def adU(es:Array (Int×a8))(ep:Nat)(t:SetTable):Obj:={ cls:=.type "set",dict:=none,data:=.set es ep t,slots:=#[] }
structure acW (P:gc) (w:kT) (es:Array (Int×a8)) (t:SetTable) (ks:B3):Prop where
 el:ElemsOf (pT P w) es.toList
 tab:TabOk (af7 w) t
 fit:t.fits es.size=true
 pm:(es.toList.map λe=>agB e.2).Perm ks
def YK(P:gc)(w:kT)(h:Heap)(a:Addr)(ks:B3):Prop:=∃es ep t,h.get? a=some (adU es ep t)/\acW P w es t ks
section
variable   {A:iS}
theorem YK.typeIs{ks:B3}(x:YK P w s.heap p ks):s.TypeIs (.ref p) "set" := by
 obtain ⟨es,ep,t,g,r⟩:=x;exact ⟨_,g,rfl⟩
theorem intAt:∀{vs:B8}{ns:B3},wm vs ns->∀{i:Nat}{v:a8},vs[i]?=some v->∃t,v= .int (ns.getD i 0) t
 | _,_,.nil,i,v,h=>by simp at h
 | _,_,.cons n t r,0,v,h=>⟨t,by rw[<- Option.some.inj h];rfl⟩
 | _,_,.cons n t r,i+1,v,h=>intAt r (by simpa using h)
theorem O4:∀{vs:B8}{ns:B3},wm vs ns->vs.length=ns.length
 | _,_,.nil=>rfl
 | _,_,.cons n t r=>by rw[a9,a9,O4 r]
structure RV (P:gc) (w:kT) (A:iS) (s:dc) (l:Addr) (T:String) (ns:B3):Prop where
 ty:s.TypeIs (.ref l) T
 n1:isSubtype (.type T) (.type "set")=pure false
 n2:isSubtype (.type T) (.type "frozenset")=pure false
 n3:(kD T == kD "dict")=false
 it:∀(s':dc) (Q:B2) (E:B2) (A':iS),A'.handled=none->(∀b o,s.heap.get? b=some o->s'.heap.get? b=some o) ->
  (∀(h':Heap) (fp wr:C2) (Pv:Nat->a8->Prop) (St:Nat->dc->Prop),(∀b o,s'.heap.get? b=some o->h'.get? b=some o)->(∀b∈fp,b=s'.heap.objs.size\/b<s.heap.objs.size)->(∀b∈wr,s'.heap.objs.size<=b) ->
   (∀A2:iS,A2.handled=none->WalksS P w A2 s'.heap.objs.size fp wr (λa b=>b=a) ns.length Pv St)->(∀i v,i<ns.length->Pv i v->∃t,v= .int (ns.getD i 0) t)->St 0 { s' with heap:=h' }->Q (.ref s'.heap.objs.size) { s' with heap:=h' }) ->
  eh (eJ P w) A' (pyIter (.ref l)) Q E s'
theorem RV.tuple{ns:B3}(hl:s.heap.IsTuple l items)(hi:wm items.toList ns):RV P w A s l "tuple" ns where
 ty:=hl.typeIs
 n1:=by rw[isSubtype_type];kernel_rfl
 n2:=by rw[isSubtype_type];kernel_rfl
 n3:=by decide
 it:=λs' Q E A' hh hk hQ=>by
  have hl':s'.heap.IsTuple l items:=by
   obtain ⟨o,ho,r⟩:=hl;exact ⟨o,hk _ _ ho,r⟩
  have hlt:l<s'.heap.objs.size:=by obtain ⟨o,ho,r⟩:=hl';exact cy ho
  have hls:l<s.heap.objs.size:=by obtain ⟨o,ho,r⟩:=hl;exact cy ho
  have en:ns.length=items.size:=by rw[<- O4 hi,l6]
  refine mB hl' (hQ _ [s'.heap.objs.size,l] [s'.heap.objs.size] (λi v=>items[i]?=some v) (λi s2=>s2.heap.IsTupleIter s'.heap.objs.size l i/\s2.heap.IsTuple l items) (λb o e=>aI _ e) (λb hb=>?_) (λb hb=>?_) (λA2 h2=>?_) (λi v _ hv=>?_) ⟨⟨_,c6 _ rfl,rfl,rfl⟩,hl'.push _⟩)
  . rcases cp.mp hb with z | z
    . exact .inl z
    . exact .inr (by rw[ay.mp z];exact hls)
  . rw[ay.mp hb];exact aE _
  . rw[en];exact (Walks.tuple h2 _ l (fh hlt) items).toS
  . exact intAt hi (by rw[sm];exact hv)
theorem Vx{ys:Array a8}{o:Obj}(e:s.heap.get? l=some { cls:=.type "list",dict:=none,data:=.seq items i,slots:=#[] })(e2:s.heap.get? p=some o)(hc:o.cls= .type "list")(hd:o.data= .seq ys j)(hz:items.size+ys.size<=bE)
 (h:Q .none { s with heap:=s.heap.update l (yn (· ++ ys)) }):eh (eJ P w) A (call (.builtin "list.extend") [.ref l,.ref p]) Q E s:=by
 refine gz F.slot_list_extend ⟨_,e,rfl⟩ F.entry_list_extend ?_ (F.args_list_extend_2 _ _);refine ag (wpAny_of_eq rfl ?_);unfold Builtin.List.listExtendWith;refine ag (yk ⟨_,e2,hc⟩ ?_);rw[show (Builtin.List.listSameRef (.ref l) (.ref p)||kD "list" == kD "list" || kD "list" == kD "tuple")=true by simp];unfold Builtin.List.listItems;refine ag (ag (fR e2 hd (bt (ag (ag (fR e rfl (bt ?_)))))));rw[show (!items.isEmpty&&nI (items.size+ys.size))=false by
  rw[show nI (items.size+ys.size)=false from by exact decide_eq_false (by lia)];exact Bool.and_false _]
 refine ag (uS e rfl (bt ⟨_,rfl,h⟩) (by lia) (by rw[Array.size_append];lia))
end
section
variable      {p:Pos}
def Xh(K:aw):V->C0->Hp->VK->Prop:=λx vs H Q=>∃l b xs zs,x= .ref l/\vs=[.ref b]/\H l=some (.lst xs)/\SqL K H b zs/\xs.length+zs.length<=bE/\Q .non (AM H l (.lst (xs++zs)))
theorem Qw:MtM X "list.extend" (Xh X.K):=by
 rintro AD s σ H x vs v us Q I rx rv ⟨l,b,xs,zs,rfl,rfl,hH,hB,hz,q⟩;cases rx;obtain ⟨u,rfl,ru⟩:=rv.one;cases ru;obtain ⟨z,AG,n,r,hl,e⟩:=I.Yq hH;obtain ⟨its2,r2,⟨o2,n2,e2,hc2,_,hd2⟩,z2⟩:=I.list hB;have hl2:=r2.length;refine Vx e e2 hc2 hd2 (by rw[dQ,dQ];lia) (⟨.non,_,I.W4 hH e (by simp) (r.append r2) ?_,rfl,q⟩);rw[av];lia
theorem aaK(i:Nat)(he:QE X e (tE X.K O m))(hi:isO (fl O i)=true:=by rfl)(nm:Nm X i x:=by walk_at "nm")(hbase:nE (.Name x p) "extend" X.env (eval (.Name x p) X.env)=eval (.Name x p) X.env:=by rfl)
 (hfew:((nS cpos (d6 (e::[]) X.env)).all (λx=>!x.1)&&(zi cpos (tf [] X.env)).all (λx=>x.1.isSome)
  && decide ((e::[]).length+([]:List rl).length+(if ([]:List rl).isEmpty then 0 else 1)<30))=true:=by rfl)
 (hline:(apos.endLine == cpos.line)=true:=by rfl) (hs:d6 (e::[]) X.env=(false,eval e X.env)::d6 [] X.env:=by rfl) (hplain:(nS cpos (d6 [] X.env)).any (·.1)=false:=by rfl)
 (hsw:ip (.Call (.Attribute (.Name x p) "extend" apos) [e] [] cpos) none pos.line X.env=pure false:=by rfl) :
 QS X (.Expr (.Call (.Attribute (.Name x p) "extend" apos) [e] [] cpos) pos) (tS X.K rm Ol O O (PK i m)):=by
 refine QS.imp (qX (Ij n0 PySem.F.slot_list_extend PySem.F.type_list_extend Qw (dM nm.1 nm.2 nm.3 nm.4) (bY he.h eQ hs) hbase hfew hline hs hplain) hsw) λD σ H az=>?_;obtain ⟨A,B,Γ,o,r,em,k⟩:=az;obtain ⟨d,e1,em⟩:=AI.au em
 cases hg:gv Γ i with
 | none=>rw[hg] at em;cases em
 | some dl=>
  rw[hg] at em
  cases dl with
  | list ds=>
   cases d with
   | list es=>
    obtain ⟨⟨hc,hlt⟩,em⟩:=cu em;cases em;obtain ⟨q,vs,e2,h1,h4⟩:=sV r hi hg;refine ⟨.ref q,dO e2,.inl ⟨rfl,vs,SqL.of h1⟩,A,B,Γ,_,r,e1,λv A1 H1 g1 p1=>?_⟩;obtain ⟨q2,us,rfl,h5,h6⟩:=Rp.list.mp p1;refine ⟨q,q2,vs,us,rfl,rfl,g1.hh _ _ h1,h5.elim (λz=>.inl (aG.rd g1.ah z)) .inr,by rw[<- h4.length,<- h6.length];exact hc,?_⟩;exact k σ A1 _ ((r.grow g1).change hi hlt (by rw[hg];simp) e2 (g1.hh _ _ h1) (.inl ⟨_,_,rfl,rfl,(aA.mono g1.aa _ h4).append h6⟩)) g1.aa (g1.nB r.b)
   | _=>cases em
  | _=>cases em
end
noncomputable def fnN(n:Nat)(m:MS)(ds:B4):AI ab:=(m (ds.map some++ax (n - ds.length) none)).bind λo=>match o with
 | .rt d=>.ok d
 | .nx _=>.ok .none
 | _=>.bad
section
variable     {base:Heap}
theorem abi{st:Stmt}{fs:B9}{m:MS}(F:At K mg x st ps)(S:cP N ps (aN st))(hf:fs.length=ps.length)(hn:ps.length<=N.length)
 (hO:∀i,i<fs.length->(fl O i= .AO/\fl fs i= .AO)\/fl O i= .AN)
 (hbody:∀(f:Addr) (AH:a8) (A:iS) (AX:C6) (s:dc) (H:Hp) (E:XK),dz j (A.deeper (oz x (aN st) s.heap.objs.size f AH)) ->
  QSs (mF CX0 P w K mg base N x (aN st) f AH A AX s H E).nox (bV st) (tS K .f Ol O O' m)) (hrm:rm= .f):Def P w K mg base (j+1) x ps (spF K fs rm (fnN N.length m)):=by
 subst hrm;refine F.ok S (λvs H Q E h=>?_) (λf AH A AX s H vs Q E hr h=>?_)
 . obtain ⟨A,ds,d,_,h,_⟩:=h;rw[h.length.1,hf]
 . obtain ⟨A',ds,d,ha,h,em,q⟩:=h;obtain ⟨o,e1,em⟩:=AI.au em
   cases o with
   | rt d'=>
    cases em;refine ⟨_,(hbody f AH A AX s H E hr).h,A',H,_,_,pK ha h hO (by lia),e1,λv A2 H2 s1 s2 sa nw rv=>q v A2 H2 ⟨sa,s2,s1,nw⟩ rv⟩
   | nx Γ'=>
    cases em;refine ⟨_,(hbody f AH A AX s H E hr).h,A',H,_,_,pK ha h hO (by lia),e1,λσ2 A2 H2 r2 sa nw=>q .non A2 H2 ⟨sa,r2.b,r2.a,nw⟩ (show Rp K A2 .none .non from Rp.none.mpr rfl)⟩
   | _=>cases em
end
noncomputable def vO(k:Str):List (Str×ab)->Option ab
 | []=>none
 | (x,d)::D=>if k=x then some d else vO k D
inductive lC (K:aw):List ra->List (Str×ab)->Prop
 | nil:lC K [] []
 | cons {e:ra}{x:Str}{t:Tok}{d:ab}{v:V}{es:List ra}{D:List (Str×ab)}:e.key= .str x t->AK v e.val->(∀A,Rp K A d v)->lC K es D->lC K (e::es) ((x,d)::D)
def W3(K:aw)(a:Addr)(D:List (Str×ab)):Prop:=(a == fT)=false/\∃o es ep,K.lookup a=some o/\o.ExactDict/\o.data= .dict es ep/\lC K es.toList D
variable {D:List (Str×ab)}
theorem lC.exact{es:List ra}(h:lC K es D):(es.all λe=>isExactStrKey e.key)=true:=by
 induction h with
 | nil=>rfl
 | cons hk _ _ _ ih=>rw[sP,ih,hk];rfl
theorem lC.find{es:List ra}(h:lC K es D){k:Str}(hd:vO k D=some kd):∃i e v,es.findIdx? (λe=>e.key.isStr k)=some i/\es[i]?=some e/\AK v e.val/\∀A,Rp K A kd v:=by
 induction h with
 | nil=>cases hd
 | @cons e x t d' v es D hk hv hr hrest ih=>
  unfold vO at hd
  by_cases hkx:k=x
  . rw[if_pos hkx] at hd;cases hd;refine ⟨0,e,v,?_,rfl,hv,hr⟩;rw[List.findIdx?_cons,hk];simp[Value.isStr,hkx]
  . rw[if_neg hkx] at hd;obtain ⟨i,e',v',h1,h2,h3,h4⟩:=ih hd;refine ⟨i+1,e',v',?_,by simpa using h2,h3,h4⟩;rw[List.findIdx?_cons,hk];have:(a8.str x t).isStr k=false:=by simp[Value.isStr];exact λz=>hkx z.symm
    rw[this,h1];rfl
def afC(K:aw)(D:List (Str×ab)):R2:=λx y H Q=>∃a k d,x= .ref a/\y= .str k/\W3 K a D/\vO k D=some d/\∀v,(∀A,Rp K A d v)->Q v H
theorem adQ:IxR X (afC X.K D):=by
 intro value slice AD s σ H x y v u Q I rx ry h hs;obtain ⟨a,k,d,rfl,rfl,⟨hsys,o,es,ep,hk,hex,hd,hr⟩,hl,q⟩:=h;cases rx;obtain ⟨tk,rfl⟩:∃tk,u= .str k tk:=ry;have hh:=I.kIn a o hk;have hT:s.TypeIs (.ref a) "dict" := ⟨o,hh,hex.1⟩;obtain ⟨i,e,w,hf,hi,rw',rp⟩:=hr.find hl;have hfa:es.findIdx? (λe=>e.key.isStr k)=some i:=by
  obtain ⟨l⟩:=es;simpa using hf
 have hia:es[i]?=some e:=by
  obtain ⟨l⟩:=es;simpa using hi
 have get:eh (eJ X.prog X.w) X.A.in1 (dictGet a (.str k tk)) (λr s₁=>r=some e.val/\s₁={ s with toks:=s.toks+1 }) X.xe s:=by
  try with_reducible refine mi ?_
  refine ag (wpAny_pyHash_str (ag (KTD.kt_dictFind_strs hh hd (by obtain ⟨l⟩:=es;simpa using hr.exact) ?_)));rw[hfa];refine ag (wpAny_dictEntries hh hd (bt ?_));simp[hia]
 have item:eh (eJ X.prog X.w) X.A (pV (.ref a) (.str k tk)) (EP X AD σ Q) X.xe s:=by
  unfold pV
  try with_reducible refine mi ?_
  refine ag (we hT (by decide) ?_);refine ag (gy hT slot_dict_getitem
   (gz slot_dict_getitem hT entry_dict_getitem ?_ (args_dict_getitem _ _)))
  show eh _ _ (dictGet a (.str k tk) >>= _) _ _ s;refine ag (hZ get (λr s₁ h₁=>?_) λ_ _ x=>x);obtain ⟨rfl,rfl⟩:=h₁;exact bt ⟨e.val,rfl,bt ⟨w,H,I.tok _,rw',q w rp⟩⟩
 refine ag ?_;rw[mN hT.not_modules];refine ag (kP hT kR.lookup ?_);have fin:eh (eJ X.prog X.w) X.A (oC slice false (.ref a) (.str k tk)) (λr s₃=>eh (eJ X.prog X.w) X.A (rS value (.ref a) r >>= λ_=>pure r) (EP X AD σ Q) X.xe s₃) X.xe s:=by
  rw[hs];exact qa (hZ item (λr s₃ h₃=>ag (nr (bt h₃))) λ_ _ x=>x)
 first
  | exact bt (ag fin)
  | exact ag (bt (ag fin))
  | exact ag fin
noncomputable def XN(D:List (Str×ab)):ab->AI ab
 | .str k=>(match vO k D with | some d=>.ok d | none=>.bad)
 | _=>.bad
theorem ZP(hg:Gl X x)(hm:X.mg x=some (.ref l))(T:W3 X.K l D)(hb:QE X b (tP X.K O m))(hs:lF b)(hd:nD x:=by decide):QE X (.Subscript (.Name x pos') b pos) (tE X.K O (eUn (XN D) m)):=
 QE.imp (Du adQ (Od (v:=.ref l) hg hm rfl hd) hb.h hs) λσ H Q az=>by
  obtain ⟨A,B,Γ,d,r,em,k⟩:=az;obtain ⟨d1,e1,em⟩:=AI.au em;refine ⟨A,B,Γ,d1,r,e1,λy A1 H1 g1 p1=>?_⟩
  cases d1 with
  | str z=>
   have em:(match vO z D with | some d=>AI.ok d | none=>.bad)= .ok d:=em
   cases hl:vO z D with
   | none=>rw[hl] at em;cases em
   | some d0=>
    rw[hl] at em;cases em;exact ⟨l,z,d,rfl,p1.str,T,hl,λv hv=>k v A1 H1 g1 (hv A1)⟩
  | _=>cases em
noncomputable def lL(K:aw):Nat->ab->a8->Bool
 | 0,_,_=>false
 | _+1,.int i,.int j _=>i == j
 | _+1,.str x,.str y _=>x == y
 | n+1,.tuple ds,.ref a=>(match K.lookup a with
  | some o=>o.cls == .type "tuple" && (match o.data with
   | .seq AG _=>decide (AG.size<=1000)&&(ds.length == AG.toList.length)&&(ds.zip AG.toList).all λp=>lL K n p.1 p.2
   | _=>false)
  | none=>false)
 | _+1,_,_=>false
theorem Oz(ih:∀d v,lL K i d v=true->∃x,AK x v/\∀A,Rp K A d x):∀(ds:B4) (us:B8),ds.length=us.length->((ds.zip us).all λp=>lL K i p.1 p.2)=true->∃xs,AL xs us/\∀A,aA K A ds xs
 | [],[],_,_=>⟨[],.nil,λ_=>aA.nil.mpr rfl⟩
 | d::ds,u::us,hl,h=>by
  simp only[List.zip_cons_cons,sP,dS] at h;obtain ⟨x,rx,hx⟩:=ih d u h.1;obtain ⟨xs,rs,hxs⟩:=Oz ih ds us (by simpa using hl) h.2;exact ⟨x::xs,.cons rx rs,λA=>aA.cons.mpr ⟨x,xs,rfl,hx A,hxs A⟩⟩
 | [],_::_,hl,_=>by simp at hl
 | _::_,[],hl,_=>by simp at hl
theorem Oj:∀(n:Nat) (d:ab) (v:a8),lL K n d v=true->∃x,AK x v/\∀A,Rp K A d x:=by
 intro n
 induction n with
 | zero=>intro d v h;simp[lL] at h
 | succ n ih=>
  intro d v h;unfold lL at h;split at h
  . rename_i z;cases z
  . rename_i i j t e;have e:=eq_of_beq h;subst e;exact ⟨.int i,⟨_,rfl⟩,λA=>Rp.int.mpr rfl⟩
  . rename_i x y t e;have e:=eq_of_beq h;subst e;exact ⟨.str x,⟨_,rfl⟩,λA=>Rp.str.mpr rfl⟩
  . rename_i m ds a e;cases e;split at h
    . rename_i o ho;simp only[dS] at h;obtain ⟨h1,h⟩:=h;split at h
      . rename_i AG sz hd;simp only[dS,decide_eq_true_eq] at h;obtain ⟨⟨h2,h3⟩,h4⟩:=h;obtain ⟨xs,rs,hxs⟩:=Oz ih ds AG.toList (beq_iff_eq.mp h3) h4;exact ⟨.ref a,rfl,λA=>Rp.tuple.mpr ⟨a,xs,rfl,.inr ⟨o,AG,sz,ho,beq_iff_eq.mp h1,hd,by simp only[sizeLine_eq];lia,rs⟩,hxs A⟩⟩
      . cases h
    . cases h
  . cases h
noncomputable def z8(K:aw):List ra->List (Str×ab)->Bool
 | [],[]=>true
 | e::es,(x,d)::D=>(match e.key with | .str y _=>y == x | _=>false)&&lL K 9 d e.val&&z8 K es D
 | _,_=>false
theorem Kv:∀(es:List ra) (D:List (Str×ab)),z8 K es D=true->lC K es D
 | [],[],_=>.nil
 | e::es,(x,d)::D,h=>by
  simp only[z8,dS] at h;obtain ⟨⟨h1,h2⟩,h3⟩:=h;split at h1
  . rename_i y t hk;have e:=eq_of_beq h1;subst e;obtain ⟨v,rv,hv⟩:=Oj _ _ _ h2;exact .cons hk rv hv (Kv es D h3)
  . cases h1
 | [],_::_,h=>by simp[z8] at h
 | _::_,[],h=>by simp[z8] at h
noncomputable def Jb(K:aw)(a:Addr)(D:List (Str×ab)):Bool:=!(a == fT)&&(match K.lookup a with
 | some o=>o.cls == .type "dict" && o.dict.isNone&&o.slots.isEmpty&&(match o.data with | .dict es _=>z8 K es.toList D | _=>false)
 | none=>false)
theorem Z9{a:Addr}(h:Jb K a D=true):W3 K a D:=by
 simp only[Jb,dS] at h;obtain ⟨h0,hl⟩:=h;split at hl
 . rename_i o ho;simp only[dS] at hl;obtain ⟨⟨⟨e1,e2⟩,e3⟩,e4⟩:=hl;split at e4
   . rename_i es ep hd;exact ⟨by simpa using h0,o,es,ep,ho,⟨beq_iff_eq.mp e1,by simpa using e2,by simpa using e3⟩,hd,Kv _ _ e4⟩
   . cases e4
 . cases hl
theorem acd(hg:Gl X x)(hm:X.mg x=some (.ref l))(T:Jb X.K l D=true)(hb:QE X b (tP X.K O m))(hs:lF b)(hd:nD x:=by decide):QE X (.Subscript (.Name x pos') b pos) (tE X.K O (eUn (XN D) m)):=ZP hg hm (Z9 T) hb hs hd
theorem kY{u:a8}(hg:Gl X x)(hm:X.mg x=some u)(r:lL X.K 9 kd u=true)(hd:nD x:=by decide):QE X (.Name x pos) (tE X.K O (eC kd)):=
 let ⟨_,r1,r2⟩:=Oj _ _ _ r
 ou hg hm r1 r2 hd
inductive j5 (X:Cx) (O:B9):List (Option Expr)->C1->List (Str×ME)->Prop
 | nil:j5 X O [] [] []
 | cons {x:Str}{v:Expr}{kj}{kp:Pos}{ks:List (Option Expr)}{vs:C1}{m:ME}{R:List (Str×ME)}:QE X v (tE X.K O m)->j5 X O ks vs R->j5 X O (some (.Constant (.str x) kj kp)::ks) (v::vs) ((x,m)::R)
noncomputable def ab9(K:aw)(O:B9)(R:List (Str×ME)):List (TE×TE):=R.map λp=>(tC (.str p.1),tE K O p.2)
section
variable   {ks:List (Option Expr)}{vs:C1}{R:List (Str×ME)}
theorem j5.pps(h:j5 X O ks vs R):PPs X pos ks vs (ab9 X.K O R):=by
 induction h with
 | nil=>exact zW
 | cons hv _ ih=>exact su Vg hv.h ih
theorem j5.some(h:j5 X O ks vs R):ks.all (·.isSome)=true/\ks.length=vs.length/\ks.length=R.length:=by
 induction h with
 | nil=>exact ⟨rfl,rfl,rfl⟩
 | cons _ _ ih=>exact ⟨by rw[sP,ih.1];rfl,by rw[a9,a9,ih.2.1],by rw[a9,a9,ih.2.2]⟩
theorem Ko:∀(R:List (Str×ME)) {A B H:Hp}{Γ:Ev}{d:ab}{Q:List (V×V)->Hp->Prop},aZ K A B H O σ Γ->jC R Γ = .ok d ->
 (∀(us:List (Str×V)) A' H',aX A H A' H'->us.map (·.1)=R.map (·.1)->(∃ds,d= .dict ds/\bw K A' ds (us.map λu=>(ot u.1,u.2)))->Q (us.map λu=>(V.str u.1,u.2)) H')->sZ (ab9 K O R) σ H Q
 | [],A,B,H,Γ,d,Q,r,em,k=>by
  cases em;exact k [] A H (aX.refl r.a) rfl ⟨[],rfl,bw.nil.mpr rfl⟩
 | (x,m)::R,A,B,H,Γ,d,Q,r,em,k=>by
  obtain ⟨d1,e1,em⟩:=AI.au em;obtain ⟨d2,e2,em⟩:=AI.au em;refine ⟨A,B,Γ,d1,r,e1,λv A1 H1 g1 p1=>Ko R (r.grow g1) e2 λus A2 H2 g2 hk p2=>?_⟩;obtain ⟨ds,rfl,p2⟩:=p2;cases em;exact k ((x,v)::us) A2 H2 (g1.trans g2) (by rw[bo,bo,hk]) ⟨_,rfl,bw.cons.mpr ⟨_,v,_,rfl,rfl,Rp.mono g2.aa d1 p1,p2⟩⟩
theorem Ds:∀(us AF:A8),((AF++us).map (·.1)).Nodup->lW AF us=AF++us
 | [],AF,_=>by rw[dr];rfl
 | u::us,AF,h=>by
  have hn:¬ ((AF.any λkv=>decide (kv.1=u.1))=true):=λz=>by
   obtain ⟨kv,h1,h2⟩:=n9.mp z;rw[a7,bo,fv] at h;exact h.2.2 _ (List.mem_map_of_mem h1) _ b9 (of_decide_eq_true h2)
  show lW (putK AF u.1 u.2) us=_;have:putK AF u.1 u.2=AF++[u]:=by rw[putK,if_neg hn]
  rw[this,Ds us (AF++[u]) (by rw[d5];exact h),d5];rfl
theorem aba(h:j5 X O ks vs R)(hn:(R.map (·.1)).Nodup)(h0:ks≠[])(h15:ks.length<=15):QE X (.Dict ks vs pos) (tE X.K O (jC R)):=
 QE.imp (Fx h.pps h.some.1 h.some.2.1 h0 h15) λσ H Q az=>by
  obtain ⟨A,B,Γ,d,r,em,k⟩:=az;intro p hp;have g0:aX A H A (AM H p (.dK [])):=aX.lay r.a hp;refine Ko R (r.grow g0) em λus A1 H1 g1 hk p1=>⟨g1.hh _ _ aY,us.map λu=>(ot u.1,u.2),by rw[de];rfl,?_,?_⟩
  . rw[af,show us.length=R.length by have:=congrArg List.length hk;simpa using this,<- h.some.2.2];exact h15
  obtain ⟨ds,rfl,p1⟩:=p1;have em:=Ds _ [] (by
   rw[fi,de];have:(us.map ((λx:Key×V=>x.1)∘λu:Str×V=>((ot u.1:Key),u.2)))=(us.map (·.1)).map ot:=by rw[de];rfl
   rw[this,hk];exact xh.map _ (λa b hab e=>hab (ot.inj e)) hn)
  rw[em];have pa:=g1.4 p (r.a.free hp) (by rw[aY];exact λz=>nomatch z);have gg:aX A H (AM A1 p (.dK (us.map λu=>(ot u.1,u.2)))) (AM H1 p (.dK (us.map λu=>(ot u.1,u.2)))):=by
   refine ⟨(g1.aa).trans (aG.new pa _),λb o q=>?_,λb o q=>?_,λb q1 q2=>?_⟩
   . have hb:=cW q hp;rw[aH hb];exact g1.hh _ _ (by rw[aH hb];exact q)
   . by_cases hb:b=p
     . subst hb;rw[aY] at q ⊢;exact q
     . rw[aH hb] at q ⊢;exact g1.ah _ _ q
   . have hb:b≠p:=λz=>q2 (z ▸ hp);rw[aH hb];exact g1.4 b q1 (by rw[aH hb];exact q2)
  exact k _ _ _ gg (Rp.dict.mpr ⟨p,_,rfl,.inl aY,bw.mono (aG.new pa _) ds p1⟩)
end
noncomputable def j4(key:dw):B0->Option ab
 | []=>none
 | (k,d)::r=>if jE k=some key then some d else j4 key r
noncomputable def Bw(key:dw):B0->Bool
 | []=>false
 | (k,_)::r=>if jE k=some key then true else Bw key r
noncomputable def Q4(key:dw)(x:ab):B0->B0
 | []=>[]
 | (k,d)::r=>(if jE k=some key then (k,x) else (k,d))::Q4 key x r
noncomputable def putN(kd:ab)(key:dw)(x:ab)(AE:B0):B0:=if Bw key AE=true then Q4 key x AE else AE++[(kd,x)]
abbrev NP(K:aw)(A:Hp):B0->List (dw×V)->Prop:=ka λp q=>jE p.1=some q.1/\Rp K A p.2 q.2
section
variable   {key:dw}  {us:List (dw×V)}
theorem rG{key key':dw}(h:jE kd=some key'):jE kd=some key↔key'=key:=by rw[h];simp
theorem NP.look(h:NP K A AE us):(∀d,j4 key AE=some d->∃v,gY us key=some v/\Rp K A d v)/\(j4 key AE=none->gY us key=none):=by
 induction h with
 | nil=>exact ⟨λd e=>(nomatch e),λ_=>rfl⟩
 | @cons p q ps qs hq t ih=>
  obtain ⟨hk,hd⟩:=hq;obtain ⟨k,d⟩:=p;unfold j4
  by_cases e:jE k=some key
  . have e':=(rG hk).mp e;rw[if_pos e];exact ⟨λd' z=>by cases z;exact ⟨q.2,oO e',hd⟩,λz=>(nomatch z)⟩
  . have e':=λz=>e ((rG hk).mpr z);rw[if_neg e,oG e'];exact ih
theorem NP.any(h:NP K A AE us):(gY us key).isSome=(j4 key AE).isSome:=by
 have:=h.look (key:=key)
 cases e:j4 key AE with
 | none=>rw[this.2 e];rfl
 | some d=>obtain ⟨v,e1,_⟩:=this.1 d e;rw[e1];rfl
theorem NP.has(h:NP K A AE us):(us.any λkv=>decide (kv.1=key))=Bw key AE:=by
 induction h with
 | nil=>rfl
 | @cons p q ps qs hq t ih=>
  obtain ⟨hk,hd⟩:=hq;obtain ⟨k,d⟩:=p;rw[Bw,kC,ih]
  by_cases e:jE k=some key
  . rw[if_pos e,decide_eq_true ((rG hk).mp e)];rfl
  . rw[if_neg e,decide_eq_false λz=>e ((rG hk).mpr z)];rfl
theorem NP.set(hx:Rp K A kd v)(h:NP K A AE us):NP K A (Q4 key kd AE) (us.map λkv=>if kv.1=key then (kv.1,v) else kv):=by
 induction h with
 | nil=>exact .nil
 | @cons p q ps qs hq t ih=>
  obtain ⟨hk,hd⟩:=hq;obtain ⟨k,d⟩:=p;rw[Q4,bo]
  by_cases e:jE k=some key
  . rw[if_pos e,if_pos ((rG hk).mp e)];exact .cons ⟨hk,hx⟩ ih
  . rw[if_neg e,if_neg λz=>e ((rG hk).mpr z)];exact .cons ⟨hk,hd⟩ ih
theorem NP.put{x:ab}(hk:jE kd=some key)(hx:Rp K A x v)(h:NP K A AE us):NP K A (putN kd key x AE) (putK us key v):=by
 unfold putN putK;rw[h.has]
 by_cases e:Bw key AE=true
 . rw[if_pos e,if_pos e];exact h.set hx
 . rw[if_neg e,if_neg e];exact ka.snoc h ⟨hk,hx⟩
theorem aA.Qz:∀{ds:B4}{vs:C0}{ns:B3},aA K A ds vs->nG ds=some ns->vs=ns.map V.int
 | [],vs,ns,h,e=>by rw[aA.nil] at h;cases e;exact h
 | .int i::r,vs,ns,h,e=>by
  obtain ⟨v,rest,rfl,h1,h2⟩:=aA.cons.mp h;unfold nG at e
  cases e1:nG r with
  | none=>rw[e1] at e;cases e
  | some l=>
   rw[e1] at e;cases e;rw[Rp.int.mp h1,aA.Qz h2 e1];rfl
 | .none::r,vs,ns,h,e=>by cases e
 | .bool _::r,vs,ns,h,e=>by cases e
 | .str _::r,vs,ns,h,e=>by cases e
 | .list _::r,vs,ns,h,e=>by cases e
 | .tuple _::r,vs,ns,h,e=>by cases e
 | .dict _::r,vs,ns,h,e=>by cases e
theorem aA.Y8:∀{ds:B4}{vs:C0}{key:dw},aA K A ds vs->uc ds=some key->∃cs:C2,vs=cs.map V.ref/\ka (λ(k:B3) c=>SqT K A c (k.map V.int)) key cs
 | [],vs,key,h,e=>by rw[aA.nil] at h;cases e;exact ⟨[],h,.nil⟩
 | .tuple ds::r,vs,key,h,e=>by
  obtain ⟨v,rest,rfl,h1,h2⟩:=aA.cons.mp h;obtain ⟨a,ws,rfl,h3,h4⟩:=Rp.tuple.mp h1;unfold uc at e
  cases e1:nG ds with
  | none=>rw[e1] at e;cases e
  | some l=>
   cases e2:uc r with
   | none=>rw[e1,e2] at e;cases e
   | some l2=>
    rw[e1,e2] at e;cases e;obtain ⟨cs,rfl,hp⟩:=aA.Y8 h2 e2;rw[aA.Qz h4 e1] at h3;exact ⟨a::cs,rfl,.cons h3 hp⟩
 | .none::r,vs,key,h,e=>by cases e
 | .bool _::r,vs,key,h,e=>by cases e
 | .str _::r,vs,key,h,e=>by cases e
 | .list _::r,vs,key,h,e=>by cases e
 | .int _::r,vs,key,h,e=>by cases e
 | .dict _::r,vs,key,h,e=>by cases e
theorem Rp.Yt(h:Rp K A kd v)(hk:jE kd=some key):∃b,v= .ref b/\oM K A key b:=by
 cases kd with
 | tuple ds=>
  obtain ⟨a,vs,rfl,h1,h2⟩:=Rp.tuple.mp h;obtain ⟨cs,rfl,hp⟩:=aA.Y8 h2 hk;exact ⟨a,rfl,cs,h1,hp⟩
 | _=>cases hk
end
theorem aZ.Jg(r:aZ K A B H O σ Γ)(hi:fl O i= .nst true)(he:gv Γ i=some (.dict AE)) :
 ∃p xs,sv σ i=some (.ref p)/\H p=some (iw p xs)/\A p=none/\B p=none/\RpN K A AE xs:=by
 obtain ⟨v,e1,q⟩:=r.slot i _ he;rw[hi] at q;obtain ⟨p,xs,kvs',rfl,w2,w3,w4,w5,w6⟩:=q rfl;cases w2;exact ⟨p,xs,e1,w3,w4,w5,w6⟩
theorem aZ.afM{xs xs':List (dw×Addr×a8)}(r:aZ K A B H O σ Γ)(hi:fl O i= .nst true)(hl:i < Γ.length)(hs:sv σ i=some (.ref p))(h1:H p=some (iw p xs))(h2:A p=none)(h3:B p=none)(h4:RpN K A AE xs')
 (hone:∀j,i≠j->fl O j ≠ .nst true):aZ K A B (AM H p (iw p xs')) O σ (Γ.set i (some (.dict AE))):=by
 refine ⟨λb u q=>?_,λb u q=>?_,by rw[fy];exact r.len,λj=>?_,λj k hjk q1 q2 q3 q4=>?_⟩
 . rw[aH (λz=>by rw[z,h2] at q;cases q)];exact r.a b u q
 . rw[aH (λz=>by rw[z,h3] at q;cases q)];exact r.b b u q
 . by_cases hj:i=j
   . subst hj;rw[gv,bK hl];intro d e;cases e;refine ⟨_,hs,?_⟩;rw[hi];exact λ_=>⟨p,xs',AE,rfl,rfl,aY,h2,h3,h4⟩
   . rw[gv,aU hj];intro d e;obtain ⟨v,ev,q⟩:=r.slot j d e;refine ⟨v,ev,?_⟩
     cases hf:fl O j with
     | AO=>rwa [hf] at q
     | AN=>rwa [hf] at q
     | own=>
      rw[hf] at q;obtain ⟨p',o',rfl,u1,u2,u3,u4⟩:=q;have hne:p'≠p:=λz=>by subst z;rw[u1] at h1;exact u4.nx h1
      exact ⟨p',o',rfl,by rw[aH hne];exact u1,u2,u3,u4⟩
     | fix p0=>
      rw[hf] at q;obtain ⟨q0,p',o',rfl,u1,u2,u3,u4⟩:=q;have hne:p'≠p:=λz=>by subst z;rw[u1] at h1;exact u4.nx h1
      exact ⟨q0,p',o',rfl,by rw[aH hne];exact u1,u2,u3,u4⟩
     | kit=>rwa [hf] at q
     | exc C=>rwa [hf] at q
     | nst b=>
      cases b with
      | true=>exact absurd hf (hone j hj)
      | false=>exact λz=>nomatch z
 . have g:∀l,isO (fl O l)=true->gv (Γ.set i (some (.dict AE))) l≠none->gv Γ l≠none:=λl h z=>by
    have hl:i≠l:=λz=>by subst z;rw[hi] at h;cases h
    unfold gv at z ⊢;rwa [aU hl] at z
   exact r.sep j k hjk q1 q2 (g j q1 q3) (g k q2 q4)
theorem aZ.aet(r:aZ K A B H O σ Γ)(hi:fl O i= .own)(hO:i<O.length)(he:gv Γ i=some (.dict [])) :
 ∃p,H p=some (.dK [])/\aZ K A B (AM H p (iw p [])) (O.set i (.nst true)) σ Γ:=by
 obtain ⟨d,p,o,e1,e2,h1,h2,h3,h4⟩:=r.nu (by rw[hi];rfl) (by rw[he];simp);rw[he] at e1;cases e1;rcases h4 with ⟨ds,vs,z,_⟩ | ⟨AE,u,z,rfl,h4⟩
 . cases z
 cases z;rw[bw.nil] at h4;subst h4;refine ⟨p,h1,λb u q=>?_,λb u q=>?_,r.len,λj=>?_,λj k hjk q1 q2 q3 q4=>?_⟩
 . rw[aH (λz=>by rw[z,h2] at q;cases q)];exact r.a b u q
 . rw[aH (λz=>by rw[z,h3] at q;cases q)];exact r.b b u q
 . by_cases hj:i=j
   . subst hj;rw[fl,bK hO];intro d e;rw[he] at e;cases e;exact ⟨_,e2,λ_=>⟨p,[],[],rfl,rfl,aY,h2,h3,[],.nil,.nil⟩⟩
   . rw[fl,aU hj];intro d e;obtain ⟨v,ev,q⟩:=r.slot j d e;refine ⟨v,ev,?_⟩;have hne:isO (fl O j)=true->∀p',v= .ref p'->p'≠p:=λhf p' ez z=>by
      refine r.sep i j hj (by rw[hi];rfl) hf (by rw[he];simp) (by rw[e];simp) ?_;rw[e2,ev,ez,z]
     cases hf:fl O j with
     | AO=>unfold fl at hf;rw[hf];rwa [show fl O j= .AO from hf] at q
     | AN=>unfold fl at hf;rw[hf];rwa [show fl O j= .AN from hf] at q
     | own=>
      have hn:=hne (by rw[hf];rfl);unfold fl at hf;rw[hf];rw[show fl O j= .own from hf] at q;obtain ⟨p',o',rfl,u1,u2,u3,u4⟩:=q;exact ⟨p',o',rfl,by rw[aH (hn p' rfl)];exact u1,u2,u3,u4⟩
     | fix p0=>
      have hn:=hne (by rw[hf];rfl);unfold fl at hf;rw[hf];rw[show fl O j= .fix p0 from hf] at q;obtain ⟨q0,p',o',rfl,u1,u2,u3,u4⟩:=q;exact ⟨q0,p',o',rfl,by rw[aH (hn p' rfl)];exact u1,u2,u3,u4⟩
     | exc C=>unfold fl at hf;rw[hf];rwa [show fl O j= .exc C from hf] at q
     | kit=>unfold fl at hf;rw[hf];rwa [show fl O j= .kit from hf] at q
     | nst b=>
      unfold fl at hf;rw[hf];rw[show fl O j= .nst b from hf] at q;intro z;obtain ⟨p',xs,AE,w1,w2,w3,w4,w5,w6⟩:=q z;have hn:p'≠p:=λz=>by subst z;rw[h1] at w3;cases w3
      exact ⟨p',xs,AE,w1,w2,by rw[aH hn];exact w3,w4,w5,w6⟩
 . have hj:i≠j:=λz=>by subst z;unfold fl at q1;rw[bK hO] at q1;cases q1
   have hk:i≠k:=λz=>by subst z;unfold fl at q2;rw[bK hO] at q2;cases q2
   unfold fl at q1 q2;rw[aU hj] at q1;rw[aU hk] at q2;exact r.sep j k hjk q1 q2 q3 q4
noncomputable def zJ(i:Nat)(m:ME):ME:=λΓ=>(m Γ).bind λkd=>match gv Γ i with
 | some (.dict AE)=>match jE kd with
  | some key=>.ok (.bool (!(j4 key AE).isSome))
  | none=>.bad
 | _=>.bad
noncomputable def QV(i:Nat)(m:ME):ME:=λΓ=>(m Γ).bind λkd=>match gv Γ i with
 | some (.dict AE)=>match jE kd with
  | some key=>match j4 key AE with
   | some d=>.ok d
   | none=>.bad
  | none=>.bad
 | _=>.bad
noncomputable def Ik(i:Nat)(mk mv:ME):MS:=λΓ=>(mv Γ).bind λx=>(mk Γ).bind λkd=>match gv Γ i with
 | some (.dict AE)=>match jE kd with
  | some key=>gd (AE.length<bE/\i < Γ.length) (.ok (.nx (Γ.set i (some (.dict (putN kd key x AE))))))
  | none=>.bad
 | _=>.bad
section
variable         {xp:Pos}
def afk(K:aw):R2:=λx y H Q=>∃b p xs us k,x= .ref b/\y= .ref p/\H p=some (iw p xs)/\KN K H us xs/\oM K H k b/\Q (.bl (!(gY us k).isSome)) H
theorem Tr(hu:X.A.units+66<ke):OpR X (fw .NotIn) (afk X.K):=by
 rintro AD s σ H x y v u Q I rx ry ⟨b,p,xs,us,k,rfl,rfl,h1,h2,h3,q⟩;cases (rx);cases (ry);exact ZD (by lia) I h1 h2 h3 λs' I'=>⟨.bl _,H,I',rfl,q⟩
def agg(K:aw):R2:=λx y H Q=>∃p b xs us k v,x= .ref p/\y= .ref b/\H p=some (iw p xs)/\KN K H us xs/\oM K H k b/\gY us k=some v/\Q v H
theorem afZ(hu:X.A.units+66<ke):IxR X (agg X.K):=by
 intro value slice AD s σ H x y v u Q I rx ry h hs;obtain ⟨p,b,xs,us,k,w,rfl,rfl,h1,h2,h3,h4,q⟩:=h;cases (rx);cases (ry);have hT:=(Ih I h1 h2).2.2.typeIs;refine ag ?_;rw[mN hT.not_modules];refine ag (kP hT kR.lookup ?_);have fin:eh (eJ X.prog X.w) X.A (oC slice false (.ref p) (.ref b)) (λr s₃=>eh (eJ X.prog X.w) X.A (rS value (.ref p) r >>= λ_=>pure r) (EP X AD σ Q) X.xe s₃) X.xe s:=by
  rw[hs];exact qa (hZ (Sg (by lia) I h1 h2 h3 h4 λw' s' I' rw'=>(⟨w,H,I',rw',q⟩:EP X AD σ Q w' s')) (λr s₃ h₃=>ag (nr (bt h₃))) λ_ _ x=>x)
 first
  | exact bt (ag fin)
  | exact ag (bt (ag fin))
  | exact ag fin
def adE(K:aw)(td ty tv:TE):TS:=λD σ H=>tv σ H λv H1=>td σ H1 λx H2=>ty σ H2 λy H3=>∃a b xs us k,x= .ref a/\y= .ref b/\H3 a=some (iw a xs)/\KN K H3 us xs/\oM K H3 k b/\us.length<bE /\
 ∀r,AK v r->D.nx σ (AM H3 a (iw a (wx xs k b r)))
theorem aaf{td ty tv:TE}(hu:X.A.units+66<ke)(ho:PE X e td)(hi:PE X tg ty)(hv:PE X c tv)(hs:ip c (some (.Subscript e tg pos')) pos.line X.env=pure false) :
 PS X (.Assign [.Subscript e tg pos'] c pos) (adE X.K td ty tv):=by
 intro AD s σ H D I h;refine wpAny_Assign_Subscript (thn (hv AD s σ H _ I h) λr s1 ⟨v,H1,I1,rv,q1⟩=>thn (ho AD s1 σ H1 _ I1 q1) λu s2 ⟨x,H2,I2,rx,q2⟩=>thn (hi AD s2 σ H2 _ I2 q2) λiv s3 az=>?_) hs;obtain ⟨y,H3,I3,ry,a,b,xs,us,k,ex,ey,h1,h2,h3,hl,q3⟩:=az;subst ex ey;obtain rfl:u=iN a:=rx;obtain rfl:iv=iN b:=ry;exact RQ (by lia) I3 h1 h2 h3 rv hl λs4 I4=>⟨σ,_,I4,q3 r rv⟩
theorem UJ(i:Nat)(hu:X.A.units+66<ke)(ha:QE X a (tE X.K O m))(hi:fl O i= .nst true:=by rfl)(nm:Nm X i x:=by walk_at "nm"):QT X (.Compare a [.NotIn] [.Name x xp] pos) (tT X.K O (zJ i m)):=
 QT.imp (NZ (Tr hu) ha.h (dM nm.1 nm.2 nm.3 nm.4) rfl) λσ H Q az=>by
  obtain ⟨A,B,Γ,bb,r,em,k⟩:=az;obtain ⟨kd,e1,em⟩:=AI.au em
  cases hg:gv Γ i with
  | none=>rw[hg] at em;cases em
  | some dl=>
   rw[hg] at em
   cases dl with
   | dict AE=>
    have em:=em
    cases hk:jE kd with
    | none=>rw[hk] at em;cases em
    | some key=>
     rw[hk] at em;cases em;obtain ⟨p,xs,e3,h1,h2,h3,us,h4,h5⟩:=r.Jg hi hg;refine ⟨A,B,Γ,kd,r,e1,λv A1 H1 g1 p1=>⟨.ref p,dO e3,?_⟩⟩;obtain ⟨b,rfl,nt⟩:=Rp.Yt p1 hk;exact ⟨b,p,xs,us,key,rfl,rfl,g1.hh _ _ h1,h4.keeps λ_ _ e=>(g1.aa.trans g1.ah).fP e,nt.keeps λ_ _ e=>g1.ah.fP e,_,by rw[NP.any h5],k A1 H1 g1⟩
   | _=>cases em
theorem aey(i:Nat)(hu:X.A.units+66<ke)(ha:QE X a (tE X.K O m))(hs:lF a)(hi:fl O i= .nst true:=by rfl)(nm:Nm X i x:=by walk_at "nm"):QE X (.Subscript (.Name x xp) a pos) (tE X.K O (QV i m)):=
 QE.imp (Du (afZ hu) (dM nm.1 nm.2 nm.3 nm.4) ha.h hs) λσ H Q az=>by
  obtain ⟨A,B,Γ,d,r,em,k⟩:=az;obtain ⟨kd,e1,em⟩:=AI.au em
  cases hg:gv Γ i with
  | none=>rw[hg] at em;cases em
  | some dl=>
   rw[hg] at em
   cases dl with
   | dict AE=>
    have em:=em
    cases hk:jE kd with
    | none=>rw[hk] at em;cases em
    | some key=>
     rw[hk] at em;have em:(match j4 key AE with | some d=>AI.ok d | none=>.bad)= .ok d:=em
     cases hl:j4 key AE with
     | none=>rw[hl] at em;cases em
     | some d0=>
      rw[hl] at em;cases em;obtain ⟨p,xs,e3,h1,h2,h3,us,h4,h5⟩:=r.Jg hi hg;obtain ⟨v0,ev,rv⟩:=(NP.look h5).1 d hl;refine ⟨.ref p,dO e3,A,B,Γ,kd,r,e1,λv A1 H1 g1 p1=>?_⟩;obtain ⟨b,rfl,nt⟩:=Rp.Yt p1 hk;exact ⟨p,b,xs,us,key,v0,rfl,rfl,g1.hh _ _ h1,h4.keeps λ_ _ e=>(g1.aa.trans g1.ah).fP e,nt.keeps λ_ _ e=>g1.ah.fP e,ev,k _ A1 H1 g1 (Rp.mono g1.aa _ rv)⟩
   | _=>cases em
noncomputable def ab4(O:B9)(i:Nat):Bool:=(List.range O.length).all λj=>j == i || !decide (fl O j= .nst true)
theorem Z0(h:ab4 O i=true)(hj:i≠j):fl O j ≠ .nst true:=λz=>by
 have hl:j<O.length:=by
  rcases gu j O.length with z' | z'
  . exact z'
  . unfold fl at z;rw[ae,fk z'] at z;cases z
 have:=fb.mp h j (dn.mpr hl);rw[decide_eq_true z] at this;simp at this;exact hj this.symm
theorem Z5(i:Nat)(hu:X.A.units+66<ke)(ha:QE X a (tE X.K O m))(he:QE X e (tE X.K O m'))(hi:fl O i= .nst true:=by rfl)(hone:ab4 O i=true:=by rfl)(nm:Nm X i x:=by walk_at "nm")(hs:ip e (some (.Subscript (.Name x xp) a tpos)) pos.line X.env=pure false:=by rfl) :
 QS X (.Assign [.Subscript (.Name x xp) a tpos] e pos) (tS X.K rm Ol O O (Ik i m m')):=by
 refine QS.imp (aaf hu (dM nm.1 nm.2 nm.3 nm.4) ha.h he.h hs) λD σ H az=>?_;obtain ⟨A,B,Γ,o,r,em,k⟩:=az;obtain ⟨d,e1,em⟩:=AI.au em;obtain ⟨kd,e2,em⟩:=AI.au em
 cases hg:gv Γ i with
 | none=>rw[hg] at em;cases em
 | some dl=>
  rw[hg] at em
  cases dl with
  | dict AE=>
   have em':=em
   cases hk:jE kd with
   | none=>rw[hk] at em';cases em'
   | some key=>
    rw[hk] at em';obtain ⟨⟨hz,hlt⟩,em'⟩:=cu em';cases em';obtain ⟨q,xs,e3,h1,h2,h3,us,h4,h5⟩:=r.Jg hi hg;refine ⟨A,B,Γ,d,r,e1,λv A1 H1 g1 p1=>⟨.ref q,dO e3,A1,B,Γ,_,r.grow g1,e2,λw A2 H2 g2 p2=>?_⟩⟩;have gg:=g1.trans g2;obtain ⟨b,rfl,nt⟩:=Rp.Yt p2 hk;have h4':=h4.keeps λ_ _ e=>gg.aa.fP e;have h5':NP X.K A2 AE us:=Paired.rP h5 λ_ _ z=>⟨z.1,Rp.mono gg.aa _ z.2⟩;refine ⟨q,b,xs,us,key,rfl,rfl,gg.hh _ _ h1,h4'.keeps λ_ _ e=>gg.ah.fP e,nt.keeps λ_ _ e=>gg.ah.fP e,by rw[<- ka.length h5];exact hz,λrr hr=>?_⟩;exact k σ A2 _ ((r.grow gg).afM hi hlt e3 (gg.hh _ _ h1) (gg.nw q h2 (by rw[h1];simp)) h3 ⟨_,h4'.put key nt hr,NP.put hk (Rp.mono g2.aa _ p1) h5'⟩ λj hj=>Z0 hone hj) gg.aa (gg.nB r.b)
  | _=>cases em
theorem aa5{st:Stmt}(i:Nat)(h:QS X st (tS X.K rm Ol O O1 (bc i (jC []))))(hi:fl O1 i= .own:=by rfl)(hl:i<O1.length:=by exact of_decide_eq_true rfl)(hO:O1.set i (.nst true)=O2:=by rfl):QS X st (tS X.K rm Ol O O2 (bc i (jC []))):=by
 subst hO;refine ⟨λAD s σ H D I ⟨A,B,Γ,o,r,em,k⟩=>?_⟩;have em0:=em;obtain ⟨d,e1,em⟩:=AI.au em;obtain ⟨hlt,em⟩:=cu em;cases em;cases e1;refine thn (h.h AD s σ H ⟨λσ' H'=>∃p,H' p=some (.dK [])/\D.nx σ' (AM H' p (iw p [])),D.rt,D.bk,D.ct⟩ I ⟨A,B,Γ,_,r,em0,λσ' A' H' r' sa nw=>?_⟩) λf s' q=>?_
 . obtain ⟨p,hp,r2⟩:=r'.aet hi hl (by rw[gv,bK hlt]);exact ⟨p,hp,k σ' A' _ r2 sa nw⟩
 . cases f with
   | next=>
    obtain ⟨σ',H',I',p,hp,hq⟩:=q;exact ⟨σ',_,ae1 I' hp,hq⟩
   | brk=>exact q
   | cont=>exact q
   | ret u=>exact q
end
noncomputable def Ie(mk mv:ME):ME:=λΓ=>(mk Γ).bind λkd=>(mv Γ).bind λd=>match bO kd with
 | some _=>.ok (.dict [(kd,d)])
 | none=>.bad
theorem abF{mk:ME}(hk:QE X e (tE X.K O mk))(hv:QE X tg (tE X.K O m)):QE X (.Dict [some e] [tg] pos) (tF X.K O (Ie mk m)):=
 QE.imp (Fx (su hk.h hv.h zW) rfl rfl (λz=>nomatch z) (by show 1<=15;decide)) λσ H Q az=>by
  obtain ⟨A,B,Γ,d,r,em,k⟩:=az;obtain ⟨kd,e0,em⟩:=AI.au em;obtain ⟨d1,e1,em⟩:=AI.au em
  cases hkk:bO kd with
  | none=>rw[hkk] at em;cases em
  | some key=>
   rw[hkk] at em;cases em;intro p hp;have g0:aX A H A (AM H p (.dK [])):=aX.lay r.a hp;refine ⟨A,B,Γ,kd,r.grow g0,e0,λkv A1 H1 g1 p1=>⟨A1,B,Γ,d1,(r.grow g0).grow g1,e1,λtg A2 H2 g2 p2=>⟨(g1.trans g2).hh _ _ aY,[(key,tg)],by rw[Rp.key p1 hkk];rfl,by show 1<=15;decide,?_⟩⟩⟩;have g12:=g1.trans g2;have pa:=g12.4 p (r.a.free hp) (by rw[aY];exact λz=>nomatch z);have gg:aX A H A2 (AM H2 p (.dK (lW [] [(key,tg)]))):=by
    refine ⟨g12.aa,λb o q=>?_,λb o q=>?_,λb q1 q2=>?_⟩
    . have hb:=cW q hp;rw[aH hb];exact g12.hh _ _ (by rw[aH hb];exact q)
    . have hb:=cW q pa;rw[aH hb];exact g2.ah _ _ q
    . have hb:b≠p:=λz=>q2 (z ▸ hp);exact g12.4 b q1 (by rw[aH hb];exact q2)
   exact k _ _ _ gg ⟨p,_,rfl,hp,aY,pa,.inr ⟨_,[(key,tg)],rfl,rfl,bw.cons.mpr ⟨_,tg,[],rfl,hkk,p2,bw.nil.mpr rfl⟩⟩⟩
noncomputable def LC(ds es:B4):B4:=(ds.zip es).map λp=>ab.tuple [p.1,p.2]
section
open Builtin Builtin.Str
section
variable   {A:iS}   {o J U c d q:Addr}{k:Nat}{us vs:Array a8}{u v m n:a8}
theorem Ow{Q:Bool->dc->Prop}(ho:xE s.heap o J U .none)(hQ:Q true s):eh (eJ prog w) A (Builtin.SmallTypes.ownedTupleIsFree (.ref o)) Q E s:=by
 exact ag (jS ho rfl rfl (bt hQ))
theorem aax{r:Addr}{Q:Unit->dc->Prop}(ho:xE s.heap o J U .ellipsis)(hQ:∀h',xE h' o J U (sF r)->oS o s.heap h'->Q () { s with heap:=h' }) :
 eh (eJ prog w) A (Builtin.SmallTypes.ownedTupleHandOut (.ref o) (.ref r)) Q E s:=by
 exact ag (mI ho (by simp) λha za ba=>mI (za) (by simp) λhb zb bb=>hQ hb zb ⟨bb.1.trans ba.1,λb hne=>(bb.2 b hne).trans (ba.2 b hne)⟩)
theorem Pb(ap:ZipApart o J U c d p q)(ho:xE s.heap o J U .none)(hj:oq s.heap J (.ref c) (.ref d))(hu:oq s.heap U u v)
 (hc:s.heap.IsTupleIter c p k) (hd:s.heap.IsListIter d q k) (hp:s.heap.IsTuple p us) (hq:s.heap.IsList q vs) (hm:us[k]?=some m) (hn:vs[k]?=some n)
 (hQ:∀h',xE h' o J U (sF s.heap.objs.size)->oq h' U m n->h'.IsTupleIter c p (k+1)->h'.IsListIter d q (k+1)->oq h' s.heap.objs.size m n ->
  (∀b x,b≠o->b≠U->b≠c->b≠d->s.heap.get? b=some x->h'.get? b=some x)->Q (.ref s.heap.objs.size) { s with heap:=h' }) :
 eh (eJ prog w) A (Builtin.«zip.__next__» ⟨[.ref o],[]⟩) (λf t=>∃y,f= .done (.ret y)/\Q y t) E s:=by
 show eh _ _ (field (.ref o) 2 >>= _) _ _ s;refine ag (jS ho rfl rfl (ag (jS ho rfl rfl (ag (fR hj rfl ?_)))));refine ag (Ow ho (ag (vE (ag (jS ho rfl rfl (ag (mI ho (by simp) λha za ba=>ag ?_)))))));replace za:xE ha o J U .ellipsis:=za;refine ag (ag (xl (ag (jg (hc.at λy e=>ba.extBut c y ap.i1z e) (let ⟨y,e,r⟩:=hp;⟨y,ba.extBut p y ap.l1z e,r⟩) hm λhb cb bb=>bt ?_))));have ub:=bb.extBut U _ ap.TOi1 (ba.extBut U _ ap.TOz hu);refine ag (fR ub rfl (ag (ti ub λhe ue be=>ag (rf (bt ?_)))));replace ue:oq he U m v:=ue;refine ag (ag (xl ?_));have kd:=λx e=>be.extBut d x ap.TOi2.symm (bb.extBut d x ap.i12.symm (ba.extBut d x ap.i2z e));have kq:=λx e=>be.extBut q x ap.l2TO (bb.extBut q x ap.l2i1 (ba.extBut q x ap.l2z e));refine ag (wpAny_nextOf_list_item (hd.at kd) (let ⟨y,e,r⟩:=hq;⟨y,kq y e,r⟩) hn λhf df bf=>bt ?_);have uf:=bf.extBut U _ ap.TOi2 ue;refine ag (fR uf rfl (ag (ti uf λhg ug bg=>ag (rf (bt (bt ?_))))));replace ug:oq hg U m n:=ug;refine ag (fR ug rfl (ag (wpAny_newTuple ?_)));have sz:hg.objs.size=s.heap.objs.size:=by rw[bg.1,bf.1,be.1,bb.1,ba.1]
 have zg:=bg.extBut o _ ap.TOz.symm (bf.extBut o _ ap.i2z.symm (be.extBut o _ ap.TOz.symm (bb.extBut o _ ap.i1z.symm za)));have kg:=λb x n1 n2 n3 n4 e=>bg.extBut b x n2 (bf.extBut b x n4 (be.extBut b x n2 (bb.extBut b x n3 (ba.extBut b x n1 e))));have cg:=cb.at λy e=>bg.extBut c y ap.TOi1.symm (bf.extBut c y ap.i12 (be.extBut c y ap.TOi1.symm e));have dg:=df.at λy e=>bg.extBut d y ap.TOi2.symm e;have lo:=cy zg;refine ag (aax (aI _ zg) λhl zl bl=>bt ⟨_,rfl,?_⟩);have up:=λb x n1 e=>bl.extBut b x n1 (aI _ e);have tl:=bl.extBut _ _ (rg lo) (c6 _ rfl);rw[sz] at zl tl;rw[sz];exact hQ hl zl (up U _ ap.TOz ug) (cg.at λy e=>up c y ap.i1z e) (dg.at λy e=>up d y ap.i2z e) tl λb x n1 n2 n3 n4 e=>up b x n1 (kg b x n1 n2 n3 n4 e)
theorem aed{Q:Fin->dc->Prop}(hh:A.handled=none)(ap:ZipApart o J U c d p q)(ho:xE s.heap o J U .none)(hj:oq s.heap J (.ref c) (.ref d))(hu:oq s.heap U u v)
 (hc:s.heap.IsTupleIter c p k) (hd:s.heap.IsListIter d q k) (hp:s.heap.IsTuple p us) (hq:s.heap.IsList q vs) (hx:us[k]?=none\/vs[k]?=none)
 (hE:∀h' y,(∀b x,b≠o->b≠U->b≠c->b≠d->s.heap.get? b=some x->h'.get? b=some x)->(∃x,h'.get? y=some x/\x.cls= .type "StopIteration")->E (.ref y) { s with heap:=h' }) :
 eh (eJ prog w) A (Builtin.«zip.__next__» ⟨[.ref o],[]⟩) Q E s:=by
 show eh _ _ (field (.ref o) 2 >>= _) _ _ s;refine ag (jS ho rfl rfl (ag (jS ho rfl rfl (ag (fR hj rfl ?_)))));refine ag (Ow ho (ag (vE (ag (jS ho rfl rfl (ag (mI ho (by simp) λha za ba=>ag ?_)))))));replace za:xE ha o J U .ellipsis:=za;refine ag (ag (xl ?_));have ca:=hc.at λy e=>ba.extBut c y ap.i1z e;have pa:ha.IsTuple p us:=let ⟨y,e,r⟩:=hp;⟨y,ba.extBut p y ap.l1z e,r⟩;have out:∀{hr:Heap}{y:Addr}{x:Obj},hr.get? y=some x->x.cls= .type "StopIteration" -> xE hr o J U .ellipsis->y≠o:=λe cl z eq=>by
  rw[eq,z] at e;cases e;exact absurd cl (by show ¬ (kD "zip"= kD "StopIteration");decide)
 cases h0:us[k]? with
 | none=>
  refine ag (jG hh ca pa h0 λhb y bb az=>?_);obtain ⟨x,e,cl⟩:=az;have zb:=bb o _ ap.i1z.symm za;exact mI zb (by simp) λhe _ be=>hE he y (λb x n1 _ n3 _ e=>be.extBut b x n1 (bb b x n3 (ba.extBut b x n1 e))) ⟨x,be.extBut y x (out e cl zb) e,cl⟩
 | some m=>
  have h1:=hx.resolve_left λz=>by rw[h0] at z;cases z
  refine ag (jg ca pa h0 λhb cb bb=>bt ?_);have ub:=bb.extBut U _ ap.TOi1 (ba.extBut U _ ap.TOz hu);refine ag (fR ub rfl (ag (ti ub λhe ue be=>ag (rf (bt (ag (ag (xl ?_))))))));have kd:=λx e=>be.extBut d x ap.TOi2.symm (bb.extBut d x ap.i12.symm (ba.extBut d x ap.i2z e));have kq:=λx e=>be.extBut q x ap.l2TO (bb.extBut q x ap.l2i1 (ba.extBut q x ap.l2z e));refine ag (wpAny_nextOf_list_end hh (hd.at kd) (let ⟨y,e,r⟩:=hq;⟨y,kq y e,r⟩) h1 λhf y bf az=>?_);obtain ⟨x,e,cl⟩:=az;have zf:=bf o _ ap.i2z.symm (be.extBut o _ ap.TOz.symm (bb.extBut o _ ap.i1z.symm za));exact mI zf (by simp) λhg _ bg=>hE hg y (λb x n1 n2 n3 n4 e=>bg.extBut b x n1 (bf b x n4 (be.extBut b x n2 (bb.extBut b x n3 (ba.extBut b x n1 e))))) ⟨x,bg.extBut y x (out e cl zf) e,cl⟩
theorem Q7{Q:B7->dc->Prop}(ap:ZipApart o J U c d p q)(ho:xE s.heap o J U .none)(hj:oq s.heap J (.ref c) (.ref d))(hu:oq s.heap U u v)
 (hc:s.heap.IsTupleIter c p k) (hd:s.heap.IsListIter d q k) (hp:s.heap.IsTuple p us) (hq:s.heap.IsList q vs) (hm:us[k]?=some m) (hn:vs[k]?=some n)
 (hQ:∀h',xE h' o J U (sF s.heap.objs.size)->oq h' U m n->h'.IsTupleIter c p (k+1)->h'.IsListIter d q (k+1)->oq h' s.heap.objs.size m n ->
  (∀b x,b≠o->b≠U->b≠c->b≠d->s.heap.get? b=some x->h'.get? b=some x)->Q (some (.ref s.heap.objs.size)) { s with heap:=h' }) :
 eh (eJ prog w) A (pyNext (.ref o)) Q E s:=by
 have ty:s.TypeIs (.ref o) "zip" := ⟨_,ho,rfl⟩;have one:=Pb (prog:=prog) (w:=w) (A:=A) (E:=λe t=>False) ap ho hj hu hc hd hp hq hm hn (Q:=λy t=>Q (some y) t) hQ;refine ag (wpAny_attempt (gy ty u7 (gz u7 ty F.entry_zip_next (Pb ap ho hj hu hc hd hp hq hm hn λh' a1 a2 a3 a4 a5 a6=>?_) (F.args_zip_next_1 _))));exact bt (hQ h' a1 a2 a3 a4 a5 a6)
theorem RP{Q:B7->dc->Prop}(hh:A.handled=none)(ap:ZipApart o J U c d p q)(ho:xE s.heap o J U .none)(hj:oq s.heap J (.ref c) (.ref d))(hu:oq s.heap U u v)
 (hc:s.heap.IsTupleIter c p k) (hd:s.heap.IsListIter d q k) (hp:s.heap.IsTuple p us) (hq:s.heap.IsList q vs) (hx:us[k]?=none\/vs[k]?=none)
 (hQ:∀h',(∀b x,b≠o->b≠U->b≠c->b≠d->s.heap.get? b=some x->h'.get? b=some x)->Q none { s with heap:=h' }):eh (eJ prog w) A (pyNext (.ref o)) Q E s:=by
 have ty:s.TypeIs (.ref o) "zip" := ⟨_,ho,rfl⟩;refine ag (wpAny_attempt (gy ty u7 (gz u7 ty F.entry_zip_next (aed hh ap ho hj hu hc hd hp hq hx λh' y kp ⟨x,e,cl⟩=>?_) (F.args_zip_next_1 _))));exact ag (pb ⟨x,e,cl⟩ isSubtype_stop (bt (hQ _ kp)))
end
noncomputable def ztA(h:Heap)(p:Addr):Heap:=h.push { cls:=.type "tuple_iterator",data:=.fields #[.ref p,.int 0 0] }
noncomputable def ztB(h:Heap)(p q:Addr):Heap:=(ztA h p).push { cls:=.type "list_iterator",data:=.fields #[.ref q,.int 0 0] }
noncomputable def ztC(h:Heap)(p q:Addr):Heap:=(ztB h p q).push { cls:=.type "tuple",data:=.seq #[.ref h.objs.size,.ref (ztA h p).objs.size] }
noncomputable def ztD(h:Heap)(p q:Addr):Heap:=(ztC h p q).push { cls:=.type "tuple",data:=.seq #[.none,.none] }
noncomputable def ztE(h:Heap)(p q:Addr):Heap:=(ztD h p q).push { cls:=.type "zip",data:=.fields #[.none,.bool false,.bool false,.ref (ztB h p q).objs.size,.ref (ztC h p q).objs.size] }
theorem Ym(p q:Addr)(us vs:Array a8):Meets (Builtin.«zip.__new__» ⟨[.type "zip",.ref p,.ref q],[]⟩) (λ_ R s=>s.heap.IsTuple p us/\s.heap.IsList q vs /\
 R (.ok (.ret (.ref (ztD s.heap p q).objs.size))) { s with heap:=ztE s.heap p q }):=
 .of_wp λprog w A R s az=>by
  obtain ⟨hp,hq,h⟩:=az;obtain ⟨hh,g,d,tk,os⟩:=s;have hsub:=sub_zip;have tp:=hp;have lq:Heap.IsList (Shared.heap ⟨hh.push { cls:=.type "tuple_iterator",data:=.fields #[.ref p,.int 0 0] },g,d,tk,os⟩) q vs:=hq.push _
  wp_walk using mB tp,w9 lq
  exact ⟨_,rfl,h⟩
theorem aas{A:iS}{vs:Array a8}(hp:s.heap.IsTuple p items)(hq:s.heap.IsList l vs)
 (go:∀h' N,N=s.heap.objs.size->xE h' (N+4) (N+2) (N+3) .none->oq h' (N+2) (.ref N) (.ref (N+1))->oq h' (N+3) .none .none->h'.IsTupleIter N p 0->h'.IsListIter (N+1) l 0 ->
  (∀b x,s.heap.get? b=some x->h'.get? b=some x)->Q (.ref (N+4)) { s with heap:=h' }):eh (eJ prog w) A (call (.type "zip") [.ref p,.ref l]) Q E s:=by
 have y1:(ztA s.heap p).objs.size=s.heap.objs.size+1:=iX ..
 have y2:(ztB s.heap p l).objs.size=s.heap.objs.size+2:=(iX ..).trans (by rw[y1]);have y3:(ztC s.heap p l).objs.size=s.heap.objs.size+3:=(iX ..).trans (by rw[y2]);have y4:(ztD s.heap p l).objs.size=s.heap.objs.size+4:=(iX ..).trans (by rw[y3]);have x5:(ztE s.heap p l).get? (ztD s.heap p l).objs.size=some _:=c6 _ rfl;have x4:(ztE s.heap p l).get? (ztC s.heap p l).objs.size=some _:=aI _ (c6 _ rfl);have x3:(ztE s.heap p l).get? (ztB s.heap p l).objs.size=some _:=aI _ (aI _ (c6 _ rfl));have x2:(ztE s.heap p l).get? (ztA s.heap p).objs.size=some _:=aI _ (aI _ (aI _ (c6 _ rfl)));have x1:(ztE s.heap p l).get? s.heap.objs.size=some _:=aI _ (aI _ (aI _ (aI _ (c6 _ rfl))));refine callType_new F.called_zip (by decide) (F.typeCall_zip_2 _ _) (F.newCall_zip_2 _ _) (λb=>F.args_object_init_3 b _ _) F.entry_zip_new (Ym p l items vs) ⟨hp,hq,?_⟩;rw[y2,y3,y4] at x5;rw[y3] at x4;rw[y1,y2] at x3;rw[y1] at x2;rw[y4];exact ⟨⟨_,x5,rfl⟩,go _ _ rfl x5 x3 x4 ⟨_,x1,rfl,rfl⟩ ⟨_,x2,rfl,rfl⟩ λb x e=>aI _ (aI _ (aI _ (aI _ (aI _ e))))⟩
noncomputable def XS(K:aw)(a b:Addr):It:=
 ⟨λi H=>∃xs ys x y,SqT K H a xs/\SqL K H b ys/\xs[i]?=some x/\ys[i]?=some y,
  λi H v H'=>∃p x y,H p=none/\v= .ref p/\H'=AM H p (.tup [x,y])/\(∀xs,SqT K H a xs->xs[i]?=some x)/\(∀ys,SqL K H b ys->ys[i]?=some y),
  λi H=>∃xs ys,SqT K H a xs/\SqL K H b ys/\(xs.length<=i\/ys.length<=i)⟩
theorem aaY{x1}(a b z TI TO i1 i2:Addr)(D:ZipApart z TI TO i1 i2 a b) :
 Turn P w K (.Tuple elts x1 tpos) (XS K a b) [z,TI,TO,i1,i2] z (λi h=>xE h z TI TO .none/\oq h TI (.ref i1) (.ref i2)/\(∃u v,oq h TO u v)/\h.IsTupleIter i1 a i/\h.IsListIter i2 b i) where
 mem:=by simp
 obj:=λi h st c hc=>by
  obtain ⟨hz,hTI,⟨u,v,hTO⟩,⟨o1,ho1,c1,d1⟩,o2,ho2,c2,d2⟩:=st;have hc':c=z\/c=TI\/c=TO\/c=i1\/c=i2:=by simpa using hc
  rcases hc' with rfl | rfl | rfl | rfl | rfl
  . exact ⟨_,hz,λv z=>by cases z⟩
  . exact ⟨_,hTI,λv z=>by cases z⟩
  . exact ⟨_,hTO,λv z=>by cases z⟩
  . exact ⟨o1,ho1,λv z=>by rw[d1] at z;cases z⟩
  . exact ⟨o2,ho2,λv z=>by rw[d2] at z;cases z⟩
 keep:=λi h h' st k=>by
  obtain ⟨hz,hTI,⟨u,v,hTO⟩,h1,h2⟩:=st;exact ⟨k z (by simp) _ hz,k TI (by simp) _ hTI,⟨u,v,k TO (by simp) _ hTO⟩,h1.at λo q=>k i1 (by simp) o q,h2.at λo q=>k i2 (by simp) o q⟩
 item:=by
  intro X hP hw hK hc i AD s σ H E I hf st hg;subst hP hw hK;obtain ⟨hz,hTI,⟨u,v,hTO⟩,hi1,hi2⟩:=st;obtain ⟨xs,ys,x,y,hq1,hq2,hx,hy⟩:=hg;obtain ⟨Ru,rv1,p1,_⟩:=I.tuple hq1;obtain ⟨its2,rv2,p2,_⟩:=I.list hq2;obtain ⟨u1,hu1,ru1⟩:=rv1.get hx;obtain ⟨u2,hu2,ru2⟩:=rv2.get hy;have fz:=hf z (by simp);have fTI:=hf TI (by simp);have fTO:=hf TO (by simp);have f1:=hf i1 (by simp);have f2:=hf i2 (by simp);refine Q7 D hz hTI hTO hi1 hi2 (show s.heap.IsTuple a Ru.toArray from p1) p2.isList (m:=u1) (n:=u2) (by simpa using hu1) (by simpa using hu2) λh' hz' af9 afF hi2' hN' hk=>?_;refine ⟨_,rfl,?_⟩;refine wpAny_letOwnedTupleGo_zip (s:={ s with heap:=h' }) hz' λh2 hz2 sb2=>?_;have hnew:H s.heap.objs.size=none:=I.AR.fresh (aE _);have hpz:s.heap.objs.size≠z:=rg (cy hz);have hN2:oq h2 s.heap.objs.size u1 u2:=sb2.extBut _ _ hpz hN';have k2:∀c o,c≠z->c≠TO->c≠i1->c≠i2->s.heap.get? c=some o->h2.get? c=some o:=λc o c1 c2 c3 c4 q=>sb2.extBut c o c1 (hk c o c1 c2 c3 c4 q);have k3:∀c o,s.heap.get? c=some o->c∉[z,TI,TO,i1,i2]->h2.get? c=some o:=λc o q hc=>k2 c o (λe=>hc (by simp[e])) (λe=>hc (by simp[e])) (λe=>hc (by simp[e])) (λe=>hc (by simp[e])) q;have I2:=I.zK (tk:=s.toks) hf k3 hN2 rfl rfl ru1 ru2;refine ⟨.ref s.heap.objs.size,_,I2,rfl,⟨_,x,y,hnew,rfl,rfl,λys hy'=>by rw[I.yr hy' hq1];exact hx,λys' hy'=>by rw[I.wO hy' hq2];exact hy⟩,⟨hz2,?_,⟨_,_,sb2.extBut _ _ D.TOz af9⟩,afF.at λo q=>sb2.extBut _ o D.i1z q,hi2'.at λo q=>sb2.extBut _ o D.i2z q⟩,λb hb=>?_⟩
  . exact k2 TI _ D.TIz D.TITO D.TIi1 D.TIi2 hTI
  . have hb':=(hf b hb).1;have:b≠s.heap.objs.size:=by
     have hc':b=z\/b=TI\/b=TO\/b=i1\/b=i2:=by simpa using hb
     rcases hc' with rfl | rfl | rfl | rfl | rfl
     . exact fh (cy hz)
     . exact fh (cy hTI)
     . exact fh (cy hTO)
     . obtain ⟨o,ho,_⟩:=hi1;exact fh (cy ho)
     . obtain ⟨o,ho,_⟩:=hi2;exact fh (cy ho)
    rw[aH this];exact hb'
 done:=by
  intro X hP hw hK hc i AD s σ H E I hf st hg;subst hP hw hK;obtain ⟨hz,hTI,⟨u,v,hTO⟩,hi1,hi2⟩:=st;obtain ⟨xs,ys,hq1,hq2,hx⟩:=hg;obtain ⟨Ru,rv1,p1,_⟩:=I.tuple hq1;obtain ⟨its2,rv2,p2,_⟩:=I.list hq2;have l1:=rv1.length;have l2:=rv2.length;refine RP (I.ok.hd hc) D hz hTI hTO hi1 hi2 (show s.heap.IsTuple a Ru.toArray from p1) p2.isList (by
   rcases hx with h | h
   . exact .inl (by simp;lia)
   . exact .inr (by simp;lia)) λh' hk=>⟨rfl,?_⟩
  have k3:∀c o,s.heap.get? c=some o->c∉[z,TI,TO,i1,i2]->h'.get? c=some o:=λc o q hc=>hk c o (λe=>hc (by simp[e])) (λe=>hc (by simp[e])) (λe=>hc (by simp[e])) (λe=>hc (by simp[e])) q;have ge:∀c o,H c=some o->c∉[z,TI,TO,i1,i2]:=λc o q hc=>by rw[(hf c hc).1] at q;cases q
  have un:Un (frs X.stack) [z,TI,TO,i1,i2] H H s.heap h':=by
   refine ⟨λb o q n _ hc=>k3 b o q hc,λb o q n _ hc=>⟨o.slots,k3 b o q hc⟩,λb o q n hc=>n,λb o q hc=>⟨o,k3 b o q hc⟩,λb ys q=>q,λb o y q=>q,λ_ _ q=>q⟩
  have AR:HOk X.prog X.w H h':=λb o q=>by
   refine (I.AR b o q).stay (λc v hc q'=>?_) (λc q'=>q') λc ys q'=>q';rcases hc with rfl | hc
   . exact k3 c v q' (ge c _ q)
   . exact k3 c v q' (ge c _ hc)
  exact I.call' rfl un AR I.bare λb hb=>by
   obtain ⟨f0,f1,f2,f3,f4,f5⟩:=hf b hb;exact ⟨f3,f1,f4,f5⟩
 self:=λ_ _ _ _ _ st h=>wpAny_pyIter_zip st.1 h
def iZt(K:aw)(ta:TA):TI:=λσ H R=>ta σ H λvs H1=>∃a b xs ys,vs=[.ref a,.ref b]/\SqT K H1 a xs/\SqL K H1 b ys/\R (XS K a b) H1
theorem ae7{x1}{ta:TA}(hg:Gl X "zip")(hm:X.mg "zip"= none)(ha:PA X [a,b] ta)(hs:d6 [a,b] X.env=[(false,eval a X.env),(false,eval b X.env)]:=by rfl)(hs2:d6 [b] X.env=[(false,eval b X.env)]:=by rfl) :
 PI X (.Tuple elts x1 tpos) (.Call (.Name "zip" pos') [a,b] [] pos) (iZt X.K ta):=by
 intro AD s σ H R I h;refine Call_ (nH I hg hm (show fm "zip"= some (.type "zip") by decide +kernel) (iE (thn (ha pos AD s σ H _ I h) λus s1 az=>?_) (by rw[hs,hs2]) (by rw[hs2];rfl)));obtain ⟨vs,H1,I1,r1,q1⟩:=az;obtain ⟨l1,l2,xs,ys,e,hq1,hq2,q⟩:=q1;subst e
 cases r1 with
 | cons r rr=>
  cases rr with
  | cons r' rr=>
   cases rr;cases r;cases r';obtain ⟨Ru,rv1,p1,_⟩:=I1.tuple hq1;obtain ⟨its2,rv2,p2,_⟩:=I1.list hq2;have a1:l1<s1.heap.objs.size:=by obtain ⟨o,e,_⟩:=p1;exact cy e
   have a2:l2<s1.heap.objs.size:=by obtain ⟨o,n,e,_⟩:=p2;exact cy e
   refine aas (p1) p2.isList λh' N eN hz hTI hTO hi1 hi2 k=>?_;subst eN;refine wpAny_pyIter_zip hz ?_;have hfp:∀b,b∈[s1.heap.objs.size+4,s1.heap.objs.size+2,s1.heap.objs.size+3,s1.heap.objs.size,s1.heap.objs.size+1]->s1.heap.objs.size<=b:=λb hb=>by
    simp only[cp,nX,or_false] at hb;lia
   exact ⟨s1.heap.objs.size+4,[s1.heap.objs.size+4,s1.heap.objs.size+2,s1.heap.objs.size+3,s1.heap.objs.size,s1.heap.objs.size+1],_,_,H1,rfl,I1.kept k,aaY l1 l2 _ _ _ _ _ (zipApart_new a1 a2),⟨hz,hTI,⟨_,_,hTO⟩,hi1,hi2⟩,λb hb=>I1.rT (hfp b hb) (I1.AR.fresh (hfp b hb)),q⟩
end
noncomputable def Xc(m m':ME):MI:=λΓ=>(m Γ).bind λd=>(m' Γ).bind λe=>match d,e with
 | .tuple ds,.list es=>.ok (LC ds es)
 | _,_=>.bad
section
variable     {p:Pos}   {es:B4}{ws:C0}{q q':Addr}
theorem afi(hr:aA K A ds vs)(hr':aA K A es ws)(hq:∀H,aG A H->SqT K H q vs)(hq':∀H,aG A H->SqL K H q' ws):tu K A B (XS K q q') (LC ds es):=by
 have hl:=hr.length;have hl':=hr'.length;have he:(LC ds es).length=min vs.length ws.length:=by rw[LC,af,List.length_zip,hl,hl']
 refine ⟨λi H s1 s2 hi=>?_,λH s1 s2=>⟨vs,ws,hq H s1,hq' H s1,by lia⟩,λi A2 H x H' sa s1 s2 hi y=>?_⟩
 . exact ⟨vs,ws,vs[i]'(by lia),ws[i]'(by lia),hq H s1,hq' H s1,ai _,ai _⟩
 . obtain ⟨p,v,w,hq0,rfl,rfl,y,y'⟩:=y;obtain ⟨d,e1,rd⟩:=hr.get (y vs (hq H (sa.trans s1)));obtain ⟨d',e1',rd'⟩:=hr'.get (y' ws (hq' H (sa.trans s1)));have g:=aX.new (o:=.tup [v,w]) s1 hq0;refine ⟨_,.tuple [d,d'],?_,g,Rp.tuple.mpr ⟨p,_,rfl,SqT.of aY,aA.cons.mpr ⟨_,_,rfl,Rp.mono (sa.trans g.aa) d rd,aA.one (Rp.mono (sa.trans g.aa) d' rd')⟩⟩⟩;rw[LC,br,List.getElem?_zip_eq_some (z:=(d,d')).mpr ⟨e1,e1'⟩];rfl
theorem aa6{x1}(hg:Gl X "zip")(hm:X.mg "zip"= none)(ha:QE X a (tE X.K O m))(hb:QE X b (tE X.K O m'))(hs:d6 [a,b] X.env=[(false,eval a X.env),(false,eval b X.env)]:=by rfl)(hs2:d6 [b] X.env=[(false,eval b X.env)]:=by rfl):QI X (.Tuple elts x1 tpos) (.Call (.Name "zip" p) [a,b] [] pos) (tI X.K O (Xc m m')):=
 QI.imp (ae7 hg hm (bY ha.h (bY hb.h eQ hs2) (by rw[hs,hs2])) hs hs2) λσ H R az=>by
  obtain ⟨A,B,Γ,xs,r,em,k⟩:=az;obtain ⟨d,e1,em⟩:=AI.au em;obtain ⟨d',e2,em⟩:=AI.au em
  cases d with
  | tuple ds=>
   cases d' with
   | list es=>
    cases em;refine ⟨A,B,Γ,_,r,e1,λv A1 H1 g1 p1=>⟨A1,B,Γ,_,r.grow g1,e2,λv' A2 H2 g2 p2=>?_⟩⟩;obtain ⟨q,vs,rfl,h1,h2⟩:=Rp.tuple.mp (Rp.mono g2.aa _ p1);obtain ⟨q',ws,rfl,h1',h2'⟩:=Rp.list.mp p2;exact ⟨q,q',vs,ws,rfl,g2.ah.fP h1,g2.ah.seq h1',k _ A2 H2 (g1.trans g2) (afi h2 h2' (λH s=>s.fP h1) λH s=>s.seq h1')⟩
   | _=>cases em
  | _=>cases em
end
section
variable     {p p2 pos2:Pos}
noncomputable def u9:B4->AI ab
 | [.dict AE]=>.ok (.int AE.length)
 | _=>.bad
theorem bw.len:∀{AE:B0}{u:A8},bw K A AE u->AE.length=u.length
 | [],u,h=>by rw[bw.nil.mp h];rfl
 | (k,d)::r,u,h=>by
  obtain ⟨key,v,u',rfl,_,_,h⟩:=bw.cons.mp h;rw[a9,a9,bw.len h]
theorem FQ:fM X (.builtin "len") (rC X.K u9):=by
 rintro AD s σ H xs us Q I r ⟨A,ds,d,e,ha,p,k⟩
 match ds,e with
 | [.dict AE],e=>
  cases e;obtain ⟨v,r',rfl,p1,p2⟩:=p.cons;obtain rfl:=p2.nil;obtain ⟨l,u,rfl,h1,q1⟩:=p1.dict ha;obtain ⟨z,rfl,rx⟩:=vals1 r;cases rx;exact aeG I h1 λt s' I'=>⟨.int AE.length,H,I',⟨t,by rw[q1.len]⟩,k _ A H (aX.refl ha) (Rp.int.mpr rfl)⟩
end
theorem len0{α:Type}{P:List α->Prop}(h:P [])(us:List α)(e:us.length=0):P us:=by
 rw[ly.mp e];exact h
theorem ady{α:Type}{P:List α->Prop}(h:∀a0,P [a0])(us:List α)(e:us.length=1):P us:=by
 cases us with
 | nil=>cases e
 | cons a r=>exact len0 (P:=λr=>P (a::r)) (h a) r (Nat.succ.inj e)
theorem acy{α:Type}{P:List α->Prop}(h:∀a0 a1,P [a0,a1])(us:List α)(e:us.length=2):P us:=by
 cases us with
 | nil=>cases e
 | cons a r=>exact ady (P:=λr=>P (a::r)) (λb0=>h a b0) r (Nat.succ.inj e)
theorem ace{α:Type}{P:List α->Prop}(h:∀a0 a1 a2,P [a0,a1,a2])(us:List α)(e:us.length=3):P us:=by
 cases us with
 | nil=>cases e
 | cons a r=>exact acy (P:=λr=>P (a::r)) (λb0 b1=>h a b0 b1) r (Nat.succ.inj e)
theorem agu{α:Type}{P:List α->Prop}(h:∀a0 a1 a2 a3,P [a0,a1,a2,a3])(us:List α)(e:us.length=4):P us:=by
 cases us with
 | nil=>cases e
 | cons a r=>exact ace (P:=λr=>P (a::r)) (λb0 b1 b2=>h a b0 b1 b2) r (Nat.succ.inj e)
theorem aex{st:Stmt}(h:∀(kV doc pm:a8) (an:C4) (AH ct:a8) (a0:a8),kF (fe x x (cF st) (bV st) (aN st) .none kV doc pm an AH ct) ⟨[a0],[]⟩=pure (ps.zip [a0]))(hp:ps.length=1) :
 ∀(kV doc pm:a8) (an:C4) (AH ct:a8) (us:B8),us.length=ps.length->kF (fe x x (cF st) (bV st) (aN st) .none kV doc pm an AH ct) ⟨us,[]⟩=pure (ps.zip us):=λkV doc pm an AH ct us hl=>
 ady (P:=λus=>kF (fe x x (cF st) (bV st) (aN st) .none kV doc pm an AH ct) ⟨us,[]⟩=pure (ps.zip us)) (h kV doc pm an AH ct) us (hl.trans hp)
theorem X4{st:Stmt}(h:∀(kV doc pm:a8) (an:C4) (AH ct:a8) (a0 a1:a8),kF (fe x x (cF st) (bV st) (aN st) .none kV doc pm an AH ct) ⟨[a0,a1],[]⟩=pure (ps.zip [a0,a1]))(hp:ps.length=2) :
 ∀(kV doc pm:a8) (an:C4) (AH ct:a8) (us:B8),us.length=ps.length->kF (fe x x (cF st) (bV st) (aN st) .none kV doc pm an AH ct) ⟨us,[]⟩=pure (ps.zip us):=λkV doc pm an AH ct us hl=>
 acy (P:=λus=>kF (fe x x (cF st) (bV st) (aN st) .none kV doc pm an AH ct) ⟨us,[]⟩=pure (ps.zip us)) (h kV doc pm an AH ct) us (hl.trans hp)
theorem adN{st:Stmt}(h:∀(kV doc pm:a8) (an:C4) (AH ct:a8) (a0 a1 a2:a8),kF (fe x x (cF st) (bV st) (aN st) .none kV doc pm an AH ct) ⟨[a0,a1,a2],[]⟩=pure (ps.zip [a0,a1,a2]))(hp:ps.length=3) :
 ∀(kV doc pm:a8) (an:C4) (AH ct:a8) (us:B8),us.length=ps.length->kF (fe x x (cF st) (bV st) (aN st) .none kV doc pm an AH ct) ⟨us,[]⟩=pure (ps.zip us):=λkV doc pm an AH ct us hl=>
 ace (P:=λus=>kF (fe x x (cF st) (bV st) (aN st) .none kV doc pm an AH ct) ⟨us,[]⟩=pure (ps.zip us)) (h kV doc pm an AH ct) us (hl.trans hp)
theorem aec{st:Stmt}(h:∀(kV doc pm:a8) (an:C4) (AH ct:a8) (a0 a1 a2 a3:a8),kF (fe x x (cF st) (bV st) (aN st) .none kV doc pm an AH ct) ⟨[a0,a1,a2,a3],[]⟩=pure (ps.zip [a0,a1,a2,a3]))(hp:ps.length=4) :
 ∀(kV doc pm:a8) (an:C4) (AH ct:a8) (us:B8),us.length=ps.length->kF (fe x x (cF st) (bV st) (aN st) .none kV doc pm an AH ct) ⟨us,[]⟩=pure (ps.zip us):=λkV doc pm an AH ct us hl=>
 agu (P:=λus=>kF (fe x x (cF st) (bV st) (aN st) .none kV doc pm an AH ct) ⟨us,[]⟩=pure (ps.zip us)) (h kV doc pm an AH ct) us (hl.trans hp)
def Fnd(K:aw)(x:Str)(st:Stmt):Prop:=∃(f:Addr) (oc:a8) (od an:C4) (sl:Array B7) (kV doc pm AH ct:a8),iL K ff x=some (some (.ref f)) /\
 K.lookup f=some ⟨oc,od,.func (fe x x (cF st) (bV st) (aN st) .none kV doc pm an AH ct),sl⟩/\mr K AH x=true/\lh K (.ref f)=true
theorem Fnd.mk{st:Stmt}{oc:a8}{od an:C4}{sl:Array B7}{kV doc pm AH ct:a8}(a:iL K ff x=some (some (.ref p)))
 (l:K.lookup p=some ⟨oc,od,.func (fe x x (cF st) (bV st) (aN st) .none kV doc pm an AH ct),sl⟩) (c:mr K AH x=true) (k:lh K (.ref p)=true):Fnd K x st:=⟨_,_,_,_,_,_,_,_,_,_,a,l,c,k⟩
theorem Fnd.at{st:Stmt}(F:Fnd K x st)(X:K.In h)(G:h.Ns ff mg)
 (b:∀(kV doc pm:a8) (an:C4) (AH ct:a8) (us:B8),us.length=ps.length->kF (fe x x (cF st) (bV st) (aN st) .none kV doc pm an AH ct) ⟨us,[]⟩=pure (ps.zip us):=by first | exact aex (λ_ _ _ _ _ _ _=>rfl) rfl | exact X4 (λ_ _ _ _ _ _ _ _=>rfl) rfl | exact adN (λ_ _ _ _ _ _ _ _ _=>rfl) rfl | exact aec (λ_ _ _ _ _ _ _ _ _ _=>rfl) rfl):At K mg x st ps:=by
 obtain ⟨f,oc,od,an,sl,kV,doc,pm,AH,ct,a,l,c,k⟩:=F;exact At.mk' (iA X G a) l c k b
theorem sck{P:B6}{sc:vv}(a:sc.kind= .function:=by rfl)(b:sc.isCoroutine=false:=by rfl)(c:sc.isGenerator=false:=by rfl)(d:N.Nodup:=by decide +kernel)(e:N.take P.length=P:=by rfl)
 (f:∀x∈P,sc.names.lookup x=some .local\/sc.names.lookup x=some .cell:=by decide +kernel) (g:∀y∈sc.names,y.2 ≠ .free:=by decide +kernel):cP N P sc:=⟨a,b,c,d,e,f,g⟩
section
variable      {s1 s2 mb:MS}{iter:Expr}  {st:Stmt}{rest body:C5}{p:Pos}{it:MI}{g:MG}{gs:List MG}{mc:ME}{is js:B5}{k n:Nat}   {fs:B9}{f:B4->AI ab}
theorem aW(h1:QS X st (tS K rm Ol O O s1))(h2:QSs X rest (tS K rm Ol O O2 s2)):QSs X (st::rest) (tS K rm Ol O O2 (aK s1 s2)):=bN h1 h2
theorem pG(h1:QG X e (tG X.K O O is g))(h2:QGs X es (tGs X.K O O2 js gs))(hs:(nz (e::es) X.env).map (·.2)=assign e X.env::(nz es X.env).map (·.2):=by rfl):QGs X (e::es) (tGs X.K O O2 (is++js) (g::gs)):=mL h1 h2 hs
theorem d8(cl:B5)(hi:QI X tg iter (tI X.K O it))(hg:QG X tg (tG X.K O O is g))(hb:QSs X body (tS X.K rm O O O mb))(hp:vn (eJ X.prog X.w) X.A X.env X.xe:=by exact gx)(hc:X.calm=true:=by rfl)(hE:ph O O cl=true:=by decide)
 (hs:∀x,jI iter X.env x=pure x:=by intro _;rfl):QS X (.For tg iter body [] pos) (tS X.K rm Ol O O (cL it g cl mb)):=kW hp hc cl hi hg hb hE hs
theorem aeU(fuel:Nat)(cl:B5)(hc:QT X c (tT X.K O mc))(hb:QSs X body (tS X.K rm O O O mb))(hp:vn (eJ X.prog X.w) X.A X.env X.xe:=by exact gx)(hE:ph O O cl=true:=by decide):QS X (.While c body [] pos) (tS X.K rm Ol O O (sy fuel mc cl mb)):=VN hp fuel cl hc hb hE
theorem bH(i:Nat)(hN:X.N.Nodup)(he:QE X e (tE K O m))(hi:X.N[i]?=some x:=by rfl)(hx:Loc X.env.scope x:=by first | exact .inl rfl | exact .inr rfl)(hl:i<O.length:=by exact of_decide_eq_true rfl)(hs:ip e (some (.Name x pos')) pos.line X.env=pure false:=by rfl)
 (hf:X.fn x=true\/X.env.scope.names.lookup x=some .local:=by walk_at "hf") (hO:O.set i .AO=O2:=by rfl):QS X (.Assign [.Name x pos'] e pos) (tS K rm Ol O O2 (bc i m)):=adz i hN hi hx he hl hs hf hO
theorem eV(i:Nat)(hN:X.N.Nodup)(he:QE X e (tF K O m))(hi:X.N[i]?=some x:=by rfl)(hx:Loc X.env.scope x:=by first | exact .inl rfl | exact .inr rfl)(hl:i<O.length:=by exact of_decide_eq_true rfl)(hs:ip e (some (.Name x pos')) pos.line X.env=pure false:=by rfl)
 (hf:X.fn x=true\/X.env.scope.names.lookup x=some .local:=by walk_at "hf") (hO:O.set i .own=O2:=by rfl):QS X (.Assign [.Name x pos'] e pos) (tS K rm Ol O O2 (bc i m)):=Zx i hN hi hx he hl hs hf hO
theorem dJ(ha:QE X a (tP X.K O m1))(hb:QE X b (tP X.K O m2))(hs:lF b:=by exact λ_ _=>rfl):QE X (.Subscript a b pos) (tE X.K O (ao AQ m1 m2)):=YZ ha hb hs
theorem sI{i:Int}:QE X (.Constant (.int i) j pos) (tP K O (eC (.int i))):=sp gb
theorem bx{i:Int}(hr:QA X es (tAi K O ms)):QA X (.Constant (.int i) j pos::es) (tAi K O (eC (.int i)::ms)):=aD gb hr
theorem aO(i:Nat)(hr:QA X es (tAr X.K O fs ms))(nm:Nm X i x:=by walk_at "nm")(hx:isX (fl O i)=false:=by rfl):QA X (.Name x p::es) (tAr X.K O (.AN::fs) (aj i::ms)):=bz (aq i nm hx) hr
theorem sx(i:Nat){k:Int}(nm:Nm X i x:=by walk_at "nm")(hx:isX (fl O i)=false:=by rfl)(hs:lF (.Constant (.int k) j pos'):=by exact λ_ _=>rfl) :
 QE X (.Subscript (.Name x p) (.Constant (.int k) j pos') pos) (tE X.K O (ao AQ (aj i) (eC (.int k)))):=YZ (aq i nm hx) (sp gb) hs
theorem cM(i:Nat)(hN:X.N.Nodup)(hi:X.N[i]?=some x:=by rfl)(hx:Loc X.env.scope x:=by first | exact .inl rfl | exact .inr rfl)(hl:i<O.length:=by exact of_decide_eq_true rfl)(hf:X.fn x=true\/X.env.scope.names.lookup x=some .local:=by walk_at "hf")(hO:O.set i .AO=O2:=by rfl) :
 QG X (.Name x p) (tG X.K O O2 [i] (gN i)):=dq i hN hi hx hl hf hO
theorem cN{f:C8}(ho:OpR X (fw op) (rD K f))(ha:QE X a (tP K O m1))(hb:QE X b (tP K O m2))(hm:oo op b=false:=by exact yj _):QT X (.Compare a [op] [b] pos) (tT K O (ao f m1 m2)):=tH ho ha hb hm
theorem bJ(F:Def X.prog X.w X.K X.mg X.base k x ps (spF X.K fs .f f))(hr:dz n X.A)(ha:QA X (e::es) (tAr X.K O fs ms))(hk:k<=n:=by decide)(hg:Gl X x:=by rfl)(hdb:nD x:=by decide)
 (he:AV e=true:=by rfl) (hpl:jh es=true:=by rfl):QE X (.Call (.Name x p) (e::es) [] pos) (tE X.K O (aM f ms)):=jO F (hr.mono hk) hg ha hdb he hpl
theorem sW(F:Def X.prog X.w X.K X.mg X.base k x ps (spF X.K fs .t f))(hr:dz n X.A)(ha:QA X (e::es) (tAr X.K O fs ms))(hk:k<=n:=by decide)(hg:Gl X x:=by rfl)(hdb:nD x:=by decide)
 (he:AV e=true:=by rfl) (hpl:jh es=true:=by rfl):QE X (.Call (.Name x p) (e::es) [] pos) (tF X.K O (aM f ms)):=Fz F (hr.mono hk) hg ha hdb he hpl
end
section
variable     {base:Heap}
theorem bQ{k:Nat}{m:MS}(st:Stmt)(N:B6)(O:B9)(F:At K mg x st ps)
 (hbody:∀{f:Addr}{AH:a8}{A:iS}{AX:C6}{s:dc}{H:Hp}{E:XK},N.Nodup->dz k (A.deeper (oz x (aN st) s.heap.objs.size f AH)) ->
  QSs (mF CX0 P w K mg base N x (aN st) f AH A AX s H E).nox (bV st) (tS K rm [] O [] m)) (S:cP N ps (aN st):=by exact sck) (hf:Ol.length=ps.length:=by rfl) (hn:ps.length<=N.length:=by decide)
 (hO:∀i,i<Ol.length->(fl O i= .AO/\fl Ol i= .AO)\/fl O i= .AN:=by decide):Def P w K mg base (k+1) x ps (spF K Ol rm (fnR N.length m)):=adi F S hf hn hO λ_ _ _ _ _ _ _ hr=>hbody S.nd hr
end
end Zq
namespace PySem
open Sem (wp)
end PySem
namespace Zq
open PySem PySem.Spec PyProof.Rows
noncomputable def uI(c:ME)(cl:B5)(b:MS)(zb:MZ):Nat->MZ
 | 0,_=>.bad
 | n+1,Γ=>(c Γ).bind λx=>match x with
  | .bool true=>(match b Γ with
   | .ok (.nx Γ2)=>uI c cl b zb n (clr cl Γ2)
   | _=>zb Γ)
  | _=>.bad
noncomputable def adu(fuel:Nat)(c:ME)(cl:B5)(b:MS)(zb:MZ):MZ:=λΓ=>uI c cl b zb fuel Γ
variable {P:gc}{w:kT}{K:aw}{mg:Str->B7}{a:Addr}
theorem Su{mb:Str->B7}{CX:CXT}{k:Nat}{fa:Addr}{fd:nN}{x:Str}{sp:Sp}{s₁:dc}{vs:B8}{ns:B3}
 (KX:K.In s₁.heap) (hns:s₁.heap.Ns ff mg) (hb:s₁.heap.Ns qk mb) (hbb:∀x:Str,x ≠ "__name__" -> mb x=fm x) (hlim:s₁.heap.NoLimit) (hg:s₁.gens=#[]) (hbm:∃bm ob,mg "__builtins__"= some (.ref bm)/\bm≠qk/\s₁.heap.get? bm=some ob/\ob.cls= .type "module" /\ ob.dict=some qk/\ob.data= .plain)
 (hT:∀T,TabAt K mg T->s₁.heap.get? T=some { cls:=.none,data:=.fields #[] }/\K.lookup T=none)
 (ha:s₁.heap.get? a=some { cls:=.type "list",data:=.seq vs.toArray }) (hi:wm vs ns) (hl:ns.length<=bE) (hr:dz k zv)
 (F:∀base:Heap,K.In base->base.Ns ff mg->rR P w K mg base CX k fa fd [x] sp) (hbind:∀(s:dc) (u:a8),BindsTo s fd ⟨[u],[]⟩ [(x,u)])
 (hsp:∀H:Hp,SqL K H a (ns.map V.int)->sp [.ref a] H (λv _=>v= .bl true) λ_ _ _=>False)
 (hCX:∀H e s',CX [] H s₁ (λ_ _ _=>False) e s'->False) :
 ya (eJ P w) zv (.call (.ref fa) ⟨[.ref a],[]⟩) (λr s'=>r= .ok (.ret (.bool true))/\OldK s₁.heap s'.heap/\s'.os=s₁.os/\wb s'.gens) s₁:=by
 have rv:=Gv hi;have lenV:=hi.length;have aT:∀T,TabAt K mg T->T≠a:=λT h z=>by
  have:=(hT T h).1;rw[z,ha] at this;cases this
 have core:∀H:Hp,(∀b,H b=none\/(∃o xs,H b=some (.frz o (.lst xs)))\/(H b=some (.tbl jk)/\TabAt K mg b))->(∀T,TabAt K mg T->H T=some (.tbl jk))->SqL K H a (ns.map V.int)->HOk P w H s₁.heap->(∀b,H b≠none->b=a\/TabAt K mg b)->(H a≠none->K.lookup a=none) ->
  ya (eJ P w) zv (.call (.ref fa) ⟨[.ref a],[]⟩) (λr s'=>r= .ok (.ret (.bool true))/\OldK s₁.heap s'.heap/\s'.os=s₁.os/\wb s'.gens) s₁:=by
  intro H hO hTT hS AR hA hK;have Fy:∀{b:Addr}{o:Obj},s₁.heap.get? b=some o->H b=none->(yx s₁.heap H).get? b=some o:=λe n=>Xz e n;have noA:∀{b:Addr}{o:Obj}{es:Array ra}{ep:Nat},s₁.heap.get? b=some o->o.data= .dict es ep->H b=none:=λ{b o es ep} e d=>by
   cases q:H b with
   | none=>rfl
   | some u=>
    rcases hA b (by rw[q];simp) with e' | e'
    . subst e';rw[ha] at e;cases e;have d':=d;cases d'
    . rw[(hT b e').1] at e;cases e;have d':=d;cases d'
  have nsK:∀{b:Addr}{m:Str->B7},s₁.heap.Ns b m->(yx s₁.heap H).Ns b m:=λ{b m} ⟨o,es,ep,e,d,r⟩=>⟨o,es,ep,Fy e (noA e d),d,r⟩;have hKb:=λb o e=>Fy (KX b o e) (by
   cases q:H b with
   | none=>rfl
   | some u=>
    rcases hA b (by rw[q];simp) with e' | e'
    . subst e';rw[hK (by rw[q];simp)] at e;cases e
    . rw[(hT b e').2] at e;cases e)
  have hM:Mod K mg (yx s₁.heap H):=⟨hKb,nsK hns,⟨mb,nsK hb,hbb⟩,let ⟨mc,h1,h2⟩:=hlim;⟨mc,nsK h1,h2⟩,by
   obtain ⟨bm,ob,b1,b2,b3,b4,b5⟩:=hbm;refine ⟨bm,ob,b1,b2,Fy b3 ?_,b4,b5⟩
   cases q:H bm with
   | none=>rfl
   | some u=>
    rcases hA bm (by rw[q];simp) with e' | e'
    . rw[e',ha] at b3;cases b3;have b4:=b4;injection b4 with z;exact absurd z (by decide)
    . rw[(hT bm e').1] at b3;cases b3;cases b4⟩
  have e0:Qi P w K mg (yx s₁.heap H) zv [] s₁ H:=⟨rfl,hM,λb o e=>abB e,Nat.le_of_eq (Tg _ _),trivial,λb hb=>absurd (show b∈([]:C2) from hb) (by simp),AR,.of_eq hg,hTT⟩;refine codeAny_mono ((F _ hKb (nsK hns)).run zv [] s₁ H ⟨[.ref a],[]⟩ [.ref a] [.ref a] _ _ hr e0 (hbind s₁ (.ref a)) (.cons rfl .nil) (hsp H hS)) λr s' h=>?_
  cases r with
  | error e=>exact (hCX H e s' h).elim
  | ok fl=>
   cases fl with
   | next=>exact lI h
   | brk=>exact lI h
   | cont=>exact lI h
   | ret u=>
    obtain ⟨v,H',os,bare,un,hok',r',q⟩:=h;have q':=q;subst q';obtain rfl:u=a8.bool true:=r';have tabs:∀b,H b=some (.tbl jk)->∃ps,s'.heap.get? b=some { cls:=.none,data:=.fields ps }:=λb z=>by
     obtain ⟨ps,e,_⟩:=hok' b _ (un.nF b _ z);exact ⟨ps,e⟩
    refine ⟨rfl,⟨λb o e=>?_,λb o e=>un.there b o e (by simp)⟩,os,bare⟩
    cases q:H b with
    | none=>exact .inl (un.keep b o e q (by intro z;exact absurd (show b∈([]:C2) from z) (by simp)) (by simp))
    | some u=>
     rcases hO b with z | ⟨ob,xs,z⟩ | ⟨z,zt⟩
     . rw[q] at z;cases z
     . have z2:=un.qd b ob _ z;obtain ⟨e1,_⟩:=AR b _ z;obtain ⟨e2,_⟩:=hok' b _ z2;rw[e] at e1;cases e1;exact .inl e2
     . obtain ⟨ps,e2⟩:=tabs b z;have e3:=(hT b zt).1;rw[e] at e3;cases e3;obtain ⟨f,o,fd',c,t1,t2,t3,t4,t5⟩:=zt;obtain ⟨oc,vc,_,_,_,_,_,_,_,c1,c2,c3,c4,_⟩:=PySem.W.codeHd_of_K KX t5;exact .inr (.inl ⟨⟨c,oc,vc,c1,c2,c3,c4⟩,rfl,#[],ps,rfl,by rw[Array.empty_append];exact e2⟩)
 have acj:∀T,TabAt K mg T->∀H:Hp,fX P w H s₁.heap T (.tbl jk):=λT h H=>⟨#[],(hT T h).1,trivial,λpos cv z=>nomatch z⟩;have dec:∀T,Decidable (TabAt K mg T):=λT=>Classical.propDecidable _
 cases hk:K.lookup a with
 | some o=>
  have e:=KX a o hk;rw[ha] at e;cases e;refine core (λb=>if TabAt K mg b then some (.tbl jk) else none) (λb=>?_) (λT h=>if_pos h) (.inr ⟨_,vs.toArray,_,hk,rfl,rfl,rfl,by rw[dQ,lenV];exact hl,by simpa using rv⟩) (λb u z=>?_) (λb z=>?_) λz=>?_
  . by_cases h:TabAt K mg b
    . exact .inr (.inr ⟨if_pos h,h⟩)
    . exact .inl (if_neg h)
  . by_cases h:TabAt K mg b
    . have z':=(if_pos h).symm.trans z;cases z';exact acj b h _
    . have z':=(if_neg h).symm.trans z;cases z'
  . by_cases h:TabAt K mg b
    . exact .inr h
    . exact absurd (if_neg h) z
  . exact absurd (if_neg λh=>aT a h rfl) z
 | none=>
  refine core (λb=>if b=a then some (.frz { cls:=.type "list",data:=.seq vs.toArray } (.lst (ns.map V.int))) else if TabAt K mg b then some (.tbl jk) else none) (λb=>?_) (λT h=>(if_neg (aT T h)).trans (if_pos h)) (.inl (.inr ⟨{ cls:=.type "list",data:=.seq vs.toArray },if_pos rfl⟩)) (λb u z=>?_) (λb z=>?_) λ_=>hk
  . by_cases hb:b=a
    . exact .inr (.inl ⟨_,_,if_pos hb⟩)
    . by_cases h:TabAt K mg b
      . exact .inr (.inr ⟨(if_neg hb).trans (if_pos h),h⟩)
      . exact .inl ((if_neg hb).trans (if_neg h))
  . by_cases hb:b=a
    . have z':=(if_pos hb).symm.trans z;cases z';subst hb;exact ⟨ha,by rw[af];exact hl,vs,_,rv,ha⟩
    . by_cases h:TabAt K mg b
      . have z':=((if_neg hb).trans (if_pos h)).symm.trans z;cases z';exact acj b h _
      . have z':=((if_neg hb).trans (if_neg h)).symm.trans z;cases z'
  . by_cases hb:b=a
    . exact .inl hb
    . by_cases h:TabAt K mg b
      . exact .inr h
      . exact absurd ((if_neg hb).trans (if_neg h)) z
variable {c:Addr}
theorem Qt{P Q:Addr}(h:i8 K c P=true)(g:i8 K c Q=true):P=Q:=by
 unfold i8 at h g;split at h
 . rename_i vs _ hk;rw[hk] at g;simp only[dS] at h g;have h1:=h.1.1.1.1.1;have g1:=g.1.1.1.1.1;split at h1
   . rename_i P' e;rw[e] at g1;exact (beq_iff_eq.mp h1).symm.trans (beq_iff_eq.mp g1)
   . cases h1
 . cases h
noncomputable def pJ(K:aw)(f P:Addr):Bool:=(match K.lookup f with
 | some ⟨_,_,.func fd,_⟩=>(match fd.code with
  | .ref c=>i8 K c P
  | _=>false)
 | _=>false)&&(K.lookup P).isNone
theorem aai{P:Addr}(hm:mg "ways"= some (.ref a))(h:pJ K a P=true):∀T,TabAt K mg T->T=P/\K.lookup T=none:=by
 rintro T ⟨f',o,fd,c,t1,t2,t3,t4,t5⟩;rw[hm] at t1;cases t1;unfold pJ at h;rw[dS] at h;obtain ⟨h1,h2⟩:=h;rw[t2] at h1;obtain ⟨oc,od,da,sl⟩:=o;have t3:=t3;subst t3;have h1:(match fd.code with
  | .ref c=>i8 K c P
  | _=>false)=true:=h1
 rw[t4] at h1;have e:=Qt t5 h1;subst e;exact ⟨rfl,by simpa using h2⟩
variable {T:Addr}{x:Str}
theorem Yd{l:x6}{n k:Nat}{q:gc}{loose:B6}{XP:(Str->B7)->Heap->Prop}{d:DefRec}{K:Params->aw}{as:C2}{e:∀P,as=(K P).map (·.1)}{CX:kT->CXT}{sp:kT->Sp}
 (hn:l.most=some n) (hn2:n<=bE) (hdf:d.params.defaults=[]) (hr:dz k zv)
 (F:∀(w:kT) (mg:Str->B7) (fa:Addr) (h:Heap),(K w.params).In h->h.Ns ff mg->mg d.name=some (.ref fa) ->
  ∃fd:nN,(∀(s:dc) (u:a8),BindsTo s fd ⟨[u],[]⟩ [(x,u)])/\(∃f,mg "ways"= some (.ref f)/\pJ (K w.params) f T=true) /\
   ∀base:Heap,(K w.params).In base->base.Ns ff mg->rR l.prog w (K w.params) mg base (CX w) k fa fd [x] (sp w))
 (hsp:∀(w:kT) (H:Hp) (a:Addr) (ns:B3),ns.length<=n->SqL (K w.params) H a (ns.map V.int)->sp w [.ref a] H (λv _=>v= .bl true) λ_ _ _=>False)
 (hCX:∀(w:kT) (H:Hp) (s:dc) (e:a8) (s':dc),CX w [] H s (λ_ _ _=>False) e s'->False) :
 PySem.W.WalkO q loose XP (PySem.W.kmHook K as e [T]).says l.row.toRowW d [] (λf vs=>PySem.call f vs):=by
 refine Att.Mu hn hdf λw s₀ s₁ mg mb fa o pm cd doc a vs ns G Y ho hd hcd hmg hobj hints hlen hg=>?_;have KX:=PySem.W.km_in_of Y;obtain ⟨fd,hb,⟨f,hf,ht⟩,hF⟩:=F w mg fa _ KX G.T.g hmg;refine Su KX G.T.g G.T.b G.T.builtins G.T.nolimit hg G.T.bmain (λP h=>?_) hobj hints (dy hlen hn2) hr hF hb (λH hS=>hsp w H a ns hlen hS) λH e s'=>hCX w H s₁ e s';obtain ⟨e1,e2⟩:=aai hf ht P h;subst e1;exact ⟨PySem.W.km_tabs_of Y P (by simp),e2⟩
def Kept(h h':Heap):Prop:=∀b o,h.get? b=some o->h'.get? b=some o
theorem Kept.trans{a b c:Heap}(x:Kept a b)(y:Kept b c):Kept a c:=λp o e=>y p o (x p o e)
variable {h:Heap}
theorem Kept.push(o:Obj):Kept h (h.push o):=λ_ _ e=>aI _ e
def Tells(s:dc)(h:Heap)(n:Int)(x:a8)(s':dc):Prop:=∃h2 tk2 t,x= .int n t/\s'={ s with heap:=h2,toks:=tk2 }/\Kept h h2
variable {E Q:B2}{s:dc}{ep:Nat}
section
variable {prog:gc}  {A:iS}   {hA:Heap}{K:Type} [DecidableEq K] {knd:KeyKind prog w K}{AE:List (K×a8)}  {d q I S:Addr}{R:Result->dc->Prop}
def Dh(knd:KeyKind prog w K)(AE:List (K×a8))(i:Nat)(v:a8):Prop:=∃k x,AE[i]?=some (k,x)/\knd.is k v=true
def PJ(kf:Nat->Int)(i j:Nat):Prop:=∀l,l<j->kf i<=kf l/\(l<i->kf i<kf l)
theorem Xv(kf:Nat->Int)(hh:A.handled=none)(hm:hA.DictAt knd d AE ep)(hI:hA.get? I=none)(hS:hA.get? S=none)(hIS:S≠I)
 (turn:∀i key,Dh knd AE i key->∀h tk,Kept hA h->eh (eJ prog w) A.in1 (call (.ref q) [key]) (Tells s h (kf i)) (λ_ _=>False) { s with heap:=h,toks:=tk })
 (hR:∀i v h' tk',i<AE.length->Dh knd AE i v->PJ kf i AE.length->Kept hA h'->R (.ok (.ret v)) { s with heap:=h',toks:=tk' }) :
 ∀(r j i:Nat) (h:Heap) (tk:Nat) (vb:a8) (tb:Tok) (c:Nat),AE.length - j=r->j<=AE.length->Kept hA h->h.get? S=some (seqObj "list" #[vb,.int (kf i) tb] c)->h.IsKeyIter I d j AE.length ep ->
  Dh knd AE i vb->i<j->PJ kf i j->ya (eJ prog w) A (.builtin "min.loop" ⟨[.ref I,.ref q,.ref S],[]⟩) R { s with heap:=h,toks:=tk }:=by
 have nm:(toString "min" ++ toString ".loop" : String) = "min.loop" := by decide
 have hd:hA.get? d≠none:=by
  obtain ⟨o,es,ho,_⟩:=hm;rw[ho];simp
 have dI:d≠I:=λz=>hd (z ▸ hI);have W:=Walks.dictKeys (knd:=knd) (A:=A.in1) hh I d dI AE ep;have off:∀{h h':Heap}{b:Addr},Kept hA h->hA.get? b=none->(∀a o,a≠b->h.get? a=some o->h'.get? a=some o)->Kept hA h':=λk n x a o e=>x a o (λz=>by rw[z,n] at e;cases e) (k a o e);have dAt:∀{h:Heap},Kept hA h->h.DictAt knd d AE ep:=λk=>hm.at' λo e=>k d o e;have upS:∀{h:Heap} (f:Array a8->Array a8) (a:Addr) (o:Obj),a≠S->h.get? a=some o->(h.update S (yn f)).get? a=some o:=λf a o ne e=>((pe ..).2 a ne).trans e;intro r
 induction r with
 | zero=>
  intro j i h tk vb tb c hr hj kp hs it hv hij hb;have hjn:j=AE.length:=by lia
  subst hjn;refine zd r9 ?_;rw[tj i9 _];refine ag (fR hs rfl ?_);refine ag (oP (W.done _ _ _ ⟨it,dAt kp⟩ λh' tk' k'=>?_));have k1:∀a o,a≠I->h.get? a=some o->h'.get? a=some o:=λa o ne e=>k' a o (by simpa using ne) e;show eh _ _ (updateSeq S (λ_=>#[]) >>= _) _ _ _;refine ag (uS (k1 S _ hIS hs) rfl (ag (rf (bt ?_))));exact hR i vb _ _ hij hv hb (off (off kp hI k1) hS (upS _))
 | succ r ih=>
  intro j i h tk vb tb c hr hj kp hs it hv hij hb;refine zd r9 ?_;rw[tj i9 _];show eh _ _ (seqItems? (.ref S) >>= _) _ _ _;refine ag (fR hs rfl ?_);show eh _ _ (tryCatch (pyNext (.ref I)) _ >>= _) _ _ _;refine ag (oP (W.item j _ _ _ (by lia) ⟨it,dAt kp⟩ λv h' tk' hP st k'=>?_));have k1:∀a o,a≠I->h.get? a=some o->h'.get? a=some o:=λa o ne e=>k' a o (by simpa using ne) e;have kp1:=off kp hI k1;show eh _ _ (tryCatch (holding [v] (call (.ref q) [v])) _ >>= _) _ _ _;refine ag (oP (mi (hZ (turn j v hP h' tk' kp1) (λx s2 he=>?_) λ_ _ z=>z.elim)));obtain ⟨h2,tk2,t2,rfl,rfl,k2⟩:=he;have kp2:=kp1.trans k2;have hs2:=k2 S _ (k1 S _ hIS hs);have it2:h2.IsKeyIter I d (j+1) AE.length ep:=st.1.at λo e=>k2 _ _ e;show eh _ _ (tryCatch (holding [v,.int (kf j) t2] (richCompare .Lt (.int (kf j) t2) (.int (kf i) tb) >>= _)) _ >>= _) _ _ _;refine ag (oP (mi (ag (CmpOf.ints_lt (prog:=prog) (w:=w) (A:=A.in1) (P:=λi v=>∃t,v= .int (kf i) t) kf (λ_ _ y=>y) j i _ _ _ _ _ ⟨t2,rfl⟩ ⟨tb,rfl⟩ ?_))));refine ag (mi (jv (ag (rf (bt ?_)))))
  by_cases lt:kf j<kf i
  . simp only[lt,decide_true,if_true];refine ag (uS hs2 rfl (ag (rf ?_)));rw[nm];refine bt ⟨xo i9 _,ih (j+1) j _ _ v t2 _ (by lia) (by lia) (off kp2 hS (upS _)) (get?_update_seq hs2 λ_=>#[v,.int (kf j) t2]) (it2.at λo e=>upS _ _ _ (nK hIS) e) hP (sL _) λl hl=>?_⟩
    by_cases e:l=j
    . subst e;exact ⟨nv _,λz=>absurd z (g9 _)⟩
    . have:=(hb l (by lia)).1;exact ⟨by lia,λ_=>by lia⟩
  . simp only[lt,decide_false,Bool.false_eq_true,if_false];refine ag (rf ?_);rw[nm];refine bt ⟨xo i9 _,ih (j+1) i _ _ vb tb c (by lia) (by lia) kp2 hs2 it2 hv (by lia) λl hl=>?_⟩
    by_cases e:l=j
    . subst e;exact ⟨by lia,λz=>by lia⟩
    . exact hb l (by lia)
theorem VD(a v:a8):argsOk "min" ⟨[a],[(Str.ofString "key",v)]⟩:=by kernel_rfl
theorem Vq(kf:Nat->Int)(hh:A.handled=none)(hsm:(d == fT)=false)(hm:s.heap.DictAt knd d AE ep)(hn:0<AE.length)
 (turn:∀i key,Dh knd AE i key->∀h tk,Kept s.heap h->eh (eJ prog w) A.in1 (call (.ref q) [key]) (Tells s h (kf i)) (λ_ _=>False) { s with heap:=h,toks:=tk })
 (hQ:∀i v h' tk',i<AE.length->Dh knd AE i v->PJ kf i AE.length->Kept s.heap h'->Q v { s with heap:=h',toks:=tk' }) :
 eh (eJ prog w) A (call (.builtin "min") [.ref d] [(Str.ofString "key",.ref q)]) Q E s:=by
 have nm:(toString "min" ++ toString ".loop" : String) = "min.loop" := by decide
 refine kmk_tree PySem.F.kind_min PySem.F.plain_min PySem.F.entry_min (VD _ _) (ag (wpAny_of_eq (rfl) (ag (bt (ag (wpAny_pyIter_dict hsm hm ?_))))));refine ag (wpAny_newList ?_ (kN _));rw[nm];generalize hoI:({ cls:=.type "dict_keyiterator",data:=.fields #[.ref d,.int 0 0,.int AE.length 0,.int ep 0] }:Obj)=oI;have gI:(s.heap.push oI).get? s.heap.objs.size=some oI:=c6 _ (by rw[<- hoI];rfl);have zS:(s.heap.push oI).objs.size=s.heap.objs.size+1:=by rw[iX]
 have kp:Kept s.heap ((s.heap.push oI).push (seqObj "list" #[] 0)):=(Kept.push _).trans (Kept.push _);have it0:((s.heap.push oI).push (seqObj "list" #[] 0)).IsKeyIter s.heap.objs.size d 0 AE.length ep:=⟨oI,Kept.push _ _ _ gI,by rw[<- hoI],by rw[<- hoI];rfl⟩;have gS:((s.heap.push oI).push (seqObj "list" #[] 0)).get? (s.heap.push oI).objs.size=some (seqObj "list" #[] 0):=c6 _ rfl;have hI:s.heap.get? s.heap.objs.size=none:=sR (aE _);have hS:s.heap.get? (s.heap.push oI).objs.size=none:=sR (by rw[zS];lia);have hIS:(s.heap.push oI).objs.size≠s.heap.objs.size:=by rw[zS];lia
 generalize (s.heap.push oI).objs.size=S at gS hS hIS;generalize s.heap.objs.size=I at it0 hI hIS;generalize (s.heap.push oI).push (seqObj "list" #[] 0)=h at kp it0 gS;refine bt ⟨xo i9 _,?_⟩;have hd:s.heap.get? d≠none:=by
  obtain ⟨o,es,ho,_⟩:=hm;rw[ho];simp
 have dI:d≠I:=λz=>hd (z ▸ hI);have W:=Walks.dictKeys (knd:=knd) (A:=A.in1) hh I d dI AE ep;have off:∀{h h':Heap}{b:Addr},Kept s.heap h->s.heap.get? b=none->(∀a o,a≠b->h.get? a=some o->h'.get? a=some o)->Kept s.heap h':=λk n x a o e=>x a o (λz=>by rw[z,n] at e;cases e) (k a o e);have upS:∀{h:Heap} (f:Array a8->Array a8) (a:Addr) (o:Obj),a≠S->h.get? a=some o->(h.update S (yn f)).get? a=some o:=λf a o ne e=>((pe ..).2 a ne).trans e;refine zd r9 ?_;rw[tj i9 _];refine ag (fR gS rfl (ag (oP (W.item 0 _ _ _ hn ⟨it0,hm.at' λo e=>kp d o e⟩ λv h' tk' hP st k'=>?_))));have k1:=λa o ne e=>k' a o (by simpa using ne) e;have kp1:=off kp hI k1;refine ag (oP (mi (hZ (turn 0 v hP h' tk' kp1) (λx s2 he=>?_) λ_ _ z=>z.elim)));obtain ⟨h2,tk2,t2,rfl,rfl,k2⟩:=he;have hs2:=k2 S _ (k1 S _ hIS gS);refine ag (uS hs2 rfl ?_);rw[nm];refine bt ⟨xo i9 _,Xv kf hh hm hI hS hIS turn hQ _ 1 0 _ _ v t2 _ rfl hn (off (kp1.trans k2) hS (upS _)) (get?_update_seq hs2 λ_=>#[v,.int (kf 0) t2]) ((st.1.at λo e=>k2 _ _ e).at λo e=>upS _ _ _ (nK hIS) e) hP (by decide) λl hl=>?_⟩;have e:l=0:=by lia
 subst e;exact ⟨nv _,λz=>absurd z (g9 _)⟩
end
variable {p p1:Pos}{j:Nat}{y:Str}{AG:Array a8}{h':Heap}{params:Arguments}{scope:vv}{clos:B1}
section
open PySem.W
section
variable {prog:gc}  {A:iS}
theorem JQ:Wu (.Name x p):=λ_ _=>rfl
theorem Nv{i:Int}:Wu (.Constant (.int i) j p):=λ_ _=>rfl
theorem XQ{env:Env}{p3 p4 p5:Pos}{m:Str->B7}{key:a8}{d:Addr}{f:Key->B7}{k:Key}{n:Int}{t:Tok}
 (hk:env.scope.kind= .function) (hx:env.kindOf x=some .local) (hy:env.kindOf y=some .free) (hc:env.cells.lookup y=some c) (hn:s.heap.Ns env.locals m) (hm:m x=some key) (hcell:s.heap.IsCell c (some (.ref d)))
 (hd:s.heap.MapOf (b7 prog w) d f) (hkey:(b7 prog w).is k key=true) (hv:f k=some (.ref a)) (ht:y6 s.heap a AG) (h0:AG[0]?=some (.int n t)) (hsz:AG.size<=bE)
 (hdx:nD x) (hdy:nD y) (hcy:(y == ("__classdict__" : Str))=false) (h:∀tk,Q (.int n t) { s with toks:=tk }) :
 eh (eJ prog w) A (eval (.Subscript (.Subscript (.Name y p1) (.Name x p) p3) (.Constant (.int 0) j p4) p5) env) Q E s:=by
 refine Pn PySem.F.slot_tuple_getitem.lookup Nv (Pn kR.lookup JQ ?_);refine x8 (wpAny_loadName_free hk hy hc hcell ?_ hcy) hdy;refine x8 (wpAny_loadName_local hk hx hn hm ?_) hdx;refine ⟨hd.typeIs,wpAny_getItem_of hkey hd hv (wpAny_Constant_int ?_)⟩;have hl:=vq;refine ⟨ht.typeIs,getItem_tuple ht (by decide) (by decide) ?_ h0 (h _)⟩;have:=(Array.getElem?_eq_some_iff.mp h0).1;unfold seqIndex?;simp[this]
structure Za (h:Heap) (qual:Str) (params:Arguments) (body:Expr) (scope:vv) (clos:B1) (pm ctv:a8) (q c':Addr):Prop where
 agf:h.get? q=some (zw "<lambda>" qual params body scope clos pm c' ctv)
 code:h.CodeRec (.ref c') qual
theorem Lp{cv:a8}{q:Str}(k:Kept h h')(x:h.CodeRec cv q):h'.CodeRec cv q:=by
 obtain ⟨c,oc,vs,tq,e,ho,hd,hq⟩:=x;exact ⟨c,oc,vs,tq,e,k _ _ ho,hd,hq⟩
theorem Qv(k:Kept h h')(x:y6 h a AG):y6 h' a AG:=by
 obtain ⟨o,e,r⟩:=x;exact ⟨o,k _ _ e,r⟩
theorem We{tk:Nat}{qual:Str}{pm ctv:a8}{c':Addr}{p3 p4 p5:Pos}{key:a8}{d:Addr}{vs:List (Key×a8)}{k:Key}{n:Int}{t:Tok}
 (L:Za h' qual params (.Subscript (.Subscript (.Name y p1) (.Name x p) p3) (.Constant (.int 0) j p4) p5) scope clos pm ctv T c') (kp:Kept h' h) (hroom:A.depth<recursionLimit) (hlim:h'.NoLimit)
 (hbind:kF (kla_fn "<lambda>" qual params (.Subscript (.Subscript (.Name y p1) (.Name x p) p3) (.Constant (.int 0) j p4) p5) scope clos pm (.ref c') ctv) ⟨[key],[]⟩=pure [(x,key)])
 (hco:scope.isCoroutine=false) (hgen:scope.isGenerator=false) (hk:scope.kind= .function) (hce:∀z∈scope.names,z.2 ≠ .cell) (hx:scope.names.lookup x=some .local) (hy:scope.names.lookup y=some .free) (hc:clos.lookup y=some c)
 (hcell:h'.IsCell c (some (.ref d))) (hd:h'.DictOf (b7 prog w) d vs) (hkey:(b7 prog w).is k key=true) (hv:wq vs k=some (.ref a)) (ht:y6 h' a AG) (h0:AG[0]?=some (.int n t)) (hsz:AG.size<=bE)
 (hdx:nD x) (hdy:nD y) (hcy:(y == ("__classdict__" : Str))=false) :
 eh (eJ prog w) A (call (.ref T) [key]) (Tells s h n) (λ_ _=>False) { s with heap:=h,toks:=tk }:=by
 refine wpAny_call (kla_callFunE hroom (kp _ _ L.agf) rfl hco hgen rfl (Lp kp L.code) ?_);rw[hbind];refine bt (wpAny_newFunctionEnv hce (λz hz=>by rw[ay.mp hz];exact hx) (λh1 hns hsb=>?_) hk);have k1:=λb o e=>hsb.extBut b o (fh (cy e)) (aI _ e);have kA:=kp.trans k1;refine ⟨hlim.keeps kA,kla_codeExpr ?_⟩;refine XQ (d:=d) hk hx hy hc hns (by simp) ?_ ?_ hkey hv (Qv kA ht) h0 hsz hdx hdy hcy λtk'=>⟨_,_,t,rfl,rfl,k1⟩
 . obtain ⟨o,e,r⟩:=hcell;exact ⟨o,kA _ _ e,r⟩
 . obtain ⟨o,es,ep,e,r⟩:=hd;exact Heap.DictOf.mapOf ⟨o,es,ep,kA _ _ e,r⟩
end
end
variable {pos:Pos}{X:Cx}{AD:A7}{σ:St}{H:Hp}{cd:Addr}
section
open PySem.W
theorem R9{a b c cv:a8}:∀(l:B8),TriplesOk l->xw pos (l++[a,b,c])=some cv->xw pos l=some cv\/cv=c:=by
 intro l
 fun_induction TriplesOk l with
 | case1=>
  intro _ h;right;rw[fi] at h;unfold xw at h;split at h
  . rename_i e;cases e;split at h
    . exact (Option.some.inj h).symm
    . cases h
  . cases h
 | case2 line u col v c2 rest ih=>
  intro ht h;rw[gE,gE,gE] at h;unfold xw at h ⊢;split at h
  . rename_i hc;rw[if_pos hc];exact .inl h
  . rename_i hc;rw[if_neg hc];exact ih ht h
 | case3=>intro ht;exact ht.elim
theorem Wc{P:Addr}{body:Expr}(I:AJ X AD σ H s)(hcode:X.env.code= .ref cd)(hhd:i8 X.K cd P=true)(hT:TabAt X.K X.mg P)
 (hq:X.env.qual ++ "<lambda>"= jk) (hcl:yy scope X.env=pure clos) (hdef:defaultsOf params X.env=([],[]))
 (h:∀q c' ctv H' s',AJ X AD σ H' s'->(H'=H\/(H c'=none/\H'=AM H c' (.own P)))->Za s'.heap jk params body scope clos ((X.mg "__name__").getD .none) ctv q c'->(∀b o,b≠P->s.heap.get? b=some o->s'.heap.get? b=some o)->Q (.ref q) s') :
 eh (eJ X.prog X.w) X.A (eval (.Lambda params body scope pos) X.env) Q E s:=by
 refine kla_eval hdef ?_;rw[hq];have hH:=I.base.nF _ _ (I.ok.tabs P hT);obtain ⟨ps,hP,ht,hcs⟩:=I.AR P _ hH;have C:=codeHd_of_K I.kIn hhd;have hg:=I.mod.glob.keeps I.bk;obtain ⟨bm,ob,b1,b2,b3,b4,b5,b6⟩:=I.mod.bmain;have b3:=I.bk _ _ b3;have bP:bm≠P:=λz=>by rw[z,hP] at b3;cases b3;cases b4
 have gP:ff≠P:=λz=>by
  obtain ⟨o,es,ep,e,hd,_⟩:=hg;rw[z,hP] at e;cases e;cases hd
 have bG:bm≠ff:=λz=>by
  obtain ⟨o,es,ep,e,hd,_⟩:=hg;rw[<- z,b3] at e;cases e;rw[b6] at hd;cases hd
 have hb:s.heap.BuiltinsAt X.mg P:=⟨bm,ob,b1,b2,bG,bP,b3,b4,b5,b6⟩
 cases hf:xw pos ps.toList with
 | some cv=>
  obtain ⟨c',oc,vs,t,rfl,hown,ho,hd,hq1⟩:=hcs pos cv hf;refine kla_makeFunctionHit hcl I.ok.glob hg hcode C hP ht hf hb λctv h' tk hk hsz=>?_;have keep:∀b o,s.heap.get? b=some o->(h'.push (zw "<lambda>" jk params body scope clos ((X.mg "__name__").getD .none) c' ctv)).get? b=some o:=λb o e=>aI _ (hk b o e);exact h _ c' ctv H _ (I.un (Un.kept keep) (I.AR.kept keep)) (.inl rfl) ⟨c6 _ rfl,⟨c',oc,vs,t,rfl,keep _ _ ho,hd,hq1⟩⟩ λb o _ e=>keep b o e
 | none=>
  refine kla_makeFunction hcl I.ok.glob hg hcode C hP ht hf gP hb λc' ctv h' tk hx hge hlt hrec htb=>?_;have hc0:=I.AR.fresh hge;have nP:∀{b:Addr},H b=none->b≠P:=λn z=>by rw[z,hH] at n;cases n
  have nC:∀{b:Addr}{o:HO},H b=some o->b≠c':=λe z=>by rw[z,hc0] at e;cases e
  have old:∀b o,b≠P->s.heap.get? b=some o->(h'.push (zw "<lambda>" jk params body scope clos ((X.mg "__name__").getD .none) c' ctv)).get? b=some o:=λb o ne e=>aI _ (hx b o ne e);have tb2:(h'.push (zw "<lambda>" jk params body scope clos ((X.mg "__name__").getD .none) c' ctv)).get? P=some (tabObj (ps++#[sF pos.line,sF pos.col,.ref c'])):=aI _ htb;obtain ⟨c2,oc,vs,t,ec,ho,hd,hq1⟩:=hrec;cases ec;have ho2:(h'.push (zw "<lambda>" jk params body scope clos ((X.mg "__name__").getD .none) c' ctv)).get? c'=some oc:=aI _ ho;have un:Un X.fs [] H (AM H c' (.own P)) s.heap (h'.push (zw "<lambda>" jk params body scope clos ((X.mg "__name__").getD .none) c' ctv)):=by
   refine ⟨λb o e n _ _=>old b o (nP n) e,λb o e n _ _=>⟨o.slots,old b o (nP n) e⟩,λb o e n _=>?_,λb o e _=>?_,λb xs e=>?_,λb o u e=>?_,λb q e=>?_⟩
   . rw[aH (fh (eW (cy e) hge))];exact n
   . by_cases z:b=P
     . rw[z];exact ⟨_,tb2⟩
     . exact ⟨o,old b o z e⟩
   . rw[aH (nC e)];exact e
   . rw[aH (nC e)];exact e
   . rw[aH (nC e)];exact e
  have AR:HOk X.prog X.w (AM H c' (.own P)) (h'.push (zw "<lambda>" jk params body scope clos ((X.mg "__name__").getD .none) c' ctv)):=λb o e=>by
   by_cases z:b=c'
   . subst z;rw[aY] at e;cases e;exact ⟨oc,ho2⟩
   . rw[aH z] at e;have ho':∀b2 a,H b2=some (.own a)->AM H c' (.own P) b2=some (.own a):=λb2 a q=>by rw[aH (nC q)];exact q
     by_cases zP:b=P
     . subst zP;rw[hH] at e;cases e;have el:(ps++#[sF pos.line,sF pos.col,iN c']).toList=ps.toList++[sF pos.line,sF pos.col,.ref c']:=by simp
       refine ⟨_,tb2,by rw[el];exact TriplesOk_snoc _ _ _ _ ht,λpos2 cv hv=>?_⟩;rw[el] at hv;rcases R9 _ ht hv with hv | hv
       . obtain ⟨c3,ob3,vs3,t3,e1,e2,e3,e4,e5⟩:=hcs pos2 cv hv;exact ⟨c3,ob3,vs3,t3,e1,ho' _ _ e2,old _ _ (λz=>by rw[z,hH] at e2;cases e2) e3,e4,e5⟩
       . exact ⟨c',oc,vs,t,hv,aY,ho2,hd,hq1⟩
     . refine (I.AR b o e).stay (λb2 u hb2 q=>old b2 u ?_ q) (λb2 q=>ho' b2 b q) λb2 xs q=>by rw[aH (nC q)];exact q
       rcases hb2 with rfl | hb2
       . exact zP
       . exact λz=>by rw[z,hH] at hb2;cases hb2
  exact h _ c' ctv _ _ (I.un un AR) (.inr ⟨hc0,rfl⟩) ⟨c6 _ rfl,⟨c',oc,vs,t,rfl,ho2,hd,hq1⟩⟩ old
end
variable {i:Nat}
section
open PySem.W
theorem Dg{κ:Type}[DecidableEq κ]:∀{vs:List (κ×a8)}{i:Nat}{k:κ}{x:a8},(vs.map (·.1)).Nodup->vs[i]?=some (k,x)->wq vs k=some x
 | [],i,k,x,_,e=>by simp at e
 | (k0,x0)::vs,i,k,x,hn,e=>by
  unfold wq;rw[bo,ng] at hn
  match i with
  | 0=>
   have e:=Option.some.inj e;cases e;rw[List.find?_cons_of_pos (by simp)];rfl
  | i+1=>
   have e:=by simpa using e
   have hne:k0≠k:=λz=>hn.1 (by
    rw[z];exact cc.mpr ⟨_,eL e,rfl⟩)
   rw[List.find?_cons_of_neg (by simpa using hne)];exact Dg hn.2 e
theorem Paired.getL{α β:Type}{F:α->β->Prop}:∀{l₁:List α}{l₂:List β}{i:Nat}{b:β},ka F l₁ l₂->l₂[i]?=some b->∃a,l₁[i]?=some a/\F a b
 | _,_,i,b,.nil,e=>by simp at e
 | _,_,0,b,.cons r t,e=>by cases (Option.some.inj e);exact ⟨_,rfl,r⟩
 | _,_,i+1,b,.cons r t,e=>Paired.getL (i:=i) t (by simpa using e)
def afX(K:aw)(i:Nat):TE:=λσ H Q=>∃(d:Addr) (AE:A8) (cs:Nat->Int),σ[i]?=some (some (.ref d))/\H d=some (.dK AE)/\0<AE.length/\(∀l k v,AE[l]?=some (k,v)->∃a xs,v= .ref a/\SqT K H a (.int (cs l)::xs)) /\
 ∀l k v H',AE[l]?=some (k,v)->PJ cs l AE.length->aG H H'->Q (kV k) H'
theorem Mf{env:Env}(hs:scope.names=[(x,.local),(y,.free)])(hc:env.cells.lookup y=some c):yy scope env=pure [(y,c)]:=by
 rw[yy,hs];simp[cellOf,hc]
theorem Il{k:Key}{u:a8}(h:(b7 P w).is k u=true):AK (kV k) u:=by
 cases k with
 | inl i=>exact Value.isInt_shape h
 | inr x=>exact Value.isStrOf_shape h
theorem RT{k:Nat}{q1 q2 q3 q4 q5 Xo kp:Pos}
 (hN:X.N[i]?=some y) (hv:X.env.kindOf y=some .cell) (hr:dz k X.A) (hcode:X.env.code= .ref cd) (hhd:i8 X.K cd T=true) (hT:TabAt X.K X.mg T) (hq:X.env.qual ++ "<lambda>"= jk)
 (hg:Gl X "min") (hm:X.mg "min"= none) (hs:scope.names=[(x,.local),(y,.free)]) (hco:scope.isCoroutine=false) (hgen:scope.isGenerator=false) (hk:scope.kind= .function) (hdef:defaultsOf params X.env=([],[]))
 (hbind:∀(pm cv ctv key:a8) (clos:B1) (body:Expr),kF (kla_fn "<lambda>" jk params body scope clos pm cv ctv) ⟨[key],[]⟩=pure [(x,key)]) (hxy:(y == x)=false)
 (hdx:nD x) (hdy:nD y) (hcy:(y == ("__classdict__" : Str))=false) :
 PE X (.Call (.Name "min" p) [.Name y p1] [⟨some "key",.Lambda params (.Subscript (.Subscript (.Name y q1) (.Name x q2) q3) (.Constant (.int 0) j q4) q5) scope Xo,kp⟩] pos) (afX X.K i):=by
 rintro AD s σ H Q I ⟨d,AE,cs,hσ,hd,hn,aeS,hQ⟩;have adl:Vis X.env.scope y:=.inr (.inl hv);refine qo (nH I hg hm rfl (callWith_kw ?_));have hpa:PA X [.Name y p1] _:=bY (dM hN adl hdy hcy) eQ;refine thn (hpa pos AD s σ H (λvs H1=>vs=[.ref d]/\H1=H) I ⟨.ref d,hσ,rfl,rfl⟩) λus s1 az=>?_;obtain ⟨vs,H1,I1,rv,hvs,hH1⟩:=az;subst hvs;subst hH1;obtain ⟨u,us',rfl,ru,rn⟩:∃u us',us=u::us'/\u=iN d/\us'=[]:=by
  cases rv with
  | cons r t=>cases t;exact ⟨_,_,rfl,r,rfl⟩
 subst ru;subst rn;obtain ⟨c,hc⟩:=I1.ok.has y (.inl hv);refine kws_cons (Wc I1 hcode hhd hT hq (Mf hs hc) hdef λq c' ctv H' s' I' hH' L hkeep=>kws_nil ?_);have sH:aG H1 H':=by
  rcases hH' with rfl | ⟨z,rfl⟩
  . exact aG.refl _
  . exact λb o e=>by rw[aH (λy=>by rw[y,z] at e;cases e)];exact e
 have hd':=sH _ _ hd;obtain ⟨zl,hsm,vs,rel,dd⟩:=I'.AR d _ hd';obtain ⟨od,es,ep,e1,e2,e3,e4,e5,e6⟩:=id dd;have hat:s'.heap.DictAt (b7 X.prog X.w) d vs ep:=⟨od,es,e1,e2,e3,e4,e5,e6⟩;have hl:=rel.length;have hcell:s'.heap.IsCell c (some (.ref d)):=by
  obtain ⟨m,hn',hloc⟩:=I'.loc;obtain ⟨u,ru,l⟩:=hloc i y (.ref d) hN hσ adl;obtain rfl:u=iN d:=ru;rcases l with ⟨l1,_⟩ | ⟨_,c2,l2,l3⟩
  . rw[hv] at l1;cases l1
  . rw[hc] at l2;cases l2;exact l3
 refine Vq cs hr.hd hsm hat (by lia) (λl key hkey h tk kp=>?_) λl v h' tk' hlt hkey hb kp=>?_
 . obtain ⟨k,x',hx,his⟩:=hkey;obtain ⟨⟨k2,v2⟩,g1,g2,g3⟩:=Paired.getL rel hx;have g2:=g2;subst g2;obtain ⟨a,xs,ev,hq2⟩:=aeS l k2 v2 g1;have ev:=ev;subst ev;obtain rfl:x'=iN a:=g3;obtain ⟨AG,rr,ht,hz⟩:=I'.tuple (sH.fP hq2);obtain ⟨t,its',rfl⟩:∃t its',AG=a8.int (cs l) t::its':=by
    cases rr with
    | cons r t=>obtain ⟨t',rfl⟩:=r;exact ⟨_,_,rfl⟩
   have hz2:=rr.length;refine We (t:=t) L kp (by have:=hr.dp;show X.A.depth<_;lia) I'.nolimit (hbind _ _ _ _ _ _) hco hgen hk ?_ ?_ ?_ (by simp) hcell dd his (Dg e6 hx) ht (by simp) (by rw[dQ,<- hz2];exact hz) hdx hdy hcy
   . intro z hz;rw[hs] at hz;rcases cp.mp hz with rfl | hz
     . intro z;cases z
     . rw[ay.mp hz];intro z;cases z
   . rw[hs];simp
   . rw[hs];rw[wo,hxy];simp[wo]
 . obtain ⟨k,x',hx,his⟩:=hkey;obtain ⟨⟨k2,v2⟩,g1,g2,g3⟩:=Paired.getL rel hx;have g2:=g2;subst g2;rw[<- hl] at hb;exact ⟨kV k2,H',I'.un (Un.kept kp) (I'.AR.kept kp),Il his,hQ l k2 v2 H' g1 hb sH⟩
end
noncomputable def dX:ab->C3
 | .tuple (.int c::_)=>some c
 | _=>none
noncomputable def jF(k:ab)(c:Int):B0->AI ab
 | []=>.ok k
 | (k',d)::r=>match dX d with
  | some c'=>if c'<c then jF k' c' r else jF k c r
  | none=>.bad
noncomputable def j6:B0->AI ab
 | []=>.bad
 | (k,d)::r=>match dX d with
  | some c=>jF k c r
  | none=>.bad
noncomputable def BR(i:Nat):ME:=λΓ=>match gv Γ i with
 | some (.dict AE)=>j6 AE
 | _=>.bad
theorem xg:∀{r:B0}{k:ab}{c:Int}{k2:ab},jF k c r= .ok k2->(∀q∈r,(dX q.2).isSome=true) /\
 ((k2=k/\∀(l:Nat) (q:ab×ab) (c':Int),r[l]?=some q->dX q.2=some c'->c<=c')\/∃(l:Nat) (q:ab×ab) (c':Int),r[l]?=some q/\dX q.2=some c'/\k2=q.1/\c'<c/\∀(l2:Nat) (q2:ab×ab) (c2:Int),r[l2]?=some q2->dX q2.2=some c2->c'<=c2/\(l2<l->c'<c2))
 | [],k,c,k2,h=>by
  cases h;exact ⟨λ_ q=>(nomatch q),.inl ⟨rfl,λl q c' e=>by simp at e⟩⟩
 | (k',d)::r,k,c,k2,h=>by
  unfold jF at h
  cases hc:dX d with
  | none=>rw[hc] at h;cases h
  | some c'=>
   rw[hc] at h;have h:(if c'<c then jF k' c' r else jF k c r)= .ok k2:=h
   by_cases lt:c'<c
   . rw[if_pos lt] at h;obtain ⟨h1,h2⟩:=xg h;refine ⟨λq hq=>?_,.inr ?_⟩
     . rcases cp.mp hq with rfl | hq
       . rw[hc];rfl
       . exact h1 q hq
     . rcases h2 with ⟨rfl,h2⟩ | ⟨l,q,c3,e1,e2,e3,e4,e5⟩
       . refine ⟨0,(k2,d),c',rfl,hc,rfl,lt,λl2 q2 c2 f1 f2=>?_⟩
         match l2 with
         | 0=>
          cases (Option.some.inj f1);have f2:=f2;rw[hc] at f2;cases f2;exact ⟨nv _,λz=>absurd z (g9 _)⟩
         | l2+1=>exact ⟨h2 l2 q2 c2 (by simpa using f1) f2,λz=>absurd z (qf _)⟩
       . refine ⟨l+1,q,c3,by simpa using e1,e2,e3,Int.lt_trans e4 lt,λl2 q2 c2 f1 f2=>?_⟩
         match l2 with
         | 0=>
          cases (Option.some.inj f1);have f2:=f2;rw[hc] at f2;cases f2;exact ⟨Int.le_of_lt e4,λ_=>e4⟩
         | l2+1=>
          have:=e5 l2 q2 c2 (by simpa using f1) f2;exact ⟨this.1,λz=>this.2 (by lia)⟩
   . rw[if_neg lt] at h;obtain ⟨h1,h2⟩:=xg h;refine ⟨λq hq=>?_,?_⟩
     . rcases cp.mp hq with rfl | hq
       . rw[hc];rfl
       . exact h1 q hq
     . rcases h2 with ⟨rfl,h2⟩ | ⟨l,q,c3,e1,e2,e3,e4,e5⟩
       . refine .inl ⟨rfl,λl2 q2 c2 f1 f2=>?_⟩
         match l2 with
         | 0=>
          cases (Option.some.inj f1);have f2:=f2;rw[hc] at f2;cases f2;lia
         | l2+1=>exact h2 l2 q2 c2 (by simpa using f1) f2
       . refine .inr ⟨l+1,q,c3,by simpa using e1,e2,e3,e4,λl2 q2 c2 f1 f2=>?_⟩
         match l2 with
         | 0=>
          cases (Option.some.inj f1);have f2:=f2;rw[hc] at f2;cases f2;exact ⟨by lia,λ_=>by lia⟩
         | l2+1=>
          have:=e5 l2 q2 c2 (by simpa using f1) f2;exact ⟨this.1,λz=>this.2 (by lia)⟩
variable {AE:B0}
theorem Dv{k:ab}(h:j6 AE= .ok k):(∀q∈AE,(dX q.2).isSome=true)/\∃(l:Nat) (q:ab×ab) (c:Int),AE[l]?=some q/\dX q.2=some c/\k=q.1/\∀(l2:Nat) (q2:ab×ab) (c2:Int),AE[l2]?=some q2->dX q2.2=some c2->c<=c2/\(l2<l->c<c2):=by
 match AE,h with
 | (k0,d)::r,h=>
  have h:(match dX d with
   | some c=>jF k0 c r
   | none=>.bad)= .ok k:=h
  cases hc:dX d with
  | none=>rw[hc] at h;cases h
  | some c=>
   rw[hc] at h;obtain ⟨h1,h2⟩:=xg h;refine ⟨λq hq=>?_,?_⟩
   . rcases cp.mp hq with rfl | hq
     . rw[hc];rfl
     . exact h1 q hq
   . rcases h2 with ⟨rfl,h2⟩ | ⟨l,q,c3,e1,e2,e3,e4,e5⟩
     . refine ⟨0,(k,d),c,rfl,hc,rfl,λl2 q2 c2 f1 f2=>?_⟩
       match l2 with
       | 0=>
        cases (Option.some.inj f1);have f2:=f2;rw[hc] at f2;cases f2;exact ⟨nv _,λz=>absurd z (g9 _)⟩
       | l2+1=>exact ⟨h2 l2 q2 c2 (by simpa using f1) f2,λz=>absurd z (qf _)⟩
     . refine ⟨l+1,q,c3,by simpa using e1,e2,e3,λl2 q2 c2 f1 f2=>?_⟩
       match l2 with
       | 0=>
        cases (Option.some.inj f1);have f2:=f2;rw[hc] at f2;cases f2;exact ⟨Int.le_of_lt e4,λ_=>e4⟩
       | l2+1=>
        have:=e5 l2 q2 c2 (by simpa using f1) f2;exact ⟨this.1,λz=>this.2 (by lia)⟩
variable {A:Hp}
theorem wM:∀{AE:B0}{u:A8}{l:Nat}{key:Key}{v:V},bw K A AE u->u[l]?=some (key,v)->∃k d,AE[l]?=some (k,d)/\bO k=some key/\Rp K A d v
 | [],u,l,key,v,h,e=>by rw[bw.nil.mp h] at e;simp at e
 | (k,d)::r,u,l,key,v,h,e=>by
  obtain ⟨key',v',u',rfl,h1,h2,h3⟩:=bw.cons.mp h
  match l with
  | 0=>cases (Option.some.inj e);exact ⟨k,d,rfl,h1,h2⟩
  | l+1=>
   obtain ⟨k2,d2,e2,h4⟩:=wM h3 (by simpa using e);exact ⟨k2,d2,by simpa using e2,h4⟩
variable {O:B9}{v:V}
theorem YC{d:ab}{c:Int}(h:Rp K A d v)(hc:dX d=some c):∃a xs,v= .ref a/\SqT K A a (.int c::xs):=by
 unfold dX at hc;split at hc
 . cases hc;obtain ⟨a,vs,rfl,h1,h2⟩:=Rp.tuple.mp h;obtain ⟨v,r,rfl,h3,_⟩:=aA.cons.mp h2;rw[Rp.int.mp h3] at h1;exact ⟨a,r,rfl,h1⟩
 . cases hc
theorem ZM{q1 q2 q3 q4 q5 Xo kp:Pos}(i:Nat)(hi:isO (fl O i)=true)
 (hN:X.N[i]?=some y) (hv:X.env.kindOf y=some .cell) (hr:dz ep X.A) (hcode:X.env.code= .ref cd) (hhd:i8 X.K cd T=true) (hT:TabAt X.K X.mg T) (hq:X.env.qual ++ "<lambda>"= jk)
 (hg:Gl X "min") (hm:X.mg "min"= none) (hs:scope.names=[(x,.local),(y,.free)]) (hco:scope.isCoroutine=false) (hgen:scope.isGenerator=false) (hk:scope.kind= .function) (hdef:defaultsOf params X.env=([],[]))
 (hbind:∀(pm cv ctv key:a8) (clos:B1) (body:Expr),kF (PySem.W.kla_fn "<lambda>" jk params body scope clos pm cv ctv) ⟨[key],[]⟩=pure [(x,key)]) (hxy:(y == x)=false:=by decide)
 (hdx:nD x:=by decide) (hdy:nD y:=by decide) (hcy:(y == ("__classdict__" : Str))=false:=by decide) :
 QE X (.Call (.Name "min" p) [.Name y p1] [⟨some "key",.Lambda params (.Subscript (.Subscript (.Name y q1) (.Name x q2) q3) (.Constant (.int 0) j q4) q5) scope Xo,kp⟩] pos) (tE X.K O (BR i)):=
 QE.imp (RT hN hv hr hcode hhd hT hq hg hm hs hco hgen hk hdef hbind hxy hdx hdy hcy) λσ H Q az=>by
  obtain ⟨A,B,Γ,d,r,em,kk⟩:=az;unfold BR at em
  cases hgv:gv Γ i with
  | none=>rw[hgv] at em;cases em
  | some dl=>
   rw[hgv] at em
   cases dl with
   | dict AE=>
    have em:=em;obtain ⟨q,u,e1,h1,h2⟩:=wV r hi hgv;obtain ⟨hall,l0,w0,c0,f1,f2,f3,f4⟩:=Dv em;have hlen:=h2.len;have cost:∀l key v,u[l]?=some (key,v)->∃(w:ab×ab) (c:Int),AE[l]?=some w/\dX w.2=some c/\bO w.1=some key/\Rp X.K A w.2 v:=λl key v e=>by
     obtain ⟨k1,d1,g1,g2,g3⟩:=wM h2 e;obtain ⟨c,hc⟩:=iq.mp (hall _ (eL g1));exact ⟨(k1,d1),c,g1,hc,g2,g3⟩
    refine ⟨q,u,λl=>((AE[l]?).bind λw=>dX w.2).getD 0,dO e1,h1,?_,λl key v e=>?_,λl key v H' e hb sH=>?_⟩
    . rw[<- hlen];exact ki (kN _) (aS.mp f1).1
    . obtain ⟨w,c,g1,g2,g3,g4⟩:=cost l key v e;obtain ⟨a,xs,rfl,hq⟩:=YC g4 g2;refine ⟨a,xs,rfl,r.a.fP ?_⟩;show SqT X.K A a (.int (((AE[l]?).bind λw=>dX w.2).getD 0)::xs);rw[g1];show SqT X.K A a (.int ((dX w.2).getD 0)::xs);rw[g2];exact hq
    . obtain ⟨w,c,g1,g2,g3,g4⟩:=cost l key v e;have hl:=(aS.mp g1).1;have hl0:=(aS.mp f1).1;have cl:((AE[l]?).bind λw=>dX w.2).getD 0=c:=by rw[g1];show (dX w.2).getD 0=c;rw[g2];rfl
      have cl0:((AE[l0]?).bind λw=>dX w.2).getD 0=c0:=by rw[f1];show (dX w0.2).getD 0=c0;rw[f2];rfl
      have b1:=hb l0 (by lia);have b1:((AE[l]?).bind λw=>dX w.2).getD 0<=((AE[l0]?).bind λw=>dX w.2).getD 0/\(l0<l->((AE[l]?).bind λw=>dX w.2).getD 0<((AE[l0]?).bind λw=>dX w.2).getD 0):=b1;rw[cl,cl0] at b1;have b2:=f4 l w c g1 g2;have el:l=l0:=by
       rcases Nat.lt_trichotomy l l0 with z | z | z
       . have:=b2.2 z;lia
       . exact z
       . have:=b1.2 z;lia
      subst el;rw[f1] at g1;cases g1;refine kk _ A H' ⟨aG.refl _,sH,r.a.trans sH,λ_ h _=>h⟩ ?_;rw[f3]
      cases hw:w0.1 with
      | int n=>rw[hw] at g3;cases g3;exact Rp.int.mpr rfl
      | str z=>rw[hw] at g3;cases g3;exact Rp.str.mpr rfl
      | _=>rw[hw] at g3;cases g3
   | _=>cases em
noncomputable def yh(i:Nat)(f:B4->AI ab)(ms:List ME):MS:=λΓ=>(evs ms Γ).bind λds=>(f ds).bind λr=>match nY r with
 | some (_,dm)=>.ok (.nx (Γ.set i (some dm)))
 | none=>.bad
variable {rm:Rm}{Ol O':B9}
section
variable     {f:B4->AI ab}{ms:List ME}{m:ME}{e:Expr}
theorem Kg(i:Nat)(he:QE X e (tM K O i f ms))(hs:ip e none pos.line X.env=pure false:=by rfl):QS X (.Expr e pos) (tS K rm Ol O O (yh i f ms)):=QS.imp (qX he.h hs) λD σ H az=>by
 obtain ⟨A,B,Γ,o,r,em,k⟩:=az;obtain ⟨ds,e1,em⟩:=AI.au em;obtain ⟨t,e2,em⟩:=AI.au em
 cases h:nY t with
 | none=>rw[h] at em;cases em
 | some q=>
  obtain ⟨d,dm⟩:=q;rw[h] at em;cases em;rw[zT h] at e2;exact ⟨A,B,Γ,ds,d,dm,r,e1,e2,λv A' H' r' sa nw p=>k _ A' H' r' sa nw⟩
end
noncomputable def aeh(n j:Nat)(m:MS)(ds:B4):AI ab:=(m (ds.map some++ax (n - ds.length) none)).bind λo=>match o with
 | .rt d=>.ok d
 | .nx Γ=>match gv Γ j with
  | some dm=>.ok (.tuple [.none,dm])
  | none=>.bad
 | _=>.bad
variable {N ps:B6}
section
variable     {base:Heap}
theorem WM{st:Stmt}{fs:B9}{O O':Addr->B9}{m:MS}(F:At K mg x st ps)(S:cP N ps (aN st))(hf:fs.length=ps.length)(hn:ps.length<=N.length)
 (hOj:∀p,fl (O p) j= .fix p) (hO:∀p i,i<fs.length->i≠j->(fl (O p) i= .AO/\fl fs i= .AO)\/fl (O p) i= .AN) (agb:∀p,fl (O' p) j= .fix p)
 (hbody:∀(p:Addr) (f:Addr) (AH:a8) (A:iS) (AX:C6) (s:dc) (H:Hp) (E:XK),dz ep (A.deeper (oz x (aN st) s.heap.objs.size f AH)) ->
  QSs (mF CX0 P w K mg base N x (aN st) f AH A AX s H E).nox (bV st) (tS K (.m p) Ol (O p) (O' p) m)):Def P w K mg base (ep+1) x ps (spM K fs j (aeh N.length j m)):=by
 refine F.ok S (λvs H Q E h=>?_) (λf AH A AX s H vs Q E hr h=>?_)
 . obtain ⟨_,_,_,_,_,_,_,_,_,h,_⟩:=h;rw[h,hf]
 . obtain ⟨A',B,ds,d,dm,p,o,ha,hb,hv,hd,hj,hp,ap,bp,hown,hargs,em,q⟩:=h;obtain ⟨out,e1,em⟩:=AI.au em
   cases out with
   | rt d'=>
    cases em;refine ⟨_,(hbody p f AH A AX s H E hr).h,A',rem H p,_,_,v9 ha hb hv hd hj hp ap bp hown hargs (hOj p) (hO p) (by lia),e1,λv A2 H2 s1 s2 sa nw rv=>?_⟩;obtain ⟨d1,dm1,o1,ed,r1,r2,r3,r4⟩:=rv;cases ed;refine q v A2 H2 o1 sa s1 (λb u hbp hu=>s2 b u (by rw[pZ hbp];exact hu)) (λb q1 q2=>?_) r3 r2 r4 r1
    by_cases z:b=p
    . subst z;exact r3
    . exact nw b q1 (by rw[pZ z];exact q2)
   | nx Γ'=>
    cases hg:gv Γ' j with
    | none=>
     have em:(match gv Γ' j with | some dm=>AI.ok (ab.tuple [.none,dm]) | none=>.bad)= .ok (ab.tuple [d,dm]):=em;rw[hg] at em;cases em
    | some dm1=>
     have em:(match gv Γ' j with | some dm=>AI.ok (ab.tuple [.none,dm]) | none=>.bad)= .ok (.tuple [d,dm]):=em;rw[hg] at em;cases em;refine ⟨_,(hbody p f AH A AX s H E hr).h,A',rem H p,_,_,v9 ha hb hv hd hj hp ap bp hown hargs (hOj p) (hO p) (by lia),e1,λσ2 A2 H2 r2 sa nw=>?_⟩;obtain ⟨v',ev,sl⟩:=r2.slot j dm hg;rw[agb p] at sl;obtain ⟨rfl,p',o',e',h1,h2,_,h4⟩:=sl;cases e';refine q .non A2 H2 o' sa r2.a (λb u hbp hu=>r2.b b u (by rw[pZ hbp];exact hu)) (λb q1 q2=>?_) h2 h1 h4 (Rp.none.mpr rfl)
     by_cases z:b=p
     . subst z;exact h2
     . exact nw b q1 (by rw[pZ z];exact q2)
   | _=>cases em
end
noncomputable def pB(key:Key)(AE:B0):B0:=AE.filter λkv=>!decide (bO kv.1=some key)
theorem Hm{key:Key}:∀{AE:B0}{u:A8},bw K A AE u->bw K A (pB key AE) (uv u key)
 | [],u,h=>by rw[bw.nil] at h;subst h;exact bw.nil.mpr rfl
 | (k,d)::r,u,h=>by
  obtain ⟨key',v,u',rfl,hk,hd,hr⟩:=bw.cons.mp h;have ih:=Hm (key:=key) hr;unfold pB uv at ih ⊢
  by_cases e:bO k=some key
  . have ek:=(mY hk).mp e;rw[gL (by simp[e]),gL (by simp[ek])];exact ih
  . have ek:¬ key'=key:=λz=>e ((mY hk).mpr z);rw[iP (by simp[e]),iP (by simp[ek])];exact bw.cons.mpr ⟨key',v,_,rfl,hk,hd,ih⟩
noncomputable def vJ(i j t:Nat):MS:=λΓ=>match gv Γ t,gv Γ i,gv Γ j with
 | some kd,some (.dict fs),some (.dict ws)=>(match bO kd with
  | some key=>(match cR key ws with
   | some d=>gd (fs.length<bE/\i < Γ.length/\j < Γ.length) (.ok (.nx ((Γ.set j (some (.dict (pB key ws)))).set i (some (.dict (gU kd key d fs))))))
   | none=>.bad)
  | none=>.bad)
 | _,_,_=>.bad
variable {tpos apos cpos:Pos}
theorem RW(i j t:Nat){z:Str}{yp ap:Pos}(hu:X.A.units+66<ke)(hij:i≠j)(hti:t≠i)(htj:t≠j)(hi:isO (fl O i)=true:=by rfl)(hj:isO (fl O j)=true:=by rfl)(ht:fl O t= .AO:=by rfl)
 (hNx:X.N[i]?=some x:=by rfl) (hNy:X.N[j]?=some y:=by rfl) (hNz:X.N[t]?=some z:=by rfl)
 (hvx:Vis X.env.scope x:=by first | exact i7 rfl | exact uk (i7 rfl) | exact uk (uk rfl)) (hvy:Vis X.env.scope y:=by first | exact i7 rfl | exact uk (i7 rfl) | exact uk (uk rfl)) (hvz:Vis X.env.scope z:=by first | exact i7 rfl | exact uk (i7 rfl) | exact uk (uk rfl))
 (hdx:nD x:=by decide) (hcx:(x == ("__classdict__" : Str))=false:=by decide) (hdy:nD y:=by decide) (hcy:(y == ("__classdict__" : Str))=false:=by decide) (hdz:nD z:=by decide) (hcz:(z == ("__classdict__" : Str))=false:=by decide)
 (hm:M1 X (.Name y yp) "pop" apos (.Name z ap) cpos:=by exact ⟨rfl,rfl,rfl,rfl⟩)
 (hs:ip (.Call (.Attribute (.Name y yp) "pop" apos) [.Name z ap] [] cpos) (some (.Subscript (.Name x p) (.Name z p1) tpos)) pos.line X.env=pure false:=by rfl) :
 QS X (.Assign [.Subscript (.Name x p) (.Name z p1) tpos] (.Call (.Attribute (.Name y yp) "pop" apos) [.Name z ap] [] cpos) pos) (tS X.K rm Ol O O (vJ i j t)):=by
 refine QS.imp (Pg (by lia) (dM hNx hvx hdx hcx) (dM hNz hvz hdz hcz) (VP (dM hNy hvy hdy hcy) (dM hNz hvz hdz hcz) hm) hs) λD σ H az=>?_;obtain ⟨A,B,Γ,o,r,em,k⟩:=az;unfold vJ at em
 cases gt:gv Γ t with
 | none=>rw[gt] at em;cases em
 | some kd=>
  cases gi:gv Γ i with
  | none=>rw[gt,gi] at em;cases em
  | some di=>
   cases gj:gv Γ j with
   | none=>rw[gt,gi,gj] at em;cases di <;> cases em
   | some dj=>
    rw[gt,gi,gj] at em
    cases di with
    | dict fs=>
     cases dj with
     | dict ws=>
      have em:(match bO kd with
       | some key=>(match cR key ws with
        | some d=>gd (fs.length<bE/\i < Γ.length/\j < Γ.length) (AI.ok (Out.nx ((Γ.set j (some (.dict (pB key ws)))).set i (some (.dict (gU kd key d fs))))))
        | none=>.bad)
       | none=>.bad)= .ok o:=em
      cases hk:bO kd with
      | none=>rw[hk] at em;cases em
      | some key=>
       rw[hk] at em;have em:(match cR key ws with
        | some d=>gd (fs.length<bE/\i < Γ.length/\j < Γ.length) (AI.ok (Out.nx ((Γ.set j (some (.dict (pB key ws)))).set i (some (.dict (gU kd key d fs))))))
        | none=>.bad)= .ok o:=em
       cases hl:cR key ws with
       | none=>rw[hl] at em;cases em
       | some d=>
        rw[hl] at em;obtain ⟨⟨hz,hli,hlj⟩,em⟩:=cu em;cases em;obtain ⟨vt,et,st⟩:=r.slot t kd gt;rw[ht] at st;have vk:=Rp.key st hk;obtain ⟨qj,uj,ej,hj2,rj⟩:=wV r hj gj;obtain ⟨v,lv,rv⟩:=(rj.look).1 d hl;have r1:=r.change (o':=.dK (uv uj key)) hj hlj (by rw[gj];simp) ej hj2 (.inr ⟨_,_,rfl,rfl,Hm rj⟩);have gi1:gv (Γ.set j (some (.dict (pB key ws)))) i=some (.dict fs):=by
         have:=gi;unfold gv at this ⊢;rw[aU (nK hij)];exact this
        obtain ⟨qi,ui,ei,hi2,ri⟩:=wV r1 hi gi1;refine ⟨.ref qj,dO ej,qj,rfl,.inl ⟨uj,.inl hj2⟩,vt,dO et,uj,key,v,hj2,vk,lv,.ref qi,dO ei,vt,dO et,qi,_,rfl,by rw[vk];exact Ey.k hi2 (by rw[<- ri.length];exact hz),?_⟩;exact k σ A _ (r1.change hi (by rw[fy];exact hli) (by rw[gi1];simp) ei hi2 (.inr ⟨_,_,rfl,rfl,bw.put hk rv ri⟩)) (aG.refl _) (λ_ h _=>h)
     | _=>cases em
    | _=>cases em
variable {u:A8}{o:Obj}
section
variable      {d:Addr}
theorem AJ.afU(I:AJ X AD σ H s)(h:H d=some (.dK u)):∃o,AJ X AD σ (AM H d (.frz o (.dK u))) s:=by
 have hd:=I.AR d _ h;obtain ⟨z,hsm,vs,rel,o,es,ep,e1,e2⟩:=id hd;have ne:∀{b:Addr},H b=none->b≠d:=λhn y=>by rw[y,h] at hn;cases hn
 have nd:∀{b:Addr}{x:HO},H b=some x->x ≠ .dK u->b≠d:=λhb hx y=>by rw[y,h] at hb;exact hx (Option.some.inj hb).symm
 refine ⟨o,⟨I.ok,I.os,I.bare,⟨I.base.keep,I.base.slot,λb ob q n hx=>?_,I.base.there,λb xs q=>?_,λb ob u' q=>?_,λb q' q=>?_⟩,I.loc,I.cell,?_,λx c q=>?_,λq hq=>?_,λb ob q=>?_,I.len⟩⟩
 . have:=I.base.free b ob q n hx;rw[aH (ne this)];exact this
 . have:=I.base.tups b xs q;rw[aH (nd this (by intro z;cases z))];exact this
 . have:=I.base.qd b ob u' q;rw[aH (nd this (by intro z;cases z))];exact this
 . have:=I.base.nF b q' q;rw[aH (nd this (by intro z;cases z))];exact this
 . rw[aH (ne I.free)];exact I.free
 . rw[aH (ne (I.jZ x c q))];exact I.jZ x c q
 . obtain ⟨q1,q2,q3⟩:=I.pin q hq;exact ⟨q1,by rw[aH (ne q2)];exact q2,q3⟩
 . have ho:∀c a,H c=some (.own a)->AM H d (.frz o (.dK u)) c=some (.own a):=λc a q=>by rw[aH (nd q (by intro z;cases z))];exact q
   have ht:∀c xs,H c=some (.tup xs)->AM H d (.frz o (.dK u)) c=some (.tup xs):=λc xs q=>by rw[aH (nd q (by intro z;cases z))];exact q
   by_cases hb:b=d
   . subst hb;rw[aY] at q;cases q;exact ⟨e1,hd.stay (λ_ _ _ e=>e) (λc q=>ho c _ q) ht⟩
   . rw[aH hb] at q;exact (I.AR b ob q).stay (λ_ _ _ e=>e) (λc q=>ho c _ q) ht
theorem AJ.ab5(I:AJ X AD σ H s)(h:H d=some (.frz o (.dK u)))(hb0:∀o u,X.H₀ d≠some (.frz o u)):AJ X AD σ (AM H d (.dK u)) s:=by
 have ne:∀{b:Addr},H b=none->b≠d:=λhn y=>by rw[y,h] at hn;cases hn
 have nd:∀{b:Addr}{x:HO},H b=some x->x ≠ .frz o (.dK u)->b≠d:=λhb hx y=>by rw[y,h] at hb;exact hx (Option.some.inj hb).symm
 refine ⟨I.ok,I.os,I.bare,⟨I.base.keep,I.base.slot,λb ob q n hx=>?_,I.base.there,λb xs q=>?_,λb ob u' q=>?_,λb q' q=>?_⟩,I.loc,I.cell,?_,λx c q=>?_,λq hq=>?_,λb ob q=>?_,I.len⟩
 . have:=I.base.free b ob q n hx;rw[aH (ne this)];exact this
 . have:=I.base.tups b xs q;rw[aH (nd this (by intro z;cases z))];exact this
 . have:=I.base.qd b ob u' q;rw[aH (λz=>by rw[z] at q;exact hb0 _ _ q)];exact this
 . have:=I.base.nF b q' q;rw[aH (nd this (by intro z;cases z))];exact this
 . rw[aH (ne I.free)];exact I.free
 . rw[aH (ne (I.jZ x c q))];exact I.jZ x c q
 . obtain ⟨q1,q2,q3⟩:=I.pin q hq;exact ⟨q1,by rw[aH (ne q2)];exact q2,q3⟩
 . have ho:∀c a,H c=some (.own a)->AM H d (.dK u) c=some (.own a):=λc a q=>by rw[aH (nd q (by intro z;cases z))];exact q
   have ht:∀c xs,H c=some (.tup xs)->AM H d (.dK u) c=some (.tup xs):=λc xs q=>by rw[aH (nd q (by intro z;cases z))];exact q
   by_cases hb:b=d
   . subst hb;rw[aY] at q;cases q;exact (I.AR b _ h).2.stay (λ_ _ _ e=>e) (λc q=>ho c _ q) ht
   . rw[aH hb] at q;exact (I.AR b ob q).stay (λ_ _ _ e=>e) (λc q=>ho c _ q) ht
end
noncomputable def Itk(d:Addr)(o:Obj)(u:A8):It:=⟨λi H=>H d=some (.frz o (.dK u))/\i<u.length,λi H x H'=>H'=H/\∃k v,u[i]?=some (k,v)/\x=kV k,λi H=>H d=some (.frz o (.dK u))/\u.length<=i⟩
variable {es:Array ra}
theorem qI(I:AJ X AD σ H s)(h:H a=some (.frz o (.dK u)))(ho:o.data= .dict es ep) :
 (a == fT)=false/\∃vs,KV u vs/\s.heap.DictAt (b7 X.prog X.w) a vs ep:=by
 obtain ⟨e0,z,hsm,vs,rel,o',es',ep',e1,e2,e3,e4⟩:=I.AR a _ h;rw[e0] at e1;cases e1;rw[ho] at e3;cases e3;exact ⟨hsm,vs,rel,o,es,e0,e2,ho,e4⟩
variable {tg:Expr}{it:Addr}
theorem Ul(ho:o.data= .dict es ep):Turn P w K tg (Itk a o u) [it] it (λi h=>h.IsKeyIter it a i u.length ep) where
 mem:=by simp
 obj:=λi h st b hb=>by
  have e:=by simpa using hb
  subst e;obtain ⟨o,e,c,a⟩:=st;exact ⟨o,e,λv z=>by rw[a] at z;cases z⟩
 keep:=λi h h' st k=>st.at λo e=>k it (by simp) o e
 item:=by
  intro X hP hw hK hc i AD s σ H E I hf st hg;subst hP hw hK;obtain ⟨hd,hi⟩:=hg;obtain ⟨hsm,vs,rel,hat⟩:=qI I hd ho;have hl:=rel.length;obtain ⟨⟨k,x⟩,hx⟩:∃q,vs[i]?=some q:=⟨vs[i],ai (by lia)⟩;obtain ⟨⟨k2,v2⟩,g1,g2,g3⟩:=Paired.getL rel hx;have g2:=g2;subst g2;obtain ⟨f0,f1,f2,f3,f4,f5⟩:=hf it (by simp);rw[hl] at st;refine wpAny_pyNext_dict_item st hat hx λkey h' hkey st' sb=>?_;have I1:=I.turned (t':=s.toks) (λb o hb e=>(sb.2 b hb).trans e) f0 f1 f3 f4 f5;obtain ⟨o2,e,c,dd⟩:=id st';exact ⟨key,rfl,zy e c dd (by decide) ⟨kV k2,H,I1,Il hkey,⟨rfl,k2,v2,g1,rfl⟩,by rw[hl];exact st',λb hb=>(hf b hb).1⟩⟩
 done:=by
  intro X hP hw hK hc i AD s σ H E I hf st hg;subst hP hw hK;obtain ⟨hd,hi⟩:=hg;obtain ⟨hsm,vs,rel,hat⟩:=qI I hd ho;have hl:=rel.length;obtain ⟨f0,f1,f2,f3,f4,f5⟩:=hf it (by simp);rw[hl] at st;exact wpAny_pyNext_dict_end (I.ok.hd hc) st hat (by simp;lia) λh' eb=>⟨rfl,I.turned (λb o hb e=>eb b o hb e) f0 f1 f3 f4 f5⟩
 self:=λ_ _ _ _ _ st h=>wpAny_pyIter_keyiter st h
def afl(te:TE):TI:=λσ H R=>te σ H λx H1=>∃d o u,x= .ref d/\H1 d=some (.frz o (.dK u))/\R (Itk d o u) H1
theorem ZX{l:Expr}{te:TE}(hl:PE X l te):PI X tg l (afl te):=by
 intro AD s σ H R I h;refine thn (hl AD s σ H _ I h) λv s1 az=>?_;obtain ⟨x,H1,I1,r1,d,o,u,ex,hd,hR⟩:=az;subst ex;obtain rfl:v=iN d:=r1;obtain ⟨e0,z,hsm,vs,rel,o',es,ep,e1,e2,e3,e4⟩:=I1.AR d _ hd;rw[e0] at e1;cases e1;have hl:=rel.length;refine wpAny_pyIter_dict hsm ⟨o,es,e0,e2,e3,e4⟩ ?_;have kp:∀b ob,s1.heap.get? b=some ob->(s1.heap.push { cls:=.type "dict_keyiterator",data:=.fields #[.ref d,.int 0 0,.int vs.length 0,.int ep 0] }).get? b=some ob:=λb ob e=>aI _ e;refine ⟨s1.heap.objs.size,[s1.heap.objs.size],_,Itk d o u,H1,rfl,I1.un (Un.kept kp) (I1.AR.kept kp),Ul e3,⟨_,c6 _ rfl,rfl,by rw[hl];rfl⟩,λb hb=>?_,hR⟩;rw[ay.mp hb];exact I1.rT (aE _) (I1.AR.fresh (aE _))
noncomputable def sw(d:Addr)(y:HO)(F:Hp):Hp:=λb=>if b=d then (F b).map λ_=>y else F b
variable {F:Hp}
theorem jW{b:Addr}{y:HO}(h:b≠a):sw a y F b=F b:=if_neg h
variable {z:HO}
theorem tX{y:HO}(h:F a=some z):sw a y F a=some y:=by rw[sw,if_pos rfl,h];rfl
theorem gA:sw a z F c=none↔F c=none:=by
 unfold sw;split
 . exact sd
 . exact Iff.rfl
theorem Uj{d:Addr}{y:HO}(h:F d=some z):sw d y F=AM F d y:=by
 funext b;unfold sw AM;split
 . rename_i e;subst e;rw[h];rfl
 . rfl
theorem EY{d:Addr}{y:HO}(s:aG A H):aG (sw d y A) (sw d y H):=λb o e=>by
 by_cases hb:b=d
 . subst hb
   cases q:A b with
   | none=>rw[gA.mpr q] at e;cases e
   | some z=>rw[tX q] at e;cases e;exact tX (s _ _ q)
 . rw[jW hb] at e ⊢;exact s _ _ e
def IsU(u:A8)(z:HO):Prop:=z= .dK u\/∃o,z= .frz o (.dK u)
theorem IsU.rd{u':A8}(h:A a=some z)(i:IsU u z)(r:Rd A a (.dK u')):u'=u:=by
 rcases i with rfl | ⟨o,rfl⟩ <;> rcases r with r | ⟨o',r⟩ <;> rw[h] at r <;> cases r <;> rfl
theorem IsU.of(h:A a=some z)(i:IsU u z):Rd A a (.dK u):=by
 rcases i with rfl | ⟨o,rfl⟩
 . exact .inl h
 . exact .inr ⟨o,h⟩
variable {B:Hp}{xs:List (B3×Addr×a8)}{Γ:Ev}
section
variable  {d:Addr}  {y:HO}
def AtU(F:Hp)(d:Addr)(u:A8):Prop:=∀z,F d=some z->IsU u z
theorem R6{xs:C0}(h:AtU F d u)(r:SqL K F a xs):SqL K (sw d y F) a xs:=by
 rcases r with (e | ⟨o,e⟩) | k
 . exact .inl (.inl (by rw[jW (λq=>by subst q;rcases h _ e with z | ⟨_,z⟩ <;> cases z)];exact e))
 . exact .inl (.inr ⟨o,by rw[jW (λq=>by subst q;rcases h _ e with z | ⟨_,z⟩ <;> cases z)];exact e⟩)
 . exact .inr k
theorem K3{xs:C0}(h:AtU F d u)(r:SqT K F a xs):SqT K (sw d y F) a xs:=by
 rcases r with (e | ⟨o,e⟩) | k
 . exact .inl (.inl (by rw[jW (λq=>by subst q;rcases h _ e with z | ⟨_,z⟩ <;> cases z)];exact e))
 . exact .inl (.inr ⟨o,by rw[jW (λq=>by subst q;rcases h _ e with z | ⟨_,z⟩ <;> cases z)];exact e⟩)
 . exact .inr k
theorem Uw{w:A8}(h:AtU F d u)(hy:IsU u y)(r:Rd F a (.dK w)):Rd (sw d y F) a (.dK w):=by
 by_cases q:a=d
 . subst q;obtain ⟨z,e⟩:∃z,F a=some z:=by rcases r with e | ⟨o,e⟩ <;> exact ⟨_,e⟩
   rw[IsU.rd e (h _ e) r];exact hy.of (tX e)
 . rcases r with e | ⟨o,e⟩
   . exact .inl (by rw[jW q];exact e)
   . exact .inr ⟨o,by rw[jW q];exact e⟩
mutual
theorem z9(h:AtU A d u)(hy:IsU u y):∀(x:ab) {v:V},Rp K A x v->Rp K (sw d y A) x v
 | .none,v,r=>by rw[Rp] at r ⊢;exact r
 | .bool _,v,r=>by rw[Rp] at r ⊢;exact r
 | .int _,v,r=>by rw[Rp] at r ⊢;exact r
 | .str _,v,r=>by rw[Rp] at r ⊢;exact r
 | .list ds,v,r=>by
  rw[Rp] at r ⊢;obtain ⟨a,vs,h1,h2,h3⟩:=r;exact ⟨a,vs,h1,R6 h h2,sO h hy ds h3⟩
 | .tuple ds,v,r=>by
  rw[Rp] at r ⊢;obtain ⟨a,vs,h1,h2,h3⟩:=r;exact ⟨a,vs,h1,K3 h h2,sO h hy ds h3⟩
 | .dict AE,v,r=>by
  rw[Rp] at r ⊢;obtain ⟨a,w,h1,h2,h3⟩:=r;exact ⟨a,w,h1,Uw h hy h2,zV h hy AE h3⟩
theorem sO(h:AtU A d u)(hy:IsU u y):∀(ds:B4) {vs:C0},aA K A ds vs->aA K (sw d y A) ds vs
 | [],vs,r=>by rw[aA] at r ⊢;exact r
 | x::ds,vs,r=>by
  rw[aA] at r ⊢;obtain ⟨v,t,h1,h2,h3⟩:=r;exact ⟨v,t,h1,z9 h hy x h2,sO h hy ds h3⟩
theorem zV(h:AtU A d u)(hy:IsU u y):∀(AE:B0) {w:A8},bw K A AE w->bw K (sw d y A) AE w
 | [],w,r=>by rw[bw] at r ⊢;exact r
 | (k,x)::t,w,r=>by
  rw[bw] at r ⊢;obtain ⟨key,v,w',h1,h2,h3,h4⟩:=r;exact ⟨key,v,w',h1,h2,z9 h hy x h3,zV h hy t h4⟩
end
theorem afx{x:ab}(hA:AtU A d u)(hB:AtU B d u)(hy:IsU u y)(p:Pk K A B x v):Pk K (sw d y A) (sw d y B) x v:=by
 rcases p with p | ⟨p,vs,ds,e1,e2,h1,h2⟩ | ⟨p,w,AE,e1,e2,h1,h2⟩
 . exact .inl (z9 hA hy x p)
 . exact .inr (.inl ⟨p,vs,ds,e1,e2,R6 hB h1,sO hA hy ds h2⟩)
 . exact .inr (.inr ⟨p,w,AE,e1,e2,Uw hB hy h1,zV hA hy AE h2⟩)
theorem OD{x:ab}{o:HO}(hA:AtU A d u)(hy:IsU u y)(h:iY K A x o):iY K (sw d y A) x o:=by
 rcases h with ⟨ds,vs,e1,e2,h⟩ | ⟨AE,w,e1,e2,h⟩
 . exact .inl ⟨ds,vs,e1,e2,sO hA hy ds h⟩
 . exact .inr ⟨AE,w,e1,e2,zV hA hy AE h⟩
theorem adG{xs:List (dw×Addr×a8)}(hA:AtU A d u)(hy:IsU u y)(h:RpN K A AE xs):RpN K (sw d y A) AE xs:=by
 obtain ⟨us,h1,h2⟩:=h;exact ⟨us,h1.keeps λb ys q=>K3 hA q,Paired.rP h2 λ_ _ z=>⟨z.1,z9 hA hy _ z.2⟩⟩
theorem acM(hA:AtU A d u)(hy:IsU u y)(h:RpT K A AE xs):RpT K (sw d y A) AE xs:=
 Paired.rP h λ_ _ z=>⟨z.1,K3 hA z.2.1,z.2.2.imp λv q=>⟨q.1,z9 hA hy _ q.2⟩⟩
theorem AtU.sub(s:aG A H)(h:AtU H d u):AtU A d u:=λz e=>h z (s _ _ e)
theorem aZ.sw(r:aZ K A B H O σ Γ)(hH:AtU H d u)(hd:A d≠none\/B d≠none)(hy:IsU u y):aZ K (sw d y A) (sw d y B) (sw d y H) O σ Γ:=by
 have hA:=hH.sub r.a;have hB:=hH.sub r.b;have nd:∀{p:Addr},A p=none->B p=none->p≠d:=λa b z=>by
  subst z;rcases hd with q | q
  . exact q a
  . exact q b
 refine ⟨EY r.a,EY r.b,r.len,λi x e=>?_,r.sep⟩;obtain ⟨v,ev,q⟩:=r.slot i x e;refine ⟨v,ev,?_⟩
 cases hf:fl O i with
 | AO=>rw[hf] at q;exact z9 hA hy x q
 | AN=>rw[hf] at q;exact afx hA hB hy q
 | own=>
  rw[hf] at q;obtain ⟨p,o,rfl,h1,h2,h3,h4⟩:=q;exact ⟨p,o,rfl,by rw[jW (nd h2 h3)];exact h1,gA.mpr h2,gA.mpr h3,OD hA hy h4⟩
 | fix p0=>
  rw[hf] at q;obtain ⟨q0,p,o,rfl,h1,h2,h3,h4⟩:=q;exact ⟨q0,p,o,rfl,by rw[jW (nd h2 h3)];exact h1,gA.mpr h2,gA.mpr h3,OD hA hy h4⟩
 | kit=>
  rw[hf] at q;obtain ⟨p,xs,AE,h1,h2,h3,h4⟩:=q;exact ⟨p,xs,AE,h1,h2,by rw[jW (λz=>by subst z;rcases hA _ h3 with z | ⟨_,z⟩ <;> cases z)];exact h3,acM hA hy h4⟩
 | exc C=>
  rw[hf] at q;obtain ⟨p,ob,h1,h2,h3⟩:=q;exact ⟨p,ob,h1,by rw[jW (λz=>by subst z;rcases hA _ h2 with z | ⟨_,z⟩ <;> cases z)];exact h2,h3⟩
 | nst b=>
  rw[hf] at q;intro z;obtain ⟨p,xs,AE,h1,h2,h3,h4,h5,h6⟩:=q z;exact ⟨p,xs,AE,h1,h2,by rw[jW (nd h4 h5)];exact h3,gA.mpr h4,gA.mpr h5,adG hA hy h6⟩
theorem O6{y:HO}(h:∀x,F d=some x->x=z):sw d z (sw d y F)=F:=by
 funext b
 by_cases q:b=d
 . subst q
   cases e:F b with
   | none=>exact gA.mpr (gA.mpr e)
   | some x=>rw[tX (tX e),h x e]
 . rw[jW q,jW q]
theorem adL{y:HO}(h:New (sw d y A) H (sw d y B)):New A (sw d z H) B:=λp h1 h2=>gA.mpr (h p (gA.mpr h1) (λe=>h2 (gA.mp e)))
theorem XH{y:HO}(h:aG (sw d y A) H)(hz:∀x,A d=some x->x=z):aG A (sw d z H):=by
 have:=EY (d:=d) (y:=z) h;rwa [O6 hz] at this
end
def Xr(σ:St)(H:Hp)(i:Nat):Prop:=∃d o u,sv σ i=some (.ref d)/\H d=some (.frz o (.dK u))
noncomputable def itK(i:Nat):MI:=λΓ=>match gv Γ i with
 | some (.dict AE)=>.ok (AE.map (·.1))
 | _=>.bad
def acS(K:aw)(O:B9)(i:Nat)(it:MI):TI:=λσ H R=>Xr σ H i/\tIc K O it σ H R
def tSz(K:aw)(rm:Rm)(Ol O O':B9)(i:Nat)(m:MS):TS:=λD σ H=>Xr σ H i/\tS K rm Ol O O' m D σ H
noncomputable def isR:Fl->Bool
 | .AO=>true
 | .AN=>true
 | _=>false
theorem yW(r:aZ K A B H O σ Γ)(hi:isR (fl O i)=true)(hg:gv Γ i=some (.dict AE)) :
 ∃d u z,sv σ i=some (.ref d)/\H d=some z/\IsU u z/\(A d≠none\/B d≠none)/\bw K A AE u:=by
 obtain ⟨v,ev,q⟩:=r.slot i _ hg;have go:∀{F:Hp}{d:Addr}{u:A8},aG F H->Rd F d (.dK u)->F d≠none/\∃z,H d=some z/\IsU u z:=λs rd=>by
  rcases rd with e | ⟨o,e⟩
  . exact ⟨by rw[e];simp,_,s _ _ e,.inl rfl⟩
  . exact ⟨by rw[e];simp,_,s _ _ e,.inr ⟨o,rfl⟩⟩
 have p:Pk K A B (.dict AE) v:=by
  cases hf:fl O i with
  | AO=>rw[hf] at q;exact .inl q
  | AN=>rwa [hf] at q
  | _=>rw[hf] at hi;cases hi
 rcases p with p | ⟨p,vs,ds,e1,e2,h1,h2⟩ | ⟨p,w,kvs',e1,e2,h1,h2⟩
 . obtain ⟨d,u,rfl,h1,h2⟩:=Rp.dict.mp p;obtain ⟨n,z,e,iu⟩:=go r.a h1;exact ⟨d,u,z,ev,e,iu,.inl n,h2⟩
 . cases e2
 . cases e2;subst e1;obtain ⟨n,z,e,iu⟩:=go r.b h1;exact ⟨p,w,z,ev,e,iu,.inr n,h2⟩
theorem TV{xs:B4}(h:itK i Γ = .ok xs):∃AE,gv Γ i=some (.dict AE)/\xs=AE.map (·.1):=by
 unfold itK at h
 cases e:gv Γ i with
 | none=>rw[e] at h;cases h
 | some d=>
  rw[e] at h
  cases d with
  | dict AE=>cases h;exact ⟨AE,rfl,rfl⟩
  | _=>cases h
theorem KJ{k:ab}{key:Key}(h:bO k=some key):Rp K A k (kV key):=by
 cases k with
 | int i=>cases h;exact Rp.int.mpr rfl
 | str x=>cases h;exact Rp.str.mpr rfl
 | _=>cases h
section
variable  {Ob O1:B9}  {is:B5}{it:MI}{g:MG}{mc me:ME}{elt iter:Expr}{ifs:C1}  {nt:Nat}
theorem aac(i:Nat)(hi:isR (fl O i)=true:=by rfl)(nm:Nm X i x:=by walk_at "nm"):QI X tg (.Name x pos) (acS X.K O i (itK i)):=
 QI.imp (ZX (dM nm.1 nm.2 nm.3 nm.4)) λσ H R az=>by
  obtain ⟨⟨d,o,u,e1,e2⟩,A,B,Γ,xs,r,em,k⟩:=az;obtain ⟨AE,hg,rfl⟩:=TV em;obtain ⟨d',u',z,f1,f2,f3,f4,f5⟩:=yW r hi hg;rw[e1] at f1;cases f1;rw[e2] at f2;cases f2;have eu:u'=u:=by
   rcases f3 with z | ⟨o',z⟩ <;> cases z;rfl
  subst eu;have hl:=f5.len;refine ⟨.ref d,dO e1,d,o,u',rfl,e2,k _ A H (aX.refl r.a) ⟨λn H2 s1 s2 hn=>⟨s2 _ _ e2,by rw[af] at hn;lia⟩,λH2 s1 s2=>⟨s2 _ _ e2,by rw[af];lia⟩,λn A2 H2 v H3 sa s2 s3 hn hy=>?_⟩⟩;obtain ⟨rfl,key,w,e3,rfl⟩:=hy;obtain ⟨k1,d1,g1,g2,g3⟩:=wM f5 e3;exact ⟨A2,k1,by rw[br,g1];rfl,aX.refl s2,KJ g2⟩
theorem YQ{st:Stmt}{m:MS}(i:Nat)(hi:isR (fl O i)=true)(hm:∀Γ o,m Γ = .ok o->(∃AE,gv Γ i=some (.dict AE))/\∃Γ',o= .nx Γ')(h:QS X st (tSz X.K rm Ol O O' i m)):QS X st (tS X.K rm Ol O O' m):=by
 refine ⟨λAD s σ H D I ⟨A,B,Γ,x,r,em,k⟩=>?_⟩;obtain ⟨⟨AE,hg⟩,Γ',rfl⟩:=hm Γ x em;obtain ⟨d,u,z,f1,f2,f3,f4,f5⟩:=yW r hi hg;rcases f3 with rfl | ⟨o,rfl⟩
 . obtain ⟨o,I1⟩:=I.afU f2;have hH:AtU H d u:=λz e=>by rw[f2] at e;cases e;exact .inl rfl
   have r1:=r.sw hH f4 (.inr ⟨o,rfl⟩);rw[<- Uj f2] at I1;have eA:∀z,A d=some z->z= .dK u:=λz e=>by have:=r.a _ _ e;rw[f2] at this;cases this;rfl
   have eB:∀z,B d=some z->z= .dK u:=λz e=>by have:=r.b _ _ e;rw[f2] at this;cases this;rfl
   have hd1:sw d (.frz o (.dK u)) A d≠none\/sw d (.frz o (.dK u)) B d≠none:=by
    rcases f4 with q | q
    . exact .inl λz=>q (gA.mp z)
    . exact .inr λz=>q (gA.mp z)
   refine thn (h.h AD s σ _ ⟨λσ' H'=>∃A',aZ X.K A' (sw d (.frz o (.dK u)) B) H' O' σ' Γ'/\aG (sw d (.frz o (.dK u)) A) A'/\New (sw d (.frz o (.dK u)) A) A' (sw d (.frz o (.dK u)) B),λ_ _=>False,λ_ _=>False,λ_ _=>False⟩ I1 ⟨⟨d,o,u,f1,tX f2⟩,_,_,Γ,_,r1,em,λσ' A' H' r' sa nw=>⟨A',r',sa,nw⟩⟩) λfl s1 q=>?_
   cases fl with
   | next=>
    obtain ⟨σ',H',I2,A',r',sa,nw⟩:=q;have fH:H' d=some (.frz o (.dK u)):=by
     rcases f4 with q | q
     . cases e:A d with
       | none=>exact absurd e q
       | some z=>exact r'.a _ _ (sa _ _ (tX e))
     . cases e:B d with
       | none=>exact absurd e q
       | some z=>exact r'.b _ _ (tX e)
    have hU:AtU H' d u:=λz e=>by rw[fH] at e;cases e;exact .inr ⟨o,rfl⟩
    have I3:=I2.ab5 fH λo' u' q=>by have:=I.base.qd _ _ _ q;rw[f2] at this;cases this
    rw[<- Uj fH] at I3;have r2:=r'.sw hU (by
     rcases hd1 with q | q
     . left;intro z
       cases e:sw d (.frz o (.dK u)) A d with
       | none=>exact q e
       | some x=>rw[sa _ _ e] at z;cases z
     . exact .inr q) (.inl rfl)
    rw[O6 eB] at r2;exact ⟨σ',_,I3,k σ' _ _ r2 (XH sa eA) (adL nw)⟩
   | ret v=>
    obtain ⟨_,_,_,_,_,z⟩:=q;exact lI z
   | brk=>obtain ⟨_,_,_,z⟩:=q;exact lI z
   | cont=>obtain ⟨_,_,_,z⟩:=q;exact lI z
 . exact h.h AD s σ H D I ⟨⟨d,o,u,f1,f2⟩,A,B,Γ,_,r,em,k⟩
theorem Xq(q i:Nat){O2:B9}(tn:B6)(ix:B5)(hri:isR (fl O q)=true)(hN:X.N.Nodup)(hiN:X.N[i]?=some y)(hy:Loc X.env.scope y)(S:iU X scope ix=true)(hc:X.calm=true)(hOb:Ob=m9 tn.length ix O)(hnt:nt=tn.length)(his:∀j∈is,j<tn.length)(hi:QI X tg iter (acS X.K O q (itK q)))
 (hg:∀cl C s₂ H₂ fp,QG (X.comp scope tn ix cl C s₂ H₂ fp) tg (tG X.K Ob O1 is g)) (ht:∀cl C s₂ H₂ fp,yc (X.comp scope tn ix cl C s₂ H₂ fp) ifs (tT X.K O1 mc)) (he:∀cl C s₂ H₂ fp,QE (X.comp scope tn ix cl C s₂ H₂ fp) elt (tE X.K O1 me))
 (hl:i<O.length:=by exact of_decide_eq_true rfl) (hsw:ip (.ListComp elt [⟨tg,iter,ifs,0⟩] scope pos) (some (.Name y p)) p1.line X.env=pure true:=by rfl)
 (hf:X.fn y=true\/X.env.scope.names.lookup y=some .local:=by walk_at "hf")
 (hs:∀x,jI iter X.env x=pure x:=by intro _;rfl) (hO:O.set i .own=O2:=by rfl):QS X (.Assign [.Name y p] (.ListComp elt [⟨tg,iter,ifs,0⟩] scope pos) p1) (tS X.K rm Ol O O2 (bc i (cC (itK q) g mc me nt ix))):=
 YQ q hri (λΓ o h=>by
  obtain ⟨x,e1,h⟩:=AI.au h;obtain ⟨xs,e2,_⟩:=AI.au e1;obtain ⟨AE,e,_⟩:=TV e2;obtain ⟨_,h⟩:=cu h;cases h;exact ⟨⟨AE,e⟩,_,rfl⟩) (hO ▸ QS.imp (Ox hN hiN hy S hc hi.h (λcl C s₂ H₂ fp=>(hg cl C s₂ H₂ fp).h) (λcl C s₂ H₂ fp=>(ht cl C s₂ H₂ fp).h) (λcl C s₂ H₂ fp=>(he cl C s₂ H₂ fp).h) hsw hf hs) λD σ H h=>⟨h.1,yC (λσ' H' Q' z=>Bo hOb hnt his z) hl h.2⟩)
end
section
variable     {base:Heap}
theorem Zt{st:Stmt}{fs:B9}{m:MS}(F:At K mg "ways" st ps)(hT:TabAt K mg T)(S:cP N ps (aN st))(hf:fs.length=ps.length)(hn:ps.length<=N.length)
 (hO:∀i,i<fs.length->(fl O i= .AO/\fl fs i= .AO)\/fl O i= .AN)
 (hbody:∀(f cd:Addr) (A:iS) (AX:C6) (s:dc) (H:Hp) (E:XK),i8 K cd T=true->dz ep (A.deeper (oz "ways" (aN st) s.heap.objs.size f (.ref cd))) ->
  QSs (mF CX0 P w K mg base N "ways" (aN st) f (.ref cd) A AX s H E).nox (bV st) (tS K rm Ol O O' m)):Def P w K mg base (ep+1) "ways" ps (spF K fs rm (fnR N.length m)):=by
 obtain ⟨f,fd,F,b,hm⟩:=F.ex;refine ⟨f,fd,?_,b,F.kp,hm⟩;obtain ⟨oc,od,kV,doc,pm,an,AH,ct,osl,rfl,lk,hcd⟩:=F.ex;obtain ⟨f',o,fd',c,t1,t2,t3,t4,t5⟩:=hT;rw[hm] at t1;cases t1;rw[lk] at t2;cases t2;have t3:=t3;cases t3;have t4:=t4;subst t4;refine YX lk hcd S (λvs H Q E h=>?_) λA AX s H vs Q E hr h=>?_
 . obtain ⟨A,ds,d,_,h,_⟩:=h;rw[h.length.1,hf]
 . obtain ⟨A',ds,d,ha,h,em,q⟩:=h;obtain ⟨o,e1,em⟩:=AI.au em
   cases o with
   | rt d'=>
    cases em;exact ⟨_,(hbody f c A AX s H E t5 hr).h.nox,A',H,_,_,pK ha h hO (by lia),e1,λv A2 H2 s1 s2 sa nw rv=>q v A2 H2 ⟨sa,s2,s1,nw⟩ rv⟩
   | _=>cases em
theorem WX{f:Addr}(hm:mg "ways"= some (.ref f))(h:pJ K f T=true):TabAt K mg T:=by
 unfold pJ at h;rw[dS] at h;have h:=h.1;split at h
 . rename_i oc od fd sl e;split at h
   . rename_i c ec;exact ⟨f,_,fd,c,hm,e,rfl,ec,h⟩
   . cases h
 . cases h
end
noncomputable def QZ:B4->AI ab
 | [.dict AE]=>gd (AE.length<=bE) (.ok (.list (AE.map (·.1))))
 | _=>.bad
theorem Oi:∀{AE:B0}{u:A8},bw K A AE u->aA K A (AE.map (·.1)) (u.map λq=>kV q.1)
 | [],u,h=>by rw[bw.nil.mp h];exact aA.nil.mpr rfl
 | (k,d)::r,u,h=>by
  obtain ⟨key,v,u',rfl,h1,h2,h3⟩:=bw.cons.mp h;exact aA.cons.mpr ⟨_,_,rfl,KJ h1,Oi h3⟩
theorem G7{P:gc}{w:kT}:∀{u:A8}{vs:List (Key×a8)}{AF:B8},KV u vs->AF.length=vs.length->(∀(j:Nat) (v:a8),AF[j]?=some v->∃(k:Key) (x:a8),vs[j]?=some (k,x)/\(b7 P w).is k v=true)->AL (u.map λq=>kV q.1) AF
 | [],_,[],_,_,_=>.nil
 | [],_,a::AF,.nil,hl,_=>by simp at hl
 | q::u,_,[],.cons r t,hl,_=>by simp at hl
 | q::u,vs,a::AF,h,hl,hv=>by
  cases h with
  | @cons _ q2 _ vs2 r t=>
   obtain ⟨k,x,e1,e2⟩:=hv 0 a rfl;have e1:=Option.some.inj e1;subst e1;refine .cons ?_ (G7 (P:=P) (w:=w) t (by simpa using hl) λj v e=>?_)
   . show AK (kV q.1) a;rw[r.1];exact Il e2
   . obtain ⟨k',x',e3,e4⟩:=hv (j+1) v (by simpa using e);exact ⟨k',x',by simpa using e3,e4⟩
theorem QR(hc:X.calm=true):fM X (.type "list") (λxs H Q=>∃p u,xs=[.ref p]/\Rd H p (.dK u)/\∀l,H l=none->Q (.ref l) (AM H l (.lst (u.map λq=>kV q.1)))):=by
 rintro AD s σ H xs us Q I r ⟨p,u,rfl,he,q⟩;obtain ⟨z,rfl,rx⟩:=vals1 r;cases rx;obtain ⟨hz,hsys,vs,kv,dd⟩:=qw I.AR he;obtain ⟨ep,hat⟩:=dd.dictAt;have hl:=kv.length;refine PySem.W.kdl_call (PySem.W.kdl_dict hsys) (I.ok.hd hc) hat (by lia) λh' tk AF c hk hS hacc=>?_;have fr:=I.AR.fresh (aE s.heap.objs.size);have vl:=G7 kv (by rw[l6];exact hacc.1) λj v e=>hacc.2 j v (by rw[<- sm];exact e);refine ⟨.ref s.heap.objs.size,_,I.un (Un.laid hk (aE _) fr) (I.AR.laid hk (aE _) ?_),rfl,q _ fr⟩;exact ⟨by rw[af];lia,AF.toList,c,vl,by rw[Array.toArray_toList];exact hS⟩
theorem Wi(hc:X.calm=true):fM X (.type "list") (rCF X.K QZ):=by
 rintro AD s σ H xs us Q I r ⟨A,ds,d,e,ha,p,k⟩
 match ds,e with
 | [.dict AE],e=>
  obtain ⟨hz,e⟩:=cu e;cases e;obtain ⟨v,r',rfl,p1,p2⟩:=p.cons;obtain rfl:=p2.nil;obtain ⟨l,u,rfl,h1,q1⟩:=p1.dict ha;exact QR hc AD s σ H _ us Q I r ⟨l,u,rfl,h1,λq hq=>k _ A _ (aX.lay ha hq) ⟨q,_,rfl,hq,aY,ha.free hq,.inl ⟨_,_,rfl,rfl,Oi q1⟩⟩⟩
def NX(m:MS):Prop:=∀Γ o,m Γ = .ok o->∃Γ',o= .nx Γ'
theorem ac7:NX cB:=λΓ o h=>by cases h;exact ⟨_,rfl⟩
theorem ad3{a b:MS}(ha:NX a)(hb:NX b):NX (aK a b):=λΓ o h=>by
 obtain ⟨o1,e1,h⟩:=AI.au h;obtain ⟨Γ',rfl⟩:=ha Γ o1 e1;exact hb Γ' o h
theorem ae3{c:ME}{a b:MS}(ha:NX a)(hb:NX b):NX (sIf c a b):=λΓ o h=>by
 obtain ⟨x,e1,h⟩:=AI.au h
 cases x with
 | bool t=>cases t with
  | true=>exact ha Γ o h
  | false=>exact hb Γ o h
 | _=>cases h
theorem acY{m:ME}:NX (mH i m):=λΓ o h=>by
 obtain ⟨d,_,h⟩:=AI.au h;split at h
 . obtain ⟨_,h⟩:=cu h;cases h;exact ⟨_,rfl⟩
 . cases h
theorem ad7{m m':ME}:NX (je i m m'):=λΓ o h=>by
 obtain ⟨d,_,h⟩:=AI.au h;obtain ⟨d',_,h⟩:=AI.au h;split at h
 . split at h
   . obtain ⟨_,h⟩:=cu h;cases h;exact ⟨_,rfl⟩
   . cases h
 . cases h
theorem Om{g:MG}{cl:B5}{b:MS}(hb:NX b):∀{xs:B4}{Γ:Ev}{o:Out},forR g cl b xs Γ = .ok o->∃Γ',o= .nx Γ'
 | [],Γ,o,h=>by cases h;exact ⟨_,rfl⟩
 | x::xs,Γ,o,h=>by
  rw[forR] at h;obtain ⟨Γ1,_,h⟩:=AI.au h;obtain ⟨o1,e1,h⟩:=AI.au h;obtain ⟨Γ',rfl⟩:=hb Γ1 o1 e1;exact Om hb h
def tIK(K:aw)(O:B9)(i:Nat)(it:MI):TI:=λσ H R=>Xr σ H i/\tI K O it σ H R
noncomputable def Itd(d:Addr)(o:Obj)(u:A8):It:=
 ⟨λi H=>H d=some (.frz o (.dK u))/\i<u.length,λi H x H'=>∃p k v,H p=none/\x= .ref p/\H'=AM H p (.tup [kV k,v])/\u[i]?=some (k,v),λi H=>H d=some (.frz o (.dK u))/\u.length<=i⟩
theorem ZC:entryFor table "dict_itemiterator.__iter__"= some Builtin.«dict_keyiterator.__iter__» := entryFor_alias (id':= "dict_keyiterator.__iter__") (by kernel_rfl) rfl (by decide +kernel) (by kernel_rfl)
theorem Q3{A:iS}{ok ov:a8}(hit:IsItemIter s.heap it a i j ep ok ov)(h:Q (.ref it) s):eh (eJ P w) A (pyIter (.ref it)) Q E s:=by
 have hT:s.TypeIs (.ref it) "dict_itemiterator" := ⟨_,hit,rfl⟩;refine wpAny_pyIter_slot hT pE (gz pE hT ZC ?_ (PySem.F.args_dict_itemiterator_iter_1 _));exact bt ⟨_,rfl, "dict_itemiterator",_,hT,PySem.F.slot_dict_itemiterator_next.lookup,h⟩
variable {elts:C1}
theorem RL{x1}(ho:o.data= .dict es ep) :
 Turn P w K (.Tuple elts x1 tpos) (Itd a o u) [it] it (λi h=>∃ok ov,IsItemIter h it a i u.length ep ok ov) where
 mem:=by simp
 obj:=λi h st b hb=>by
  have e:b=it:=by simpa using hb
  subst e;obtain ⟨ok,ov,e⟩:=st;exact ⟨_,e,λv z=>by cases z⟩
 keep:=λi h h' st k=>by
  obtain ⟨ok,ov,e⟩:=st;exact ⟨ok,ov,k it (by simp) _ e⟩
 item:=by
  intro X hP hw hK hc i AD s σ H E I hf st hg;subst hP hw hK;obtain ⟨ok,ov,st⟩:=st;obtain ⟨hd,hi⟩:=hg;obtain ⟨hsm,vs,rel,hat⟩:=qI I hd ho;have hl:=rel.length;obtain ⟨⟨k,x⟩,hx⟩:∃q,vs[i]?=some q:=⟨vs[i],ai (by lia)⟩;obtain ⟨⟨k2,v2⟩,g1,g2,g3⟩:=Paired.getL rel hx;have g2:k2=k:=g2;subst g2;have fz:=hf it (by simp);rw[hl] at st;refine wpAny_pyNext_items_item st hat hx λkey h' hkey st' hN hsz hk=>?_;refine ⟨_,rfl,?_⟩;refine wpAny_letOwnedTupleGo_items (s:={ s with heap:=h' }) st' λh2 hz2 sb2=>?_;have hnew:H s.heap.objs.size=none:=I.AR.fresh (aE _);have hpz:s.heap.objs.size≠it:=rg (cy st);have hN2:h2.get? s.heap.objs.size=some { cls:=.type "tuple",data:=.seq #[key,x] }:=sb2.extBut _ _ hpz hN;have k3:∀c ob,s.heap.get? c=some ob->c∉[it]->h2.get? c=some ob:=λc ob q hc=>sb2.extBut c ob (λe=>hc (by simp[e])) (hk c ob (λe=>hc (by simp[e])) q);have I2:=I.zK (tk:=s.toks) hf k3 hN2 rfl rfl (Il hkey) g3;refine ⟨.ref s.heap.objs.size,_,I2,rfl,⟨_,k2,v2,hnew,rfl,rfl,g1⟩,⟨key,x,by rw[hl];exact hz2⟩,λb hb=>?_⟩;have hb':b=it:=by simpa using hb
  subst hb';rw[aH (nK hpz)];exact fz.1
 done:=by
  intro X hP hw hK hc i AD s σ H E I hf st hg;subst hP hw hK;obtain ⟨ok,ov,st⟩:=st;obtain ⟨hd,hi⟩:=hg;obtain ⟨hsm,vs,rel,hat⟩:=qI I hd ho;have hl:=rel.length;obtain ⟨f0,f1,f2,f3,f4,f5⟩:=hf it (by simp);rw[hl] at st;exact wpAny_pyNext_items_end (I.ok.hd hc) st hat (by simp;lia) λh' eb=>⟨rfl,I.turned (t':=s.toks) (λb o hb e=>eb b o hb e) f0 f1 f3 f4 f5⟩
 self:=λ_ _ _ _ _ st h=>by
  obtain ⟨ok,ov,st⟩:=st;exact Q3 st h
def abP(te:TE):TI:=λσ H R=>te σ H λx H1=>∃d o u,x= .ref d/\H1 d=some (.frz o (.dK u))/\R (Itd d o u) H1
theorem Xm{te:TE}{x1}(hl:PE X tg te)(hbase:nE tg "items" X.env (eval tg X.env)=eval tg X.env:=by rfl)(hline:(apos.endLine == cpos.line)=true:=by rfl):PI X (.Tuple elts x1 tpos) (.Call (.Attribute tg "items" apos) [] [] cpos) (abP te):=by
 intro AD s σ H R I h;refine wpAny_Call_method0_late hbase hline (thn (hl AD s σ H _ I h) λv s1 az=>?_);obtain ⟨x,H1,I1,r1,d,o,u,ex,hd,hR⟩:=az;subst ex;obtain rfl:v=iN d:=r1;obtain ⟨t1,t2,_⟩:=Uv I1 (.inl ⟨u,.inr ⟨o,hd⟩⟩);obtain ⟨e0,z,hsm,vs,rel,o',es,ep,e1,e2,e3,e4⟩:=I1.AR d _ hd;rw[e0] at e1;cases e1;have hlen:=rel.length;have dd:s1.heap.DictOf (b7 X.prog X.w) d vs:=⟨o,es,ep,e0,e2,e3,e4⟩;refine ⟨"dict", "dict.items",xB,xI,PySem.F.type_dict_items,t1,t2,ro rfl (PySem.evalArgs_none (call_meetsIn xI t1 PySem.F.entry_dict_items (PySem.F.args_dict_items_1 _) (meets_dict_items (b7 X.prog X.w) d hsm) ⟨⟨vs,dd⟩,?_⟩))⟩;have hat:(s1.heap.push { cls:=.type "dict_items",data:=.fields #[.ref d] }).DictAt (b7 X.prog X.w) d vs ep:=⟨o,es,aI _ e0,e2,e3,e4⟩;refine wpAny_pyIter_items ⟨_,c6 _ rfl,rfl,rfl⟩ hat ?_;have kp:∀b ob,s1.heap.get? b=some ob->((s1.heap.push { cls:=.type "dict_items",data:=.fields #[.ref d] }).push { cls:=.type "dict_itemiterator",data:=.fields #[.none,.bool false,.ref d,.int 0 0,.int vs.length 0,.int ep 0,.none,.none] }).get? b=some ob:=λb ob e=>aI _ (aI _ e);have hsz:s1.heap.objs.size<=(s1.heap.push { cls:=.type "dict_items",data:=.fields #[.ref d] }).objs.size:=by rw[iX];lia
 refine ⟨_,[(s1.heap.push { cls:=.type "dict_items",data:=.fields #[.ref d] }).objs.size],_,Itd d o u,H1,rfl,I1.un (Un.kept kp) (I1.AR.kept kp),RL e3,⟨.none,.none,by rw[hlen];exact c6 _ rfl⟩,λb hb=>?_,hR⟩;rw[ay.mp hb];exact I1.rT hsz (I1.AR.fresh hsz)
noncomputable def itI(i:Nat):MI:=λΓ=>match gv Γ i with
 | some (.dict AE)=>.ok (AE.map λq=>ab.tuple [q.1,q.2])
 | _=>.bad
theorem Tn{xs:B4}(h:itI i Γ = .ok xs):∃AE,gv Γ i=some (.dict AE)/\xs=AE.map λq=>ab.tuple [q.1,q.2]:=by
 unfold itI at h
 cases e:gv Γ i with
 | none=>rw[e] at h;cases h
 | some d=>
  rw[e] at h
  cases d with
  | dict AE=>cases h;exact ⟨AE,rfl,rfl⟩
  | _=>cases h
section
variable    {is:B5}{g:MG}{cl:B5}{mb:MS}{iter:Expr}{body:C5}
theorem Yr(i:Nat){x1}(hi:isR (fl O i)=true:=by rfl)(nm:Nm X i x:=by walk_at "nm")(hbase:nE (.Name x pos) "items" X.env (eval (.Name x pos) X.env)=eval (.Name x pos) X.env:=by rfl)(hline:(apos.endLine == cpos.line)=true:=by rfl) :
 QI X (.Tuple elts x1 tpos) (.Call (.Attribute (.Name x pos) "items" apos) [] [] cpos) (tIK X.K O i (itI i)):=
 QI.imp (Xm (dM nm.1 nm.2 nm.3 nm.4) hbase hline) λσ H R az=>by
  obtain ⟨⟨d,o,u,e1,e2⟩,A,B,Γ,xs,r,em,k⟩:=az;obtain ⟨AE,hg,rfl⟩:=Tn em;obtain ⟨d',u',z,f1,f2,f3,f4,f5⟩:=yW r hi hg;rw[e1] at f1;cases f1;rw[e2] at f2;cases f2;have eu:u'=u:=by
   rcases f3 with z | ⟨o',z⟩ <;> cases z;rfl
  subst eu;have hl:=f5.len;have st:∀H2,aG A H2->aG B H2->H2 d=some (.frz o (.dK u')):=λH2 s1 s2=>by
   rcases f4 with q | q
   . cases e:A d with
     | none=>exact absurd e q
     | some z=>have:=r.a _ _ e;rw[e2] at this;cases this;exact s1 _ _ e
   . cases e:B d with
     | none=>exact absurd e q
     | some z=>have:=r.b _ _ e;rw[e2] at this;cases this;exact s2 _ _ e
  refine ⟨.ref d,dO e1,d,o,u',rfl,e2,k _ A H (aX.refl r.a) ⟨λn H2 s1 s2 hn=>⟨st H2 s1 s2,by rw[af] at hn;lia⟩,λH2 s1 s2=>⟨st H2 s1 s2,by rw[af];lia⟩,λn A2 H2 v H3 sa s2 s3 hn hy=>?_⟩⟩;obtain ⟨p,key,w,hp,rfl,rfl,e3⟩:=hy;obtain ⟨k1,d1,g1,g2,g3⟩:=wM f5 e3;have gr:=aX.new (o:=.tup [kV key,w]) s2 hp;exact ⟨_,.tuple [k1,d1],by rw[br,g1];rfl,gr,Rp.tuple.mpr ⟨p,_,rfl,SqT.of aY,aA.cons.mpr ⟨_,_,rfl,KJ g2,aA.one (Rp.mono (sa.trans gr.aa) d1 g3)⟩⟩⟩
theorem abt(i:Nat)(hri:isR (fl O i)=true)(hnx:NX mb)(hp:vn (eJ X.prog X.w) X.A X.env X.xe)(hc:X.calm=true)(cl:B5)(hi:QI X tg iter (tIK X.K O i (itI i)))(hg:QG X tg (tG X.K O O is g))(hb:QSs X body (tS X.K rm O' O O' mb))(hE:ph O O' cl=true)
 (hs:∀x,jI iter X.env x=pure x:=by intro _;rfl):QS X (.For tg iter body [] pos) (tS X.K rm Ol O O (cL (itI i) g cl mb)):=by
 refine YQ i hri (λΓ o h=>?_) ?_
 . obtain ⟨xs,e1,h⟩:=AI.au h;obtain ⟨AE,e,_⟩:=Tn e1;exact ⟨⟨AE,e⟩,Om hnx h⟩
 . skip
   refine QS.imp (Up hp hc hi.h hg.h hb.h hs) λD σ H ⟨fz,A,B,Γ,o,r,em,k⟩=>⟨fz,?_⟩;obtain ⟨xs,e1,em⟩:=AI.au em;refine ⟨A,B,Γ,xs,r,e1,λJ A1 H1 g1 hj=>?_⟩;refine ⟨λi n σ' H'=>n=xs.length - i/\i<=xs.length/\∃A2 Γ2,aZ X.K A2 B H' O σ' Γ2/\aG A A2/\New A A2 B/\aG A1 A2/\forR g cl mb (xs.drop i) Γ2= .ok o,⟨xs.length,rfl,kN _,A1,Γ,r.grow g1,g1.aa,g1.nB r.b,aG.refl _,em⟩,?_⟩;rintro i n σ' H' ⟨rfl,hi',A2,Γ2,r2,sa,nw,s12,e2⟩
   by_cases hlt:i<xs.length
   . refine .inr ⟨hj.go i H' (s12.trans r2.a) r2.b hlt,λσ'' H''=>i+1<=xs.length/\∃A3 Γ3,aZ X.K A3 B H'' O σ'' Γ3/\aG A A3/\New A A3 B/\aG A1 A3/\forR g cl mb (xs.drop (i+1)) Γ3= .ok o,?_,λx H3 y=>?_⟩
     . rintro σ'' H'' ⟨h1,A3,Γ3,h2⟩;exact ⟨xs.length - (i+1),by lia,rfl,h1,A3,Γ3,h2⟩
     . obtain ⟨A3,d,ed,g3,p3⟩:=hj.yld i A2 H' x H3 s12 r2.a r2.b hlt y;have hd:xs.drop i=d::xs.drop (i+1):=by
        rw[mS hlt];rw[ai hlt] at ed;cases ed;rfl
       rw[hd] at e2;obtain ⟨Γ3,e3,e2⟩:=AI.au e2;obtain ⟨o3,e4,e2⟩:=AI.au e2;have sa3:=sa.trans g3.aa;have nw3:=nw.trans (g3.nB r2.b);refine ⟨A3,B,Γ2,d,Γ3,r2.grow g3,p3,e3,λσ4 r4 _=>⟨A3,B,Γ3,o3,r4,e4,?_⟩⟩;have sb:∀{D':Ends},uq X.K rm Ol O A B D' o->uq X.K rm Ol O A3 B D' o:=λh=>h.sub sa3 nw3
       cases o3 with
       | nx Γ4=>exact λσ5 A5 H5 r5 s5 n5=>⟨hlt,A5,clr cl Γ4,r5.iB hE,sa3.trans s5,nw3.trans n5,s12.trans (g3.aa.trans s5),e2⟩
       | ct Γ4=>exact λσ5 A5 H5 r5 s5 n5=>⟨hlt,A5,clr cl Γ4,r5.iB hE,sa3.trans s5,nw3.trans n5,s12.trans (g3.aa.trans s5),e2⟩
       | bk Γ4=>
        cases e2;exact λσ5 A5 H5 r5 s5 n5=>k σ5 A5 H5 (r5.iB hE) (sa3.trans s5) (nw3.trans n5)
       | rt d'=>
        cases e2;exact λv A5 H5 q1 q2 s5 n5 rv=>k v A5 H5 q1 q2 (sa3.trans s5) (nw3.trans n5) rv
   . have e:i=xs.length:=by lia
     subst e;rw[xC] at e2;cases e2;exact .inl ⟨hj.stop H' (s12.trans r2.a) r2.b,k σ' A2 H' r2 sa nw⟩
end
inductive MV where
 | ev (m:ME)
 | cl (f:B4->AI ab) (ms:List ME)
noncomputable def my(j:Nat):List (Int×MV)->Ev->AI (B0×Ev)
 | [],Γ=>.ok ([],Γ)
 | (k,.ev m)::r,Γ=>(m Γ).bind λd=>(my j r Γ).bind λq=>.ok ((.int k,d)::q.1,q.2)
 | (k,.cl f ms)::r,Γ=>(evs ms Γ).bind λds=>(f ds).bind λt=>match nY t with
  | some (d,dm)=>(my j r (Γ.set j (some dm))).bind λq=>.ok ((.int k,d)::q.1,q.2)
  | none=>.bad
inductive ik (X:Cx) (O:B9) (j:Nat):List (Option Expr)->C1->List (Int×MV)->Prop
 | nil:ik X O j [] [] []
 | ev {k:Int}{kj}{kp:Pos}{v:Expr}{ks:List (Option Expr)}{vs:C1}{m:ME}{R:List (Int×MV)}:QE X v (tE X.K O m)->ik X O j ks vs R->ik X O j (some (.Constant (.int k) kj kp)::ks) (v::vs) ((k,.ev m)::R)
 | cl {k:Int}{kj}{kp:Pos}{v:Expr}{ks:List (Option Expr)}{vs:C1}{f:B4->AI ab}{ms:List ME}{R:List (Int×MV)}:QE X v (tM X.K O j f ms)->ik X O j ks vs R->ik X O j (some (.Constant (.int k) kj kp)::ks) (v::vs) ((k,.cl f ms)::R)
noncomputable def trM(K:aw)(O:B9)(j:Nat):Int×MV->TE×TE
 | (k,.ev m)=>(tC (.int k),tE K O m)
 | (k,.cl f ms)=>(tC (.int k),tM K O j f ms)
variable {ks:List (Option Expr)}{vs:C1}
theorem ik.pps{R:List (Int×MV)}(h:ik X O j ks vs R):PPs X pos ks vs (R.map (trM X.K O j)):=by
 induction h with
 | nil=>exact zW
 | ev h _ ih=>exact su JK h.h ih
 | cl h _ ih=>exact su JK h.h ih
abbrev acR(K:aw)(A:Hp):B0->List (V×V)->Prop:=ka λp q=>∃i,p.1= .int i/\q.1= .int i/\Rp K A p.2 q.2
theorem New.trans'(h:New A H B)(k:New H F B):New A F B:=λp h1 h2=>k p (h p h1 h2) h2
theorem Ek:∀(R:List (Int×MV)) (Γ Γ':Ev) (A H:Hp) (AE:B0) (Q:List (V×V)->Hp->Prop),aZ K A B H O σ Γ->my j R Γ = .ok (AE,Γ') ->
 (∀ps A' H',aZ K A' B H' O σ Γ'->aG A A'->New A A' B->acR K A' AE ps->Q ps H')->sZ (R.map (trM K O j)) σ H Q
 | [],Γ,Γ',A,H,AE,Q,r,e,k=>by
  cases e;exact k [] A H r (aG.refl _) (λ_ h _=>h) .nil
 | (i,.ev m)::R,Γ,Γ',A,H,AE,Q,r,e,k=>by
  obtain ⟨d,e1,e⟩:=AI.au e;obtain ⟨q,e2,e⟩:=AI.au e;cases e;refine ⟨A,B,Γ,d,r,e1,λv A1 H1 g1 p1=>?_⟩;exact Ek R Γ q.2 A1 H1 q.1 _ (r.grow g1) e2 λps A2 H2 r2 s2 n2 p2=>k _ A2 H2 r2 (g1.aa.trans s2) ((g1.nB r.b).trans' n2) (.cons ⟨i,rfl,rfl,Rp.mono s2 _ p1⟩ p2)
 | (i,.cl f ms)::R,Γ,Γ',A,H,AE,Q,r,e,k=>by
  obtain ⟨ds,e1,e⟩:=AI.au e;obtain ⟨t,e2,e⟩:=AI.au e
  cases ht:nY t with
  | none=>rw[ht] at e;cases e
  | some q0=>
   obtain ⟨d,dm⟩:=q0;rw[ht] at e;obtain ⟨q,e3,e⟩:=AI.au e;cases e;have h3:=zT ht;subst h3;refine ⟨A,B,Γ,ds,d,dm,r,e1,e2,λv A1 H1 r1 s1 n1 p1=>?_⟩;exact Ek R _ q.2 A1 H1 q.1 _ r1 e3 λps A2 H2 r2 s2 n2 p2=>k _ A2 H2 r2 (s1.trans s2) (n1.trans' n2) (.cons ⟨i,rfl,rfl,Rp.mono s2 _ p1⟩ p2)
theorem aZ.guard{p0:Addr}{o:HO}(r:aZ K A B H O σ Γ)(hp:H p0=none):aZ K A (AM B p0 o) (AM H p0 o) O σ Γ:=by
 have hA:=r.a.free hp;have hB:=r.b.free hp;have sB:=aG.new hB o;have sH:=aG.new hp o;have ne:∀{p:Addr}{u:HO},H p=some u->p≠p0:=λe z=>by rw[z,hp] at e;cases e
 refine ⟨r.a.trans sH,λb u q=>?_,r.len,λi d e=>?_,r.sep⟩
 . by_cases hb:b=p0
   . subst hb;rw[aY] at q ⊢;exact q
   . rw[aH hb] at q ⊢;exact r.b b u q
 . obtain ⟨v,ev,q⟩:=r.slot i d e;refine ⟨v,ev,?_⟩
   cases hf:fl O i with
   | AO=>rwa [hf] at q
   | AN=>rw[hf] at q;exact Pk.mono (aG.refl _) sB q
   | own=>
    rw[hf] at q;obtain ⟨p',o',rfl,u1,u2,u3,u4⟩:=q;exact ⟨p',o',rfl,sH _ _ u1,u2,by rw[aH (ne u1)];exact u3,u4⟩
   | fix p1=>
    rw[hf] at q;obtain ⟨q0,p',o',rfl,u1,u2,u3,u4⟩:=q;exact ⟨q0,p',o',rfl,sH _ _ u1,u2,by rw[aH (ne u1)];exact u3,u4⟩
   | exc C=>rwa [hf] at q
   | kit=>rwa [hf] at q
   | nst b=>
    rw[hf] at q;intro z;obtain ⟨p',xs,AE,w1,w2,w3,w4,w5,w6⟩:=q z;exact ⟨p',xs,AE,w1,w2,sH _ _ w3,w4,by rw[aH (ne w3)];exact w5,w6⟩
noncomputable def Ig:List (Int×MV)->B3:=λR=>R.map (·.1)
noncomputable def De(j:Nat)(R:List (Int×MV)):MS:=λΓ=>(my j R Γ).bind λq=>match gv q.2 j with
 | some dm=>gd ((Ig R).Nodup/\R.length<=15) (.ok (.rt (.tuple [.dict q.1,dm])))
 | none=>.bad
theorem xN:∀{R:List (Int×MV)}{Γ Γ':Ev}{AE:B0},my j R Γ = .ok (AE,Γ')->AE.map (·.1)=(Ig R).map ab.int
 | [],Γ,Γ',AE,e=>by cases e;rfl
 | (i,.ev m)::R,Γ,Γ',AE,e=>by
  obtain ⟨d,e1,e⟩:=AI.au e;obtain ⟨q,e2,e⟩:=AI.au e;cases e;show ab.int i::q.1.map (·.1)=_;rw[xN e2];rfl
 | (i,.cl f ms)::R,Γ,Γ',AE,e=>by
  obtain ⟨ds,e1,e⟩:=AI.au e;obtain ⟨t,e2,e⟩:=AI.au e
  cases ht:nY t with
  | none=>rw[ht] at e;cases e
  | some q0=>
   rw[ht] at e;obtain ⟨q,e3,e⟩:=AI.au e;cases e;show ab.int i::q.1.map (·.1)=_;rw[xN e3];rfl
theorem Gw:∀(more AE:A8),((AE++more).map (·.1)).Nodup->lW AE more=AE++more
 | [],AE,_=>by rw[dr];rfl
 | p::r,AE,h=>by
  show lW (putK AE p.1 p.2) r=_;have hn:(AE.any λkv=>decide (kv.1=p.1))=false:=by
   rw[se];intro q hq z;rw[a7,bo] at h;exact (fv.mp h).2.2 q.1 (cc.mpr ⟨q,hq,rfl⟩) p.1 b9 (of_decide_eq_true z)
  have e:putK AE p.1 p.2=AE++[(p.1,p.2)]:=by rw[putK,if_neg (by rw[hn];exact e8)]
  rw[e,Gw r (AE++[(p.1,p.2)]) (by rw[d5];exact h),d5];rfl
theorem acq{ps:List (V×V)}(h:acR K A AE ps):∃u:A8,ps=u.map (λkv=>(kV kv.1,kv.2))/\bw K A AE u/\u.map (·.1)=(AE.filterMap λp=>bO p.1)/\u.length=AE.length:=by
 induction h with
 | nil=>exact ⟨[],rfl,bw.nil.mpr rfl,rfl,rfl⟩
 | @cons p q ps qs h t ih=>
  obtain ⟨i,h1,h2,h3⟩:=h;obtain ⟨u,e1,e2,e3,e4⟩:=ih;obtain ⟨kd,d⟩:=p;obtain ⟨x,v⟩:=q;cases h1;cases h2;refine ⟨(.inl i,v)::u,by rw[e1];rfl,bw.cons.mpr ⟨.inl i,v,u,rfl,rfl,h3,e2⟩,?_,by rw[a9,a9,e4]⟩;rw[bo,e3];rfl
variable {values:C1}
section
variable   {keys:List (Option Expr)}  {R:List (Int×MV)}{dpos:Pos}
theorem WL(j:Nat)(hj:fl O j= .fix c)(h:ik X O j keys values R)(hall:keys.all (·.isSome)=true)(hl:keys.length=values.length)(h0:keys≠[])(h15:keys.length<=15) :
 QS X (.Return (some (.Dict keys values dpos)) pos) (tS X.K (.m c) Ol O O' (De j R)):=QS.imp (yq (Fx h.pps hall hl h0 h15)) λD σ H az=>by
 obtain ⟨A,B,Γ,o,r,em,k⟩:=az;obtain ⟨q,e1,em⟩:=AI.au em
 cases hg:gv q.2 j with
 | none=>rw[hg] at em;cases em
 | some dm=>
  rw[hg] at em;obtain ⟨⟨hnd,agK⟩,em⟩:=cu em;cases em;intro p0 hp;refine Ek R Γ q.2 A _ q.1 _ (r.guard hp) e1 λps A2 H2 r2 s2 n2 p2=>?_;obtain ⟨u,eu,ru,ku,lu⟩:=acq p2;have hk:u.map (·.1)=(Ig R).map l8:=by
   rw[ku];have:=xN e1;have gen:∀(l:B0) (is:B3),l.map (·.1)=is.map ab.int->l.filterMap (λc=>bO c.1)=is.map l8:=λl=>by
    induction l with
    | nil=>intro is e;cases is with
     | nil=>rfl
     | cons _ _=>cases e
    | cons x l ih=>intro is e;cases is with
     | nil=>cases e
     | cons i is=>
      rw[bo,bo] at e;injection e with ea eb;rw[l5,ea,ih is eb];rfl
   exact gen _ _ this
  have hnu:(u.map (·.1)).Nodup:=by
   rw[hk];exact xh.map _ (λa b hab z=>hab (l8.inj z)) hnd
  have hlen:u.length<=15:=by
   have:=congrArg List.length hk;rw[af,af] at this;unfold Ig at this;rw[af] at this;lia
  refine ⟨r2.b _ _ aY,u,eu,hlen,?_⟩;rw[Gw u [] (by rw[fi];exact hnu),fi];obtain ⟨dm',p',o',q1,q2,q3,q4,q5,q6⟩:=r2.nu (by rw[hj];rfl) (by rw[hg];simp);rw[hg] at q1;cases q1;obtain ⟨v',ev',qv⟩:=r2.slot j _ hg;rw[hj] at qv;obtain ⟨rfl,_⟩:=qv;rw[ev'] at q2;cases q2;have hpp:c≠p0:=λz=>by rw[z,aY] at q5;cases q5
  have hA0:=r.a.free hp;have hA2:=n2 p0 hA0 (by rw[aY];simp);have hB0:=r.b.free hp;have sA:aG A2 (AM A2 p0 (.dK u)):=aG.new hA2 _;refine k (.ref p0) (AM A2 p0 (.dK u)) _ (λb w e=>?_) (λb w e=>?_) (s2.trans sA) (λb h1 h2=>?_) ⟨.dict q.1,dm,o',rfl,?_,?_,?_,?_⟩
  . by_cases hb:b=p0
    . subst hb;rw[aY] at e ⊢;exact e
    . rw[aH hb] at e ⊢;exact r2.a _ _ e
  . have hb:b≠p0:=λz=>by rw[z,hB0] at e;cases e
    rw[aH hb];exact r2.b _ _ (by rw[aH hb];exact e)
  . have hb:b≠p0:=λz=>h2 (by rw[z];exact hB0);rw[aH hb];exact n2 b h1 (by rw[aH hb];exact h2)
  . rw[Rp];exact ⟨p0,u,rfl,.inl aY,bw.mono sA _ ru⟩
  . rw[aH hpp];exact q3
  . rw[aH hpp];exact q4
  . exact q6.mono sA
end
theorem Zd(z:xs.length<=bE)(hd:(a == fT)=false)(dd:h'.DictOfH (qB (pT P w)) a xs):fX P w A h' a (jY a xs):=by
 obtain ⟨o,es,ep,h1,h2,h3,h4,_,h5⟩:=dd;exact ⟨⟨z,hd,h5,o,es,ep,h1,h2,h3,h4⟩,⟨o,h1⟩,λg1 g2 ⟨a1,a2,a3,o',es',ep',b1,b2⟩ k=>⟨a1,a2,a3,o',es',ep',k _ b1,b2⟩⟩
section
variable      {b:Addr}  {u r:a8}{A:iS}   {k:B3}
theorem Zg(I:AJ X AD σ H s)(e:H a=some (jY a xs))(r:∀x∈xs,SqT X.K H x.2.1 (x.1.map V.int)):xs.length<=bE/\(a == fT)=false/\s.heap.DictOfH (qB (pT X.prog X.w)) a xs:=by
 obtain ⟨⟨z,y,h5,o,es,ep,h1,h2,h3,h4⟩,_⟩:=(I.AR a _ e);exact ⟨z,y,o,es,ep,h1,h2,h3,h4,λx hx=>zM I (r x hx),h5⟩
theorem aeM(I:AJ X AD σ H s)(e:H a=some (.dK [])):AJ X AD σ (AM H a (jY a [])) s:=by
 obtain ⟨z,hd,vs,rel,dd⟩:=Di I.AR e;cases rel;obtain ⟨o,es,ep,h1,h2,h3,_,h4,_⟩:=dd
 have hes:es.toList=[]:=by cases h:es.toList with
  | nil=>rfl
  | cons x t=>rw[h] at h4;cases h4
 exact mV I (by rw[e];exact kr) ⟨rfl,λ_ _=>rfl⟩ ⟨o,h1⟩ (Zd (kN _) hd ⟨o,es,ep,h1,h2,h3,by rw[hes];rfl,λx hx=>(nomatch hx),zk⟩)
theorem stored_new{k:B3}{u:a8}(h:k∉xs.map (·.1)):wx xs k a u=xs++[(k,a,u)]:=by
 have e:pz xs k=none:=by
  rw[pz,sd,oj];exact λx hx z=>h (cc.mpr ⟨x,hx,by simpa using z⟩)
 rw[wx,if_neg (by rw[e];exact λz=>nomatch z)]
theorem adZ{ys:C0}{o:HO}(e:H a=some (jY a xs))(q:SqT K H c ys):SqT K (AM H a o) c ys:=by
 rcases q with q | q
 . have hc:c≠a:=λz=>by
    subst z;rcases q with q | ⟨_,q⟩ <;> (rw[e] at q;cases q)
   left;rcases q with q | ⟨w,q⟩
   . exact .inl (by rw[aH hc];exact q)
   . exact .inr ⟨w,by rw[aH hc];exact q⟩
 . exact .inr q
theorem NK(hu:A.units<ke):∀(ys:List (B3×Addr×a8)) (xs:List (B3×Addr×a8)) (s:dc) (H:Hp) (Q:PUnit->dc->Prop),AJ X AD σ H s->H a=some (jY a xs)->(∀x∈xs++ys,SqT X.K H x.2.1 (x.1.map V.int))->((xs++ys).map (·.1)).Nodup->(xs++ys).length<=bE ->
 (∀s',AJ X AD σ (AM H a (jY a (xs++ys))) s'->Q PUnit.unit s')->eh (eJ X.prog X.w) A (storeAll a (ys.map λx=>(.ref x.2.1,x.2.2))) Q E s
 | [],xs,s,H,Q,I,e,hk,hn,hl,k=>by
  rw[storeAll,ft,List.forIn_nil];refine bt (k s ?_);rw[dr];have:AM H a (jY a xs)=H:=by
   funext c
   by_cases hc:c=a
   . subst hc;rw[aY,e]
   . rw[aH hc]
  rw[this];exact I
 | y::ys,xs,s,H,Q,I,e,hk,hn,hl,k=>by
  rw[storeAll,bo,y9];obtain ⟨z,hd,dd⟩:=Zg I e λx hx=>hk x (eK _ hx);refine ag (ag (wpAny_dictSet_heap hu (zM I (hk y (cS _ b9))) dd λh' dd' hs=>bt ?_));have hny:=λq=>by
   rw[a7,bo] at hn;exact (fv.mp hn).2.2 y.1 q y.1 b9 rfl
  rw[stored_new hny] at dd';have he:∃q,h'.get? a=some q:=let ⟨q,_,_,hq,_⟩:=dd';⟨q,hq⟩;have hl2:(xs++[(y.1,y.2.1,y.2.2)]).length<=bE:=by
   rw[av,a9] at hl;rw[av,cx];lia
  have I2:=mV (t':=s.toks+(qB (pT X.prog X.w)).draws y.1) I (by rw[e];exact kr) hs he (Zd hl2 hd dd');have ea:xs++[(y.1,y.2.1,y.2.2)]++ys=xs++y::ys:=by rw[d5];rfl
  refine NK hu ys (xs++[(y.1,y.2.1,y.2.2)]) _ _ Q I2 aY (λx hx=>?_) (by rw[ea];exact hn) (by rw[ea];exact hl) λs' I'=>k s' (by rwa [Py,ea] at I');rw[ea] at hx;exact adZ e (hk x hx)
end
def afD(K:aw)(trs:List (TE×TE)):TE:=λσ H Q=>∀p,H p=none->sZ trs σ (AM H p (.dK [])) λps H2=>H2 p=some (.dK [])/\∃AE:List (B3×Addr×V),ps=AE.map (λkv=>(V.ref kv.2.1,kv.2.2))/\(∀kv∈AE,SqT K H2 kv.2.1 (kv.1.map V.int))/\(AE.map (·.1)).Nodup/\AE.length<=15 /\
 ∀xs,ka (λ(a:B3×Addr×V) (b:B3×Addr×a8)=>a.1=b.1/\a.2.1=b.2.1/\AK a.2.2 b.2.2) AE xs->Q (.ref p) (AM H2 p (jY p xs))
theorem UW:∀{AE:List (B3×Addr×V)}{ws:List (a8×a8)},VV (AE.map λkv=>(V.ref kv.2.1,kv.2.2)) ws->∃xs:List (B3×Addr×a8),ws=xs.map (λx=>(.ref x.2.1,x.2.2))/\ka (λ(a:B3×Addr×V) (b:B3×Addr×a8)=>a.1=b.1/\a.2.1=b.2.1/\AK a.2.2 b.2.2) AE xs
 | [],_,r=>by rw[ft] at r;cases r;exact ⟨[],rfl,.nil⟩
 | p::AE,_,r=>by
  rw[bo] at r
  cases r with
  | @cons a b as bs h t=>
   obtain ⟨xs,e,q⟩:=UW t;obtain ⟨b1,b2⟩:=b;obtain ⟨h1,h2⟩:=h;cases (h1);exact ⟨(p.1,p.2.1,b2)::xs,by rw[e];rfl,.cons ⟨rfl,rfl,h2⟩ q⟩
theorem Jw:∀{AE:List (B3×Addr×V)}{xs:List (B3×Addr×a8)},ka (λ(a:B3×Addr×V) (b:B3×Addr×a8)=>a.1=b.1/\a.2.1=b.2.1/\AK a.2.2 b.2.2) AE xs->xs.map (·.1)=AE.map (·.1)/\(∀x∈xs,∃kv∈AE,kv.1=x.1/\kv.2.1=x.2.1)
 | _,_,.nil=>⟨rfl,λx hx=>nomatch hx⟩
 | _,_,.cons h t=>by
  obtain ⟨h1,h2⟩:=Jw t;refine ⟨by rw[bo,bo,h1,h.1],λx hx=>?_⟩;rcases cp.mp hx with rfl | hx
  . exact ⟨_,b9,h.1,h.2.1⟩
  . obtain ⟨kv,hk,e⟩:=h2 x hx;exact ⟨kv,cf _ hk,e⟩
theorem ab2{trs:List (TE×TE)}(hu:X.A.units<ke)(h:PPs X pos ks values trs)(hall:ks.all (·.isSome)=true)(hl:ks.length=values.length)(h0:ks≠[])(h15:ks.length<=15) :
 PE X (.Dict ks values pos) (afD X.K trs):=by
 intro AD s σ H Q I q;have hn:=I.AR.fresh (aE s.heap.objs.size);have I1:=I.laid (t':=s.toks) (λ_ _ q=>aI _ q) (aE _) (Aw s.heap I.big);refine wpAny_Dict_any hall hl h0 h15 (thn (h AD _ σ _ _ I1 (q _ hn)) λws s2 az=>?_);obtain ⟨ps,H2,I2,rel,e,AE,ep,hk,hnd,lk,q2⟩:=az;subst ep;obtain ⟨xs,ex,px⟩:=UW rel;subst ex;obtain ⟨k1,k2⟩:=Jw px;have I3:=aeM I2 e;have hxl:=by
  have:=congrArg List.length k1;rwa [af,af] at this
 have hsq:∀x∈([]:List (B3×Addr×a8))++xs,SqT X.K (AM H2 s.heap.objs.size (jY s.heap.objs.size [])) x.2.1 (x.1.map V.int):=λx hx=>by
  obtain ⟨kv,hkv,e1,e2⟩:=k2 x hx;rw[<- e1,<- e2];rcases hk kv hkv with z | z
  . have hc:kv.2.1≠s.heap.objs.size:=λy=>by
     rw[y] at z;rcases z with z | ⟨_,z⟩ <;> (rw[e] at z;cases z)
    left;rcases z with z | ⟨w,z⟩
    . exact .inl (by rw[aH hc];exact z)
    . exact .inr ⟨w,by rw[aH hc];exact z⟩
  . exact .inr z
 refine NK hu xs [] s2 _ _ I3 aY hsq (by rw[fi,k1];exact hnd) (by rw[fi,hxl,sizeLine_eq];lia) λs' I'=>?_;rw[Py,fi] at I';exact ⟨.ref s.heap.objs.size,_,I',rfl,q2 xs px⟩
noncomputable def zp:List (ME×ME)->Ev->AI B0
 | [],_=>.ok []
 | (mk,mv)::r,Γ=>(mk Γ).bind λkd=>(mv Γ).bind λd=>(zp r Γ).bind λq=>match oZ kd with
  | some _=>.ok ((kd,d)::q)
  | none=>.bad
noncomputable def Dq(AE:B0):List B3:=AE.filterMap λp=>oZ p.1
noncomputable def zF(i:Nat)(R:List (ME×ME)):MS:=λΓ=>(zp R Γ).bind λAE=>gd ((Dq AE).Nodup/\AE.length<=15/\i < Γ.length) (.ok (.nx (Γ.set i (some (.dict AE)))))
inductive nj (X:Cx) (O:B9):List (Option Expr)->C1->List (ME×ME)->Prop
 | nil:nj X O [] [] []
 | cons {k v:Expr}{ks:List (Option Expr)}{vs:C1}{mk mv:ME}{R:List (ME×ME)}:QE X k (tE X.K O mk)->QE X v (tE X.K O mv)->nj X O ks vs R->nj X O (some k::ks) (v::vs) ((mk,mv)::R)
theorem nj.pps{R:List (ME×ME)}(h:nj X O ks vs R):PPs X pos ks vs (R.map λp=>(tE X.K O p.1,tE X.K O p.2)):=by
 induction h with
 | nil=>exact zW
 | cons h1 h2 _ ih=>exact su h1.h h2.h ih
abbrev Iz(K:aw)(A:Hp):B0->List (B3×Addr×V)->Prop:=ka λp q=>oZ p.1=some q.1/\SqT K A q.2.1 (q.1.map V.int)/\Rp K A p.2 q.2.2
theorem Rp.ab1{kd:ab}{k:B3}(h:Rp K A kd v)(hk:oZ kd=some k):∃b,v= .ref b/\SqT K A b (k.map V.int):=by
 cases kd with
 | tuple ds=>
  obtain ⟨a,vs,rfl,h1,h2⟩:=Rp.tuple.mp h;rw[aA.Qz h2 hk] at h1;exact ⟨a,rfl,h1⟩
 | _=>cases hk
theorem Jq:∀(R:List (ME×ME)) (A H:Hp) (AE:B0) (Q:List (V×V)->Hp->Prop),aZ K A B H O σ Γ->zp R Γ = .ok AE ->
 (∀us A' H',aX A H A' H'->Iz K A' AE us->Q (us.map λu=>(V.ref u.2.1,u.2.2)) H')->sZ (R.map λp=>(tE K O p.1,tE K O p.2)) σ H Q
 | [],A,H,AE,Q,r,e,k=>by cases e;exact k [] A H (aX.refl r.a) .nil
 | (mk,mv)::R,A,H,AE,Q,r,e,k=>by
  obtain ⟨kd,e1,e⟩:=AI.au e;obtain ⟨d,e2,e⟩:=AI.au e;obtain ⟨q,e3,e⟩:=AI.au e
  cases hk:oZ kd with
  | none=>rw[hk] at e;cases e
  | some key=>
   rw[hk] at e;cases e;refine ⟨A,B,Γ,kd,r,e1,λkv A1 H1 g1 p1=>⟨A1,B,Γ,d,r.grow g1,e2,λv A2 H2 g2 p2=>?_⟩⟩;obtain ⟨b,rfl,hb⟩:=Rp.ab1 p1 hk;exact Jq R A2 H2 q _ ((r.grow g1).grow g2) e3 λus A3 H3 g3 p3=>k ((key,b,v)::us) A3 H3 ((g1.trans g2).trans g3) (.cons ⟨hk,(g2.aa.trans g3.aa).fP hb,Rp.mono g3.aa _ p2⟩ p3)
variable {us:List (B3×Addr×V)}
theorem Iz.keys(h:Iz K A AE us):us.map (·.1)=Dq AE/\us.length=AE.length/\∀u∈us,SqT K A u.2.1 (u.1.map V.int):=by
 induction h with
 | nil=>exact ⟨rfl,rfl,λu hu=>nomatch hu⟩
 | @cons p q ps qs h t ih=>
  obtain ⟨h1,h2,h3⟩:=ih;refine ⟨by unfold Dq at h1 ⊢;rw[bo,l5,h.1,h1],by rw[a9,a9,h2],λu hu=>?_⟩;rcases cp.mp hu with rfl | hu
  . exact h.2.1
  . exact h3 u hu
theorem Iz.kit(h:Iz K A AE us):∀{xs:List (B3×Addr×a8)},ka (λ(a:B3×Addr×V) (b:B3×Addr×a8)=>a.1=b.1/\a.2.1=b.2.1/\AK a.2.2 b.2.2) us xs->RpT K A AE xs:=by
 induction h with
 | nil=>intro xs p;cases p;exact .nil
 | @cons p q ps qs h t ih=>
  intro xs px
  cases px with
  | @cons _ b _ bs hb tb=>
   refine .cons ⟨by rw[<- hb.1];exact h.1,by rw[<- hb.1,<- hb.2.1];exact h.2.1,q.2.2,hb.2.2,h.2.2⟩ (ih tb)
theorem aZ.uM{d:ab}(r:aZ K A B H O σ Γ)(hi:i < Γ.length)(hO:i<O.length)(p:p7 K A d v):aZ K A B H (O.set i .kit) (σ.set i (some v)) (Γ.set i (some d)):=by
 have hs:i < σ.length:=by rw[<- r.len];exact hi
 refine ⟨r.a,r.b,by rw[fy,fy];exact r.len,λj=>?_,λj k hjk h1 h2 h3 h4=>?_⟩
 . by_cases hj:i=j
   . subst hj;unfold fl gv sv;rw[bK hO,bK hi,bK hs];exact λd' e=>by cases e;exact ⟨v,rfl,p⟩
   . unfold fl gv sv;rw[aU hj,aU hj,aU hj];exact r.slot j
 . have hj:i≠j:=λz=>by subst z;unfold fl at h1;rw[bK hO] at h1;cases h1
   have hk:i≠k:=λz=>by subst z;unfold fl at h2;rw[bK hO] at h2;cases h2
   unfold fl at h1 h2;unfold gv at h3 h4;rw[aU hj] at h1 h3;rw[aU hk] at h2 h4;unfold sv;rw[aU hj,aU hk];exact r.sep j k hjk h1 h2 h3 h4
section
variable    {keys:List (Option Expr)}  {R:List (ME×ME)}{dpos pos':Pos}
theorem ac8(i:Nat){O2:B9}(hu:X.A.units+66<ke)(hN:X.N.Nodup)(hi:X.N[i]?=some y)(hx:Loc X.env.scope y)(h:nj X O keys values R)(hall:keys.all (·.isSome)=true)(hl:keys.length=values.length)(h0:keys≠[])(h15:keys.length<=15)(hil:i<O.length)
 (hs:ip (.Dict keys values dpos) (some (.Name y pos')) pos.line X.env=pure false:=by rfl) (hf:X.fn y=true\/X.env.scope.names.lookup y=some .local:=by walk_at "hf") (hO:O.set i .kit=O2:=by rfl) :
 QS X (.Assign [.Name y pos'] (.Dict keys values dpos) pos) (tS X.K rm Ol O O2 (zF i R)):=
 hO ▸ QS.imp (Cm hN hi hx (ab2 (by lia) h.pps hall hl h0 h15) hs hf) λD σ H az=>by
  obtain ⟨A,B,Γ,o,r,em,k⟩:=az;obtain ⟨AE,e1,em⟩:=AI.au em;obtain ⟨⟨hnd,hkl,hig⟩,em⟩:=cu em;cases em;intro p hp;have g0:aX A H A (AM H p (.dK [])):=aX.lay r.a hp;refine Jq R A _ AE _ (r.grow g0) e1 λus A2 H2 g2 pk=>?_;obtain ⟨k1,k2,k3⟩:=pk.keys;have pa:=g2.nw p (r.a.free hp) (by rw[aY];simp);refine ⟨g2.hh _ _ aY,us,rfl,λu hu=>g2.ah.fP (k3 u hu),by rw[k1];exact hnd,by lia,λxs px=>?_⟩;have sA:aG A2 (AM A2 p (jY p xs)):=aG.new pa _;have gg:aX A H (AM A2 p (jY p xs)) (AM H2 p (jY p xs)):=by
   refine ⟨g2.aa.trans sA,λb o q=>?_,λb o q=>?_,λb q1 q2=>?_⟩
   . have hb:=cW q hp;rw[aH hb];exact g2.hh _ _ (by rw[aH hb];exact q)
   . by_cases hb:b=p
     . subst hb;rw[aY] at q ⊢;exact q
     . rw[aH hb] at q ⊢;exact g2.ah _ _ q
   . have hb:b≠p:=λz=>q2 (z ▸ hp);rw[aH hb];exact g2.nw b q1 (by rw[aH hb];exact q2)
  exact k _ _ _ ((r.grow gg).uM hig hil ⟨p,xs,AE,rfl,rfl,aY,Paired.rP (pk.kit px) λ_ _ z=>⟨z.1,sA.fP z.2.1,z.2.2.imp λv y=>⟨y.1,Rp.mono sA _ y.2⟩⟩⟩) gg.aa (gg.nB r.b)
end
noncomputable def zr(key:B3):B0->Option ab
 | []=>none
 | (k,d)::r=>if oZ k=some key then some d else zr key r
noncomputable def Ls(i:Nat)(m:ME):ME:=λΓ=>(m Γ).bind λkd=>match gv Γ i with
 | some (.dict AE)=>match oZ kd with
  | some key=>match zr key AE with
   | some d=>.ok d
   | none=>.bad
  | none=>.bad
 | _=>.bad
theorem RpT.look{key:B3}{d:ab}(h:RpT K A AE xs)(e:zr key AE=some d):∃p v,pz xs key=some p/\AK v p.2/\Rp K A d v:=by
 induction h with
 | nil=>cases e
 | @cons p q ps qs h t ih=>
  obtain ⟨kd,d0⟩:=p;obtain ⟨h1,h2,v,h3,h4⟩:=h;unfold zr at e
  by_cases hk:oZ kd=some key
  . rw[if_pos hk] at e;cases e;have hq:=Option.some.inj (h1.symm.trans hk);exact ⟨q.2,v,by simp[pz,ij,hq],h3,h4⟩
  . rw[if_neg hk] at e;obtain ⟨p',v',e1,e2⟩:=ih e;have hq:¬ q.1=key:=λz=>hk (h1.trans (by rw[z]));exact ⟨p',v',by rw[<- e1];simp[pz,ij,hq],e2⟩
theorem RpT.all(h:RpT K A AE xs):∀x∈xs,SqT K A x.2.1 (x.1.map V.int):=by
 induction h with
 | nil=>intro x hx;exact nomatch hx
 | cons h t ih=>
  intro x hx;rcases cp.mp hx with rfl | hx
  . exact h.2.1
  . exact ih x hx
section
variable   {m:ME}{a:Expr}{xp:Pos}
def acp(K:aw):R2:=λx y H Q=>∃p b xs k q v,x= .ref p/\y= .ref b/\H p=some (jY p xs)/\(∀z∈xs,SqT K H z.2.1 (z.1.map V.int))/\SqT K H b (k.map V.int)/\pz xs k=some q/\AK v q.2/\Q v H
theorem agm(hu:X.A.units+66<ke):IxR X (acp X.K):=by
 intro value slice AD s σ H x y v u Q I rx ry h hs;obtain ⟨p,b,xs,k,w,v0,rfl,rfl,h1,h2,h3,h4,h5,q⟩:=h;cases (rx);cases (ry);have dd:=(Zg I h1 h2).2.2;have hT:=dd.typeIs;refine ag ?_;rw[mN hT.not_modules];refine ag (kP hT kR.lookup ?_);have hroom:=show X.A.units+1<ke by lia
 have fin:eh (eJ X.prog X.w) X.A (oC slice false (.ref p) (.ref b)) (λr s₃=>eh (eJ X.prog X.w) X.A (rS value (.ref p) r >>= λ_=>pure r) (EP X AD σ Q) X.xe s₃) X.xe s:=by
  rw[hs];exact qa (hZ (vF hroom (zM I h3) dd h4 (⟨v0,H,I.tok _,h5,q⟩:EP X AD σ Q w.2 _)) (λr s₃ h₃=>ag (nr (bt h₃))) λ_ _ x=>x)
 first
  | exact bt (ag fin)
  | exact ag (bt (ag fin))
  | exact ag fin
theorem adK(i:Nat)(hu:X.A.units+66<ke)(ha:QE X a (tE X.K O m))(hs:lF a)(hi:fl O i= .kit:=by rfl)(nm:Nm X i x:=by walk_at "nm"):QE X (.Subscript (.Name x xp) a pos) (tE X.K O (Ls i m)):=
 QE.imp (Du (agm hu) (dM nm.1 nm.2 nm.3 nm.4) ha.h hs) λσ H Q az=>by
  obtain ⟨A,B,Γ,d,r,em,k⟩:=az;obtain ⟨kd,e1,em⟩:=AI.au em
  cases hg:gv Γ i with
  | none=>rw[hg] at em;cases em
  | some dl=>
   rw[hg] at em
   cases dl with
   | dict AE=>
    have em:=em
    cases hk:oZ kd with
    | none=>rw[hk] at em;cases em
    | some key=>
     rw[hk] at em;have em:(match zr key AE with | some d=>AI.ok d | none=>.bad)= .ok d:=em
     cases hl:zr key AE with
     | none=>rw[hl] at em;cases em
     | some d0=>
      rw[hl] at em;cases em;obtain ⟨v,ev,q⟩:=r.slot i _ hg;rw[hi] at q;obtain ⟨p,xs,kvs',rfl,e2,h1,h2⟩:=q;cases e2;obtain ⟨w,v0,h3,h4,h5⟩:=RpT.look h2 hl;refine ⟨.ref p,dO ev,A,B,Γ,kd,r,e1,λv A1 H1 g1 p1=>?_⟩;obtain ⟨b,rfl,nt⟩:=Rp.ab1 p1 hk;exact ⟨p,b,xs,key,w,v0,rfl,rfl,g1.hh _ _ (r.a _ _ h1),λz hz=>(g1.aa.trans g1.ah).fP (RpT.all h2 z hz),g1.ah.fP nt,h3,h4,k _ A1 H1 g1 (Rp.mono g1.aa _ h5)⟩
   | _=>cases em
end
def spT(K:aw)(f0:Fl)(rm:Rm)(f:B4->AI ab):Sp:=λvs H Q _=>∃A d0 dk d v0 v1,aG A H/\vs=[v0,v1]/\Be K A H f0 d0 v0/\p7 K A dk v1/\f [d0,dk]= .ok d/\∀v A' H',aX A H A' H'->Xd K rm H A' H' d v->Q v H'
section
variable     {base:Heap}
theorem Q0{f0 o0:Fl}{d0 dk:ab}{v1:V}(ha:aG A H)(h0:Be K A H f0 d0 v)(h1:p7 K A dk v1)(hO:(o0= .AO/\f0= .AO)\/(o0= .AN/\f0= .AN))(hn:2<=N.length) :
 aZ K A H H (o0 :: .kit::O) (Zq.start N [v,v1]) ([d0,dk].map some++ax (N.length - 2) none):=by
 have gvN:∀i,2<=i->gv ([d0,dk].map some++ax (N.length - 2) none) i=none:=λi hi=>by
  rw[gv,ae,bX (by simpa using hi),iO];split <;> rfl
 refine ⟨ha,aG.refl _,?_,λi d e=>?_,λi j hij q1 q2 q3 q4=>?_⟩
 . unfold Zq.start;simp
 . match i,e with
   | 0,e=>
    cases e;refine ⟨v,rfl,?_⟩;rcases hO with ⟨rfl,rfl⟩ | ⟨rfl,rfl⟩
    . exact h0
    . exact h0
   | 1,e=>cases e;exact ⟨v1,rfl,h1⟩
   | i+2,e=>rw[gvN (i+2) (by lia)] at e;cases e
 . match i,q1,q3 with
   | 0,q1,_=>
    have q1:=q1;rcases hO with ⟨rfl,_⟩ | ⟨rfl,_⟩ <;> cases q1
   | 1,q1,_=>cases q1
   | i+2,_,q3=>exact absurd (gvN (i+2) (by lia)) q3
theorem Vc{st:Stmt}{f0 o0:Fl}{m:MS}(F:At K mg x st ps)(S:cP N ps (aN st))(hf:ps.length=2)(hn:2<=N.length)(hO:(o0= .AO/\f0= .AO)\/(o0= .AN/\f0= .AN))
 (hbody:∀(f:Addr) (AH:a8) (A:iS) (AX:C6) (s:dc) (H:Hp) (E:XK),dz ep (A.deeper (oz x (aN st) s.heap.objs.size f AH)) ->
  QSs (mF CX0 P w K mg base N x (aN st) f AH A AX s H E).nox (bV st) (tS K rm Ol (o0 :: .kit::O) O' m)):Def P w K mg base (ep+1) x ps (spT K f0 rm (fnR N.length m)):=by
 refine F.ok S (λvs H Q E h=>?_) (λf AH A AX s H vs Q E hr h=>?_)
 . obtain ⟨A,d0,dk,d,v0,v1,_,rfl,_⟩:=h;rw[hf];rfl
 . obtain ⟨A',d0,dk,d,v0,v1,ha,rfl,h0,h1,em,q⟩:=h;obtain ⟨o,e1,em⟩:=AI.au em
   cases o with
   | rt d'=>
    cases em;refine ⟨_,(hbody f AH A AX s H E hr).h,A',H,_,_,Q0 ha h0 h1 hO hn,e1,λv A2 H2 s1 s2 sa nw rv=>q v A2 H2 ⟨sa,s2,s1,nw⟩ rv⟩
   | _=>cases em
end
section
variable   {k:Nat}{fn:Str}  {f:B4->AI ab}{m:ME}{e:Expr}{p2:Pos}
noncomputable def KZ(f:B4->AI ab)(m:ME)(i:Nat):ME:=λΓ=>(m Γ).bind λd=>match gv Γ i with
 | some dk=>f [d,dk]
 | none=>.bad
theorem X8(i:Nat)(hi:fl O i= .kit)(F:Def X.prog X.w X.K X.mg X.base k fn ps (spT X.K .AN .f f))(hr:dz k X.A)(hg:Gl X fn)(ha:QE X e (tP X.K O m))(hdb:nD fn:=by decide)(he:AV e=true:=by rfl)(nm:Nm X i y:=by walk_at "nm") :
 QE X (.Call (.Name fn p) [e,.Name y p2] [] pos) (tE X.K O (KZ f m i)):=
 QE.imp (Cw F hr hg (bY ha.h (bY (dM nm.1 nm.2 nm.3 nm.4) eQ (cU rfl)) (cU he)) hdb (cU he) (jA rfl)) λσ H Q az=>by
  obtain ⟨A,B,Γ,d,r,em,k⟩:=az;obtain ⟨d0,e1,em⟩:=AI.au em
  cases hgk:gv Γ i with
  | none=>rw[hgk] at em;cases em
  | some dk=>
   rw[hgk] at em;refine ⟨A,B,Γ,d0,r,e1,λv0 A1 H1 g1 p1=>?_⟩;obtain ⟨v1,ev,q⟩:=r.slot i _ hgk;rw[hi] at q;refine ⟨v1,dO ev,?_⟩;exact ⟨A1,d0,dk,d,v0,v1,g1.ah,rfl,p1,p7.mono g1.aa q,em,λv A' H' g p=>k v A' H' (g1.trans g) p⟩
end
noncomputable def bj(xs:B3):Int:=xs.foldr (λf n=>2*n+f) 0
theorem cV(x:Int)(xs:B3):bj (x::xs)=2*bj xs+x:=rfl
theorem jN:∀{xs:B3},(∀x∈xs,0<=x)->0<=bj xs
 | [],_=>nv 0
 | x::xs,h=>by
  have h1:=h x (by simp);have h2:=jN λy hy=>h y (cf _ hy);rw[cV];lia
theorem two_pos(n:Nat):(0:Int)<2^n:=Int.pow_pos (by decide)
theorem yz(xs:B3)(y:Int):bj (xs++[y])=bj xs+2^xs.length*y:=by
 induction xs with
 | nil=>simp[bj]
 | cons x xs ih=>
  rw[gE,cV,ih,cV,a9,la];have:(2:Int)^xs.length*2*y=2*(2^xs.length*y):=by rw[sf (2^xs.length) 2,pS]
  rw[this];lia
theorem VB(xs:B3):xs.reverse.foldl (λn f=>2*n+f) 0=bj xs:=by
 rw[List.foldl_reverse];rfl
noncomputable def ak(b p:Int):Int:=b / 2^p.toNat % 2
theorem aP(b p:Int):ak b p=0\/ak b p=1:=by unfold ak;lia
theorem Nu(b p:Int):0<=ak b p:=by unfold ak;lia
theorem aa2(b p:Int):ak b p<=1:=by unfold ak;lia
noncomputable def bA(k r:Nat):B3:=(List.range k).map λj=>((r / 2^j % 2:Nat):Int)
theorem bI(k r:Nat):(bA k r).length=k:=by simp[bA]
variable {r:Nat}
theorem kE{x:Int}(h:x∈bA ep r):x=0\/x=1:=by
 obtain ⟨j,_,e⟩:=cc.mp h;lia
theorem uL(k r:Nat):bA (k+1) r=bA k r++[((r / 2^k % 2:Nat):Int)]:=by
 rw[bA,lT,a7];rfl
theorem uW(k r:Nat):bj (bA k r)=((r % 2^k:Nat):Int):=by
 induction k with
 | zero=>simp[bA,bj,Nat.mod_one]
 | succ k ih=>
  rw[uL,yz,ih,bI,vi,Nat.mod_mul];have e:((2:Int)^k)=(((2^k:Nat)):Int):=by simp
  rw[e,<- Int.natCast_mul];lia
theorem cG(h:r<2^ep):bj (bA ep r)=(r:Int):=by
 rw[uW,xS h]
noncomputable def gather(b:Int):Nat->Int
 | 0=>0
 | n+1=>gather b n+2^n*ak b n
theorem Rq(b:Int)(n:Nat):gather b n=b % 2^n:=by
 induction n with
 | zero=>simp[gather,Int.emod_one]
 | succ n ih=>
  have hp:=two_pos n;rw[gather,ih,ak,cE,la];have h1:=Int.emod_add_mul_ediv b (2^n);have h2:=Int.emod_add_mul_ediv (b / 2^n) 2;have h3:b=(b % 2^n+2^n*(b / 2^n % 2))+2^n*2*(b / 2^n / 2):=by
   have e:2^n*(b / 2^n)=2^n*(b / 2^n % 2)+2^n*2*(b / 2^n / 2):=by
    rw[pS,<- Int.mul_add,h2]
   lia
  have h4:=kQ b (Int.ne_of_gt hp);have h5:=kx b hp;have h6:(b / 2^n % 2=0)\/(b / 2^n % 2=1):=by lia
  have h7:=by
   have e:=congrArg (· % (2^n*2)) h3;simp only[Int.add_mul_emod_self_left] at e;exact e.symm
  rw[<- h7];refine (Int.emod_eq_of_lt ?_ ?_).symm
  . rcases h6 with h | h <;> rw[h] <;> lia
  . rcases h6 with h | h <;> rw[h] <;> lia
variable {b:Int}
theorem Rw(h0:0<=b)(h1:b<2^ep):gather b ep=b:=by
 rw[Rq,Int.emod_eq_of_lt h0 h1]
def bW(xs:B3):Prop:=∀x∈xs,x=0\/x=1
theorem bW.nn{xs:B3}(h:bW xs):∀x∈xs,0<=x:=λx hx=>by rcases h x hx with z | z <;> lia
theorem bW.tail{xs:B3}(h:bW (b::xs)):bW xs:=λy hy=>h y (cf _ hy)
theorem bW.map{α:Type}{l:List α}{f:α->Int}(h:∀a∈l,f a=0\/f a=1):bW (l.map f):=λx hx=>by
 obtain ⟨a,ha,rfl⟩:=cc.mp hx;exact h a ha
theorem zN:∀{xs:B3},bW xs->bj xs<2^xs.length
 | [],_=>by decide
 | x::xs,h=>by
  have h1:=zN h.tail;have h2:=h x (by simp);rw[cV,a9,la];lia
theorem uz(b:Int):ak b 0=b % 2:=by unfold ak;simp
theorem uA(b:Int)(n:Nat):ak b ((n+1:Nat):Int)=ak (b / 2) (n:Nat):=by
 unfold ak;rw[cE,cE,Nat.add_comm,Int.pow_add,Int.V9 ,<- Int.ediv_ediv_of_nonneg (by decide)]
where
 Int.V9:(2:Int)^1=2:=by decide
theorem Ax:∀{xs:B3}{r:Nat}{x:Int},bW xs->xs[r]?=some x->ak (bj xs) (r:Nat)=x
 | [],r,x,_,h=>by simp at h
 | y::xs,0,x,h,e=>by
  have h2:=h y (by simp);have e':=by simpa using e
  rw[cV];show ak (2*bj xs+y) 0=x;rw[uz];lia
 | y::xs,r+1,x,h,e=>by
  have h2:=h y (by simp);rw[cV,uA];have e2:(2*bj xs+y) / 2=bj xs:=by lia
  rw[e2];exact Ax h.tail (by simpa using e)
variable {m:Nat}
theorem G4(h0:0<=b)(h1:b<2^m):bj ((List.range m).map λr=>ak b ((r:Nat):Int))=b:=by
 have key:∀m:Nat,bj ((List.range m).map λr=>ak b ((r:Nat):Int))=gather b m:=by
  intro m
  induction m with
  | zero=>rfl
  | succ m ih=>
   rw[lT,a7,List.map_singleton,yz,ih,af,c9];rfl
 rw[key,Rw h0 h1]
theorem Wq{c:Int}(h0:0<=b)(h1:b<2^m)(k0:0<=c)(k1:c<2^m)(h:∀r:Nat,r<m->ak b (r:Nat)=ak c (r:Nat)):b=c:=by
 rw[<- G4 h0 h1,<- G4 k0 k1];congr 1;exact cn λr hr=>h r (dn.mp hr)
noncomputable def tab(m:Nat)(f:Nat->Int):Int:=bj ((List.range m).map f)
theorem JN{f:Nat->Int}(h:∀r,f r=0\/f r=1):bW ((List.range m).map f):=bW.map λa _=>h a
theorem qG{f:Nat->Int}(h:∀r,f r=0\/f r=1):0<=tab m f:=jN (JN h).nn
theorem Dl{f:Nat->Int}(h:∀r,f r=0\/f r=1):tab m f<2^m:=by
 have:=zN (JN (m:=m) h);rwa [af,c9] at this
theorem iD{f:Nat->Int}(h:∀r,f r=0\/f r=1){r:Nat}(hr:r<m):ak (tab m f) (r:Nat)=f r:=
 Ax (JN h) (by rw[br,eP hr];rfl)
theorem acs{f:Nat->Int}(h:∀r,f r=0\/f r=1)(h0:0<=b)(h1:b<2^m)(e:∀r,r<m->f r=ak b (r:Nat)):tab m f=b:=
 Wq (qG h) (Dl h) h0 h1 λr hr=>by rw[iD h hr,e r hr]
theorem eO{f g:Nat->Int}(e:∀r,r<m->f r=g r):tab m f=tab m g:=by
 unfold tab;congr 1;exact cn λr hr=>e r (dn.mp hr)
theorem U8:∀{m r:Nat},0<=b->b<2^m->r<m->ak (2^m - 1 - b) (r:Nat)=1 - ak b (r:Nat):=by
 intro m
 induction m generalizing b with
 | zero=>intro r _ _ h;lia
 | succ m ih=>
  intro r h0 h1 hr;rw[la] at h1 ⊢;have hp:=two_pos m
  cases r with
  | zero=>
   show ak _ 0=1 - ak _ 0;rw[uz,uz];lia
  | succ r=>
   rw[uA,uA];have e:(2^m*2 - 1 - b) / 2=2^m - 1 - b / 2:=by lia
   rw[e];exact ih (by lia) (by lia) (by lia)
noncomputable def ir(n j:Nat):Int:=tab (2^n) λr=>ak (r:Nat) (j:Nat)
noncomputable def cA(b:Int)(ts:B3)(n:Nat):Int:=tab (2^n) λr=>ak b (bj (ts.map λt=>ak t (r:Nat)))
theorem Vd(h:r<2^ep):ak (ir ep j) (r:Nat)=ak (r:Nat) (j:Nat):=iD (λ_=>aP _ _) h
theorem JV(n j:Nat):0<=ir n j:=qG λ_=>aP _ _
theorem Wo(n j:Nat):ir n j<2^2^n:=Dl λ_=>aP _ _
theorem YB{ts:B3}(h:r<2^ep):ak (cA b ts ep) (r:Nat)=ak b (bj (ts.map λt=>ak t (r:Nat))):=iD (λ_=>aP _ _) h
theorem MJ(b:Int)(ts:B3)(n:Nat):0<=cA b ts n:=qG λ_=>aP _ _
theorem Z6(b:Int)(ts:B3)(n:Nat):cA b ts n<2^2^n:=Dl λ_=>aP _ _
theorem Ly(r j:Nat):ak (r:Nat) (j:Nat)=((r / 2^j % 2:Nat):Int):=by
 rw[ak,cE];simp
theorem Ao:(List.range ep).map (λj=>ak (r:Nat) (j:Nat))=bA ep r:=by
 exact cn λj _=>Ly r j
theorem uP{xs:B3}(h:bW xs):bA xs.length (bj xs).toNat=xs:=by
 refine List.ext_getElem (bI _ _) λj h1 h2=>?_;have hb:=Ax h (ai h2);have hnn:=jN h.nn;have e:(bA xs.length (bj xs).toNat)[j]=ak (((bj xs).toNat:Nat):Int) (j:Nat):=by
  simp only[bA,List.getElem_map,List.getElem_range,Ly]
 rw[e,pf hnn];exact hb
theorem Jj{xs:B3}(h:bW xs):∃r:Nat,r<2^xs.length/\bj xs=(r:Nat)/\bA xs.length r=xs:=by
 have hnn:=jN h.nn;have hlt:=zN h;refine ⟨(bj xs).toNat,?_,(pf hnn).symm,uP h⟩;have e:((2:Int)^xs.length)=(((2^xs.length:Nat)):Int):=by simp
 lia
theorem bW.bA:bW (bA ep r):=λ_ hx=>kE hx
noncomputable def tL(xs:B3):B3:=xs.map λx=>1 - x
theorem Ui(r:Int):ak 0 r=0:=by unfold ak;simp
noncomputable def lA(j:Nat)(w:Int)(xs:B3):B3:=xs.take j++w::xs.drop j
theorem Uo(f:Int->Int)(j:Nat)(w:Int)(xs:B3):(lA j w xs).map f=lA j (f w) (xs.map f):=by
 unfold lA;rw[a7,bo,zD,List.map_drop]
theorem Kw{xs:B3}(h:j<=xs.length):(lA j b xs).length=xs.length+1:=by
 rw[lA,av,a9,c8,nV];lia
noncomputable def Xx(n:Nat)(w:Int):Int:=if w=1 then 2^2^n - 1 else 0
theorem V5(h:r<m):ak (2^m - 1) (r:Nat)=1:=by
 have e:=U8 (nv 0) (two_pos m) h;rw[Ui] at e;simpa using e
theorem Yy{w:Int}(hw:w=0\/w=1)(h:r<2^ep):ak (Xx ep w) (r:Nat)=w:=by
 unfold Xx;rcases hw with rfl | rfl
 . rw[if_neg (by decide)];exact Ui _
 . rw[if_pos rfl];exact V5 h
noncomputable def eF(n:Nat)(b:Int)(j:Nat)(w:Int):Int:=cA b (lA j (Xx n w) ((List.range n).map λi=>ir n i)) n
theorem Q9(n:Nat)(b:Int)(j:Nat)(w:Int):0<=eF n b j w:=MJ _ _ _
theorem ac2(n:Nat)(b:Int)(j:Nat)(w:Int):eF n b j w<2^2^n:=Z6 _ _ _
theorem abh{w:Int}(hw:w=0\/w=1)(hr:r<2^ep):ak (eF ep b j w) (r:Nat)=ak b (bj (lA j w (bA ep r))):=by
 rw[eF,YB hr,Uo,Yy hw hr,de,<- Ao];congr 3;exact cn λi _=>Vd hr
noncomputable def zz:ab:=(.tuple [(.int 2),(.int 8)])
noncomputable def pM:ab:=(.tuple [(.str "low"),(.str "high"),(.str "turn"),(.str "rise"),(.str "even")])
noncomputable def dU:ab:=(.tuple [(.int 2),(.int 7)])
noncomputable def gB:ab:=(.tuple [(.int 1),(.int 1)])
noncomputable def qe:List (Str×ab):=[("low",(.tuple [(.int 1),(.tuple [(.int 0)])])),("high",(.tuple [(.int 1),(.tuple [(.int 1)])])),("turn",(.tuple [(.int 2),(.tuple [(.int 1),(.int 2)])])),("rise",(.tuple [(.int 2),(.tuple [(.int 0),(.int 2),(.int 3)])])),("even",(.tuple [(.int 4),(.tuple [(.int 0),(.int 3),(.int 5),(.int 6),(.int 9),(.int 10),(.int 12),(.int 15)])]))]
noncomputable def fZ:B4->AI ab:=fnR 1 (bB (n8 (Ew "int" (aj 0)) (mJ (Ew "bool" (aj 0)))))
noncomputable def iJ:B4->AI ab:=fnR 2 (bB (n8 (aM fZ [(aj 0)]) (CK leD ltD (eC (.int 0)) (aj 0) (aj 1))))
noncomputable def jz:B4->AI ab:=fnR 2 (bB (n8 (Ew "tuple" (aj 0)) (ao eqD (eFn fL [(aj 0)]) (aj 1))))
noncomputable def jP:B4->AI ab:=fnR 3 (aK (bc 1 (eC (.int 1)))
 (aK (cL (iy (aj 0)) (gN 2) [2] (bc 1 (ao lM (eC (.int 2)) (aj 1))))
 (bB (aj 1))))
noncomputable def jJ:B4->AI ab:=fnR 3 (aK (bc 1 (eC (.int 2)))
 (aK (cL (iy (aj 0)) (gN 2) [2] (bc 1 (ao lM (aj 1) (aj 1))))
 (bB (aj 1))))
noncomputable def il:B4->AI ab:=fnR 1 (bB (ao jb (aM jJ [(aj 0)]) (eC (.int 1))))
noncomputable def ur:B4->AI ab:=fnR 1 (bB (n8 (aM jz [(aj 0),(eC (.int 2))]) (n8 (aM iJ [(ao AQ (aj 0) (eC (.int 0))),(ao cJ (eC (.int 4)) (eC (.int 1)))]) (aM iJ [(ao AQ (aj 0) (eC (.int 1))),(aM jJ [(ao AQ (aj 0) (eC (.int 0)))])]))))
noncomputable def CV:B4->AI ab:=fnR 2 (bB (ao rW (ao wu (aj 0) (aj 1)) (eC (.int 1))))
noncomputable def pD:B4->AI ab:=fnR 3 (aK (bc 1 (eC (.int 0)))
 (aK (cL (itV (aj 0)) (gN 2) [2] (bc 1 (ao cJ (ao lM (eC (.int 2)) (aj 1)) (aj 2))))
 (bB (aj 1))))
noncomputable def mq:B4->AI ab:=fnR 2 (bB (aM pD [(cC (iy (aM jP [(aj 0)])) (gN 0) (eC (.bool true)) (aM CV [(aj 0),(aj 1)]) 1 [1])]))
noncomputable def jm:B4->AI ab:=fnR 1 (bB (cC (iy (aj 0)) (gN 0) (eC (.bool true)) (aM mq [(aj 1),(aj 0)]) 1 [0]))
noncomputable def pR:B4->AI ab:=fnR 5 (aK (bc 3 (cC (iy (aM jP [(ao AQ (aj 0) (eC (.int 0)))])) (gN 0) (eC (.bool true)) (ao lM (aj 1) (aM CV [(ao AQ (aj 2) (eC (.int 1))),(aj 0)])) 1 [2,0]))
 (aK (cL (itL (aj 1)) (gN 4) [4] (bc 3 (cC (Bs (eC (.int 0)) (eFn fL [(aj 3)]) (eC (.int 2))) (gN 0) (eC (.bool true)) (ao orD (ao rW (ao AQ (aj 1) (aj 0)) (eUn abW (aj 2))) (ao rW (ao AQ (aj 1) (ao cJ (aj 0) (eC (.int 1)))) (aj 2))) 1 [3,4])))
 (bB (ao AQ (aj 3) (eC (.int 0))))))
noncomputable def pA:B4->AI ab:=fnR 3 (bB (aM pR [(aj 0),(aj 1),(aM il [(aj 2)])]))
noncomputable def jy:B4->AI ab:=fnR 5 (aK (bc 3 (ao jb (ao AQ (aj 0) (eC (.int 0))) (eC (.int 1))))
 (aK (bc 4 (aM jm [(aj 3)]))
 (aK (Rv 4 (aj 1) (eIf (ao eqD (aj 2) (eC (.int 1))) (aM il [(aj 3)]) (eC (.int 0))))
 (bB (bM [(aj 3),(aM pA [(aj 0),(aj 4),(aj 3)])])))))
noncomputable def t6:B4->AI ab:=fnR 3 (aK (sIf (eOr (mJ (eUn oH (aM jz [(aj 0),(eC (.int 2))]))) (mJ (eUn oH (aM ur [(ao AQ (aj 0) (eC (.int 0)))])))) (bB (eC (.bool false))) cB)
 (aK (bc 2 (ao AQ (aj 0) (eC (.int 0))))
 (aK (sIf (mJ (eUn oH (aM jz [(ao AQ (aj 0) (eC (.int 1))),(ao AQ (aj 2) (eC (.int 0)))]))) (bB (eC (.bool false))) cB)
 (bB (eFn XX [(cC (itL (ao AQ (aj 0) (eC (.int 1)))) (gN 0) (eC (.bool true)) (aM iJ [(aj 0),(aj 1)]) 1 [1])])))))
noncomputable def m6:B4->AI ab:=fnR 5 (aK (sIf (eOr (mJ (eUn oH (aM jz [(aj 0),(eC (.int 3))]))) (mJ (eUn oH (aM iJ [(ao AQ (aj 0) (eC (.int 0))),(ao cJ (eC (.int 4)) (eC (.int 1)))])))) (bB (eC (.bool false))) cB)
 (aK (bc 1 (ao AQ (aj 0) (eC (.int 0))))
 (aK (bc 2 (ao AQ (aj 0) (eC (.int 1))))
 (aK (sIf (eOr (mJ (Ew "tuple" (aj 2))) (ao gtD (eFn fL [(aj 2)]) (eC (.int 600)))) (bB (eC (.bool false))) cB)
 (aK (cL (itE (aj 2)) (gT [(gN 3),(gN 4)]) [3,4] (sIf (mJ (eUn oH (aM t6 [(aj 4),(ao cJ (aj 1) (aj 3))]))) (bB (eC (.bool false))) cB))
 (bB (aM iJ [(ao AQ (aj 0) (eC (.int 2))),(ao cJ (aj 1) (eFn fL [(aj 2)]))])))))))
noncomputable def jx:B4->AI ab:=fnR 2 (bB (bM [(ao AQ (aj 0) (eC (.int 0))),(eFn gJ [(cC (itL (ao AQ (aj 0) (eC (.int 1)))) (gN 0) (eC (.bool true)) (ao ixY (aj 1) (aj 0)) 1 [1])])]))
noncomputable def du:B4->AI ab:=fnR 6 (aK (bc 4 (eFn Dt [(aj 3)]))
 (aK (cL (itL (ao AQ (aj 2) (eC (.int 1)))) (gN 5) [5] (aK (mH 0 (aM jx [(aj 5),(aj 4)]))
 (mH 4 (ao jb (ao cJ (aj 1) (eFn fL [(aj 0)])) (eC (.int 1))))))
 (Dd 0 (ao AQ (aj 4) (ao AQ (aj 2) (eC (.int 2)))))))
noncomputable def ni:B4->AI ab:=fnR 6 (aK (bc 2 (ao AQ (aj 0) (eC (.int 0))))
 (aK (bc 3 (eUn lrD (aj 2)))
 (aK (bc 4 (bU []))
 (aK (cL (itL (ao AQ (aj 0) (eC (.int 1)))) (gN 5) [5] (Im 3 4 du [(aj 4),(aj 2),(Ls 1 (ao AQ (aj 5) (eC (.int 0)))),(cC (itL (ao AQ (aj 5) (eC (.int 1)))) (gN 0) (eC (.bool true)) (ao AQ (aj 1) (aj 0)) 1 [3])]))
 (bB (bM [(aj 2),(eFn gJ [(aj 4)]),(ao AQ (aj 3) (ao AQ (aj 0) (eC (.int 2))))]))))))
noncomputable def jf:B4->AI ab:=fnR 7 (aK (bc 1 (ao AQ (aj 0) (eC (.int 0))))
 (aK (bc 2 (eUn lrD (aj 1)))
 (aK (bc 3 (bU []))
 (aK (bc 4 (jC []))
 (aK (cL (itL (ao AQ (aj 0) (eC (.int 1)))) (gN 5) [5,6] (aK (bc 6 (aM jx [(aj 5),(aj 2)]))
 (aK (sIf (zJ 4 (aj 6)) (aK (Ik 4 (aj 6) (ao cJ (aj 1) (eFn fL [(aj 3)])))
 (mH 3 (aj 6))) cB)
 (mH 2 (QV 4 (aj 6))))))
 (bB (bM [(aj 1),(eFn gJ [(aj 3)]),(ao AQ (aj 2) (ao AQ (aj 0) (eC (.int 2))))])))))))
noncomputable def nq:B4->AI ab:=fnR 6 (aK (bc 1 (ao AQ (aj 0) (eC (.int 0))))
 (aK (bc 2 (ao AQ (aj 0) (eC (.int 1))))
 (aK (bc 3 (Ie (ao AQ (aj 0) (eC (.int 2))) (eC (.bool true))))
 (aK (cL (Bs (ao jb (eFn fL [(aj 2)]) (eC (.int 1))) (eUn LQ (eC (.int 1))) (eUn LQ (eC (.int 1)))) (gN 4) [4,5] (sIf (ao inY (ao cJ (aj 1) (aj 4)) (aj 3)) (cL (itL (ao AQ (ao AQ (aj 2) (aj 4)) (eC (.int 1)))) (gN 5) [5] (je 3 (aj 5) (eC (.bool true)))) cB))
 (bB (aj 3))))))
noncomputable def fW:B4->AI ab:=fnR 8 (aK (bc 1 (ao AQ (aj 0) (eC (.int 0))))
 (aK (bc 2 (aM nq [(aj 0)]))
 (aK (bc 3 (jC []))
 (aK (cL (iy (aj 1)) (gN 4) [4] (je 3 (aj 4) (aj 4)))
 (aK (bc 5 (bU []))
 (aK (cL (itE (ao AQ (aj 0) (eC (.int 1)))) (gT [(gN 6),(gN 7)]) [6,7] (sIf (ao inY (ao cJ (aj 1) (aj 6)) (aj 2)) (aK (mH 5 (aM jx [(aj 7),(aj 3)]))
 (je 3 (ao cJ (aj 1) (aj 6)) (ao jb (ao cJ (aj 1) (eFn fL [(aj 5)])) (eC (.int 1))))) cB))
 (bB (bM [(aj 1),(eFn gJ [(aj 5)]),(ao ixY (aj 3) (ao AQ (aj 0) (eC (.int 2))))]))))))))
noncomputable def oV:B4->AI ab:=fnR 1 (bB (aM fW [(aM jf [(aj 0)])]))
noncomputable def jB:Nat->B4->AI ab
 | 0=>λ_=>.bad
 | fu+1=>fnR 5 (aK (sIf (eUn oH (aM fZ [(aj 2)])) (Dd 0 (aj 2)) cB)
  (aK (bc 3 (bU []))
  (aK (cL (itL (ao AQ (aj 2) (eC (.int 1)))) (gN 4) [4] (Im 3 0 (jB fu) [(aj 0),(aj 1),(aj 4)]))
  (aK (mH 0 (bM [(ao AQ (aj 2) (eC (.int 0))),(eFn gJ [(aj 3)])]))
  (Dd 0 (ao jb (ao cJ (aj 1) (eFn fL [(aj 0)])) (eC (.int 1))))))))
noncomputable def jr:B4->AI ab:=fnR 4 (aK (bc 2 (bU []))
 (aK (Cj 3 2 (jB 100) [(aj 2),(aj 1),(aj 0)])
 (bB (bM [(aj 1),(eFn gJ [(aj 2)]),(aj 3)]))))
noncomputable def v5:B4->AI ab:=fnR 3 (aK (bc 1 (jC []))
 (aK (cL (itL (aj 0)) (gN 2) [2] (je 1 (aj 2) (eC (.bool true))))
 (bB (aj 1))))
noncomputable def qP:B4->AI ab:=fnR 3 (bB (aM pR [(aj 0),(aj 1),(ao jb (aM jP [(aj 2)]) (eC (.int 1)))]))
noncomputable def zO:B4->AI ab:=fnR 4 (aK (bc 2 (eC (.int 1)))
 (aK (cL (iy (aj 1)) (gN 3) [3] (bc 2 (ao lM (aj 0) (aj 2))))
 (bB (aj 2))))
noncomputable def jn:B4->AI ab:=fnR 2 (bB (eFn Fe [(cC (itL (aj 1)) (gN 0) (eC (.bool true)) (aM zO [(aj 1),(ao AQ (aj 0) (eC (.int 0)))]) 1 [0])]))
noncomputable def iM:B4->AI ab:=fnR 6 (aK (bc 1 (bU [(bU [])]))
 (aK (cL (itL (aj 0)) (gN 2) [2,3,4,5] (aK (bc 3 (bU []))
 (aK (cL (itL (aj 1)) (gN 4) [4,5] (cL (itL (aj 2)) (gN 5) [5] (mH 3 (ao cJ (aj 4) (bU [(aj 5)])))))
 (bc 1 (aj 3)))))
 (bB (aj 1))))
noncomputable def sE:B4->AI ab:=fnR 6 (aK (bc 2 (ao AQ (aj 1) (eC (.int 0))))
 (aK (bc 3 (ao AQ (aj 1) (eC (.int 1))))
 (aK (sIf (ao gtD (aM jn [(eFn fL [(aj 3)]),(bU [(aj 0)])]) (eC (.int 20000))) FJ cB)
 (aK (bc 4 (aM v5 [(aj 3)]))
 (aK (cL (itL (aM iM [(ao vY (bU [(aj 3)]) (ao AQ (aj 0) (eC (.int 0))))])) (gN 5) [5] (sIf (ao lV (aM qP [(aj 0),(aj 5),(aj 2)]) (aj 4)) (bB (aj 5)) cB))
 (bB (eC .none)))))))
noncomputable def mz:B4->AI ab:=fnR 5 (aK (bc 3 (bU []))
 (aK (cL (iy (aj 2)) (gN 4) [4] (PK 3 (aM iM [(ao cJ (ao cJ (ao vY (bU [(aj 0)]) (aj 4)) (bU [(aj 1)])) (ao vY (bU [(ao cJ (aj 0) (aj 1))]) (ao jb (ao jb (aj 2) (aj 4)) (eC (.int 1)))))])))
 (bB (aj 3))))
noncomputable def fD:B4->AI ab:=fnN 2 (sIf (eOr (ao gtD (aj 0) (eC (.int 128))) (ao gtD (aM jn [(aj 0),(aj 1)]) (eC (.int 20000)))) FJ cB)
noncomputable def mR:B4->AI ab:=aeh 3 0 (sIf (eOr (ao lV (aj 1) (aj 0)) (ao ltD (ao AQ (aj 2) (eC (.int 0))) (ao AQ (ao ixY (aj 0) (aj 1)) (eC (.int 0))))) (je 0 (aj 1) (aj 2)) cB)
noncomputable def lr:B4->AI ab:=fnR 5 (aK (bc 2 (jC []))
 (aK (cL (itL (aM jm [(aj 1)])) (gN 3) [3] (yh 2 mR [(aj 2),(aj 3),(bM [(eC (.int 0)),(eC .none),(bM [])])]))
 (aK (cL (itL (aj 0)) (gN 4) [4] (sIf (ao eqD (ao AQ (aj 4) (eC (.int 0))) (eC (.int 0))) (yh 2 mR [(aj 2),(aM pA [(aj 4),(bU []),(aj 1)]),(bM [(eC (.int 1)),(aj 4),(bM [])])]) cB))
 (bB (aj 2)))))
noncomputable def jR:B4->AI ab:=fnR 9 (aK (bc 4 (cC (itK 0) (gN 0) (ao neD (aj 0) (aj 1)) (aj 0) 1 [1]))
 (aK (bc 5 (bU []))
 (aK (cL (itL (aM mz [(aj 4),(bU [(aj 1)]),(ao AQ (aj 2) (eC (.int 0)))])) (gN 6) [6,7,8] (aK (bc 7 (aM pA [(aj 2),(aj 6),(aj 3)]))
 (sIf (ao lV (aj 7) (aj 0)) (aK (bc 8 (ao cJ (eC (.int 1)) (eFn Fe [(cC (itL (aj 6)) (gN 0) (eC (.bool true)) (ao AQ (ao ixY (aj 1) (aj 0)) (eC (.int 0))) 1 [0])])))
 (mH 5 (bM [(aj 7),(bM [(aj 8),(aj 2),(eFn gJ [(aj 6)])])]))) cB)))
 (bB (aj 5)))))
noncomputable def pU:B4->AI ab:=fnR 8 (aK (bc 2 (jC []))
 (aK (bc 3 (aM lr [(aj 0),(aj 1)]))
 (aK (sy 1000000 (ao gtD (eFn u9 [(aj 3)]) (eC (.int 0))) [4,5,6,7] (aK (bc 4 (BR 3))
 (aK (vJ 2 3 4)
 (aK (sEx (aM fD [(eFn u9 [(aj 2)]),(aj 0)]))
 (cL (itL (aj 0)) (gN 5) [5,6,7] (cL (itL (aM jR [(aj 2),(aj 4),(aj 5),(aj 1)])) (gT [(gN 6),(gN 7)]) [6,7] (yh 3 mR [(aj 3),(aj 6),(aj 7)])))))))
 (bB (aj 2)))))
noncomputable def iH:B4->AI ab:=fnR 7 (aK (bc 3 (jC []))
 (aK (bc 4 (bU []))
 (aK (cL (itI 0) (gT [(gN 5),(gN 6)]) [5,6] (aK (je 3 (aj 5) (eFn u9 [(aj 3)]))
 (sIf (ao DY (ao AQ (aj 6) (eC (.int 1))) (eC .none)) (mH 4 (bM [(ao AQ (aj 6) (eC (.int 1))),(eFn gJ [(cC (itL (ao AQ (aj 6) (eC (.int 2)))) (gN 0) (eC (.bool true)) (ao ixY (aj 1) (aj 0)) 1 [3])])])) cB)))
 (bB (aM fW [(bM [(aj 2),(eFn gJ [(aj 4)]),(ao ixY (aj 3) (aj 1))])])))))
noncomputable def JF:B4->AI ab:=fnR 1 (bB (eUn (XN qe) (aj 0)))
noncomputable def jq:B4->AI ab:=fnR 5 (aK (cL (itE (aj 0)) (gT [(gN 2),(gN 3)]) [2,3,4] (aK (bc 4 (aM sE [(aj 3),(aj 1)]))
 (sIf (ao DY (aj 4) (eC .none)) (bB (bM [(aj 2),(aj 4)])) cB)))
 (bB (eC .none)))
noncomputable def vG:B4->AI ab:=fnR 1 (bB (cC (itL (eC pM)) (gN 0) (eC (.bool true)) (aM jq [(aj 1),(aM JF [(aj 0)])]) 1 [0]))
noncomputable def pF:B4->AI ab:=fnR 1 (bB (ao lV (eC .none) (aM vG [(aj 0)])))
noncomputable def jD:B4->AI ab:=fnR 2 (De 0 [(10,.ev (eC (.int 0))),(12,.ev (eC (.int 1))),(5,.cl du [(aj 0),(eC (.int 2)),(ao AQ (aj 1) (eC (.int 1))),(bU [(eC (.int 0))])]),(3,.cl du [(aj 0),(eC (.int 2)),(ao AQ (aj 1) (eC (.int 1))),(bU [(eC (.int 1))])]),(0,.cl du [(aj 0),(eC (.int 2)),(ao AQ (aj 1) (eC (.int 0))),(bU [(eC (.int 0))])]),(15,.cl du [(aj 0),(eC (.int 2)),(ao AQ (aj 1) (eC (.int 3))),(bU [(eC (.int 0))])])])
noncomputable def jl:B4->AI ab:=fnR 4 (aK (cL (itL (aj 1)) (gN 3) [3] (sIf (ao eqD (aM pA [(aj 0),(aj 3),(eC (.int 2))]) (aj 2)) (bB (aj 3)) cB))
 (bB (eC .none)))
noncomputable def fU:B4->AI ab:=fnR 8 (aK (bc 2 (bU []))
 (aK (Cj 3 2 jD [(aj 2),(aj 1)])
 (aK (bc 4 (aM iM [(ao vY (bU [(eFn QZ [(aj 3)])]) (ao AQ (aj 0) (eC (.int 0))))]))
 (aK (bc 5 (aM jl [(aj 0),(aj 4),(ao AQ (eC dU) (eC (.int 1)))]))
 (aK (bc 6 (eIf (ao wU (aj 5) (eC .none)) (aM jl [(aj 0),(aj 4),(ao AQ (eC zz) (eC (.int 1)))]) (aj 5)))
 (aK (mH 2 (bM [(aj 0),(eFn gJ [(cC (itL (aj 6)) (gN 0) (eC (.bool true)) (ao ixY (aj 1) (aj 0)) 1 [3])])]))
 (aK (bc 7 (ao cJ (eFn fL [(aj 2)]) (eC (.int 1))))
 (aK (sIf (ao wU (aj 5) (eC .none)) (Cj 7 2 du [(aj 2),(eC (.int 2)),(ao AQ (aj 1) (eC (.int 1))),(bU [(aj 7)])]) cB)
 (bB (aM oV [(bM [(eC (.int 2)),(eFn gJ [(aj 2)]),(aj 7)])]))))))))))
noncomputable def cI:B4->AI ab:=fnR 1 (aK (sIf (n8 (mJ (eUn oH (aM fZ [(aj 0)]))) (ao eqD (ao AQ (aj 0) (eC (.int 0))) (eC gB))) (bB (ao AQ (ao AQ (aj 0) (eC (.int 1))) (eC (.int 0)))) cB)
 (bB (bM [(eC gB),(bM [(aj 0)])])))
noncomputable def tD(pt:B4->AI ab):B4->AI ab:=fnR 2 (aK (sIf (ao eqD (ao AQ (aj 0) (eC (.int 1))) (eC (.int 0))) (bB (bU [])) cB)
 (aK (sIf (ao eqD (ao AQ (aj 0) (eC (.int 1))) (aM il [(ao AQ (aj 0) (eC (.int 0)))])) (bB (bU [(aM cI [(aj 1)])])) cB)
 (bB (bU [(bM [(eC dU),(bM [(aj 1),(aM pt [(aj 0)])])])]))))
noncomputable def cH:Nat->B4->AI ab
 | 0=>λ_=>.bad
 | fu+1=>fnR 5 (aK (bc 1 (ao jb (ao AQ (aj 0) (eC (.int 0))) (eC (.int 1))))
  (aK (bc 2 (aM jy [(aj 0),(aj 1),(eC (.int 0))]))
  (aK (bc 3 (aM jy [(aj 0),(aj 1),(eC (.int 1))]))
  (aK (sIf (ao eqD (aj 2) (aj 3)) (bB (aM (cH fu) [(aj 2)])) cB)
  (aK (bc 4 (ao cJ (aM (tD (cH fu)) [(aj 2),(aM cI [(aj 1)])]) (aM (tD (cH fu)) [(aj 3),(aj 1)])))
  (aK (sIf (ao eqD (eFn fL [(aj 4)]) (eC (.int 1))) (bB (aM cI [(ao AQ (aj 4) (eC (.int 0)))])) cB)
  (bB (bM [(eC dU),(eFn gJ [(aj 4)])]))))))))
noncomputable def o5:B4->AI ab:=fnR 2 (aK (bc 1 (bM [(eC dU),(bM [(eC (.int 0)),(aM cI [(eC (.int 0))])])]))
 (aK (sIf (ao eqD (ao AQ (aj 0) (eC (.int 1))) (aM il [(ao AQ (aj 0) (eC (.int 0)))])) (bB (aj 1)) cB)
 (bB (eIf (ao eqD (ao AQ (aj 0) (eC (.int 1))) (eC (.int 0))) (aM cI [(aj 1)]) (aM (cH 8) [(aj 0)])))))
noncomputable def qY:B4->AI ab:=fnR 9 (aK (bc 2 (aM vG [(aj 0)]))
 (aK (cL (Xc (eC pM) (aj 2)) (gT [(gN 3),(gN 4)]) [3,4] (sIf (ao wU (aj 4) (eC .none)) FJ cB))
 (aK (bc 5 (aM pU [(aj 0),(eC (.int 1))]))
 (aK (bc 6 (cC (iy (eC (.int 4))) (gN 0) (eC (.bool true)) (aM iH [(aj 1),(aj 0),(eC (.int 1))]) 1 [5]))
 (aK (bc 7 (ao AQ (aj 0) (ao AQ (ao AQ (aj 2) (eC (.int 4))) (eC (.int 0)))))
 (aK (zF 8 [((eC gB),(ao AQ (aj 6) (eC (.int 1)))),((eC dU),(aM fU [(aj 7),(aj 6)]))])
 (bB (aM oV [(KZ ni (aM jr [(aM o5 [(aj 1)]),(ao AQ (aj 1) (eC (.int 0)))]) 8)]))))))))
end Zq
theorem Zq.sizeLine_eq:bE=16777216:=by decide
namespace Zq
open PySem PySem.Spec PyProof.Rows
variable {o:Option ab}{Γ:Ev}
theorem aar:gv (o::Γ) 0=o:=rfl
variable {i:Nat}
theorem abm:gv (o::Γ) (i+1)=gv Γ i:=rfl
theorem Tp{d:ab}:aj 0 (some d::Γ)= .ok d:=rfl
theorem R7:aj (i+1) (o::Γ)=aj i Γ:=rfl
theorem Ci{d:ab}:eC d Γ = .ok d:=rfl
theorem Lf{f:C8}{a b:ME}:ao f a b Γ=(a Γ).bind λx=>(b Γ).bind λy=>f x y:=rfl
theorem aaa{f:C9}{a:ME}:eUn f a Γ=(a Γ).bind f:=rfl
variable {ms:List ME}
theorem aaW{f:B4->AI ab}:eFn f ms Γ=(evs ms Γ).bind f:=rfl
theorem mQ{f:B4->AI ab}:aM f ms Γ=(evs ms Γ).bind f:=rfl
theorem aaE:evs [] Γ = .ok []:=rfl
variable {m:ME}
theorem Br:evs (m::ms) Γ=(m Γ).bind λd=>(evs ms Γ).bind λds=>.ok (d::ds):=rfl
theorem X5:bM ms Γ=(evs ms Γ).bind λds=>.ok (.tuple ds):=rfl
theorem Yk:bU ms Γ=(evs ms Γ).bind λds=>.ok (.list ds):=rfl
theorem Ww{T:String}:Ew T m Γ=(m Γ).bind λd=>.ok (.bool (gm T d)):=rfl
noncomputable def bT(x:ab)(a b:AI ab):AI ab:=match x with
 | .bool true=>a
 | .bool false=>b
 | _=>.bad
noncomputable def bS(x:ab)(a b:AI Out):AI Out:=match x with
 | .bool true=>a
 | .bool false=>b
 | _=>.bad
theorem aaB{a b:AI ab}:bT (.bool true) a b=a:=rfl
theorem Wn{a b:AI ab}:bT (.bool false) a b=b:=rfl
theorem Og{a b:AI Out}:bS (.bool true) a b=a:=rfl
theorem Lx{a b:AI Out}:bS (.bool false) a b=b:=rfl
theorem JS{c:Bool}{a b:AI ab}:bT (.bool c) a b=if c=true then a else b:=by cases c <;> rfl
theorem BX{c:Bool}{a b:AI Out}:bS (.bool c) a b=if c=true then a else b:=by cases c <;> rfl
variable {c:ME}
theorem aad{b:ME}:eIf c m b Γ=(c Γ).bind λx=>bT x (m Γ) (b Γ):=by
 rfl
theorem Wb:n8 m c Γ=(m Γ).bind λx=>bT x (c Γ) (.ok (.bool false)):=by
 rfl
theorem aa1{a b:ME}:eOr a b Γ=(a Γ).bind λx=>bT x (.ok (.bool true)) (b Γ):=by
 unfold eOr;congr 1;funext x;cases x <;> first | rfl | (rename_i b;cases b <;> rfl)
noncomputable def acr:ab->AI ab
 | .bool t=>.ok (.bool (!t))
 | _=>.bad
theorem Wt{t:Bool}:acr (.bool t)= .ok (.bool (!t)):=rfl
theorem Xu:mJ m Γ=(m Γ).bind acr:=rfl
theorem aa9{lo hi:MO}:eSl m lo hi Γ=(m Γ).bind λd=>(lo Γ).bind λl=>(hi Γ).bind λh=>slD d l h:=rfl
theorem S9:PN Γ = .ok none:=rfl
noncomputable def adP:ab->AI C3
 | .int i=>.ok (some i)
 | _=>.bad
theorem Xw{i:Int}:adP (.int i)= .ok (some i):=rfl
theorem Vl:QL m Γ=(m Γ).bind adP:=rfl
noncomputable def Yw(b:MS):Out->AI Out
 | .nx Γ'=>b Γ'
 | .rt d=>.ok (.rt d)
 | .bk Γ'=>.ok (.bk Γ')
 | .ct Γ'=>.ok (.ct Γ')
theorem lB{b:MS}:Yw b (.nx Γ)=b Γ:=rfl
theorem aaz{b:MS}{d:ab}:Yw b (.rt d)= .ok (.rt d):=rfl
theorem gF{a b:MS}:aK a b Γ=(a Γ).bind (Yw b):=by
 rfl
theorem Zo{α:Type}{r:AI α}:gd True r=r:=rfl
theorem Bc:bc i m Γ=(m Γ).bind λd=>gd (i < Γ.length) (.ok (.nx (Γ.set i (some d)))):=rfl
theorem NB{a b:MS}:sIf c a b Γ=(c Γ).bind λx=>bS x (a Γ) (b Γ):=by
 rfl
theorem Xb:bB m Γ=(m Γ).bind λd=>.ok (.rt d):=rfl
theorem V4:cB Γ = .ok (.nx Γ):=rfl
variable {it:MI}{g:MG}{cl:B5}
theorem XF{b:MS}:cL it g cl b Γ=(it Γ).bind λxs=>forR g cl b xs Γ:=rfl
noncomputable def fin:Out->AI ab
 | .rt d=>.ok d
 | _=>.bad
theorem adA{d:ab}:fin (.rt d)= .ok d:=rfl
variable {ds:B4}
theorem Oq{m:MS}:fnR i m ds=(m (ds.map some++ax (i - ds.length) none)).bind fin:=by
 rfl
noncomputable def abT:Out->AI ab
 | .rt d=>.ok d
 | .nx _=>.ok .none
 | _=>.bad
theorem aae:abT (.nx Γ)= .ok .none:=rfl
theorem ZS{m:MS}:fnN i m ds=(m (ds.map some++ax (i - ds.length) none)).bind abT:=by
 rfl
noncomputable def adn(Γ:Ev)(i:Nat)(d:ab):Option ab->AI Out
 | some (.list ds)=>gd (ds.length<bE/\i < Γ.length) (.ok (.nx (Γ.set i (some (.list (ds++[d]))))))
 | _=>.bad
theorem Yj{d:ab}:adn Γ i d (some (.list ds))=gd (ds.length<bE/\i < Γ.length) (.ok (.nx (Γ.set i (some (.list (ds++[d])))))):=rfl
theorem Xl:mH i m Γ=(m Γ).bind λd=>adn Γ i d (gv Γ i):=by
 rfl
theorem Ca{d:ab}:gN i d Γ=gd (i < Γ.length) (.ok (Γ.set i (some d))):=rfl
theorem acL{gs:List MG}:gT gs (.tuple ds) Γ=gTs gs ds Γ:=rfl
theorem aaD:gTs [] [] Γ = .ok Γ:=rfl
theorem Xf{gs:List MG}{d:ab}:gTs (g::gs) (d::ds) Γ=(g d Γ).bind λΓ'=>gTs gs ds Γ':=rfl
noncomputable def Az:ab->AI B4
 | .list ds=>.ok ds
 | .tuple ds=>.ok ds
 | _=>.bad
theorem Tq:Az (.list ds)= .ok ds:=rfl
theorem Rb:Az (.tuple ds)= .ok ds:=rfl
theorem Pr:itL m Γ=(m Γ).bind Az:=by
 rfl
noncomputable def upN(n:Nat):B4:=(List.range n).map λi=>ab.int (i:Nat)
noncomputable def Ri:ab->AI B4
 | .int j=>gd (-(2^62)<=j/\j<2^62) (.ok (upN j.toNat))
 | _=>.bad
theorem V1{j:Int}:Ri (.int j)=gd (-(2^62)<=j/\j<2^62) (.ok (upN j.toNat)):=rfl
theorem dD(h:i<2^62):Ri (.int (i:Nat))= .ok (upN i):=by
 rw[V1,bD (by lia),cE]
theorem Wh:iy m Γ=(m Γ).bind Ri:=by
 unfold iy;congr 1;funext d
 cases d with
 | int j=>show gd _ _=gd _ _;congr 2;unfold upN;simp only[Int.zero_add]
 | _=>rfl
noncomputable def aep:ab->AI B4
 | .list ds=>.ok ds.reverse
 | _=>.bad
theorem W5:aep (.list ds)= .ok ds.reverse:=rfl
theorem aav:itV m Γ=(m Γ).bind aep:=by
 rfl
theorem Zn:clr [] Γ=Γ:=rfl
theorem Xk:clr (i::cl) Γ=clr cl (Γ.set i none):=rfl
variable {a b:Int}
theorem VG:cJ (.int a) (.int b)= .ok (.int (a+b)):=rfl
theorem Wm:jb (.int a) (.int b)= .ok (.int (a - b)):=rfl
theorem Wf:lM (.int a) (.int b)=gd (rK a b) (.ok (.int (a*b))):=rfl
theorem Vn:lJ (.int a) (.int b)=gd (Em a b) (.ok (.int (a / b))):=rfl
theorem Yc:jU (.int a) (.int b)=gd (0<b) (.ok (.int (a % b))):=rfl
theorem XJ:Bu (.int a) (.int b)=gd (Gb a b) (.ok (.int (a*2^b.toNat))):=rfl
theorem X3:wu (.int a) (.int b)=gd (0<=b) (.ok (.int (a / 2^b.toNat))):=rfl
theorem VR:rW (.int a) (.int b)= .ok (.int (ia a b)):=rfl
theorem aat:orD (.int a) (.int b)= .ok (.int (k8 a b)):=rfl
theorem aan:ltD (.int a) (.int b)= .ok (.bool (decide (a<b))):=rfl
theorem aaF:leD (.int a) (.int b)= .ok (.bool (decide (a<=b))):=rfl
theorem abd:gtD (.int a) (.int b)= .ok (.bool (decide (b<a))):=rfl
theorem qH:eI (.int a)=true:=by rw[eI,kK,ab.depth];rfl
theorem abe:eqD (.int a) (.int b)= .ok (.bool (decide (a=b))):=by
 rw[eqD,bD ⟨qH,qH⟩,fI];congr 2
theorem aaO:neD (.int a) (.int b)= .ok (.bool (!decide (a=b))):=by
 rw[neD,bD ⟨qH,qH⟩,fI];congr 2
mutual
noncomputable def plain:ab->Bool
 | .int _=>true
 | .none=>true
 | .list ds=>iV ds
 | .tuple ds=>iV ds
 | .bool _=>false
 | .str _=>false
 | .dict _=>false
noncomputable def iV:B4->Bool
 | []=>true
 | d::ds=>plain d&&iV ds
end
mutual
theorem Gn:∀(d:ab),plain d=true->d.canLay0=true
 | .int _,_=>by rw[kK]
 | .none,_=>by rw[kK]
 | .list ds,h=>by rw[kK];exact wC ds (by rwa [plain] at h)
 | .tuple ds,h=>by rw[kK];exact wC ds (by rwa [plain] at h)
 | .bool _,h=>by rw[plain] at h;cases h
 | .str _,h=>by rw[plain] at h;cases h
 | .dict _,h=>by rw[plain] at h;cases h
theorem wC:∀(ds:B4),iV ds=true->iF ds=true
 | [],_=>by rw[iF]
 | d::ds,h=>by
  rw[iV,dS] at h;rw[iF,Gn d h.1,wC ds h.2];rfl
end
mutual
theorem mO:∀(d e:ab),plain d=true->plain e=true->(fI d e=true↔d=e)
 | .int a,.int b,_,_=>by rw[fI];simp
 | .none,.none,_,_=>by rw[fI];simp
 | .list ds,.list es,h,g=>by
  rw[plain] at h g;rw[fI,wQ ds es h g];exact ⟨λz=>by rw[z],λz=>by cases z;rfl⟩
 | .tuple ds,.tuple es,h,g=>by
  rw[plain] at h g;rw[fI,wQ ds es h g];exact ⟨λz=>by rw[z],λz=>by cases z;rfl⟩
 | .int _,.none,_,_ | .int _,.list _,_,_ | .int _,.tuple _,_,_ | .none,.int _,_,_ | .none,.list _,_,_ | .none,.tuple _,_,_
 | .list _,.int _,_,_ | .list _,.none,_,_ | .list _,.tuple _,_,_ | .tuple _,.int _,_,_ | .tuple _,.none,_,_ | .tuple _,.list _,_,_=>by
  rw[fI];exact ⟨(λz=>nomatch z),(λz=>nomatch z)⟩
 | .bool _,_,h,_=>by rw[plain] at h;cases h
 | .str _,_,h,_=>by rw[plain] at h;cases h
 | .dict _,_,h,_=>by rw[plain] at h;cases h
 | _,.bool _,_,h=>by rw[plain] at h;cases h
 | _,.str _,_,h=>by rw[plain] at h;cases h
 | _,.dict _,_,h=>by rw[plain] at h;cases h
theorem wQ:∀(ds es:B4),iV ds=true->iV es=true->(sQ ds es=true↔ds=es)
 | [],[],_,_=>by rw[sQ];simp
 | [],_::_,_,_=>by rw[sQ];simp
 | _::_,[],_,_=>by rw[sQ];simp
 | d::ds,e::es,h,g=>by
  rw[iV,dS] at h g;rw[sQ,dS,mO d e h.1 g.1,wQ ds es h.2 g.2];simp
end
theorem jw{d:ab}(h:plain d=true)(hd:d.depth<=64):eI d=true:=by
 rw[eI,Gn d h,decide_eq_true hd];rfl
theorem uE{a b:ab}(ha:plain a=true)(hb:plain b=true)(da:a.depth<=64)(db:b.depth<=64):(eqD a b= .ok (.bool true)↔a=b)/\(eqD a b= .ok (.bool false)↔a≠b)/\(neD a b= .ok (.bool true)↔a≠b)/\(neD a b= .ok (.bool false)↔a=b):=by
 unfold eqD neD;rw[bD ⟨jw ha da,jw hb db⟩,bD ⟨jw ha da,jw hb db⟩];have h:=mO a b ha hb
 cases q:fI a b with
 | true=>have e:=h.mp q;simp[e]
 | false=>
  have e:a≠b:=λz=>by rw[h.mpr z] at q;cases q
  simp[e]
theorem vd:∀ns:B3,iV (ns.map ab.int)=true
 | []=>by rw[ft,iV]
 | n::ns=>by rw[bo,iV,plain,vd ns];rfl
theorem wZ(ns:B3):plain (.list (ns.map ab.int))=true:=by rw[plain];exact vd ns
theorem M8(ns:B3):plain (.tuple (ns.map ab.int))=true:=by rw[plain];exact vd ns
theorem tW(ns:B3):(ab.list (ns.map ab.int)).depth<=64:=by rw[ab.depth,qT];decide
theorem Ba(ns:B3):(ab.tuple (ns.map ab.int)).depth<=64:=by rw[ab.depth,qT];decide
theorem MP{a b:B3}(h:a.map ab.int=b.map ab.int):a=b:=by
 have:=wL a;rw[h,wL] at this;exact (Option.some.inj this).symm
theorem Ss{a b:B3}:eqD (.list (a.map ab.int)) (.list (b.map ab.int))= .ok (.bool (decide (a=b))):=by
 have h:=uE (wZ a) (wZ b) (tW a) (tW b)
 by_cases e:a=b
 . subst e;rw[h.1.mpr rfl];simp
 . rw[h.2.1.mpr λz=>e (MP (ab.list.inj z))];simp[e]
noncomputable def iB(cl:B5):Out->AI Out
 | .nx Γ=>.ok (.nx (clr cl Γ))
 | .ct Γ=>.ok (.nx (clr cl Γ))
 | .bk Γ=>.ok (.bk (clr cl Γ))
 | .rt d=>.ok (.rt d)
theorem abx:iB cl (.nx Γ)= .ok (.nx (clr cl Γ)):=rfl
theorem ZR{d:ab}:iB cl (.rt d)= .ok (.rt d):=rfl
def Goes(r:AI Out)(P:Ev->Prop):Prop:=∃Γ,r= .ok (.nx Γ)/\P Γ
theorem aak{P:Ev->Prop}:Goes (.ok (.nx Γ)) P↔P Γ:=⟨λaz=>by obtain ⟨Γ',e,h⟩:=az;cases e;exact h,λh=>⟨Γ,rfl,h⟩⟩
variable {x:ab}{xs:B4}
theorem zQ{b:MS}{Γ':Ev}(h:((g x Γ).bind b).bind (iB cl)= .ok (.nx Γ')):forR g cl b (x::xs) Γ=forR g cl b xs Γ':=by
 obtain ⟨o,h1,h2⟩:=AI.au h;obtain ⟨Γ1,h3,h4⟩:=AI.au h1;rw[forR,h3,AI.aQ,h4,AI.aQ];cases o <;> cases h2 <;> rfl
theorem KD{b:MS}(I:Nat->Ev->Prop):∀{xs:B4}{Γ:Ev},I 0 Γ ->
 (∀i x Γ,xs[i]?=some x->I i Γ->Goes (((g x Γ).bind b).bind (iB cl)) (I (i+1)))->∃Γ',forR g cl b xs Γ = .ok (.nx Γ')/\I xs.length Γ':=by
 intro xs
 induction xs generalizing I with
 | nil=>intro Γ h0 _;exact ⟨Γ,rfl,h0⟩
 | cons x xs ih=>
  intro Γ h0 hs;obtain ⟨Γ2,e,h2⟩:=hs 0 x Γ rfl h0;obtain ⟨Γ',e3,h3⟩:=ih (λi=>I (i+1)) h2 λi y Γ hy h=>hs (i+1) y Γ (by simpa using hy) h;refine ⟨Γ',?_,h3⟩;rw[zQ e];exact e3
theorem Pz{b:MS}(S:Nat->Ev)(h0:Γ=S 0)
 (h:∀i x,xs[i]?=some x->((g x (S i)).bind b).bind (iB cl)= .ok (.nx (S (i+1)))):forR g cl b xs Γ = .ok (.nx (S xs.length)):=by
 obtain ⟨Γ',e,h'⟩:=KD (λi Γ=>Γ=S i) h0 λi x Γ hx hI=>by
  subst hI;exact ⟨_,h i x hx,rfl⟩
 rw[e,h']
theorem bL{α:Type}{b:MS}{f:Out->AI α}{r:AI α}(S:Nat->Ev)(h0:Γ=S 0)
 (h:∀i x,xs[i]?=some x->((g x (S i)).bind b).bind (iB cl)= .ok (.nx (S (i+1)))) (k:f (.nx (S xs.length))=r):(forR g cl b xs Γ).bind f=r:=by
 rw[Pz S h0 h];exact k
theorem AI.bind_assoc{α β γ:Type}{r:AI α}{f:α->AI β}{g:β->AI γ}:(r.bind f).bind g=r.bind λa=>(f a).bind g:=by cases r <;> rfl
variable {e:ME}
theorem GZ(F:ab->ab):∀{xs:B4},(∀x∈xs,(g x Γ).bind e= .ok (F x))->pC g (eC (.bool true)) e Γ xs= .ok (xs.map F)
 | [],_=>rfl
 | x::xs,h=>by
  obtain ⟨Γ1,e1,e2⟩:=AI.au (h x b9);rw[pC,e1,AI.aQ,Ci,AI.aQ,e2,AI.aQ,GZ F λy hy=>h y (cf _ hy)];rfl
variable {nt:Nat}{ix:B5}
theorem yl(F:ab->ab)(hi:it Γ = .ok xs)(hz:xs.length<bE)(h:∀x∈xs,(g x (gh nt ix Γ)).bind e= .ok (F x)) :
 cC it g (eC (.bool true)) e nt ix Γ = .ok (.list (xs.map F)):=by
 rw[cC,hi,AI.aQ,bD hz,GZ F h];rfl
theorem mW{n:Nat}(F:Nat->ab)(hi:it Γ = .ok (upN n))(hz:n<bE)(h:∀i,i<n->(g (.int (i:Nat)) (gh nt ix Γ)).bind e= .ok (F i)) :
 cC it g (eC (.bool true)) e nt ix Γ = .ok (.list ((List.range n).map F)):=by
 have e1:(upN n).map (λd=>match d with | .int i=>F i.toNat | _=>.none)=(List.range n).map F:=by
  rw[upN,de];refine cn λi _=>?_;show F ((i:Nat):Int).toNat=F i;rw[cE]
 rw[<- e1];refine yl _ hi (by rw[upN,af,c9];exact hz) λx hx=>?_;obtain ⟨i,hi,rfl⟩:=cc.mp hx;show _=AI.ok (F ((i:Nat):Int).toNat);rw[cE];exact h i (dn.mp hi)
variable {ns:B3}
theorem Cy(F:Int->ab)(hi:it Γ = .ok (ns.map ab.int))(hz:ns.length<bE)(h:∀x∈ns,(g (.int x) (gh nt ix Γ)).bind e= .ok (F x)) :
 cC it g (eC (.bool true)) e nt ix Γ = .ok (.list (ns.map F)):=by
 have e1:(ns.map ab.int).map (λd=>match d with | .int i=>F i | _=>.none)=ns.map F:=by
  rw[de];rfl
 rw[<- e1];refine yl _ hi (by rw[af];exact hz) λx hx=>?_;obtain ⟨i,hi,rfl⟩:=cc.mp hx;exact h i hi
theorem jQ(h:(upN nt)[i]?=some x):i<nt/\x= .int (i:Nat):=by
 unfold upN at h;rw[br] at h;rcases gu i nt with hi | hi
 . rw[eP hi] at h;exact ⟨hi,(Option.some.inj h).symm⟩
 . rw[fk (by rw[c9];exact hi)] at h;cases h
theorem fj(n:Nat):(upN n).length=n:=by rw[upN,af,c9]
theorem ints_get(h:(ns.map ab.int)[i]?=some x):∃v,x= .int v/\ns[i]?=some v:=by
 rw[br] at h
 cases e:ns[i]? with
 | none=>rw[e] at h;cases h
 | some v=>rw[e] at h;exact ⟨v,(Option.some.inj h).symm,rfl⟩
theorem Qd:gh nt ix Γ=ax nt none++ix.map (gv Γ):=rfl
theorem jc{d:ab}(h:ds[i]?=some d):AQ (.list ds) (.int (i:Nat))= .ok d:=by
 show (match Zq.atI ds (i:Nat) with | some d=>AI.ok d | none=>.bad)=_;rw[Zq.Nx h]
theorem uG{d:ab}(h:ds[i]?=some d):AQ (.tuple ds) (.int (i:Nat))= .ok d:=by
 show (match Zq.atI ds (i:Nat) with | some d=>AI.ok d | none=>.bad)=_;rw[Zq.Nx h]
theorem Gy:fL [.list ds]= .ok (.int ds.length):=rfl
theorem wF:fL [.tuple ds]= .ok (.int ds.length):=rfl
theorem P0:Dt [.list ds]= .ok (.list ds):=rfl
theorem M6:gJ [.list ds]= .ok (.tuple ds):=rfl
theorem SX{b:Bool}:oH (.bool b)= .ok (.bool b):=rfl
noncomputable def V0(Γ:Ev)(i:Nat)(k d:ab):Option ab->AI Out
 | some (.list ds)=>match k with
  | .int j=>gd (0<=j/\j<=ds.length/\ds.length<1000/\i < Γ.length) (.ok (.nx (Γ.set i (some (.list (ds.take j.toNat++d::ds.drop j.toNat))))))
  | _=>.bad
 | _=>.bad
theorem Ws:V0 Γ i (.int a) x (some (.list ds))=gd (0<=a/\a<=ds.length/\ds.length<1000/\i < Γ.length) (.ok (.nx (Γ.set i (some (.list (ds.take a.toNat++x::ds.drop a.toNat)))))):=rfl
theorem VL:Rv i m c Γ=(m Γ).bind λk=>(c Γ).bind λd=>V0 Γ i k d (gv Γ i):=by
 unfold Rv V0;congr 1;funext k;congr 1;funext d
 cases gv Γ i with
 | none=>rfl
 | some x=>cases x <;> cases k <;> rfl
noncomputable def Yu:ab->AI B4
 | .list ds=>.ok (eY ds)
 | .tuple ds=>.ok (eY ds)
 | _=>.bad
theorem Yb:Yu (.list ds)= .ok (eY ds):=rfl
theorem Bd:Yu (.tuple ds)= .ok (eY ds):=rfl
theorem Z2:itE m Γ=(m Γ).bind Yu:=by
 rfl
theorem Jf(ds:B4):(eY ds).length=ds.length:=by rw[eY,af,c9]
theorem Tu(h:(eY ds)[i]?=some x):∃d,ds[i]?=some d/\x= .tuple [.int (i:Nat),d]:=by
 unfold eY at h;rw[br] at h;rcases gu i ds.length with hi | hi
 . rw[eP hi] at h;refine ⟨ds[i],ai hi,?_⟩;have e:ab.tuple [.int (i:Nat),ds.getD i .none]=x:=Option.some.inj h;rw[<- e,ae,ai hi];rfl
 . rw[fk (by rw[c9];exact hi)] at h;cases h
theorem yU(p:ab->Bool)(F:ab->ab):∀{xs:B4},(∀x∈xs,(g x Γ).bind c= .ok (.bool (p x)))->(∀x∈xs,p x=true->(g x Γ).bind e= .ok (F x))->pC g c e Γ xs= .ok ((xs.filter p).map F)
 | [],_,_=>rfl
 | x::xs,h,h'=>by
  obtain ⟨Γ1,e1,e2⟩:=AI.au (h x b9);rw[pC,e1,AI.aQ,e2,AI.aQ];have ih:=yU p F (λy hy=>h y (cf _ hy)) (λy hy=>h' y (cf _ hy))
  cases hp:p x with
  | true=>
   have e3:=h' x b9 hp;rw[e1,AI.aQ] at e3;rw[e3,AI.aQ,ih,iP hp];rfl
  | false=>
   rw[ih,gL (by rw[hp];exact e8)]
theorem Ka(p:ab->Bool)(F:ab->ab)(hi:it Γ = .ok xs)(hz:xs.length<bE)
 (h:∀x∈xs,(g x (gh nt ix Γ)).bind c= .ok (.bool (p x))) (h':∀x∈xs,p x=true->(g x (gh nt ix Γ)).bind e= .ok (F x)):cC it g c e nt ix Γ = .ok (.list ((xs.filter p).map F)):=by
 rw[cC,hi,AI.aQ,bD hz,yU p F h h'];rfl
theorem Hx{n:Nat}(p:Nat->Bool)(F:Nat->ab)(hi:it Γ = .ok (upN n))(hz:n<bE)
 (h:∀i,i<n->(g (.int (i:Nat)) (gh nt ix Γ)).bind c= .ok (.bool (p i))) (h':∀i,i<n->p i=true->(g (.int (i:Nat)) (gh nt ix Γ)).bind e= .ok (F i)):cC it g c e nt ix Γ = .ok (.list (((List.range n).filter p).map F)):=by
 have e1:((upN n).filter (λd=>match d with | .int i=>p i.toNat | _=>false)).map (λd=>match d with | .int i=>F i.toNat | _=>.none)=((List.range n).filter p).map F:=by
  rw[upN,List.filter_map,de];have e2:((λd=>match d with | .int i=>p i.toNat | _=>false)∘λ(i:Nat)=>ab.int (i:Nat))=p:=by
   funext i;show p ((i:Nat):Int).toNat=p i;rw[cE]
  rw[e2];refine cn λi _=>?_;show F ((i:Nat):Int).toNat=F i;rw[cE]
 rw[<- e1];refine Ka _ _ hi (by rw[fj];exact hz) (λx hx=>?_) λx hx hp=>?_
 . obtain ⟨i,hi,rfl⟩:=cc.mp hx;show _=AI.ok (ab.bool (p ((i:Nat):Int).toNat));rw[cE];exact h i (dn.mp hi)
 . obtain ⟨i,hi,rfl⟩:=cc.mp hx;have hp':p ((i:Nat):Int).toNat=true:=hp;show _=AI.ok (F ((i:Nat):Int).toNat);rw[cE] at hp' ⊢;exact h' i (dn.mp hi) hp'
theorem Jz:gm "int" (.none)=false:=rfl
theorem Ky{b:Bool}:gm "int" (.bool b)=true:=rfl
theorem Ma:gm "int" (.int a)=true:=rfl
theorem Ng{x:Str}:gm "int" (.str x)=false:=rfl
theorem Iu:gm "int" (.list ds)=false:=rfl
theorem HR:gm "int" (.tuple ds)=false:=rfl
theorem Ke{ds:B0}:gm "int" (.dict ds)=false:=rfl
theorem HB:gm "bool" (.none)=false:=rfl
theorem HD{b:Bool}:gm "bool" (.bool b)=true:=rfl
theorem IW:gm "bool" (.int a)=false:=rfl
theorem La{x:Str}:gm "bool" (.str x)=false:=rfl
theorem Hz:gm "bool" (.list ds)=false:=rfl
theorem En:gm "bool" (.tuple ds)=false:=rfl
theorem HQ{ds:B0}:gm "bool" (.dict ds)=false:=rfl
theorem Gd:gm "tuple" (.none)=false:=rfl
theorem Et{b:Bool}:gm "tuple" (.bool b)=false:=rfl
theorem Hu:gm "tuple" (.int a)=false:=rfl
theorem Ho{x:Str}:gm "tuple" (.str x)=false:=rfl
theorem Gh:gm "tuple" (.list ds)=false:=rfl
theorem DP:gm "tuple" (.tuple ds)=true:=rfl
theorem Gi{ds:B0}:gm "tuple" (.dict ds)=false:=rfl
theorem Ra{f g:C8}:CK f g m e c Γ=(m Γ).bind λx=>(e Γ).bind λy=>(f x y).bind λt=>bT t ((c Γ).bind λz=>g y z) (.ok (.bool false)):=by
 rfl
theorem aam(xs:B4)(j:Nat):cutD xs none (some ((j:Nat):Int))=xs.take j:=by
 rw[cutD,HT.Yn,HT.aaQ,wa,Nat.sub_zero];rcases Nat.le_total j xs.length with h | h
 . rw[va h]
 . rw[Nat.min_eq_right h,h9 (aE _),h9 h]
theorem RN:slD (.list ds) none (some ((i:Nat):Int))= .ok (.list (ds.take i)):=by
 show AI.ok (ab.list (cutD ds none (some ((i:Nat):Int))))=_;rw[aam]
theorem uD(h:ds.length+xs.length<=bE):cJ (.list ds) (.list xs)= .ok (.list (ds++xs)):=bD h
theorem G8{α:Type}(enc:α->ab)(p:α->Bool)(F:α->ab):∀{xs:List α},(∀a∈xs,(g (enc a) Γ).bind c= .ok (.bool (p a)))->(∀a∈xs,p a=true->(g (enc a) Γ).bind e= .ok (F a))->pC g c e Γ (xs.map enc)= .ok ((xs.filter p).map F)
 | [],_,_=>rfl
 | x::xs,h,h'=>by
  obtain ⟨Γ1,e1,e2⟩:=AI.au (h x b9);rw[bo,pC,e1,AI.aQ,e2,AI.aQ];have ih:=G8 enc p F (λy hy=>h y (cf _ hy)) (λy hy=>h' y (cf _ hy))
  cases hp:p x with
  | true=>
   have e3:=h' x b9 hp;rw[e1,AI.aQ] at e3;rw[e3,AI.aQ,ih,iP hp];rfl
  | false=>
   rw[ih,gL (by rw[hp];exact e8)]
theorem qK{α:Type}{xs:List α}(enc:α->ab)(p:α->Bool)(F:α->ab)(hi:it Γ = .ok (xs.map enc))(hz:xs.length<bE)
 (h:∀a∈xs,(g (enc a) (gh nt ix Γ)).bind c= .ok (.bool (p a))) (h':∀a∈xs,p a=true->(g (enc a) (gh nt ix Γ)).bind e= .ok (F a)):cC it g c e nt ix Γ = .ok (.list ((xs.filter p).map F)):=by
 rw[cC,hi,AI.aQ,bD (by rw[af];exact hz),G8 enc p F h h'];rfl
theorem jt{α:Type}{xs:List α}(enc:α->ab)(F:α->ab)(hi:it Γ = .ok (xs.map enc))(hz:xs.length<bE)
 (h:∀a∈xs,(g (enc a) (gh nt ix Γ)).bind e= .ok (F a)):cC it g (eC (.bool true)) e nt ix Γ = .ok (.list (xs.map F)):=by
 rw[qK enc (λ_=>true) F hi hz (λa ha=>?_) λa ha _=>h a ha,List.filter_eq_self.mpr λ_ _=>rfl];obtain ⟨Γ1,e1,e2⟩:=AI.au (h a ha);rw[e1];rfl
theorem dh{α:Type}{enc:α->ab}{xs:List α}(h:(xs.map enc)[i]?=some x):∃a,xs[i]?=some a/\x=enc a:=by
 rw[br] at h
 cases e:xs[i]? with
 | none=>rw[e] at h;cases h
 | some v=>rw[e] at h;exact ⟨v,rfl,(Option.some.inj h).symm⟩
def Gives{α:Type}(r:AI α)(P:α->Prop):Prop:=∃a,r= .ok a/\P a
theorem Wv{α:Type}{a:α}{P:α->Prop}:Gives (.ok a) P↔P a:=⟨λaz=>by obtain ⟨b,e,h⟩:=az;cases e;exact h,λh=>⟨a,rfl,h⟩⟩
theorem wB{α:Type}{b:MS}{f:Out->AI α}{P:α->Prop}(I:Nat->Ev->Prop)(h0:I 0 Γ)
 (h:∀i x Γ,xs[i]?=some x->I i Γ->Goes (((g x Γ).bind b).bind (iB cl)) (I (i+1))) (k:∀Γ,I xs.length Γ->Gives (f (.nx Γ)) P):Gives ((forR g cl b xs Γ).bind f) P:=by
 obtain ⟨Γ',e,h'⟩:=KD I h0 h;rw[e];exact k Γ' h'
theorem aej{a:ab}:AQ (.tuple (a::ds)) (.int 0)= .ok a:=uG rfl
theorem aei{b:ab}:AQ (.tuple (x::b::ds)) (.int 1)= .ok b:=uG rfl
theorem acI{b c:ab}:AQ (.tuple (x::b::c::ds)) (.int 2)= .ok c:=uG rfl
noncomputable def dG(n:Nat)(b:Int):ab:=.tuple [.int (n:Nat),.int b]
noncomputable def dL(ns:B3):ab:=.list (ns.map ab.int)
theorem ix0:AQ (dG i b) (.int 0)= .ok (.int (i:Nat)):=rfl
theorem ix1:AQ (dG i b) (.int 1)= .ok (.int b):=rfl
theorem Zz:fL [dL ns]= .ok (.int ns.length):=by rw[dL,Gy,af]
theorem aap:Az (dL ns)= .ok (ns.map ab.int):=rfl
theorem Uy{b:B3}:eqD (dL ns) (dL b)= .ok (.bool (decide (ns=b))):=Ss
theorem oh:plain (dG i b)=true:=M8 [i,b]
theorem Bg:(dG i b).depth<=64:=Ba [i,b]
theorem acF{m:Nat}(z:dG i a=dG m b):i=m/\a=b:=by
 injection z with z;injection z with z1 z2;injection z2 with z3 z4;injection z1 with z5;injection z3 with z6;exact ⟨by lia,z6⟩
theorem Ja{m:Nat}:eqD (dG i a) (dG m b)= .ok (.bool (decide (i=m/\a=b))):=by
 have h:=uE (a:=dG i a) (b:=dG m b) oh oh Bg Bg
 by_cases e:i=m/\a=b
 . obtain ⟨rfl,rfl⟩:=e;rw[h.1.mpr rfl];simp
 . rw[h.2.1.mpr λz=>e (acF z)];simp[e]
theorem qJ{α:Type}{b:MS}{d:ab}(enc:α->ab)(p:α->Bool):∀{xs:List α},(∀a∈xs,((g (enc a) Γ).bind b).bind (iB cl)=if p a=true then .ok (.rt d) else .ok (.nx Γ)) ->
 forR g cl b (xs.map enc) Γ=if xs.any p=true then .ok (.rt d) else .ok (.nx Γ)
 | [],_=>rfl
 | x::xs,h=>by
  have h1:=h x b9;have ih:=qJ enc p λy hy=>h y (cf _ hy);rw[bo]
  cases hp:p x with
  | true=>
   rw[if_pos hp] at h1;obtain ⟨o,h2,h3⟩:=AI.au h1;obtain ⟨Γ1,h4,h5⟩:=AI.au h2;rw[kC,hp,AA,if_pos rfl,forR,h4,AI.aQ,h5,AI.aQ];cases o <;> cases h3;rfl
  | false=>
   rw[if_neg (by rw[hp];exact e8)] at h1;rw[zQ h1,ih,kC,hp,xi]
noncomputable def rtM(d:ab):Option ab->AI Out
 | some dm=>.ok (.rt (.tuple [d,dm]))
 | none=>.bad
variable {dm:ab}
theorem Z7:rtM x (some dm)= .ok (.rt (.tuple [x,dm])):=rfl
theorem RX:Dd i m Γ=(m Γ).bind λd=>rtM d (gv Γ i):=by
 rfl
noncomputable def stM(Γ:Ev)(x i:Nat)(r:ab):AI Out:=match nY r with
 | some (d,dm)=>gd (x < Γ.length) (.ok (.nx ((Γ.set i (some dm)).set x (some d))))
 | none=>.bad
theorem abb:stM Γ nt i (.tuple [x,dm])=gd (nt < Γ.length) (.ok (.nx ((Γ.set i (some dm)).set nt (some x)))):=rfl
theorem U6{f:B4->AI ab}:Cj nt i f ms Γ=(evs ms Γ).bind λds=>(f ds).bind (stM Γ nt i):=rfl
noncomputable def apM(Γ:Ev)(k i:Nat)(o:Option ab)(r:ab):AI Out:=match nY r,o with
 | some (d,dm),some (.list es)=>gd (es.length<bE) (.ok (.nx ((Γ.set i (some dm)).set k (some (.list (es++[d]))))))
 | _,_=>.bad
theorem Zu:apM Γ nt i (some (.list ds)) (.tuple [x,dm])=gd (ds.length<bE) (.ok (.nx ((Γ.set i (some dm)).set nt (some (.list (ds++[x])))))):=rfl
theorem TF{f:B4->AI ab}:Im nt i f ms Γ=(evs ms Γ).bind λds=>(f ds).bind (apM Γ nt i (gv Γ nt)):=rfl
theorem abG:lrD (.int a)=gd (-(2^20)<=a/\a<=2^20) (.ok (.list (upN a.toNat))):=rfl
end Zq
set_option hygiene false in
local macro_rules | `(tactic| ext)=>`(tactic| simp (config:={ decide:=true,implicitDefEqProofs:=false }) only[Zq.Oq,Zq.ZS,Zq.gF,Zq.lB,Zq.aaz,Zq.Zo,Zq.W5,Zq.Bc,Zq.NB,Zq.Xb,Zq.V4,Zq.XF,Zq.Xl,Zq.Yj,Zq.VL,Zq.Ws,Zq.RX,Zq.Z7,Zq.U6,Zq.abb,Zq.TF,Zq.Zu,Zq.abG,Zq.Z2,Zq.Yb,Zq.aar,Zq.abm,Zq.Tp,Zq.R7,Zq.Ci,Zq.Lf,Zq.aaa,Zq.aaW,Zq.mQ,Zq.aaE,Zq.Br,Zq.X5,Zq.Yk,Zq.Ww,Zq.aad,Zq.Wb,Zq.aa1,Zq.Xu,Zq.Ra,Zq.RN,Zq.Jz,Zq.Ky,Zq.Ma,Zq.Ng,Zq.Iu,Zq.HR,Zq.Ke,Zq.HB,Zq.HD,Zq.IW,Zq.La,Zq.Hz,Zq.En,Zq.HQ,Zq.Gd,Zq.Et,Zq.Hu,Zq.Ho,Zq.Gh,Zq.DP,Zq.Gi,Zq.Wt,Zq.aa9,Zq.S9,Zq.Vl,Zq.Xw,Zq.Pr,Zq.Wh,Zq.aav,Zq.Tq,Zq.Rb,Zq.Ca,Zq.acL,Zq.aaD,Zq.Xf,Zq.Zn,Zq.abx,Zq.ZR,Zq.aak,Zq.Wv,Zq.Xk,Zq.Qd,Zq.AI.aQ,Zq.AI.bind_assoc,Zq.adA,Zq.aae,Zq.aaB,Zq.Wn,Zq.Og,Zq.Lx,Zq.VG,Zq.Wm,Zq.Wf,Zq.Vn,Zq.Yc,Zq.XJ,Zq.X3,Zq.VR,Zq.aat,Zq.aan,Zq.aaF,Zq.abd,Zq.abe,Zq.aaO,Zq.aej,Zq.aei,Zq.acI,Zq.ix0,Zq.ix1,Zq.Zz,Zq.aap,Zq.Uy,Zq.Ja,Zq.Gy,Zq.wF,Zq.P0,Zq.M6,Zq.SX,decide_false,decide_true,if_true,if_false,Bool.not_true,Bool.not_false,and_true,true_and,bo,ft,a9,lS,af,c9,fo,l7,gE,fi,List.set_cons_zero,List.set_cons_succ,Nat.reduceSub,Nat.reduceAdd,AC])
set_option hygiene false in
local macro_rules | `(tactic| walk_at "gd")=>`(tactic| (rw[Zq.bD (by first | omega (config:={}) | (unfold Zq.rK;omega (config:={})) | (unfold Zq.Em;omega (config:={})) | (unfold Zq.Gb;omega (config:={})) | (simp (config:={ decide:=true }) only[Zq.sizeLine_eq,av,af,c9,c8,nV,a9,lS];omega (config:={})))]))
set_option hygiene false in
local macro_rules | `(tactic| walk_at "go")=>`(tactic| (repeat (first | ext | walk_at "gd")))
namespace Zq
open PySem PySem.Spec PyProof.Rows
theorem Zm{a p:Int}(hp:0<=p):CV [.int a,.int p]= .ok (.int (ak a p)):=by
 unfold CV;ext;rw[bD hp];ext;rw[ja];rfl
variable {xs:B3}
theorem Mz:pD [dL xs]= .ok (.int (bj xs)):=by
 unfold pD dL;ext;refine bL (λi=>[some (.list (xs.map ab.int)),some (.int ((xs.reverse.take i).foldl (λn f=>2*n+f) 0)),none]) rfl (λi x hx=>?_) ?_
 rotate_left
 . ext;rw[nL,af,<- nL,eD,VB]
 . rw[<- List.map_reverse] at hx;obtain ⟨v,rfl,hv⟩:=ints_get hx;ext;rw[bD (.inl ⟨by decide,by decide⟩)];ext;rw[ow,hv,fS];rfl
theorem uU{n:Nat}(hn:n<=100):jP [.int (n:Nat)]= .ok (.int (2^n)):=by
 unfold jP;ext;rw[dD (by lia)];ext;refine bL (λi=>[some (.int n),some (.int (2^i)),none]) rfl (λi x hx=>?_) ?_
 . obtain ⟨_,rfl⟩:=jQ hx;ext;rw[bD (.inl ⟨by decide,by decide⟩)];ext;rw[show (2:Int)*2^i=2^(i+1) by rw[la,sf]]
 . rw[fj];ext
theorem xu{n:Nat}(hn:n<=4):jJ [.int (n:Nat)]= .ok (.int (2^2^n)):=by
 unfold jJ;ext;rw[dD (by lia)];ext;refine bL (λi=>[some (.int n),some (.int (2^2^i)),none]) rfl (λi x hx=>?_) ?_
 . obtain ⟨hi,rfl⟩:=jQ hx;ext;have hb:(2:Int)^2^i<=65536/\0<(2:Int)^2^i:=by
    have:i=0\/i=1\/i=2\/i=3:=by lia
    rcases this with rfl | rfl | rfl | rfl <;> decide
   rw[bD (.inl ⟨by lia,by lia⟩)];ext;rw[show (2:Int)^2^i*2^2^i=2^2^(i+1) by rw[<- Int.pow_add,vi];congr 1;lia]
 . rw[fj];ext
theorem g8{n:Nat}(hn:n<=4):il [.int (n:Nat)]= .ok (.int (2^2^n - 1)):=by
 unfold il;ext;rw[xu hn];ext
theorem yK{n:Nat}(h:n<=4):2^n<=16:=by
 have:n=0\/n=1\/n=2\/n=3\/n=4:=by lia
 rcases this with rfl | rfl | rfl | rfl | rfl <;> decide
theorem KQ{n:Nat}(h:n<=4):Ri (.int (2^n))= .ok (upN (2^n)):=by
 have e:((2:Int)^n)=(((2^n:Nat)):Int):=by simp
 have:=yK h;rw[e,dD (by lia)]
theorem KH{n:Nat}(h:n<=4):2^n<bE:=by
 have:=yK h;exact ki this (by decide)
theorem AW{n:Nat}(h:n<=100000):n<bE:=ki h (by decide)
theorem qZ{n:Nat}{f:Nat->Int}:(List.range n).map (λi=>ab.int (f i))=((List.range n).map f).map ab.int:=by rw[de];rfl
variable {j:Nat}
theorem Hw{n:Nat}(hn:n<=4):mq [.int (n:Nat),.int (j:Nat)]= .ok (.int (ir n j)):=by
 unfold mq;ext;rw[mW (λi=>.int (ak i j)) ?_ (KH hn) λi _=>?_]
 . ext;rw[qZ];exact (congrArg (λr=>r.bind λd=>AI.ok d) (Mz)).trans rfl
 . ext;rw[uU (by lia)];ext;exact KQ hn
 . ext;rw[Zm (by lia)]
theorem vH{n:Nat}(hn:n<=4):jm [.int (n:Nat)]= .ok (dL ((List.range n).map λj=>ir n j)):=by
 unfold jm;ext;rw[mW (n:=n) (λj=>.int (ir n j)) ?_ (AW (by lia)) λi _=>?_]
 . ext;rw[qZ];rfl
 . ext;exact dD (by lia)
 . ext;rw[Hw hn]
theorem uR(x y:Int):ia x y / 2=ia (x / 2) (y / 2)/\ia x y % 2=(x % 2)*(y % 2):=by
 have h:=PySem.W.kbt_halves x y;have hx:x % 2=0\/x % 2=1:=by lia
 have hy:y % 2=0\/y % 2=1:=by lia
 rcases hx with hx | hx <;> rcases hy with hy | hy <;> simp only[hy] at h ⊢ <;> (try simp at h) <;> lia
theorem pq(x:Int):ib x / 2=ib (x / 2)/\ib x % 2=1 - x % 2:=by
 unfold ib;lia
theorem Ry(x y:Int):k8 x y / 2=k8 (x / 2) (y / 2)/\k8 x y % 2=1 - (1 - x % 2)*(1 - y % 2):=by
 unfold k8;obtain ⟨a1,a2⟩:=pq (ia (ib x) (ib y));obtain ⟨b1,b2⟩:=uR (ib x) (ib y);obtain ⟨c1,c2⟩:=pq x;obtain ⟨d1,d2⟩:=pq y;rw[a1,a2,b1,b2,c1,c2,d1,d2];exact ⟨rfl,rfl⟩
noncomputable def xH(x y t:Int):Int:=k8 (ia x (ib t)) (ia y t)
theorem Qs(x y t:Int):xH x y t / 2=xH (x / 2) (y / 2) (t / 2)/\xH x y t % 2=if t % 2=1 then y % 2 else x % 2:=by
 unfold xH;obtain ⟨a1,a2⟩:=Ry (ia x (ib t)) (ia y t);obtain ⟨b1,b2⟩:=uR x (ib t);obtain ⟨c1,c2⟩:=uR y t;obtain ⟨d1,d2⟩:=pq t;rw[a1,a2,b1,b2,c1,c2,d1,d2];refine ⟨rfl,?_⟩;have ht:t % 2=0\/t % 2=1:=by lia
 rcases ht with ht | ht <;> rw[ht] <;> simp <;> lia
theorem G3(x:Int):ia 0 x=0:=by
 have:=PySem.W.kbt_mask' x 0;simpa using this
variable {W:Nat}
theorem wW{f:Nat->Int}:tab (W+1) f=2*tab W (λr=>f (r+1))+f 0:=by
 rw[tab,yB,bo,cV,de];rfl
theorem O5{f g:Nat->Int}(t:Int)(hf:∀r,f r=0\/f r=1)(hg:∀r,g r=0\/g r=1):∀W:Nat,xH (tab W f) (tab W g) t=tab W λr=>if ak t (r:Nat)=1 then g r else f r
 | 0=>by
  show xH 0 0 t=0;rw[xH,G3,G3];rfl
 | W+1=>by
  have ih:=O5 (f:=λr=>f (r+1)) (g:=λr=>g (r+1)) (t / 2) (λr=>hf (r+1)) (λr=>hg (r+1)) W;rw[wW,wW,wW];have f0:=hf 0;have g0:=hg 0;obtain ⟨h1,h2⟩:=Qs (2*tab W (λr=>f (r+1))+f 0) (2*tab W (λr=>g (r+1))+g 0) t;rw[show (2*tab W (λr=>f (r+1))+f 0) / 2=tab W (λr=>f (r+1)) by lia,show (2*tab W (λr=>g (r+1))+g 0) / 2=tab W (λr=>g (r+1)) by lia,ih] at h1;rw[show (2*tab W (λr=>f (r+1))+f 0) % 2=f 0 by lia,show (2*tab W (λr=>g (r+1))+g 0) % 2=g 0 by lia] at h2;have e:(λr:Nat=>if ak t ((r+1:Nat):Int)=1 then g (r+1) else f (r+1))=λr:Nat=>if ak (t / 2) (r:Nat)=1 then g (r+1) else f (r+1):=by
   funext r;rw[uA]
  rw[e,show ak t ((0:Nat):Int)=t % 2 from uz t];lia
theorem mU(c:Int):∀W:Nat,tab W (λ_=>c)=(2^W - 1)*c
 | 0=>by simp[tab,bj]
 | W+1=>by
  rw[wW,mU c W,la];have:(2^W*2 - 1)*c=2*((2^W - 1)*c)+c:=by
   rw[Int.sub_mul,Int.sub_mul,Int.mul_sub,pS,Int.mul_left_comm (2^W) 2 c];lia
  rw[this]
variable {x:Int}
theorem m8(h0:0<=x)(h1:x<4000):ox x=true:=by
 rw[ox,decide_eq_true (show -(2^63)<=x by lia),decide_eq_true (show x<2^63 by lia)];rfl
theorem Wr(h:j<1000):Gk (.int 0) (.int ((2*j:Nat):Int)) (.int 2)= .ok ((List.range j).map λ(k:Nat)=>ab.int (((2*k:Nat)):Int)):=by
 have e:dA 0 ((2*j:Nat):Int) 2=(j:Nat):=by
  rw[dA,if_pos (by decide)];split <;> lia
 have hs:Builtin.Range.small 0 ((2*j:Nat):Int) 2=true:=by
  rw[Builtin.Range.small,e,m8 (by decide) (by decide),m8 (by lia) (by lia),m8 (by decide) (by decide),m8 (by lia) (by lia),if_pos (by decide),m8 (by lia) (by lia),Bool.or_true];rfl
 have e2:Gk (.int 0) (.int ((2*j:Nat):Int)) (.int 2)=gd ((2:Int)≠0/\(2:Int).natAbs<1073741824/\Builtin.Range.small 0 ((2*j:Nat):Int) 2=true/\0<=dA 0 ((2*j:Nat):Int) 2) (.ok ((List.range (dA 0 ((2*j:Nat):Int) 2).toNat).map λk=>ab.int (0+(k:Nat)*2))):=rfl;have c3:(2:Int)≠0/\(2:Int).natAbs<1073741824/\Builtin.Range.small 0 ((2*j:Nat):Int) 2=true/\0<=dA 0 ((2*j:Nat):Int) 2:=⟨by lia,by lia,hs,by rw[e];lia⟩;refine e2.trans ((bD c3).trans ?_);rw[e,cE];refine congrArg AI.ok (cn λk _=>congrArg ab.int ?_);lia
noncomputable def Ir(W N:Nat)(F:Int->Nat->Int):B3:=(List.range N).map λp=>tab W (F (p:Nat))
variable {p:Nat}
theorem Ff{F:Int->Nat->Int}(h:p<j):((Ir W j F).map ab.int)[p]?=some (.int (tab W (F (p:Nat)))):=by
 rw[Ir,de,br,eP h];rfl
noncomputable def HY(t:Int)(F:Int->Nat->Int):Int->Nat->Int:=λp r=>F (2*p+ak t (r:Nat)) r
noncomputable def lG:B3->(Int->Nat->Int)->Int->Nat->Int
 | [],F=>F
 | t::ts,F=>lG ts (HY t F)
theorem Ju:∀{ts:B3}{F:Int->Nat->Int},(∀p r,F p r=0\/F p r=1)->∀p r,lG ts F p r=0\/lG ts F p r=1
 | [],F,h=>h
 | t::ts,F,h=>Ju (ts:=ts) λp r=>h _ r
theorem Dp:∀{ts:B3}{t:Int}{F:Int->Nat->Int},lG (ts++[t]) F=HY t (lG ts F)
 | [],t,F=>rfl
 | u::ts,t,F=>Dp (ts:=ts)
theorem JT:∀{ts:B3}{F:Int->Nat->Int}{p:Int}{r:Nat},lG ts F p r=F (2^ts.length*p+bj (ts.map λt=>ak t (r:Nat))) r
 | [],F,p,r=>by show F p r=F (2^0*p+0) r;simp
 | t::ts,F,p,r=>by
  show lG ts (HY t F) p r=_;rw[JT];rw[HY,bo,cV,a9,la];congr 1;rw[sf (2^ts.length) 2,pS];lia
variable {m:Nat}{b:Int}{ts:B3}
theorem GK(hl:ts.length=m)(hm:m<=4):pR [dG m b,dL ts,.int (2^W - 1)]= .ok (.int (tab W λr=>ak b (bj (ts.map λt=>ak t (r:Nat))))):=by
 have hp:=λi=>by have:=yK (n:=m - i) (by lia);lia
 unfold pR;ext;rw[mW (λp=>.int (tab W λ_=>ak b p)) ?_ (KH hm) λi _=>?_]
 rotate_left
 . ext;rw[uU (by lia)];ext;exact KQ hm
 . ext;rw[Zm (by lia)];ext;have cm:rK (2^W - 1) (ak b (i:Nat)):=.inr ⟨by have:=Nu b i;lia,by have:=aa2 b i;lia⟩;rw[bD cm,mU]
 ext;rw[qZ];refine bL (λi=>[some (dG m b),some (dL ts),some (.int (2^W - 1)),some (dL (Ir W (2^(m - i)) (lG (ts.take i) λp r=>ak b p))),none]) rfl (λi x hx=>?_) ?_
 rotate_left
 . rw[af,hl,kL,<- hl,eD];unfold dL;ext;rw[show (ab.int 0)= .int ((0:Nat):Int) from rfl,jc (Ff (by decide))];ext;congr 2;refine eO λr hr=>?_;rw[JT];congr 1;simp
 . obtain ⟨t,rfl,ht⟩:=ints_get hx;have hi:=(aS.mp ht).1;have e2:2^(m - i)=2*2^(m - (i+1)):=by rw[show m - i=(m - (i+1))+1 by lia,vi];lia
   have p16:=hp (i+1);have F01:∀p r,lG (ts.take i) (λp r=>ak b p) p r=0\/lG (ts.take i) (λp r=>ak b p) p r=1:=Ju λp r=>aP b p;ext;rw[jt (xs:=List.range (2^(m - (i+1)))) (λk=>.int ((2*k:Nat):Int)) (λk=>.int (tab W (lG (ts.take (i+1)) (λp r=>ak b p) k))) ?_ (AW (by rw[c9];lia)) λk hk=>?_]
   . ext;rw[qZ];rfl
   . unfold Bs;ext;rw[show (Ir W (2^(m - i)) (lG (ts.take i) λp r=>ak b p)).length=2*2^(m - (i+1)) by rw[Ir,af,c9,e2]];exact Wr (by lia)
   . have hk':=dn.mp hk;unfold dL;ext;rw[jc (Ff (by lia)),show ((2*k:Nat):Int)+1=((2*k+1:Nat):Int) by lia,jc (Ff (by lia))];ext;show AI.ok (ab.int (xH (tab W _) (tab W _) t))=_;rw[O5 t (F01 _) (F01 _)];congr 2;refine eO λr hr=>?_;rw[ow,ht];show _=lG (ts.take i++[t]) _ _ _;rw[Dp];rcases aP t r with h | h <;> rw[h]
     . rw[if_neg (by decide)];congr 1 <;> lia
     . rw[if_pos rfl];congr 1 <;> lia
theorem Ia(hl:ts.length=m)(hm:m<=4)(hn:j<=4):pA [dG m b,dL ts,.int (j:Nat)]= .ok (.int (cA b ts j)):=by
 unfold pA;ext;rw[g8 hn];ext;rw[GK hl hm];rfl
theorem Cv{n:Nat}(hn3:n<=3)(hj:j<=n)(hw:x=0\/x=1):jy [dG (n+1) b,.int (j:Nat),.int x]= .ok (dG n (eF n b j x)):=by
 have hn:n<=4:=by lia
 unfold jy;ext;have e1:(((n+1:Nat):Nat):Int) - 1=(n:Nat):=by lia
 rw[e1,vH hn];unfold dL;ext;have ins:∀t:Int,((((List.range n).map λj=>ir n j).map ab.int).take ((j:Nat):Int).toNat++ab.int t::(((List.range n).map λj=>ir n j).map ab.int).drop ((j:Nat):Int).toNat)=(lA j t ((List.range n).map λj=>ir n j)).map ab.int:=λt=>by
  rw[lA,cE,a7,zD,bo,List.map_drop]
 have len:(((List.range n).map λj=>ir n j).map ab.int).length=n:=by simp
 have fin:∀t:Int,pA [dG (n+1) b,.list ((lA j t ((List.range n).map λj=>ir n j)).map ab.int),.int (n:Nat)]= .ok (.int (cA b (lA j t ((List.range n).map λj=>ir n j)) n)):=λt=>
  Ia (by rw[Kw (by simpa using hj)];simp) (by lia) hn
 rcases hw with rfl | rfl
 . ext;walk_at "gd";ext;rw[ins,fin];rfl
 . ext;rw[g8 hn];ext;walk_at "gd";ext;rw[ins,fin];rfl
theorem beyond(h:j<=4):AQ (.list [.int 2,.int 4,.int 16,.int 256,.int 65536]) (.int (j:Nat))= .ok (.int (2^2^j)):=by
 have:j=0\/j=1\/j=2\/j=3\/j=4:=by lia
 rcases this with rfl | rfl | rfl | rfl | rfl <;> rfl
theorem Ex(a:Int){m:Int}(h:0<m):∃n:Nat,a % m=(n:Nat)/\(n:Int)<m:=
 ⟨(a % m).toNat,by have:=kQ a (show m≠0 by lia);lia,by have:=kx a h;have:=kQ a (show m≠0 by lia);lia⟩
structure aF where
 m:Nat
 b:Int
 ws:B5
noncomputable def dN(ks:B5):B4:=ks.map λk=>ab.int (k:Nat)
noncomputable def aF.d(s:aF):ab:=.tuple [dG s.m s.b,.tuple (dN s.ws)]
structure aF.Ok (t:Nat) (s:aF):Prop where
 m4:s.m<=4
 len:s.ws.length=s.m
 lt:∀k∈s.ws,k<t
 b0:0<=s.b
 b1:s.b<2^2^s.m
def aV(n:Nat)(ss:List aF):Prop:=∀(i:Nat) (s:aF),ss[i]?=some s->s.Ok (n+i)
noncomputable def dC(n:Nat)(ss:List aF)(o:Nat):ab:=.tuple [.int (n:Nat),.tuple (ss.map aF.d),.int (o:Nat)]
noncomputable def stepV(vs:B3)(s:aF):B3:=vs++[ak s.b (bj (s.ws.map λk=>vs.getD k 0))]
noncomputable def b8(n:Nat)(ss:List aF)(r:Nat):B3:=ss.foldl stepV (bA n r)
variable {ss:List aF}{s:aF}{r:Nat}
theorem iK:b8 j (ss++[s]) r=stepV (b8 j ss r) s:=by rw[b8,fS];rfl
theorem snoc_ind{α:Type}{P:List α->Prop}(h0:P [])(h:∀l a,P l->P (l++[a]))(l:List α):P l:=by
 have:∀k:Nat,∀l:List α,l.length=k->P l:=by
  intro k
  induction k with
  | zero=>intro l hl;rw[ly.mp hl];exact h0
  | succ k ih=>
   intro l hl;have hne:l≠[]:=λz=>by rw[z] at hl;cases hl
   rw[<- uu hne];exact h _ _ (ih _ (by rw[List.length_dropLast,hl];rfl))
 exact this _ l rfl
theorem eX{n:Nat}:(b8 n ss r).length=n+ss.length:=by
 induction ss using snoc_ind with
 | h0=>unfold b8;simp[bI]
 | h l a ih=>rw[iK];rw[stepV,av,ih,av];simp;lia
theorem N6{n:Nat}:bW (b8 n ss r):=by
 induction ss using snoc_ind with
 | h0=>exact bW.bA
 | h l a ih=>
  rw[iK];unfold stepV;intro x hx;rcases cK.mp hx with z | z
  . exact ih x z
  . rw[ay.mp z];exact aP _ _
theorem zL(h:bW xs)(k:Nat):xs.getD k 0=0\/xs.getD k 0=1:=by
 rw[ae]
 cases e:xs[k]? with
 | none=>exact .inl rfl
 | some x=>exact h x (eL e)
theorem aV.nil:aV j []:=λi s h=>by cases h
theorem aV.snoc(h:aV j ss)(hs:s.Ok (j+ss.length)):aV j (ss++[s]):=λi t ht=>by
 rcases gu i ss.length with hi | hi
 . rw[cq hi] at ht;exact h i t ht
 . rw[bX hi] at ht;have:=by
    have:=(aS.mp ht).1;simp at this;lia
   rw[this] at ht;have e:=Option.some.inj ht;subst e;rw[show i=ss.length by lia];exact hs
theorem vg(h:j<ts.length):AQ (dL ts) (.int (j:Nat))= .ok (.int (ts.getD j 0)):=by
 refine jc ?_;rw[br,ae,ai h];rfl
variable {i:Nat}
theorem nR(h:ss[i]?=some s):ss.take (i+1)=ss.take i++[s]:=by
 rw[ow,h];rfl
theorem yo:Fe [.list (xs.map ab.int)]= .ok (.int xs.sum):=by
 show (match intsOf (xs.map ab.int) with | some ns=>AI.ok (ab.int ns.sum) | none=>.bad)=_;rw[wL]
theorem QQ:∀(xs:B3),((List.range xs.length).map λi=>xs.getD i 0*2^i).sum=bj xs:=by
 intro xs
 induction xs using snoc_ind with
 | h0=>rfl
 | h l a ih=>
  rw[av,cx,lT,a7,qh,yz,<- ih];congr 1
  . congr 1;refine cn λi hi=>?_;rw[ae,ae,cq (dn.mp hi)]
  . show List.sum [(l++[a]).getD l.length 0*2^l.length]=_;rw[ae,bX (aE _),kL];show a*2^l.length+0=_;rw[Int.add_zero,sf]
theorem abH(b:Int)(k:Nat):ia (b / 2^k) 1=ak b (k:Nat):=by
 rw[ja];rw[ak,cE]
theorem Aq:∀{ds:B4},(∀d∈ds,d.depth<=j)->lP ds<=j
 | [],_=>by rw[lP];exact kN _
 | d::ds,h=>by
  rw[lP];exact Nat.max_le.mpr ⟨h d b9,Aq λe he=>h e (cf _ he)⟩
variable {ds:B4}
theorem xP{k:Nat}(h:∀d∈ds,d.depth<=k):(ab.tuple ds).depth<=k+1:=by
 rw[ab.depth];have:=Aq h;lia
theorem GJ(h:∀d∈ds,plain d=true):iV ds=true:=by
 induction ds with
 | nil=>rw[iV]
 | cons d ds ih=>rw[iV,h d b9,ih λe he=>h e (cf _ he)];rfl
theorem Ur(h:∀d∈ds,plain d=true):plain (.tuple ds)=true:=by rw[Zq.plain];exact GJ h
theorem aau:plain (.int x)=true:=by rw[Zq.plain]
theorem Eg:(ab.int x).depth<=0:=by rw[ab.depth];exact aE _
theorem R8:(dG j b).depth<=1:=xP λd hd=>by
 rcases cp.mp hd with rfl | hd
 . exact Eg
 . rw[ay.mp hd];exact Eg
variable {o:Nat}
theorem Ql:AQ (dC j ss o) (.int 0)= .ok (.int (j:Nat)):=rfl
theorem J5:AQ (dC j ss o) (.int 1)= .ok (.tuple (ss.map aF.d)):=rfl
theorem Qh:AQ (dC j ss o) (.int 2)= .ok (.int (o:Nat)):=rfl
theorem xQ(xs:B3):bj (tL xs)=2^xs.length - 1 - bj xs:=by
 induction xs with
 | nil=>rfl
 | cons x xs ih=>
  show bj ((1 - x)::tL xs)=_;rw[cV,ih,cV,a9,la];lia
theorem aV.init(h:aV j (ss++[s])):aV j ss/\s.Ok (j+ss.length):=by
 refine ⟨λi t e=>h i t ?_,h ss.length s ?_⟩
 . rw[cq (aS.mp e).1];exact e
 . rw[bX (aE _),kL];rfl
noncomputable def JM:ab->Bool
 | .int _=>true
 | _=>false
noncomputable def gw(d:ab)(b:Int):Bool:=match d with
 | .int i=>decide (0<=i)&&decide (i<b)
 | _=>false
noncomputable def uX(d:ab)(n:Int):Bool:=match d with
 | .tuple ds=>decide ((ds.length:Int)=n)
 | _=>false
noncomputable def afy(a b:ab):Bool:=match a with
 | .int i=>match b with
  | .int j=>decide (0<=i/\i<5/\0<=j/\j<2^2^i.toNat)
  | _=>false
 | _=>false
noncomputable def zR:ab->Bool
 | .tuple [a,b]=>afy a b
 | _=>false
theorem QC(d:ab):fZ [d]= .ok (.bool (JM d)):=by
 unfold fZ;cases d <;> ext <;> rfl
theorem aaM{a b:Bool}:(if a=true then AI.ok (ab.bool b) else .ok (.bool false))= .ok (.bool (a&&b)):=by cases a <;> rfl
theorem nM(d:ab)(b:Int):iJ [d,.int b]= .ok (.bool (gw d b)):=by
 unfold iJ;ext;rw[QC]
 cases d with
 | int i=>
  unfold JM gw;ext;rw[JS,aaM];ext
 | _=>unfold JM gw;ext
theorem qF(d:ab)(n:Int):jz [d,.int n]= .ok (.bool (uX d n)):=by
 unfold jz
 cases d with
 | tuple ds=>unfold uX;ext
 | _=>unfold uX;ext
theorem Sx(d:ab):ur [d]= .ok (.bool (zR d)):=by
 unfold ur;ext;rw[qF]
 cases d with
 | tuple ds=>
  match ds with
  | []=>rfl
  | [a]=>rfl
  | a::b::c::r=>
   have e:uX (.tuple (a::b::c::r)) 2=false:=by
    show decide (((a::b::c::r).length:Int)=2)=false;refine decide_eq_false ?_;simp only[a9];lia
   rw[e];rfl
  | [a,b]=>
   have e:uX (.tuple [a,b]) 2=true:=rfl;rw[e];ext;rw[nM]
   cases a with
   | int i=>
    by_cases hi:0<=i/\i<5
    . obtain ⟨n,rfl⟩:∃n:Nat,i=n:=⟨i.toNat,by lia⟩;have e2:gw (.int (n:Nat)) 5=true:=by unfold gw;simp;lia
      have e3:gw (.int (n:Nat)) (4+1)=true:=e2;simp only[e3];ext;rw[xu (by lia)];ext;rw[nM];ext
      cases b with
      | int j=>
       show AI.ok (ab.bool (decide (0<=j)&&decide (j<2^2^n)))=AI.ok (ab.bool (decide (0<=((n:Nat):Int)/\((n:Nat):Int)<5/\0<=j/\j<2^2^((n:Nat):Int).toNat)));rw[cE];congr 2;rw[<- Bool.decide_and];exact decide_eq_decide.mpr ⟨λh=>⟨hi.1,hi.2,h⟩,λh=>h.2.2⟩
      | _=>rfl
    . have e2:=by
       show (decide (0<=i)&&decide (i<5))=false;rw[<- Bool.decide_and];exact decide_eq_false hi
      have e3:gw (.int i) (4+1)=false:=e2;simp only[e3];ext
      cases b with
      | int j=>
       show _=AI.ok (ab.bool (decide (0<=i/\i<5/\0<=j/\j<2^2^i.toNat)));rw[decide_eq_false λh=>hi ⟨h.1,h.2.1⟩]
      | _=>rfl
   | _=>
    rfl
 | _=>rfl
noncomputable def Lq(ws:ab)(m t:Int):Bool:=match ws with
 | .tuple ds=>decide ((ds.length:Int)=m)&&ds.all λd=>gw d t
 | _=>false
noncomputable def Qa:ab->Int
 | .tuple (.int i::_)=>i
 | _=>0
noncomputable def pg(d:ab)(t:Int):Bool:=match d with
 | .tuple [g,ws]=>zR g&&Lq ws (Qa g) t
 | _=>false
theorem Ys{g:ab}(h:zR g=true):∃(n:Nat) (b:Int),g=dG n b/\n<=4:=by
 cases g with
 | tuple ds=>
  match ds with
  | []=>cases h
  | [a]=>cases h
  | a::b::c::r=>cases h
  | [a,b]=>
   cases a with
   | int i=>
    cases b with
    | int j=>
     have h:=h;have h:=of_decide_eq_true h;exact ⟨i.toNat,j,by rw[dG,pf h.1],by lia⟩
    | _=>cases h
   | _=>cases h
 | _=>cases h
theorem RC{α:Type}{xs:List α}{f:α->Bool}:XX [.list (xs.map λa=>ab.bool (f a))]= .ok (.bool (xs.all f)):=by
 show (match boolsOf (xs.map λa=>ab.bool (f a)) with | some bs=>AI.ok (ab.bool (bs.all id)) | none=>.bad)=_;rw[show xs.map (λa=>ab.bool (f a))=(xs.map f).map ab.bool by rw[de];rfl,Mq];show AI.ok (ab.bool ((xs.map f).all id))=_;rw[List.all_map];rfl
theorem Te(d:ab)(t:Int):t6 [d,.int t]= .ok (.bool (pg d t)):=by
 unfold t6;ext;rw[qF]
 cases d with
 | tuple ds=>
  match ds with
  | []=>rfl
  | [a]=>rfl
  | a::b::c::r=>
   have e:uX (.tuple (a::b::c::r)) 2=false:=by
    show decide (((a::b::c::r).length:Int)=2)=false;refine decide_eq_false ?_;simp only[a9];lia
   rw[e];rfl
  | [g,ws]=>
   have e:uX (.tuple [g,ws]) 2=true:=rfl;rw[e];ext;rw[Sx];show _=AI.ok (ab.bool (zR g&&Lq ws (Qa g) t))
   cases hg:zR g with
   | false=>rfl
   | true=>
    obtain ⟨n,b,rfl,hn⟩:=Ys hg;ext;rw[qF,show Qa (dG n b)=(n:Nat) from rfl]
    cases ws with
    | tuple ds=>
     show _=AI.ok (ab.bool (true&&(decide ((ds.length:Int)=(n:Nat))&&ds.all λd=>gw d t)));unfold uX
     by_cases hl:(ds.length:Int)=n
     . rw[show (match ab.tuple ds with | .tuple ds=>decide ((ds.length:Int)=(n:Nat)) | _=>false)=true from decide_eq_true hl,decide_eq_true hl];ext;rw[yl (xs:=ds) (λd=>.bool (gw d t)) ?_ (AW (by lia)) λx _=>?_]
       . ext;rw[RC];rfl
       . ext
       . ext;rw[nM]
     . rw[show (match ab.tuple ds with | .tuple ds=>decide ((ds.length:Int)=(n:Nat)) | _=>false)=false from decide_eq_false hl,decide_eq_false hl];rfl
    | _=>rfl
 | _=>rfl
noncomputable def Zi(d:ab):Bool:=match d with
 | .tuple [a,ss,o]=>match a with
  | .int n=>match ss with
   | .tuple ds=>(decide (0<=n)&&decide (n<5))&&decide (ds.length<=600)&&(List.range ds.length).all (λi=>pg (ds.getD i .none) (n+(i:Nat)))&&gw o (n+ds.length)
   | _=>false
  | _=>false
 | _=>false
theorem K1(d:ab):m6 [d]= .ok (.bool (Zi d)):=by
 unfold m6;ext;rw[qF]
 cases d with
 | tuple ds=>
  match ds with
  | []=>rfl
  | [a]=>rfl
  | [a,b]=>rfl
  | a::b::c::e::r=>
   have e:uX (.tuple (a::b::c::e::r)) 3=false:=by
    show decide (((a::b::c::e::r).length:Int)=3)=false;refine decide_eq_false ?_;simp only[a9];lia
   rw[e];rfl
  | [a,ss,o]=>
   have e:uX (.tuple [a,ss,o]) 3=true:=rfl;rw[e];ext;rw[nM]
   cases a with
   | int n=>
    have eb:gw (.int n) (4+1)=(decide (0<=n)&&decide (n<5)):=rfl;rw[eb]
    cases hn:(decide (0<=n)&&decide (n<5)) with
    | false=>
     cases ss with
     | tuple ds=>
      show _=AI.ok (ab.bool ((decide (0<=n)&&decide (n<5))&&decide (ds.length<=600)&&(List.range ds.length).all (λi=>pg (ds.getD i .none) (n+(i:Nat)))&&gw o (n+ds.length)));rw[hn];rfl
     | _=>rfl
    | true=>
     ext
     cases ss with
     | tuple ds=>
      show _=AI.ok (ab.bool ((decide (0<=n)&&decide (n<5))&&decide (ds.length<=600)&&(List.range ds.length).all (λi=>pg (ds.getD i .none) (n+(i:Nat)))&&gw o (n+ds.length)));rw[hn];ext
      by_cases hl:ds.length<=600
      . rw[decide_eq_false (show ¬ (600:Int)<ds.length by lia),decide_eq_true hl];ext;rw[Bd];ext;rw[eY,qJ (λi=>ab.tuple [.int (i:Nat),ds.getD i .none]) (λi=>!pg (ds.getD i .none) (n+i)) λi hi=>?_]
        . have ea:(List.range ds.length).any (λi=>!pg (ds.getD i .none) (n+(i:Nat)))= !((List.range ds.length).all λi=>pg (ds.getD i .none) (n+(i:Nat))):=by
           rw[List.all_eq_not_any_not,Bool.not_not]
          rw[ea]
          cases hs:(List.range ds.length).all (λi=>pg (ds.getD i .none) (n+i)) with
          | true=>
           ext;rw[nM];rfl
          | false=>rfl
        . ext;rw[Te];ext;rw[BX];cases pg (ds.getD i .none) (n+i) <;> rfl
      . rw[decide_eq_true (show (600:Int)<ds.length by lia),decide_eq_false hl];rfl
     | _=>rfl
   | _=>rfl
 | _=>rfl
noncomputable def iC(b:Int)(ts:B3)(w:Nat):Int:=tab w λc=>ak b (bj (ts.map λt=>ak t (c:Nat)))
theorem aer{f:Nat->Int}:ab.list ((List.range j).map λi=>ab.int (f i))=dL ((List.range j).map f):=by rw[dL,de];rfl
variable {w:Nat}
theorem QB(hl:ts.length=m)(hm:m<=4)(hw:w<=100):qP [dG m b,dL ts,.int (w:Nat)]= .ok (.int (iC b ts w)):=by
 unfold qP;ext;rw[uU hw];ext;rw[GK hl hm];rfl
theorem take_snoc{α:Type}{l:List α}{x:α}(h:l[i]?=some x):l.take (i+1)=l.take i++[x]:=by
 rw[List.take_succ,h];rfl
noncomputable def dT(m:Nat)(b:Int)(ds:B4):ab:=.tuple [dG m b,.tuple ds]
def nQ(n:Nat):Nat->ab->Prop
 | 0,d=>∃i:Nat,i<n/\d= .int (i:Nat)
 | k+1,d=>(∃i:Nat,i<n/\d= .int (i:Nat))\/∃(m:Nat) (b:Int) (ds:B4),m<=4/\0<=b/\b<2^2^m/\ds.length=m/\d=dT m b ds/\∀e∈ds,nQ n k e
theorem nQ.inp{n k i:Nat}(h:i<n):nQ n k (.int (i:Nat)):=by
 cases k with
 | zero=>exact ⟨i,h,rfl⟩
 | succ k=>exact .inl ⟨i,h,rfl⟩
noncomputable def Jm(r:Nat):Nat->ab->Int
 | _,.int i=>ak (r:Nat) i
 | k+1,.tuple [.tuple [_,.int b],.tuple ds]=>ak b (bj (ds.map (Jm r k)))
 | _,_=>0
noncomputable def jH:Nat->ab->Int
 | _,.int _=>0
 | k+1,.tuple [_,.tuple ds]=>1+(ds.map (jH k)).sum
 | _,_=>0
theorem Ln{i:Int}:Jm r j (.int i)=ak (r:Nat) i:=by cases j <;> rfl
theorem yM:Jm r (j+1) (dT m b ds)=ak b (bj (ds.map (Jm r j))):=rfl
theorem By:jH j (.int x)=0:=by cases j <;> rfl
theorem uw:jH (j+1) (dT m b ds)=1+(ds.map (jH j)).sum:=rfl
theorem VM{α:Type}{xs:List α}{f:α->Int}{x:α}(h:xs[i]?=some x):((xs.take (i+1)).map f).sum=((xs.take i).map f).sum+f x:=by
 rw[List.take_succ,h,a7,qh];simp
theorem vK:fZ [.int x]= .ok (.bool true):=by
 unfold fZ;ext
theorem oX:fZ [.tuple ds]= .ok (.bool false):=by
 unfold fZ;ext
noncomputable def ren(n1 t:Nat)(hs:B5)(w:Nat):Nat:=if w<n1 then hs.getD w 0 else t+(w - n1)
noncomputable def mv(n1 t:Nat)(hs:B5)(s:aF):aF:=⟨s.m,s.b,s.ws.map (ren n1 t hs)⟩
theorem CQ{ks:B5}(h:w<ks.length):AQ (.list (dN ks)) (.int (w:Nat))= .ok (.int (ks.getD w 0:Nat)):=by
 refine jc ?_;rw[dN,br,ai h,ae,ai h];rfl
theorem yJ{a b:B5}:dN (a++b)=dN a++dN b:=by unfold dN;rw[a7]
theorem tR{a:B5}:(dN a).length=a.length:=by rw[dN,af]
variable {hs:B5}{n1:Nat}
theorem Cu(hh:hs.length=n1)(hw:w<n1+i):(hs++(List.range i).map (j + ·)).getD w 0=ren n1 j hs w:=by
 rw[ren,ae]
 by_cases h:w<n1
 . rw[if_pos h,cq (by lia),ae]
 . rw[if_neg h,bX (by lia),br,eP (by lia),hh];rfl
theorem GP(hw:∀w∈s.ws,w<hs.length)(hl:s.ws.length<=100):jx [s.d,.list (dN hs)]= .ok (aF.mk s.m s.b (s.ws.map λw=>hs.getD w 0)).d:=by
 unfold jx aF.d;ext;rw[jt (xs:=s.ws) (λw=>ab.int w) (λw=>.int (hs.getD w 0:Nat)) ?_ (AW (by lia)) λw hw'=>?_]
 rotate_left
 . ext;rfl
 . ext;exact CQ (hw w hw')
 ext;rw[dN,de];rfl
variable {AF:List aF}
theorem p_add{n:Nat}(h1:aV n1 ss)(hh:hs.length=n1)(ha:AF.length<=5000)(hl:ss.length<=5000)(ho:o<n1+ss.length)(hn:n1<=100) :
 du [.list (AF.map aF.d),.int (n:Nat),dC n1 ss o,.list (dN hs)]= .ok (.tuple [.int (ren n1 (n+AF.length) hs o:Nat),.list ((AF++ss.map (mv n1 (n+AF.length) hs)).map aF.d)]):=by
 unfold du;ext;rw[J5];ext;refine bL (λi=>[some (.list ((AF++(ss.take i).map (mv n1 (n+AF.length) hs)).map aF.d)),some (.int n),some (dC n1 ss o),some (.list (dN hs)),some (.list (dN (hs++(List.range i).map (n+AF.length + ·)))),none]) ?_ (λi x hx=>?_) ?_
 . rw[mE,ft,dr,List.range_zero,ft,dr]
 . obtain ⟨s,e,rfl⟩:=dh hx;have ok:=h1 i s e;have hi:=(aS.mp e).1;have m4:=ok.m4;have ln:=ok.len;ext;rw[GP (λw hw=>by have:=ok.lt w hw;rw[av,af,c9];lia) (by lia)];have e1:(aF.mk s.m s.b (s.ws.map λw=>(hs++(List.range i).map (n+AF.length + ·)).getD w 0))=mv n1 (n+AF.length) hs s:=by
    congr 1;exact cn λw hw=>Cu hh (ok.lt w hw)
   have e2:(AF++(ss.take i).map (mv n1 (n+AF.length) hs)).length=AF.length+i:=by
    rw[av,af,c8];lia
   rw[e1];ext;rw[bD (AW (by lia))];ext;rw[bD (AW (by rw[tR,av,af,c9];lia))];ext;have e3:((n:Nat):Int)+(((AF++(ss.take i).map (mv n1 (n+AF.length) hs)).map aF.d++[(mv n1 (n+AF.length) hs s).d]).length:Nat) - 1=((n+AF.length+i:Nat):Nat):=by
    rw[av,af,e2,cx];lia
   have e4:(AF++(ss.take (i+1)).map (mv n1 (n+AF.length) hs)).map aF.d=(AF++(ss.take i).map (mv n1 (n+AF.length) hs)).map aF.d++[(mv n1 (n+AF.length) hs s).d]:=by
    rw[nR e,a7 (f:=mv n1 (n+AF.length) hs),<- d5];exact a7
   have e5:dN (hs++(List.range (i+1)).map (n+AF.length + ·))=dN (hs++(List.range i).map (n+AF.length + ·))++[.int (n+AF.length+i:Nat)]:=by
    rw[lT,a7,<- d5];exact yJ
   rw[e3,e4,e5]
 . rw[af,eD];ext;rw[Qh];ext;rw[CQ (by rw[av,af,c9];lia),Cu hh ho];ext
theorem Bm{n:Nat}(hw:w<n)(ss:List aF):(b8 n ss r).getD w 0=(bA n r).getD w 0:=by
 induction ss using snoc_ind with
 | h0=>rfl
 | h ss s ih=>
  rw[iK,<- ih];unfold stepV;have:=eX (n:=n) (ss:=ss) (r:=r);rw[ae,cq (by lia),ae]
variable {ys:B3}
theorem uy(h:w<xs.length):(xs++ys).getD w 0=xs.getD w 0:=by
 rw[ae,cq h,ae]
theorem getD_map{α:Type}{f:Nat->Int}(h:w<hs.length):(hs.map f).getD w 0=f (hs.getD w 0):=by
 rw[ae,br,ai h,ae,ai h];rfl
theorem Oh{w:Nat}(hh:hs.length=n1)(hlt:∀x∈hs,x<xs.length)(hB:ts.length=n1+j)(hb:∀w,w<n1->ts.getD w 0=xs.getD (hs.getD w 0) 0)(hw:w<n1+j) :
 (xs++ts.drop n1).getD (ren n1 xs.length hs w) 0=ts.getD w 0:=by
 unfold ren
 by_cases h:w<n1
 . have hx:hs.getD w 0<xs.length:=by
    rw[ae,ai (by lia)];exact hlt _ (fE _)
   rw[if_pos h,hb w h,uy hx]
 . rw[if_neg h,ae,bX (by lia),List.getElem?_drop,ae];congr 2;lia
theorem Z3{n:Nat}(hh:hs.length=n1)(hlt:∀x∈hs,x<n+AF.length)(hb:bA n1 j=hs.map λw=>(b8 n AF r).getD w 0)(ss:List aF) :
 aV n1 ss->b8 n (AF++ss.map (mv n1 (n+AF.length) hs)) r=b8 n AF r++(b8 n1 ss j).drop n1:=by
 have hA:=eX (n:=n) (ss:=AF) (r:=r)
 induction ss using snoc_ind with
 | h0=>
  intro _;rw[ft,dr,show b8 n1 [] j=bA n1 j from rfl,yY (by rw[bI];exact aE _),dr]
 | h ss s ih=>
  intro h;obtain ⟨h1,h2⟩:=h.init;have hB:=eX (n:=n1) (ss:=ss) (r:=j);rw[a7,bo,ft,<- d5,iK,iK,ih h1];unfold stepV;have key:=λw hw=>by
   have:=Oh hh (λx hx=>by rw[hA];exact hlt x hx) hB (λu hu=>by rw[Bm hu,hb,getD_map (α:=Nat) (by lia)]) (h2.lt w hw);rwa [hA] at this
  rw[d5,List.drop_append_of_le_length (by lia)];congr 2;show [ak s.b (bj ((s.ws.map (ren n1 (n+AF.length) hs)).map λk=>_))]=_;rw[de];congr 3;exact cn λw hw=>key w hw
theorem afq{n:Nat}(ha:aV n AF)(h1:aV n1 ss)(hh:hs.length=n1)(hlt:∀x∈hs,x<n+AF.length):aV n (AF++ss.map (mv n1 (n+AF.length) hs)):=λi s e=>by
 by_cases h:i<AF.length
 . rw[cq h] at e;exact ha i s e
 . rw[bX (by lia),br] at e
   cases q:ss[i - AF.length]? with
   | none=>rw[q] at e;cases e
   | some s'=>
    rw[q] at e;cases e;have ok:=h1 _ _ q;refine ⟨ok.m4,by show (s'.ws.map _).length=s'.m;rw[af,ok.len],λw hw=>?_,ok.b0,ok.b1⟩;obtain ⟨u,hu,rfl⟩:=cc.mp hw;have:=ok.lt u hu;unfold ren
    by_cases hn:u<n1
    . rw[if_pos hn,ae,ai (by lia)];have:=hlt _ (fE (n:=u) (by lia));show hs[u]<_;lia
    . rw[if_neg hn];lia
theorem ab3{k:Nat}(hh:hs.length=n1)(hlt:∀x∈hs,x<j)(hw:w<n1+k):ren n1 j hs w<j+k:=by
 unfold ren
 by_cases hn:w<n1
 . rw[if_pos hn,ae,ai (by lia)];have:=hlt _ (fE (n:=w) (by lia));show hs[w]<_;lia
 . rw[if_neg hn];lia
noncomputable def fO(f:List aF->ab->List aF×Nat)(AF:List aF)(ds:B4):List aF×B5:=ds.foldl (λa d=>((f a.1 d).1,a.2++[(f a.1 d).2])) (AF,[])
noncomputable def dF(n:Nat):Nat->List aF->ab->List aF×Nat
 | 0=>λAF d=>match d with
  | .int i=>(AF,i.toNat)
  | _=>(AF,0)
 | k+1=>λAF d=>match d with
  | .int i=>(AF,i.toNat)
  | .tuple [.tuple [.int m,.int b],.tuple ds]=>((fO (dF n k) AF ds).1++[⟨m.toNat,b,(fO (dF n k) AF ds).2⟩],n+(fO (dF n k) AF ds).1.length)
  | _=>(AF,0)
theorem Bt:dF j W AF (.int (i:Nat))=(AF,i):=by cases W <;> rfl
theorem uF:dF j (W+1) AF (dT m b ds)=((fO (dF j W) AF ds).1++[⟨m,b,(fO (dF j W) AF ds).2⟩],j+(fO (dF j W) AF ds).1.length):=rfl
theorem Hf{f:List aF->ab->List aF×Nat}{d:ab}:fO f AF (ds++[d])=((f (fO f AF ds).1 d).1,(fO f AF ds).2++[(f (fO f AF ds).1 d).2]):=by
 rw[fO,fS];rfl
noncomputable def cO{β:Type}(φ:Nat->Int->List β->β)(z:β)(base:List β)(ss:List aF):List β:=ss.foldl (λxs s=>xs++[φ s.m s.b (s.ws.map λw=>xs.getD w z)]) base
section
variable {β:Type}{φ:Nat->Int->List β->β}{z:β}{base:List β}{n:Nat}
theorem mZ:cO φ z base (ss++[s])=cO φ z base ss++[φ s.m s.b (s.ws.map λw=>(cO φ z base ss).getD w z)]:=by rw[cO,fS];rfl
theorem lQ(hb:base.length=n):(cO φ z base ss).length=n+ss.length:=by
 induction ss using snoc_ind with
 | h0=>exact hb
 | h ss s ih=>rw[mZ,av,ih,av];rfl
theorem Cp{xs ys:List β}(h:w<xs.length):(xs++ys).getD w z=xs.getD w z:=by
 rw[ae,cq h,ae]
theorem nW(hb:base.length=n)(hw:w<n+AF.length)(more:List aF):(cO φ z base (AF++more)).getD w z=(cO φ z base AF).getD w z:=by
 induction more using snoc_ind with
 | h0=>rw[dr]
 | h ss s ih=>
  rw[<- d5,mZ,Cp (by rw[lQ hb,av];lia),ih]
structure Kid (φ:Nat->Int->List β->β) (z:β) (base:List β) (n:Nat) (AF:List aF) (q:List aF×Nat) (g:β) (c:Int):Prop where
 pre:∃more,q.1=AF++more
 ok:aV n q.1
 lt:q.2<n+q.1.length
 val:(cO φ z base q.1).getD q.2 z=g
 len:((q.1.length:Nat):Int)=AF.length+c
structure aeo (φ:Nat->Int->List β->β) (z:β) (base:List β) (n:Nat) (AF:List aF) (q:List aF×B5) (gs:List β) (c:Int):Prop where
 pre:∃more,q.1=AF++more
 ok:aV n q.1
 lt:∀w∈q.2,w<n+q.1.length
 val:(q.2.map λw=>(cO φ z base q.1).getD w z)=gs
 len:((q.1.length:Nat):Int)=AF.length+c
theorem Ny(hb:base.length=n){f:List aF->ab->List aF×Nat}{G:ab->β}{C:ab->Int}(ha:aV n AF)(ds:B4) :
 (∀d∈ds,∀AF,aV n AF->Kid φ z base n AF (f AF d) (G d) (C d))->aeo φ z base n AF (fO f AF ds) (ds.map G) (ds.map C).sum:=by
 induction ds using snoc_ind with
 | h0=>exact λ_=>⟨⟨[],(dr _).symm⟩,ha,λw hw=>(nomatch hw),rfl,by show ((AF.length:Nat):Int)=AF.length+(0:Int);lia⟩
 | h ds d ih=>
  intro h;obtain ⟨⟨m1,p1⟩,o1,l1,v1,n1⟩:=ih λe he=>h e (eK _ he);obtain ⟨⟨m2,p2⟩,o2,l2,v2,n2⟩:=h d (cS _ (ay.mpr rfl)) _ o1;rw[Hf];generalize fO f AF ds=a at p1 o1 l1 v1 n1 p2 o2 l2 v2 n2;generalize f a.1 d=q at p2 o2 l2 v2 n2;refine ⟨⟨m1++m2,by rw[p2,p1,d5]⟩,o2,λw hw=>?_,?_,?_⟩
  . rcases cK.mp hw with hw | hw
    . have:=l1 w hw;rw[p2,av];lia
    . rw[ay.mp hw];exact l2
  . rw[a7,a7,<- v1,bo,ft,bo,ft,<- v2];congr 1;refine cn λw hw=>?_;rw[p2];exact nW hb (l1 w hw) _
  . rw[n2,n1,a7,qh];show _=_+(_+(C d+0));lia
theorem Ei(hb:base.length=n){G:Nat->ab->β}(h0:∀k i:Nat,i<n->G k (.int (i:Nat))=base.getD i z)(h1:∀k m b ds,G (k+1) (dT m b ds)=φ m b (ds.map (G k))) :
 ∀{k:Nat}{d:ab}{AF:List aF},nQ n k d->aV n AF->Kid φ z base n AF (dF n k AF d) (G k d) (jH k d):=by
 have inp:∀{k i:Nat}{AF:List aF},i<n->aV n AF->Kid φ z base n AF (dF n k AF (.int (i:Nat))) (G k (.int (i:Nat))) (jH k (.int (i:Nat))):=λ{k i AF} hi ha=>by
  rw[Bt,By,h0 k i hi];refine ⟨⟨[],(dr _).symm⟩,ha,by lia,?_,by show ((AF.length:Nat):Int)=AF.length+(0:Int);lia⟩;have:=nW (φ:=φ) (z:=z) hb (AF:=[]) (by lia) AF;exact this
 intro k
 induction k with
 | zero=>
  intro d AF h ha;obtain ⟨i,hi,rfl⟩:=h;exact inp hi ha
 | succ k ih=>
  intro d AF h ha;rcases h with ⟨i,hi,rfl⟩ | ⟨m,b,ds,hm,b0,b1,hl,rfl,hk⟩
  . exact inp hi ha
  . obtain ⟨⟨m1,p1⟩,o1,l1,v1,n1⟩:=Ny hb (C:=jH k) ha ds λd hd AF ha=>ih (hk d hd) ha;rw[uF,uw,h1];have hkl:(fO (dF n k) AF ds).2.length=m:=by
     have:=congrArg List.length v1;rw[af,af] at this;lia
    generalize fO (dF n k) AF ds=a at p1 o1 l1 v1 n1 hkl;refine ⟨⟨m1++[⟨m,b,a.2⟩],by rw[p1,d5]⟩,o1.snoc ⟨hm,hkl,l1,b0,b1⟩,by rw[av];show _<_+(_+1);lia,?_,?_⟩
    . rw[mZ,ae,bX (by rw[lQ hb];exact aE _),lQ hb,kL];show φ m b (a.2.map λw=>(cO φ z base a.1).getD w z)=_;rw[v1]
    . rw[av,cx];lia
end
theorem PB:∀{k:Nat}{d:ab}{AF:List aF}{fu:Nat},nQ j k d->aV j AF->k<fu->((AF.length:Nat):Int)+jH k d<=5000 ->
 jB fu [.list (AF.map aF.d),.int (j:Nat),d]= .ok (.tuple [.int ((dF j k AF d).2:Nat),.list ((dF j k AF d).1.map aF.d)]):=by
 have ADD:∀{k:Nat}{d:ab}{AF:List aF},nQ j k d->aV j AF->Kid (λ_ _ xs=>1+xs.sum) 0 (ax j (0:Int)) j AF (dF j k AF d) (jH k d) (jH k d):=
  Ei ck (λk i hi=>by rw[By,ae,hW hi];rfl) λk m b ds=>uw
 have inp:∀(k i fu:Nat) (AF:List aF),jB (fu+1) [.list (AF.map aF.d),.int (j:Nat),.int (i:Nat)]= .ok (.tuple [.int ((dF j k AF (.int (i:Nat))).2:Nat),.list ((dF j k AF (.int (i:Nat))).1.map aF.d)]):=λk i fu AF=>by
  rw[Bt];unfold jB;ext;rw[vK];ext
 intro k
 induction k with
 | zero=>
  intro d AF fu h ha hf hz;obtain ⟨i,hi,rfl⟩:=h;obtain ⟨fu,rfl⟩:∃f,fu=f+1:=⟨fu - 1,by lia⟩;exact inp 0 i fu AF
 | succ k ih=>
  intro d AF fu h ha hf hz;obtain ⟨fu,rfl⟩:∃f,fu=f+1:=⟨fu - 1,by lia⟩;rcases h with ⟨i,hi,rfl⟩ | ⟨m,b,ds,hm,b0,b1,hl,rfl,hk⟩
  . exact inp (k+1) i fu AF
  . rw[uw] at hz;rw[uF];unfold jB dT;ext;rw[oX];ext;have KO:∀i,aeo (λ_ _ xs=>1+xs.sum) 0 (ax j (0:Int)) j AF (fO (dF j k) AF (ds.take i)) ((ds.take i).map (jH k)) ((ds.take i).map (jH k)).sum:=λi=>
     Ny ck ha _ λd hd AF ha=>ADD (hk d (lj hd)) ha
    have SUM:∀i,((ds.take i).map (jH k)).sum<=(ds.map (jH k)).sum:=λi=>by
     have e:ds.map (jH k)=(ds.take i).map (jH k)++(ds.drop i).map (jH k):=by rw[<- a7,sC]
     have p:∀(l:B3),(∀x∈l,0<=x)->0<=l.sum:=λl=>by
      induction l with
      | nil=>exact λ_=>nv _
      | cons x l ih=>intro h;rw[kb];have:=h x b9;have:=ih λy hy=>h y (cf _ hy);lia
     have q:=p ((ds.drop i).map (jH k)) λx hx=>by
      obtain ⟨d,hd,rfl⟩:=cc.mp hx;have K:=ADD (hk d (List.mem_of_mem_drop hd)) (aV.nil);have:=K.len;have e0:((([]:List aF).length:Nat):Int)=0:=rfl;lia
     rw[e,qh];lia
    refine bL (λi=>[some (.list ((fO (dF j k) AF (ds.take i)).1.map aF.d)),some (.int j),some (.tuple [dG m b,.tuple ds]),some (.list (dN (fO (dF j k) AF (ds.take i)).2)),none]) rfl (λi x hx=>?_) ?_
    . have hi:=(aS.mp hx).1;have K:=KO i;have S1:=SUM (i+1);rw[VM hx] at S1;have kl:=by
       have:=congrArg List.length K.val;rw[af,af,c8] at this;lia
      have e5:ds.take (i+1)=ds.take i++[x]:=by rw[ow,hx];rfl
      rw[e5,Hf];have kn:=K.len;have ko:=K.ok;generalize fO (dF j k) AF (ds.take i)=a at kn ko kl;ext;rw[ih (hk x (eL hx)) ko (by lia) (by lia)];ext;rw[bD (AW (by rw[tR];lia))];ext;rw[yJ];rfl
    . rw[eD];have K:=KO ds.length;rw[eD] at K;have kn:=K.len;generalize fO (dF j k) AF ds=a at kn;ext;rw[bD (AW (by lia))];ext;rw[show ((j:Nat):Int)+((a.1.map aF.d++[ab.tuple [dG m b,.tuple (dN a.2)]]).length:Nat) - 1=((j+a.1.length:Nat):Nat) by rw[av,af,cx];lia,a7];rfl
theorem Gg{d:ab}(h:nQ j W d)(hf:W<100)(hz:jH W d<=5000):jr [d,.int (j:Nat)]= .ok (dC j (dF j W [] d).1 (dF j W [] d).2):=by
 unfold jr;ext;rw[show ab.list []= .list (([]:List aF).map aF.d) from rfl,PB h aV.nil hf (by show ((0:Nat):Int)+_<=_;lia)];ext;rfl
noncomputable def kS(s:aF):dw:=[[(s.m:Int),s.b],s.ws.map λw=>((w:Nat):Int)]
theorem Jh:∀{a b:B5},(a.map λw=>((w:Nat):Int))=(b.map λw=>((w:Nat):Int))->a=b
 | [],[],_=>rfl
 | [],_::_,e=>by cases e
 | _::_,[],e=>by cases e
 | x::xs,y::ys,e=>by
  rw[bo,bo] at e;injection e with e1 e2;rw[zC.inj e1,Jh e2]
theorem adM{t:aF}(h:kS s=kS t):s=t:=by
 obtain ⟨m,b,ws⟩:=s;obtain ⟨m',b',ws'⟩:=t;injection h with h1 h2;injection h1 with h3 h4;injection h4 with h5 _;injection h2 with h6 _;rw[show m=m' from zC.inj h3,show b=b' from h5,show ws=ws' from Jh h6]
theorem Kr:∀ks:B5,nG (dN ks)=some (ks.map λw=>((w:Nat):Int))
 | []=>rfl
 | k::ks=>by
  show (match nG (dN ks) with | some l=>some (((k:Nat):Int)::l) | none=>none)=_;rw[Kr ks];rfl
theorem rZ(s:aF):jE s.d=some (kS s):=by
 show (match nG [ab.int (s.m:Nat),.int s.b],uc [.tuple (dN s.ws)] with | some a,some b=>some (a::b) | _,_=>none)=_;have e:uc [.tuple (dN s.ws)]=some [s.ws.map λw=>((w:Nat):Int)]:=by
  show (match nG (dN s.ws),uc [] with | some a,some b=>some (a::b) | _,_=>none)=_;rw[Kr];rfl
 rw[e];rfl
noncomputable def stK:Nat->List aF->B0
 | _,[]=>[]
 | k,s::r=>(s.d,.int (k:Nat))::stK (k+1) r
noncomputable def plc(t:aF):List aF->Option Nat
 | []=>none
 | s::r=>if kS s=kS t then some 0 else (plc t r).map (· + 1)
theorem Bv(t:aF):∀(k:Nat) (AF:List aF),j4 (kS t) (stK k AF)=(plc t AF).map λi=>ab.int ((k+i:Nat):Int)
 | k,[]=>rfl
 | k,s::r=>by
  unfold stK j4 plc
  by_cases h:kS s=kS t
  . rw[if_pos (by rw[rZ,h]),if_pos h];rfl
  . rw[if_neg (by rw[rZ];exact λz=>h (Option.some.inj z)),if_neg h,Bv t (k+1) r,Option.map_map];congr 1;funext i;congr 2;simp;lia
theorem O8(t:aF):∀(k:Nat) (AF:List aF),Bw (kS t) (stK k AF)=(plc t AF).isSome
 | k,[]=>rfl
 | k,s::r=>by
  unfold stK Bw plc
  by_cases h:kS s=kS t
  . rw[if_pos (by rw[rZ,h]),if_pos h];rfl
  . rw[if_neg (by rw[rZ];exact λz=>h (Option.some.inj z)),if_neg h,O8 t (k+1) r,kH]
theorem Kh(t:aF):∀(k:Nat) (AF:List aF),stK k (AF++[t])=stK k AF++[(t.d,ab.int ((k+AF.length:Nat):Int))]
 | k,[]=>rfl
 | k,s::r=>by
  rw[gE,stK,Kh t (k+1) r,stK,gE,a9];congr 4;congr 2;lia
theorem Nz:∀(k:Nat) (AF:List aF),(stK k AF).length=AF.length
 | k,[]=>rfl
 | k,s::r=>by rw[stK,a9,Nz,a9]
theorem Eu{t:aF}:∀{AF:List aF}{i:Nat},plc t AF=some i->AF[i]?=some t
 | [],i,h=>by cases h
 | s::r,i,h=>by
  unfold plc at h
  by_cases e:kS s=kS t
  . rw[if_pos e] at h;cases h;rw[adM e];rfl
  . rw[if_neg e] at h;obtain ⟨j,h1,rfl⟩:=md.mp h;rw[List.getElem?_cons_succ];exact Eu h1
noncomputable def rnS(ks:B5)(s:aF):aF:=⟨s.m,s.b,s.ws.map λw=>ks.getD w 0⟩
noncomputable def Bx(n:Nat)(a:List aF×B5)(s:aF):List aF×B5:=match plc (rnS a.2 s) a.1 with
 | some i=>(a.1,a.2++[n+i])
 | none=>(a.1++[rnS a.2 s],a.2++[n+a.1.length])
noncomputable def eE(n:Nat)(ss:List aF):List aF×B5:=ss.foldl (Bx n) ([],List.range n)
theorem ux:eE j (ss++[s])=Bx j (eE j ss) s:=by rw[eE,fS];rfl
theorem fold_at{β:Type}{φ:Nat->Int->List β->β}{z:β}{base:List β}(hb:base.length=j)(l:List aF):aV j l->∀i t,l[i]?=some t->(cO φ z base l).getD (j+i) z=φ t.m t.b (t.ws.map λk=>(cO φ z base l).getD k z):=by
 refine snoc_ind (P:=λl=>aV j l->∀i t,l[i]?=some t->(cO φ z base l).getD (j+i) z=φ t.m t.b (t.ws.map λk=>(cO φ z base l).getD k z)) (λ_ i t h=>by cases h) (λl s ih hs i t h=>?_) l;have AR:=hs i t h;obtain ⟨h0,_⟩:=aV.init hs;have hi:=(aS.mp h).1;rw[av,cx] at hi;have vl:(cO φ z base l).length=j+l.length:=lQ hb;have e:(t.ws.map λk=>(cO φ z base (l++[s])).getD k z)=t.ws.map λk=>(cO φ z base l).getD k z:=cn λk hk=>by
  have:=AR.lt k hk;rw[mZ];exact Cp (by lia)
 rw[e,mZ]
 by_cases hl:i<l.length
 . rw[cq hl] at h;rw[Cp (by lia)];exact ih h0 i t h
 . have ei:i=l.length:=by lia
   subst ei;rw[bX (aE _),kL] at h;cases h;rw[<- vl,ae,bX (aE _),kL];rfl
theorem Iv(h:w<hs.length):(hs++[j]).getD w 0=hs.getD w 0:=Cp h
theorem Cd{β:Type}{z:β}{xs:List β}{y:β}:(xs++[y]).getD xs.length z=y:=by
 rw[ae,bX (aE _),kL];rfl
theorem zX{xs:B5}(h:w<xs.length):xs.getD w 0∈xs:=by
 rw[ae,ai h];exact fE h
theorem ye{β:Type}{φ:Nat->Int->List β->β}{z:β}{base:List β}(hb:base.length=j):(cO φ z base (ss++[s])).getD (j+ss.length) z=φ s.m s.b (s.ws.map λk=>(cO φ z base ss).getD k z):=by
 rw[mZ,<- lQ hb];exact Cd
theorem adY{a:List aF×B5}(AR:s.Ok (j+ss.length))(i2:a.2.length=j+ss.length)(i4:∀x∈a.2,x<j+a.1.length):(rnS a.2 s).Ok (j+a.1.length):=⟨AR.m4,by show (s.ws.map _).length=_;rw[af];exact AR.len,λk hk=>by
 obtain ⟨w,hw,rfl⟩:=cc.mp hk;exact i4 _ (zX (by rw[i2];exact AR.lt w hw)),AR.b0,AR.b1⟩
theorem zY(ss:List aF):aV j ss->aV j (eE j ss).1/\(eE j ss).2.length=j+ss.length/\(eE j ss).1.length<=ss.length/\(∀x∈(eE j ss).2,x<j+(eE j ss).1.length):=by
 refine snoc_ind (P:=λss=>aV j ss->aV j (eE j ss).1/\(eE j ss).2.length=j+ss.length/\(eE j ss).1.length<=ss.length/\(∀x∈(eE j ss).2,x<j+(eE j ss).1.length)) ?_ ?_ ss
 . exact λ_=>⟨aV.nil,by show (List.range j).length=_;rw[c9];rfl,aE _,λx hx=>by have:=dn.mp hx;exact this⟩
 . intro ss s ih hs;obtain ⟨h0,AR⟩:=aV.init hs;obtain ⟨i1,i2,i3,i4⟩:=ih h0;rw[ux];generalize eE j ss=a at i1 i2 i3 i4;have ok1:=adY AR i2 i4;unfold Bx
   cases hp:plc (rnS a.2 s) a.1 with
   | none=>
    refine ⟨i1.snoc ok1,by simp[i2];lia,by simp;lia,λx hx=>?_⟩;rw[av,cx];rcases cK.mp hx with hx | hx
    . have:=i4 x hx;lia
    . rw[ay.mp hx];lia
   | some i=>
    have hi:=(aS.mp (Eu hp)).1;refine ⟨i1,by simp[i2];lia,by simp;lia,λx hx=>?_⟩;rcases cK.mp hx with hx | hx
    . exact i4 x hx
    . rw[ay.mp hx];show j+i<j+a.1.length;lia
theorem Uz{β:Type}{φ:Nat->Int->List β->β}{z:β}{base:List β}{n:Nat}(hb:base.length=n)(ss:List aF):aV n ss->∀w,w<n+ss.length->(cO φ z base (eE n ss).1).getD ((eE n ss).2.getD w 0) z=(cO φ z base ss).getD w z:=by
 refine snoc_ind (P:=λss=>aV n ss->∀w,w<n+ss.length->(cO φ z base (eE n ss).1).getD ((eE n ss).2.getD w 0) z=(cO φ z base ss).getD w z) ?_ ?_ ss
 . intro _ w hw;show (cO φ z base []).getD ((List.range n).getD w 0) z=_;have hw:w<n:=hw;rw[ae (l:=List.range n),eP hw];rfl
 . intro ss s ih hs w hw;obtain ⟨h0,AR⟩:=aV.init hs;have i5:=ih h0;obtain ⟨i1,i2,i3,i4⟩:=zY ss h0;rw[ux];generalize eE n ss=a at i1 i2 i3 i4 i5;have hv:((rnS a.2 s).ws.map λk=>(cO φ z base a.1).getD k z)=s.ws.map λk=>(cO φ z base ss).getD k z:=by
    show (s.ws.map _).map _=_;rw[de];exact cn λw hw=>i5 w (AR.lt w hw)
   have a2:∀w,w<n+ss.length->a.2.getD w 0<n+a.1.length:=λw hw=>i4 _ (zX (by rw[i2];exact hw));rw[av,cx] at hw
   by_cases hlt:w<n+ss.length
   . rw[nW hb hlt,<- i5 w hlt];unfold Bx
     cases hp:plc (rnS a.2 s) a.1 with
     | none=>
      rw[Iv (by lia),nW hb (a2 w hlt)]
     | some i=>
      rw[Iv (by lia)]
   . have e:w=n+ss.length:=by lia
     subst e;rw[ye hb,<- i2,<- hv];unfold Bx
     cases hp:plc (rnS a.2 s) a.1 with
     | none=>
      rw[Cd,ye hb];rfl
     | some i=>
      rw[Cd,fold_at hb a.1 i1 i _ (Eu hp)];rfl
variable {Γ:Ev}
section
variable {k:Nat}{m m':ME}  {t:aF}
theorem T8(h:m Γ = .ok t.d)(hg:gv Γ i=some (.dict (stK k AF))):zJ i m Γ = .ok (.bool (!(plc t AF).isSome)):=by
 rw[zJ,h,AI.aQ,hg];rw[rZ];show AI.ok (ab.bool (!(j4 (kS t) (stK k AF)).isSome))=_;rw[Bv,kH]
theorem U5(h:m Γ = .ok t.d)(hg:gv Γ i=some (.dict (stK k AF)))(hp:plc t AF=some j):QV i m Γ = .ok (.int ((k+j:Nat):Int)):=by
 rw[QV,h,AI.aQ,hg];rw[rZ];show (match j4 (kS t) (stK k AF) with | some d=>AI.ok d | none=>.bad)=_;rw[Bv,hp];rfl
theorem Zw(h:m Γ = .ok t.d)(h':m' Γ = .ok (.int ((k+AF.length:Nat):Int)))(hg:gv Γ i=some (.dict (stK k AF)))(hp:plc t AF=none)(hl:AF.length<=100000)(hi:i < Γ.length):Ik i m m' Γ = .ok (.nx (Γ.set i (some (.dict (stK k (AF++[t])))))):=by
 rw[Ik,h',AI.aQ,h,AI.aQ,hg];rw[rZ];show gd ((stK k AF).length<bE/\i < Γ.length) (AI.ok (Out.nx (Γ.set i (some (.dict (putN t.d (kS t) _ (stK k AF)))))))=_;rw[bD ⟨by rw[Nz];exact ki hl (by rw[Zq.sizeLine_eq];decide),hi⟩];rw[putN,O8,hp,if_neg (by decide),Kh]
end
theorem N7{t:aF}:∀{AF:List aF},plc t AF=none->plc t (AF++[t])=some AF.length
 | [],_=>by show (if kS t=kS t then some 0 else _)=_;rw[if_pos rfl];rfl
 | s::r,h=>by
  unfold plc at h
  by_cases e:kS s=kS t
  . rw[if_pos e] at h;cases h
  . rw[if_neg e] at h;show (if kS s=kS t then some 0 else (plc t (r++[t])).map (· + 1))=_;rw[if_neg e,N7 (sd.mp h)];rfl
theorem Sq(hs:aV W ss)(hn:W<=100)(hl:ss.length<=5000)(ho:o<W+ss.length):jf [dC W ss o]= .ok (dC W (eE W ss).1 ((eE W ss).2.getD o 0)):=by
 unfold jf;ext;rw[Ql];ext;rw[bD (by lia)];ext;rw[J5];ext;refine bL (λi=>[some (dC W ss o),some (.int W),some (.list (dN (eE W (ss.take i)).2)),some (.list ((eE W (ss.take i)).1.map aF.d)),some (.dict (stK W (eE W (ss.take i)).1)),none,none]) ?_ (λi x hx=>?_) ?_
 . rw[mE,cE];rfl
 . obtain ⟨s,e,rfl⟩:=dh hx;have ok:=hs i s e;have hi:=(aS.mp e).1;have m4:=ok.m4;have ln:=ok.len;obtain ⟨_,d2,d3,d4⟩:=zY (ss.take i) λj t h=>by
    rw[List.getElem?_take] at h;split at h
    . exact hs j t h
    . cases h
   rw[c8,va (by lia)] at d2 d3;rw[nR e,ux];generalize eE W (ss.take i)=a at d2 d3 d4;ext;rw[GP (λw hw=>by have:=ok.lt w hw;rw[d2];exact this) (by lia),show aF.mk s.m s.b (s.ws.map λw=>a.2.getD w 0)=rnS a.2 s from rfl];generalize ht:rnS a.2 s=t;ext;rw[T8 rfl rfl];rw[Bx,ht]
   cases hp:plc t a.1 with
   | none=>
    rw[show (ab.bool !(none:Option Nat).isSome)= .bool true from rfl];ext;rw[Zw rfl (by ext;rfl) rfl hp (by lia) (of_decide_eq_true rfl)];ext;rw[bD (AW (by lia))];ext;rw[U5 rfl rfl (N7 hp)];ext;rw[bD (AW (by rw[tR];lia))];ext;rw[yJ,a7];rfl
   | some j=>
    rw[show (ab.bool !(some j).isSome)= .bool false from rfl];ext;rw[U5 rfl rfl hp];ext;rw[bD (AW (by rw[tR];lia))];ext;rw[yJ];rfl
 . rw[af,eD];ext;rw[Qh];ext;rw[CQ (by rw[(zY ss hs).2.1];exact ho)];rfl
noncomputable def mk(ks:B3):B0:=ks.map λk=>(ab.int k,ab.bool true)
noncomputable def tU(x:Int)(ks:B3):B3:=if x∈ks then ks else ks++[x]
theorem Td:∀ks:B3,oE (.inl x) (mk ks)=decide (x∈ks)
 | []=>rfl
 | k::ks=>by
  show (if bO (ab.int k)=some (.inl x) then true else oE (.inl x) (mk ks))=_;rw[Td ks]
  by_cases h:k=x
  . subst h;rw[if_pos (show bO (ab.int k)=some (.inl k) from rfl),decide_eq_true b9]
  . rw[if_neg (show ¬ (bO (ab.int k)=some (.inl x)) from λz=>h (l8.inj (Option.some.inj z)))];have:(x∈k::ks)↔x∈ks:=⟨λz=>(cp.mp z).resolve_left (λe=>h e.symm),cf _⟩;exact decide_eq_decide.mpr this.symm
theorem Ej:∀ks:B3,(cR (.inl x) (mk ks)).isSome=decide (x∈ks)
 | []=>rfl
 | k::ks=>by
  show (if bO (ab.int k)=some (.inl x) then some (ab.bool true) else cR (.inl x) (mk ks)).isSome=_
  by_cases h:k=x
  . subst h;rw[if_pos (show bO (ab.int k)=some (.inl k) from rfl),decide_eq_true b9];rfl
  . rw[if_neg (show ¬ (bO (ab.int k)=some (.inl x)) from λz=>h (l8.inj (Option.some.inj z))),Ej ks];have:(x∈k::ks)↔x∈ks:=⟨λz=>(cp.mp z).resolve_left (λe=>h e.symm),cf _⟩;exact decide_eq_decide.mpr this.symm
theorem U4:∀ks:B3,uM (.inl x) (.bool true) (mk ks)=mk ks
 | []=>rfl
 | k::ks=>by
  show (if bO (ab.int k)=some (.inl x) then (ab.int k,ab.bool true) else (ab.int k,ab.bool true))::uM (.inl x) (.bool true) (mk ks)=(ab.int k,ab.bool true)::mk ks;rw[U4 ks,ite_self]
variable {ks:B3}
theorem adX:gU (.int x) (.inl x) (.bool true) (mk ks)=mk (tU x ks):=by
 unfold gU tU;rw[Td]
 by_cases h:x∈ks
 . rw[if_pos (decide_eq_true h),if_pos h,U4]
 . rw[if_neg (by rw[decide_eq_true_eq];exact h),if_neg h];unfold mk;rw[a7];rfl
theorem Jo:(tU x ks).length<=ks.length+1:=by
 unfold tU;split
 . lia
 . rw[av];exact aE _
theorem Lk{y:Int}:y∈tU x ks↔y=x\/y∈ks:=by
 unfold tU;split
 . rename_i h;exact ⟨.inr,λz=>z.elim (λe=>e ▸ h) id⟩
 . rw[cK,ay];exact Or.comm
theorem abX:(mk ks).length=ks.length:=by rw[mk,af]
variable {m1 m2:ME}
theorem J2(h2:m2 Γ = .ok (.bool true))(h1:m1 Γ = .ok (.int x))(hg:gv Γ i=some (.dict (mk ks)))(hl:ks.length<=100000)(hi:i < Γ.length):je i m1 m2 Γ = .ok (.nx (Γ.set i (some (.dict (mk (tU x ks)))))):=by
 rw[je,h2,h1];show (match gv Γ i with
  | some (.dict AE)=>(match bO (.int x) with
   | some key=>gd (AE.length<bE/\i < Γ.length) (.ok (Out.nx (Γ.set i (some (.dict (gU (.int x) key (.bool true) AE))))))
   | none=>.bad)
  | _=>AI.bad)=_
 rw[hg];show gd ((mk ks).length<bE/\i < Γ.length) (.ok (Out.nx (Γ.set i (some (.dict (gU (.int x) (.inl x) (.bool true) (mk ks)))))))=_;rw[bD ⟨AW (by rw[abX];exact hl),hi⟩,adX]
noncomputable def dR(rs:B3):ab:=.tuple (rs.map ab.int)
theorem Xj:lV (.int x) (.dict (mk ks))= .ok (.bool (!decide (x∈ks))):=by
 show AI.ok (ab.bool (!(cR (.inl x) (mk ks)).isSome))=_;rw[Ej]
noncomputable def jd(rs:B3)(ls:List B3):List B3:=ls.flatMap λc=>rs.map λr=>c++[r]
noncomputable def lK(rs:B3):Nat->List B3
 | 0=>[[]]
 | m+1=>jd rs (lK rs m)
variable {rs:B3}
theorem tY:∀ls:List B3,(jd rs ls).length=ls.length*rs.length
 | []=>by show 0=0*_;lia
 | c::ls=>by
  show ((rs.map λr=>c++[r])++jd rs ls).length=_;rw[av,af,tY ls,a9,yv];lia
theorem Hi:∀m,∀c∈lK rs m,c.length=m
 | 0,c,h=>by rw[ay.mp h];rfl
 | m+1,c,h=>by
  obtain ⟨c',h1,h2⟩:=kz.mp h;obtain ⟨r,_,rfl⟩:=cc.mp h2;rw[av,Hi m c' h1];rfl
variable {ls:List B3}{c:B3}
theorem Dm:jd rs (ls++[c])=jd rs ls++rs.map λr=>c++[r]:=by
 unfold jd;rw[pj];show _++((rs.map λr=>c++[r])++[])=_;rw[dr]
theorem acE{r:Int}(h:c.length<=100):cJ (dL c) (.list [.int r])= .ok (dL (c++[r])):=by
 unfold dL;rw[uD (l9 (AW (by rw[af,cx];lia))),a7];rfl
variable {cl:B5}
theorem qM{α:Type}{g:MG}{b:MS}(enc D:α->ab)(p:α->Bool):∀{xs:List α},(∀a∈xs,((g (enc a) Γ).bind b).bind (iB cl)=if p a=true then .ok (.rt (D a)) else .ok (.nx Γ)) ->
 forR g cl b (xs.map enc) Γ=match xs.find? p with | some a=>.ok (.rt (D a)) | none=>.ok (.nx Γ)
 | [],_=>rfl
 | x::xs,h=>by
  have h1:=h x b9;have ih:=qM enc D p λa ha=>h a (cf _ ha);rw[bo]
  cases hp:p x with
  | true=>
   rw[if_pos hp] at h1;obtain ⟨o,h2,h3⟩:=AI.au h1;obtain ⟨Γ1,h4,h5⟩:=AI.au h2;rw[ij,hp,forR,h4,AI.aQ,h5,AI.aQ];cases o <;> cases h3;rfl
  | false=>
   rw[if_neg (by rw[hp];exact e8)] at h1;rw[zQ h1,ih,ij,hp]
theorem aa8(h : -(2^63)<=x/\x<2^63/\ds.length*x.toNat<=bE):vY (.list ds) (.int x)= .ok (.list (ax x.toNat ds).flatten):=bD h
theorem rep1{x:ab}(hn:j<=100):vY (.list [x]) (.int (j:Nat))= .ok (.list (ax j x)):=by
 rw[aa8 ⟨by lia,by lia,by rw[cE,cx,Nat.one_mul];exact l9 (AW (by lia))⟩,cE];congr 2;clear hn
 induction j with
 | zero=>rfl
 | succ j ih=>rw[fo,lx,ih,fo];rfl
noncomputable def markL(rs:B3):B3:=rs.foldl (λks r=>tU r ks) []
theorem wz{r:Int}:markL (rs++[r])=tU r (markL rs):=by rw[markL,fS];rfl
theorem Th(rs:B3):x∈markL rs↔x∈rs:=by
 induction rs using snoc_ind with
 | h0=>exact Iff.rfl
 | h rs r ih=>rw[wz,Lk,ih,cK,ay];exact Or.comm
theorem Va(rs:B3):(markL rs).length<=rs.length:=by
 induction rs using snoc_ind with
 | h0=>exact aE _
 | h rs r ih=>rw[wz,av];exact dy Jo (Nat.succ_le_succ ih)
theorem W7(hr:rs.length<=1000):v5 [dR rs]= .ok (.dict (mk (markL rs))):=by
 unfold v5;ext;rw[show Az (dR rs)= .ok (rs.map ab.int) from rfl,show jC [] [some (dR rs),none,none]= .ok (.dict []) from rfl];ext;refine bL (λi=>[some (dR rs),some (.dict (mk (markL (rs.take i)))),none]) rfl (λi x hx=>?_) ?_
 . obtain ⟨r,er,rfl⟩:=dh hx;ext;rw[J2 rfl rfl rfl (dy (Va _) (by rw[c8];lia)) (of_decide_eq_true rfl)];ext;rw[take_snoc er,wz]
 . rw[af,eD];ext
noncomputable def cQ(cs:List B3):List B3:=cs.foldl (λls rs=>jd rs ls) [[]]
theorem m7(cs:List B3)(rs:B3):cQ (cs++[rs])=jd rs (cQ cs):=by rw[cQ,fS];rfl
theorem TX:c∈jd rs ls↔∃d∈ls,∃r∈rs,c=d++[r]:=by
 rw[jd,kz];constructor
 . rintro ⟨d,hd,h⟩;obtain ⟨r,hr,rfl⟩:=cc.mp h;exact ⟨d,hd,r,hr,rfl⟩
 . rintro ⟨d,hd,r,hr,rfl⟩;exact ⟨d,hd,cc.mpr ⟨r,hr,rfl⟩⟩
variable {cs:List B3}
theorem pI:c∈cQ cs↔c.length=cs.length/\∀i,i<cs.length->c.getD i 0∈cs.getD i []:=by
 induction cs using snoc_ind generalizing c with
 | h0=>
  constructor
  . intro h;rw[ay.mp h];exact ⟨rfl,λi hi=>absurd hi (qf _)⟩
  . rintro ⟨h,_⟩;rw[ly.mp h];exact ay.mpr rfl
 | h cs rs ih=>
  rw[m7,TX];constructor
  . rintro ⟨d,hd,r,hr,rfl⟩;obtain ⟨h1,h2⟩:=ih.mp hd;refine ⟨by rw[av,av,h1];rfl,λi hi=>?_⟩;rw[av] at hi;have hi:i<cs.length+1:=hi;rcases gu i cs.length with q | q
    . have:=h2 i q;rw[ae,ae] at this ⊢;rw[cq (l₁:=d) (by lia),cq q];exact this
    . have e:i=cs.length:=by lia
      subst e;rw[ae,ae,bX (l₁:=d) (by lia),bX (aE _),h1,kL];exact hr
  . rintro ⟨h1,h2⟩;rw[av] at h1;have h1:c.length=cs.length+1:=h1;have hl:cs.length<c.length:=by lia
    refine ⟨c.take cs.length,ih.mpr ⟨by rw[c8];lia,λi hi=>?_⟩,c.getD cs.length 0,?_,?_⟩
    . have:=h2 i (by rw[av];exact Nat.lt_succ_of_lt hi);rw[ae,ae] at this ⊢;rw[cq hi] at this;rw[List.getElem?_take,if_pos hi];exact this
    . have:=h2 cs.length (by rw[av];exact sL _);rwa [ae (l:=cs++[rs]),bX (aE _),kL] at this
    . rw[ae,ai hl];show c=c.take cs.length++[c[cs.length]];have e1:c.take (cs.length+1)=c.take cs.length++[c[cs.length]]:=by rw[ow,ai hl];rfl
      rw[<- e1,h9 (by lia)]
theorem CP(h:c∈cQ cs):c.length=cs.length:=(pI.mp h).1
variable {B:Nat}
theorem xW:∀{cs:List B3},(∀rs∈cs,rs.length<=B)->(cQ cs).length<=B^cs.length:=λ{cs}=>by
 induction cs using snoc_ind with
 | h0=>exact λ_=>aE _
 | h cs rs ih=>
  intro hb;rw[m7,tY,av];show _<=B^(cs.length+1);rw[vi];exact zo (ih λr hr=>hb r (eK _ hr)) (hb rs (by simp))
theorem t7(rs:B3):∀m,lK rs m=cQ (ax m rs)
 | 0=>rfl
 | m+1=>by
  rw[tm,m7,<- t7 rs m];rfl
theorem mK:c∈lK rs m↔c.length=m/\∀x∈c,x∈rs:=by
 rw[t7,pI,ck];constructor
 . rintro ⟨h1,h2⟩;refine ⟨h1,λx hx=>?_⟩;obtain ⟨i,hi,rfl⟩:=kB.mp hx;have:=h2 i (by lia);rwa [ae,ae,ai hi,hW (by lia)] at this
 . rintro ⟨h1,h2⟩;refine ⟨h1,λi hi=>?_⟩;rw[ae,ae,ai (l:=c) (by lia),hW hi];exact h2 _ (fE _)
theorem af6(hn:j<=16)(hm:m<=4):j^m<=65536:=dy (pv hn m) (dy (fx (by decide) hm) (by decide))
variable {enc:B3->ab}
theorem Cz(he:∀rs,Az (enc rs)= .ok (rs.map ab.int))(hr:∀rs∈cs,rs.length<=16)(hm:cs.length<=4):iM [.list (cs.map enc)]= .ok (.list ((cQ cs).map dL)):=by
 unfold iM;ext;refine bL (λi=>[some (.list (cs.map enc)),some (.list ((cQ (cs.take i)).map dL)),none,none,none,none]) rfl (λi x hx=>?_) ?_
 . obtain ⟨rs,ers,rfl⟩:=dh hx;have hi:=(aS.mp ers).1;have hrs:=hr rs (eL ers);have L0:(cQ (cs.take i)).length<=65536:=dy (xW λr q=>hr r (lj q)) (af6 (aE _) (by rw[c8];lia));ext;refine bL (λj=>[some (.list (cs.map enc)),some (.list ((cQ (cs.take i)).map dL)),some (enc rs),some (.list ((jd rs ((cQ (cs.take i)).take j)).map dL)),none,none]) rfl (λj x hx=>?_) ?_
   . obtain ⟨c,ec,rfl⟩:=dh hx;have hc:=CP (eL ec);rw[c8] at hc;have Lj:(jd rs ((cQ (cs.take i)).take j)).length<=1100000:=by
      rw[tY,c8];exact dy (zo (dy (xA _ _) L0) hrs) (by decide)
     ext;rw[he];ext;refine bL (λk=>[some (.list (cs.map enc)),some (.list ((cQ (cs.take i)).map dL)),some (enc rs),some (.list ((jd rs ((cQ (cs.take i)).take j)++(rs.take k).map λr=>c++[r]).map dL)),some (dL c),none]) ?_ (λk x hx=>?_) ?_
     . rw[mE,ft,dr]
     . obtain ⟨r,er,rfl⟩:=dh hx;have hk:=(aS.mp er).1;ext;rw[acE (by lia)];ext;rw[bD (ki (show _<=1200000 by rw[av,af,c8];lia) (by decide))];ext;rw[take_snoc er,a7 (f:=λr=>c++[r]),<- d5,a7 (l₂:=List.map (λr=>c++[r]) [r])];rfl
     . rw[af,eD];ext;rw[take_snoc ec,Dm]
   . rw[af,eD];ext;rw[take_snoc ers,m7]
 . rw[af,eD];ext
theorem aaS(hn:j<=100000)(hm:m<=4):zO [.int (j:Nat),.int (m:Nat)]= .ok (.int ((j^m:Nat):Int)):=by
 unfold zO;ext;rw[dD (by lia)];ext;refine bL (λi=>[some (.int j),some (.int m),some (.int ((j^i:Nat):Int)),none]) rfl (λi x hx=>?_) ?_
 . obtain ⟨hi,rfl⟩:=jQ hx;have e:((j^(i+1):Nat):Int)=(j:Nat)*((j^i:Nat):Int):=by rw[vi,Nat.mul_comm,Int.natCast_mul]
   rw[e];generalize j^i=q;walk_at "go"
 . rw[fj];ext
noncomputable abbrev AS(g:Nat×Int):ab:=dG g.1 g.2
theorem ZV{m:ME}{es:B4}(hm:m Γ = .ok (.list es))(hg:gv Γ i=some (.list ds))(hl:ds.length+es.length<=bE)(hi:i < Γ.length):PK i m Γ = .ok (.nx (Γ.set i (some (.list (ds++es))))):=by
 rw[PK,hm];show (match gv Γ i,ab.list es with
  | some (.list ds),.list es=>gd (ds.length+es.length<=bE/\i < Γ.length) (.ok (Out.nx (Γ.set i (some (.list (ds++es))))))
  | _,_=>AI.bad)=_
 rw[hg];exact bD ⟨hl,hi⟩
noncomputable def gH(old fresh:B3)(n p:Nat):List B3:=ax p old++[fresh]++ax (n - p - 1) (old++fresh)
noncomputable def j9(old fresh:B3)(n:Nat):List B3:=(List.range n).flatMap λp=>cQ (gH old fresh n p)
variable {old:B3}
theorem iW{n:Nat}(h:p<n):(gH old xs n p).length=n:=by
 rw[gH,av,av,ck,ck,cx];lia
theorem yQ{fresh:B3}(h:p<j)(hi:i<j):(gH old fresh j p).getD i []=if i<p then old else if i=p then fresh else old++fresh:=by
 rw[gH,ae];rcases Nat.lt_trichotomy i p with q | q | q
 . rw[if_pos q,d5,cq (by rw[ck];exact q),hW q];rfl
 . subst q;rw[if_neg (g9 _),if_pos rfl,d5,bX (by rw[ck];exact aE _),ck,kL];rfl
 . rw[if_neg (by lia),if_neg (by lia),bX (by rw[av,ck,cx];lia),av,ck,cx,hW (by lia)];rfl
theorem tK{fresh:B3}(h:c∈j9 old fresh j):c.length=j/\∀x∈c,x∈old++fresh:=by
 obtain ⟨p,hp,h⟩:=kz.mp h;have hp:=dn.mp hp;obtain ⟨h1,h2⟩:=pI.mp h;rw[iW hp] at h1 h2;refine ⟨h1,λx hx=>?_⟩;obtain ⟨i,hi,rfl⟩:=kB.mp hx;have:=h2 i (by lia);rw[yQ hp (by lia),ae,ai hi] at this;have this:=this;split at this
 . exact eK _ this
 . split at this
   . exact cS _ this
   . exact this
theorem Qq{fresh:B3}{n:Nat}(hl:c.length=n)(hc:∀x∈c,x∈old++fresh)(hx:∃x∈c,x∉old):c∈j9 old fresh n:=by
 have hlt:c.findIdx (λx=>!decide (x∈old))<c.length:=List.findIdx_lt_length.mpr (by
  obtain ⟨x,h1,h2⟩:=hx;exact ⟨x,h1,by rw[decide_eq_false h2];rfl⟩)
 have hp:=List.findIdx_getElem (w:=hlt);refine kz.mpr ⟨c.findIdx (λx=>!decide (x∈old)),dn.mpr (by lia),pI.mpr ⟨by rw[iW (by lia),hl],λi hi=>?_⟩⟩;rw[iW (by lia)] at hi;rw[yQ (by lia) hi,ae,ai (by lia)];have hin:=hc _ (fE (show i<c.length by lia));split
 . rename_i q;have:=List.not_of_lt_findIdx q;simp only[Bool.not_eq_false'] at this;exact of_decide_eq_true this
 . split
   . rename_i q;subst q;have hno:c[c.findIdx (λx=>!decide (x∈old))]∉old:=by
      intro z;rw[decide_eq_true z] at hp;cases hp
     exact (cK.mp hin).resolve_left hno
   . exact hin
theorem qN{b:B4}(h:ds.length+b.length<=1000):cJ (.list ds) (.list b)= .ok (.list (ds++b)):=uD (l9 (AW (by lia)))
noncomputable def kZ(n:Nat)(gs:A9):Nat:=(gs.map λg=>n^g.1).sum
variable {gs:A9}
theorem rO{n:Nat}(hn:n<=100000)(hg:gs.length<=100)(hm:∀g∈gs,g.1<=4):jn [.int (n:Nat),.list (gs.map AS)]= .ok (.int (kZ n gs:Nat)):=by
 unfold jn;ext;rw[jt (xs:=gs) AS (λg=>.int ((n^g.1:Nat):Int)) ?_ (AW (by lia)) λg h=>?_]
 . ext;rw[show gs.map (λg=>ab.int ((n^g.1:Nat):Int))=(gs.map λg=>((n^g.1:Nat):Int)).map ab.int by rw[de];rfl];have:∀ns:B3,Fe [.list (ns.map ab.int)]= .ok (.int ns.sum):=λns=>yo;rw[this];ext;unfold kZ;congr 2
   induction gs with
   | nil=>rfl
   | cons g gs ih=>
    rw[bo,kb,bo,kb,ze,ih (by rw[a9] at hg;lia) λq hq=>hm q (cf _ hq)]
 . ext
 . ext;rw[aaS hn (hm g h)]
theorem Nr(hn:j<=128)(hg:gs.length<=100)(hm:∀g∈gs,g.1<=4)(hc:kZ j gs<=20000):fD [.int (j:Nat),.list (gs.map AS)]= .ok .none:=by
 unfold fD;ext;rw[decide_eq_false (by lia)];ext;rw[rO (by lia) hg hm];ext;rw[decide_eq_false (by lia)];ext
theorem rM:∀{N:Nat}{l:B3},l.Nodup->(∀x∈l,0<=x/\x<N)->l.length<=N
 | 0,l,hn,hb=>by
  cases l with
  | nil=>exact aE _
  | cons x l=>have:=hb x b9;lia
 | N+1,l,hn,hb=>by
  have h1:(l.erase (N:Int)).length<=N:=rM (hn.erase _) λx hx=>by
   have hx:=(hn.mem_erase_iff).mp hx;have:=hb x hx.2;have hne:=hx.1;lia
  by_cases hm:(N:Int)∈l
  . rw[List.length_erase_of_mem hm] at h1;lia
  . rw[List.erase_of_not_mem hm] at h1;lia
theorem oY{l:B3}:x∈srt l↔x∈l:=(BP l).mem_iff
theorem adb{m:ME}{d:ab}(h:m Γ = .ok d):sEx m Γ = .ok (.nx Γ):=by rw[sEx,h];rfl
theorem acN(h:∀g∈gs,j^g.1<=B):kZ j gs<=gs.length*B:=by
 unfold kZ
 induction gs with
 | nil=>simp
 | cons g gs ih=>
  rw[bo,kb,a9,yv];have h1:=h g b9;have h2:=ih λq hq=>h q (cf _ hq);lia
noncomputable def Fb(w:Nat)(rs:B3):ab:=.tuple [.int (w:Nat),dR rs]
noncomputable def brk(b:Int)(w:Nat)(rs:B3)(m:Nat):Option B3:=(lK rs m).find? λc=>!decide (iC b c w∈rs)
noncomputable def zj:Option B3->ab
 | none=>.none
 | some c=>dL c
theorem Vy(hr:rs.length<=16)(hm:m<=4)(hp:rs.length^m<=20000)(hw:w<=100):sE [dG m b,Fb w rs]= .ok (zj (brk b w rs m)):=by
 unfold sE Fb;ext;rw[show fL [dR rs]= .ok (.int (rs.length:Nat)) by rw[dR,wF,af]];ext;have hc:=rO (n:=rs.length) (gs:=[(m,b)]) (by lia) (by simp) λg hg=>by rw[ay.mp hg];exact hm
 rw[show ab.list [dG m b]= .list ([(m,b)].map AS) from rfl,hc,show kZ rs.length [(m,b)]=rs.length^m by unfold kZ;simp];ext;rw[decide_eq_false (by lia)];ext;rw[W7 (by lia)];ext;rw[rep1 (by lia)];ext;rw[show ax m (dR rs)=(ax m rs).map dR by rw[k7],Cz (λ_=>rfl) (λr h=>by rw[(qA.mp h).2];exact hr) (by rw[ck];exact hm),<- t7];ext;rw[qM dL dL (λc=>!decide (iC b c w∈rs)) λc hc=>?_]
 . unfold brk
   cases (lK rs m).find? λc=>!decide (iC b c w∈rs) with
   | none=>ext;rfl
   | some c=>ext;rfl
 . ext;rw[QB (by rw[Hi m c hc]) hm hw];ext;rw[Xj,decide_eq_decide.mpr (Th rs)];ext;rw[BX]
   by_cases h:iC b c w∈rs
   . rw[decide_eq_true h];rfl
   . rw[decide_eq_false h];rfl
theorem Wx:(brk b w rs m).isNone=(lK rs m).all λc=>decide (iC b c w∈rs):=by
 unfold brk
 cases h:(lK rs m).find? λc=>!decide (iC b c w∈rs) with
 | none=>
  have:=oj.mp h;symm;show _=true;rw[fb];intro c hc;have:=this c hc;simpa using this
 | some c=>
  have h1:=ve h;have h2:=mT h;symm;show _=false;rw[<- Bool.not_eq_true,fb];intro z;have:=z c h2;rw[this] at h1;cases h1
theorem YW:inY (.int x) (.dict (mk ks))= .ok (.bool (decide (x∈ks))):=by
 show AI.ok (ab.bool ((cR (.inl x) (mk ks)).isSome))=_;rw[Ej]
theorem Sw(h:W<=100000):Gk (.int (((W:Nat):Int) - 1)) (.int (-1)) (.int (-1))= .ok ((List.range W).map λi=>ab.int (((W:Nat):Int) - 1 - (i:Nat))):=by
 have e:dA (((W:Nat):Int) - 1) (-1) (-1)=((W:Nat):Int):=by
  unfold dA;simp;lia
 show gd ((-1:Int)≠0/\(-1:Int).natAbs<1073741824/\Builtin.Range.small (((W:Nat):Int) - 1) (-1) (-1)=true/\0<=dA (((W:Nat):Int) - 1) (-1) (-1)) (AI.ok ((List.range (dA (((W:Nat):Int) - 1) (-1) (-1)).toNat).map λj=>ab.int (((W:Nat):Int) - 1+(j:Nat)*(-1))))=_;rw[e,bD ⟨by decide,by decide,by unfold Builtin.Range.small;simp only[ox];simp;lia,by lia⟩,cE];congr 1;exact cn λi _=>by congr 1;lia
noncomputable def lX(U:B3)(ws:B5):B3:=ws.foldl (λU w=>tU ((w:Nat):Int) U) U
variable {U:B3}
theorem uY:lX U (hs++[w])=tU ((w:Nat):Int) (lX U hs):=by rw[lX,fS];rfl
theorem vR(ws:B5):x∈lX U ws↔x∈U\/∃w∈ws,x=((w:Nat):Int):=by
 induction ws using snoc_ind with
 | h0=>simp[lX]
 | h ws w ih=>
  rw[uY,Lk,ih];constructor
  . rintro (rfl | h | ⟨v,hv,rfl⟩)
    . exact .inr ⟨w,by simp,rfl⟩
    . exact .inl h
    . exact .inr ⟨v,by simp[hv],rfl⟩
  . rintro (h | ⟨v,hv,rfl⟩)
    . exact .inr (.inl h)
    . rcases cK.mp hv with hv | hv
      . exact .inr (.inr ⟨v,hv,rfl⟩)
      . rw[ay.mp hv];exact .inl rfl
theorem wX(ws:B5):(lX U ws).length<=U.length+ws.length:=by
 induction ws using snoc_ind with
 | h0=>exact aE _
 | h ws w ih=>rw[uY,av,cx];have:=Jo (x:=((w:Nat):Int)) (ks:=lX U ws);lia
noncomputable def dB(n:Nat)(ss:List aF)(o:Nat):Nat->B3
 | 0=>[((o:Nat):Int)]
 | i+1=>if ((n+(ss.length - 1 - i):Nat):Int)∈dB n ss o i then lX (dB n ss o i) ((ss[ss.length - 1 - i]?.map aF.ws).getD []) else dB n ss o i
theorem Lb{o:Nat}(hs:aV j ss):∀i,(dB j ss o i).length<=1+4*i
 | 0=>aE _
 | i+1=>by
  have ih:=Lb (o:=o) hs i;unfold dB;split
  . cases e:ss[ss.length - 1 - i]? with
    | none=>have:=wX (U:=dB j ss o i) [];simp at this ⊢;lia
    | some s=>
     have:=wX (U:=dB j ss o i) s.ws;have ok:=hs _ s e;have:=ok.len;have:=ok.m4;simp;lia
  . lia
theorem abQ(hs:aV W ss)(hl:ss.length<=5000):nq [dC W ss o]= .ok (.dict (mk (dB W ss o ss.length))):=by
 unfold nq;ext;rw[Ql];ext;rw[J5];ext;rw[show ∀Γ:Ev,gv Γ 0=some (dC W ss o)->Ie (ao AQ (aj 0) (eC (.int 2))) (eC (.bool true)) Γ = .ok (.dict (mk [((o:Nat):Int)])) from λΓ h=>by
  rw[Ie,show (ao AQ (aj 0) (eC (.int 2))) Γ = .ok (.int (o:Nat)) by unfold ao aj;rw[h];rfl];rfl]
 . ext;rw[show ∀Γ:Ev,gv Γ 2=some (.tuple (ss.map aF.d))->Bs (ao jb (eFn fL [(aj 2)]) (eC (.int 1))) (eUn LQ (eC (.int 1))) (eUn LQ (eC (.int 1))) Γ = .ok ((List.range ss.length).map λi=>ab.int (((ss.length:Nat):Int) - 1 - (i:Nat))) from λΓ h=>by
    rw[Bs,show (ao jb (eFn fL [(aj 2)]) (eC (.int 1))) Γ = .ok (.int ((ss.length:Int) - 1)) by
     show ((eFn fL [(aj 2)]) Γ).bind _=_;rw[show (eFn fL [(aj 2)]) Γ = .ok (.int ss.length) by
      unfold eFn evs aj;rw[h];show fL [.tuple (ss.map aF.d)]=_;rw[wF,af]]
     rfl]
    exact Sw (by lia)]
   . ext;refine bL (λi=>[some (dC W ss o),some (.int W),some (.tuple (ss.map aF.d)),some (.dict (mk (dB W ss o i))),none,none]) rfl (λi x hx=>?_) ?_
     . obtain ⟨i',ei,rfl⟩:=dh hx;obtain ⟨hi,ei'⟩:i<ss.length/\i'=i:=by
        have:=(aS.mp ei);obtain ⟨h1,h2⟩:=this;rw[c9] at h1;rw[List.getElem_range] at h2;exact ⟨h1,h2.symm⟩
       rw[ei'];have hu:=Lb (o:=o) hs i;ext;rw[show (W:Int)+((ss.length:Int) - 1 - i)=((W+(ss.length - 1 - i):Nat):Int) by lia,YW,show dB W ss o (i+1)=if ((W+(ss.length - 1 - i):Nat):Int)∈dB W ss o i then lX (dB W ss o i) ((ss[ss.length - 1 - i]?.map aF.ws).getD []) else dB W ss o i from rfl]
       by_cases hm:((W+(ss.length - 1 - i):Nat):Int)∈dB W ss o i
       . rw[if_pos hm,decide_eq_true hm];generalize dB W ss o i=U at hu;have hlt:ss.length - 1 - i<ss.length:=by lia
         have es:=ai hlt;generalize ss[ss.length - 1 - i]=s at es;have ok:=hs _ s es;have ln:=ok.len;have m4:=ok.m4;ext;rw[show (ss.length:Int) - 1 - i=((ss.length - 1 - i:Nat):Int) by lia,uG (by rw[br,es];rfl),es];ext;rw[show AQ s.d (.int 1)= .ok (.tuple (dN s.ws)) from rfl];ext;refine bL (λj=>[some (dC W ss o),some (.int W),some (.tuple (ss.map aF.d)),some (.dict (mk (lX U (s.ws.take j)))),some (.int ((ss.length - 1 - i:Nat):Int)),none]) rfl (λj x hx=>?_) ?_
         . obtain ⟨w,ew,rfl⟩:=dh hx;have:=wX (U:=U) (s.ws.take j);rw[c8] at this;ext;rw[J2 rfl rfl rfl (by lia) (of_decide_eq_true rfl)];ext;rw[take_snoc ew,uY]
         . rw[tR,eD];ext;rfl
       . rw[if_neg hm,decide_eq_false hm];ext
     . rw[af,c9];ext
   . rfl
 . rfl
section
variable {n:Nat}
theorem Hn(h:x∈dB n ss o i):x∈dB n ss o (i+1):=by
 unfold dB;split
 . exact (vR _).mpr (.inl h)
 . exact h
theorem Gz:∀d,x∈dB n ss o i->x∈dB n ss o (i+d)
 | 0,h=>h
 | d+1,h=>Hn (Gz d h)
theorem vZ:∀i,((o:Nat):Int)∈dB n ss o i
 | 0=>ay.mpr rfl
 | i+1=>Hn (vZ i)
theorem BJ(hs:aV n ss):∀d,i+d<=ss.length->x∈dB n ss o (i+d)->x∈dB n ss o i\/x<((n+(ss.length - 1 - i):Nat):Int)
 | 0,_,h=>.inl h
 | d+1,hd,h=>by
  have h:x∈dB n ss o (i+d+1):=h;unfold dB at h;split at h
  . rcases (vR _).mp h with h | ⟨w,hw,rfl⟩
    . exact BJ hs d (by lia) h
    . have hlt:ss.length - 1 - (i+d)<ss.length:=by lia
      rw[ai hlt] at hw;have:=(hs _ _ (ai hlt)).lt w hw;right;lia
  . exact BJ hs d (by lia) h
theorem uK(hs:aV n ss)(e:ss[j]?=some s)(h:((n+j:Nat):Int)∈dB n ss o ss.length):∀w∈s.ws,((w:Nat):Int)∈dB n ss o ss.length:=λw hw=>by
 have hj:=(aS.mp e).1;obtain ⟨i,hi⟩:∃i,i=ss.length - 1 - j:=⟨_,rfl⟩;have hj':ss.length - 1 - i=j:=by lia
 have h1:((n+j:Nat):Int)∈dB n ss o i:=by
  rcases BJ hs (i:=i) (ss.length - i) (by lia) (by rw[show i+(ss.length - i)=ss.length by lia];exact h) with h | h
  . exact h
  . rw[hj'] at h;lia
 have h2:((w:Nat):Int)∈dB n ss o (i+1):=by
  rw[dB,hj',if_pos h1,e];exact (vR _).mpr (.inr ⟨w,hw,rfl⟩)
 have:=Gz (ss.length - (i+1)) h2;rwa [show i+1+(ss.length - (i+1))=ss.length by lia] at this
end
noncomputable def dP(ps:List (Nat×Nat)):B0:=ps.map λp=>(ab.int (p.1:Nat),ab.int (p.2:Nat))
noncomputable def lkP(w:Nat):List (Nat×Nat)->Option Nat
 | []=>none
 | p::r=>if p.1=w then some p.2 else lkP w r
theorem Gf(w:Nat):∀ps:List (Nat×Nat),cR (.inl ((w:Nat):Int)) (dP ps)=(lkP w ps).map λv=>ab.int (v:Nat)
 | []=>rfl
 | p::r=>by
  show (if bO (ab.int (p.1:Nat))=some (.inl ((w:Nat):Int)) then some (ab.int (p.2:Nat)) else cR (.inl ((w:Nat):Int)) (dP r))=_;unfold lkP
  by_cases h:p.1=w
  . rw[if_pos (by rw[h];rfl),if_pos h];rfl
  . rw[if_neg (show ¬ (bO (ab.int (p.1:Nat))=some (.inl ((w:Nat):Int))) from λz=>h (zC.inj (l8.inj (Option.some.inj z)))),if_neg h,Gf w r]
theorem Vf(w:Nat):∀ps:List (Nat×Nat),oE (.inl ((w:Nat):Int)) (dP ps)=(lkP w ps).isSome
 | []=>rfl
 | p::r=>by
  show (if bO (ab.int (p.1:Nat))=some (.inl ((w:Nat):Int)) then true else oE (.inl ((w:Nat):Int)) (dP r))=_;unfold lkP
  by_cases h:p.1=w
  . rw[if_pos (by rw[h];rfl),if_pos h];rfl
  . rw[if_neg (show ¬ (bO (ab.int (p.1:Nat))=some (.inl ((w:Nat):Int))) from λz=>h (zC.inj (l8.inj (Option.some.inj z)))),if_neg h,Vf w r]
theorem vm:∀{ps:List (Nat×Nat)},lkP w (ps++[(j,W)])=match lkP w ps with | some u=>some u | none=>if j=w then some W else none
 | []=>rfl
 | p::r=>by
  show (if p.1=w then some p.2 else lkP w (r++[(j,W)]))=match (if p.1=w then some p.2 else lkP w r) with | some u=>some u | none=>if j=w then some W else none
  by_cases h:p.1=w
  . rw[if_pos h,if_pos h]
  . rw[if_neg h,if_neg h,vm]
variable {ps:List (Nat×Nat)}
theorem acQ{v:Nat}{m:ME}(h:m Γ = .ok (.int (j:Nat)))(h':m1 Γ = .ok (.int (v:Nat)))(hg:gv Γ i=some (.dict (dP ps)))(hn:lkP j ps=none)(hl:ps.length<=100000)(hi:i < Γ.length) :
 je i m m1 Γ = .ok (.nx (Γ.set i (some (.dict (dP (ps++[(j,v)])))))):=by
 rw[je,h',AI.aQ,h,AI.aQ,hg];show gd ((dP ps).length<bE/\i < Γ.length) (AI.ok (Out.nx (Γ.set i (some (.dict (gU (.int (j:Nat)) (.inl ((j:Nat):Int)) (.int (v:Nat)) (dP ps)))))))=_;rw[bD ⟨AW (by rw[dP,af];exact hl),hi⟩];rw[gU,Vf,hn,if_neg (by decide)];unfold dP;rw[a7];rfl
noncomputable def rnP(ps:List (Nat×Nat))(s:aF):aF:=⟨s.m,s.b,s.ws.map λw=>(lkP w ps).getD 0⟩
theorem Rx(hw:∀w∈s.ws,(lkP w ps).isSome=true)(hl:s.ws.length<=100):jx [s.d,.dict (dP ps)]= .ok (rnP ps s).d:=by
 unfold jx aF.d;ext;rw[jt (xs:=s.ws) (λw=>ab.int w) (λw=>.int ((lkP w ps).getD 0:Nat)) ?_ (AW (by lia)) λw hw'=>?_]
 rotate_left
 . ext;rfl
 . ext;show (match cR (.inl ((w:Nat):Int)) (dP ps) with | some d=>AI.ok d | none=>.bad)=_;rw[Gf];obtain ⟨v,e⟩:=iq.mp (hw w hw');rw[e];rfl
 ext;unfold rnP dN;rw[de];rfl
noncomputable def gq(n:Nat)(U:B3)(ss:List aF):Nat->List aF×List (Nat×Nat)
 | 0=>([],(List.range n).map λj=>(j,j))
 | i+1=>if ((n+i:Nat):Int)∈U then ((gq n U ss i).1++[rnP (gq n U ss i).2 (ss.getD i ⟨0,0,[]⟩)],(gq n U ss i).2++[(n+i,n+(gq n U ss i).1.length)]) else gq n U ss i
theorem rJ:∀l:B5,lkP w (l.map λj=>(j,j))=if w∈l then some w else none
 | []=>rfl
 | j::r=>by
  show (if j=w then some j else lkP w (r.map λj=>(j,j)))=_;rw[rJ r]
  by_cases h:j=w
  . rw[if_pos h,if_pos (by rw[h];exact b9),h]
  . rw[if_neg h]
    by_cases h2:w∈r
    . rw[if_pos h2,if_pos (cf _ h2)]
    . rw[if_neg h2,if_neg (λz=>(cp.mp z).elim (λz=>h z.symm) h2)]
theorem zu(h:((j+i:Nat):Int)∈U):gq j U ss (i+1)=((gq j U ss i).1++[rnP (gq j U ss i).2 (ss.getD i ⟨0,0,[]⟩)],(gq j U ss i).2++[(j+i,j+(gq j U ss i).1.length)]):=by
 show (if _ then _ else _)=_;rw[if_pos h]
theorem wI(h:((j+i:Nat):Int)∉U):gq j U ss (i+1)=gq j U ss i:=by
 show (if _ then _ else _)=_;rw[if_neg h]
structure afp (n:Nat) (U:B3) (i:Nat) (a:List aF×List (Nat×Nat)):Prop where
 st:aV n a.1
 len:a.1.length<=i
 pl:a.2.length<=n+i
 has:∀w,w<n+i->(w<n\/((w:Nat):Int)∈U)->∃v,lkP w a.2=some v/\v<n+a.1.length
 new:∀w,n+i<=w->lkP w a.2=none
def Kc(n:Nat)(U:B3)(ss:List aF):Prop:=∀j s,ss[j]?=some s->((n+j:Nat):Int)∈U->∀w∈s.ws,w<n\/((w:Nat):Int)∈U
theorem qW(hs:aV W ss)(hc:Kc W U ss):∀i,i<=ss.length->afp W U i (gq W U ss i)
 | 0,_=>by
  refine ⟨aV.nil,aE _,by show ((List.range W).map _).length<=_;rw[af,c9];exact aE _,λw hw _=>⟨w,?_,hw⟩,λw hw=>?_⟩
  . show lkP w ((List.range W).map λj=>(j,j))=_;rw[rJ,if_pos (dn.mpr (show w<W from hw))]
  . show lkP w ((List.range W).map λj=>(j,j))=_;rw[rJ,if_neg (λz=>by have:=dn.mp z;lia)]
 | i+1,hi=>by
  obtain ⟨a1,a2,a3,a4,a5⟩:=qW hs hc i (by lia)
  by_cases h:((W+i:Nat):Int)∈U
  . have es:ss[i]?=some ss[i]:=ai (by lia);rw[zu h,show ss.getD i ⟨0,0,[]⟩=ss[i] by rw[ae,es];rfl];generalize ss[i]=s at es;have ok:=hs i s es;have cl:=hc i s es h;generalize gq W U ss i=a at a1 a2 a3 a4 a5;refine ⟨a1.snoc ⟨ok.m4,by show (s.ws.map _).length=_;rw[af];exact ok.len,λk hk=>?_,ok.b0,ok.b1⟩,by simp;lia,by simp;lia,λw hw hu=>?_,λw hw=>?_⟩
    . obtain ⟨w,hw,rfl⟩:=cc.mp hk;obtain ⟨v,e,hv⟩:=a4 w (ok.lt w hw) (cl w hw);rw[e];exact hv
    . rw[av,cx]
      by_cases hlt:w<W+i
      . obtain ⟨v,e,hv⟩:=a4 w hlt hu;exact ⟨v,by rw[vm,e],by lia⟩
      . have ew:w=W+i:=by lia
        subst ew;exact ⟨W+a.1.length,by rw[vm,a5 _ (aE _),if_pos rfl],by lia⟩
    . rw[vm,a5 w (by lia),if_neg (by lia)]
  . rw[wI h];refine ⟨a1,by lia,by lia,λw hw hu=>a4 w ?_ hu,λw hw=>a5 w (by lia)⟩;rcases gu w (W+i) with z | z
    . exact z
    . have ew:w=W+i:=by lia
      subst ew;rcases hu with hu | hu
      . lia
      . exact absurd hu h
theorem yO{β:Type}{φ:Nat->Int->List β->β}{z:β}{base:List β}(hb:base.length=W)(hs:aV W ss)(hc:Kc W U ss):∀i,i<=ss.length->∀w v,w<W+i->(w<W\/((w:Nat):Int)∈U)->lkP w (gq W U ss i).2=some v->(cO φ z base (gq W U ss i).1).getD v z=(cO φ z base ss).getD w z
 | 0,_,w,v,hw,_,e=>by
  have e:lkP w ((List.range W).map λj=>(j,j))=some v:=e;rw[rJ,if_pos (dn.mpr (show w<W from hw))] at e;cases e;have:=nW (φ:=φ) (z:=z) hb (AF:=[]) hw ss;exact this.symm
 | i+1,hi,w,v,hw,hu,e=>by
  obtain ⟨a1,a2,a3,a4,a5⟩:=qW hs hc i (by lia);have ih:=yO (φ:=φ) (z:=z) hb hs hc i (by lia)
  by_cases h:((W+i:Nat):Int)∈U
  . have es:ss[i]?=some ss[i]:=ai (by lia);rw[zu h,show ss.getD i ⟨0,0,[]⟩=ss[i] by rw[ae,es];rfl] at e ⊢;generalize ss[i]=s at es e;have ok:=hs i s es;have cl:=hc i s es h;generalize gq W U ss i=a at a1 a2 a3 a4 a5 ih e;rw[vm] at e
    by_cases hlt:w<W+i
    . obtain ⟨v',e',hv⟩:=a4 w hlt hu;rw[e'] at e;cases e;rw[nW hb hv];exact ih w v hlt hu e'
    . have ew:w=W+i:=by lia
      subst ew;rw[a5 _ (aE _),if_pos rfl] at e;cases e;rw[ye hb,fold_at hb ss hs i s es];show φ s.m s.b ((s.ws.map _).map _)=_;rw[de];congr 1;refine cn λw hw=>?_;obtain ⟨v,e,hv⟩:=a4 w (ok.lt w hw) (cl w hw);show (cO φ z base a.1).getD ((lkP w a.2).getD 0) z=_;rw[e];exact ih w v (ok.lt w hw) (cl w hw) e
  . rw[wI h] at e ⊢;refine ih w v ?_ hu e;rcases gu w (W+i) with y | y
    . exact y
    . have ew:w=W+i:=by lia
      subst ew;rcases hu with hu | hu
      . lia
      . exact absurd hu h
theorem K6{n:Nat}(hs:aV n ss)(hn:n<=100)(hl:ss.length<=5000)(ho:o<n+ss.length) :
 fW [dC n ss o]= .ok (dC n (gq n (dB n ss o ss.length) ss ss.length).1 ((lkP o (gq n (dB n ss o ss.length) ss ss.length).2).getD 0)):=by
 have hc:Kc n (dB n ss o ss.length) ss:=λj s e h w hw=>.inr (uK hs e h w hw);have ho':=vZ (n:=n) (ss:=ss) (o:=o) ss.length;unfold fW;ext;rw[Ql];ext;rw[abQ hs hl];generalize dB n ss o ss.length=U at hc ho';ext;rw[dD (by lia)];ext;refine bL (λi=>[some (dC n ss o),some (.int n),some (.dict (mk U)),some (.dict (dP ((List.range i).map λj=>(j,j)))),none,none,none,none]) rfl (λi x hx=>?_) ?_
 . obtain ⟨hi,rfl⟩:=jQ hx;ext;rw[acQ rfl rfl rfl (by rw[rJ,if_neg (λz=>by have:=dn.mp z;lia)]) (by rw[af,c9];lia) (of_decide_eq_true rfl)];ext;rw[lT,a7];rfl
 . rw[fj];ext;rw[J5];ext;rw[Bd];ext;refine bL (λi=>[some (dC n ss o),some (.int n),some (.dict (mk U)),some (.dict (dP (gq n U ss i).2)),none,some (.list ((gq n U ss i).1.map aF.d)),none,none]) rfl (λi x hx=>?_) ?_
   . obtain ⟨d,hd,rfl⟩:=Tu hx;obtain ⟨s,es,rfl⟩:=dh hd;have hi:=(aS.mp es).1;have ok:=hs i s es;have m4:=ok.m4;have ln:=ok.len;have u:=qW hs hc i (by lia);have u2:=u.len;have u3:=u.pl;ext;rw[show (n:Int)+i=((n+i:Nat):Int) by lia,YW]
     by_cases h:((n+i:Nat):Int)∈U
     . rw[decide_eq_true h,zu h,show ss.getD i ⟨0,0,[]⟩=s by rw[ae,es];rfl];have cl:=hc i s es h;generalize gq n U ss i=a at u u2 u3;ext;rw[Rx (λw hw=>by obtain ⟨v,e,_⟩:=u.has w (ok.lt w hw) (cl w hw);rw[e];rfl) (by lia)];ext;rw[bD (AW (by lia))];ext;rw[acQ (v:=n+a.1.length) (by ext;congr 1) (by ext;congr 2;rw[av,af,cx];lia) rfl (u.new _ (aE _)) (by lia) (of_decide_eq_true rfl)];ext;rw[a7];rfl
     . rw[decide_eq_false h,wI h];ext
   . rw[Jf,af];have u:=qW hs hc ss.length (aE _);obtain ⟨v,e,_⟩:=u.has o ho (.inr ho');ext;rw[Qh];ext;rw[show ixY (.dict (dP (gq n U ss ss.length).2)) (.int (o:Nat))= .ok (.int (v:Nat)) from by
      show (match cR (.inl ((o:Nat):Int)) (dP (gq n U ss ss.length).2) with | some d=>AI.ok d | none=>.bad)=_;rw[Gf,e];rfl,e]
     rfl
structure Alike (n:Nat) (ss:List aF) (o:Nat) (ss':List aF) (o':Nat):Prop where
 ok:aV n ss'
 lt:o'<n+ss'.length
 same:∀{β:Type} (φ:Nat->Int->List β->β) (z:β) (base:List β),base.length=n->(cO φ z base ss').getD o' z=(cO φ z base ss).getD o z
theorem W0(hn:j<=4)(hs:aV j ss)(hl:ss.length<=600)(ho:o<j+ss.length):Zi (dC j ss o)=true:=by
 show ((decide ((0:Int)<=(j:Nat))&&decide (((j:Nat):Int)<5))&&decide ((ss.map aF.d).length<=600)&&(List.range (ss.map aF.d).length).all (λi=>pg ((ss.map aF.d).getD i .none) (((j:Nat):Int)+(i:Nat)))&&gw (.int (o:Nat)) (((j:Nat):Int)+(ss.map aF.d).length))=true;rw[af,decide_eq_true (by lia),decide_eq_true (by lia),decide_eq_true hl];have e:gw (.int (o:Nat)) (((j:Nat):Int)+(ss.length:Nat))=true:=decide_eq_true (by lia);rw[e,Bool.and_true,xt,xt,xt,fb];intro i hi;have hi:=dn.mp hi;have es:=ai hi;rw[ae,br,es];generalize ss[i]=s at es;have ok:=hs i s es;have m4:=ok.m4;have ln:=ok.len;show (zR (dG s.m s.b)&&Lq (.tuple (dN s.ws)) (Qa (dG s.m s.b)) _)=true;rw[dS];constructor
 . exact decide_eq_true ⟨by lia,by lia,ok.b0,by rw[cE];exact ok.b1⟩
 . show (decide (((dN s.ws).length:Int)=((s.m:Nat):Int))&&(dN s.ws).all λd=>gw d _)=true;rw[tR,decide_eq_true (by lia),xt,fb];intro d hd;obtain ⟨w,hw,rfl⟩:=cc.mp hd;have:=ok.lt w hw;exact decide_eq_true (by lia)
theorem WK(h:j^m<=B)(hB:1<=B)(hi:i<=m):j^i<=B:=by
 by_cases h0:j=0
 . subst h0;exact dy (by cases i with | zero=>exact aE _ | succ i=>rw[Nat.zero_pow (Nat.succ_pos i)];exact kN _) hB
 . exact dy (fx (Nat.pos_of_ne_zero h0) hi) h
theorem Ms(he:∀rs,Az (enc rs)= .ok (rs.map ab.int))(hr:∀rs∈cs,rs.length<=256)(hm:cs.length<=4)(hL:∀i,i<cs.length->(cQ (cs.take i)).length<=20000):iM [.list (cs.map enc)]= .ok (.list ((cQ cs).map dL)):=by
 unfold iM;ext;refine bL (λi=>[some (.list (cs.map enc)),some (.list ((cQ (cs.take i)).map dL)),none,none,none,none]) rfl (λi x hx=>?_) ?_
 . obtain ⟨rs,ers,rfl⟩:=dh hx;have hi:=(aS.mp ers).1;have hrs:=hr rs (eL ers);have L0:=hL i hi;ext;refine bL (λj=>[some (.list (cs.map enc)),some (.list ((cQ (cs.take i)).map dL)),some (enc rs),some (.list ((jd rs ((cQ (cs.take i)).take j)).map dL)),none,none]) rfl (λj x hx=>?_) ?_
   . obtain ⟨c,ec,rfl⟩:=dh hx;have hc:=CP (eL ec);rw[c8] at hc;have Lj:(jd rs ((cQ (cs.take i)).take j)).length<=5200000:=by
      rw[tY,c8];exact dy (zo (dy (xA _ _) L0) hrs) (by decide)
     ext;rw[he];ext;refine bL (λk=>[some (.list (cs.map enc)),some (.list ((cQ (cs.take i)).map dL)),some (enc rs),some (.list ((jd rs ((cQ (cs.take i)).take j)++(rs.take k).map λr=>c++[r]).map dL)),some (dL c),none]) ?_ (λk x hx=>?_) ?_
     . rw[mE,ft,dr]
     . obtain ⟨r,er,rfl⟩:=dh hx;have hk:=(aS.mp er).1;ext;rw[acE (by lia)];ext;rw[bD (ki (show _<=5300000 by rw[av,af,c8];lia) (by decide))];ext;rw[take_snoc er,a7 (f:=λr=>c++[r]),<- d5,a7 (l₂:=List.map (λr=>c++[r]) [r])];rfl
     . rw[af,eD];ext;rw[take_snoc ec,Dm]
   . rw[af,eD];ext;rw[take_snoc ers,m7]
 . rw[af,eD];ext
theorem uC(h:rs∈gH old xs j p):rs.length<=old.length+xs.length:=by
 rcases cK.mp h with h | h
 . rcases cK.mp h with h | h
   . rw[(qA.mp h).2];lia
   . rw[ay.mp h];lia
 . rw[(qA.mp h).2,av];exact aE _
theorem R0(hB:∀rs∈cs,rs.length<=B)(hp:B^cs.length<=20000)(hi:i<=cs.length):(cQ (cs.take i)).length<=20000:=by
 have:=xW (cs:=cs.take i) (λrs h=>hB rs (lj h));rw[c8,va hi] at this;exact dy this (WK hp (by decide) hi)
theorem Km(hB:∀rs∈cs,rs.length<=B)(hp:B^cs.length<=20000):(cQ cs).length<=20000:=dy (xW hB) hp
theorem places_len(hp:(old.length+xs.length)^j<=20000):∀k,k<=j->(((List.range k).flatMap λp=>cQ (gH old xs j p))).length<=k*20000:=λk=>by
 induction k with
 | zero=>intro _;simp
 | succ k ih=>
  intro hk;rw[lT,pj,av,yv];have h1:=ih (by lia);have h2:(cQ (gH old xs j k)).length<=20000:=Km (λrs h=>uC h) (by rw[iW (by lia)];exact hp);have e:([k].flatMap λp=>cQ (gH old xs j p)).length=(cQ (gH old xs j k)).length:=by simp
  rw[e];lia
theorem Fo(hb:old.length+xs.length<=128)(hn:W<=4)(hp:(old.length+xs.length)^W<=20000):mz [dL old,dL xs,.int (W:Nat)]= .ok (.list ((j9 old xs W).map dL)):=by
 unfold mz;ext;rw[dD (by lia)];ext;refine bL (λi=>[some (dL old),some (dL xs),some (.int W),some (.list (((List.range i).flatMap λp=>cQ (gH old xs W p)).map dL)),none]) rfl (λi x hx=>?_) ?_
 . obtain ⟨hi,rfl⟩:=jQ hx;have e1:(W:Int) - (i:Nat) - 1=((W - i - 1:Nat):Int):=by lia
   have ec:evs [ao cJ (ao cJ (ao vY (bU [aj 0]) (aj 4)) (bU [aj 1])) (ao vY (bU [ao cJ (aj 0) (aj 1)]) (ao jb (ao jb (aj 2) (aj 4)) (eC (.int 1))))] [some (dL old),some (dL xs),some (.int (W:Nat)),some (.list (((List.range i).flatMap λp=>cQ (gH old xs W p)).map dL)),some (.int (i:Nat))]= .ok [.list ((gH old xs W i).map dL)]:=by
    ext;rw[e1,rep1 (by lia)];ext;rw[qN (by rw[ck];show i+1<=1000;lia)];ext;rw[show cJ (dL old) (dL xs)= .ok (dL (old++xs)) by unfold dL;rw[qN (by rw[af,af];lia),a7]];ext;rw[rep1 (by lia)];ext;rw[qN (by rw[av,ck,ck];show i+1+_<=1000;lia)];rw[gH,a7,a7,k7,k7];rfl
   have L0:=places_len hp i (by lia);have L1:=Km (λrs h=>uC h) (by rw[iW hi];exact hp);rw[Ca];ext;rw[ZV (es:=(cQ (gH old xs W i)).map dL) ?_ rfl ?_ (of_decide_eq_true rfl)]
   . ext;rw[lT,pj,a7];simp
   . rw[mQ,ec,AI.aQ];exact Ms (λrs=>rfl) (λrs h=>dy (uC h) (by lia)) (by rw[iW hi];exact hn) (λj hj=>R0 (λrs h=>uC h) (by rw[iW hi];exact hp) (l9 hj))
   . rw[af,af];exact dy (show _<=400000 by lia) (by decide)
 . rw[fj];ext;rfl
def iR(n:Nat)(gs:A9):Prop:=128<n\/20000<kZ n gs
theorem Ud(h:j<=W)(gs:A9):kZ j gs<=kZ W gs:=by
 unfold kZ
 induction gs with
 | nil=>exact aE _
 | cons g gs ih=>
  rw[bo,kb,bo,kb];exact Nat.add_le_add (pv h _) ih
variable {g:Nat×Int}
theorem Vs(h:g∈gs):j^g.1<=kZ j gs:=by
 unfold kZ
 induction gs with
 | nil=>cases h
 | cons q gs ih=>
  rw[bo,kb];rcases cp.mp h with rfl | h
  . lia
  . have:=ih h;lia
noncomputable def gtC:ME:=eOr (ao gtD (aj 0) (eC (.int 128))) (ao gtD (aM jn [(aj 0),(aj 1)]) (eC (.int 20000)))
theorem aaZ(h:iR j gs)(hg:gs.length<=100)(hm:∀g∈gs,g.1<=4):gtC [some (.int (j:Nat)),some (.list (gs.map AS))]= .ok (.bool true):=by
 unfold gtC;ext
 by_cases hn:128<j
 . rw[decide_eq_true (show (128:Int)<j by lia)];ext
 . rw[decide_eq_false (show ¬ (128:Int)<j by lia)];ext;rw[rO (by lia) hg hm];ext;rcases h with h | h
   . exact absurd h hn
   . rw[decide_eq_true (show (20000:Int)<(kZ j gs:Nat) by lia)]
theorem ach{c:ME}(h:c Γ = .ok (.bool true)):sIf c FJ cB Γ = .bad:=by
 rw[NB,h];rfl
theorem Nt(h:iR j gs)(hg:gs.length<=100)(hm:∀g∈gs,g.1<=4):fD [.int (j:Nat),.list (gs.map AS)]= .bad:=by
 show AI.bind (sIf gtC FJ cB [some (.int (j:Nat)),some (.list (gs.map AS))]) _=_;rw[ach (aaZ h hg hm)];rfl
structure Way where
 c:Nat
 g:Option (Nat×Int)
 ts:B3
abbrev A6:=List (Int×Way)
noncomputable def gD:Option (Nat×Int)->ab
 | none=>.none
 | some g=>AS g
noncomputable def wD(w:Way):ab:=.tuple [.int (w.c:Nat),gD w.g,dR w.ts]
noncomputable def AU(ws:A6):B0:=ws.map λq=>(ab.int q.1,wD q.2)
noncomputable def lk(t:Int):A6->Option Way
 | []=>none
 | (k,w)::r=>if k=t then some w else lk t r
variable {t:Int}
theorem Rt:∀ws:A6,cR (.inl t) (AU ws)=(lk t ws).map wD
 | []=>rfl
 | (k,w)::r=>by
  show (if bO (.int k)=some (.inl t) then some (wD w) else cR (.inl t) (AU r))=_;unfold lk
  by_cases h:k=t
  . subst h;rw[if_pos (show bO (.int k)=some (.inl k) from rfl),if_pos rfl];rfl
  . rw[if_neg (show ¬ bO (.int k)=some (.inl t) from λz=>h (l8.inj (Option.some.inj z))),if_neg h];exact Rt r
theorem Ck{w:Way}:∀{ws:A6},lk t ws=some w->(t,w)∈ws
 | (k,w')::r,h=>by
  unfold lk at h
  by_cases e:k=t
  . rw[if_pos e] at h;cases h;subst e;exact b9
  . rw[if_neg e] at h;exact cf _ (Ck h)
theorem rB:∀{ws:A6},(lk t ws).isSome=true↔t∈ws.map (·.1)
 | []=>by simp[lk]
 | (k,w')::r=>by
  unfold lk
  by_cases e:k=t
  . rw[if_pos e];simp[e]
  . rw[if_neg e,rB];simp[nK e]
variable {ws:A6}
theorem zG:lk t ws=none↔t∉ws.map (·.1):=by
 rw[<- rB];cases lk t ws <;> simp
theorem qO{w:Way}:∀{ws:A6},(ws.map (·.1)).Nodup->(t,w)∈ws->lk t ws=some w
 | (k,w')::r,hn,h=>by
  unfold lk;rw[bo,ng] at hn;rcases cp.mp h with e | h
  . cases e;rw[if_pos rfl]
  . rw[if_neg (λz=>hn.1 (by rw[z];exact cc.mpr ⟨_,h,rfl⟩))];exact qO hn.2 h
noncomputable def yI(t:Int)(w:Way)(ws:A6):A6:=ws.map λq=>if q.1=t then (q.1,w) else q
noncomputable def iz(t:Int)(w:Way)(ws:A6):A6:=if (lk t ws).isSome=true then yI t w ws else ws++[(t,w)]
theorem Ti:∀ws:A6,oE (.inl t) (AU ws)=(lk t ws).isSome
 | []=>rfl
 | (k,w)::r=>by
  show (if bO (.int k)=some (.inl t) then true else oE (.inl t) (AU r))=_;unfold lk
  by_cases h:k=t
  . subst h;rw[if_pos (show bO (.int k)=some (.inl k) from rfl),if_pos rfl];rfl
  . rw[if_neg (show ¬ bO (.int k)=some (.inl t) from λz=>h (l8.inj (Option.some.inj z))),if_neg h];exact Ti r
theorem Uu{w:Way}:∀ws:A6,uM (.inl t) (wD w) (AU ws)=AU (yI t w ws)
 | []=>rfl
 | (k,w')::r=>by
  show (if bO (.int k)=some (.inl t) then (ab.int k,wD w) else (.int k,wD w'))::uM (.inl t) (wD w) (AU r)=_;rw[Uu r];show _=(ab.int (if k=t then (k,w) else (k,w')).1,wD (if k=t then (k,w) else (k,w')).2)::AU (yI t w r)
  by_cases h:k=t
  . subst h;rw[if_pos (show bO (.int k)=some (.inl k) from rfl),if_pos rfl]
  . rw[if_neg (show ¬ bO (.int k)=some (.inl t) from λz=>h (l8.inj (Option.some.inj z))),if_neg h]
theorem Y5{w:Way}:gU (.int t) (.inl t) (wD w) (AU ws)=AU (iz t w ws):=by
 unfold gU iz;rw[Ti];split
 . exact Uu ws
 . unfold AU;rw[a7];rfl
noncomputable def cD(ws:A6)(q:Int×Way):A6:=match lk q.1 ws with
 | none=>iz q.1 q.2 ws
 | some w0=>if q.2.c<w0.c then iz q.1 q.2 ws else ws
theorem z7:(AU ws).length=ws.length:=by rw[AU,af]
theorem YG{w:Way}(h2:m2 Γ = .ok (wD w))(h1:m1 Γ = .ok (.int t))(hg:gv Γ i=some (.dict (AU ws)))(hl:ws.length<=100000)(hi:i < Γ.length):je i m1 m2 Γ = .ok (.nx (Γ.set i (some (.dict (AU (iz t w ws)))))):=by
 rw[je,h2,AI.aQ,h1,AI.aQ,hg];show gd ((AU ws).length<bE/\i < Γ.length) (AI.ok (Out.nx (Γ.set i (some (.dict (gU (.int t) (.inl t) (wD w) (AU ws)))))))=_;rw[bD ⟨by rw[z7];exact AW hl,hi⟩,Y5]
theorem YM{w:Way}(h:lk t ws=some w):ixY (.dict (AU ws)) (.int t)= .ok (wD w):=by
 show (match cR (.inl t) (AU ws) with
  | some d=>AI.ok d
  | none=>.bad)=_
 rw[Rt,h];rfl
theorem Px:lV (.int t) (.dict (AU ws))= .ok (.bool (!(lk t ws).isSome)):=by
 show AI.ok (ab.bool (!(cR (.inl t) (AU ws)).isSome))=_;rw[Rt,kH]
theorem RJ{w:Way}:AQ (wD w) (.int 0)= .ok (.int (w.c:Nat)):=rfl
theorem aby{w:Way}(hl:ws.length<=100000):mR [.dict (AU ws),.int t,wD w]= .ok (.tuple [.none,.dict (AU (cD ws (t,w)))]):=by
 show AI.bind (sIf _ _ _ [some (.dict (AU ws)),some (.int t),some (wD w)]) _=_;ext;rw[Px];ext;unfold cD
 cases h:lk t ws with
 | none=>
  ext;rw[show (!(none:Option Way).isSome)=true from rfl];ext;rw[YG rfl rfl rfl hl (of_decide_eq_true rfl)];rfl
 | some w0=>
  rw[show (!(some w0:Option Way).isSome)=false from rfl];ext;rw[RJ,YM h];ext;rw[RJ];ext
  by_cases lt:w.c<w0.c
  . rw[if_pos lt,decide_eq_true (show (w.c:Int)<(w0.c:Int) by lia)];ext;rw[YG rfl rfl rfl hl (of_decide_eq_true rfl)];rfl
  . rw[if_neg lt,decide_eq_false (show ¬ (w.c:Int)<(w0.c:Int) by lia)];ext
theorem BL{ms:List ME}{w:Way}(h:evs ms Γ = .ok [.dict (AU ws),.int t,wD w])(hl:ws.length<=100000):yh i mR ms Γ = .ok (.nx (Γ.set i (some (.dict (AU (cD ws (t,w))))))):=by
 rw[yh,h,AI.aQ,aby hl];rfl
variable {q:Int×Way}
theorem Vz:(cD ws q).length<=ws.length+1:=by
 have hp:(iz q.1 q.2 ws).length<=ws.length+1:=by
  unfold iz yI;split
  . rw[af];lia
  . rw[av];exact aE _
 unfold cD;split
 . exact hp
 . split
   . exact hp
   . lia
noncomputable def cT(n:Nat):B3:=(List.range n).map λj=>ir n j
noncomputable def fK:Way:=⟨0,none,[]⟩
noncomputable def wK(n:Nat):A6:=((cT n).map λt=>(t,fK)).foldl cD []
noncomputable def qm(gs:A9)(n:Nat):A6:=(gs.filter λg=>decide (g.1=0)).map λg=>(cA g.2 [] n,⟨1,some g,[]⟩)
noncomputable def nO(gs:A9)(n:Nat):A6:=(qm gs n).foldl cD (wK n)
theorem wJ:∀{qs ws:A6},(qs.foldl cD ws).length<=ws.length+qs.length
 | [],ws=>aE _
 | q::qs,ws=>by
  rw[p9,a9];have h1:=wJ (qs:=qs) (ws:=cD ws q);have h2:=Vz (ws:=ws) (q:=q);lia
theorem JH{n:Nat}(hn:n<=4)(hg:gs.length<=100):lr [.list (gs.map AS),.int (n:Nat)]= .ok (.dict (AU (nO gs n))):=by
 unfold lr;ext;rw[show jC [] [some (.list (gs.map AS)),some (.int (n:Nat)),none,none,none]= .ok (.dict (AU [])) from rfl];ext;rw[vH hn];ext;have hb:(cT n).length=n:=by rw[cT,af,c9]
 refine bL (xs:=(cT n).map ab.int) (λi=>[some (.list (gs.map AS)),some (.int n),some (.dict (AU ((((cT n).take i).map λt=>(t,fK)).foldl cD []))),none,none]) rfl (λi x hx=>?_) ?_
 . obtain ⟨t,et,rfl⟩:=dh hx;have hi:=(aS.mp et).1;have hl:=wJ (qs:=((cT n).take i).map λt=>(t,fK)) (ws:=[]);rw[af,c8,lS] at hl;rw[Ca];show AI.bind (AI.bind (AI.ok ([some (.list (gs.map AS)),some (.int (n:Nat)),some (.dict (AU ((((cT n).take i).map λt=>(t,fK)).foldl cD []))),some (.int t),none]:Ev)) _) _=_;rw[AI.aQ,BL (w:=fK) rfl (by lia),take_snoc et,a7,fS];rfl
 . rw[af,eD];ext;refine bL (λi=>[some (.list (gs.map AS)),some (.int n),some (.dict (AU ((qm (gs.take i) n).foldl cD (wK n)))),none,none]) rfl (λi x hx=>?_) ?_
   . obtain ⟨g,eg,rfl⟩:=dh hx;have hi:=(aS.mp eg).1;have hl0:=wJ (qs:=(cT n).map λt=>(t,fK)) (ws:=[]);rw[af,lS] at hl0;have agI:(wK n).length<=n:=by show (((cT n).map λt=>(t,fK)).foldl cD []).length<=n;lia
     have hlc:(qm (gs.take i) n).length<=i:=by
      rw[qm,af];exact dy (sj _ _) (by rw[c8];exact Nat.min_le_left _ _)
     have hl:=wJ (qs:=qm (gs.take i) n) (ws:=wK n);have hc:qm (gs.take (i+1)) n=qm (gs.take i) n++if g.1=0 then [(cA g.2 [] n,⟨1,some g,[]⟩)] else []:=by
      rw[qm,take_snoc eg,List.filter_append,a7];congr 1
      by_cases h:g.1=0
      . rw[iP (by simpa using h),if_pos h];rfl
      . rw[gL (by simpa using h),if_neg h];rfl
     rw[hc,fS];generalize (qm (gs.take i) n).foldl cD (wK n)=ws at hl ⊢;rw[Ca];show AI.bind (AI.bind (AI.ok ([some (.list (gs.map AS)),some (.int (n:Nat)),some (.dict (AU ws)),none,some (dG g.1 g.2)]:Ev)) _) _=_;rw[AI.aQ];ext
     by_cases h:g.1=0
     . rw[decide_eq_true (show (g.1:Int)=0 by lia),if_pos h];ext;have ea:evs [(aj 2),(aM pA [(aj 4),(bU []),(aj 1)]),(bM [(eC (.int 1)),(aj 4),(bM [])])] [some (.list (gs.map AS)),some (.int (n:Nat)),some (.dict (AU ws)),none,some (dG g.1 g.2)]= .ok [.dict (AU ws),.int (cA g.2 [] n),wD ⟨1,some g,[]⟩]:=by
        ext;rw[show ab.list []=dL [] from rfl,Ia (by rw[h];rfl) (by lia) hn];ext;rfl
       rw[BL ea (by lia)];rfl
     . rw[decide_eq_false (show ¬ (g.1:Int)=0 by lia),if_neg h];ext;rfl
   . rw[af,eD];ext;rfl
noncomputable def aR(ws:A6):B3:=ws.map (·.1)
noncomputable def lH(fs:A6)(t:Int):Nat:=((lk t fs).map (·.c)).getD 0
noncomputable def j0(fs:A6)(c:B3):Nat:=(c.map λp=>lH fs p).sum
noncomputable def j7(fs:A6)(t:Int):B3:=(aR fs).filter λk=>!decide (k=t)
noncomputable def qC(fs:A6)(g:Nat×Int)(n:Nat)(c:B3):Option (Int×Way):=if (lk (cA g.2 c n) fs).isSome=true then none else some (cA g.2 c n,⟨1+j0 fs c,some g,c⟩)
noncomputable def vW(fs:A6)(t:Int)(g:Nat×Int)(n:Nat):A6:=(j9 (j7 fs t) [t] g.1).filterMap (qC fs g n)
noncomputable def qD(q:Int×Way):ab:=.tuple [.int q.1,wD q.2]
theorem Jp:∀ns:B5,(ns.map λk=>((k:Nat):Int)).sum=((ns.sum:Nat):Int)
 | []=>rfl
 | k::ns=>by rw[bo,kb,Jp ns,kb,ze]
theorem Yh{a b:ab}{q:List (Option ab)}(hl:ws.length<=128):cC (itK 0) (gN 0) (ao neD (aj 0) (aj 1)) (aj 0) 1 [1] (some (.dict (AU ws))::some (.int t)::q)= .ok (dL (j7 ws t)):=by
 rw[qK (xs:=aR ws) ab.int (λk=>!decide (k=t)) ab.int ?_ (AW (by rw[aR,af];lia)) (λk hk=>?_) λk hk h=>?_]
 . rfl
 . show AI.ok ((AU ws).map (·.1))=_;unfold AU aR;rw[de,de];rfl
 . ext
 . ext
theorem acJ{α β:Type}{f:α->Option β}{a:α}:List.filterMap f [a]=(f a).toList:=by cases h:f a <;> simp[h]
theorem Ni{fs:A6}(hl:fs.length<=128)(hm:g.1<=4)(hn:j<=4)(ho:(j7 fs t).length+1<=fs.length)(hp:fs.length^g.1<=20000)(ht:t∈aR fs) :
 jR [.dict (AU fs),.int t,dG g.1 g.2,.int (j:Nat)]= .ok (.list ((vW fs t g j).map qD)):=by
 have hp':((j7 fs t).length+[t].length)^g.1<=20000:=dy (pv ho _) hp;have hfl:(j9 (j7 fs t) [t] g.1).length<=80000:=by
  have:=places_len hp' g.1 (aE _);show ((List.range g.1).flatMap λp=>cQ (gH (j7 fs t) [t] g.1 p)).length<=_;lia
 unfold jR;ext;rw[Yh (a:=.none) (b:=.none) hl];ext;rw[show ab.list [.int t]=dL [t] from rfl,Fo (by show (j7 fs t).length+1<=128;lia) hm hp'];ext;refine bL (λi=>[some (.dict (AU fs)),some (.int t),some (dG g.1 g.2),some (.int j),some (dL (j7 fs t)),some (.list ((((j9 (j7 fs t) [t] g.1).take i).filterMap (qC fs g j)).map qD)),none,none,none]) rfl (λi x hx=>?_) ?_
 . obtain ⟨c,ec,rfl⟩:=dh hx;have hi:=(aS.mp ec).1;obtain ⟨hcl,hcm⟩:=tK (eL ec);have hck:=λp hpc=>by
    have:p∈aR fs:=by
     rcases cK.mp (hcm p hpc) with h | h
     . exact (kM.mp h).1
     . rw[ay.mp h];exact ht
    exact iq.mp (rB.mpr this)
   ext;rw[Ia hcl hm hn];ext;rw[Px,take_snoc ec,List.filterMap_append];ext;rw[acJ];have hll:(((j9 (j7 fs t) [t] g.1).take i).filterMap (qC fs g j)).length<=80000:=dy (List.length_filterMap_le _ _) (by rw[c8];lia);generalize ((j9 (j7 fs t) [t] g.1).take i).filterMap (qC fs g j)=L at hll ⊢;unfold qC
   by_cases h:(lk (cA g.2 c j) fs).isSome=true
   . rw[if_pos h,h];ext;rw[show (none:Option (Int×Way)).toList=[] from rfl,dr]
   . rw[if_neg h,ny.mpr h];ext;rw[jt (xs:=c) ab.int (λp=>.int ((lH fs p:Nat):Int)) ?_ (AW (by lia)) λp hpc=>?_]
     rotate_left
     . ext
     . obtain ⟨w,hw⟩:=hck p hpc;ext;rw[YM hw];ext;rw[RJ];rw[lH,hw];rfl
     ext;rw[show c.map (λp=>ab.int ((lH fs p:Nat):Int))=((c.map λp=>lH fs p).map λk=>((k:Nat):Int)).map ab.int by rw[de,de];rfl,yo,Jp];ext;rw[show gJ [dL c]= .ok (dR c) from rfl];ext;rw[bD (ki hll (by decide))];ext;rw[a7,show (1:Int)+(((c.map λp=>lH fs p).sum:Nat):Int)=((1+j0 fs c:Nat):Int) by rw[ze];rfl];rfl
 . rw[af,eD];ext;rfl
theorem Sd{w:Way}:aR (yI t w ws)=aR ws:=by
 unfold aR yI;rw[de];refine cn λq _=>?_;show (if q.1=t then (q.1,w) else q).1=q.1;split <;> rfl
theorem Vo{w:Way}(h:(aR ws).Nodup):(aR (iz t w ws)).Nodup:=by
 unfold iz;split
 . rw[Sd];exact h
 . rename_i hn;rw[aR,a7];refine fv.mpr ⟨h,by simp,λa ha b hb e=>?_⟩;have:=by simpa using hb
   subst this;subst e;exact hn (rB.mpr ha)
theorem WD{w:Way}(h:q∈iz t w ws):(q∈ws/\q.1≠t)\/q=(t,w):=by
 unfold iz at h;split at h
 . obtain ⟨r,hr,e⟩:=cc.mp h
   by_cases z:r.1=t
   . rw[if_pos z] at e;subst e;exact .inr (by rw[z])
   . rw[if_neg z] at e;subst e;exact .inl ⟨hr,z⟩
 . rename_i hn;rcases cK.mp h with h | h
   . refine .inl ⟨h,λz=>hn (rB.mpr ?_)⟩;exact cc.mpr ⟨q,h,z⟩
   . exact .inr (ay.mp h)
theorem J9{w:Way}:(t,w)∈iz t w ws:=by
 unfold iz;split
 . rename_i h;obtain ⟨w',hw⟩:=iq.mp h;exact cc.mpr ⟨(t,w'),Ck hw,by rw[if_pos rfl]⟩
 . exact cS _ (ay.mpr rfl)
theorem Vu{w:Way}(h:q∈ws)(hn:q.1≠t):q∈iz t w ws:=by
 unfold iz;split
 . exact cc.mpr ⟨q,h,by rw[if_neg hn]⟩
 . exact eK _ h
structure zx (ws:A6) (qs:A6) (ws':A6):Prop where
 nd:(aR ws').Nodup
 mem:∀q∈ws',q∈ws\/q∈qs
 old:∀q∈ws,∃w',(q.1,w')∈ws'/\w'.c<=q.2.c
 new:∀q∈qs,∃w',(q.1,w')∈ws'/\w'.c<=q.2.c
theorem ada(h:(aR ws).Nodup):zx ws [q] (cD ws q):=by
 obtain ⟨t,w⟩:=q;have put:(∀w0,(t,w0)∈ws->w.c<=w0.c)->zx ws [(t,w)] (iz t w ws):=λhw=>by
  refine ⟨Vo h,λr hr=>?_,λr hr=>?_,λr hr=>?_⟩
  . rcases WD hr with z | z
    . exact .inl z.1
    . exact .inr (ay.mpr z)
  . by_cases z:r.1=t
    . refine ⟨w,by rw[z];exact J9,hw r.2 ?_⟩;rw[<- z];exact hr
    . exact ⟨r.2,Vu hr z,aE _⟩
  . rw[ay.mp hr];exact ⟨w,J9,aE _⟩
 unfold cD
 cases e:lk t ws with
 | none=>exact put λw0 h0=>absurd (cc.mpr ⟨_,h0,rfl⟩) (zG.mp e)
 | some w0=>
  show zx ws [(t,w)] (if w.c<w0.c then iz t w ws else ws)
  by_cases lt:w.c<w0.c
  . rw[if_pos lt];refine put λw1 h1=>?_;have:=qO h h1;rw[e] at this;cases this;lia
  . rw[if_neg lt];refine ⟨h,λr hr=>.inl hr,λr hr=>⟨r.2,hr,aE _⟩,λr hr=>?_⟩;rw[ay.mp hr];exact ⟨w0,Ck e,ky lt⟩
theorem oR:∀{qs ws:A6},(aR ws).Nodup->zx ws qs (qs.foldl cD ws)
 | [],ws,h=>⟨h,λr hr=>.inl hr,λr hr=>⟨r.2,hr,aE _⟩,λr hr=>nomatch hr⟩
 | q::qs,ws,h=>by
  have a:=ada (q:=q) h;have b:=oR (qs:=qs) a.nd;rw[p9];refine ⟨b.nd,λr hr=>?_,λr hr=>?_,λr hr=>?_⟩
  . rcases b.mem r hr with z | z
    . rcases a.mem r z with y | y
      . exact .inl y
      . exact .inr (by rw[ay.mp y];exact b9)
    . exact .inr (cf _ z)
  . obtain ⟨w1,h1,c1⟩:=a.old r hr;obtain ⟨w2,h2,c2⟩:=b.old _ h1;exact ⟨w2,h2,dy c2 c1⟩
  . rcases cp.mp hr with rfl | hr
    . obtain ⟨w1,h1,c1⟩:=a.new _ (ay.mpr rfl);obtain ⟨w2,h2,c2⟩:=b.old _ h1;exact ⟨w2,h2,dy c2 c1⟩
    . exact b.new r hr
def VW(gs:A9)(n:Nat)(fs:A6)(q:Int×Way):Prop:=
 (q.2=fK/\q.1∈cT n)\/∃g∈gs,q.2.g=some g/\q.2.ts.length=g.1/\(∀p∈q.2.ts,p∈aR fs)/\cA g.2 q.2.ts n=q.1/\q.2.c=1+j0 fs q.2.ts
theorem S5{fs:A6}(h:t∈aR fs):lk t (fs++ws)=lk t fs:=by
 induction fs with
 | nil=>cases h
 | cons q fs ih=>
  obtain ⟨k,w⟩:=q;show lk t ((k,w)::(fs++ws))=_;unfold lk
  by_cases e:k=t
  . rw[if_pos e,if_pos e]
  . rw[if_neg e,if_neg e];refine ih ?_;rcases cp.mp h with z | z
    . exact absurd z.symm e
    . exact z
theorem GF{gs:A6}(h:∀p∈c,p∈aR ws):j0 (ws++gs) c=j0 ws c:=by
 unfold j0;congr 1;refine cn λp hp=>?_;unfold lH;rw[S5 (h p hp)]
theorem VW.app{hs:A6}(h:VW gs j ws q):VW gs j (ws++hs) q:=by
 rcases h with h | ⟨g,h1,h2,h3,h4,h5,h6⟩
 . exact .inl h
 . exact .inr ⟨g,h1,h2,h3,λp hp=>by rw[aR,a7];exact eK _ (h4 p hp),h5,by rw[GF h4];exact h6⟩
structure fV (gs:A9) (n:Nat) (fs ws:A6):Prop where
 nd:(aR fs++aR ws).Nodup
 bd:∀t∈aR fs++aR ws,0<=t/\t<2^2^n
 vf:∀(i:Nat) (q:Int×Way),fs[i]?=some q->VW gs n (fs.take i) q
 vw:∀q∈ws,VW gs n fs q
 inp:∀t∈cT n,∃w,(t,w)∈fs++ws/\w.c=0
 cl:∀g∈gs,∀c:B3,c.length=g.1->(∀p∈c,p∈aR fs)->∃w,(cA g.2 c n,w)∈fs++ws/\w.c<=1+j0 fs c
 mo:∀q∈fs,∀r∈ws,q.2.c<=r.2.c
theorem aaj{n:Nat}:∀t∈cT n,0<=t/\t<2^2^n:=λt ht=>by
 obtain ⟨j,_,rfl⟩:=cc.mp ht;exact ⟨JV _ _,Wo _ _⟩
theorem Oa{n:Nat}:0<=cA b ts n/\cA b ts n<2^2^n:=⟨qG λ_=>aP _ _,Dl λ_=>aP _ _⟩
theorem VW.bd{n:Nat}(h:VW gs n ws q):0<=q.1/\q.1<2^2^n:=by
 rcases h with ⟨_,h⟩ | ⟨g,_,_,_,_,h,_⟩
 . exact aaj _ h
 . rw[<- h];exact Oa
theorem RZ:fV gs j [] (nO gs j):=by
 have a:zx [] ((cT j).map λt=>(t,fK)) (wK j):=oR zk;have b:zx (wK j) (qm gs j) (nO gs j):=oR a.nd;have hm:∀q∈nO gs j,VW gs j [] q:=λq hq=>by
  rcases b.mem q hq with h | h
  . rcases a.mem q h with h | h
    . cases h
    . obtain ⟨t,ht,rfl⟩:=cc.mp h;exact .inl ⟨rfl,ht⟩
  . obtain ⟨g,hg,rfl⟩:=cc.mp h;obtain ⟨hg,h0⟩:=kM.mp hg;exact .inr ⟨g,hg,rfl,(of_decide_eq_true h0).symm,(λp hp=>nomatch hp),rfl,rfl⟩
 refine ⟨b.nd,λt ht=>?_,λi q e=>by simp at e,hm,λt ht=>?_,λg hg c hl hc=>?_,λq hq=>nomatch hq⟩
 . obtain ⟨q,hq,rfl⟩:=cc.mp (ht);exact (hm q hq).bd
 . obtain ⟨w1,h1,c1⟩:=a.new (t,fK) (cc.mpr ⟨t,ht,rfl⟩);obtain ⟨w2,h2,c2⟩:=b.old _ h1;have c1:w1.c<=0:=c1;have c2:w2.c<=w1.c:=c2;exact ⟨w2,h2,by lia⟩
 . have e:=List.eq_nil_iff_forall_not_mem.mpr λx hx=>nomatch hc x hx
   subst e;obtain ⟨w,h1,c1⟩:=b.new (cA g.2 [] j,⟨1,some g,[]⟩) (cc.mpr ⟨g,kM.mpr ⟨hg,decide_eq_true hl.symm⟩,rfl⟩);exact ⟨w,h1,c1⟩
theorem Ub{fresh:B3}(h:c∈j9 old fresh j):∃x∈c,x∈fresh:=by
 obtain ⟨p,hp,h⟩:=kz.mp h;have hp:=dn.mp hp;obtain ⟨h1,h2⟩:=pI.mp h;rw[iW hp] at h1 h2;have h3:=h2 p hp;rw[yQ hp hp,if_neg (g9 _),if_pos rfl] at h3;refine ⟨_,?_,h3⟩;rw[ae,ai (by lia)];exact fE _
noncomputable def gC(gs:A9)(fs:A6)(t:Int)(n:Nat):A6:=gs.flatMap λg=>vW fs t g n
theorem Es{fs:A6}:∀{c:B3},t∈c->lH fs t<=j0 fs c
 | a::c,h=>by
  rw[j0,bo,kb];rcases cp.mp h with rfl | h
  . lia
  . have:=Es (fs:=fs) h;unfold j0 at this;lia
theorem fV.step{n:Nat}{fs:A6}{w:Way}(I:fV gs n fs ws)(h:(t,w)∈ws)(hmin:∀q∈ws,w.c<=q.2.c) :
 fV gs n (fs++[(t,w)]) ((gC gs (fs++[(t,w)]) t n).foldl cD (ws.filter λq=>!decide (q.1=t))):=by
 obtain ⟨nd,bd,vf,vw,inp,cl,mo⟩:=I;have ndf:=(fv.mp nd).1;have ndw:=(fv.mp nd).2.1;have dis:=(fv.mp nd).2.2;have htw:t∈aR ws:=cc.mpr ⟨_,h,rfl⟩;have htf:=λz=>dis t z t htw rfl;have k1:aR (fs++[(t,w)])=aR fs++[t]:=by rw[aR,a7];rfl
 have nd1:(aR (fs++[(t,w)])).Nodup:=by
  rw[k1];exact fv.mpr ⟨ndf,by simp,λa ha b hb e=>by rw[ay] at hb;subst hb;subst e;exact htf ha⟩
 have hf1:∀q,q∈ws.filter (λq=>!decide (q.1=t))↔q∈ws/\q.1≠t:=λq=>by simp
 have agk:(aR (ws.filter λq=>!decide (q.1=t))).Nodup:=by
  exact List.Sublist.nodup (List.Sublist.map _ (List.filter_sublist)) ndw
 have O:=oR (qs:=gC gs (fs++[(t,w)]) t n) agk;have cw:lH (fs++[(t,w)]) t=w.c:=by
  rw[lH,qO nd1 (cS _ (ay.mpr rfl))];rfl
 have hnew:∀q∈gC gs (fs++[(t,w)]) t n,∃g∈gs,∃c∈j9 (j7 (fs++[(t,w)]) t) [t] g.1,q=(cA g.2 c n,⟨1+j0 (fs++[(t,w)]) c,some g,c⟩)/\cA g.2 c n∉aR (fs++[(t,w)]):=λq hq=>by
  obtain ⟨g,hg,hq⟩:=kz.mp hq;obtain ⟨c,hc,e⟩:=mn.mp hq;unfold qC at e;split at e
  . cases e
  . rename_i hs;cases e;exact ⟨g,hg,c,hc,rfl,λz=>hs (rB.mpr z)⟩
 have hck:∀{g:Nat×Int}{c:B3},c∈j9 (j7 (fs++[(t,w)]) t) [t] g.1->∀p∈c,p∈aR (fs++[(t,w)]):=λhc p hp=>by
  rcases cK.mp ((tK hc).2 p hp) with z | z
  . exact (kM.mp z).1
  . rw[ay.mp z,k1];exact cS _ (ay.mpr rfl)
 have agl:∀q∈gC gs (fs++[(t,w)]) t n,VW gs n (fs++[(t,w)]) q:=λq hq=>by
  obtain ⟨g,hg,c,hc,rfl,_⟩:=hnew q hq;exact .inr ⟨g,hg,rfl,(tK hc).1,hck hc,rfl,rfl⟩
 have aca:∀q∈(gC gs (fs++[(t,w)]) t n).foldl cD (ws.filter λq=>!decide (q.1=t)),VW gs n (fs++[(t,w)]) q:=λq hq=>by
  rcases O.mem q hq with z | z
  . exact (vw q ((hf1 q).mp z).1).app
  . exact agl q z
 have mv:∀{v:Int}{w':Way}{k:Nat},(v,w')∈fs++ws->w'.c<=k->∃w2,(v,w2)∈(fs++[(t,w)])++(gC gs (fs++[(t,w)]) t n).foldl cD (ws.filter λq=>!decide (q.1=t))/\w2.c<=k:=λ{v w' k} hv hk=>by
  rcases cK.mp hv with z | z
  . exact ⟨w',eK _ (eK _ z),hk⟩
  . by_cases e:v=t
    . subst e;have:=qO ndw z;rw[qO ndw h] at this;cases this;exact ⟨w,eK _ (cS _ (ay.mpr rfl)),hk⟩
    . obtain ⟨w2,h2,c2⟩:=O.old (v,w') ((hf1 _).mpr ⟨z,e⟩);exact ⟨w2,cS _ h2,dy c2 hk⟩
 refine ⟨?_,λx hx=>?_,λi q e=>?_,aca,λx hx=>?_,λg hg c hl hc=>?_,λq hq r hr=>?_⟩
 . refine fv.mpr ⟨nd1,O.nd,λa ha b hb e=>?_⟩;subst e;obtain ⟨q,hq,rfl⟩:=cc.mp hb;rcases O.mem q hq with z | z
   . obtain ⟨z1,z2⟩:=(hf1 q).mp z;rw[k1] at ha;rcases cK.mp ha with y | y
     . exact dis _ y _ (cc.mpr ⟨q,z1,rfl⟩) rfl
     . exact z2 (ay.mp y)
   . obtain ⟨g,_,c,_,rfl,hn⟩:=hnew q z;exact hn ha
 . rcases cK.mp hx with z | z
   . rw[k1] at z;rcases cK.mp z with y | y
     . exact bd x (eK _ y)
     . rw[ay.mp y];exact bd t (cS _ htw)
   . obtain ⟨q,hq,rfl⟩:=cc.mp z;exact (aca q hq).bd
 . rcases gu i fs.length with hi | hi
   . rw[cq hi] at e;rw[og (l9 hi)];exact vf i q e
   . have hi':=(aS.mp e).1;rw[av] at hi';have hie:i=fs.length:=by
      have:i<fs.length+1:=hi';lia
     subst hie;rw[bX (aE _),kL] at e;have e:=Option.some.inj e;subst e;rw[og (aE _),eD];exact vw _ h
 . obtain ⟨w',h1,h2⟩:=inp x hx;obtain ⟨w2,h3,h4⟩:=mv (k:=0) h1 (by lia);exact ⟨w2,h3,by lia⟩
 . by_cases hall:∀p∈c,p∈aR fs
   . obtain ⟨w',h1,h2⟩:=cl g hg c hl hall;rw[GF hall];exact mv h1 h2
   . have hx:∃x∈c,x∉aR fs:=hY λz=>hall λx hx=>hY λz'=>z ⟨x,hx,z'⟩;obtain ⟨x,hx,hxn⟩:=hx;have hxt:x=t:=by
      have:=hc x hx;rw[k1] at this;rcases cK.mp this with y | y
      . exact absurd y hxn
      . exact ay.mp y
     subst hxt;have hct:w.c<=j0 (fs++[(x,w)]) c:=by rw[<- cw];exact Es hx
     have hno:x∉j7 (fs++[(x,w)]) x:=λz=>by
      have:=(kM.mp z).2;simp at this
     have hcf:=Qq hl (λp hp=>by
      by_cases e:p=x
      . exact cS _ (ay.mpr e)
      . exact eK _ (kM.mpr ⟨hc p hp,by simp[e]⟩)) ⟨x,hx,hno⟩
     by_cases hv:(lk (cA g.2 c n) (fs++[(x,w)])).isSome=true
     . obtain ⟨w',hw'⟩:=iq.mp hv;have hm:=Ck hw';refine ⟨w',eK _ hm,?_⟩;rcases cK.mp hm with z | z
       . have:=mo _ z _ h;have:w'.c<=w.c:=this;lia
       . have:=ay.mp z;cases this;lia
     . obtain ⟨w2,h2,c2⟩:=O.new (cA g.2 c n,⟨1+j0 (fs++[(x,w)]) c,some g,c⟩) (kz.mpr ⟨g,hg,mn.mpr ⟨c,hcf,by rw[qC,if_neg hv]⟩⟩);exact ⟨w2,cS _ h2,c2⟩
 . have hq':q.2.c<=w.c:=by
    rcases cK.mp hq with z | z
    . exact mo q z _ h
    . rw[ay.mp z];exact aE _
   rcases O.mem r hr with z | z
   . exact dy hq' (hmin r ((hf1 r).mp z).1)
   . obtain ⟨g,_,c,hc,rfl,_⟩:=hnew r z;obtain ⟨x,hx,hxt⟩:=Ub hc;rw[ay.mp hxt] at hx;have:=Es (fs:=fs++[(t,w)]) hx;rw[cw] at this;show q.2.c<=1+j0 (fs++[(t,w)]) c;lia
theorem FP:∀{ws:A6}{t:Int}{c:Int},∃t',jF (.int t) c (AU ws)= .ok (.int t')
 | [],t,c=>⟨t,rfl⟩
 | (k,w)::r,t,c=>by
  show ∃t',(if ((w.c:Nat):Int)<c then jF (.int k) (w.c:Nat) (AU r) else jF (.int t) c (AU r))= .ok (.int t')
  by_cases h:(w.c:Int)<c
  . rw[if_pos h];exact FP
  . rw[if_neg h];exact FP
theorem aeI(h:ws≠[]):∃t w,j6 (AU ws)= .ok (.int t)/\(t,w)∈ws/\∀q∈ws,w.c<=q.2.c:=by
 cases ws with
 | nil=>exact absurd rfl h
 | cons q r=>
  obtain ⟨k,w⟩:=q;obtain ⟨t,ht⟩:∃t',j6 (AU ((k,w)::r))= .ok (.int t'):=by
   exact FP
  obtain ⟨_,l,q,c,e1,e2,e3,e4⟩:=Dv ht;unfold AU at e1;rw[br] at e1;obtain ⟨⟨t',w'⟩,e5,e6⟩:=md.mp e1;subst e6;cases e3;have e2:some ((w'.c:Nat):Int)=some c:=e2;cases e2;refine ⟨t',w',ht,eL e5,λq hq=>?_⟩;obtain ⟨l2,hl2,e6⟩:=kB.mp hq;have e7:(AU ((k,w)::r))[l2]?=some (ab.int q.1,wD q.2):=by
   rw[AU,br,ai hl2,e6];rfl
  have:=(e4 l2 _ (q.2.c:Int) e7 rfl).1;lia
theorem Vi{t:Int}:∀{ws:A6},pB (.inl t) (AU ws)=AU (ws.filter λq=>!decide (q.1=t))
 | []=>rfl
 | (k,w)::r=>by
  have ih:=Vi (t:=t) (ws:=r);unfold pB at ih;unfold pB;show ((ab.int k,wD w)::AU r).filter _=_
  by_cases e:k=t
  . subst e;rw[gL (by simp[bO]),gL (by simp)];exact ih
  . rw[iP (by simp[bO,e]),iP (by simp[e]),ih];rfl
theorem ZK{qs:A6}(hn:j<=4)(h:(aR ws).Nodup)(h1:∀q∈ws,0<=q.1/\q.1<2^2^j)(h2:∀q∈qs,0<=q.1/\q.1<2^2^j):(qs.foldl cD ws).length<=65536:=by
 have O:=oR (qs:=qs) h;have h8:2^2^j<=2^2^4:=fx (by decide) (fx (by decide) hn);have:=rM O.nd λx hx=>by
  rw[show ((2^2^j:Nat):Int)=2^2^j by simp];obtain ⟨q,hq,rfl⟩:=cc.mp hx;rcases O.mem q hq with z | z
  . exact h1 q z
  . exact h2 q z
 unfold aR at this;rw[af] at this;lia
noncomputable def wCn:ME:=ao gtD (eFn u9 [(aj 3)]) (eC (.int 0))
noncomputable def wRf:MS:=sEx (aM fD [(eFn u9 [(aj 2)]),(aj 0)])
noncomputable def wFr:MS:=cL (itL (aj 0)) (gN 5) [5,6,7] (cL (itL (aM jR [(aj 2),(aj 4),(aj 5),(aj 1)])) (gT [(gN 6),(gN 7)]) [6,7] (yh 3 mR [(aj 3),(aj 6),(aj 7)]))
noncomputable def wBd:MS:=aK (bc 4 (BR 3)) (aK (vJ 2 3 4) (aK wRf wFr))
noncomputable def wG(gs:A9)(n:Nat)(fs ws:A6):Ev:=[some (.list (gs.map AS)),some (.int (n:Nat)),some (.dict (AU fs)),some (.dict (AU ws)),none,none,none,none]
noncomputable def wG2(gs:A9)(n:Nat)(fs ws:A6)(t:Int):Ev:=[some (.list (gs.map AS)),some (.int (n:Nat)),some (.dict (AU fs)),some (.dict (AU ws)),some (.int t),none,none,none]
section
variable  {n:Nat}{fs:A6}
theorem abI(hz:ws≠[]):wCn (wG gs n fs ws)= .ok (.bool true):=by
 unfold wCn wG;ext;rw[show u9 [.dict (AU ws)]= .ok (.int ((AU ws).length:Nat)) from rfl,z7];ext;rw[decide_eq_true (show (0:Int)<((ws.length:Nat):Int) by have:=List.length_pos_iff.mpr hz;lia)]
theorem adD:wCn (wG gs n fs [])= .ok (.bool false):=by
 unfold wCn wG;ext;rfl
theorem Jt:evs [(eFn u9 [(aj 2)]),(aj 0)] (wG2 gs n fs ws t)= .ok [.int (fs.length:Nat),.list (gs.map AS)]:=by
 unfold wG2;ext;rw[show u9 [.dict (AU fs)]= .ok (.int ((AU fs).length:Nat)) from rfl,z7];ext
theorem abK{w:Way}(hm:j6 (AU ws)= .ok (.int t))(I:fV gs n fs ws)(h:(t,w)∈ws)(hf:fs.length<=100000):∃Γ,bc 4 (BR 3) (wG gs n fs ws)= .ok (.nx Γ)/\vJ 2 3 4 Γ = .ok (.nx (wG2 gs n (fs++[(t,w)]) (ws.filter λq=>!decide (q.1=t)) t)):=by
 have ndw:=(fv.mp I.nd).2.1;have htf:=λz=>(fv.mp I.nd).2.2 t z t (cc.mpr ⟨_,h,rfl⟩) rfl;refine ⟨[some (.list (gs.map AS)),some (.int n),some (.dict (AU fs)),some (.dict (AU ws)),some (.int t),none,none,none],?_,?_⟩
 . rw[Bc];show AI.bind (j6 (AU ws)) _=_;rw[hm];rfl
 . show (match cR (.inl t) (AU ws) with
    | some d=>gd ((AU fs).length<bE/\2<8/\3<8) (AI.ok (Out.nx [some (.list (gs.map AS)),some (.int n),some (.dict (gU (.int t) (.inl t) d (AU fs))),some (.dict (pB (.inl t) (AU ws))),some (.int t),none,none,none]))
    | none=>.bad)=_
   rw[Rt,qO ndw h];show gd ((AU fs).length<bE/\2<8/\3<8) _=_;rw[bD ⟨by rw[z7];exact AW hf,by decide,by decide⟩,Y5,Vi];rw[iz,zG.mpr htf];rfl
theorem acv(h:iR fs.length gs)(hg:gs.length<=8)(hm:∀g∈gs,g.1<=4):wRf (wG2 gs n fs ws t)= .bad:=by
 unfold wRf sEx;rw[mQ,Jt,AI.aQ,Nt h (by lia) hm];rfl
theorem abV(h:¬ iR fs.length gs)(hg:gs.length<=8)(hm:∀g∈gs,g.1<=4):wRf (wG2 gs n fs ws t)= .ok (.nx (wG2 gs n fs ws t)):=by
 have h1:=ky λz=>h (.inl z);have h2:=ky λz=>h (.inr z);refine adb (d:=.none) ?_;rw[mQ,Jt,AI.aQ,Nr h1 (by lia) hm h2]
theorem ac1(hn:n<=4)(hg:gs.length<=8)(hm:∀g∈gs,g.1<=4)(h:¬ iR fs.length gs)(ho:(j7 fs t).length+1<=fs.length)(ht:t∈aR fs)(hd:(aR ws).Nodup)(hb:∀q∈ws,0<=q.1/\q.1<2^2^n) :
 wFr (wG2 gs n fs ws t)= .ok (.nx (wG2 gs n fs ((gC gs fs t n).foldl cD ws) t)):=by
 have h1:=ky λz=>h (.inl z);have h2:=ky λz=>h (.inr z);have hq:∀g:Nat×Int,∀q∈vW fs t g n,0<=q.1/\q.1<2^2^n:=λg q hq=>by
  obtain ⟨c,_,e⟩:=mn.mp hq;unfold qC at e;split at e
  . cases e
  . cases e;exact Oa
 have hqs:∀gs:A9,∀q∈gC gs fs t n,0<=q.1/\q.1<2^2^n:=λgs q hq'=>by
  obtain ⟨g,_,h⟩:=kz.mp hq';exact hq g q h
 unfold wFr wG2;ext;have step:∀(i:Nat) (x:ab),(gs.map AS)[i]?=some x->((gN 5 x (wG2 gs n fs ((gC (gs.take i) fs t n).foldl cD ws) t)).bind (cL (itL (aM jR [(aj 2),(aj 4),(aj 5),(aj 1)])) (gT [(gN 6),(gN 7)]) [6,7] (yh 3 mR [(aj 3),(aj 6),(aj 7)]))).bind (iB [5,6,7])= .ok (.nx (wG2 gs n fs ((gC (gs.take (i+1)) fs t n).foldl cD ws) t)):=λi x hx=>by
  obtain ⟨g,eg,rfl⟩:=dh hx;have hgi:=eL eg;unfold wG2;ext;rw[Ni h1 (hm g hgi) hn ho (dy (Vs hgi) h2) ht];ext;have O:=oR (qs:=gC (gs.take i) fs t n) hd;have hb2:∀q∈(gC (gs.take i) fs t n).foldl cD ws,0<=q.1/\q.1<2^2^n:=λq hq'=>by
   rcases O.mem q hq' with z | z
   . exact hb q z
   . exact hqs _ q z
  have en:gC (gs.take (i+1)) fs t n=gC (gs.take i) fs t n++vW fs t g n:=by
   unfold gC;rw[take_snoc eg,pj];simp
  rw[en,fS];have hO:=O.nd;generalize (gC (gs.take i) fs t n).foldl cD ws=ws1 at hb2 hO ⊢;refine bL (λj=>[some (.list (gs.map AS)),some (.int n),some (.dict (AU fs)),some (.dict (AU (((vW fs t g n).take j).foldl cD ws1))),some (.int t),some (dG g.1 g.2),none,none]) rfl (λj x hx=>?_) ?_
  . obtain ⟨q,eq,rfl⟩:=dh hx;have hl:=ZK (qs:=(vW fs t g n).take j) hn hO hb2 (λq hq'=>hq g q (lj hq'));rw[take_snoc eq,fS];generalize ((vW fs t g n).take j).foldl cD ws1=ws2 at hl ⊢;show AI.bind (AI.bind (AI.ok ([some (.list (gs.map AS)),some (.int (n:Nat)),some (.dict (AU fs)),some (.dict (AU ws2)),some (.int t),some (dG g.1 g.2),some (.int q.1),some (wD q.2)]:Ev)) _) _=_;rw[AI.aQ,BL rfl (by lia)];rfl
  . rw[af,eD];rfl
 have e:=Pz (λi=>wG2 gs n fs ((gC (gs.take i) fs t n).foldl cD ws) t) rfl step;rwa [af,eD] at e
theorem aaX{w:Way}:(j7 (ws++[(t,w)]) t).length+1<=(ws++[(t,w)]).length:=by
 unfold j7 aR;rw[a7,List.filter_append,av,av];have h1:=sj (λk=>!decide (k=t)) (ws.map (·.1));rw[af] at h1;have h2:(([(t,w)]:A6).map (·.1)).filter (λk=>!decide (k=t))=[]:=by simp
 rw[h2];simp only[lS,cx];lia
theorem fV.len(I:fV gs n fs ws)(hn:n<=4):fs.length+ws.length<=65536:=by
 have h8:2^2^n<=2^2^4:=fx (by decide) (fx (by decide) hn);have:=rM I.nd λx hx=>by
  rw[show ((2^2^n:Nat):Int)=2^2^n by simp];exact I.bd x hx
 unfold aR at this;rw[av,af,af] at this;lia
theorem acB{w:Way}(I:fV gs n fs ws)(hn:n<=4)(hg:gs.length<=8)(hm:∀g∈gs,g.1<=4)(hk:j6 (AU ws)= .ok (.int t))(h:(t,w)∈ws)(hG:¬ iR (fs.length+1) gs) :
 ∃Γ',wBd (wG gs n fs ws)= .ok (.nx Γ')/\clr [4,5,6,7] Γ'=wG gs n (fs++[(t,w)]) ((gC gs (fs++[(t,w)]) t n).foldl cD (ws.filter λq=>!decide (q.1=t))):=by
 have hlen:=I.len hn;obtain ⟨Γ,e1,e2⟩:=abK hk I h (by lia);have hG':¬ iR (fs++[(t,w)]).length gs:=by rw[av];exact hG
 have ndw:=(fv.mp I.nd).2.1;refine ⟨wG2 gs n (fs++[(t,w)]) ((gC gs (fs++[(t,w)]) t n).foldl cD (ws.filter λq=>!decide (q.1=t))) t,?_,rfl⟩;rw[wBd,gF,e1,AI.aQ,lB,gF,e2,AI.aQ,lB,gF,abV hG' hg hm,AI.aQ,lB];refine ac1 hn hg hm hG' aaX ?_ ?_ ?_
 . rw[aR,a7];exact cS _ (ay.mpr rfl)
 . exact List.Sublist.nodup (List.Sublist.map _ (List.filter_sublist)) ndw
 . exact λq hq=>(I.vw q (kM.mp hq).1).bd
theorem abS{w:Way}(I:fV gs n fs ws)(hn:n<=4)(hg:gs.length<=8)(hm:∀g∈gs,g.1<=4)(hk:j6 (AU ws)= .ok (.int t))(h:(t,w)∈ws)(hG:iR (fs.length+1) gs):wBd (wG gs n fs ws)= .bad:=by
 have hlen:=I.len hn;obtain ⟨Γ,e1,e2⟩:=abK hk I h (by lia);have hG':iR (fs++[(t,w)]).length gs:=by rw[av];exact hG
 rw[wBd,gF,e1,AI.aQ,lB,gF,e2,AI.aQ,lB,gF,acv hG' hg hm];rfl
theorem Us(J:A6->A6->Prop)(hJ:∀fs ws t w,J fs ws->fV gs n fs ws->j6 (AU ws)= .ok (.int t)->(t,w)∈ws->J (fs++[(t,w)]) ((gC gs (fs++[(t,w)]) t n).foldl cD (ws.filter λq=>!decide (q.1=t))))(hn:n<=4)(hg:gs.length<=8)(hm:∀g∈gs,g.1<=4):∀(m k:Nat) (fs ws:A6),J fs ws->fV gs n fs ws->(fs=[]\/¬ iR fs.length gs)->k+fs.length=65536->k<m ->
 (∃L,whR wCn [4,5,6,7] wBd m (wG gs n fs ws)= .ok (.nx (wG gs n L []))/\fV gs n L []/\J L []/\(L=[]\/¬ iR L.length gs)) \/
 (whR wCn [4,5,6,7] wBd m (wG gs n fs ws)= .bad/\(∀(zb:MZ) (T:Str),(∀fs ws t w,fV gs n fs ws->j6 (AU ws)= .ok (.int t)->(t,w)∈ws->iR (fs.length+1) gs->zb (wG gs n fs ws)= .ok T)->uI wCn [4,5,6,7] wBd zb m (wG gs n fs ws)= .ok T)/\∃fs ws,fV gs n fs ws/\iR fs.length gs)
 | 0,k,fs,ws,_,_,_,_,h=>absurd h (qf _)
 | m+1,k,fs,ws,j,I,ho,hk,hkm=>by
  by_cases hz:ws=[]
  . subst hz;left;refine ⟨fs,?_,I,j,ho⟩;rw[whR,adD];rfl
  . have hy:=abI (gs:=gs) (n:=n) (fs:=fs) hz;have hpos:=List.length_pos_iff.mpr hz;have hlen:=I.len hn;obtain ⟨t,w,e,h,hmin⟩:=aeI hz;have I':=I.step h hmin;have j':=hJ fs ws t w j I e h
    by_cases hG:iR (fs.length+1) gs
    . right;have hb:=abS I hn hg hm e h hG;refine ⟨?_,λzb T h'=>?_,_,_,I',by rw[av];exact hG⟩
      . rw[whR,hy,AI.aQ,hb];rfl
      . rw[uI,hy,AI.aQ];show (match wBd (wG gs n fs ws) with
         | .ok (.nx Γ2)=>uI wCn [4,5,6,7] wBd zb m (clr [4,5,6,7] Γ2)
         | _=>zb (wG gs n fs ws))=_
        rw[hb];exact h' fs ws t w I e h hG
    . obtain ⟨Γ',e1,e2⟩:=acB I hn hg hm e h hG;generalize (gC gs (fs++[(t,w)]) t n).foldl cD (ws.filter λq=>!decide (q.1=t))=ws' at I' j' e2;have ew:whR wCn [4,5,6,7] wBd (m+1) (wG gs n fs ws)=whR wCn [4,5,6,7] wBd m (wG gs n (fs++[(t,w)]) ws'):=by
       rw[whR,hy,AI.aQ,e1,AI.aQ];show whR wCn [4,5,6,7] wBd m (clr [4,5,6,7] Γ')=_;rw[e2]
      have ez:∀zb:MZ,uI wCn [4,5,6,7] wBd zb (m+1) (wG gs n fs ws)=uI wCn [4,5,6,7] wBd zb m (wG gs n (fs++[(t,w)]) ws'):=λzb=>by
       rw[uI,hy,AI.aQ];show (match wBd (wG gs n fs ws) with
        | .ok (.nx Γ2)=>uI wCn [4,5,6,7] wBd zb m (clr [4,5,6,7] Γ2)
        | _=>zb (wG gs n fs ws))=_
       rw[e1];show uI wCn [4,5,6,7] wBd zb m (clr [4,5,6,7] Γ')=_;rw[e2]
      rw[ew];simp only[ez];exact Us J hJ hn hg hm m (k - 1) (fs++[(t,w)]) ws' j' I' (.inr (by rw[av];exact hG)) (by rw[av];show k - 1+(fs.length+1)=_;lia) (by lia)
theorem Q6(J:A6->A6->Prop)(hJ:∀fs ws t w,J fs ws->fV gs n fs ws->j6 (AU ws)= .ok (.int t)->(t,w)∈ws->J (fs++[(t,w)]) ((gC gs (fs++[(t,w)]) t n).foldl cD (ws.filter λq=>!decide (q.1=t))))(h0:J [] (nO gs n))(hn:n<=4)(hg:gs.length<=8)(hm:∀g∈gs,g.1<=4) :
 (∃L,pU [.list (gs.map AS),.int (n:Nat)]= .ok (.dict (AU L))/\fV gs n L []/\J L []/\(L=[]\/¬ iR L.length gs)) \/
 (pU [.list (gs.map AS),.int (n:Nat)]= .bad/\sy 1000000 wCn [4,5,6,7] wBd (wG gs n [] (nO gs n))= .bad/\(∀(zb:MZ) (T:Str),(∀fs ws t w,fV gs n fs ws->j6 (AU ws)= .ok (.int t)->(t,w)∈ws->iR (fs.length+1) gs->zb (wG gs n fs ws)= .ok T)->adu 1000000 wCn [4,5,6,7] wBd zb (wG gs n [] (nO gs n))= .ok T)/\∃fs ws,fV gs n fs ws/\iR fs.length gs):=by
 have e0:pU [.list (gs.map AS),.int (n:Nat)]=AI.bind (aK (sy 1000000 wCn [4,5,6,7] wBd) (bB (aj 2)) (wG gs n [] (nO gs n))) fin:=by
  unfold pU;show AI.bind (aK (bc 2 (jC [])) _ [some (.list (gs.map AS)),some (.int (n:Nat)),none,none,none,none,none,none]) fin=_;rw[gF,show bc 2 (jC []) [some (.list (gs.map AS)),some (.int (n:Nat)),none,none,none,none,none,none]= .ok (.nx [some (.list (gs.map AS)),some (.int (n:Nat)),some (.dict (AU [])),none,none,none,none,none]) from rfl,AI.aQ,lB,gF,show bc 3 (aM lr [(aj 0),(aj 1)]) [some (.list (gs.map AS)),some (.int n),some (.dict (AU [])),none,none,none,none,none]= .ok (.nx (wG gs n [] (nO gs n))) by
   rw[Bc,mQ,show evs [(aj 0),(aj 1)] [some (.list (gs.map AS)),some (.int (n:Nat)),some (.dict (AU [])),none,none,none,none,none]= .ok [.list (gs.map AS),.int (n:Nat)] from rfl,AI.aQ,JH hn (by lia)];rfl,AI.aQ,lB]
  rfl
 rcases Us J hJ hn hg hm 1000000 65536 [] (nO gs n) h0 RZ (.inl rfl) rfl (by decide) with ⟨L,h1,h2,h3⟩ | ⟨h1,h2,h3⟩
 . left;have h1:sy 1000000 wCn [4,5,6,7] wBd (wG gs n [] (nO gs n))=_:=h1;refine ⟨L,?_,h2,h3⟩;rw[e0,gF,h1,AI.aQ,lB];rfl
 . right;have h1:sy 1000000 wCn [4,5,6,7] wBd (wG gs n [] (nO gs n))= .bad:=h1;refine ⟨?_,h1,h2,h3⟩;rw[e0,gF,h1];rfl
end
structure Y4 (gs:A9) (n:Nat) (ts:B3) (f:Int->Nat):Prop where
 nd:ts.Nodup
 so:ts.Pairwise (· <= ·)
 bd:∀t∈ts,0<=t/\t<2^2^n
 inp:∀t∈cT n,t∈ts
 zer:∀t∈ts,(f t=0↔t∈cT n)
 cl:∀g∈gs,∀c:B3,c.length=g.1->(∀p∈c,p∈ts)->cA g.2 c n∈ts/\f (cA g.2 c n)<=1+(c.map f).sum
 ju:∀t∈ts,0<f t->∃g∈gs,∃c:B3,c.length=g.1/\(∀p∈c,p∈ts)/\cA g.2 c n=t/\f t=1+(c.map f).sum
variable {L:A6}
theorem xf{w:Way}(h:(aR L).Nodup)(hm:(t,w)∈L):lH L t=w.c:=by
 rw[lH,qO h hm];rfl
theorem fV.whole(I:fV gs j L []):Y4 gs j (srt (aR L)) (lH L):=by
 obtain ⟨nd,bd,vf,vw,inp,cl,mo⟩:=I;rw[show aR L++aR []=aR L from dr _] at nd bd;rw[dr] at inp cl;have hk:∀{t w},(t,w)∈L->t∈srt (aR L):=λh=>oY.mpr (cc.mpr ⟨_,h,rfl⟩);have hv:∀t∈aR L,∃w,(t,w)∈L/\VW gs j L (t,w):=λt ht=>by
  obtain ⟨⟨t',w⟩,hq,rfl⟩:=cc.mp ht;obtain ⟨i,hi,e⟩:=kB.mp hq;have h1:=vf i (t',w) (by rw[ai hi,e]);have h2:=h1.app (hs:=L.drop i);rw[sC] at h2;exact ⟨w,hq,h2⟩
 refine ⟨(BP _).nodup_iff.mpr nd,Cg _,λt ht=>bd t (oY.mp ht),λt ht=>?_,λt ht=>?_,λg hg c hl hc=>?_,λt ht h0=>?_⟩
 . obtain ⟨w,h1,_⟩:=inp t ht;exact hk h1
 . constructor
   . intro h0;obtain ⟨w,h1,h2⟩:=hv t (oY.mp ht);rw[xf nd h1] at h0;rcases h2 with ⟨_,h⟩ | ⟨g,_,_,_,_,_,h⟩
     . exact h
     . have h:w.c=_:=h;lia
   . intro h;obtain ⟨w,h1,h2⟩:=inp t h;rw[xf nd h1];exact h2
 . obtain ⟨w,h1,h2⟩:=cl g hg c hl λp hp=>oY.mp (hc p hp);refine ⟨hk h1,?_⟩;rw[xf nd h1];exact h2
 . obtain ⟨w,h1,h2⟩:=hv t (oY.mp ht);have e:=xf nd h1;rcases h2 with ⟨h,_⟩ | ⟨g,k1,k2,k3,k4,k5,k6⟩
   . have h:w=fK:=h;rw[e,h] at h0;exact absurd h0 (g9 0)
   . refine ⟨g,k1,w.ts,k3,λp hp=>oY.mpr (k4 p hp),k5,?_⟩;rw[e];exact k6
noncomputable def kvC(ts:B3)(f:Int->Nat):B0:=ts.map λt=>(ab.int t,ab.int (f t:Nat))
theorem TQ{f:Int->Nat}:∀{ts:B3},cR (.inl t) (kvC ts f)=if t∈ts then some (.int (f t:Nat)) else none
 | []=>rfl
 | k::ts=>by
  show (if bO (.int k)=some (.inl t) then some (ab.int (f k:Nat)) else cR (.inl t) (kvC ts f))=_
  by_cases h:k=t
  . subst h;rw[if_pos (show bO (.int k)=some (.inl k) from rfl),if_pos b9]
  . rw[if_neg (show ¬ bO (.int k)=some (.inl t) from λz=>h (l8.inj (Option.some.inj z))),TQ];simp only[cp,show ¬ t=k from λz=>h z.symm,false_or]
theorem YF{f:Int->Nat}(h:t∈ts):ixY (.dict (kvC ts f)) (.int t)= .ok (.int (f t:Nat)):=by
 show (match cR (.inl t) (kvC ts f) with
  | some d=>AI.ok d
  | none=>.bad)=_
 rw[TQ,if_pos h]
theorem YT{f:Int->Nat}:∀{ts:B3},oE (.inl t) (kvC ts f)=decide (t∈ts)
 | []=>rfl
 | k::ts=>by
  show (if bO (.int k)=some (.inl t) then true else oE (.inl t) (kvC ts f))=_
  by_cases h:k=t
  . subst h;rw[if_pos (show bO (.int k)=some (.inl k) from rfl)];simp
  . rw[if_neg (show ¬ bO (.int k)=some (.inl t) from λz=>h (l8.inj (Option.some.inj z))),YT];simp only[cp,show ¬ t=k from λz=>h z.symm,false_or]
theorem afm{f:Int->Nat}(h:t∉ts):gU (.int t) (.inl t) (.int (f t:Nat)) (kvC ts f)=kvC (ts++[t]) f:=by
 rw[gU,YT,decide_eq_false h];unfold kvC;rw[a7];rfl
theorem afv{f:Int->Nat}(h2:m2 Γ = .ok (.int (f t:Nat)))(h1:m1 Γ = .ok (.int t))(hg:gv Γ i=some (.dict (kvC ts f)))(hn:t∉ts)(hl:ts.length<=100000)(hi:i < Γ.length):je i m1 m2 Γ = .ok (.nx (Γ.set i (some (.dict (kvC (ts++[t]) f))))):=by
 rw[je,h2,AI.aQ,h1,AI.aQ,hg];show gd ((kvC ts f).length<bE/\i < Γ.length) (AI.ok (Out.nx (Γ.set i (some (.dict (gU (.int t) (.inl t) (.int (f t:Nat)) (kvC ts f)))))))=_;rw[bD ⟨by rw[kvC,af];exact AW hl,hi⟩,afm hn]
theorem Xy{n:Nat}(J:A6->A6->Prop)(hJ:∀fs ws t w,J fs ws->fV gs n fs ws->j6 (AU ws)= .ok (.int t)->(t,w)∈ws->J (fs++[(t,w)]) ((gC gs (fs++[(t,w)]) t n).foldl cD (ws.filter λq=>!decide (q.1=t))))(h0:J [] (nO gs n))(hn:n<=2)(hg:gs.length<=8)(hm:∀g∈gs,g.1<=4)(hc:kZ (2^2^n) gs<=20000):∃L,pU [.list (gs.map AS),.int (n:Nat)]= .ok (.dict (AU L))/\fV gs n L []/\J L []/\L.length<=16:=by
 have h4:2^2^n<=2^2^2:=fx (by decide) (fx (by decide) hn);have len:∀{fs ws:A6},fV gs n fs ws->fs.length<=2^2^n:=λ{fs ws} I=>by
  have:=rM (fv.mp I.nd).1 λx hx=>by
   rw[show ((2^2^n:Nat):Int)=2^2^n by simp];exact I.bd x (eK _ hx)
  unfold aR at this;rwa [af] at this
 rcases Q6 J hJ h0 (by lia) hg hm with ⟨L,h1,h2,hj,_⟩ | ⟨_,_,_,fs,ws,h2,h3⟩
 . exact ⟨L,h1,h2,hj,dy (len h2) h4⟩
 . have h5:=len h2;rcases h3 with h3 | h3
   . lia
   . have:=Ud h5 gs;lia
noncomputable def inW(ts:B3):A6:=ts.map λt=>(t,fK)
structure qx (n:Nat) (fs ws:A6):Prop where
 few:fs.length<n->fs=inW ((cT n).take fs.length)/\∃rest,ws=inW ((cT n).drop fs.length)++rest/\∀q∈rest,1<=q.2.c
 all:n<=fs.length->fs.take n=inW (cT n)
theorem Uk:∀{ts:B3},t∈ts->lk t (inW ts)=some fK
 | k::ts,h=>by
  show (if k=t then some fK else lk t (inW ts))=_
  by_cases e:k=t
  . rw[if_pos e]
  . rw[if_neg e];exact Uk ((cp.mp h).resolve_left λz=>e z.symm)
theorem vU:aR (inW ts)=ts:=by unfold aR inW;rw[de];exact List.map_id' ts
theorem Fj:∀{a b:A6},t∉aR a->lk t (a++b)=lk t b
 | [],b,_=>rfl
 | (k,w)::a,b,h=>by
  show (if k=t then some w else lk t (a++b))=_;rw[if_neg (λz=>h (by rw[<- z];exact b9)),Fj λz=>h (cf _ z)]
variable {rest:A6}
theorem adB(hr:∀r∈rest,1<=r.2.c)(hq:1<=q.2.c):∃rest',cD (inW ts++rest) q=inW ts++rest'/\∀r∈rest',1<=r.2.c:=by
 by_cases hm:q.1∈ts
 . refine ⟨rest,?_,hr⟩;rw[cD,S5 (by rw[vU];exact hm),Uk hm];show (if q.2.c<fK.c then iz q.1 q.2 (inW ts++rest) else inW ts++rest)=_;rw[if_neg (show ¬ q.2.c<fK.c from qf _)]
 . have hm':q.1∉aR (inW ts):=by rw[vU];exact hm
   have hp:∃rest',iz q.1 q.2 (inW ts++rest)=inW ts++rest'/\∀r∈rest',1<=r.2.c:=by
    rw[iz,Fj hm'];split
    . refine ⟨yI q.1 q.2 rest,?_,λr h=>?_⟩
      . rw[yI,a7];congr 1;refine (cn λr h=>?_).trans (tw _);rw[if_neg (λz=>hm' (cc.mpr ⟨r,h,z⟩))];rfl
      . obtain ⟨p,hp,rfl⟩:=cc.mp h;split
        . exact hq
        . exact hr p hp
    . refine ⟨rest++[(q.1,q.2)],by rw[d5],λr h=>?_⟩;rcases cK.mp h with z | z
      . exact hr r z
      . rw[ay.mp z];exact hq
   rw[cD,Fj hm'];split
   . exact hp
   . split
     . exact hp
     . exact ⟨rest,rfl,hr⟩
theorem Fv:∀{qs rest:A6},(∀r∈rest,1<=r.2.c)->(∀q∈qs,1<=q.2.c)->∃rest',qs.foldl cD (inW ts++rest)=inW ts++rest'/\∀r∈rest',1<=r.2.c
 | [],rest,hr,_=>⟨rest,rfl,hr⟩
 | q::qs,rest,hr,hq=>by
  obtain ⟨r1,e1,h1⟩:=adB hr (hq q b9);rw[p9,e1];exact Fv h1 λp hp=>hq p (cf _ hp)
theorem K9:∀{ts us:B3},(us++ts).Nodup->(ts.map λt=>(t,fK)).foldl cD (inW us)=inW (us++ts)
 | [],us,_=>by rw[dr];rfl
 | t::ts,us,h=>by
  have hn:=λz=>(fv.mp h).2.2 t z t b9 rfl;have hk:t∉aR (inW us):=by rw[vU];exact hn
  rw[bo,p9,show cD (inW us) (t,fK)=inW (us++[t]) by
   rw[cD,zG.mpr hk];rw[iz,zG.mpr hk];unfold inW;rw[a7];rfl,K9 (by rw[d5];exact h),d5]
  rfl
theorem Nh(hn:(cT j).Nodup):qx j [] (nO gs j):=by
 have e:wK j=inW (cT j):=by
  show ((cT j).map λt=>(t,fK)).foldl cD (inW [])=_;rw[K9 (by rw[fi];exact hn),fi]
 obtain ⟨rest,e1,h1⟩:=Fv (qs:=qm gs j) (rest:=[]) (λr h=>nomatch h) λq hq=>by
  obtain ⟨g,_,rfl⟩:=cc.mp hq;exact aE _
 rw[dr] at e1;refine ⟨λ_=>⟨rfl,rest,?_,h1⟩,λh=>?_⟩
 . show (qm gs j).foldl cD (wK j)=_;rw[e,e1];rfl
 . have h:=Nat.le_zero.mp h;subst h;rfl
theorem lg{n:Nat}:(cT n).length=n:=by rw[cT,af,c9]
theorem abq(h:t∉ts)(hr:t∉aR rest):(inW (t::ts)++rest).filter (λq=>!decide (q.1=t))=inW ts++rest:=by
 show ((t,fK)::(inW ts++rest)).filter _=_;rw[gL (by simp)];refine List.filter_eq_self.mpr λq hq=>?_;rcases cK.mp hq with z | z
 . obtain ⟨u,hu,rfl⟩:=cc.mp z;simp only[xa,decide_eq_false_iff_not];exact λz=>h (z ▸ hu)
 . simp only[xa,decide_eq_false_iff_not];exact λe=>hr (cc.mpr ⟨q,z,e⟩)
theorem DX{k:ab}:∀{r:A6},jF k 0 (AU r)= .ok k
 | []=>rfl
 | (u,w)::r=>by
  show (if ((w.c:Nat):Int)<0 then jF (.int u) (w.c:Nat) (AU r) else jF k 0 (AU r))=_;rw[if_neg (by lia)];exact DX
theorem qx.step{w:Way}(F:qx j L ws)(I:fV gs j L ws)(hk:j6 (AU ws)= .ok (.int t))(h:(t,w)∈ws)(hn:(cT j).Nodup) :
 qx j (L++[(t,w)]) ((gC gs (L++[(t,w)]) t j).foldl cD (ws.filter λq=>!decide (q.1=t))):=by
 have hl:(L++[(t,w)]).length=L.length+1:=by rw[av];rfl
 by_cases hlt:L.length<j
 . obtain ⟨e1,rest,e2,hr⟩:=F.few hlt;obtain ⟨b,hb⟩:∃b,(cT j)[L.length]?=some b:=⟨_,ai (by rw[lg];exact hlt)⟩;have ed:(cT j).drop L.length=b::(cT j).drop (L.length+1):=by
    rw[mS (by rw[lg];exact hlt)];rw[ai (by rw[lg];exact hlt)] at hb;rw[Option.some.inj hb]
   rw[ed] at e2;have ndw:=(fv.mp I.nd).2.1;have e2':ws=(b,fK)::(inW ((cT j).drop (L.length+1))++rest):=e2;have etb:=by
    rw[e2'] at hk;have hk:jF (.int b) 0 (AU (inW ((cT j).drop (L.length+1))++rest))= .ok (.int t):=hk;rw[DX] at hk;exact (ab.int.inj (AI.ok.inj hk)).symm
   subst etb;have hw:=by
    have h1:=qO ndw h;have h2:=qO ndw (show (t,fK)∈ws by rw[e2'];exact b9);rw[h1] at h2;exact Option.some.inj h2
   subst hw;have hnd:t∉(cT j).drop (L.length+1)/\t∉aR rest:=by
    rw[e2'] at ndw;have h1:(t::(aR (inW ((cT j).drop (L.length+1)))++aR rest)).Nodup:=by
     have:aR ((t,fK)::(inW ((cT j).drop (L.length+1))++rest))=t::(aR (inW ((cT j).drop (L.length+1)))++aR rest):=by
      unfold aR;rw[bo,a7]
     rwa [this] at ndw
    rw[vU] at h1;have h2:=(ng.mp h1).1;exact ⟨λz=>h2 (eK _ z),λz=>h2 (cS _ z)⟩
   have ew:ws.filter (λq=>!decide (q.1=t))=inW ((cT j).drop (L.length+1))++rest:=by
    rw[e2];exact abq hnd.1 hnd.2
   have ef:L++[(t,fK)]=inW ((cT j).take (L.length+1)):=by
    have h1:=take_snoc hb;rw[h1];rw[inW,a7];show L++_=inW ((cT j).take L.length)++_;rw[<- e1];rfl
   obtain ⟨rest',e3,hr'⟩:=Fv (qs:=gC gs (L++[(t,fK)]) t j) hr λq hq=>by
    obtain ⟨g,_,hq⟩:=kz.mp hq;obtain ⟨c,_,e⟩:=mn.mp hq;unfold qC at e;split at e
    . cases e
    . cases e;exact Nat.le_add_right _ _
   rw[ew,e3];refine ⟨λ_=>⟨by rw[hl];exact ef,rest',by rw[hl],hr'⟩,λhge=>?_⟩;rw[hl] at hge;have e4:j=L.length+1:=by lia
   rw[ef,<- e4,h9 (by rw[inW,af,c8];lia),h9 (by rw[lg];exact aE _)]
 . have hge:=ky hlt;refine ⟨λz=>absurd z (by lia),λ_=>?_⟩;rw[og hge];exact F.all hge
section
variable  {n:Nat}
theorem uo(F:qx n L []):L.take n=inW (cT n)/\n<=L.length:=by
 have h:=ky λz=>by
  obtain ⟨_,rest,e,_⟩:=F.few z;have h1:=congrArg List.length e;rw[lS,av] at h1;unfold inW at h1;rw[af,nV,lg] at h1;lia
 exact ⟨F.all h,h⟩
theorem aeE(I:fV gs n L [])(F:qx n L [])(hq:L[i]?=some q)(hb:q.1∈cT n):i<n/\q.1=ir n i:=by
 obtain ⟨e,hl⟩:=uo F;have nd:=by have:=I.nd;rwa [show aR L++aR []=aR L from dr _] at this
 obtain ⟨j,hj,ej⟩:=kB.mp hb;rw[lg] at hj;have h1:(L.take n)[j]?=some (q.1,fK):=by
  rw[e];rw[inW,br,ai (by rw[lg];exact hj),ej];rfl
 rw[k9 hj] at h1;have h2:(aR L)[j]?=(aR L)[i]?:=by
  rw[aR,br,br,h1,hq];rfl
 have hji:=(List.getElem?_inj (by rw[aR,af];lia) nd).mp h2;subst hji;refine ⟨hj,?_⟩;have h3:(cT n)[j]?=some (ir n j):=by rw[cT,br,eP hj];rfl
 rw[ai (by rw[lg];exact hj),ej] at h3;exact Option.some.inj h3
end
def Kp(b:Int)(w:Nat)(rs:B3)(m:Nat):Prop:=∀c:B3,c.length=m->(∀x∈c,x∈rs)->iC b c w∈rs
theorem km:(brk b w rs m).isNone=true↔Kp b w rs m:=by
 rw[Wx,fb];exact ⟨λh c h1 h2=>of_decide_eq_true (h c (mK.mpr ⟨h1,h2⟩)),λh c hc=>decide_eq_true (h c (mK.mp hc).1 (mK.mp hc).2)⟩
theorem aeP(f:Nat->Int):tab 1 f=f 0:=by show 2*0+f 0=_;lia
theorem Y6(f:Nat->Int):tab 2 f=f 0+2*f 1:=by show 2*(2*0+f 1)+f 0=_;lia
theorem YH(f:Nat->Int):tab 4 f=f 0+2*f 1+4*f 2+8*f 3:=by show 2*(2*(2*(2*0+f 3)+f 2)+f 1)+f 0=_;lia
theorem iT:∀m,bj (ax m 0)=0
 | 0=>rfl
 | m+1=>by rw[fo,cV,iT m];rfl
theorem yL:∀m,bj (ax m 1)=2^m - 1
 | 0=>rfl
 | m+1=>by rw[fo,cV,yL m,la];lia
noncomputable abbrev col(c:B3)(j:Nat):B3:=c.map λt=>ak t (j:Nat)
theorem U0(c:B3)(j:Nat):bW (col c j):=bW.map λ_ _=>aP _ _
theorem T9:iC b c 1=ak b (bj (col c 0)):=aeP _
theorem Dz:iC b c 2=ak b (bj (col c 0))+2*ak b (bj (col c 1)):=Y6 _
theorem Uc:iC b c 4=ak b (bj (col c 0))+2*ak b (bj (col c 1))+4*ak b (bj (col c 2))+8*ak b (bj (col c 3)):=YH _
theorem Tj:Kp b 1 [0] m↔ak b 0=0:=by
 have e:iC b (ax m 0) 1=ak b 0:=by
  rw[T9];show ak b (bj ((ax m 0).map _))=_;rw[k7];show ak b (bj (ax m 0))=_;rw[iT]
 constructor
 . intro h;have:=h (ax m 0) ck λx hx=>ay.mpr (lb hx);rwa [e,ay] at this
 . intro h c h1 h2;have:=sD.mpr ⟨h1,λx hx=>ay.mp (h2 x hx)⟩;rw[this,e,h];exact ay.mpr rfl
theorem Oo:Kp b 1 [1] m↔ak b (2^m - 1)=1:=by
 have e:iC b (ax m 1) 1=ak b (2^m - 1):=by
  rw[T9];show ak b (bj ((ax m 1).map _))=_;rw[k7];show ak b (bj (ax m 1))=_;rw[yL]
 constructor
 . intro h;have:=h (ax m 1) ck λx hx=>ay.mpr (lb hx);rwa [e,ay] at this
 . intro h c h1 h2;have:=sD.mpr ⟨h1,λx hx=>ay.mp (h2 x hx)⟩;rw[this,e,h];exact ay.mpr rfl
theorem Jx:x∈([1,2]:B3)↔x=1\/x=2:=by simp
theorem O9:Kp b 2 [1,2] m↔∀r:Nat,r<2^m->ak b (r:Nat)≠ak b (2^m - 1 - (r:Nat)):=by
 constructor
 . intro h r hr;have k:=h ((bA m r).map λx=>2 - x) (by rw[af,bI]) λx hx=>by
    obtain ⟨y,hy,rfl⟩:=cc.mp hx;rcases kE hy with z | z <;> rw[z] <;> simp
   rw[Dz,Jx] at k;have e0:col ((bA m r).map λx=>2 - x) 0=bA m r:=by
    rw[col,de];refine (cn λx hx=>?_).trans (tw _);rcases kE hx with z | z <;> rw[z] <;> rfl
   have e1:col ((bA m r).map λx=>2 - x) 1=tL (bA m r):=by
    unfold col tL;rw[de];refine cn λx hx=>?_;rcases kE hx with z | z <;> rw[z] <;> rfl
   rw[e0,e1,xQ,bI,cG hr] at k;have h1:=aP b r;have h2:=aP b (2^m - 1 - r);lia
 . intro h c h1 h2;have e1:col c 1=tL (col c 0):=by
    unfold tL col;rw[de];refine cn λx hx=>?_;rcases Jx.mp (h2 x hx) with z | z <;> rw[z] <;> rfl
   obtain ⟨r,hr,er,_⟩:=Jj (U0 c 0);have hl:(col c 0).length=m:=by rw[af,h1]
   rw[hl] at hr;have k:=h r hr;rw[Dz,e1,xQ,hl,er,Jx];have h1:=aP b r;have h2:=aP b (2^m - 1 - r);lia
theorem zH:x∈([0,2,3]:B3)↔x=0\/x=2\/x=3:=by simp
theorem Ez(n i:Nat):ak (n:Nat) (i:Nat)=if n.testBit i then 1 else 0:=by
 rw[ak,cE,Nat.testBit_eq_decide_div_mod_eq];have:(n:Int) / 2^i % 2=((n / 2^i % 2:Nat):Int):=by push_cast;rfl
 rw[this]
 by_cases h:n / 2^i % 2=1
 . rw[h];simp
 . have:n / 2^i % 2=0:=by lia
   rw[this];simp
theorem qu:bA m r=(List.range m).map λj=>ak (r:Nat) (j:Nat):=by
 refine cn λj _=>?_;rw[ak,cE]
 push_cast
 rfl
theorem Ft{k:Nat}(hk:k<m):bA m (r ||| 2^k)=(bA m r).set k 1:=by
 rw[qu,qu];refine r6 λi=>?_;rw[xb,br,br,af,c9]
 by_cases hi:i<m
 . rw[eP hi];simp only[Ez,Nat.testBit_two_pow]
   by_cases he:k=i
   . subst he;simp[hk]
   . simp[he]
 . have:(List.range m)[i]?=none:=by rw[List.getElem?_eq_none_iff,c9];lia
   rw[this,if_neg (by lia)];rfl
inductive Below:B3->B3->Prop
 | nil:Below [] []
 | cons {x y:Int}{xs ys:B3}:(x=0/\y=0)\/(x=0/\y=1)\/(x=1/\y=1)->Below xs ys->Below (x::xs) (y::ys)
theorem GQ:∀{c:B3},(∀x∈c,x∈([0,2,3]:B3))->Below (col c 0) (col c 1)
 | [],_=>.nil
 | x::c,h=>.cons (by
  rcases zH.mp (h x b9) with z | z | z <;> rw[z] <;> decide) (GQ λy hy=>h y (cf _ hy))
theorem bW.app(h:bW xs)(h':bW ys):bW (xs++ys):=λx hx=>by
 rcases cK.mp hx with z | z
 . exact h x z
 . exact h' x z
theorem Below.left(h:Below xs ys):bW xs:=by
 induction h with
 | nil=>exact λx hx=>nomatch hx
 | cons h _ ih=>exact λx hx=>by rcases cp.mp hx with z | z;(· lia);exact ih x z
theorem Zv(h:∀r k:Nat,r<2^m->k<m->ak b (r:Nat)<=ak b ((r ||| 2^k:Nat)))(hb:Below xs ys):∀pre,bW pre->pre.length+xs.length=m->ak b (bj (pre++xs))<=ak b (bj (pre++ys)):=by
 induction hb with
 | nil=>intro pre _ _;exact nv _
 | @cons x y xs ys hxy hb ih=>
  intro pre hp hl;rw[a9] at hl;have h01:bW (pre++x::xs):=hp.app λz hz=>by rcases cp.mp hz with e | e;(· lia);exact hb.left z e
  have s1:ak b (bj (pre++x::xs))<=ak b (bj (pre++y::xs)):=by
   rcases hxy with ⟨rfl,rfl⟩ | ⟨rfl,rfl⟩ | ⟨rfl,rfl⟩
   . exact nv _
   . obtain ⟨r,hr,er,eb⟩:=Jj h01;have hm:(pre++0::xs).length=m:=by rw[av,a9];lia
     rw[hm] at hr eb;have k:=h r pre.length hr (by lia);have hb2:=Ft (m:=m) (r:=r) (k:=pre.length) (by lia);rw[eb] at hb2;have e2:(pre++0::xs).set pre.length 1=pre++1::xs:=by
      rw[List.set_append_right _ _ (aE _),kL];rfl
     rw[e2] at hb2;have hlt:r ||| 2^pre.length<2^m:=sg hr (ll (by decide) (by lia))
     rw[er,<- hb2,cG hlt];exact k
   . exact nv _
  have s2:=ih (pre++[y]) (hp.app λz hz=>by rw[ay.mp hz];lia) (by rw[av];show pre.length+1+xs.length=m;lia);rw[d5,d5] at s2;exact AB s1 s2
theorem Ga:Kp b 2 [0,2,3] m↔∀r k:Nat,r<2^m->k<m->ak b (r:Nat)<=ak b ((r ||| 2^k:Nat)):=by
 constructor
 . intro h r k hr hk;have hlt:=sg hr (ll (by decide) hk);have mem:∀j:Nat,(ak (r:Nat) (j:Nat)=0/\ak ((r ||| 2^k:Nat)) (j:Nat)=0)\/(ak (r:Nat) (j:Nat)=0/\ak ((r ||| 2^k:Nat)) (j:Nat)=1)\/(ak (r:Nat) (j:Nat)=1/\ak ((r ||| 2^k:Nat)) (j:Nat)=1):=λj=>by
    rw[Ez,Ez,Nat.testBit_or];cases r.testBit j <;> cases (2^k).testBit j <;> simp
   have kk:=h ((List.range m).map λj=>ak r (j:Nat)+2*ak ((r ||| 2^k:Nat)) j) (by rw[af,c9]) λx hx=>by
    obtain ⟨j,_,rfl⟩:=cc.mp hx;rw[zH];have:=mem j;lia
   have e0:col ((List.range m).map λj=>ak (r:Nat) (j:Nat)+2*ak ((r ||| 2^k:Nat)) (j:Nat)) 0=bA m r:=by
    rw[qu];rw[col,de];refine cn λj _=>?_;show ak (ak (r:Nat) (j:Nat)+2*ak ((r ||| 2^k:Nat)) (j:Nat)) ((0:Nat):Int)=ak (r:Nat) (j:Nat);rcases mem j with ⟨h1,h2⟩ | ⟨h1,h2⟩ | ⟨h1,h2⟩ <;> rw[h1,h2] <;> rfl
   have e1:col ((List.range m).map λj=>ak (r:Nat) (j:Nat)+2*ak ((r ||| 2^k:Nat)) (j:Nat)) 1=bA m (r ||| 2^k):=by
    rw[qu];rw[col,de];refine cn λj _=>?_;show ak (ak (r:Nat) (j:Nat)+2*ak ((r ||| 2^k:Nat)) (j:Nat)) ((1:Nat):Int)=ak ((r ||| 2^k:Nat)) (j:Nat);rcases mem j with ⟨h1,h2⟩ | ⟨h1,h2⟩ | ⟨h1,h2⟩ <;> rw[h1,h2] <;> rfl
   rw[Dz,e0,e1,cG hr,cG hlt,zH] at kk;have h1:=aP b r;have h2:=aP b ((r ||| 2^k:Nat));lia
 . intro h c h1 h2;have k:=Zv h (GQ h2) [] (λx hx=>nomatch hx) (by show 0+_=m;rw[af];lia);rw[fi,fi] at k;rw[Dz,zH];have h1:=aP b (bj (col c 0));have h2:=aP b (bj (col c 1));lia
noncomputable def gM:B3:=[0,3,5,6,9,10,12,15]
theorem U7:x∈gM↔x=0\/x=3\/x=5\/x=6\/x=9\/x=10\/x=12\/x=15:=by simp[gM]
noncomputable def wgt(b:Int)(k:Nat):Int:=ak b (2^k)+ak b 0
noncomputable def ie(b:Int):Nat->B3->Int
 | _,[]=>0
 | k,x::xs=>x*wgt b k+ie b (k+1) xs
noncomputable def wA(b:Int)(r:Nat):Nat->Int
 | 0=>ak b 0
 | k+1=>wA b r k+ak (r:Nat) (k:Nat)*wgt b k
theorem Ha(b:Int)(y:Int):∀(xs:B3) (k:Nat),ie b k (xs++[y])=ie b k xs+y*wgt b (k+xs.length)
 | [],k=>by show y*wgt b k+0=0+y*wgt b k;lia
 | x::xs,k=>by
  show x*wgt b k+ie b (k+1) (xs++[y])=x*wgt b k+ie b (k+1) xs+y*wgt b (k+(xs.length+1));rw[Ha b y xs (k+1),show k+1+xs.length=k+(xs.length+1) by lia];lia
theorem wH(b:Int)(r:Nat):∀m,wA b r m=ak b 0+ie b 0 (bA m r)
 | 0=>by show ak b 0=ak b 0+0;lia
 | m+1=>by
  show wA b r m+ak (r:Nat) (m:Nat)*wgt b m=_;have e:ak (r:Nat) (m:Nat)=((r / 2^m % 2:Nat):Int):=by
   rw[ak,cE]
   push_cast
   rfl
  rw[wH b r m,uL,Ha,bI,e,AC];lia
theorem Kz(b:Int):∀(c:B3) (k:Nat),(∀x∈c,x∈gM)->(ie b k (col c 0)+ie b k (col c 1)+ie b k (col c 2)+ie b k (col c 3)) % 2=0
 | [],k,_=>rfl
 | x::c,k,h=>by
  have ih:=Kz b c (k+1) λy hy=>h y (cf _ hy);show (ak x ((0:Nat):Int)*wgt b k+ie b (k+1) (col c 0)+(ak x ((1:Nat):Int)*wgt b k+ie b (k+1) (col c 1))+(ak x ((2:Nat):Int)*wgt b k+ie b (k+1) (col c 2))+(ak x ((3:Nat):Int)*wgt b k+ie b (k+1) (col c 3))) % 2=0;generalize ie b (k+1) (col c 0)=l0 at *
  generalize ie b (k+1) (col c 1)=l1 at *
  generalize ie b (k+1) (col c 2)=l2 at *
  generalize ie b (k+1) (col c 3)=l3 at *
  generalize wgt b k=w at *
  have bits:∀v:Int,v∈gM->(ak v ((0:Nat):Int)=0\/ak v ((0:Nat):Int)=1)/\(ak v ((1:Nat):Int)=0\/ak v ((1:Nat):Int)=1)/\(ak v ((2:Nat):Int)=0\/ak v ((2:Nat):Int)=1)/\(ak v ((3:Nat):Int)=0\/ak v ((3:Nat):Int)=1)/\(ak v ((0:Nat):Int)+ak v ((1:Nat):Int)+ak v ((2:Nat):Int)+ak v ((3:Nat):Int)) % 2=0:=by decide
  obtain ⟨h0,h1,h2,h3,he⟩:=bits x (h x b9);rcases h0 with z0 | z0 <;> rcases h1 with z1 | z1 <;> rcases h2 with z2 | z2 <;> rcases h3 with z3 | z3 <;> rw[z0,z1,z2,z3] at he ⊢ <;> first | lia
theorem GD{c:Int}(ha:x=0\/x=1)(hb:b=0\/b=1)(hc:c=0\/c=1)(hd:t=0\/t=1):x+2*b+4*c+8*t∈gM↔(x+b+c+t) % 2=0:=by
 rcases ha with rfl | rfl <;> rcases hb with rfl | rfl <;> rcases hc with rfl | rfl <;> rcases hd with rfl | rfl <;> decide
theorem vB{α β:Type}(f:α->β)(x:α)(n:Nat):(ax n x).map f=ax n (f x):=k7
theorem OJ(h:Kp b 4 gM m):∀(xs:B3) (k:Nat),bW xs->k+xs.length=m->ak b (bj (ax k 0++xs)) % 2=(ak b 0+ie b k xs) % 2
 | [],k,_,_=>by
  rw[dr,iT];show _=(ak b 0+0) % 2;lia
 | x::xs,k,hx,hl=>by
  rw[a9] at hl;have ih:=OJ h xs (k+1) hx.tail (by lia);have e0:ax (k+1) (0:Int)++xs=ax k 0++0::xs:=by
   rw[tm,d5];rfl
  rw[e0] at ih;show _=(ak b 0+(x*wgt b k+ie b (k+1) xs)) % 2;rcases hx x b9 with rfl | rfl
  . rw[ih];lia
  . have kk:=h (ax k 0++5::xs.map λy=>3*y) (by simp;lia) λy hy=>by
     rw[U7];rcases cK.mp hy with z | z
     . exact .inl (lb z)
     . rcases cp.mp z with z | z
       . lia
       . obtain ⟨v,hv,rfl⟩:=cc.mp z;rcases hx.tail v hv with e | e <;> lia
    have c0:col (ax k 0++5::xs.map λy=>3*y) 0=ax k 0++1::xs:=by
     rw[col,a7,vB,bo,de];congr 2;refine (cn λv hv=>?_).trans (tw _);rcases hx.tail v hv with e | e <;> rw[e] <;> rfl
    have c1:col (ax k 0++5::xs.map λy=>3*y) 1=ax k 0++0::xs:=by
     rw[col,a7,vB,bo,de];congr 2;refine (cn λv hv=>?_).trans (tw _);rcases hx.tail v hv with e | e <;> rw[e] <;> rfl
    have z2:∀j:Nat,(j=2\/j=3)->(xs.map λy=>3*y).map (λt=>ak t (j:Nat))=ax xs.length 0:=λj hj=>by
     rw[de];refine sD.mpr ⟨by rw[af],λv hv=>?_⟩;obtain ⟨u,hu,rfl⟩:=cc.mp hv;rcases hj with rfl | rfl <;> rcases hx.tail u hu with e | e <;> rw[e] <;> rfl
    have c2:col (ax k 0++5::xs.map λy=>3*y) 2=ax k 0++1::ax xs.length 0:=by
     rw[col,a7,vB,bo,z2 2 (.inl rfl)];rfl
    have c3:col (ax k 0++5::xs.map λy=>3*y) 3=ax k 0++0::ax xs.length 0:=by
     rw[col,a7,vB,bo,z2 3 (.inr rfl)];rfl
    have g0:∀(k:Nat) (ys:B3),bj (ax k 0++ys)=2^k*bj ys:=λk ys=>by
     induction k with
     | zero=>rw[l7,fi];lia
     | succ k ih=>rw[fo,gE,cV,ih,la,sf (2^k) 2,pS];lia
    have v2:bj (ax k 0++1::ax xs.length 0)=2^k:=by
     rw[g0,cV,iT];lia
    have v3:bj (ax k 0++0::ax xs.length 0)=0:=by
     rw[g0,cV,iT];lia
    rw[Uc,c0,c1,c2,c3,v2,v3,GD (aP _ _) (aP _ _) (aP _ _) (aP _ _)] at kk;unfold wgt;lia
theorem Fi:Kp b 4 gM m↔∀r:Nat,r<2^m->wA b r m % 2=ak b (r:Nat):=by
 constructor
 . intro h r hr;have k:=OJ h (bA m r) 0 bW.bA (by rw[bI];lia);rw[l7,fi,cG hr,<- wH] at k;have:=aP b r;lia
 . intro h c h1 h2;rw[Uc,GD (aP _ _) (aP _ _) (aP _ _) (aP _ _)];have e:∀j,ak b (bj (col c j))=(ak b 0+ie b 0 (col c j)) % 2:=λj=>by
    obtain ⟨r,hr,er,eb⟩:=Jj (U0 c j);have hl:(col c j).length=m:=by rw[af,h1]
    rw[hl] at hr eb;rw[er,<- h r hr,wH,eb]
   rw[e 0,e 1,e 2,e 3];have:=Kz b c 0 h2;lia
structure Fam (gs:A9) (F:Int->Prop):Prop where
 clo:∀g∈gs,∀ts:B3,ts.length=g.1->(∀t∈ts,F t)->F (iC g.2 ts 4)
 x:F 10
 y:F 12
noncomputable def dZ(t:Int):Int:=tab 4 λr=>1 - ak t (r:Nat)
noncomputable def uH(p q:Int):Int:=tab 4 λr=>ak p (r:Nat)*ak q (r:Nat)
variable {v:Int}
section
variable  {F:Int->Prop}
theorem Sy(h:v=0\/v=1):bj (ax m v)=if v=0 then 0 else 2^m - 1:=by
 rcases h with rfl | rfl
 . rw[iT,if_pos rfl]
 . rw[yL,if_neg (by decide)]
theorem Fam.one(h:Fam gs F)(hg:g∈gs)(ht:F t):F (tab 4 λr=>if ak t (r:Nat)=0 then ak g.2 0 else ak g.2 (2^g.1 - 1)):=by
 have k:=h.clo g hg (ax g.1 t) ck λx hx=>by rw[lb hx];exact ht
 have e:iC g.2 (ax g.1 t) 4=tab 4 λr=>if ak t (r:Nat)=0 then ak g.2 0 else ak g.2 (2^g.1 - 1):=by
  refine eO λr _=>?_;rw[vB,Sy (aP _ _)];split <;> rfl
 rwa [e] at k
theorem Fam.not_of(h:Fam gs F)(hg:g∈gs)(h0:ak g.2 0=1)(h1:ak g.2 (2^g.1 - 1)=0)(ht:F t):F (dZ t):=by
 have k:=h.one hg ht;have e:(tab 4 λr=>if ak t (r:Nat)=0 then ak g.2 0 else ak g.2 (2^g.1 - 1))=dZ t:=by
  refine eO λr _=>?_;rw[h0,h1];rcases aP t r with z | z <;> rw[z] <;> rfl
 rwa [e] at k
theorem Fam.Js(h:Fam gs F)(hg:g∈gs)(h0:ak g.2 0=v)(h1:ak g.2 (2^g.1 - 1)=v):F (tab 4 λ_=>v):=by
 have k:=h.one hg h.x;have e:(tab 4 λr=>if ak 10 (r:Nat)=0 then ak g.2 0 else ak g.2 (2^g.1 - 1))=tab 4 λ_=>v:=by
  refine eO λr _=>?_;rw[h0,h1];split <;> rfl
 rwa [e] at k
theorem tab0:(tab 4 λ_=>(0:Int))=0:=by decide
theorem adW:(tab 4 λ_=>(1:Int))=15:=by decide
theorem zU(hr:r<4):ak (dZ t) (r:Nat)=1 - ak t (r:Nat):=iD (λr=>by rcases aP t r with z | z <;> lia) hr
theorem Fam.Dc(h:Fam gs F)(hn:∀t,F t->F (dZ t))(hg:g∈gs)(hk:¬ Kp g.2 2 [1,2] g.1):F 0/\F 15:=by
 rw[O9] at hk;have ⟨r,hk⟩:=fq.mp hk;have ⟨hr,hk⟩:=fq.mp hk;have hk:=Classical.not_not.mp hk;have hnx:=hn _ h.x;have k:=h.clo g hg ((bA g.1 r).map λv=>if v=1 then 10 else dZ 10) (by rw[af,bI]) λt ht=>by
  obtain ⟨v,_,rfl⟩:=cc.mp ht;split
  . exact h.x
  . exact hnx
 have e:iC g.2 ((bA g.1 r).map λv=>if v=1 then 10 else dZ 10) 4=tab 4 λ_=>ak g.2 (r:Nat):=by
  refine eO λρ hρ=>?_;rw[de];rcases aP 10 ρ with z | z
  . have:(bA g.1 r).map ((λt=>ak t (ρ:Nat))∘λv=>if v=1 then 10 else dZ 10)=tL (bA g.1 r):=by
     refine cn λv hv=>?_;show ak (if v=1 then 10 else dZ 10) (ρ:Nat)=1 - v;rcases kE hv with e | e
     . rw[e,if_neg (by decide),zU hρ,z]
     . rw[e,if_pos rfl,z];rfl
    rw[this,xQ,bI,cG hr,hk]
  . have:(bA g.1 r).map ((λt=>ak t (ρ:Nat))∘λv=>if v=1 then 10 else dZ 10)=bA g.1 r:=by
     refine (cn λv hv=>?_).trans (tw _);show ak (if v=1 then 10 else dZ 10) (ρ:Nat)=v;rcases kE hv with e | e
     . rw[e,if_neg (by decide),zU hρ,z];rfl
     . rw[e,if_pos rfl,z]
    rw[this,cG hr]
 rw[e] at k;rcases aP g.2 r with z | z
 . rw[z,tab0] at k;exact ⟨k,by have:=hn _ k;rwa [show dZ 0=15 by decide] at this⟩
 . rw[z,adW] at k;exact ⟨by have:=hn _ k;rwa [show dZ 15=0 by decide] at this,k⟩
theorem afI:ak 0 (r:Nat)=0:=by rw[ak,zI];rfl
theorem aeK(h:r<4):ak 15 (r:Nat)=1:=by
 have:∀r<4,ak 15 ((r:Nat):Int)=1:=by decide
 exact this r h
noncomputable def cst(v:Int):Int:=if v=1 then 15 else 0
theorem aaN(h:v=0\/v=1)(hr:r<4):ak (cst v) (r:Nat)=v:=by
 unfold cst;rcases h with rfl | rfl
 . rw[if_neg (by decide),afI]
 . rw[if_pos rfl,aeK hr]
theorem CG(h0:F 0)(h1:F 15)(v:Int):F (cst v):=by
 unfold cst;split
 . exact h1
 . exact h0
theorem oJ(h:bW xs)(hr:r<4):(xs.map cst).map (λt=>ak t (r:Nat))=xs:=by
 rw[de];exact (cn λv hv=>aaN (h v hv) hr).trans (tw _)
theorem Fam.Yv(h:Fam gs F)(h0:F 0)(h1:F 15)(hg:g∈gs)(hk:¬ Kp g.2 2 [0,2,3] g.1):∀t,F t->F (dZ t):=by
 rw[Ga] at hk;have ⟨r,hk⟩:=fq.mp hk;have ⟨k,hk⟩:=fq.mp hk;have ⟨hr,hk⟩:=fq.mp hk;have ⟨hkm,hk⟩:=fq.mp hk;have b1:=aP g.2 r;have b2:=aP g.2 ((r ||| 2^k:Nat));have v1:ak g.2 (r:Nat)=1:=by lia
 have v2:ak g.2 ((r ||| 2^k:Nat))=0:=by lia
 have hlt:=sg hr (ll (by decide) hkm);have ek:(bA g.1 r).getD k 0=0:=by
  rcases zL (bW.bA) k with z | z
  . exact z
  . exfalso
    have:bA g.1 (r ||| 2^k)=bA g.1 r:=by
     rw[Ft hkm];refine r6 λi=>?_;rw[xb]
     by_cases e:k=i
     . subst e;rw[if_pos rfl,if_pos (by rw[bI];exact hkm)];rw[ae,ai (by rw[bI];exact hkm)] at z;rw[ai (by rw[bI];exact hkm)];exact congrArg some z.symm
     . rw[if_neg e]
    have:=congrArg bj this;rw[cG hlt,cG hr] at this;rw[this] at v2;lia
 have es:(bA g.1 r).set k 0=bA g.1 r:=by
  refine r6 λi=>?_;rw[xb]
  by_cases e:k=i
  . subst e;rw[if_pos rfl,if_pos (by rw[bI];exact hkm)];rw[ae,ai (by rw[bI];exact hkm)] at ek;rw[ai (by rw[bI];exact hkm)];exact congrArg some ek.symm
  . rw[if_neg e]
 intro t ht;have kk:=h.clo g hg (((bA g.1 r).map cst).set k t) (by rw[fy,af,bI]) λu hu=>by
  rcases List.mem_or_eq_of_mem_set hu with z | z
  . obtain ⟨v,_,rfl⟩:=cc.mp z;exact CG h0 h1 v
  . rw[z];exact ht
 have e:iC g.2 (((bA g.1 r).map cst).set k t) 4=dZ t:=by
  refine eO λρ hρ=>?_;rw[List.map_set,oJ bW.bA hρ];rcases aP t ρ with z | z
  . rw[z,es,cG hr,v1];rfl
  . rw[z,<- Ft hkm,cG hlt,v2];rfl
 rwa [e] at kk
noncomputable def Fq(b:Int)(pre mid suf:B3):Int:=ak b (bj (pre++0::(mid++0::suf)))+ak b (bj (pre++1::(mid++0::suf)))+ak b (bj (pre++0::(mid++1::suf)))+ak b (bj (pre++1::(mid++1::suf)))
theorem JD(k:Nat)(ys:B3):ax (k+1) (0:Int)++ys=ax k 0++0::ys:=by
 rw[tm,d5];rfl
theorem acH(k:Nat):bW (ax k 0):=λx hx=>.inl (lb hx)
theorem JB(h:∀pre mid suf:B3,bW pre->bW mid->bW suf->pre.length+mid.length+suf.length+2=m->Fq b pre mid suf % 2=0)(k:Nat):∀(ys:B3) (j:Nat),bW ys->k+1+j+ys.length=m ->
 (ak b (bj (ax k 0++1::(ax j 0++ys)))+ak b (bj (ax k 0++0::(ax j 0++ys)))) % 2=(ak b (bj (ax k 0++1::ax (j+ys.length) 0))+ak b (bj (ax k 0++0::ax (j+ys.length) 0))) % 2
 | [],j,_,_=>by rw[dr];rfl
 | y::ys,j,hy,hl=>by
  rw[a9] at hl;have ih:=JB h k ys (j+1) hy.tail (by lia);rw[JD,show j+1+ys.length=j+(y::ys).length by rw[a9];lia] at ih;rcases hy y b9 with rfl | rfl
  . exact ih
  . have d:=h (ax k 0) (ax j 0) ys (acH k) (acH j) hy.tail (by rw[ck,ck];lia);unfold Fq at d;rw[<- ih];lia
theorem Av(h:∀pre mid suf:B3,bW pre->bW mid->bW suf->pre.length+mid.length+suf.length+2=m->Fq b pre mid suf % 2=0):Kp b 4 gM m:=by
 have up:∀(xs:B3) (k:Nat),bW xs->k+xs.length=m->ak b (bj (ax k 0++xs)) % 2=(ak b 0+ie b k xs) % 2:=by
  intro xs
  induction xs with
  | nil=>
   intro k _ _;rw[dr,iT];show _=(ak b 0+0) % 2;lia
  | cons x xs ih=>
   intro k hx hl;rw[a9] at hl;have ih:=ih (k+1) hx.tail (by lia);rw[JD] at ih;show _=(ak b 0+(x*wgt b k+ie b (k+1) xs)) % 2;rcases hx x b9 with rfl | rfl
   . rw[ih];lia
   . have d:=JB h k xs 0 hx.tail (by lia);rw[l7,fi,AC] at d;have g0:∀(k:Nat) (ys:B3),bj (ax k 0++ys)=2^k*bj ys:=λk ys=>by
      induction k with
      | zero=>rw[l7,fi];lia
      | succ k ih=>rw[fo,gE,cV,ih,la,sf (2^k) 2,pS];lia
     rw[show bj (ax k 0++1::ax xs.length 0)=2^k by rw[g0,cV,iT];lia,show bj (ax k 0++0::ax xs.length 0)=0 by rw[g0,cV,iT];lia] at d;unfold wgt;lia
 rw[Fi];intro r hr;have k:=up (bA m r) 0 bW.bA (by rw[bI];lia);rw[l7,fi,cG hr,<- wH] at k;have:=aP b r;lia
theorem Fam.odd(h:Fam gs F)(h0:F 0)(h1:F 15)(hg:g∈gs)(hk:¬ Kp g.2 4 gM g.1):∃H:Int->Int->Int,(∀a b,H a b=0\/H a b=1)/\(H 0 0+H 1 0+H 0 1+H 1 1) % 2=1/\∀p q,F p->F q->F (tab 4 λr=>H (ak p (r:Nat)) (ak q (r:Nat))):=by
 have hk:=λz=>hk (Av z);have ⟨pre,hk⟩:=fq.mp hk;have ⟨mid,hk⟩:=fq.mp hk;have ⟨suf,hk⟩:=fq.mp hk;have ⟨a1,hk⟩:=fq.mp hk;have ⟨a2,hk⟩:=fq.mp hk;have ⟨a3,hk⟩:=fq.mp hk;have ⟨hl,hk⟩:=fq.mp hk;refine ⟨λa b=>ak g.2 (bj (pre++a::(mid++b::suf))),λ_ _=>aP _ _,?_,λp q hp hq=>?_⟩
 . unfold Fq at hk;show (ak g.2 (bj (pre++0::(mid++0::suf)))+ak g.2 (bj (pre++1::(mid++0::suf)))+ak g.2 (bj (pre++0::(mid++1::suf)))+ak g.2 (bj (pre++1::(mid++1::suf)))) % 2=1;lia
 . have k:=h.clo g hg (pre.map cst++p::(mid.map cst++q::suf.map cst)) (by simp;lia) λt ht=>by
    simp only[cK,cp,cc] at ht;rcases ht with ⟨v,_,rfl⟩ | rfl | ⟨v,_,rfl⟩ | rfl | ⟨v,_,rfl⟩
    . exact CG h0 h1 v
    . exact hp
    . exact CG h0 h1 v
    . exact hq
    . exact CG h0 h1 v
   have e:iC g.2 (pre.map cst++p::(mid.map cst++q::suf.map cst)) 4=tab 4 λr=>ak g.2 (bj (pre++ak p (r:Nat)::(mid++ak q (r:Nat)::suf))):=by
    refine eO λr hr=>?_;rw[a7,bo,a7,bo,oJ a1 hr,oJ a2 hr,oJ a3 hr]
   rwa [e] at k
theorem Fam.and(hn:∀t,F t->F (dZ t)){H:Int->Int->Int}(h01:∀a b,H a b=0\/H a b=1)(ho:(H 0 0+H 1 0+H 0 1+H 1 1) % 2=1)(hc:∀p q,F p->F q->F (tab 4 λr=>H (ak p (r:Nat)) (ak q (r:Nat)))):∀p q,F p->F q->F (uH p q):=by
 intro p q hp hq;have go:∀(n1 n2 n3:Bool),(∀a b:Int,(a=0\/a=1)->(b=0\/b=1)->(if n3=true then 1 - H (if n1=true then 1 - a else a) (if n2=true then 1 - b else b) else H (if n1=true then 1 - a else a) (if n2=true then 1 - b else b))=a*b)->F (uH p q):=λn1 n2 n3 hh=>by
  have hp':F (if n1=true then dZ p else p):=by split;(· exact hn p hp);exact hp
  have hq':F (if n2=true then dZ q else q):=by split;(· exact hn q hq);exact hq
  have k:=hc _ _ hp' hq';have bp:∀r:Nat,r<4->ak (if n1=true then dZ p else p) (r:Nat)=if n1=true then 1 - ak p (r:Nat) else ak p (r:Nat):=λr hr=>by
   split
   . exact zU hr
   . rfl
  have bq:∀r:Nat,r<4->ak (if n2=true then dZ q else q) (r:Nat)=if n2=true then 1 - ak q (r:Nat) else ak q (r:Nat):=λr hr=>by
   split
   . exact zU hr
   . rfl
  have e:(tab 4 λr=>H (ak (if n1=true then dZ p else p) (r:Nat)) (ak (if n2=true then dZ q else q) (r:Nat)))=tab 4 λr=>H (if n1=true then 1 - ak p (r:Nat) else ak p (r:Nat)) (if n2=true then 1 - ak q (r:Nat) else ak q (r:Nat)):=eO λr hr=>by rw[bp r hr,bq r hr]
  rw[e] at k
  cases n3 with
  | false=>
   have:(tab 4 λr=>H (if n1=true then 1 - ak p (r:Nat) else ak p (r:Nat)) (if n2=true then 1 - ak q (r:Nat) else ak q (r:Nat)))=uH p q:=eO λr _=>by
    have:=hh _ _ (aP p r) (aP q r);rwa [if_neg (by decide)] at this
   rwa [this] at k
  | true=>
   have k:=hn _ k;have:dZ (tab 4 λr=>H (if n1=true then 1 - ak p (r:Nat) else ak p (r:Nat)) (if n2=true then 1 - ak q (r:Nat) else ak q (r:Nat)))=uH p q:=by
    refine eO λr hr=>?_;rw[iD (λr=>h01 _ _) hr];have:=hh _ _ (aP p r) (aP q r);rwa [if_pos rfl] at this
   rwa [this] at k
 have fill:∀(n1 n2 n3:Bool) (c00 c10 c01 c11:Int),H 0 0=c00->H 1 0=c10->H 0 1=c01->H 1 1=c11 ->
  ((if n3=true then 1 - (if n1=true then (if n2=true then c11 else c10) else (if n2=true then c01 else c00)) else (if n1=true then (if n2=true then c11 else c10) else (if n2=true then c01 else c00)))=0) ->
  ((if n3=true then 1 - (if n1=true then (if n2=true then c01 else c00) else (if n2=true then c11 else c10)) else (if n1=true then (if n2=true then c01 else c00) else (if n2=true then c11 else c10)))=0) ->
  ((if n3=true then 1 - (if n1=true then (if n2=true then c10 else c11) else (if n2=true then c00 else c01)) else (if n1=true then (if n2=true then c10 else c11) else (if n2=true then c00 else c01)))=0) ->
  ((if n3=true then 1 - (if n1=true then (if n2=true then c00 else c01) else (if n2=true then c10 else c11)) else (if n1=true then (if n2=true then c00 else c01) else (if n2=true then c10 else c11)))=1)->F (uH p q):=by
  intro n1 n2 n3 c00 c10 c01 c11 e00 e10 e01 e11 k00 k10 k01 k11;refine go n1 n2 n3 λa b ha hb=>?_;cases n1 <;> cases n2 <;> cases n3 <;> rcases ha with rfl | rfl <;> rcases hb with rfl | rfl <;> simp[e10,e11] at k00 k10 k01 k11 ⊢ <;> lia
 rcases h01 0 0 with e00 | e00 <;> rcases h01 1 0 with e10 | e10 <;> rcases h01 0 1 with e01 | e01 <;> rcases h01 1 1 with e11 | e11 <;> rw[e00,e10,e01,e11] at ho <;> first
  | exact absurd ho (by decide)
  | exact fill false false false _ _ _ _ e00 e10 e01 e11 (by decide) (by decide) (by decide) (by decide)
  | exact fill false false true _ _ _ _ e00 e10 e01 e11 (by decide) (by decide) (by decide) (by decide)
  | exact fill false true false _ _ _ _ e00 e10 e01 e11 (by decide) (by decide) (by decide) (by decide)
  | exact fill false true true _ _ _ _ e00 e10 e01 e11 (by decide) (by decide) (by decide) (by decide)
  | exact fill true false false _ _ _ _ e00 e10 e01 e11 (by decide) (by decide) (by decide) (by decide)
  | exact fill true false true _ _ _ _ e00 e10 e01 e11 (by decide) (by decide) (by decide) (by decide)
  | exact fill true true false _ _ _ _ e00 e10 e01 e11 (by decide) (by decide) (by decide) (by decide)
  | exact fill true true true _ _ _ _ e00 e10 e01 e11 (by decide) (by decide) (by decide) (by decide)
theorem Fam.full(h:Fam gs F)(k1:∃g∈gs,¬ Kp g.2 1 [0] g.1)(k2:∃g∈gs,¬ Kp g.2 1 [1] g.1)(k3:∃g∈gs,¬ Kp g.2 2 [1,2] g.1)(k4:∃g∈gs,¬ Kp g.2 2 [0,2,3] g.1)(k5:∃g∈gs,¬ Kp g.2 4 gM g.1):∀n:Nat,n<16->F (n:Nat):=by
 have base:(F 0/\F 15)/\∀t,F t->F (dZ t):=by
  obtain ⟨g0,m0,h0⟩:=k1;obtain ⟨g1,m1,h1⟩:=k2;obtain ⟨g3,m3,h3⟩:=k3;obtain ⟨g4,m4,h4⟩:=k4;rw[Tj] at h0;rw[Oo] at h1;have a0:ak g0.2 0=1:=by have:=aP g0.2 0;lia
  have a1:ak g1.2 (2^g1.1 - 1)=0:=by have:=aP g1.2 (2^g1.1 - 1);lia
  by_cases c0:ak g0.2 (2^g0.1 - 1)=0
  . have hn:∀t,F t->F (dZ t):=λt ht=>h.not_of m0 a0 c0 ht;exact ⟨h.Dc hn m3 h3,hn⟩
  . by_cases c1:ak g1.2 0=1
    . have hn:∀t,F t->F (dZ t):=λt ht=>h.not_of m1 c1 a1 ht;exact ⟨h.Dc hn m3 h3,hn⟩
    . have d0:ak g0.2 (2^g0.1 - 1)=1:=by have:=aP g0.2 (2^g0.1 - 1);lia
      have d1:ak g1.2 0=0:=by have:=aP g1.2 0;lia
      have f15:=h.Js m0 a0 d0;have f0:=h.Js m1 d1 a1;rw[adW] at f15;rw[tab0] at f0;exact ⟨⟨f0,f15⟩,h.Yv f0 f15 m4 h4⟩
 obtain ⟨⟨f0,f15⟩,hn⟩:=base;obtain ⟨g5,m5,h5⟩:=k5;obtain ⟨H,h01,ho,hc⟩:=h.odd f0 f15 m5 h5;have ha:=Fam.and hn h01 ho hc;have f10:=h.x;have f12:=h.y;have f5:=by have:=hn _ f10;rwa [show dZ 10=5 by decide] at this
 have f3:=by have:=hn _ f12;rwa [show dZ 12=3 by decide] at this
 have f8:=by have:=ha _ _ f10 f12;rwa [show uH 10 12=8 by decide] at this
 have f2:=by have:=ha _ _ f10 f3;rwa [show uH 10 3=2 by decide] at this
 have f4:=by have:=ha _ _ f5 f12;rwa [show uH 5 12=4 by decide] at this
 have f1:=by have:=ha _ _ f5 f3;rwa [show uH 5 3=1 by decide] at this
 have f7:=by have:=hn _ f8;rwa [show dZ 8=7 by decide] at this
 have f13:=by have:=hn _ f2;rwa [show dZ 2=13 by decide] at this
 have f11:=by have:=hn _ f4;rwa [show dZ 4=11 by decide] at this
 have f14:=by have:=hn _ f1;rwa [show dZ 1=14 by decide] at this
 have f6:=by have:=ha _ _ f7 f14;rwa [show uH 7 14=6 by decide] at this
 have f9:=by have:=hn _ f6;rwa [show dZ 6=9 by decide] at this
 intro n hn';have:n=0\/n=1\/n=2\/n=3\/n=4\/n=5\/n=6\/n=7\/n=8\/n=9\/n=10\/n=11\/n=12\/n=13\/n=14\/n=15:=by lia
 rcases this with rfl | rfl | rfl | rfl | rfl | rfl | rfl | rfl | rfl | rfl | rfl | rfl | rfl | rfl | rfl | rfl <;> assumption
end
inductive qb (n:Nat):ab->(Nat->Int)->Nat->Nat->Prop
 | inp {i:Nat} (hi:i<n):qb n (.int (i:Nat)) (λr=>ak (r:Nat) (i:Nat)) 0 0
 | not {d:ab}{v:Nat->Int}{w k:Nat} (h:qb n d v w k):qb n (dT 1 1 [d]) (λr=>1 - v r) (w+3) (k+1)
 | vQ {d e:ab}{v u:Nat->Int}{w x k l:Nat} (h:qb n d v w k) (h':qb n e u x l):qb n (dT 2 7 [d,e]) (λr=>1 - v r*u r) (w+x+16) (max k l+1)
noncomputable def wt(s:aF):Nat:=if s.m=1 then 3 else 16
noncomputable def stW(ss:List aF):Nat:=(ss.map wt).sum
def NNs(ss:List aF):Prop:=∀s∈ss,(s.m=1/\s.b=1)\/(s.m=2/\s.b=7)
variable {a:List aF}
theorem NNs.app(h:NNs a)(h':NNs ss):NNs (a++ss):=λs hs=>(cK.mp hs).elim (h s) (h' s)
theorem vo{b:List aF}:stW (a++b)=stW a+stW b:=by unfold stW;rw[a7,qh]
theorem qb.v01{d:ab}{v:Nat->Int}(h:qb j d v w W):∀r,v r=0\/v r=1:=by
 induction h with
 | inp hi=>exact λr=>aP _ _
 | not h ih=>exact λr=>by rcases ih r with z | z <;> simp only[z] <;> decide
 | vQ h h' i1 i2=>exact λr=>by rcases i1 r with z | z <;> rcases i2 r with y | y <;> simp only[z,y] <;> decide
theorem abA(h:x=0\/x=1):ak 1 (bj [x])=1 - x:=by
 rcases h with rfl | rfl <;> decide
theorem VJ{y:Int}(h:x=0\/x=1)(h':y=0\/y=1):ak 7 (bj [x,y])=1 - x*y:=by
 rcases h with rfl | rfl <;> rcases h' with rfl | rfl <;> decide
theorem qb.ok{d:ab}{v:Nat->Int}(h:qb j d v w W):∀K,W<=K->nQ j K d/\(∀r,Jm r K d=v r)/\∀AF,∃more,(dF j K AF d).1=AF++more/\NNs more/\stW more<=w:=by
 induction h with
 | inp hi=>exact λK _=>⟨nQ.inp hi,λr=>Ln,λAF=>⟨[],by rw[Bt,dr],(λs hs=>by cases hs),aE _⟩⟩
 | @not d v w W h ih=>
  intro K hK;obtain ⟨K,rfl⟩:∃K',K=K'+1:=⟨K - 1,by lia⟩;obtain ⟨i1,i2,i3⟩:=ih K (by lia);refine ⟨.inr ⟨1,1,[d],by decide,by decide,by decide,rfl,rfl,λe he=>by rw[ay.mp he];exact i1⟩,λr=>?_,λAF=>?_⟩
  . rw[yM,bo,ft,i2 r];exact abA (h.v01 r)
  . obtain ⟨more,e,h1,h2⟩:=i3 AF;rw[uF,show fO (dF j K) AF [d]=((dF j K AF d).1,[(dF j K AF d).2]) from rfl,e];exact ⟨more++[⟨1,1,[(dF j K AF d).2]⟩],d5 _ _ _,h1.app λs hs=>by rw[ay.mp hs];exact .inl ⟨rfl,rfl⟩,by rw[vo];show stW more+3<=_;lia⟩
 | @vQ d e v u w x W l h h' i i'=>
  intro K hK;obtain ⟨K,rfl⟩:∃K',K=K'+1:=⟨K - 1,by lia⟩;obtain ⟨i1,i2,i3⟩:=i K (by lia);obtain ⟨j1,j2,j3⟩:=i' K (by lia);refine ⟨.inr ⟨2,7,[d,e],by decide,by decide,by decide,rfl,rfl,λf hf=>?_⟩,λr=>?_,λAF=>?_⟩
  . rcases cp.mp hf with rfl | hf
    . exact i1
    . rw[ay.mp hf];exact j1
  . rw[yM,bo,bo,ft,i2 r,j2 r];exact VJ (h.v01 r) (h'.v01 r)
  . obtain ⟨m1,e1,h1,h2⟩:=i3 AF;obtain ⟨m2,e2,h3,h4⟩:=j3 (dF j K AF d).1;rw[uF,show fO (dF j K) AF [d,e]=((dF j K (dF j K AF d).1 e).1,[(dF j K AF d).2,(dF j K (dF j K AF d).1 e).2]) from rfl,e2,e1];exact ⟨m1++(m2++[⟨2,7,_⟩]),by rw[d5,d5],h1.app (h3.app λs hs=>by rw[ay.mp hs];exact .inr ⟨rfl,rfl⟩),by rw[vo,vo];show stW m1+(stW m2+16)<=_;lia⟩
def gO(n:Nat)(d:ab)(u:Nat->Int)(x l:Nat):Prop:=∃v w k,qb n d v w k/\(∀r,v r=u r)/\w<=x/\k<=l
theorem gO.inp{n i:Nat}(hi:i<n):gO n (.int (i:Nat)) (λr=>ak (r:Nat) (i:Nat)) 0 0:=⟨_,_,_,.inp hi,λ_=>rfl,aE _,aE _⟩
variable {u:Nat->Int}
theorem gO.ext{d:ab}{v:Nat->Int}(h:gO j d u W i)(e:∀r,u r=v r)(hx:W<=p)(hl:i<=m):gO j d v p m:=by
 obtain ⟨v',w,k,h1,h2,h3,h4⟩:=h;exact ⟨v',w,k,h1,λr=>(h2 r).trans (e r),by lia,by lia⟩
theorem gO.vQ{n:Nat}{d e:ab}{u v:Nat->Int}{x y l m:Nat}(h:gO n d u x l)(h':gO n e v y m):gO n (dT 2 7 [d,e]) (λr=>1 - u r*v r) (x+y+16) (max l m+1):=by
 obtain ⟨v1,w1,k1,a1,a2,a3,a4⟩:=h;obtain ⟨v2,w2,k2,b1,b2,b3,b4⟩:=h';exact ⟨_,_,_,.vQ a1 b1,λr=>by simp only[a2 r,b2 r],by lia,by lia⟩
theorem lD{d:ab}(h:gO j d u W p):∃e,cI [d]= .ok e/\gO j e (λr=>1 - u r) (W+3) (p+1):=by
 obtain ⟨v,w,k,a1,a2,a3,a4⟩:=h;have ne:∀{d:ab},cI [d]= .ok (dT 1 1 [d])->qb j d v w k->∃e,cI [d]= .ok e/\gO j e (λr=>1 - u r) (W+3) (p+1):=λe a=>⟨_,e,_,_,_,.not a,λr=>by simp only[a2 r],by lia,by lia⟩
 cases a1 with
 | @inp i hi=>
  refine ne ?_ (.inp hi);unfold cI;ext;rw[vK];ext;rfl
 | @not d v' w' k' a=>
  refine ⟨d,?_,v',w',k',a,λr=>?_,by lia,by lia⟩
  . unfold cI dT;ext;rw[oX];ext;rw[show eqD (dG 1 1) gB= .ok (.bool true) by unfold gB;exact Ja];ext
  . have:1 - v' r=u r:=a2 r;show v' r=1 - u r;lia
 | @vQ d e v1 v2 w1 w2 k1 k2 a b=>
  refine ne ?_ (.vQ a b);unfold cI dT;ext;rw[oX];ext;rw[show eqD (dG 2 7) gB= .ok (.bool false) by unfold gB;exact Ja];ext;rfl
theorem Xa:bA j (r % 2^j)=bA j r:=by
 have h:=uP (xs:=bA j r) λx hx=>kE hx;rwa [bI,uW,cE] at h
theorem Kl(hw:x=0\/x=1)(h:((r / 2^j % 2:Nat):Int)=x):ak (eF j t j x) ((r % 2^j:Nat):Int)=ak t ((r % 2^(j+1):Nat):Int):=by
 rw[abh hw (Au _ (xc (by decide))),Xa];have e:lA j x (bA j r)=bA (j+1) r:=by
  rw[lA,uL,h,h9 (by rw[bI];exact aE _),yY (by rw[bI];exact aE _)]
 rw[e,uW]
theorem Lg:ak (r:Nat) (j:Nat)=((r / 2^j % 2:Nat):Int):=by
 rw[ak,cE,Int.natCast_emod,Int.natCast_ediv,nk];rfl
theorem PX{r:Int}:ak 0 r=0:=by rw[ak,zI];rfl
noncomputable def wN:Nat->Nat
 | 0=>0
 | 1=>9
 | n+2=>2*wN (n+1)+51
theorem ae0:∀n,wN n<=wN (n+1)
 | 0=>by decide
 | n+1=>by rw[show wN (n+1+1)=2*wN (n+1)+51 from rfl];lia
theorem abz{n:Nat}{p:Prop}[Decidable p](hwy:j<=3)(h:n=0->¬ p):(if p then j+wN n+16 else j+3)+3<=wN (n+1):=by
 match n with
 | 0=>
  rw[if_neg (h rfl)];show j+3+3<=9;lia
 | n+1=>
  rw[show wN (n+1+1)=2*wN (n+1)+51 from rfl];split <;> lia
theorem aaT{n:Nat}{p q:Prop}[Decidable p][Decidable q](h:n≠0):(if p then 0+3+wN n+16 else 0+3+3)+(if q then 0+wN n+16 else 0+3)+16<=wN (n+1):=by
 match n with
 | 0=>exact absurd rfl h
 | n+1=>
  rw[show wN (n+1+1)=2*wN (n+1)+51 from rfl];split <;> split <;> lia
theorem Tt{there:ab}(hn:W<=3)(h0:0<=t)(h1:t<2^2^W)(hy:gO j there u p m)
 (ih:0<t->t<2^2^W - 1->∃d,cH w [dG W t]= .ok d/\gO j d (λr=>ak t ((r % 2^W:Nat):Int)) (wN W) (3*W)) :
 ∃ds,tD (cH w) [dG W t,there]= .ok (.list ds)/\((t=0/\ds=[])\/(t≠0/\∃d,ds=[d]/\gO j d (λr=>1 - u r*ak t ((r % 2^W:Nat):Int)) (if t<2^2^W - 1 then p+wN W+16 else p+3) (max m (3*W)+1))):=by
 unfold tD
 by_cases ht0:t=0
 . subst ht0;refine ⟨[],?_,.inl ⟨rfl,rfl⟩⟩;ext
 . by_cases hf:t<2^2^W - 1
   . obtain ⟨d,e,hd⟩:=ih (by lia) hf;refine ⟨[dT 2 7 [there,d]],?_,.inr ⟨ht0,_,rfl,?_⟩⟩
     . ext;rw[decide_eq_false ht0];ext;rw[g8 (by lia)];ext;rw[decide_eq_false (by lia)];ext;rw[e];ext;rfl
     . rw[if_pos hf];exact (hy.vQ hd).ext (λ_=>rfl) (aE _) (aE _)
   . have ht:t=2^2^W - 1:=by lia
     obtain ⟨o,eo,ho⟩:=lD hy;refine ⟨[o],?_,.inr ⟨ht0,_,rfl,?_⟩⟩
     . ext;rw[decide_eq_false ht0];ext;rw[g8 (by lia)];ext;rw[decide_eq_true ht];ext;rw[eo];ext
     . rw[if_neg hf];refine ho.ext (λr=>?_) (aE _) (by lia);have:ak t ((r % 2^W:Nat):Int)=1:=by
        rw[ht];have e1:(2:Int)^2^W - 1=tab (2^W) λ_=>1:=by rw[mU,wd]
        rw[e1];exact iD (λ_=>.inr rfl) (Au _ (xc (by decide)))
       rw[this,wd]
theorem rY:cH (j+1) ds=fnR 5 (aK (bc 1 (ao jb (ao AQ (aj 0) (eC (.int 0))) (eC (.int 1))))
 (aK (bc 2 (aM jy [(aj 0),(aj 1),(eC (.int 0))]))
 (aK (bc 3 (aM jy [(aj 0),(aj 1),(eC (.int 1))]))
 (aK (sIf (ao eqD (aj 2) (aj 3)) (bB (aM (cH j) [(aj 2)])) cB)
 (aK (bc 4 (ao cJ (aM (tD (cH j)) [(aj 2),(aM cI [(aj 1)])]) (aM (tD (cH j)) [(aj 3),(aj 1)])))
 (aK (sIf (ao eqD (eFn fL [(aj 4)]) (eC (.int 1))) (bB (aM cI [(ao AQ (aj 4) (eC (.int 0)))])) cB)
 (bB (bM [(eC dU),(eFn gJ [(aj 4)])])))))))) ds:=rfl
theorem FN{N:Nat}:∀(n fu:Nat) (t:Int),n<=4->n<=N->n<=fu->0<t->t<2^2^n - 1->∃d,cH fu [dG n t]= .ok d/\gO N d (λr=>ak t ((r % 2^n:Nat):Int)) (wN n) (3*n)
 | 0,fu,t,_,_,_,h0,h1=>by
  have h1:=h1;lia
 | n+1,0,t,_,_,hfu,_,_=>by lia
 | n+1,fu+1,t,hn,hN,hfu,h0,h1=>by
  have lt:=λw=>ac2 n t n w;have nn:=λw=>Q9 n t n w;have xv:∀r:Nat,ak (r:Nat) (n:Nat)=0\/ak (r:Nat) (n:Nat)=1:=λr=>aP _ _;have hb0:∀r:Nat,ak (r:Nat) (n:Nat)=0->ak t ((r % 2^(n+1):Nat):Int)=ak (eF n t n 0) ((r % 2^n:Nat):Int):=λr h=>(Kl (.inl rfl) (by rw[<- Lg];exact h)).symm;have hb1:∀r:Nat,ak (r:Nat) (n:Nat)=1->ak t ((r % 2^(n+1):Nat):Int)=ak (eF n t n 1) ((r % 2^n:Nat):Int):=λr h=>(Kl (.inr rfl) (by rw[<- Lg];exact h)).symm;rw[rY];have e1:=Cv (b:=t) (j:=n) (by lia) (aE _) (.inl rfl);have e2:=Cv (b:=t) (j:=n) (by lia) (aE _) (.inr rfl);have n1:((n+1:Nat):Int) - 1=((n:Nat):Int):=by lia
  by_cases hlh:eF n t n 0=eF n t n 1
  . have both:∀r:Nat,ak t ((r % 2^(n+1):Nat):Int)=ak (eF n t n 0) ((r % 2^n:Nat):Int):=λr=>by
     rcases xv r with h | h
     . exact hb0 r h
     . rw[hb1 r h,hlh]
    have ext2:∀v:Int,(∀r:Nat,ak (eF n t n 0) ((r % 2^n:Nat):Int)=v)->t=(2^2^(n+1) - 1)*v:=λv hv=>by
     have e0:tab (2^(n+1)) (λr=>ak t (r:Nat))=t:=acs (λr=>aP _ _) (by lia) (by lia) λr _=>rfl;rw[<- e0,<- mU];exact eO λr hr=>by
      have:=both r;rw[xS hr] at this;rw[this,hv r]
    have a0:eF n t n 0≠0:=λz=>by
     have:=ext2 0 λr=>by rw[z];rw[ak,zI];rfl
     lia
    have a1:eF n t n 0<2^2^n - 1:=by
     have:=lt 0;refine hY λz=>?_;have hz:eF n t n 0=2^2^n - 1:=by lia
     have:=ext2 1 λr=>by
      have e1:(2:Int)^2^n - 1=tab (2^n) λ_=>1:=by rw[mU,wd]
      rw[hz,e1];exact iD (λ_=>.inr rfl) (Au _ (xc (by decide)))
     lia
    obtain ⟨d,e,hd⟩:=FN (N:=N) n fu (eF n t n 0) (by lia) (by lia) (by lia) (by have:=nn 0;lia) a1;refine ⟨d,?_,hd.ext (λr=>(both r).symm) ?_ (by lia)⟩
    . ext;rw[n1,e1];ext;rw[e2];ext;rw[decide_eq_true hlh];ext;rw[e];rfl
    . exact ae0 n
  . obtain ⟨o,eo,ho⟩:=lD (gO.inp (n:=N) (i:=n) (by lia));have ih:∀w:Int,0<eF n t n w->eF n t n w<2^2^n - 1->∃d,cH fu [dG n (eF n t n w)]= .ok d/\gO N d (λr=>ak (eF n t n w) ((r % 2^n:Nat):Int)) (wN n) (3*n):=λw q1 q2=>FN n fu _ (by lia) (by lia) (by lia) q1 q2;obtain ⟨da,ea,ha⟩:=Tt (by lia) (nn 0) (lt 0) ho (ih 0);obtain ⟨db,eb,hb⟩:=Tt (by lia) (nn 1) (lt 1) (gO.inp (i:=n) (by lia)) (ih 1);have go:∀{q:ab},(da.length+db.length=1->cI [(da++db).getD 0 .none]= .ok q)->(da.length+db.length≠1->q= .tuple [dU,.tuple (da++db)])->cH (fu+1) [dG (n+1) t]= .ok q:=λ{q} q1 q2=>by
     have hl:(da++db).length<=2:=by
      rcases ha with ⟨_,rfl⟩ | ⟨_,d,rfl,_⟩ <;> rcases hb with ⟨_,rfl⟩ | ⟨_,d',rfl,_⟩ <;> simp
     rw[rY];ext;rw[n1,e1];ext;rw[e2];ext;rw[decide_eq_false hlh];ext;rw[eo];ext;rw[ea];ext;rw[eb];ext;rw[uD (l9 (AW (by rw[<- av];lia)))];ext
     by_cases h1:da.length+db.length=1
     . rw[decide_eq_true (by rw[av];lia)];ext;have hx:(da++db)[0]?=some ((da++db).getD 0 .none):=by
        rw[ae,ai (by rw[av];lia)];rfl
       rw[show AQ (.list (da++db)) (.int 0)= .ok ((da++db).getD 0 .none) from jc (i:=0) hx];ext;rw[q1 h1];rfl
     . rw[decide_eq_false (by rw[av];lia),q2 h1];ext
    rw[<- rY];have hz:n=0->∀w,eF n t n w≠0->eF n t n w=1/\¬ eF n t n w<2^2^n - 1:=λz w hw=>by
     subst z;have h1:eF 0 t 0 w<2:=lt w;have h2:=nn w;have h3:eF 0 t 0 w=1:=by lia
     exact ⟨h3,by rw[h3];decide⟩
    have hw:∀(w:Int) (wy:Nat),wy<=3->eF n t n w≠0->(if eF n t n w<2^2^n - 1 then wy+wN n+16 else wy+3)+3<=wN (n+1):=λw wy hwy h=>abz hwy λz=>(hz z w h).2;rcases ha with ⟨a0,rfl⟩ | ⟨a0,d,rfl,hd⟩
    . rcases hb with ⟨b0,rfl⟩ | ⟨b0,d',rfl,hd'⟩
      . exact absurd (a0.trans b0.symm) hlh
      . obtain ⟨q,eq,hq⟩:=lD hd';refine ⟨q,go (λ_=>eq) (λz=>absurd rfl z),hq.ext (λr=>?_) (hw 1 0 (by lia) b0) (by lia)⟩;rcases xv r with h | h
        . rw[hb0 r h,a0,h,PX];lia
        . rw[hb1 r h,h];have:=aP (eF n t n 1) ((r % 2^n:Nat):Int);lia
    . rcases hb with ⟨b0,rfl⟩ | ⟨b0,d',rfl,hd'⟩
      . obtain ⟨q,eq,hq⟩:=lD hd;refine ⟨q,go (λ_=>eq) (λz=>absurd rfl z),hq.ext (λr=>?_) (hw 0 3 (by lia) a0) (by lia)⟩;rcases xv r with h | h
        . rw[hb0 r h,h];have:=aP (eF n t n 0) ((r % 2^n:Nat):Int);lia
        . rw[hb1 r h,b0,h,PX];lia
      . refine ⟨dT 2 7 [d,d'],go (λz=>by cases z) (λ_=>rfl),(hd.vQ hd').ext (λr=>?_) ?_ (by lia)⟩
        . have y0:=aP (eF n t n 0) ((r % 2^n:Nat):Int);have y1:=aP (eF n t n 1) ((r % 2^n:Nat):Int);rcases xv r with h | h
          . rw[hb0 r h,h];rcases y0 with z | z <;> rcases y1 with z' | z' <;> rw[z,z'] <;> decide
          . rw[hb1 r h,h];rcases y0 with z | z <;> rcases y1 with z' | z' <;> rw[z,z'] <;> decide
        . exact aaT λz=>hlh ((hz z 0 a0).1.trans (hz z 1 b0).1.symm)
theorem M3(hn:j<=4)(hn1:1<=j)(h0:0<=t)(h1:t<2^2^j):∃d,o5 [dG j t]= .ok d/\gO j d (λr=>ak t ((r % 2^j:Nat):Int)) 429 12:=by
 have hi:gO j (.int ((0:Nat):Int)) (λr=>ak (r:Nat) ((0:Nat):Int)) 0 0:=gO.inp (by lia);obtain ⟨o,eo,ho⟩:=lD hi;have eo:cI [.int 0]= .ok o:=eo;have hal:=hi.vQ ho;have al1:∀r:Nat,1 - ak (r:Nat) ((0:Nat):Int)*(1 - ak (r:Nat) ((0:Nat):Int))=1:=λr=>by
  rcases aP r ((0:Nat):Int) with z | z <;> rw[z] <;> decide
 unfold o5
 by_cases hf:t=2^2^j - 1
 . refine ⟨dT 2 7 [.int 0,o],?_,hal.ext (λr=>?_) (by decide) (by decide)⟩
   . ext;rw[eo];ext;rw[g8 (by lia)];ext;rw[decide_eq_true hf];ext;rfl
   . rw[al1 r,hf];have e1:(2:Int)^2^j - 1=tab (2^j) λ_=>1:=by rw[mU,wd]
     rw[e1];exact (iD (λ_=>.inr rfl) (Au _ (xc (by decide)))).symm
 . by_cases hz:t=0
   . obtain ⟨q,eq,hq⟩:=lD hal;have eq:cI [.tuple [dU,.tuple [.int 0,o]]]= .ok q:=eq;refine ⟨q,?_,hq.ext (λr=>?_) (by decide) (by decide)⟩
     . ext;rw[eo];ext;rw[g8 (by lia)];ext;rw[decide_eq_false hf];ext;rw[decide_eq_true hz];ext;rw[eq];rfl
     . rw[al1 r,hz,PX];decide
   . obtain ⟨d,e,hd⟩:=FN j 8 t hn (aE _) (by lia) (by lia) (by lia);have hw:wN j<=429:=by
      rcases (by lia:j=1\/j=2\/j=3\/j=4) with rfl | rfl | rfl | rfl <;> decide
     refine ⟨d,?_,hd.ext (λ_=>rfl) hw (by lia)⟩;ext;rw[eo];ext;rw[g8 (by lia)];ext;rw[decide_eq_false hf];ext;rw[decide_eq_false hz];ext;rw[e];rfl
structure gQ (gs:A9) (n:Nat) (t:Int) (k:Nat) (ss:List aF) (o:Nat):Prop where
 ok:aV n ss
 lt:o<n+ss.length
 gin:∀s∈ss,(s.m,s.b)∈gs
 val:∀r,r<2^n->(b8 n ss r).getD o 0=ak t (r:Nat)
 len:ss.length<=k
def Ay(ss' ss:List aF):Prop:=∀s∈ss',∃t∈ss,s.m=t.m/\s.b=t.b
theorem FW{n:Nat}{U:B3}{ss:List aF}:∀i,i<=ss.length->Ay (gq n U ss i).1 ss
 | 0,_=>λs hs=>by cases hs
 | i+1,hi=>by
  have ih:=FW (n:=n) (U:=U) (ss:=ss) i (by lia)
  by_cases h:((n+i:Nat):Int)∈U
  . rw[zu h];intro s hs;rcases cK.mp hs with z | z
    . exact ih s z
    . rw[ay.mp z];refine ⟨ss.getD i ⟨0,0,[]⟩,?_,rfl,rfl⟩;rw[ae,ai (show i<ss.length by lia)];exact fE _
  . rw[wI h];exact ih
theorem aa0{n:Nat}(ss:List aF):Ay (eE n ss).1 ss:=by
 induction ss using snoc_ind with
 | h0=>intro s hs;cases hs
 | h ss s ih=>
  rw[ux];unfold Bx;intro x hx;have old:∀y∈(eE n ss).1,∃t∈ss++[s],y.m=t.m/\y.b=t.b:=λy hy=>by
   obtain ⟨t,ht,e⟩:=ih y hy;exact ⟨t,eK _ ht,e⟩
  revert hx;split
  . exact λhx=>old x hx
  . intro hx;rcases cK.mp hx with z | z
    . exact old x z
    . rw[ay.mp z];exact ⟨s,cS _ b9,rfl,rfl⟩
theorem Ay.trans{c:List aF}(h:Ay a ss)(k:Ay ss c):Ay a c:=λs hs=>by
 obtain ⟨t,ht,e1,e2⟩:=h s hs;obtain ⟨u,hu,f1,f2⟩:=k t ht;exact ⟨u,hu,e1.trans f1,e2.trans f2⟩
theorem Vh{n:Nat}(hs:aV n ss)(hn:n<=100)(hl:ss.length<=5000)(ho:o<n+ss.length) :
 ∃(ss':List aF) (o':Nat),oV [dC n ss o]= .ok (dC n ss' o')/\Alike n ss o ss' o'/\ss'.length<=ss.length/\Ay ss' ss:=by
 obtain ⟨i1,i2,i3,i4⟩:=zY ss hs;have i5:∀{β:Type} (φ:Nat->Int->List β->β) (z:β) (base:List β),base.length=n->(cO φ z base (eE n ss).1).getD ((eE n ss).2.getD o 0) z=(cO φ z base ss).getD o z:=λφ z base hb=>Uz hb ss hs o ho;have i6:=aa0 (n:=n) ss;have ho1:=i4 _ (zX (by rw[i2];exact ho));have e1:=Sq hs hn hl ho;generalize (eE n ss).2.getD o 0=o1 at i5 ho1 e1;generalize (eE n ss).1=s1 at i1 i3 i5 i6 ho1 e1;have e2:=K6 i1 hn (by lia) ho1;have hc:Kc n (dB n s1 o1 s1.length) s1:=λj s e h w hw=>.inr (uK i1 e h w hw);have ho':=vZ (n:=n) (ss:=s1) (o:=o1) s1.length;have u:=qW i1 hc s1.length (aE _);obtain ⟨v,ev,hv⟩:=u.has o1 ho1 (.inr ho');refine ⟨(gq n (dB n s1 o1 s1.length) s1 s1.length).1,v,?_,⟨u.st,hv,λφ z base hb=>?_⟩,dy u.len i3,(FW s1.length (aE _)).trans i6⟩
 . unfold oV;ext;rw[e1];ext;rw[e2,ev];ext;rfl
 . rw[<- i5 φ z base hb];exact yO hb i1 hc _ (aE _) o1 v ho1 (.inr ho') ev
theorem p6:b8 j ss r=cO (λ_ b xs=>ak b (bj xs)) 0 (bA j r) ss:=rfl
theorem Alike.vals(h:Alike j ss o a W):(b8 j a r).getD W 0=(b8 j ss r).getD o 0:=by
 rw[p6,p6];exact h.same _ 0 _ (bI j r)
theorem gQ.shared(h:gQ gs j t W ss o)(hn:j<=100)(hk:W<=5000):∃ss' o',oV [dC j ss o]= .ok (dC j ss' o')/\gQ gs j t W ss' o':=by
 obtain ⟨ss',o',e,a,l,g⟩:=Vh h.ok hn (by have:=h.len;lia) h.lt;refine ⟨ss',o',e,a.ok,a.lt,λs hs=>?_,λr hr=>by rw[a.vals];exact h.val r hr,dy l h.len⟩;obtain ⟨u,hu,e1,e2⟩:=g s hs;rw[e1,e2];exact h.gin u hu
theorem gQ.unused{n:Nat}(h:gQ gs n t W ss o)(hn:n<=100)(hk:W<=5000):∃ss' o',fW [dC n ss o]= .ok (dC n ss' o')/\gQ gs n t W ss' o':=by
 have hc:Kc n (dB n ss o ss.length) ss:=λj s e hh w hw=>.inr (uK h.ok e hh w hw);have ho':=vZ (n:=n) (ss:=ss) (o:=o) ss.length;have u:=qW h.ok hc ss.length (aE _);obtain ⟨v,ev,hv⟩:=u.has o h.lt (.inr ho');have e:=K6 h.ok hn (by have:=h.len;lia) h.lt;rw[ev] at e;refine ⟨_,v,e,u.st,hv,λs hs=>?_,λr hr=>?_,dy u.len h.len⟩
 . obtain ⟨x,hx,e1,e2⟩:=FW ss.length (aE _) s hs;rw[e1,e2];exact h.gin x hx
 . rw[<- h.val r hr,p6,p6];exact yO (bI n r) h.ok hc _ (aE _) o v h.lt (.inr ho') ev
theorem Bf:bA m r=(List.range m).map λj=>ak (r:Nat) (j:Nat):=by
 refine cn λj _=>?_;rw[ak,cE,Int.natCast_emod,Int.natCast_ediv,nk];rfl
section
variable  {n:Nat}
noncomputable def iZ(L:A6)(t:Int):Nat:=(aR L).idxOf t
noncomputable def vM(L:A6)(q:Int×Way):Option aF:=q.2.g.map λg=>⟨g.1,g.2,q.2.ts.map (iZ L)⟩
noncomputable def c7(L:A6)(i:Nat):List aF:=(L.take i).filterMap (vM L)
theorem pos_at(nd:(aR L).Nodup)(h:L[i]?=some q):iZ L q.1=i:=by
 have hi:=(aS.mp h).1;have hk:(aR L)[i]?=some q.1:=by rw[aR,br,h];rfl
 have hin:=eL hk;have h2:(aR L)[iZ L q.1]?=some q.1:=by
  rw[iZ,ai (vj hin),List.getElem_idxOf]
 exact (List.getElem?_inj (vj hin) nd).mp (h2.trans hk.symm)
theorem Eb(nd:(aR L).Nodup){p:Int}(h:p∈aR (L.take i)):iZ L p<i/\∃q,L[iZ L p]?=some q/\q.1=p:=by
 obtain ⟨q,hq,rfl⟩:=cc.mp h;obtain ⟨j,hj,e⟩:=kB.mp hq;rw[c8] at hj;have e':L[j]?=some q:=by
  rw[ai (by lia)];rw[List.getElem_take] at e;rw[e]
 rw[pos_at nd e'];exact ⟨by lia,q,e',rfl⟩
theorem uV(h:L[i]?=some q):c7 L (i+1)=c7 L i++(match vM L q with | some s=>[s] | none=>[]):=by
 rw[c7,take_snoc h,List.filterMap_append];congr 1;rw[l5,List.filterMap_nil];cases vM L q <;> rfl
structure agt (gs:A9) (n:Nat) (L:A6) (i:Nat):Prop where
 len:(c7 L i).length=i - n
 ok:aV n (c7 L i)
 gin:∀s∈c7 L i,(s.m,s.b)∈gs
 val:n<=i->∀j q,j<i->L[j]?=some q->∀r,r<2^n->(b8 n (c7 L i) r).getD j 0=ak q.1 (r:Nat)
theorem V3(I:fV gs n L [])(F:qx n L [])(hg:∀g∈gs,g.1<=4/\0<=g.2/\g.2<2^2^g.1):∀i,i<=L.length->agt gs n L i
 | 0,_=>⟨by rw[c7,mE];show 0=0 - n;lia,by exact aV.nil,(λs hs=>by cases hs),λ_ j q hj _=>by lia⟩
 | i+1,hi=>by
  have nd:=by have:=I.nd;rwa [show aR L++aR []=aR L from dr _] at this
  have ih:=V3 I F hg i (by lia);obtain ⟨q,hq⟩:∃q,L[i]?=some q:=⟨_,ai (by lia)⟩;rcases I.vf i q hq with ⟨hw,hb⟩ | ⟨g,h1,h2,h3,h4,h5,h6⟩
  . obtain ⟨hin,hu⟩:=aeE I F hq hb;have e:c7 L (i+1)=c7 L i:=by
     rw[uV hq];rw[vM,hw];exact dr _
    have hl:=ih.len;have h0:c7 L i=[]:=ly.mp (by lia);rw[h0] at e;refine ⟨by rw[e];show 0=_;lia,by rw[e];exact aV.nil,λs hs=>(by rw[e] at hs;cases hs),λhn j q' hj hq' r hr=>?_⟩;rw[e];show (bA n r).getD j 0=_;have hjn:j<n:=by lia
    have afQ:q'.1=ir n j:=by
     obtain ⟨e1,_⟩:=uo F;have h1:(L.take n)[j]?=some q':=by rw[k9 hjn];exact hq'
     rw[e1] at h1;unfold inW cT at h1;rw[br,br,eP hjn] at h1;cases h1;rfl
    rw[afQ];rw[ir,iD (λ_=>aP _ _) hr,Bf,ae,br,eP hjn];rfl
  . obtain ⟨g1,g2,g3⟩:=hg g h1;have hni:n<=i:=by
     refine ky λz=>?_;obtain ⟨e1,_⟩:=uo F;have h1':(L.take n)[i]?=some q:=by rw[k9 z];exact hq
     rw[e1] at h1';unfold inW at h1';rw[br] at h1';obtain ⟨x,hx,e2⟩:=md.mp h1';have:q.2=fK:=by rw[<- e2]
     rw[this] at h2;cases h2
    have es:vM L q=some ⟨g.1,g.2,q.2.ts.map (iZ L)⟩:=by rw[vM,h2];rfl
    have e:c7 L (i+1)=c7 L i++[⟨g.1,g.2,q.2.ts.map (iZ L)⟩]:=by rw[uV hq,es]
    have hl:=ih.len;have hlt:∀w∈q.2.ts.map (iZ L),w<n+(c7 L i).length:=λw hw=>by
     obtain ⟨p,hp,rfl⟩:=cc.mp hw;have:=(Eb nd (h4 p hp)).1;lia
    refine ⟨by rw[e,av,cx];lia,by rw[e];exact ih.ok.snoc ⟨g1,by rw[af];exact h3,hlt,g2,g3⟩,λs hs=>?_,λ_ j q' hj hq' r hr=>?_⟩
    . rw[e] at hs;rcases cK.mp hs with z | z
      . exact ih.gin s z
      . rw[ay.mp z];exact h1
    . rw[e,iK];unfold stepV;have hvl:=eX (n:=n) (ss:=c7 L i) (r:=r)
      by_cases hji:j<i
      . rw[uy (by lia)];exact ih.val hni j q' hji hq' r hr
      . have hji:j=i:=by lia
        subst hji;rw[hq] at hq';cases hq';rw[ae,bX (by lia),show j - (b8 n (c7 L j) r).length=0 by lia];show ak g.2 (bj ((q.2.ts.map (iZ L)).map _))=_;rw[<- h5];rw[cA,iD (λ_=>aP _ _) hr,de];congr 2;refine cn λp hp=>?_;obtain ⟨a1,q2,a2,a3⟩:=Eb nd (h4 p hp);show (b8 n (c7 L j) r).getD (iZ L p) 0=_;rw[ih.val hni _ q2 a1 a2 r hr,a3]
theorem adp{f:Int->Nat}:u9 [.dict (kvC ts f)]= .ok (.int (ts.length:Nat)):=by
 show AI.ok (ab.int ((kvC ts f).length:Nat))=_;rw[kvC,af]
theorem Hv(I:fV gs n L [])(F:qx n L [])(hg:∀g∈gs,g.1<=4/\0<=g.2/\g.2<2^2^g.1)(hL:L.length<=1000)(hn:n<=100)(ht:t∈aR L) :
 ∃ss o,iH [.dict (AU L),.int t,.int (n:Nat)]= .ok (dC n ss o)/\gQ gs n t (L.length - n) ss o:=by
 have nd:=by have:=I.nd;rwa [show aR L++aR []=aR L from dr _] at this
 have W:=V3 I F hg L.length (aE _);obtain ⟨_,hnL⟩:=uo F;have ht':t∈aR (L.take L.length):=by rw[eD];exact ht
 obtain ⟨p1,q,p2,p3⟩:=Eb nd ht';have C:gQ gs n t (L.length - n) (c7 L L.length) (iZ L t):=⟨W.ok,by rw[W.len];lia,W.gin,λr hr=>by rw[W.val hnL _ q p1 p2 r hr,p3],by rw[W.len];exact aE _⟩;obtain ⟨ss,o,e,hC⟩:=C.unused hn (by lia);refine ⟨ss,o,?_,hC⟩;unfold iH;ext;rw[show ∀Γ,jC [] Γ = .ok (.dict (kvC [] (iZ L))) from λ_=>rfl];ext;rw[show itI 0 [some (.dict (AU L)),some (.int t),some (.int n),some (.dict (kvC [] (iZ L))),some (.list []),none,none]= .ok (L.map λq=>ab.tuple [.int q.1,wD q.2]) by
  show AI.ok ((AU L).map (λq=>ab.tuple [q.1,q.2]))=_;rw[AU,de];rfl,AI.aQ]
 refine bL (λi=>[some (.dict (AU L)),some (.int t),some (.int n),some (.dict (kvC (aR (L.take i)) (iZ L))),some (.list ((c7 L i).map aF.d)),none,none]) rfl (λi x hx=>?_) ?_
 . obtain ⟨⟨u,w⟩,eq,rfl⟩:=dh hx;have hi:=(aS.mp eq).1;have hkl:(aR (L.take i)).length=i:=by rw[aR,af,c8];lia
   have hpu:iZ L u=i:=pos_at nd eq;have hun:u∉aR (L.take i):=λz=>by have:=(Eb nd z).1;lia
   have hk1:aR (L.take (i+1))=aR (L.take i)++[u]:=by rw[take_snoc eq];rw[aR,a7];rfl
   show AI.bind (AI.bind (AI.ok ([some (.dict (AU L)),some (.int t),some (.int (n:Nat)),some (.dict (kvC (aR (L.take i)) (iZ L))),some (.list ((c7 L i).map aF.d)),some (.int u),some (wD w)]:Ev)) _) _=_;rw[AI.aQ,gF,afv (by
    ext;rw[adp,hkl,hpu]) rfl rfl hun (by lia) (of_decide_eq_true rfl)]
   rw[<- hk1];have es:=uV eq;rcases I.vf i (u,w) eq with ⟨hw,hb⟩ | ⟨g,h1,h2,h3,h4,h5,h6⟩
   . have hw:=hw;subst hw;rw[show c7 L (i+1)=c7 L i by rw[es];exact dr _];unfold wD fK gD;ext;rw[show DY .none .none= .ok (.bool false) from rfl];ext
   . obtain ⟨wc,wg,wt⟩:=w;have h2:=h2;have h3:wt.length=g.1:=h3;have h4:=h4;subst h2;have m4:=(hg g h1).1;have hsl:=(V3 I F hg i (by lia)).len;rw[show c7 L (i+1)=c7 L i++[⟨g.1,g.2,wt.map (iZ L)⟩] by rw[es];rfl,a7];unfold wD gD;ext;rw[show DY (AS g) .none= .ok (.bool true) from rfl];ext;rw[Cy (ns:=wt) (λp=>.int (iZ L p:Nat)) ?_ (AW (by lia)) λp hp=>?_]
     rotate_left
     . ext;rfl
     . ext;rw[YF (by rw[hk1];exact eK _ (h4 p hp))]
     ext;rw[bD (AW (by lia))];ext;unfold aF.d dN;rw[de];rfl
 . rw[af,eD];ext;rw[YF ht];ext;rw[show ab.tuple [.int (n:Nat),.tuple ((c7 L L.length).map aF.d),.int (iZ L t:Nat)]=dC n (c7 L L.length) (iZ L t) from rfl,e];ext
end
theorem Oc{n:Nat}(C:gQ gs m b j ss o)(ha:aV n AF)(hga:∀s∈AF,(s.m,s.b)∈gs)(hh:hs.length=m)(hlt:∀x∈hs,x<n+AF.length) :
 aV n (AF++ss.map (mv m (n+AF.length) hs))/\(∀s∈AF++ss.map (mv m (n+AF.length) hs),(s.m,s.b)∈gs)/\ren m (n+AF.length) hs o<n+(AF++ss.map (mv m (n+AF.length) hs)).length/\(AF++ss.map (mv m (n+AF.length) hs)).length<=AF.length+j /\
 ∀r,(∀w,w<n+AF.length->(b8 n (AF++ss.map (mv m (n+AF.length) hs)) r).getD w 0=(b8 n AF r).getD w 0)/\(b8 n (AF++ss.map (mv m (n+AF.length) hs)) r).getD (ren m (n+AF.length) hs o) 0=ak b (bj (hs.map λw=>(b8 n AF r).getD w 0)):=by
 have hl:=C.len;refine ⟨afq ha C.ok hh hlt,λs hs'=>?_,?_,by rw[av,af];lia,λr=>?_⟩
 . rcases cK.mp hs' with z | z
   . exact hga s z
   . obtain ⟨t,ht,rfl⟩:=cc.mp z;exact C.gin t ht
 . rw[av,af,<- sN];exact ab3 hh hlt C.lt
 . have h01:bW (hs.map λw=>(b8 n AF r).getD w 0):=bW.map λw _=>zL N6 w;have hb:=uP h01;rw[af,hh] at hb;have hv:=Z3 hh hlt hb ss C.ok;have hA:=eX (n:=n) (ss:=AF) (r:=r);rw[hv];refine ⟨λw hw=>uy (by lia),?_⟩;have key:=Oh hh (λx hx=>by rw[hA];exact hlt x hx) eX (λu hu=>by rw[Bm hu,hb,getD_map (α:=Nat) (by lia)]) C.lt;rw[hA] at key;have g0:=jN (h01.nn);have g1:(bj (hs.map λw=>(b8 n AF r).getD w 0)).toNat<2^m:=by
    have:=zN h01;rw[af,hh] at this;have e:((2^m:Nat):Int)=2^m:=by simp
    lia
   rw[key,C.val _ g1,pf g0]
structure Rpl (gs:A9) (n:Nat) (ss:List aF) (i:Nat) (AF:List aF) (names:B5):Prop where
 nl:names.length=n+i
 ok:aV n AF
 gin:∀s∈AF,(s.m,s.b)∈gs
 lt:∀x∈names,x<n+AF.length
 val:∀r w,w<n+i->(b8 n AF r).getD (names.getD w 0) 0=(b8 n (ss.take i) r).getD w 0
 len:AF.length<=stW (ss.take i)
noncomputable def Gj(ssN:List aF)(oN:Nat)(ssA:List aF)(oA:Nat):ab:=.dict [(gB,dC 1 ssN oN),(dU,dC 2 ssA oA)]
variable {ssN ssA:List aF}
theorem kit_at(hN:gQ gs 1 1 3 ssN j)(hA:gQ gs 2 7 16 ssA W)(h:(s.m=1/\s.b=1)\/(s.m=2/\s.b=7)) :
 ∃ss o,gQ gs s.m s.b (wt s) ss o/\∀(Γ:Ev) (m:ME) (i:Nat),m Γ = .ok (dG s.m s.b)->gv Γ i=some (Gj ssN j ssA W)->Ls i m Γ = .ok (dC s.m ss o):=by
 obtain ⟨m,b,ws⟩:=s;rcases h with ⟨h1,h2⟩ | ⟨h1,h2⟩
 . have h1:=h1;have h2:=h2;subst h1 h2;exact ⟨ssN,j,hN,λΓ m i e g=>by rw[Ls,e,AI.aQ,g];rfl⟩
 . have h1:=h1;have h2:=h2;subst h1 h2;exact ⟨ssA,W,hA,λΓ m i e g=>by rw[Ls,e,AI.aQ,g];rfl⟩
theorem aaw(h:ss[i]?=some s):stW (ss.take (i+1))=stW (ss.take i)+wt s:=by
 rw[nR h,vo];rfl
theorem Qk{n:Nat}(hN:gQ gs 1 1 3 ssN j)(hA:gQ gs 2 7 16 ssA W)(hs:aV n ss)(hnn:NNs ss)(hw:stW ss<=4000)(hn:n<=100)(ho:o<n+ss.length) :
 ∃AF o',ni [dC n ss o,Gj ssN j ssA W]= .ok (dC n AF o')/\aV n AF/\(∀s∈AF,(s.m,s.b)∈gs)/\o'<n+AF.length/\AF.length<=stW ss/\∀r,(b8 n AF r).getD o' 0=(b8 n ss r).getD o 0:=by
 have hwl:∀l:List aF,l.length<=stW l:=λl=>by
  induction l with
  | nil=>exact aE _
  | cons s l ih=>
   have:stW (s::l)=wt s+stW l:=by unfold stW;rw[bo,kb]
   have h3:3<=wt s:=by unfold wt;split <;> lia
   rw[a9];lia
 have hwt:=λi=>by
  have:=vo (a:=ss.take i) (b:=ss.drop i);rw[sC] at this;lia
 have hsl:=hwl ss
 suffices hG:Gives (ni [dC n ss o,Gj ssN j ssA W]) λd=>∃AF o',d=dC n AF o'/\aV n AF/\(∀s∈AF,(s.m,s.b)∈gs)/\o'<n+AF.length/\AF.length<=stW ss/\∀r,(b8 n AF r).getD o' 0=(b8 n ss r).getD o 0 by
  obtain ⟨d,e,AF,o',rfl,h⟩:=hG;exact ⟨AF,o',e,h⟩
 unfold ni;ext;rw[Ql];ext;rw[bD (by lia),cE,show upN n=dN (List.range n) from rfl];ext;rw[J5];ext;refine wB (λi Γ=>∃AF names,Γ=[some (dC n ss o),some (Gj ssN j ssA W),some (.int n),some (.list (dN names)),some (.list (AF.map aF.d)),none]/\Rpl gs n ss i AF names) ⟨[],List.range n,rfl,?_⟩ (λi x Γ hx hI=>?_) λΓ hI=>?_
 . refine ⟨by rw[c9];rfl,aV.nil,(λs hs=>by cases hs),λx hx=>?_,λr w hw=>?_,kN _⟩
   . have:=dn.mp hx;lia
   . rw[mE,show (List.range n).getD w 0=w by rw[ae,eP (by lia)];rfl]
 . obtain ⟨AF,names,rfl,R⟩:=hI;obtain ⟨s,es,rfl⟩:=dh hx;have ok:=hs i s es;have hi:=(aS.mp es).1;have hal:=R.len;have hnl:=R.nl;have h1:=hwt i;obtain ⟨ssK,oK,hK,hev⟩:=kit_at hN hA (hnn s (eL es));have hKl:=hK.len;have agJ:wt s<=16:=by unfold wt;split <;> lia
   have hh:(s.ws.map λw=>names.getD w 0).length=s.m:=by rw[af];exact ok.len
   have hlt:∀x∈s.ws.map λw=>names.getD w 0,x<n+AF.length:=λx hx=>by
    obtain ⟨w,hw,rfl⟩:=cc.mp hx;exact R.lt _ (zX (by rw[hnl];exact ok.lt w hw))
   obtain ⟨a1,a2,a3,a4,a5⟩:=Oc hK R.ok R.gin hh hlt;have e1:=p_add (n:=n) (AF:=AF) hK.ok hh (by lia) (by lia) hK.lt (by have:=ok.m4;lia);have m4:=ok.m4;have wl:=ok.len;show Goes (AI.bind (AI.bind (AI.ok ([some (dC n ss o),some (Gj ssN j ssA W),some (.int (n:Nat)),some (.list (dN names)),some (.list (AF.map aF.d)),some s.d]:Ev)) _) _) _;rw[AI.aQ];ext;rw[hev _ _ 1 (by unfold aF.d;ext) rfl];ext;rw[jt (xs:=s.ws) (λw=>ab.int (w:Int)) (λw=>.int (names.getD w 0:Nat)) ?_ (AW (by lia)) λw hw=>?_]
   rotate_left
   . ext;rfl
   . ext;rw[CQ (by rw[hnl];exact ok.lt w hw)]
   rw[show ab.list (s.ws.map λw=>ab.int (names.getD w 0:Nat))= .list (dN (s.ws.map λw=>names.getD w 0)) by rw[dN,de];rfl];ext;rw[e1];ext;rw[bD (AW (by rw[tR];lia))];ext;refine ⟨_,names++[ren s.m (n+AF.length) (s.ws.map λw=>names.getD w 0) oK],by rw[yJ];rfl,⟨by rw[av,cx];lia,a1,a2,λx hx=>?_,λr w hw=>?_,by rw[aaw es];lia⟩⟩
   . rcases cK.mp hx with z | z
     . have:=R.lt x z;rw[av];lia
     . rw[ay.mp z];exact a3
   . obtain ⟨b1,b2⟩:=a5 r;rw[nR es,iK];unfold stepV;have hvl:=eX (n:=n) (ss:=ss.take i) (r:=r);rw[c8] at hvl
     by_cases hwi:w<n+i
     . rw[Iv (by lia),uy (by lia),b1 _ (R.lt _ (zX (by lia)))];exact R.val r w hwi
     . have:w=n+i:=by lia
       subst this;rw[show n+i=names.length by lia,Cd,b2,ae,bX (by lia),show names.length - (b8 n (ss.take i) r).length=0 by lia,de];congr 2;exact cn λw hw=>R.val r w (ok.lt w hw)
 . obtain ⟨AF,names,rfl,R⟩:=hI;rw[af] at R;have hnl:=R.nl;have h1:=R.len;rw[eD] at h1;ext;rw[Qh];ext;rw[CQ (by lia)];ext;refine ⟨AF,names.getD o 0,rfl,R.ok,R.gin,R.lt _ (zX (by lia)),h1,λr=>?_⟩;have:=R.val r o ho;rwa [eD] at this
inductive K5:Str->Nat->B3->Prop
 | low:K5 "low" 1 [0]
 | high:K5 "high" 1 [1]
 | turn:K5 "turn" 2 [1,2]
 | rise:K5 "rise" 2 [0,2,3]
 | even:K5 "even" 4 gM
variable {nm:Str}
theorem aaI(N:K5 nm w rs):JF [.str nm]= .ok (Fb w rs):=by
 cases N <;> rfl
noncomputable def jV(gs:A9)(w:Nat)(rs:B3):Bool:=gs.all λg=>(brk g.2 w rs g.1).isNone
theorem Vv:jV gs w rs=true↔∀g∈gs,Kp g.2 w rs g.1:=by
 rw[jV,fb];exact ⟨λh g hg=>km.mp (h g hg),λh g hg=>km.mpr (h g hg)⟩
theorem K5.small(N:K5 nm w rs):rs.length<=8/\w<=100:=by cases N <;> decide
theorem SN(N:K5 nm w rs)(hm:m<=4):sE [dG m b,Fb w rs]= .ok (zj (brk b w rs m)):=
 Vy (by have:=N.small;lia) hm (dy (pv N.small.1 _) (dy (fx (by decide) hm) (by decide))) N.small.2
theorem G5:(List.range gs.length).find? (λi=>!(brk (gs.getD i (0,0)).2 w rs (gs.getD i (0,0)).1).isNone)=none↔jV gs w rs=true:=by
 rw[oj];rw[jV,fb];constructor
 . intro h g hg;obtain ⟨i,hi,e⟩:=kB.mp hg;have:=h i (dn.mpr hi);rw[ae,ai hi] at this;simpa[e] using this
 . intro h i hi;have hi:=dn.mp hi;rw[ae,ai hi];have:=h gs[i] (fE hi);simp[this]
noncomputable def Ks5:List (Str×Nat×B3):=[("low",1,[0]),("high",1,[1]),("turn",2,[1,2]),("rise",2,[0,2,3]),("even",4,gM)]
theorem Ua{k:Str×Nat×B3}(h:k∈Ks5):K5 k.1 k.2.1 k.2.2:=by
 simp only[Ks5,cp,nX,or_false] at h;rcases h with rfl | rfl | rfl | rfl | rfl
 . exact .low
 . exact .high
 . exact .turn
 . exact .rise
 . exact .even
theorem Wj(N:K5 nm w rs)(hg:∀g∈gs,g.1<=4):∃d,jq [.list (gs.map AS),Fb w rs]= .ok d/\((d= .none/\jV gs w rs=true)\/((∃(i:Nat) (c:B3) (g:Nat×Int),d= .tuple [.int (i:Nat),dL c]/\gs[i]?=some g/\¬ Kp g.2 w rs g.1)/\jV gs w rs=false)):=by
 unfold jq;ext;have e:eY (gs.map AS)=(List.range gs.length).map λi=>ab.tuple [.int (i:Nat),(gs.map AS).getD i .none]:=by
  rw[eY,af]
 rw[e,qM (λi=>ab.tuple [.int (i:Nat),(gs.map AS).getD i .none]) (λi=>.tuple [.int i,zj (brk (gs.getD i (0,0)).2 w rs (gs.getD i (0,0)).1)]) (λi=>!(brk (gs.getD i (0,0)).2 w rs (gs.getD i (0,0)).1).isNone) λi hi=>?_]
 . cases hf:(List.range gs.length).find? (λi=>!(brk (gs.getD i (0,0)).2 w rs (gs.getD i (0,0)).1).isNone) with
   | none=>
    ext;exact ⟨_,rfl,.inl ⟨rfl,G5.mp hf⟩⟩
   | some i=>
    have hs:=ve hf;ext;refine ⟨_,rfl,.inr ⟨⟨i,?_⟩,ny.mpr λz=>by rw[G5.mpr z] at hf;cases hf⟩⟩;have hi:=dn.mp (mT hf);have e2:gs[i]?=some (gs.getD i (0,0)):=by rw[ae,ai hi];rfl
    have e3:¬ Kp (gs.getD i (0,0)).2 w rs (gs.getD i (0,0)).1:=λz=>by rw[km.mpr z] at hs;cases hs
    cases hb:brk (gs.getD i (0,0)).2 w rs (gs.getD i (0,0)).1 with
    | none=>rw[hb] at hs;cases hs
    | some c=>exact ⟨c,_,rfl,e2,e3⟩
 . have hi:=dn.mp hi;have e1:(gs.map AS).getD i .none=AS (gs.getD i (0,0)):=by
    rw[ae,br,ae,ai hi];rfl
   have e2:gs.getD i (0,0)∈gs:=by
    rw[ae,ai hi];exact fE hi
   rw[e1];generalize gs.getD i (0,0)=g at *
   ext;rw[SN N (hg g e2)];ext;cases brk g.2 w rs g.1 <;> rfl
structure Brs (gs:A9) (F:Str×Nat×B3->ab):Prop where
 h:∀k∈Ks5,(F k= .none/\jV gs k.2.1 k.2.2=true)\/((∃(i:Nat) (c:B3) (g:Nat×Int),F k= .tuple [.int (i:Nat),dL c]/\gs[i]?=some g/\¬ Kp g.2 k.2.1 k.2.2 g.1)/\jV gs k.2.1 k.2.2=false)
theorem J3(hg:∀g∈gs,g.1<=4):∃F,vG [.list (gs.map AS)]= .ok (.list (Ks5.map F))/\Brs gs F:=by
 have H:∀k:Str×Nat×B3,∃d,k∈Ks5->jq [.list (gs.map AS),Fb k.2.1 k.2.2]= .ok d/\((d= .none/\jV gs k.2.1 k.2.2=true)\/((∃(i:Nat) (c:B3) (g:Nat×Int),d= .tuple [.int (i:Nat),dL c]/\gs[i]?=some g/\¬ Kp g.2 k.2.1 k.2.2 g.1)/\jV gs k.2.1 k.2.2=false)):=λk=>by
  by_cases h:k∈Ks5
  . obtain ⟨d,h1,h2⟩:=Wj (Ua h) hg;exact ⟨d,λ_=>⟨h1,h2⟩⟩
  . exact ⟨.none,λz=>absurd z h⟩
 have hF:=λk hk=>Classical.choose_spec (H k) hk;refine ⟨λk=>xD (H k),?_,⟨λk hk=>(hF k hk).2⟩⟩;unfold vG;ext;rw[jt (xs:=Ks5) (λk=>ab.str k.1) (λk=>xD (H k)) rfl (AW (by decide)) λk hk=>?_]
 . rfl
 . ext;rw[aaI (Ua hk)];ext;exact (hF k hk).1
noncomputable def qz(gs:A9):Bool:=Ks5.all λk=>!jV gs k.2.1 k.2.2
theorem Q5{F:Str×Nat×B3->ab}(hF:Brs gs F):lV .none (.list (Ks5.map F))= .ok (.bool (qz gs)):=by
 have pl:∀(i:Nat) (c:B3),plain (.tuple [.int (i:Nat),dL c])=true:=λi c=>Ur λd hd=>by
  rcases cp.mp hd with rfl | hd
  . exact aau
  . rw[ay.mp hd];exact wZ c
 have pn:plain .none=true:=by rw[Zq.plain]
 have sh:∀k∈Ks5,eI (F k)=true:=λk hk=>by
  rcases hF.h k hk with ⟨e,_⟩ | ⟨⟨i,c,_,e,_,_⟩,_⟩
  . rw[e];decide
  . rw[e];refine jw (pl i c) (dy (xP (k:=1) λd hd=>?_) (by decide));rcases cp.mp hd with rfl | hd
    . exact dy Eg (by decide)
    . rw[ay.mp hd];show (ab.list (c.map ab.int)).depth<=1;rw[ab.depth,qT];exact aE _
 have ev:∀k∈Ks5,fI (F k) .none=jV gs k.2.1 k.2.2:=λk hk=>by
  rcases hF.h k hk with ⟨e,e2⟩ | ⟨⟨i,c,_,e,_,_⟩,e2⟩
  . rw[e,e2];exact (mO _ _ pn pn).mpr rfl
  . rw[e,e2];exact ny.mpr λz=>nomatch (mO _ _ (pl i c) pn).mp z
 show gd (eI .none=true/\(Ks5.map F).all eI=true) (AI.ok (ab.bool (!inB .none (Ks5.map F))))=_;rw[bD ⟨by decide,fb.mpr λd hd=>by obtain ⟨k,hk,rfl⟩:=cc.mp hd;exact sh k hk⟩];have ei:inB .none (Ks5.map F)=Ks5.any λk=>jV gs k.2.1 k.2.2:=by
  rw[inB,List.any_map,qc,n9,n9];exact ⟨λ⟨k,hk,e⟩=>⟨k,hk,by rw[<- ev k hk];exact e⟩,λ⟨k,hk,e⟩=>⟨k,hk,by rw[<- ev k hk] at e;exact e⟩⟩
 rw[ei];rw[qz,List.not_any_eq_all_not]
theorem V8(hg:∀g∈gs,g.1<=4):pF [.list (gs.map AS)]= .ok (.bool (qz gs)):=by
 obtain ⟨F,ek,hF⟩:=J3 hg;unfold pF;ext;rw[ek];ext;rw[Q5 hF];rfl
theorem Yl(h:qz gs=true):(∃g∈gs,¬ Kp g.2 1 [0] g.1)/\(∃g∈gs,¬ Kp g.2 1 [1] g.1)/\(∃g∈gs,¬ Kp g.2 2 [1,2] g.1)/\(∃g∈gs,¬ Kp g.2 2 [0,2,3] g.1)/\∃g∈gs,¬ Kp g.2 4 gM g.1:=by
 have ex:∀{w:Nat}{rs:B3},((!jV gs w rs)=true)->∃g∈gs,¬ Kp g.2 w rs g.1:=λ{w rs} z=>by
  rw[xa,ny,ne_eq,Vv] at z;exact hY λy=>z λg hg=>hY λx=>y ⟨g,hg,x⟩
 unfold qz Ks5 at h;simp only[sP,List.all_nil,Bool.and_true,dS] at h;exact ⟨ex h.1,ex h.2.1,ex h.2.2.1,ex h.2.2.2.1,ex h.2.2.2.2⟩
noncomputable def eU:B3:=[10,12,5,3,0,15]
theorem Bh:cst v∈eU:=by unfold cst;split <;> decide
theorem Tf(hk:¬ Kp g.2 4 gM g.1):∃c:B3,c.length=g.1/\(∀p∈c,p∈eU)/\(cA g.2 c 2=7\/cA g.2 c 2=8):=by
 have hd:∃pre mid suf:B3,bW pre/\bW mid/\bW suf/\pre.length+mid.length+suf.length+2=g.1/\Fq g.2 pre mid suf % 2≠0:=hY λz=>hk (Av λpre mid suf h1 h2 h3 h4=>hY λy=>z ⟨pre,mid,suf,h1,h2,h3,h4,y⟩);obtain ⟨pre,mid,suf,h1,h2,h3,h4,h5⟩:=hd;have put:∀p q:Int,cA g.2 (pre.map cst++p::(mid.map cst++q::suf.map cst)) 2=tab 4 λr=>ak g.2 (bj (pre++ak p (r:Nat)::(mid++ak q (r:Nat)::suf))):=λp q=>by
  refine eO λr hr=>?_;rw[a7,bo,a7,bo,oJ h1 hr,oJ h2 hr,oJ h3 hr]
 have okc:∀p q:Int,p∈eU->q∈eU->(pre.map cst++p::(mid.map cst++q::suf.map cst)).length=g.1/\∀x∈pre.map cst++p::(mid.map cst++q::suf.map cst),x∈eU:=λp q hp hq=>by
  refine ⟨by simp;lia,λx hx=>?_⟩;rcases cK.mp hx with z | z
  . obtain ⟨y,_,rfl⟩:=cc.mp z;exact Bh
  rcases cp.mp z with rfl | z
  . exact hp
  rcases cK.mp z with z | z
  . obtain ⟨y,_,rfl⟩:=cc.mp z;exact Bh
  rcases cp.mp z with rfl | z
  . exact hq
  obtain ⟨y,_,rfl⟩:=cc.mp z;exact Bh
 have fin:∀p q:Int,p∈eU->q∈eU->(cA g.2 (pre.map cst++p::(mid.map cst++q::suf.map cst)) 2=7\/cA g.2 (pre.map cst++p::(mid.map cst++q::suf.map cst)) 2=8)->∃c:B3,c.length=g.1/\(∀p∈c,p∈eU)/\(cA g.2 c 2=7\/cA g.2 c 2=8):=λp q hp hq h=>⟨_,(okc p q hp hq).1,(okc p q hp hq).2,h⟩;have b:=λ(x y:Int)=>aP g.2 (bj (pre++x::(mid++y::suf)));unfold Fq at h5;have val:∀p q:Int,cA g.2 (pre.map cst++p::(mid.map cst++q::suf.map cst)) 2=ak g.2 (bj (pre++ak p 0::(mid++ak q 0::suf)))+2*ak g.2 (bj (pre++ak p 1::(mid++ak q 1::suf)))+4*ak g.2 (bj (pre++ak p 2::(mid++ak q 2::suf)))+8*ak g.2 (bj (pre++ak p 3::(mid++ak q 3::suf))):=λp q=>by rw[put,YH];rfl
 have v1:=val 10 12;have v2:=val 5 12;have v3:=val 10 3;have v4:=val 5 3;rw[show ak 10 0=0 by decide,show ak 10 1=1 by decide,show ak 10 2=0 by decide,show ak 10 3=1 by decide] at v1 v3;rw[show ak 5 0=1 by decide,show ak 5 1=0 by decide,show ak 5 2=1 by decide,show ak 5 3=0 by decide] at v2 v4;rw[show ak 12 0=0 by decide,show ak 12 1=0 by decide,show ak 12 2=1 by decide,show ak 12 3=1 by decide] at v1 v2;rw[show ak 3 0=1 by decide,show ak 3 1=1 by decide,show ak 3 2=0 by decide,show ak 3 3=0 by decide] at v3 v4;have b00:=b 0 0;have b10:=b 1 0;have b01:=b 0 1;have b11:=b 1 1;generalize ak g.2 (bj (pre++0::(mid++0::suf)))=a00 at *
 generalize ak g.2 (bj (pre++1::(mid++0::suf)))=a10 at *
 generalize ak g.2 (bj (pre++0::(mid++1::suf)))=a01 at *
 generalize ak g.2 (bj (pre++1::(mid++1::suf)))=a11 at *
 have:(a00+2*a10+4*a01+8*a11=7\/a00+2*a10+4*a01+8*a11=8)\/(a10+2*a00+4*a11+8*a01=7\/a10+2*a00+4*a11+8*a01=8)\/(a01+2*a11+4*a00+8*a10=7\/a01+2*a11+4*a00+8*a10=8)\/(a11+2*a01+4*a10+8*a00=7\/a11+2*a01+4*a10+8*a00=8):=by lia
 rcases this with h | h | h | h
 . exact fin 10 12 (by decide) (by decide) (by rw[v1];exact h)
 . exact fin 5 12 (by decide) (by decide) (by rw[v2];exact h)
 . exact fin 10 3 (by decide) (by decide) (by rw[v3];exact h)
 . exact fin 5 3 (by decide) (by decide) (by rw[v4];exact h)
noncomputable def o7(t:Int):Int:=ak t 0+2*ak t 3
theorem Yi:o7 (iC b ts 4)=cA b (ts.map o7) 1:=by
 have e2:cA b (ts.map o7) 1=tab 2 λr=>ak b (bj ((ts.map o7).map λt=>ak t (r:Nat))):=rfl;have e4:∀r:Nat,r<4->ak (iC b ts 4) (r:Nat)=ak b (bj (ts.map λt=>ak t (r:Nat))):=λr hr=>iD (λ_=>aP _ _) hr;have p0:∀t:Int,ak (o7 t) 0=ak t 0:=λt=>by
  unfold o7;rcases aP t 0 with z | z <;> rcases aP t 3 with y | y <;> rw[z,y] <;> decide
 have p1:∀t:Int,ak (o7 t) 1=ak t 3:=λt=>by
  unfold o7;rcases aP t 0 with z | z <;> rcases aP t 3 with y | y <;> rw[z,y] <;> decide
 rw[e2,Y6];rw[o7,show ak (iC b ts 4) 0=_ from e4 0 (by decide),show ak (iC b ts 4) 3=_ from e4 3 (by decide),de,de];congr 3
 . congr 1;exact funext λt=>(p0 t).symm
 . congr 2;exact funext λt=>(p1 t).symm
theorem XM{f:Int->Nat}(W:Y4 gs 1 ts f)(hf:qz gs=true):∀t:Int,0<=t->t<4->t∈ts:=by
 obtain ⟨k1,k2,k3,k4,k5⟩:=Yl hf;have fam:Fam gs (λt=>o7 t∈ts):=⟨λg hg cs hl hc=>by
  rw[Yi];exact (W.cl g hg _ (by rw[af];exact hl) λp hp=>by
   obtain ⟨q,hq,rfl⟩:=cc.mp hp;exact hc q hq).1,W.inp _ (by decide +kernel),W.inp _ (by decide +kernel)⟩
 have all:=fam.full k1 k2 k3 k4 k5;intro t h0 h1;rcases (by lia:t=0\/t=1\/t=2\/t=3) with rfl | rfl | rfl | rfl
 . exact all 0 (by decide)
 . exact all 1 (by decide)
 . exact all 10 (by decide)
 . exact all 15 (by decide)
structure WAt (AF:List aF) (w:Nat) (t:Int):Prop where
 lt:w<2+AF.length
 val:∀r,r<4->(b8 2 AF r).getD w 0=ak t (r:Nat)
structure CT (gs:A9) (AF:List aF):Prop where
 ok:aV 2 AF
 gin:∀s∈AF,(s.m,s.b)∈gs
theorem Wa:bj [x]=x:=by simp[bj]
theorem sJ(C:gQ gs 1 t 3 ss o)(A:CT gs AF)(hw:WAt AF w b)(hl:AF.length<=1000)(hv:∀r,r<4->ak t (ak b (r:Nat))=ak v (r:Nat)) :
 ∃acc' w',du [.list (AF.map aF.d),.int 2,dC 1 ss o,.list [.int (w:Nat)]]= .ok (.tuple [.int (w':Nat),.list (acc'.map aF.d)])/\CT gs acc'/\acc'.length<=AF.length+3/\WAt acc' w' v/\∀x y,WAt AF x y->WAt acc' x y:=by
 have hlt:∀x∈[w],x<2+AF.length:=λx hx=>by rw[ay.mp hx];exact hw.lt
 obtain ⟨a1,a2,a3,a4,a5⟩:=Oc C A.ok A.gin rfl hlt;refine ⟨_,_,p_add (hs:=[w]) C.ok rfl (by lia) (by have:=C.len;lia) C.lt (by decide),⟨a1,a2⟩,a4,⟨a3,λr hr=>?_⟩,λx y h=>⟨by rw[av];have:=h.lt;lia,λr hr=>by rw[(a5 r).1 x h.lt];exact h.val r hr⟩⟩;rw[(a5 r).2,bo,ft,hw.val r hr,<- hv r hr];congr 1;rw[Wa]
theorem CW(hi:i<2)(h:∀r:Nat,r<4->ak (r:Nat) (i:Nat)=ak t (r:Nat)):WAt AF i t:=⟨by lia,λr hr=>by
 rw[Bm hi,Bf,ae,br,eP hi,<- h r hr];rfl⟩
theorem qR{P:Nat->Prop}(h0:P 0)(h1:P 1)(h2:P 2)(h3:P 3):∀r,r<4->P r:=λr hr=>by
 rcases (by lia:r=0\/r=1\/r=2\/r=3) with rfl | rfl | rfl | rfl <;> assumption
structure Xn (gs:A9) (C:Nat->List aF×Nat):Prop where
 h:∀j,j<4->gQ gs 1 (j:Nat) 3 (C j).1 (C j).2
noncomputable def jX(C:Nat->List aF×Nat):ab:=.list ((List.range 4).map λj=>dC 1 (C j).1 (C j).2)
variable {C:Nat->List aF×Nat}
theorem vh(hj:j<4):AQ (jX C) (.int (j:Nat))= .ok (dC 1 (C j).1 (C j).2):=jc (by rw[br,eP hj];rfl)
noncomputable def yd(w5 w3 w0 w15:Nat):ab:=.dict [(.int 10,.int 0),(.int 12,.int 1),(.int 5,.int (w5:Nat)),(.int 3,.int (w3:Nat)),(.int 0,.int (w0:Nat)),(.int 15,.int (w15:Nat))]
theorem V6(L:Xn gs C):∃AF w5 w3 w0 w15,jD [.list [],jX C]= .ok (.tuple [yd w5 w3 w0 w15,.list (AF.map aF.d)])/\CT gs AF/\AF.length<=12/\WAt AF w5 5/\WAt AF w3 3/\WAt AF w0 0/\WAt AF w15 15:=by
 have A0:CT gs []:=⟨aV.nil,λs hs=>by cases hs⟩;have x0:∀AF,WAt AF 0 10:=λAF=>CW (by decide) (qR (by decide) (by decide) (by decide) (by decide));have x1:∀AF,WAt AF 1 12:=λAF=>CW (by decide) (qR (by decide) (by decide) (by decide) (by decide));obtain ⟨a1,w5,e1,A1,l1,h1,u1⟩:=sJ (v:=5) (L.h 1 (by decide)) A0 (x0 []) (by decide) (qR (by decide) (by decide) (by decide) (by decide));obtain ⟨a2,w3,e2,A2,l2,h2,u2⟩:=sJ (v:=3) (L.h 1 (by decide)) A1 (x1 a1) (by have:([]:List aF).length=0:=rfl;lia) (qR (by decide) (by decide) (by decide) (by decide));obtain ⟨a3,w0,e3,A3,l3,h3,u3⟩:=sJ (v:=0) (L.h 0 (by decide)) A2 (x0 a2) (by have:([]:List aF).length=0:=rfl;lia) (qR (by decide) (by decide) (by decide) (by decide));obtain ⟨a4,w15,e4,A4,l4,h4,u4⟩:=sJ (v:=15) (L.h 3 (by decide)) A3 (x0 a3) (by have:([]:List aF).length=0:=rfl;lia) (qR (by decide) (by decide) (by decide) (by decide));refine ⟨a4,w5,w3,w0,w15,?_,A4,by have:([]:List aF).length=0:=rfl;lia,u4 _ _ (u3 _ _ (u2 _ _ h1)),u4 _ _ (u3 _ _ h2),u4 _ _ h3,h4⟩;have i1:AQ (jX C) (.int 1)= .ok (dC 1 (C 1).1 (C 1).2):=vh (by decide);have i0:AQ (jX C) (.int 0)= .ok (dC 1 (C 0).1 (C 0).2):=vh (by decide);have i3:AQ (jX C) (.int 3)= .ok (dC 1 (C 3).1 (C 3).2):=vh (by decide);have e1:=e1;have e2:=e2;have e3:=e3;have e4:=e4;have cl:∀{k:Int}{f:B4->AI ab}{ms:List ME}{R:List (Int×MV)}{Γ:Ev}{ds:B4}{d dm:ab}{q:B0×Ev},evs ms Γ = .ok ds->f ds= .ok (.tuple [d,dm])->my 0 R (Γ.set 0 (some dm))= .ok q->my 0 ((k,.cl f ms)::R) Γ = .ok ((.int k,d)::q.1,q.2):=λh1 h2 h3=>by
  rw[my,h1,AI.aQ,h2,AI.aQ];show AI.bind (my 0 _ _) _=_;rw[h3];rfl
 have ev:∀{k:Int}{m:ME}{R:List (Int×MV)}{Γ:Ev}{d:ab}{q:B0×Ev},m Γ = .ok d->my 0 R Γ = .ok q->my 0 ((k,.ev m)::R) Γ = .ok ((.int k,d)::q.1,q.2):=λh1 h2=>by
  rw[my,h1,AI.aQ,h2];rfl
 have ar:∀{x y z:ab}{j k:Int},AQ (jX C) (.int j)= .ok z->evs [aj 0,eC (.int 2),ao AQ (aj 1) (eC (.int j)),bU [eC (.int k)]] [some x,some (jX C)]= .ok [x,.int 2,z,.list [.int k]]:=λh=>by
  ext;rw[h];ext
 have run:=ev (k:=10) (m:=eC (.int 0)) (Γ:=[some (.list []),some (jX C)]) rfl (ev (k:=12) (m:=eC (.int 1)) rfl (cl (k:=5) (ar (y:=.none) (k:=0) i1) e1 (cl (k:=3) (ar (y:=.none) (k:=1) i1) e2 (cl (k:=0) (ar (y:=.none) (k:=0) i0) e3 (cl (k:=15) (ar (y:=.none) (k:=0) i3) e4 (R:=[]) rfl)))));rw[jD,Oq];show AI.bind (De 0 _ [some (.list []),some (jX C)]) fin=_;rw[De,run,AI.aQ];show AI.bind (gd _ _) fin=_;rw[bD (by decide)];rfl
theorem vy{w:Int}(hm:g.1<=4)(hc:∀c∈cs,c.length=g.1):jl [dG g.1 g.2,.list (cs.map dL),.int w]= .ok (zj (cs.find? λc=>decide (cA g.2 c 2=w))):=by
 unfold jl;ext;rw[qM dL dL (λc=>decide (cA g.2 c 2=w)) λc hcs=>?_]
 . cases cs.find? λc=>decide (cA g.2 c 2=w) with
   | none=>ext;rfl
   | some c=>ext;rfl
 . ext;rw[show pA [dG g.1 g.2,dL c,.int 2]= .ok (.int (cA g.2 c 2)) from Ia (hc c hcs) hm (by decide)];ext;cases decide (cA g.2 c 2=w) <;> rfl
theorem M9:QZ [yd j W p m]= .ok (dL eU):=by
 show gd (6<=bE) _=_;rw[bD (by decide)];rfl
noncomputable def gf(w5 w3 w0 w15:Nat)(t:Int):Nat:=if t=10 then 0 else if t=12 then 1 else if t=5 then w5 else if t=3 then w3 else if t=0 then w0 else w15
theorem W9(h:t∈eU):ixY (yd j W p m) (.int t)= .ok (.int (gf j W p m t:Nat)):=by
 have:=by simpa[eU] using h
 rcases this with rfl | rfl | rfl | rfl | rfl | rfl <;> rfl
theorem aew(L:Xn gs C)(hg:g∈gs)(hG:g.1<=4/\0<=g.2/\g.2<2^2^g.1)(hk:¬ Kp g.2 4 gM g.1):∃ss o,fU [dG g.1 g.2,jX C]= .ok (dC 2 ss o)/\gQ gs 2 7 16 ss o:=by
 obtain ⟨AF,w5,w3,w0,w15,et,A,hl,h5,h3,h0,h15⟩:=V6 L;obtain ⟨m4,b0,b1⟩:=hG;have wat:∀t∈eU,WAt AF (gf w5 w3 w0 w15 t) t:=λt ht=>by
  have:=by simpa[eU] using ht
  rcases this with rfl | rfl | rfl | rfl | rfl | rfl
  . exact (show WAt AF 0 10 from CW (by decide) (qR (by decide) (by decide) (by decide) (by decide)))
  . exact (show WAt AF 1 12 from CW (by decide) (qR (by decide) (by decide) (by decide) (by decide)))
  . exact h5
  . exact h3
  . exact h0
  . exact h15
 have hcs:∀c∈lK eU g.1,c.length=g.1:=λc hc=>(mK.mp hc).1;have f7:=vy (w:=7) m4 hcs;have f8:=vy (w:=8) m4 hcs;have lay:∀(c:B3) (v:Int),c∈lK eU g.1->cA g.2 c 2=v->CT gs (AF++[⟨g.1,g.2,c.map (gf w5 w3 w0 w15)⟩])/\WAt (AF++[⟨g.1,g.2,c.map (gf w5 w3 w0 w15)⟩]) (2+AF.length) v:=λc v hc hv=>by
  obtain ⟨c1,c2⟩:=mK.mp hc;have ok:aV 2 (AF++[⟨g.1,g.2,c.map (gf w5 w3 w0 w15)⟩]):=A.ok.snoc ⟨m4,by rw[af];exact c1,λk hk=>by
   obtain ⟨t,ht,rfl⟩:=cc.mp hk;exact (wat t (c2 t ht)).lt,b0,b1⟩
  refine ⟨⟨ok,λs hs=>?_⟩,by rw[av,cx];lia,λr hr=>?_⟩
  . rcases cK.mp hs with z | z
    . exact A.gin s z
    . rw[ay.mp z];exact hg
  . rw[iK];unfold stepV;have hvl:=eX (n:=2) (ss:=AF) (r:=r);rw[ae,bX (by lia),show 2+AF.length - (b8 2 AF r).length=0 by lia,<- hv];show ak g.2 (bj ((c.map (gf w5 w3 w0 w15)).map _))=_;rw[cA,iD (λ_=>aP _ _) hr,de];congr 2;exact cn λt ht=>(wat t (c2 t ht)).val r hr
 have hk6:eU.length<=16:=by decide
 have comp:∀(c:B3) (Γ:Ev),c∈lK eU g.1->gv Γ 3=some (yd w5 w3 w0 w15)->gv Γ 6=some (dL c)->cC (itL (aj 6)) (gN 0) (eC (.bool true)) (ao ixY (aj 1) (aj 0)) 1 [3] Γ = .ok (.list (dN (c.map (gf w5 w3 w0 w15)))):=λc Γ hc g3 g6=>by
  obtain ⟨c1,c2⟩:=mK.mp hc;rw[Cy (ns:=c) (λt=>.int (gf w5 w3 w0 w15 t:Nat)) ?_ (AW (by lia)) λt ht=>?_]
  . rw[dN,de];rfl
  . rw[Pr,show aj 6 Γ = .ok (dL c) by rw[aj,g6]];rfl
  . have eb:gh 1 [3] Γ=[none,some (yd w5 w3 w0 w15)]:=by rw[<- g3];rfl
    rw[eb];ext;rw[W9 (c2 t ht)]
 have i1:AQ (jX C) (.int 1)= .ok (dC 1 (C 1).1 (C 1).2):=vh (by decide);have fin:∀(c:B3) (v:Int),c∈lK eU g.1->cA g.2 c 2=v->aF.d ⟨g.1,g.2,c.map (gf w5 w3 w0 w15)⟩= .tuple [dG g.1 g.2,.tuple (dN (c.map (gf w5 w3 w0 w15)))]:=λc v _ _=>rfl;unfold fU;ext;rw[et];ext;rw[M9];ext;rw[rep1 (by lia)];ext;rw[show ax g.1 (dL eU)=(ax g.1 eU).map dL by rw[k7],Cz (enc:=dL) (λ_=>rfl) (λq hq=>by rw[(qA.mp hq).2];exact hk6) (by rw[ck];exact m4),<- t7];ext;rw[show AQ dU (.int 1)= .ok (.int 7) from rfl];ext;rw[f7]
 cases h7:(lK eU g.1).find? (λc=>decide (cA g.2 c 2=7)) with
 | some c=>
  have hc:=mT h7;have hs:=ve h7;have hv:cA g.2 c 2=7:=of_decide_eq_true hs;obtain ⟨A1,W1⟩:=lay c 7 hc hv;ext;rw[show wU (zj (some c)) .none= .ok (.bool false) from rfl];ext;rw[comp c _ hc rfl rfl];ext;rw[bD (AW (by lia))];ext;rw[show wU (zj (some c)) .none= .ok (.bool false) from rfl];ext;have eC:ab.tuple [.int 2,.tuple (AF.map aF.d++[.tuple [dG g.1 g.2,.tuple (dN (c.map (gf w5 w3 w0 w15)))]]),.int ((((AF.map aF.d++[ab.tuple [dG g.1 g.2,.tuple (dN (c.map (gf w5 w3 w0 w15)))]]).length:Nat):Int)+1)]=dC 2 (AF++[⟨g.1,g.2,c.map (gf w5 w3 w0 w15)⟩]) (2+AF.length):=by
   rw[dC,a7];congr 3;rw[av,af,cx];congr 2;lia
  rw[eC];have Cc:gQ gs 2 7 16 (AF++[⟨g.1,g.2,c.map (gf w5 w3 w0 w15)⟩]) (2+AF.length):=⟨A1.ok,W1.lt,A1.gin,W1.val,by rw[av,cx];lia⟩;obtain ⟨ss,o,e,hC⟩:=Cc.shared (by decide) (by decide);rw[e];exact ⟨ss,o,rfl,hC⟩
 | none=>
  have n7:∀c∈lK eU g.1,cA g.2 c 2≠7:=λc hc z=>by
   have:=oj.mp h7 c hc;rw[decide_eq_true z] at this;exact this rfl
  obtain ⟨c0,q1,q2,q3⟩:=Tf hk;have hc0:c0∈lK eU g.1:=mK.mpr ⟨q1,q2⟩;have h80:cA g.2 c0 2=8:=q3.resolve_left (n7 c0 hc0);ext;rw[show wU (zj none) .none= .ok (.bool true) from rfl];ext;rw[show AQ zz (.int 1)= .ok (.int 8) from rfl];ext;rw[f8]
  cases h8:(lK eU g.1).find? (λc=>decide (cA g.2 c 2=8)) with
  | none=>
   have:=oj.mp h8 c0 hc0;rw[decide_eq_true h80] at this;exact absurd rfl this
  | some c=>
   have hc:=mT h8;have hs:=ve h8;have hv:cA g.2 c 2=8:=of_decide_eq_true hs;obtain ⟨A1,W1⟩:=lay c 8 hc hv;obtain ⟨a2,w2,e2,A2,l2,W2,_⟩:=sJ (v:=7) (L.h 1 (by decide)) A1 W1 (by rw[av,cx];lia) (qR (by decide) (by decide) (by decide) (by decide));rw[av,cx] at l2;ext;rw[comp c _ hc rfl rfl];ext;rw[bD (AW (by lia))];ext;rw[show wU (zj none) .none= .ok (.bool true) from rfl];ext;rw[i1];ext;have eA:du [.list (AF.map aF.d++[.tuple [dG g.1 g.2,.tuple (dN (c.map (gf w5 w3 w0 w15)))]]),.int 2,dC 1 (C 1).1 (C 1).2,.list [.int ((((AF.map aF.d++[ab.tuple [dG g.1 g.2,.tuple (dN (c.map (gf w5 w3 w0 w15)))]]).length:Nat):Int)+1)]]= .ok (.tuple [.int (w2:Nat),.list (a2.map aF.d)]):=by
    rw[<- e2,a7];have ee:(((AF.map aF.d++[ab.tuple [dG g.1 g.2,.tuple (dN (c.map (gf w5 w3 w0 w15)))]]).length:Nat):Int)+1=((2+AF.length:Nat):Int):=by
     rw[av,af,cx];lia
    rw[ee];rfl
   rw[eA];ext;have Cc:gQ gs 2 7 16 a2 w2:=⟨A2.ok,W2.lt,A2.gin,W2.val,by lia⟩;obtain ⟨ss,o,e,hC⟩:=Cc.shared (by decide) (by decide);rw[show ab.tuple [.int 2,.tuple (a2.map aF.d),.int (w2:Nat)]=dC 2 a2 w2 from rfl,e];exact ⟨ss,o,rfl,hC⟩
theorem Pu:(cT 1).Nodup:=by decide +kernel
theorem gO.afL{d:ab}{l:Nat}(h:gO j d u W l)(hl:l<=90)(hx:W<=4000):∃ss o,jr [d,.int (j:Nat)]= .ok (dC j ss o)/\aV j ss/\NNs ss/\stW ss<=W/\o<j+ss.length/\∀r,r<2^j->(b8 j ss r).getD o 0=u r:=by
 obtain ⟨v,w,k,h1,h2,h3,h4⟩:=h;obtain ⟨t1,t2,t3⟩:=h1.ok k (aE _);obtain ⟨more,e,m1,m2⟩:=t3 [];rw[fi] at e;have KC:=Ei (φ:=λ_ _ xs=>1+xs.sum) (z:=(0:Int)) ck (λk i hi=>by rw[By,ae,hW hi];rfl) (λk m b ds=>uw) t1 (aV.nil);have hml:=by
  have:∀l:List aF,l.length<=stW l:=λl=>by
   induction l with
   | nil=>exact aE _
   | cons s l ih=>
    have:stW (s::l)=wt s+stW l:=by unfold stW;rw[bo,kb]
    have h3:3<=wt s:=by unfold wt;split <;> lia
    rw[a9];lia
  exact this more
 have kl:=KC.len;rw[e] at kl;have e0:((([]:List aF).length:Nat):Int)=0:=rfl;refine ⟨_,_,Gg t1 (by lia) (by lia),KC.ok,by rw[e];exact m1,by rw[e];lia,KC.lt,λr hr=>?_⟩;have KV:=Ei (φ:=λ_ b xs=>ak b (bj xs)) (z:=(0:Int)) (bI j r) (λk i hi=>by
  rw[Ln,Bf,ae,br,eP hi];rfl) (λk m b ds=>yM) t1 (aV.nil)
 rw[p6,KV.val,t2 r,h2 r]
theorem aaG{n:Nat}(hg:∀g∈gs,g.1<=4/\0<=g.2/\g.2<2^2^g.1)(hgl:gs.length<=8)(hf:qz gs=true)(hn:n<=4)(hn1:1<=n)(h0:0<=t)(h1:t<2^2^n) :
 ∃ss o,qY [.list (gs.map AS),dG n t]= .ok (dC n ss o)/\gQ gs n t 429 ss o:=by
 have hm:=λg h=>(hg g h).1;have hcn:kZ (2^2^1) gs<=20000:=by
  have e1:kZ (2^2^1) gs<=gs.length*256:=acN λg hgg=>by
   have h6:(2^2^1)^g.1<=(2^2^1)^4:=fx (by decide) (hm g hgg);exact dy h6 (by decide)
  have e3:gs.length*256<=8*256:=Nat.mul_le_mul_right _ hgl;lia
 obtain ⟨W,e1,I,F,hL⟩:=Xy (qx 1) (λfs ws t w j I e h=>j.step I e h Pu) (Nh Pu) (by decide) hgl hm hcn;have e1:pU [.list (gs.map AS),.int 1]= .ok (.dict (AU W)):=e1;have nd:=by have:=I.nd;rwa [show aR W++aR []=aR W from dr _] at this
 have hW4:=by
  have:=rM (N:=4) nd λx hx=>I.bd x (eK _ hx);unfold aR at this;rwa [af] at this
 have four:=XM I.whole hf;have lone:∀j:Nat,∃q:List aF×Nat,j<4->iH [.dict (AU W),.int (j:Nat),.int ((1:Nat):Int)]= .ok (dC 1 q.1 q.2)/\gQ gs 1 (j:Nat) 3 q.1 q.2:=λj=>by
  by_cases hj:j<4
  . obtain ⟨ss,o,e,hC⟩:=Hv I F hg (by lia) (by decide) (oY.mp (four j (by lia) (by lia)));exact ⟨(ss,o),λ_=>⟨e,hC.ok,hC.lt,hC.gin,hC.val,dy hC.len (by lia)⟩⟩
  . exact ⟨([],0),λz=>absurd z hj⟩
 obtain ⟨C,hC⟩:∃C:Nat->List aF×Nat,∀j,j<4->iH [.dict (AU W),.int (j:Nat),.int (1:Int)]= .ok (dC 1 (C j).1 (C j).2)/\gQ gs 1 j 3 (C j).1 (C j).2:=⟨λj=>(lone j).choose,λj hj=>(lone j).choose_spec hj⟩;have L:Xn gs C:=⟨λj hj=>(hC j hj).2⟩;obtain ⟨B,ek,hB⟩:=J3 hm;have hno:∀k∈Ks5,∃(i:Nat) (c:B3) (g:Nat×Int),B k= .tuple [.int (i:Nat),dL c]/\gs[i]?=some g/\¬ Kp g.2 k.2.1 k.2.2 g.1:=λk hk=>by
  rcases hB.h k hk with ⟨_,z⟩ | ⟨h,_⟩
  . have:=fb.mp hf k hk;rw[z] at this;cases this
  . exact h
 obtain ⟨i5,c5,g5,b5,q5,k5⟩:=hno ("even",4,gM) (by decide);have hg5:=eL q5;obtain ⟨ssA,oA,eA,hA⟩:=aew L hg5 (hg g5 hg5) k5;obtain ⟨d,ed,hd⟩:=M3 hn hn1 h0 h1;obtain ⟨sT,oT,eT,T1,T2,T3,T4,T5⟩:=hd.afL (by decide) (by decide);obtain ⟨AF,o',eR,R1,R2,R3,R4,R5⟩:=Qk (L.h 1 (by decide)) hA T1 T2 (by lia) (by lia) T4;have Cc:gQ gs n t 429 AF o':=⟨R1,R3,R2,λr hr=>by rw[R5,T5 r hr,xS hr],by lia⟩;obtain ⟨ss,o,eS,hS⟩:=Cc.shared (by lia) (by decide);refine ⟨ss,o,?_,hS⟩;unfold qY;ext;rw[ek];ext;rw[show Xc (eC pM) (aj 2) [some (.list (gs.map AS)),some (dG n t),some (.list (Ks5.map B)),none,none,none,none,none,none]= .ok (Ks5.map λk=>ab.tuple [.str k.1,B k]) from rfl,AI.aQ];refine bL (λ_=>[some (.list (gs.map AS)),some (dG n t),some (.list (Ks5.map B)),none,none,none,none,none,none]) rfl (λi x hx=>?_) ?_
 . obtain ⟨k,hk,rfl⟩:=dh hx;obtain ⟨i,c,g,e,_,_⟩:=hno k (eL hk);rw[e];ext;rw[show wU (.tuple [.int (i:Nat),dL c]) .none= .ok (.bool false) from rfl];ext
 ext;rw[e1];ext;rw[show ab.int 4= .int ((4:Nat):Int) from rfl,mW (n:=4) (λj=>dC 1 (C j).1 (C j).2) ?_ (AW (by decide)) λj hj=>?_]
 rotate_left
 . ext;rw[dD (by decide)]
 . ext;rw[(hC j hj).1]
 ext;rw[show ab.int ((4:Nat):Int)= .int 4 from rfl,show AQ (.list (Ks5.map B)) (.int 4)= .ok (.tuple [.int (i5:Nat),dL c5]) by rw[<- b5];rfl];ext;rw[jc (by rw[br,q5];rfl)];ext;rw[show ab.list ((List.range 4).map λj=>dC 1 (C j).1 (C j).2)=jX C from rfl];have kit:∀Γ:Ev,gv Γ 6=some (jX C)->gv Γ 7=some (dG g5.1 g5.2)->8 < Γ.length->zF 8 [((eC gB),(ao AQ (aj 6) (eC (.int 1)))),((eC dU),(aM fU [(aj 7),(aj 6)]))] Γ = .ok (.nx (Γ.set 8 (some (Gj (C 1).1 (C 1).2 ssA oA)))):=λΓ g6 g7 hl=>by
  have v6:aj 6 Γ = .ok (jX C):=by rw[aj,g6]
  have v7:aj 7 Γ = .ok (dG g5.1 g5.2):=by rw[aj,g7]
  have a1:ao AQ (aj 6) (eC (.int 1)) Γ = .ok (dC 1 (C 1).1 (C 1).2):=by
   rw[Lf,v6];ext;exact vh (by decide)
  have a2:aM fU [(aj 7),(aj 6)] Γ = .ok (dC 2 ssA oA):=by
   rw[mQ,Br,v7,AI.aQ,Br,v6];exact eA
  rw[zF,show zp [((eC gB),(ao AQ (aj 6) (eC (.int 1)))),((eC dU),(aM fU [(aj 7),(aj 6)]))] Γ = .ok [(gB,dC 1 (C 1).1 (C 1).2),(dU,dC 2 ssA oA)] by
   rw[zp,Ci,AI.aQ,a1,AI.aQ,zp,Ci,AI.aQ,a2];rfl,AI.aQ,bD ⟨show (Dq [(gB,ab.none),(dU,ab.none)]).Nodup by decide,Nat.le_of_ble_eq_true rfl,hl⟩]
  rfl
 rw[kit _ rfl rfl (of_decide_eq_true rfl)];ext;unfold KZ;ext;rw[ed];ext;rw[eT];ext;rw[eR];ext;rw[eS];rfl
noncomputable def cX:B4->AI ab:=fnR 2 (aK (sIf (ao ltD (aj 1) (eFn fL [(aj 0)])) (bB (ao AQ (aj 0) (aj 1))) cB)
 (aK (sIf (ao eqD (eFn fL [(aj 0)]) (eC (.int 0))) (bB (ao cJ (ao lM (ao lM (aj 1) (aj 1)) (eC (.int 48271))) (ao lM (eC (.int 7)) (aj 1)))) cB)
 (bB (ao cJ (ao lJ (ao AQ (aj 0) (ao jU (aj 1) (eFn fL [(aj 0)]))) (ao cJ (eC (.int 1)) (ao lJ (aj 1) (eFn fL [(aj 0)])))) (ao lM (ao lM (aj 1) (aj 1)) (eC (.int 7919)))))))
noncomputable def qt:B4->AI ab:=fnR 3 (aK (bc 1 (ao AQ (bU [(eC (.int 2)),(eC (.int 2)),(eC (.int 1)),(eC (.int 3)),(eC (.int 2)),(eC (.int 2)),(eC (.int 3)),(eC (.int 1)),(eC (.int 0)),(eC (.int 4))]) (ao jU (aj 0) (eC (.int 10)))))
 (aK (bc 0 (ao lJ (aj 0) (eC (.int 10))))
 (aK (bc 2 (bU [(eC (.int 8)),(eC (.int 14)),(eC (.int 6)),(eC (.int 7)),(eC (.int 9)),(eC (.int 1)),(eC (.int 11)),(eC (.int 2))]))
 (aK (sIf (n8 (ao eqD (aj 1) (eC (.int 2))) (ao eqD (ao jU (aj 0) (eC (.int 3))) (eC (.int 0)))) (bB (bM [(eC (.int 2)),(ao AQ (aj 2) (ao jU (ao lJ (aj 0) (eC (.int 3))) (eC (.int 8))))])) cB)
 (bB (bM [(aj 1),(ao jU (ao cJ (ao lM (ao lJ (aj 0) (eC (.int 3))) (eC (.int 40503))) (aj 0)) (ao AQ (bU [(eC (.int 2)),(eC (.int 4)),(eC (.int 16)),(eC (.int 256)),(eC (.int 65536))]) (aj 1)))]))))))
noncomputable def cZ:B4->AI ab:=fnR 7 (aK (bc 2 (ao Bu (eC (.int 1)) (ao AQ (aj 0) (eC (.int 0)))))
 (aK (bc 3 (cC (iy (aj 2)) (gN 0) (eC (.bool true)) (ao rW (ao wu (ao AQ (aj 1) (eC (.int 1))) (aj 0)) (eC (.int 1))) 1 [0]))
 (aK (sIf (ao eqD (aj 1) (eC (.str "low"))) (bB (ao eqD (ao AQ (aj 3) (eC (.int 0))) (eC (.int 0)))) cB)
 (aK (sIf (ao eqD (aj 1) (eC (.str "high"))) (bB (ao eqD (ao AQ (aj 3) (ao jb (aj 2) (eC (.int 1)))) (eC (.int 1)))) cB)
 (aK (sIf (ao eqD (aj 1) (eC (.str "turn"))) (bB (ao eqD (cC (iy (aj 2)) (gN 0) (ao eqD (ao AQ (aj 1) (aj 0)) (ao AQ (aj 1) (ao jb (ao jb (aj 2) (eC (.int 1))) (aj 0)))) (aj 0) 1 [3,2]) (bU []))) cB)
 (aK (cL (iy (aj 2)) (gN 4) [4,5,6] (aK (bc 5 (ao AQ (aj 3) (eC (.int 0))))
 (aK (cL (iy (ao AQ (aj 0) (eC (.int 0)))) (gN 6) [6] (aK (sIf (n8 (ao eqD (aj 1) (eC (.str "rise"))) (ao gtD (ao AQ (aj 3) (aj 4)) (ao AQ (aj 3) (ao orD (aj 4) (ao Bu (eC (.int 1)) (aj 6)))))) (bB (eC (.bool false))) cB)
 (bc 5 (ao cJ (aj 5) (ao lM (ao rW (ao wu (aj 4) (aj 6)) (eC (.int 1))) (ao cJ (ao AQ (aj 3) (ao Bu (eC (.int 1)) (aj 6))) (ao AQ (aj 3) (eC (.int 0)))))))))
 (sIf (n8 (ao eqD (aj 1) (eC (.str "even"))) (ao neD (ao jU (aj 5) (eC (.int 2))) (ao AQ (aj 3) (aj 4)))) (bB (eC (.bool false))) cB))))
 (bB (eC (.bool true)))))))))
noncomputable def pL:B4->AI ab:=fnR 8 (aK (bc 2 (aM cX [(aj 0),(aj 1)]))
 (aK (bc 3 (ao AQ (bU [(eC (.str "low")),(eC (.str "high")),(eC (.str "turn")),(eC (.str "rise")),(eC (.str "even"))]) (ao jU (ao lJ (aj 2) (eC (.int 4))) (eC (.int 5)))))
 (aK (bc 4 (bU [(bU [(bM [(eC (.int 2)),(eC (.int 7))])]),(bU [(bM [(eC (.int 2)),(eC (.int 1))])]),(bU [(bM [(eC (.int 2)),(eC (.int 8))]),(bM [(eC (.int 1)),(eC (.int 1))])]),(bU [(bM [(eC (.int 2)),(eC (.int 14))]),(bM [(eC (.int 1)),(eC (.int 1))])]),(bU [(bM [(eC (.int 2)),(eC (.int 8))]),(bM [(eC (.int 2)),(eC (.int 6))]),(bM [(eC (.int 0)),(eC (.int 1))])]),(bU [(bM [(eC (.int 2)),(eC (.int 13))]),(bM [(eC (.int 0)),(eC (.int 0))])])]))
 (aK (bc 4 (ao cJ (aj 4) (bU [(bU [(bM [(eC (.int 3)),(eC (.int 23))]),(bM [(eC (.int 2)),(eC (.int 7))])]),(bU [(bM [(eC (.int 2)),(eC (.int 2))]),(bM [(eC (.int 0)),(eC (.int 1))])]),(bU [(bM [(eC (.int 3)),(eC (.int 202))]),(bM [(eC (.int 0)),(eC (.int 0))]),(bM [(eC (.int 0)),(eC (.int 1))])]),(bU [(bM [(eC (.int 2)),(eC (.int 11))]),(bM [(eC (.int 1)),(eC (.int 1))])]),(bU [(bM [(eC (.int 4)),(eC (.int 32767))])])])))
 (aK (sIf (ao eqD (ao jU (aj 2) (eC (.int 4))) (eC (.int 0))) (bB (eFn Dt [(ao AQ (aj 4) (ao jU (ao lJ (aj 2) (eC (.int 4))) (eC (.int 11))))])) cB)
 (aK (bc 5 (bU []))
 (aK (cL (iy (ao jU (ao lJ (aj 2) (eC (.int 20))) (eC (.int 7)))) (gN 6) [6,7] (aK (bc 7 (aM qt [(aM cX [(aj 0),(ao cJ (ao cJ (aj 1) (eC (.int 1))) (aj 6))])]))
 (aK (sIf (n8 (ao ltD (ao jU (aj 2) (eC (.int 4))) (eC (.int 3))) (mJ (eUn oH (aM cZ [(aj 7),(aj 3)])))) (bc 7 (ao ixY (jC [("low",(bM [(eC (.int 2)),(eC (.int 8))])),("high",(bM [(eC (.int 2)),(eC (.int 14))])),("turn",(bM [(eC (.int 1)),(eC (.int 1))])),("rise",(bM [(eC (.int 2)),(eC (.int 8))])),("even",(bM [(eC (.int 2)),(eC (.int 6))]))]) (aj 3))) cB)
 (mH 5 (aj 7)))))
 (bB (aj 5)))))))))
noncomputable def um:B4->AI ab:=fnR 6 (aK (bc 2 (cC (iy (ao AQ (aj 0) (eC (.int 0)))) (gN 0) (eC (.bool true)) (ao rW (ao wu (aj 1) (aj 0)) (eC (.int 1))) 1 [1]))
 (aK (cL (itL (ao AQ (aj 0) (eC (.int 1)))) (gT [(gN 3),(gN 4)]) [3,4,5] (aK (bc 5 (eFn Fe [(cC (itE (aj 4)) (gT [(gN 0),(gN 1)]) (eC (.bool true)) (ao Bu (ao AQ (aj 2) (aj 1)) (aj 0)) 2 [2])]))
 (mH 2 (ao rW (ao wu (ao AQ (aj 3) (eC (.int 1))) (aj 5)) (eC (.int 1))))))
 (bB (ao AQ (aj 2) (ao AQ (aj 0) (eC (.int 2)))))))
noncomputable def nJ:B4->AI ab:=fnR 3 (aK (bc 1 (aM pL [(aj 0),(eC (.int 0))]))
 (aK (cL (itL (bU [(eC (.str "low")),(eC (.str "high")),(eC (.str "turn")),(eC (.str "rise")),(eC (.str "even"))])) (gN 2) [2] (sIf (ao eqD (cC (itL (aj 1)) (gN 0) (mJ (eUn oH (aM cZ [(aj 0),(aj 1)]))) (aj 0) 1 [2]) (bU [])) (bc 1 (ao cJ (eSl (aj 1) PN (QL (eC (.int 5)))) (bU [(ao AQ (bU [(bM [(eC (.int 2)),(eC (.int 7))]),(bM [(eC (.int 2)),(eC (.int 1))]),(bM [(eC (.int 3)),(eC (.int 127))]),(bM [(eC (.int 4)),(eC (.int 1))])]) (ao jU (aM cX [(aj 0),(eC (.int 8))]) (eC (.int 4))))]))) cB))
 (bB (aj 1))))
noncomputable def lE:B4->AI ab:=fnR 4 (aK (bc 1 (ao cJ (eC (.int 1)) (ao jU (aj 0) (eC (.int 4)))))
 (aK (bc 2 (ao AQ (bU [(eC (.int 0)),(eC (.int 4)),(eC (.int 16)),(eC (.int 256)),(eC (.int 65536))]) (aj 1)))
 (aK (bc 3 (bU [(eC (.int 0)),(ao jb (aj 2) (eC (.int 1))),(eC (.int 2)),(ao jU (ao lM (ao lJ (aj 0) (eC (.int 20))) (eC (.int 40503))) (aj 2)),(ao jU (ao lM (ao lJ (aj 0) (eC (.int 20))) (eC (.int 48271))) (aj 2))]))
 (bB (bM [(aj 1),(ao AQ (aj 3) (ao jU (ao lJ (aj 0) (eC (.int 4))) (eC (.int 5))))])))))
noncomputable def jT:B4->AI ab:=fnR 4 (aK (sIf (eOr (ao Ea (aM m6 [(aj 2)]) (eC (.bool true))) (ao neD (ao AQ (aj 2) (eC (.int 0))) (ao AQ (aj 1) (eC (.int 0))))) (bB (eC (.bool false))) cB)
 (aK (sIf (ao neD (cC (itL (ao AQ (aj 2) (eC (.int 1)))) (gN 0) (ao lV (ao AQ (aj 0) (eC (.int 0))) (aj 1)) (aj 0) 1 [0]) (bU [])) (bB (eC (.bool false))) cB)
 (aK (cL (iy (ao Bu (eC (.int 1)) (ao AQ (aj 1) (eC (.int 0))))) (gN 3) [3] (sIf (ao neD (aM um [(aj 2),(aj 3)]) (ao rW (ao wu (ao AQ (aj 1) (eC (.int 1))) (aj 3)) (eC (.int 1)))) (bB (eC (.bool false))) cB))
 (bB (eC (.bool true))))))
noncomputable def vN:B4->AI ab:=fnR 5 (aK (bc 1 (aM nJ [(aj 0)]))
 (aK (bc 2 (eFn Dt [(aj 1)]))
 (aK (sIf (ao Ea (aM pF [(aj 2)]) (eC (.bool true))) (bB (eC (.bool false))) cB)
 (aK (cL (iy (ao cJ (eC (.int 2)) (eFn minD [(eFn fL [(aj 0)]),(eC (.int 2))]))) (gN 3) [3,4] (aK (bc 4 (aM lE [(aM cX [(aj 0),(ao cJ (eC (.int 10)) (aj 3))])]))
 (sIf (eOr (mJ (eUn oH (aM jT [(aj 1),(aj 4),(aM qY [(aj 2),(aj 4)])]))) (ao neD (aj 2) (aj 1))) (bB (eC (.bool false))) cB)))
 (aK (bc 4 (aM lE [(aM cX [(aj 0),(eC (.int 10))])]))
 (bB (aM jT [(aj 1),(aj 4),(aM qY [(aj 2),(aj 4)])])))))))
variable {h:Nat×Int}
section
theorem Df(ns:B3)(hns:ns.length<=63){k:Nat}(hk:k<=10000):∃c:Int,cX [dL ns,.int (k:Nat)]= .ok (.int c):=by
 unfold cX;ext;rw[BX]
 by_cases h:k<ns.length
 . rw[if_pos (decide_eq_true (by lia)),vg h];ext;exact ⟨_,rfl⟩
 . rw[if_neg (by rw[decide_eq_true_eq];lia)];ext;rw[BX];have hk2:((k:Nat):Int)*(k:Nat)<=10000*10000:=Int.mul_le_mul (by lia) (by lia) (by lia) (by lia);have hk0:0<=((k:Nat):Int)*(k:Nat):=Int.mul_nonneg (by lia) (by lia)
   by_cases h0:ns.length=0
   . rw[if_pos (decide_eq_true (by lia))];walk_at "go";exact ⟨_,rfl⟩
   . rw[if_neg (by rw[decide_eq_true_eq];lia)];have hp:(0:Int)<ns.length:=by lia
     obtain ⟨q,eq,hq⟩:=Ex (k:Int) hp;have hd:((k:Nat):Int) / ns.length<=10000:=AB (Int.ediv_le_self _ (by lia)) (by lia);have hd0:0<=((k:Nat):Int) / ns.length:=Int.ediv_nonneg (by lia) (by lia);ext;rw[bD hp];ext;rw[eq,vg (by lia)];ext;rw[bD (⟨hp,by lia⟩)];ext;rw[bD (⟨by lia,by lia⟩)];walk_at "go";exact ⟨_,rfl⟩
theorem ten(h:0<=v/\v<10):∃n:Nat,n<=4/\AQ (.list [.int 2,.int 2,.int 1,.int 3,.int 2,.int 2,.int 3,.int 1,.int 0,.int 4]) (.int v)= .ok (.int (n:Nat)):=by
 have:v=0\/v=1\/v=2\/v=3\/v=4\/v=5\/v=6\/v=7\/v=8\/v=9:=by lia
 rcases this with rfl | rfl | rfl | rfl | rfl | rfl | rfl | rfl | rfl | rfl
 . exact ⟨2,by decide,rfl⟩
 . exact ⟨2,by decide,rfl⟩
 . exact ⟨1,by decide,rfl⟩
 . exact ⟨3,by decide,rfl⟩
 . exact ⟨2,by decide,rfl⟩
 . exact ⟨2,by decide,rfl⟩
 . exact ⟨3,by decide,rfl⟩
 . exact ⟨1,by decide,rfl⟩
 . exact ⟨0,by decide,rfl⟩
 . exact ⟨4,by decide,rfl⟩
theorem eight(h:0<=v/\v<8):∃x:Int,0<=x/\x<16/\AQ (.list [.int 8,.int 14,.int 6,.int 7,.int 9,.int 1,.int 11,.int 2]) (.int v)= .ok (.int x):=by
 have:v=0\/v=1\/v=2\/v=3\/v=4\/v=5\/v=6\/v=7:=by lia
 rcases this with rfl | rfl | rfl | rfl | rfl | rfl | rfl | rfl <;> exact ⟨_,by decide,by decide,rfl⟩
theorem Gr{a b:Bool}:(if a=true then AI.ok (ab.bool b) else .ok (.bool false))= .ok (.bool (a&&b)):=by cases a <;> rfl
theorem acK(c:Int):∃(m:Nat) (b:Int),m<=4/\0<=b/\b<2^2^m/\qt [.int c]= .ok (dG m b):=by
 unfold qt;walk_at "go";obtain ⟨m,hm,em⟩:=ten ⟨kQ _ (by decide),kx _ (by decide)⟩;rw[em];walk_at "go";rw[JS,Gr];have h2:=two_pos (2^m);generalize (decide ((m:Int)=2)&&decide (c / 10 % 3=0))=t
 cases t with
 | true=>
  obtain ⟨x,x0,x1,ex⟩:=eight ⟨kQ _ (by decide),kx _ (by decide)⟩;rw[ex];walk_at "go";exact ⟨2,x,by decide,x0,x1,rfl⟩
 | false=>
  walk_at "go";rw[beyond hm];walk_at "go";exact ⟨m,_,hm,kQ _ (by lia),kx _ h2,rfl⟩
theorem qS{y:Str}{t:Bool}(h1:eI (.str nm)=true)(h2:eI (.str y)=true)(h3:fI (.str nm) (.str y)=t):eqD (.str nm) (.str y)= .ok (.bool t):=by
 rw[eqD,bD ⟨h1,h2⟩,h3]
theorem Vj:eqD (.str "low") (.str "low")= .ok (.bool true):=qS (by decide +kernel) (by decide +kernel) (by decide +kernel)
theorem RK:eqD (.str "low") (.str "high")= .ok (.bool false):=qS (by decide +kernel) (by decide +kernel) (by decide +kernel)
theorem RD:eqD (.str "low") (.str "turn")= .ok (.bool false):=qS (by decide +kernel) (by decide +kernel) (by decide +kernel)
theorem QM:eqD (.str "low") (.str "rise")= .ok (.bool false):=qS (by decide +kernel) (by decide +kernel) (by decide +kernel)
theorem Qp:eqD (.str "low") (.str "even")= .ok (.bool false):=qS (by decide +kernel) (by decide +kernel) (by decide +kernel)
theorem QX:eqD (.str "high") (.str "low")= .ok (.bool false):=qS (by decide +kernel) (by decide +kernel) (by decide +kernel)
theorem Nq:eqD (.str "high") (.str "high")= .ok (.bool true):=qS (by decide +kernel) (by decide +kernel) (by decide +kernel)
theorem Nb:eqD (.str "high") (.str "turn")= .ok (.bool false):=qS (by decide +kernel) (by decide +kernel) (by decide +kernel)
theorem Mi:eqD (.str "high") (.str "rise")= .ok (.bool false):=qS (by decide +kernel) (by decide +kernel) (by decide +kernel)
theorem Mr:eqD (.str "high") (.str "even")= .ok (.bool false):=qS (by decide +kernel) (by decide +kernel) (by decide +kernel)
theorem Rg:eqD (.str "turn") (.str "low")= .ok (.bool false):=qS (by decide +kernel) (by decide +kernel) (by decide +kernel)
theorem M5:eqD (.str "turn") (.str "high")= .ok (.bool false):=qS (by decide +kernel) (by decide +kernel) (by decide +kernel)
theorem MN:eqD (.str "turn") (.str "turn")= .ok (.bool true):=qS (by decide +kernel) (by decide +kernel) (by decide +kernel)
theorem MT:eqD (.str "turn") (.str "rise")= .ok (.bool false):=qS (by decide +kernel) (by decide +kernel) (by decide +kernel)
theorem Nk:eqD (.str "turn") (.str "even")= .ok (.bool false):=qS (by decide +kernel) (by decide +kernel) (by decide +kernel)
theorem QH:eqD (.str "rise") (.str "low")= .ok (.bool false):=qS (by decide +kernel) (by decide +kernel) (by decide +kernel)
theorem Mv:eqD (.str "rise") (.str "high")= .ok (.bool false):=qS (by decide +kernel) (by decide +kernel) (by decide +kernel)
theorem Ml:eqD (.str "rise") (.str "turn")= .ok (.bool false):=qS (by decide +kernel) (by decide +kernel) (by decide +kernel)
theorem Mh:eqD (.str "rise") (.str "rise")= .ok (.bool true):=qS (by decide +kernel) (by decide +kernel) (by decide +kernel)
theorem Mp:eqD (.str "rise") (.str "even")= .ok (.bool false):=qS (by decide +kernel) (by decide +kernel) (by decide +kernel)
theorem Rf:eqD (.str "even") (.str "low")= .ok (.bool false):=qS (by decide +kernel) (by decide +kernel) (by decide +kernel)
theorem M4:eqD (.str "even") (.str "high")= .ok (.bool false):=qS (by decide +kernel) (by decide +kernel) (by decide +kernel)
theorem Nj:eqD (.str "even") (.str "turn")= .ok (.bool false):=qS (by decide +kernel) (by decide +kernel) (by decide +kernel)
theorem Mm:eqD (.str "even") (.str "rise")= .ok (.bool false):=qS (by decide +kernel) (by decide +kernel) (by decide +kernel)
theorem My:eqD (.str "even") (.str "even")= .ok (.bool true):=qS (by decide +kernel) (by decide +kernel) (by decide +kernel)
local macro_rules | `(tactic| walk_at "eq")=>`(tactic| simp only[Vj,RK,RD,QM,Qp,QX,Nq,Nb,Mi,Mr,Rg,M5,MN,MT,Nk,QH,Mv,Ml,Mh,Mp,Rf,M4,Nj,Mm,My])
noncomputable def vals(m:Nat)(b:Int):B3:=(List.range (2^m)).map λr=>ak b ((r:Nat):Int)
theorem ixV(hr:r<2^m):AQ (dL (vals m b)) (.int (r:Nat))= .ok (.int (ak b (r:Nat))):=by
 rw[vg (by unfold vals;simpa using hr)];unfold vals;simp[eP hr]
theorem p2(m:Nat):(2:Int)^((m:Nat):Int).toNat=((2^m:Nat):Int):=by rw[cE];exact (nk 2 m).symm
theorem Ip(hm:m<=4):2^m<=16:=dy (fx (by decide) hm) (by decide)
theorem pos2(m:Nat):0<2^m:=xc (by decide)
theorem vz{nm:ab}(hm:m<=4):cC (iy (aj 2)) (gN 0) (eC (.bool true)) (ao rW (ao wu (ao AQ (aj 1) (eC (.int 1))) (aj 0)) (eC (.int 1))) 1 [0] [some (dG m b),some nm,some (.int ((2^m:Nat):Int)),none,none,none,none]= .ok (dL (vals m b)):=by
 have h16:=Ip hm;rw[mW (n:=2^m) (λr=>.int (ak b (r:Int))) ?_ (AW (by lia)) λr hr=>?_]
 . rw[vals,aer]
 . ext;rw[dD (by lia)]
 . walk_at "go";rw[ja];rfl
theorem afj(hm:m<=4):cZ [dG m b,.str "low"]= .ok (.bool (decide (ak b 0=0))):=by
 unfold cZ;walk_at "go";rw[p2,oQ,vz hm];ext;walk_at "eq";ext;rw[show AQ (dL (vals m b)) (.int 0)= .ok (.int (ak b 0)) from ixV (pos2 m)];ext
theorem aeq(hm:m<=4):cZ [dG m b,.str "high"]= .ok (.bool (decide (ak b (2^m - 1)=1))):=by
 have h0:=pos2 m;unfold cZ;walk_at "go";rw[p2,oQ,vz hm];ext;walk_at "eq";ext;walk_at "eq";ext;have e:((2^m:Nat):Int) - 1=((2^m - 1:Nat):Int):=by lia
 rw[e,ixV (by lia),<- e,nk];ext;rfl
theorem say{a t:Bool}{P:Prop}(ht:t=true↔P)(h:a=true↔P):AI.ok (ab.bool a)= .ok (.bool t):=by
 have:=qc.mpr (h.trans ht.symm);rw[this]
theorem acG(hm:m<=4){t:Bool}(ht:t=true↔Kp b 2 [1,2] m):cZ [dG m b,.str "turn"]= .ok (.bool t):=by
 have h0:=pos2 m;have h16:=Ip hm;unfold cZ;walk_at "go";rw[p2,oQ,vz hm];ext;walk_at "eq";ext;walk_at "eq";ext;walk_at "eq";ext;rw[Hx (n:=2^m) (λr=>decide (ak b r=ak b ((2^m - 1 - r:Nat):Int))) (λr=>.int r) ?_ (AW (by lia)) (λr hr=>?_) λr hr _=>?_]
 . ext;have e1:ab.list (((List.range (2^m)).filter λr=>decide (ak b (r:Nat)=ak b ((2^m - 1 - r:Nat):Int))).map λr=>ab.int (r:Nat))=dL (((List.range (2^m)).filter λr=>decide (ak b (r:Nat)=ak b ((2^m - 1 - r:Nat):Int))).map λr=>((r:Nat):Int)):=by rw[dL,de];rfl
   rw[e1,show ab.list []=dL [] from rfl,Uy];ext;refine say ht ?_;rw[decide_eq_true_eq,List.map_eq_nil_iff,si,O9];refine ⟨λh r hr=>?_,λh r hr=>?_⟩
   . have:=h r (dn.mpr hr);rw[decide_eq_true_eq] at this;rw[show (2:Int)^m - 1 - (r:Nat)=((2^m - 1 - r:Nat):Int) by rw[show (2:Int)^m=((2^m:Nat):Int) from (nk 2 m).symm];lia];exact this
   . have hr:=dn.mp hr;have:=h r hr;rw[decide_eq_true_eq];rw[show (2:Int)^m - 1 - (r:Nat)=((2^m - 1 - r:Nat):Int) by rw[show (2:Int)^m=((2^m:Nat):Int) from (nk 2 m).symm];lia] at this;exact this
 . ext;rw[dD (by lia)]
 . ext;rw[ixV hr];ext;rw[show ((2^m:Nat):Int) - 1 - r=((2^m - 1 - r:Nat):Int) by lia,ixV (by lia)];ext
 . ext
theorem J6{g:MG}{b:MS}{d:ab}:∀{xs:B4} (S:Nat->Ev) (p:Nat->Bool),(∀i x,xs[i]?=some x->((g x (S i)).bind b).bind (iB cl)=if p i=true then .ok (.rt d) else .ok (.nx (S (i+1)))) ->
 forR g cl b xs (S 0)=if (List.range xs.length).any p=true then .ok (.rt d) else .ok (.nx (S xs.length))
 | [],_,_,_=>rfl
 | x::xs,S,p,h=>by
  have h1:=h 0 x rfl;have ih:=J6 (λi=>S (i+1)) (λi=>p (i+1)) λi y hy=>h (i+1) y hy;rw[a9,yB,kC,List.any_map]
  cases hp:p 0 with
  | true=>
   rw[if_pos hp] at h1;obtain ⟨o,h2,h3⟩:=AI.au h1;obtain ⟨Γ1,h4,h5⟩:=AI.au h2;rw[AA,if_pos rfl,forR,h4,AI.aQ,h5,AI.aQ];cases o <;> cases h3;rfl
  | false=>
   rw[if_neg (by rw[hp];exact e8)] at h1;rw[zQ h1,ih,xi];rfl
theorem Vm{α:Type}{g:MG}{b:MS}{d:ab}{f:Out->AI α}{r:AI α}(S:Nat->Ev)(p:Nat->Bool)(h0:Γ=S 0)(h:∀i x,ds[i]?=some x->((g x (S i)).bind b).bind (iB cl)=if p i=true then .ok (.rt d) else .ok (.nx (S (i+1))))
 (k1:(List.range ds.length).any p=true->f (.rt d)=r) (k2:(List.range ds.length).any p=false->f (.nx (S ds.length))=r):(forR g cl b ds Γ).bind f=r:=by
 rw[h0,J6 S p h]
 cases hc:(List.range ds.length).any p with
 | true=>rw[if_pos rfl];exact k1 hc
 | false=>rw[if_neg e8];exact k2 hc
theorem abO(hr:r<16)(hk:j<4):k8 (r:Nat) ((2^j:Nat):Int)=((r ||| 2^j:Nat):Int):=by
 have:∀r<16,∀j<4,k8 (r:Nat) ((2^j:Nat):Int)=((r ||| 2^j:Nat):Int):=by decide +kernel
 exact this r hr j hk
theorem ix2(h:2^i<2^m):AQ (dL (vals m b)) (.int (1*2^((i:Nat):Int).toNat))= .ok (.int (ak b (2^i))):=by
 rw[p2,oQ,ixV h,show ((2^i:Nat):Int)=2^i from nk 2 i]
theorem Qn:AQ (dL (vals m b)) (.int 0)= .ok (.int (ak b 0)):=ixV (pos2 m)
theorem adJ(hm:m<=4){t:Bool}(ht:t=true↔Kp b 2 [0,2,3] m):cZ [dG m b,.str "rise"]= .ok (.bool t):=by
 have h0:=pos2 m;have h16:=Ip hm;unfold cZ;walk_at "go";rw[p2,oQ,vz hm];ext;walk_at "eq";ext;walk_at "eq";ext;walk_at "eq";ext;rw[dD (by lia)];ext;rw[upN,qJ (d:=.bool false) (λr:Nat=>ab.int r) (λr=>(List.range m).any λk=>decide (ak b ((r ||| 2^k:Nat):Int)<ak b r)) λr hr=>?_]
 . cases hc:(List.range (2^m)).any λr=>(List.range m).any λk=>decide (ak b ((r ||| 2^k:Nat):Int)<ak b r) with
   | true=>
    rw[if_pos rfl];ext;refine say ht ⟨λh=>(nomatch h),λh=>?_⟩;obtain ⟨r,hr,h2⟩:=n9.mp hc;obtain ⟨k,hk,h3⟩:=n9.mp h2;have:=Ga.mp h r k (dn.mp hr) (dn.mp hk);have h3:=of_decide_eq_true h3;lia
   | false=>
    rw[if_neg e8];ext;refine say ht ⟨λ_=>Ga.mpr λr k hr hk=>?_,λ_=>rfl⟩;have h1:=se.mp hc r (dn.mpr hr);have h2:=se.mp (ny.mpr h1) k (dn.mpr hk);rw[decide_eq_true_eq] at h2;lia
 . have hr:=dn.mp hr;ext;rw[show AQ (dL (vals m b)) (.int 0)= .ok (.int (ak b 0)) from ixV (pos2 m)];ext;rw[dD (by lia)];ext;refine Vm (d:=.bool false) (λi=>[some (dG m b),some (.str "rise"),some (.int ((2^m:Nat):Int)),some (dL (vals m b)),some (.int r),some (.int (wA b r i)),none]) (λk=>decide (ak b ((r ||| 2^k:Nat):Int)<ak b r)) rfl (λi x hx=>?_) (λhc=>?_) λhc=>?_
   . obtain ⟨hi,rfl⟩:=jQ hx;have hlt:=sg hr (ll (by decide) hi);have hi2:2^i<2^m:=ll (by decide) hi;ext;walk_at "eq";ext;rw[ixV hr];walk_at "go";rw[p2,oQ,abO (by lia) (by lia),ixV hlt];walk_at "go"
     by_cases hc:ak b ((r ||| 2^i:Nat):Int)<ak b r
     . rw[decide_eq_true hc];ext
     . rw[decide_eq_false hc];walk_at "go";rw[ix2 hi2,Qn];ext;rw[ja];change (gd (rK (ak r i) (ak b (2^i)+ak b 0)) (AI.ok (ab.int (ak r i*(ak b (2^i)+ak b 0))))).bind _=_;have b1:=aP r i;have b2:=aP b (2^i);have b3:=aP b 0;walk_at "gd";ext;rfl
   . rw[fj] at hc;rw[if_pos hc];ext
   . rw[fj] at hc;rw[if_neg (by rw[hc];exact e8),fj];ext;walk_at "eq";ext
theorem acA(hm:m<=4){t:Bool}(ht:t=true↔Kp b 4 gM m):cZ [dG m b,.str "even"]= .ok (.bool t):=by
 have h0:=pos2 m;have h16:=Ip hm;unfold cZ;walk_at "go";rw[p2,oQ,vz hm];ext;walk_at "eq";ext;walk_at "eq";ext;walk_at "eq";ext;rw[dD (by lia)];ext;rw[upN,qJ (d:=.bool false) (λr:Nat=>ab.int r) (λr=>!decide (wA b r m % 2=ak b r)) λr hr=>?_]
 . cases hc:(List.range (2^m)).any λr=>!decide (wA b r m % 2=ak b r) with
   | true=>
    rw[if_pos rfl];ext;refine say ht ⟨λh=>(nomatch h),λh=>?_⟩;obtain ⟨r,hr,h2⟩:=n9.mp hc;have:=Fi.mp h r (dn.mp hr);rw[decide_eq_true this] at h2;cases h2
   | false=>
    rw[if_neg e8];ext;refine say ht ⟨λ_=>Fi.mpr λr hr=>?_,λ_=>rfl⟩;have h1:=se.mp hc r (dn.mpr hr);simpa using h1
 . have hr:=dn.mp hr;ext;rw[Qn];ext;rw[dD (by lia)];ext;refine bL (λi=>[some (dG m b),some (.str "even"),some (.int ((2^m:Nat):Int)),some (dL (vals m b)),some (.int r),some (.int (wA b r i)),none]) rfl (λi x hx=>?_) ?_
   . obtain ⟨hi,rfl⟩:=jQ hx;have hi2:2^i<2^m:=ll (by decide) hi;ext;walk_at "eq";walk_at "go";rw[ix2 hi2,Qn];ext;rw[ja];change (gd (rK (ak r i) (ak b (2^i)+ak b 0)) (AI.ok (ab.int (ak r i*(ak b (2^i)+ak b 0))))).bind _=_;have b1:=aP r i;have b2:=aP b (2^i);have b3:=aP b 0;walk_at "gd";ext;rfl
   . rw[fj];ext;walk_at "eq";walk_at "go";rw[ixV hr];ext
     by_cases hc:wA b r m % 2=ak b r
     . rw[decide_eq_true hc];ext
     . rw[decide_eq_false hc];ext
inductive p8:Str->Nat->B3->Prop
 | low:p8 "low" 1 [0]
 | high:p8 "high" 1 [1]
 | turn:p8 "turn" 2 [1,2]
 | rise:p8 "rise" 2 [0,2,3]
 | even:p8 "even" 4 gM
theorem O7(N:p8 nm w rs)(hm:m<=4):cZ [dG m b,.str nm]= .ok (.bool (brk b w rs m).isNone):=by
 cases N with
 | low=>rw[afj hm];exact say km (decide_eq_true_iff.trans Tj.symm)
 | high=>rw[aeq hm];exact say km (decide_eq_true_iff.trans Oo.symm)
 | turn=>exact acG hm km
 | rise=>exact adJ hm km
 | even=>exact acA hm km
theorem abo{a b:ab}(h1:eI a=true)(h2:eI b=true)(h3:fI a b=true):neD a b= .ok (.bool false):=by
 rw[neD,bD ⟨h1,h2⟩,h3];rfl
theorem Goes.two{α:Type}{c:Bool}{x y:AI Out}{f:Out->AI Out}{P:Ev->Prop}(V:α->Prop)(E:α->Ev)(hx:c=true->∃v,V v/\x= .ok (.nx (E v)))(hy:c=false->∃v,V v/\y= .ok (.nx (E v)))
 (k:∀v,V v->Goes (f (.nx (E v))) P):Goes ((bS (.bool c) x y).bind f) P:=by
 cases c with
 | true=>obtain ⟨v,h,e⟩:=hx rfl;rw[Og,e];exact k v h
 | false=>obtain ⟨v,h,e⟩:=hy rfl;rw[Lx,e];exact k v h
theorem p8.small(N:p8 nm w rs):rs.length<=8/\w<=100:=by cases N <;> decide
noncomputable def Ks:List (Str×Nat×B3):=[("low",1,[0]),("high",1,[1]),("turn",2,[1,2]),("rise",2,[0,2,3]),("even",4,gM)]
theorem afb{k:Str×Nat×B3}(h:k∈Ks):p8 k.1 k.2.1 k.2.2:=by
 simp only[Ks,cp,nX,or_false] at h;rcases h with rfl | rfl | rfl | rfl | rfl
 . exact .low
 . exact .high
 . exact .turn
 . exact .rise
 . exact .even
structure GOk (g:Nat×Int):Prop where
 m4:g.1<=4
 b0:0<=g.2
 b1:g.2<2^2^g.1
noncomputable def D5:B0:=[(.str "low",AS (2,8)),(.str "high",AS (2,14)),(.str "turn",AS (1,1)),(.str "rise",AS (2,8)),(.str "even",AS (2,6))]
theorem aaq(Γ:Ev):jC [("low",(bM [(eC (.int 2)),(eC (.int 8))])),("high",(bM [(eC (.int 2)),(eC (.int 14))])),("turn",(bM [(eC (.int 1)),(eC (.int 1))])),("rise",(bM [(eC (.int 2)),(eC (.int 8))])),("even",(bM [(eC (.int 2)),(eC (.int 6))]))] Γ = .ok (.dict D5):=rfl
theorem abY(N:p8 nm w rs):∃g,GOk g/\ixY (.dict D5) (.str nm)= .ok (AS g):=by
 cases N
 . exact ⟨(2,8),⟨by decide,by decide,by decide⟩,rfl⟩
 . exact ⟨(2,14),⟨by decide,by decide,by decide⟩,rfl⟩
 . exact ⟨(1,1),⟨by decide,by decide,by decide⟩,rfl⟩
 . exact ⟨(2,8),⟨by decide,by decide,by decide⟩,rfl⟩
 . exact ⟨(2,6),⟨by decide,by decide,by decide⟩,rfl⟩
theorem five(h:0<=v/\v<5):∃nm w rs,p8 nm w rs/\AQ (.list [.str "low",.str "high",.str "turn",.str "rise",.str "even"]) (.int v)= .ok (.str nm):=by
 have:v=0\/v=1\/v=2\/v=3\/v=4:=by lia
 rcases this with rfl | rfl | rfl | rfl | rfl
 . exact ⟨_,_,_,.low,rfl⟩
 . exact ⟨_,_,_,.high,rfl⟩
 . exact ⟨_,_,_,.turn,rfl⟩
 . exact ⟨_,_,_,.rise,rfl⟩
 . exact ⟨_,_,_,.even,rfl⟩
noncomputable def good:List A9:=[[(2,7)],[(2,1)],[(2,8),(1,1)],[(2,14),(1,1)],[(2,8),(2,6),(0,1)],[(2,13),(0,0)],[(3,23),(2,7)],[(2,2),(0,1)],[(3,202),(0,0),(0,1)],[(2,11),(1,1)],[(4,32767)]]
theorem aal:∀gs∈good,gs.length<=6/\∀g∈gs,g.1<=4/\0<=g.2/\g.2<2^2^g.1:=by decide +kernel
theorem afr(ns:B3)(h:ns.length<=63):∃gs:A9,pL [dL ns,.int 0]= .ok (.list (gs.map AS))/\gs.length<=6/\∀g∈gs,GOk g:=by
 suffices z:Gives (pL [dL ns,.int 0]) λd=>∃gs:A9,d= .list (gs.map AS)/\gs.length<=6/\∀g∈gs,GOk g by
  obtain ⟨d,e,gs,rfl,h⟩:=z;exact ⟨gs,e,h⟩
 obtain ⟨c,ec⟩:=Df ns h (k:=0) (by decide);have ec:cX [dL ns,.int 0]= .ok (.int c):=ec;unfold pL;ext;rw[ec];walk_at "go";obtain ⟨nm,w,rs,N,en⟩:=five ⟨kQ _ (by decide),kx _ (by decide)⟩;rw[en];walk_at "go";generalize ha:cJ (ab.list _) (ab.list _)=X;have hX:X= .ok (.list (good.map λgs=>ab.list (gs.map AS))):=by
  rw[<- ha,uD (AW (by decide))];rfl
 rw[hX];ext
 by_cases h4:c % 4=0
 . rw[decide_eq_true h4];obtain ⟨k,ek,hk⟩:=Ex (c / 4) (m:=11) (by decide);have hk':=by show k<11;lia
   rw[ek,jc (by rw[br,ai hk'];rfl)];ext;have:=aal good[k] (fE hk');exact ⟨good[k],rfl,this.1,λg hg=>⟨(this.2 g hg).1,(this.2 g hg).2.1,(this.2 g hg).2.2⟩⟩
 . rw[decide_eq_false h4];obtain ⟨q,eq,hq⟩:=Ex (c / 20) (m:=7) (by decide);walk_at "go";rw[eq,dD (by lia)];ext;generalize ab.list (good.map λgs=>ab.list (gs.map AS))=gd0;refine wB (λi Γ=>∃gs:A9,Γ=[some (dL ns),some (.int 0),some (.int c),some (.str nm),some gd0,some (.list (gs.map AS)),none,none]/\gs.length=i/\∀g∈gs,GOk g) ⟨[],rfl,rfl,λg hg=>nomatch hg⟩ (λi x Γ hx hI=>?_) λΓ hI=>?_
   . obtain ⟨gs,rfl,hl,hgs⟩:=hI;obtain ⟨hi,rfl⟩:=jQ hx;obtain ⟨d,ed⟩:=Df ns h (k:=1+i) (by lia);obtain ⟨m,b,hm,b0,b1,eg⟩:=acK d;ext;rw[show 0+1+i=((1+i:Nat):Int) by lia,ed];ext;rw[eg];walk_at "go";obtain ⟨g5,ok5,e5⟩:=abY N;rw[O7 N hm,aaq];ext;rw[JS,Gr];ext;refine Goes.two GOk (λv=>[some (dL ns),some (.int 0),some (.int c),some (.str nm),some gd0,some (.list (gs.map AS)),some (.int i),some (AS v)]) (λ_=>⟨g5,ok5,by rw[e5];rfl⟩) (λ_=>⟨(m,b),⟨hm,b0,b1⟩,rfl⟩) λv hv=>?_;have hz:gs.length<bE:=AW (by lia);walk_at "go";refine ⟨gs++[v],by rw[a7];rfl,by rw[av,hl];rfl,λg hg=>?_⟩;rcases cK.mp hg with z | z
     . exact hgs g z
     . rw[ay.mp z];exact hv
   . obtain ⟨gs,rfl,hl,hgs⟩:=hI;rw[fj] at hl;ext;exact ⟨gs,rfl,by lia,hgs⟩
theorem ab7:fI (AS g) (AS h)=decide (g=h):=by
 refine qc.mpr ((mO _ _ oh oh).trans ⟨λz=>decide_eq_true ?_,λz=>by rw[of_decide_eq_true z]⟩);have z:=z;injection z with z;injection z with z1 z2;injection z2 with z2 _;injection z1 with z1;injection z2 with z2;exact Prod.ext (zC.inj z1) z2
theorem Hk:eI (AS g)=true:=jw oh Bg
theorem adk(gs:A9):inB (AS h) (gs.map AS)=decide (h∈gs):=by
 unfold inB
 induction gs with
 | nil=>rfl
 | cons g gs ih=>
  rw[bo,kC,ih,ab7]
  by_cases e:g=h
  . subst e;rw[decide_eq_true rfl,decide_eq_true b9];rfl
  . rw[decide_eq_false e,xi];exact decide_eq_decide.mpr ⟨cf _,λz=>(cp.mp z).resolve_left λq=>e q.symm⟩
theorem adI(gs:A9):(gs.map AS).all eI=true:=by
 rw[fb];intro d hd;obtain ⟨x,_,rfl⟩:=cc.mp hd;exact Hk
theorem WT:lV (AS h) (.list (gs.map AS))= .ok (.bool (!decide (h∈gs))):=by
 show gd (eI (AS h)=true/\(gs.map AS).all eI=true) (AI.ok (ab.bool (!inB (AS h) (gs.map AS))))=_;rw[bD ⟨Hk,adI gs⟩,adk]
theorem kO(gs:A9):plain (.list (gs.map AS))=true:=by
 rw[Zq.plain];exact GJ λd hd=>by obtain ⟨g,_,rfl⟩:=cc.mp hd;exact oh
theorem XR(h:∀d∈ds,d.depth<=j)(hk:j<=8):(ab.list ds).depth<=64:=by
 have h1:=xP h;have h2:(ab.tuple ds).depth=lP ds+1:=by rw[ab.depth]
 have h3:(ab.list ds).depth=lP ds+1:=by rw[ab.depth]
 lia
theorem oF(gs:A9):(ab.list (gs.map AS)).depth<=64:=XR (λd hd=>by obtain ⟨g,_,rfl⟩:=cc.mp hd;exact R8) (by decide)
theorem abl:eY (dN hs)=(List.range hs.length).map λi=>ab.tuple [.int (i:Nat),.int (hs.getD i 0:Nat)]:=by
 unfold eY dN;rw[af];refine cn λi hi=>?_;have hi:=dn.mp hi;rw[ae,ae,br,ai hi];rfl
theorem l_out{n:Nat}(hn:n<=4)(hs:aV n ss)(hl:ss.length<=10000)(ho:o<n+ss.length):um [dC n ss o,.int (r:Nat)]= .ok (.int ((b8 n ss r).getD o 0)):=by
 unfold um dC;ext;rw[mW (n:=n) (λi=>.int (ak r i)) ?_ (AW (by lia)) λi _=>?_]
 rotate_left
 . ext;exact dD (by lia)
 . walk_at "go";rw[cE,abH]
 ext;rw[qZ,Ao];refine bL (λi=>[some (.tuple [.int n,.tuple (ss.map aF.d),.int o]),some (.int r),some (dL (b8 n (ss.take i) r)),none,none,none]) rfl (λi x hx=>?_) ?_
 . obtain ⟨s,h1,rfl⟩:=dh hx;have ok:=hs i s h1;have hi:=(aS.mp h1).1;have hv:(b8 n (ss.take i) r).length=n+i:=by rw[eX,c8];lia
   have m4:=ok.m4;have h01:=N6 (n:=n) (ss:=ss.take i) (r:=r);unfold aF.d;ext;rw[jt (xs:=List.range s.ws.length) (λi=>ab.tuple [.int i,.int (s.ws.getD i 0:Nat)]) (λj=>.int ((s.ws.map λk=>(b8 n (ss.take i) r).getD k 0).getD j 0*2^j)) ?_ (AW (by rw[c9,ok.len];lia)) λj hj=>?_]
   rotate_left
   . ext;rw[Bd,abl]
   . have hj:=dn.mp hj;have hk:=ok.lt s.ws[j] (fE hj);have hg:s.ws.getD j 0=s.ws[j]:=by rw[ae,ai hj];rfl
     have ge:=zL h01 s.ws[j];ext;rw[hg,vg (by lia)];ext;rw[bD (⟨by lia,by have:=ok.len;lia,by lia⟩),cE,ae (l:=s.ws.map _),br,ai hj];rfl
   ext;rw[qZ,yo];have e2:=QQ (s.ws.map λk=>(b8 n (ss.take i) r).getD k 0);rw[af] at e2;rw[e2];have g0:0<=bj (s.ws.map λk=>(b8 n (ss.take i) r).getD k 0):=jN λx hx=>by
    obtain ⟨k,_,rfl⟩:=cc.mp hx;rcases zL h01 k with z | z <;> lia
   unfold dL;ext;rw[bD g0];ext;rw[bD (AW (by lia)),ja];ext;rw[nR h1,iK];rw[stepV,a7];rfl
 . rw[af,eD];ext;rw[vg (by rw[eX];exact ho)];ext
theorem Y7(gs:A9):neD (.list (gs.map AS)) (.list (gs.map AS))= .ok (.bool false):=
 abo (jw (kO gs) (oF gs)) (jw (kO gs) (oF gs)) ((mO _ _ (kO gs) (kO gs)).mpr rfl)
theorem ZQ(hn:j<=4)(C:gQ gs j t W ss o)(hk:W<=600):jT [.list (gs.map AS),dG j t,dC j ss o]= .ok (.bool true):=by
 have hl:=C.len;have p16:2^j<=16:=dy (fx (by decide) hn) (by decide);unfold jT;ext;rw[K1,W0 hn C.ok (by lia) C.lt,show AQ (dC j ss o) (.int 0)= .ok (.int (j:Nat)) from rfl];ext;rw[show Ea (.bool true) (.bool true)= .ok (.bool false) from rfl];ext;rw[qK (xs:=ss) aF.d (λs=>!decide ((s.m,s.b)∈gs)) aF.d ?_ (AW (by lia)) (λs hs=>?_) λs _ _=>?_]
 rotate_left
 . ext;rfl
 . ext;rw[show AQ s.d (.int 0)= .ok (AS (s.m,s.b)) from rfl];ext;exact WT
 . ext
 rw[si.mpr λs hs=>by rw[decide_eq_true (C.gin s hs)];decide];ext;rw[show neD (.list []) (.list [])= .ok (.bool false) from Y7 []];ext;rw[show (1:Int)*2^((j:Nat):Int).toNat=((2^j:Nat):Int) by rw[oQ];exact p2 j,bD (⟨by lia,by lia,by lia⟩)];ext;rw[dD (by lia)];ext;refine bL (λ_=>[some (.list (gs.map AS)),some (dG j t),some (dC j ss o),none]) rfl (λr x hx=>?_) ?_
 . obtain ⟨hr,rfl⟩:=jQ hx;ext;rw[l_out hn C.ok (by lia) C.lt,C.val r hr];walk_at "go";rw[cE,ja,show t / 2^r % 2=ak t (r:Nat) from rfl,decide_eq_true rfl];rfl
 ext
theorem agv:minD [.int (j:Nat),.int (W:Nat)]= .ok (.int (min j W:Nat)):=by
 show AI.ok (ab.int (if ((W:Nat):Int)<(j:Nat) then ((W:Nat):Int) else (j:Nat)))=_
 by_cases h:W<j
 . rw[if_pos (by lia),Nat.min_eq_right (by lia)]
 . rw[if_neg (by lia),va (by lia)]
noncomputable def four:A9:=[(2,7),(2,1),(3,127),(4,1)]
theorem aa3:∀g∈four,(g.1<=4/\0<=g.2/\g.2<2^2^g.1)/\Ks5.all (λk=>!(brk g.2 k.2.1 k.2.2 g.1).isNone)=true:=by decide +kernel
theorem abf(hs:A9):eqD (.list (hs.map AS)) (.list [])= .ok (.bool hs.isEmpty):=by
 have e0:ab.list []= .list (([]:A9).map AS):=rfl;rw[e0]
 cases hs with
 | nil=>exact (uE (kO _) (kO _) (oF _) (oF _)).1.mpr rfl
 | cons h hs=>exact (uE (kO _) (kO _) (oF _) (oF _)).2.1.mpr λz=>by injection z with z;exact nomatch z
theorem nm5:∀k∈Ks5,p8 k.1 k.2.1 k.2.2:=λk h=>afb h
theorem aco(ns:B3)(h:ns.length<=63):∃gs:A9,nJ [dL ns]= .ok (.list (gs.map AS))/\gs.length<=6/\(∀g∈gs,GOk g)/\qz gs=true:=by
 suffices z:Gives (nJ [dL ns]) λd=>∃gs:A9,d= .list (gs.map AS)/\gs.length<=6/\(∀g∈gs,GOk g)/\qz gs=true by
  obtain ⟨d,e,gs,rfl,h⟩:=z;exact ⟨gs,e,h⟩
 obtain ⟨gs0,e0,l0,g0⟩:=afr ns h;obtain ⟨c,ec⟩:=Df ns h (k:=8) (by decide);have ec:cX [dL ns,.int 8]= .ok (.int c):=ec;obtain ⟨q,eq,hq⟩:=Ex c (m:=4) (by decide);have hq:=by show q<4;lia
 have f4:=aa3 four[q] (fE hq);unfold nJ;ext;rw[e0];ext;rw[show [ab.str "low",.str "high",.str "turn",.str "rise",.str "even"]=Ks5.map λk=>ab.str k.1 from rfl];refine wB (λi Γ=>∃gs:A9,Γ=[some (dL ns),some (.list (gs.map AS)),none]/\gs.length<=6/\(∀g∈gs,GOk g)/\∀k∈Ks5.take i,jV gs k.2.1 k.2.2=false) ⟨gs0,rfl,l0,g0,λk hk=>nomatch hk⟩ (λi x Γ hx hI=>?_) λΓ hI=>?_
 . obtain ⟨gs,rfl,hl,hg,hk⟩:=hI;obtain ⟨k,ek,rfl⟩:=dh hx;have hkm:=eL ek;ext;rw[qK (xs:=gs) AS (λg=>!(brk g.2 k.2.1 k.2.2 g.1).isNone) AS ?_ (AW (by lia)) (λg hgg=>?_) λg _ _=>?_]
   rotate_left
   . ext
   . ext;rw[O7 (nm5 k hkm) (hg g hgg).m4];rfl
   . ext
   rw[AI.aQ,abf];ext;have ef:(gs.filter λg=>!(brk g.2 k.2.1 k.2.2 g.1).isNone).isEmpty=jV gs k.2.1 k.2.2:=by
    rw[qc,List.isEmpty_iff,si];rw[jV,fb];exact ⟨λz g hgg=>by have:=z g hgg;simpa using this,λz g hgg=>by rw[z g hgg];decide⟩
   rw[ef];have tk:=take_snoc ek
   cases hb:jV gs k.2.1 k.2.2 with
   | true=>
    ext;rw[show slD (.list (gs.map AS)) none (some 5)= .ok (.list ((gs.map AS).take 5)) from RN];ext;rw[ec];ext;rw[eq,show AQ (.list [.tuple [.int 2,.int 7],.tuple [.int 2,.int 1],.tuple [.int 3,.int 127],.tuple [.int 4,.int 1]]) (.int (q:Nat))= .ok (AS four[q]) from jc (ds:=four.map AS) (by rw[br,ai hq];rfl)];ext;rw[qN (by rw[c8,af];show _+1<=_;lia)];ext;refine ⟨gs.take 5++[four[q]],by rw[a7,zD];rfl,by rw[av,c8,cx];lia,λg hgg=>?_,λk' hk'=>?_⟩
    . rcases cK.mp hgg with z | z
      . exact hg g (lj z)
      . rw[ay.mp z];exact ⟨f4.1.1,f4.1.2.1,f4.1.2.2⟩
    . have hk5:=lj hk';refine ny.mpr λz=>?_;have z1:=fb.mp z four[q] (cS _ (ay.mpr rfl));have z2:=fb.mp f4.2 k' hk5;rw[z1] at z2;cases z2
   | false=>
    ext;refine ⟨gs,rfl,hl,hg,λk' hk'=>?_⟩;rw[tk] at hk';rcases cK.mp hk' with z | z
    . exact hk k' z
    . rw[ay.mp z];exact hb
 . obtain ⟨gs,rfl,hl,hg,hk⟩:=hI;rw[af] at hk;ext;refine ⟨gs,rfl,hl,hg,fb.mpr λk hkk=>?_⟩;rw[hk k (by rw[eD];exact hkk)];rfl
theorem acb(c:Int):∃(n:Nat) (t:Int),lE [.int c]= .ok (dG n t)/\1<=n/\n<=4/\0<=t/\t<2^2^n:=by
 obtain ⟨q,eq,hq⟩:=Ex c (m:=4) (by decide);obtain ⟨k,ek,hk⟩:=Ex (c / 4) (m:=5) (by decide);have hw:∃M:Nat,M=2^2^(1+q)/\4<=M/\AQ (.list [.int 0,.int 4,.int 16,.int 256,.int 65536]) (.int (1+(q:Nat)))= .ok (.int (M:Nat)):=by
  have:q=0\/q=1\/q=2\/q=3:=by lia
  rcases this with rfl | rfl | rfl | rfl
  . exact ⟨4,by decide,by decide,rfl⟩
  . exact ⟨16,by decide,by decide,rfl⟩
  . exact ⟨256,by decide,by decide,rfl⟩
  . exact ⟨65536,by decide,by decide,rfl⟩
 obtain ⟨M,eM,hM,ix⟩:=hw;have m0:(0:Int)<(M:Nat):=by lia
 have mM:(M:Int)≠0:=by lia
 unfold lE;walk_at "go";rw[eq,ix];walk_at "go";rw[ek];have fin:∃t:Int,AQ (.list [.int 0,.int ((M:Nat) - 1),.int 2,.int (c / 20*40503 % (M:Nat)),.int (c / 20*48271 % (M:Nat))]) (.int (k:Nat))= .ok (.int t)/\0<=t/\t<(M:Nat):=by
  have:k=0\/k=1\/k=2\/k=3\/k=4:=by lia
  rcases this with rfl | rfl | rfl | rfl | rfl
  . exact ⟨_,rfl,by lia,by lia⟩
  . exact ⟨_,rfl,by lia,by lia⟩
  . exact ⟨_,rfl,by lia,by lia⟩
  . exact ⟨_,rfl,kQ _ mM,kx _ m0⟩
  . exact ⟨_,rfl,kQ _ mM,kx _ m0⟩
 obtain ⟨t,et,t0,t1⟩:=fin;rw[et];ext;refine ⟨1+q,t,?_,by lia,by lia,t0,?_⟩
 . rw[dG,show ((1+q:Nat):Int)=1+q by lia]
 . rwa [eM] at t1
theorem main(ns:B3)(h:ns.length<=63):vN [.list (ns.map ab.int)]= .ok (.bool true):=by
 obtain ⟨gs,eg,hl,hg,hf⟩:=aco ns h;have hg':∀g∈gs,g.1<=4/\0<=g.2/\g.2<2^2^g.1:=λg z=>⟨(hg g z).m4,(hg g z).b0,(hg g z).b1⟩;have one:∀k:Nat,k<=10000->∃(n:Nat) (t:Int) (c:Int) (ss:List aF) (o:Nat),cX [dL ns,.int (k:Nat)]= .ok (.int c)/\lE [.int c]= .ok (dG n t)/\qY [.list (gs.map AS),dG n t]= .ok (dC n ss o)/\jT [.list (gs.map AS),dG n t,dC n ss o]= .ok (.bool true):=λk hk=>by
  obtain ⟨c,ec⟩:=Df ns h hk;obtain ⟨n,t,ew,n1,n4,t0,t1⟩:=acb c;obtain ⟨ss,o,eb,hC⟩:=aaG hg' (by lia) hf n4 n1 t0 t1;exact ⟨n,t,c,ss,o,ec,ew,eb,ZQ n4 hC (by decide)⟩
 show vN [dL ns]=_;unfold vN;ext;rw[eg];ext;rw[V8 λg z=>(hg' g z).1,hf];ext;rw[show Ea (.bool true) (.bool true)= .ok (.bool false) from rfl];ext;rw[show minD [.int (ns.length:Nat),.int 2]=_ from agv];ext;rw[show 2+(min ns.length 2:Nat)=((2+min ns.length 2:Nat):Int) by lia,dD (by lia)];ext;refine bL (λ_=>[some (dL ns),some (.list (gs.map AS)),some (.list (gs.map AS)),none,none]) rfl (λi x hx=>?_) ?_
 . obtain ⟨hi,rfl⟩:=jQ hx;obtain ⟨n,t,c,ss,o,q1,q2,q3,q4⟩:=one (10+i) (by lia);ext;rw[show 10+i=((10+i:Nat):Int) by lia,q1];ext;rw[q2];ext;rw[q3];ext;rw[q4];ext;rw[Y7];ext
 obtain ⟨n,t,c,ss,o,q1,q2,q3,q4⟩:=one 10 (by decide);have q1:cX [dL ns,.int 10]= .ok (.int c):=q1;ext;rw[q1];ext;rw[q2];ext;rw[q3];ext;rw[q4];ext
end
noncomputable def top(i:Nat):Stmt:=PySem.Challenge.pw_gatekin_k44_every_wish_built.main.body.getD i (.Pass ⟨0,0,0,0⟩)
noncomputable abbrev dE(x:Str)(n:Nat):Str×Nat:=(x,n)
noncomputable def defs:List (Str×Nat):=[dE "is_whole" 6,dE "is_below" 7,dE "is_tuple" 8,dE "row_count" 9,dE "table_limit" 10,dE "full_table" 11,dE "is_gate" 12,dE "bit" 13,dE "number_of" 14,dE "input_table" 15,dE "input_tables" 16,dE "put_all" 17,dE "put" 18,dE "with_set" 19,dE "is_step" 22,dE "is_circuit" 23,dE "renamed" 25,dE "add_circuit" 26,dE "replaced" 27,dE "without_doubles" 28,dE "used_wires" 29,dE "without_unused" 30,dE "shared" 31,dE "marked" 35,dE "put_rows" 36,dE "power" 37,dE "list_count" 38,dE "lists_of" 39,dE "broken" 40,dE "fresh_lists" 41,dE "refuse_too_many" 42,dE "kind" 46,dE "first_breach" 47,dE "kinds" 48,dE "add_tree" 50,dE "tree_circuit" 51,dE "offer" 53,dE "first_ways" 54,dE "ways_from" 55,dE "way_circuit" 57,dE "makes_all" 62,dE "opposite" 63,dE "side" 64,dE "plain_tree" 65,dE "wish_tree" 66,dE "tables_at_hand" 67,dE "first_giving" 68,dE "nand_circuit" 69,dE "build" 70,dE "_law_cell_at" 72,dE "_law_gate" 73,dE "_law_keeps" 74,dE "_law_set" 75,dE "_law_out" 76,dE "_law_good" 77,dE "_law_wish" 78,dE "_law_right" 79]
noncomputable def Yz:B6:=["all", "bool", "enumerate", "int", "isinstance", "len", "list", "min", "range", "reversed", "sum", "tuple", "zip"]
inductive Bq (K:aw):List (Str×Nat)->Prop
 | nil:Bq K []
 | cons {x:Str}{i:Nat}{l:List (Str×Nat)} (a:Fnd K x (top i)) (t:Bq K l):Bq K ((x,i)::l)
variable {K:aw}
theorem Bq.get{l:List (Str×Nat)}(h:Bq K l)(m:(nm,i)∈l):Fnd K nm (top i):=by
 induction h with
 | nil=>cases m
 | cons a t ih=>
  cases m with
  | head=>exact a
  | tail _ m=>exact ih m
inductive Bk (K:aw):B6->Prop
 | nil:Bk K []
 | cons {x:Str}{l:B6} (a:iL K ff x=some none) (t:Bk K l):Bk K (x::l)
theorem Bk.get{l:B6}(h:Bk K l)(m:nm∈l):iL K ff nm=some none:=by
 induction h with
 | nil=>cases m
 | cons a t ih=>
  cases m with
  | head=>exact a
  | tail _ m=>exact ih m
structure Ctx (K:aw) (mg:Str->B7) where
 h:Heap
 X:K.In h
 G:h.Ns ff mg
 F:Bq K defs
 N:Bk K Yz
 W:At K mg "ways" (top 56) ["gates", "inputs"]
 CZ:a8
 aeC:mg "AND"= some CZ
 DK:lL K 9 zz CZ=true
 vD:a8
 Ph:mg "KINDS"= some vD
 rH:lL K 9 pM vD=true
 pW:a8
 zm:mg "MOST_CLOSED_ROWS"= some pW
 xX:AK (.int 128) pW
 xr:a8
 xm:mg "MOST_INPUTS"= some xr
 xq:AK (.int 4) xr
 xG:a8
 yP:mg "MOST_LISTS"= some xG
 xY:AK (.int 20000) xG
 xM:a8
 JL:mg "MOST_STEPS"= some xM
 JC:AK (.int 600) xM
 yu:a8
 zc:mg "NAND"= some yu
 nA:lL K 9 dU yu=true
 Dw:a8
 PL:mg "NOT"= some Dw
 vX:lL K 9 gB Dw=true
 An:Addr
 Mw:mg "RELATIONS"= some (.ref An)
 lZ:Jb K An qe=true
 T:Addr
 hT:TabAt K mg T
variable {mg:Str->B7}
theorem Ctx.n(C:Ctx K mg)(m:nm∈Yz:=by decide +kernel):mg nm=none:=PySem.W.mg_none_of C.X C.G (C.N.get m)
theorem Ctx.f{n:Nat}{ps:B6}(C:Ctx K mg)(m:(nm,n)∈defs:=by decide +kernel)
 (b:∀(kV doc pm:a8) (an:C4) (AH ct:a8) (us:B8),us.length=ps.length->kF (fe nm nm (cF (top n)) (bV (top n)) (aN (top n)) .none kV doc pm an AH ct) ⟨us,[]⟩=pure (ps.zip us):=by first | exact aex (λ_ _ _ _ _ _ _=>rfl) rfl | exact X4 (λ_ _ _ _ _ _ _ _=>rfl) rfl | exact adN (λ_ _ _ _ _ _ _ _ _=>rfl) rfl | exact aec (λ_ _ _ _ _ _ _ _ _ _=>rfl) rfl):At K mg nm (top n) ps:=(C.F.get m).at C.X C.G b
theorem ab8:fm "all"= some (.builtin "all"):=by decide +kernel
theorem aaU:fm "bool"= some (.type "bool"):=by decide +kernel
theorem aef:fm "int"= some (.type "int"):=by decide +kernel
theorem eG:fm "len"= some (.builtin "len"):=by decide +kernel
theorem q9:fm "list"= some (.type "list"):=by decide +kernel
theorem ad9:fm "min"= some (.builtin "min"):=by decide +kernel
theorem KY:fm "range"= some (.type "range"):=by decide +kernel
theorem Ji:fm "sum"= some (.builtin "sum"):=by decide +kernel
theorem fB:fm "tuple"= some (.type "tuple"):=by decide +kernel
section
variable {P:gc}{w:kT}   {base:Heap}
theorem uZ(C:Ctx K mg):Def P w K mg base 1 "is_whole" ["thing"] (spF K [.AN] .f fZ):=
 bQ (top 6) ["thing"] [.AN] C.f λnd hr=>
 (aC (bu (ym (Ce abp rfl C.n (aq 0) (Ii rfl C.n aef)) (DR (acx (Ce Vt rfl C.n (aq 0) (Ii rfl C.n aaU)))))))
theorem lU(C:Ctx K mg):Def P w K mg base 2 "is_below" ["thing", "bound"] (spF K [.AN,.AN] .f iJ):=
 bQ (top 7) ["thing", "bound"] [.AN,.AN] C.f λnd hr=>
 (aC (bu (ym (bJ (uZ C) hr (aO 0 aB)) (DR (Wz afe Ib sI (aq 0) (aq 1))))))
theorem o6(C:Ctx K mg):Def P w K mg base 1 "is_tuple" ["thing", "length"] (spF K [.AN,.AN] .f jz):=
 bQ (top 8) ["thing", "length"] [.AN,.AN] C.f λnd hr=>
 (aC (bu (ym (Ce GR rfl C.n (aq 0) (Ii rfl C.n fB)) (DR (xR (d9 hr.units) (sp (cj gk rfl C.n eG (aO 0 aB))) (aq 1) (yj _))))))
theorem sX(C:Ctx K mg):Def P w K mg base 1 "row_count" ["inputs"] (spF K [.AN] .f jP):=
 bQ (top 9) ["inputs", "count", "j"] [.AN,.AO,.AO] C.f λnd hr=>
 (aW (bH 1 nd gb)
  (aW (d8 [2] (gV rfl C.n (aq 0)) (cM 2 nd) (aC (bH 1 nd (aL iI sI (aq 1)))))
  (aC (bu (bh 1)))))
theorem vp(C:Ctx K mg):Def P w K mg base 1 "table_limit" ["inputs"] (spF K [.AN] .f jJ):=
 bQ (top 10) ["inputs", "limit", "j"] [.AN,.AO,.AO] C.f λnd hr=>
 (aW (bH 1 nd gb)
  (aW (d8 [2] (gV rfl C.n (aq 0)) (cM 2 nd) (aC (bH 1 nd (aL iI (aq 1) (aq 1)))))
  (aC (bu (bh 1)))))
theorem mD(C:Ctx K mg):Def P w K mg base 2 "full_table" ["inputs"] (spF K [.AN] .f il):=
 bQ (top 11) ["inputs"] [.AN] C.f λnd hr=>
 (aC (bu (aL iQ (sp (bJ (vp C) hr (aO 0 aB))) sI)))
theorem RG(C:Ctx K mg):Def P w K mg base 3 "is_gate" ["thing"] (spF K [.AN] .f ur):=
 bQ (top 12) ["thing"] [.AN] C.f λnd hr=>
 (aC (bu (ym (bJ (o6 C) hr (aO 0 (bz sI aB))) (ym (bJ (lU C) hr (bz (sp (sx 0)) (bz (sp (aL cz (sp (ou rfl C.xm C.xq (λ_=>Rp.int.mpr rfl))) sI)) aB))) (DR (bJ (lU C) hr (bz (sp (sx 0)) (bz (sp (bJ (vp C) hr (bz (sp (sx 0)) aB))) aB))))))))
theorem S8(C:Ctx K mg):Def P w K mg base 1 "bit" ["number", "place"] (spF K [.AN,.AN] .f CV):=
 bQ (top 13) ["number", "place"] [.AN,.AN] C.f λnd hr=>
 (aC (bu (aL pH (sp (aL vC (aq 0) (aq 1))) sI)))
theorem Lz(C:Ctx K mg):Def P w K mg base 1 "number_of" ["figures"] (spF K [.AN] .f pD):=
 bQ (top 14) ["figures", "number", "figure"] [.AN,.AO,.AO] C.f λnd hr=>
 (aW (bH 1 nd gb)
  (aW (d8 [2] (ac4 rfl C.n (ig 0)) (cM 2 nd) (aC (bH 1 nd (aL cz (sp (aL iI sI (aq 1))) (aq 2)))))
  (aC (bu (bh 1)))))
theorem Fp(C:Ctx K mg):Def P w K mg base 2 "input_table" ["inputs", "j"] (spF K [.AN,.AN] .f mq):=
 bQ (top 15) ["inputs", "j"] [.AN,.AN] C.f λnd hr=>
 (aC (bu (bJ (Lz C) hr (bz (sfp (dY ["row"] [1] rfl rfl rfl rfl (by decide) (j8 rfl C.n (sp (bJ (sX C) hr (aO 0 aB)))) (λ_ _ _ _ _=>(dq 0 (show gX (["row", "j"]:B6) by decide +kernel) rfl (i7 rfl))) (λ_ _ _ _ _=>dW) (λ_ _ _ _ _=>(bJ (S8 C) hr (aO 0 (aO 1 aB)))))) aB))))
theorem tZ(C:Ctx K mg):Def P w K mg base 3 "input_tables" ["inputs"] (spF K [.AN] .t jm):=
 bQ (top 16) ["inputs"] [.AN] C.f λnd hr=>
 (aC (rE (dY ["j"] [0] rfl rfl rfl rfl (by decide) (j8 rfl C.n (aq 0)) (λ_ _ _ _ _=>(dq 0 (show gX (["j", "inputs"]:B6) by decide +kernel) rfl (i7 rfl))) (λ_ _ _ _ _=>dW) (λ_ _ _ _ _=>(bJ (Fp C) hr (aO 1 (aO 0 aB)))))))
theorem Ec(C:Ctx K mg):Def P w K mg base 2 "put_all" ["gate", "numbers", "full"] (spF K [.AN,.AN,.AN] .f pR):=
 bQ (top 17) ["gate", "numbers", "full", "given", "number"] [.AN,.AN,.AN,.AO,.AO] C.f λnd hr=>
 (aW (bH 3 nd (sfe (dY ["place"] [2,0] rfl rfl rfl rfl (by decide) (j8 rfl C.n (sp (bJ (sX C) hr (bz (sp (sx 0)) aB)))) (λ_ _ _ _ _=>(dq 0 (show gX (["place", "full", "gate"]:B6) by decide +kernel) rfl (i7 rfl))) (λ_ _ _ _ _=>dW) (λ_ _ _ _ _=>(aL iI (aq 1) (sp (bJ (S8 C) hr (bz (sp (sx 2)) (aO 0 aB)))))))))
  (aW (d8 [4] (fC (ig 1)) (cM 4 nd) (aC (bH 3 nd (sfe (dY ["k"] [3,4] rfl rfl rfl rfl (by decide) (Ug rfl C.n sI (sp (cj gk rfl C.n eG (aO 3 aB))) sI) (λ_ _ _ _ _=>(dq 0 (show gX (["k", "given", "number"]:B6) by decide +kernel) rfl (i7 rfl))) (λ_ _ _ _ _=>dW) (λ_ _ _ _ _=>(aL YJ (sp (aL pH (sp (dJ (aq 1) (aq 0))) (sp (acV (aq 2))))) (sp (aL pH (sp (dJ (aq 1) (sp (aL cz (aq 0) sI)))) (aq 2))))))))))
  (aC (bu (sx 3)))))
theorem Ed(C:Ctx K mg):Def P w K mg base 3 "put" ["gate", "tables", "inputs"] (spF K [.AN,.AN,.AN] .f pA):=
 bQ (top 18) ["gate", "tables", "inputs"] [.AN,.AN,.AN] C.f λnd hr=>
 (aC (bu (bJ (Ec C) hr (aO 0 (aO 1 (bz (sp (bJ (mD C) hr (aO 2 aB))) aB))))))
theorem Am(C:Ctx K mg):Def P w K mg base 4 "with_set" ["gate", "j", "w"] (spF K [.AN,.AO,.AN] .f jy):=
 bQ (top 19) ["gate", "j", "w", "inputs", "tables"] [.AN,.AO,.AN,.AO,.own] C.f λnd hr=>
 (aW (bH 3 nd (aL iQ (sp (sx 0)) sI))
  (aW (eV 4 nd (sW (tZ C) hr (aO 3 aB)))
  (aW (acn 4 (bh 1) (QD (cN (d9 hr.units) (aq 2) sI) (bJ (mD C) hr (aO 3 aB)) gb))
  (aC (bu (bC (aD (bh 3) (aD (bJ (Ed C) hr (aO 0 (aO 4 (aO 3 aB)))) aJ))))))))
theorem Rj(C:Ctx K mg):Def P w K mg base 4 "is_step" ["thing", "bound"] (spF K [.AN,.AN] .f t6):=
 bQ (top 22) ["thing", "bound", "gate"] [.AN,.AN,.AO] C.f λnd hr=>
 (aW (bZ (mC (wR (kJ (kI (sp (bJ (o6 C) hr (aO 0 (bz sI aB)))))) (rN (kJ (kI (sp (bJ (RG C) hr (bz (sp (sx 0)) aB)))))))) (aC (bu gR)) bR)
  (aW (bH 2 nd (sx 0))
  (aW (bZ (kJ (kI (sp (bJ (o6 C) hr (bz (sp (sx 0)) (bz (sp (sx 2)) aB)))))) (aC (bu gR)) bR)
  (aC (bu (cj (acU rfl) rfl C.n ab8 (bz (sfp (dY ["wire"] [1] rfl rfl rfl rfl (by decide) (mj (sp (sx 0))) (λ_ _ _ _ _=>(dq 0 (show gX (["wire", "bound"]:B6) by decide +kernel) rfl (i7 rfl))) (λ_ _ _ _ _=>dW) (λ_ _ _ _ _=>(bJ (lU C) hr (aO 0 (aO 1 aB)))))) aB)))))))
theorem Hq(C:Ctx K mg):Def P w K mg base 5 "is_circuit" ["thing"] (spF K [.AN] .f m6):=
 bQ (top 23) ["thing", "inputs", "steps", "s", "step"] [.AN,.AO,.AO,.AO,.AO] C.f λnd hr=>
 (aW (bZ (mC (wR (kJ (kI (sp (bJ (o6 C) hr (aO 0 (bz sI aB)))))) (rN (kJ (kI (sp (bJ (lU C) hr (bz (sp (sx 0)) (bz (sp (aL cz (sp (ou rfl C.xm C.xq (λ_=>Rp.int.mpr rfl))) sI)) aB))))))))) (aC (bu gR)) bR)
  (aW (bH 1 nd (sx 0))
  (aW (bH 2 nd (sx 0))
  (aW (bZ (mC (wR (kJ (aen (Ce GR rfl C.n (aq 2) (Ii rfl C.n fB)))) (rN (cN zq (sp (cj gk rfl C.n eG (aO 2 aB))) (sp (ou rfl C.JL C.JC (λ_=>Rp.int.mpr rfl))))))) (aC (bu gR)) bR)
  (aW (d8 [3,4] (Fw rfl C.n (ig 2)) (pP rfl (pG (cM 3 nd) (pG (cM 4 nd) mX))) (aC (bZ (kJ (kI (sp (bJ (Rj C) hr (aO 4 (bz (sp (aL cz (aq 1) (aq 3))) aB)))))) (aC (bu gR)) bR)))
  (aC (bu (bJ (lU C) hr (bz (sp (sx 0)) (bz (sp (aL cz (aq 1) (sp (cj gk rfl C.n eG (aO 2 aB))))) aB))))))))))
theorem vP(C:Ctx K mg):Def P w K mg base 1 "renamed" ["step", "names"] (spF K [.AN,.AN] .f jx):=
 bQ (top 25) ["step", "names"] [.AN,.AN] C.f λnd hr=>
 (aC (bu (bC (aD (sx 0) (aD (fG gG rfl C.n fB (bz (sfp (dY ["wire"] [1] rfl rfl rfl rfl (by decide) (mj (sp (sx 0))) (λ_ _ _ _ _=>(dq 0 (show gX (["wire", "names"]:B6) by decide +kernel) rfl (i7 rfl))) (λ_ _ _ _ _=>dW) (λ_ _ _ _ _=>(pO hr.cY (aq 1) (aq 0) (λ_ _=>rfl))))) aB)) aJ)))))
theorem n6:cP ["steps", "inputs", "circuit", "starts", "names", "step"] ["steps", "inputs", "circuit", "starts"] (aN (top 26)):=sck
theorem gW(C:Ctx K mg):Def P w K mg base 2 "add_circuit" ["steps", "inputs", "circuit", "starts"] (spM K [.AN,.AN,.AN,.AN] 0 du):=
 Ep (N:=["steps", "inputs", "circuit", "starts", "names", "step"]) (fs:=[.AN,.AN,.AN,.AN]) (O:=λp=>[.fix p,.AN,.AN,.AN,.own,.AO]) (O':=λ_=>[]) (Ol:=[]) (j:=0) (C.f (n:=26)) n6 rfl (by decide) (λ_=>rfl) (λp=>of_decide_eq_true rfl) λp f AH A AX s H E hr=>
 (bN (eV 4 n6.nd (ud El rfl C.n q9 (aO 3 aB)))
  (bN (kW gx rfl [5] (fC (sq (sx 2))) (cM 5 n6.nd) (bN (jK 0 (bJ (vP C) hr (aO 5 (aO 4 aB))))
  (aC (jK 4 (aL iQ (sp (aL cz (aq 1) (sp (cj gk rfl C.n eG (aO 0 aB))))) sI)))) CJ)
  (aC (FT 0 rfl (dJ (aq 4) (sp (sx 2)))))))
theorem lR:cP ["circuit", "kit", "inputs", "names", "steps", "step"] ["circuit", "kit"] (aN (top 27)):=sck
theorem LR(C:Ctx K mg):Def P w K mg base 3 "replaced" ["circuit", "kit"] (spT K .AN .f ni):=
 Vc (N:=["circuit", "kit", "inputs", "names", "steps", "step"]) (f0:=.AN) (o0:=.AN) (O:=[.AO,.own,.own,.AO]) (O':=[]) (Ol:=[]) (rm:=.f) (C.f (n:=27)) lR rfl (by decide) (.inr ⟨rfl,rfl⟩) λf AH A AX s H E hr=>
 (bN (bH 2 lR.nd (sx 0))
  (bN (eV 3 lR.nd (G6 rfl rfl C.n q9 rfl C.n KY (aq 2)))
  (bN (eV 4 lR.nd (bF aJ))
  (bN (kW gx rfl [5] (fC (sq (sx 0))) (cM 5 lR.nd) (aC (Pa 3 4 (by decide) (iG 4 (gW C) (hr.mono (by decide)) rfl (jM 4 (d7 (ig 2) (d7 (sq (adK 1 hr.cY (sx 5) (λ_ _=>rfl))) (d7 (sq (sfe (dY ["wire"] [3] rfl rfl rfl rfl (by decide) (mj (sp (sx 5))) (λ_ _ _ _ _=>(dq 0 (show gX (["wire", "names"]:B6) by decide +kernel) rfl (i7 rfl))) (λ_ _ _ _ _=>dW) (λ_ _ _ _ _=>(dJ (aq 1) (aq 0)))))) jL)))) rfl rfl rfl (by decide)))) (by decide))
  (aC (bu (bC (aD (bh 2) (aD (fG gG rfl C.n fB (aO 4 aB)) (aD (dJ (aq 3) (sp (sx 0))) aJ))))))))))
theorem yV(C:Ctx K mg):Def P w K mg base 2 "without_doubles" ["circuit"] (spF K [.AN] .f jf):=
 bQ (top 28) ["circuit", "inputs", "names", "steps", "stayed", "old", "step"] [.AN,.AO,.own,.own,.own,.AO,.AO] C.f λnd hr=>
 (bN (bH 1 nd (sx 0))
  (bN (eV 2 nd (G6 rfl rfl C.n q9 rfl C.n KY (aq 1)))
  (bN (eV 3 nd (bF aJ))
  (bN (aa5 4 (O1:=[.AN,.AO,.own,.own,.own,.AO,.AO]) (eV 4 nd rA))
  (bN (kW gx rfl [5,6] (fC (sq (sx 0))) (cM 5 nd) (bN (bH 6 nd (bJ (vP C) hr (aO 5 (aO 2 aB))))
  (bN (bZ (UJ 4 hr.cY (bh 6)) (bN (Z5 4 hr.cY (bh 6) (aL cz (aq 1) (sp (cj gk rfl C.n eG (aO 3 aB)))))
  (aC (jK 3 (bh 6)))) bR)
  (aC (jK 2 (aey 4 hr.cY (bh 6) (λ_ _=>rfl)))))) (by decide))
  (aC (bu (bC (aD (bh 1) (aD (fG gG rfl C.n fB (aO 3 aB)) (aD (dJ (aq 2) (sp (sx 0))) aJ)))))))))))
theorem HN(C:Ctx K mg):Def P w K mg base 1 "used_wires" ["circuit"] (spF K [.AN] .t nq):=
 bQ (top 29) ["circuit", "inputs", "steps", "used", "s", "wire"] [.AN,.AO,.AO,.own,.AO,.AO] C.f λnd hr=>
 (aW (bH 1 nd (sx 0))
  (aW (bH 2 nd (sx 0))
  (aW (eV 3 nd (abF (sx 0) gR))
  (aW (d8 [4,5] (Tw rfl C.n (sp (aL iQ (sp (cj gk rfl C.n eG (aO 2 aB))) sI)) (sp (Um sI)) (sp (Um sI))) (cM 4 nd) (aC (bZ (tH (SJ hr.cY) (sp (aL cz (aq 1) (aq 4))) (aq 3) rfl) (aC (d8 [5] (fC (sq (dJ (sp (dJ (aq 2) (aq 4))) sI))) (cM 5 nd) (aC (rF 3 hr.cY (bh 5) gR)))) bR)))
  (aC (oW 3))))))
theorem qp(C:Ctx K mg):Def P w K mg base 2 "without_unused" ["circuit"] (spF K [.AN] .f fW):=
 bQ (top 30) ["circuit", "inputs", "used", "names", "j", "steps", "s", "step"] [.AN,.AO,.AO,.own,.AO,.own,.AO,.AO] C.f λnd hr=>
 (aW (bH 1 nd (sx 0))
  (aW (bH 2 nd (sfe (sW (HN C) hr (aO 0 aB))))
  (aW (eV 3 nd rA)
  (aW (d8 [4] (gV rfl C.n (aq 1)) (cM 4 nd) (aC (rF 3 hr.cY (bh 4) (bh 4))))
  (aW (eV 5 nd (bF aJ))
  (aW (d8 [6,7] (Fw rfl C.n (sq (sx 0))) (pP rfl (pG (cM 6 nd) (pG (cM 7 nd) mX))) (aC (bZ (tH (SJ hr.cY) (sp (aL cz (aq 1) (aq 6))) (aq 2) rfl) (aW (jK 5 (bJ (vP C) hr (aO 7 (aO 3 aB))))
  (aC (rF 3 hr.cY (aL cz (aq 1) (aq 6)) (aL iQ (sp (aL cz (aq 1) (sp (cj gk rfl C.n eG (aO 5 aB))))) sI)))) bR)))
  (aC (bu (bC (aD (bh 1) (aD (fG gG rfl C.n fB (aO 5 aB)) (aD (pO hr.cY (aq 3) (sp (sx 0)) (λ_ _=>rfl)) aJ))))))))))))
theorem Hb(C:Ctx K mg):Def P w K mg base 3 "shared" ["circuit"] (spF K [.AN] .f oV):=
 bQ (top 31) ["circuit"] [.AN] C.f λnd hr=>
 (aC (bu (bJ (qp C) hr (bz (sp (bJ (yV C) hr (aO 0 aB))) aB))))
theorem Ue(C:Ctx K mg):Def P w K mg base 1 "marked" ["rows"] (spF K [.AN] .t v5):=
 bQ (top 35) ["rows", "marks", "row"] [.AN,.own,.AO] C.f λnd hr=>
 (aW (eV 1 nd rA)
  (aW (d8 [2] (fC (ig 0)) (cM 2 nd) (aC (rF 1 hr.cY (bh 2) gR)))
  (aC (oW 1))))
theorem Nf(C:Ctx K mg):Def P w K mg base 3 "put_rows" ["gate", "rows", "width"] (spF K [.AN,.AN,.AN] .f qP):=
 bQ (top 36) ["gate", "rows", "width"] [.AN,.AN,.AN] C.f λnd hr=>
 (aC (bu (bJ (Ec C) hr (aO 0 (aO 1 (bz (sp (aL iQ (sp (bJ (sX C) hr (aO 2 aB))) sI)) aB))))))
theorem Ye(C:Ctx K mg):Def P w K mg base 1 "power" ["base", "exponent"] (spF K [.AN,.AN] .f zO):=
 bQ (top 37) ["base", "exponent", "product", "j"] [.AN,.AN,.AO,.AO] C.f λnd hr=>
 (aW (bH 2 nd gb)
  (aW (d8 [3] (gV rfl C.n (aq 1)) (cM 3 nd) (aC (bH 2 nd (aL iI (aq 0) (aq 2)))))
  (aC (bu (bh 2)))))
theorem xj(C:Ctx K mg):Def P w K mg base 2 "list_count" ["count", "gates"] (spF K [.AN,.AN] .f jn):=
 bQ (top 38) ["count", "gates"] [.AN,.AN] C.f λnd hr=>
 (aC (bu (cj (K7 rfl) rfl C.n Ji (bz (sfp (dY ["gate"] [0] rfl rfl rfl rfl (by decide) (mj (aq 1)) (λ_ _ _ _ _=>(dq 0 (show gX (["gate", "count"]:B6) by decide +kernel) rfl (i7 rfl))) (λ_ _ _ _ _=>dW) (λ_ _ _ _ _=>(bJ (Ye C) hr (aO 1 (bz (sp (sx 0)) aB)))))) aB))))
theorem uQ(C:Ctx K mg):Def P w K mg base 1 "lists_of" ["choices"] (spF K [.AN] .f iM):=
 bQ (top 39) ["choices", "lists", "rows", "longer", "chosen", "row"] [.AN,.AO,.AO,.own,.AO,.AO] C.f λnd hr=>
 (bN (bH 1 nd (sfe (bF (aD (sfe (bF aJ)) aJ))))
  (bN (kW gx rfl [2,3,4,5] (fC (ig 0)) (cM 2 nd) (bN (eV 3 nd (bF aJ))
  (bN (kW gx rfl [4,5] (fC (ig 1)) (cM 4 nd) (aC (kW gx rfl [5] (fC (ig 2)) (cM 5 nd) (aC (jK 3 (aL cz (aq 4) (sfp (bF (aD (bh 5) aJ)))))) (by decide))) (by decide))
  (aC (S7 3 (O2:=[.AN,.AO,.AO,.AO,.AO,.AO]) (bH 1 nd (bh 3)))))) (by decide))
  (aC (bu (bh 1)))))
theorem Uh(C:Ctx K mg):Def P w K mg base 4 "broken" ["gate", "relation"] (spF K [.AO,.AN] .f sE):=
 bQ (top 40) ["gate", "relation", "width", "rows", "marks", "chosen"] [.AO,.AN,.AO,.AO,.AO,.AO] C.f λnd hr=>
 (aW (bH 2 nd (sx 1))
  (aW (bH 3 nd (sx 1))
  (aW (bZ (cN zq (sp (bJ (xj C) hr (bz (sp (cj gk rfl C.n eG (aO 3 aB))) (bz (sfp (bF (aD (bh 0) aJ))) aB)))) (sp (ou rfl C.yP C.xY (λ_=>Rp.int.mpr rfl)))) (aC LK) bR)
  (aW (bH 4 nd (sfe (sW (Ue C) hr (aO 3 aB))))
  (aW (d8 [5] (fC (sq (bJ (uQ C) hr (bz (sfp (Dn (bF (aD (bh 3) aJ)) (sp (sx 0)))) aB)))) (cM 5 nd) (aC (bZ (tH (pY hr.cY) (sp (bJ (Nf C) hr (aO 0 (aO 5 (aO 2 aB))))) (aq 4) rfl) (aC (bu (bh 5))) bR)))
  (aC (bu lO)))))))
theorem Er(C:Ctx K mg):Def P w K mg base 2 "fresh_lists" ["old", "fresh", "length"] (spF K [.AO,.AO,.AN] .t mz):=
 bQ (top 41) ["old", "fresh", "length", "lists", "place"] [.AO,.AO,.AN,.own,.AO] C.f λnd hr=>
 (aW (eV 3 nd (bF aJ))
  (aW (d8 [4] (gV rfl C.n (aq 2)) (cM 4 nd) (aC (aaK 3 (bJ (uQ C) hr (bz (sp (aL cz (sp (aL cz (sfp (Dn (bF (aD (bh 0) aJ)) (aq 4))) (sfp (bF (aD (bh 1) aJ))))) (sfp (Dn (bF (aD (aL cz (aq 0) (aq 1)) aJ)) (sp (aL iQ (sp (aL iQ (aq 2) (aq 4))) sI)))))) aB)))))
  (aC (oW 3))))
theorem yf:cP ["count", "gates"] ["count", "gates"] (aN (top 42)):=sck
theorem xO(C:Ctx K mg):Def P w K mg base 3 "refuse_too_many" ["count", "gates"] (spF K [.AN,.AN] .f fD):=
 abi (N:=["count", "gates"]) (fs:=[.AN,.AN]) (O:=[.AN,.AN]) (O':=[.AN,.AN]) (Ol:=[]) (rm:=.f) (C.f (n:=42)) yf rfl (by decide) (by decide) (hrm:=rfl) (hbody:=λf AH A AX s H E hr=>
 (aC (bZ (mC (wR (cN zq (aq 0) (sp (ou rfl C.zm C.xX (λ_=>Rp.int.mpr rfl)))) (rN (cN zq (sp (bJ (xj C) hr (aO 0 (aO 1 aB)))) (sp (ou rfl C.yP C.xY (λ_=>Rp.int.mpr rfl))))))) (aC LK) bR)))
theorem aaH(C:Ctx K mg):Def P w K mg base 1 "kind" ["name"] (spF K [.AN] .f JF):=
 bQ (top 46) ["name"] [.AN] C.f λnd hr=>
 (aC (bu (acd rfl C.Mw C.lZ (aq 0) (λ_ _=>rfl))))
theorem BV(C:Ctx K mg):Def P w K mg base 5 "first_breach" ["gates", "relation"] (spF K [.AN,.AN] .f jq):=
 bQ (top 47) ["gates", "relation", "number", "gate", "rows"] [.AN,.AN,.AO,.AO,.AO] C.f λnd hr=>
 (aW (d8 [2,3,4] (Fw rfl C.n (ig 0)) (pP rfl (pG (cM 2 nd) (pG (cM 3 nd) mX))) (aW (bH 4 nd (bJ (Uh C) hr (fc (bh 3) (aO 1 aB))))
  (aC (bZ (cN NT (aq 4) (sp lO)) (aC (bu (bC (aD (bh 2) (aD (bh 4) aJ))))) bR))))
  (aC (bu lO)))
theorem Lh(C:Ctx K mg):Def P w K mg base 6 "kinds" ["gates"] (spF K [.AN] .t vG):=
 bQ (top 48) ["gates"] [.AN] C.f λnd hr=>
 (aC (rE (dY ["name"] [0] rfl rfl rfl rfl (by decide) (mj (sp (kY rfl C.Ph C.rH))) (λ_ _ _ _ _=>(dq 0 (show gX (["name", "gates"]:B6) by decide +kernel) rfl (i7 rfl))) (λ_ _ _ _ _=>dW) (λ_ _ _ _ _=>(bJ (BV C) hr (aO 1 (bz (sp (bJ (aaH C) hr (aO 0 aB))) aB)))))))
theorem o8:cP ["steps", "inputs", "tree", "ends", "part"] ["steps", "inputs", "tree"] (aN (top 50)):=sck
theorem Ar(C:Ctx K mg):∀fu:Nat,Def P w K mg base (2+fu) "add_tree" ["steps", "inputs", "tree"] (spM K [.AN,.AN,.AO] 0 (jB fu))
 | 0=>Wg (k:=1) (C.f (n:=50)) o8
 | fu+1=>have QJ:=Ar C fu
 Ep (k:=2+fu) (N:=["steps", "inputs", "tree", "ends", "part"]) (fs:=[.AN,.AN,.AO]) (O:=λp=>[.fix p,.AN,.AO,.own,.AO]) (O':=λ_=>[]) (Ol:=[]) (j:=0) (C.f (n:=50)) o8 rfl (by decide) (λ_=>rfl) (λp=>of_decide_eq_true rfl) λp f AH A AX s H E hr=>
 (bN (bZ (kI (sp (jO (uZ C) (hr.mono (by lia)) rfl (aO 2 aB)))) (aC (FT 0 rfl (bh 2))) bR)
  (bN (eV 3 o8.nd (bF aJ))
  (bN (kW gx rfl [4] (fC (sq (sx 2))) (cM 4 o8.nd) (aC (Pa 3 0 (by decide) (iG 0 QJ (hr.mono (by lia)) rfl (jM 0 (d7 (ig 1) (pQ (bh 4) jL))) rfl rfl rfl (by decide)))) CJ)
  (bN (jK 0 (bC (aD (sx 2) (aD (fG gG rfl C.n fB (aO 3 aB)) aJ))))
  (aC (FT 0 rfl (aL iQ (sp (aL cz (aq 1) (sp (cj gk rfl C.n eG (aO 0 aB))))) sI)))))))
theorem DW(C:Ctx K mg):Def P w K mg base 103 "tree_circuit" ["tree", "inputs"] (spF K [.AO,.AO] .f jr):=
 bQ (top 51) ["tree", "inputs", "steps", "out"] [.AO,.AO,.own,.AO] C.f λnd hr=>
 (aW (eV 2 nd (bF aJ))
  (aW (Fd 3 2 nd rfl (i7 rfl) (iG 2 (Ar C 100) (hr.mono (by decide)) rfl (jM 2 (d7 (ig 1) (pQ (bh 0) jL))) rfl rfl rfl (by decide)) (of_decide_eq_true rfl))
  (aC (bu (bC (aD (bh 1) (aD (fG gG rfl C.n fB (aO 2 aB)) (aD (bh 3) aJ))))))))
theorem Wl:cP ["waiting", "table", "way"] ["waiting", "table", "way"] (aN (top 53)):=sck
theorem Bl(C:Ctx K mg):Def P w K mg base 1 "offer" ["waiting", "table", "way"] (spM K [.AN,.AO,.AO] 0 mR):=
 WM (N:=["waiting", "table", "way"]) (fs:=[.AN,.AO,.AO]) (O:=λp=>[.fix p,.AO,.AO]) (O':=λp=>[.fix p,.AO,.AO]) (Ol:=[]) (j:=0) (C.f (n:=53)) Wl rfl (by decide) (λ_=>rfl) (λp=>of_decide_eq_true rfl) (λ_=>rfl) λp f AH A AX s H E hr=>
 (aC (bZ (mC (wR (tH (pY hr.cY) (aq 1) (aq 0) rfl) (rN (cN Ib (sp (sx 2)) (sp (dJ (sp (pO hr.cY (aq 0) (aq 1) (λ_ _=>rfl))) sI)))))) (aC (rF 0 hr.cY (bh 1) (bh 2))) bR))
theorem HJ(C:Ctx K mg):Def P w K mg base 4 "first_ways" ["gates", "inputs"] (spF K [.AN,.AN] .t lr):=
 bQ (top 54) ["gates", "inputs", "waiting", "table", "gate"] [.AN,.AN,.own,.AO,.AO] C.f λnd hr=>
 (aW (eV 2 nd rA)
  (aW (d8 [3] (fC (sq (sfe (sW (tZ C) hr (aO 1 aB))))) (cM 3 nd) (aC (Kg 2 (iG 2 (Bl C) (hr.mono (by decide)) rfl (jM 2 (pQ (bh 3) (pQ (bC (bx (aD lO (aD (bC aJ) aJ)))) jL))) rfl rfl rfl (by decide)))))
  (aW (d8 [4] (fC (ig 0)) (cM 4 nd) (aC (bZ (cN (d9 hr.units) (sp (sx 4)) sI) (aC (Kg 2 (iG 2 (Bl C) (hr.mono (by decide)) rfl (jM 2 (pQ (bJ (Ed C) hr (aO 4 (bz (sfp (bF aJ)) (aO 1 aB)))) (pQ (bC (bx (aD (bh 4) (aD (bC aJ) aJ)))) jL))) rfl rfl rfl (by decide)))) bR)))
  (aC (oW 2)))))
theorem IK(C:Ctx K mg):Def P w K mg base 4 "ways_from" ["found", "table", "gate", "inputs"] (spF K [.AN,.AO,.AO,.AN] .t jR):=
 bQ (top 55) ["found", "table", "gate", "inputs", "old", "told", "chosen", "given", "cost"] [.AN,.AO,.AO,.AN,.AO,.own,.AO,.AO,.AO] C.f λnd hr=>
 (bN (Xq 0 4 ["known"] [1] rfl nd rfl (i7 rfl) rfl rfl rfl rfl (by decide) (aac 0) (λ_ _ _ _ _=>(dq 0 (show gX (["known", "table"]:B6) by decide +kernel) rfl (i7 rfl))) (λ_ _ _ _ _=>(wk (cN (zA hr.units) (aq 0) (aq 1)))) (λ_ _ _ _ _=>(bh 0)))
  (bN (eV 5 nd (bF aJ))
  (bN (S7 4 (O2:=[.AN,.AO,.AO,.AN,.AO,.own,.AO,.AO,.AO]) (kW gx rfl [6,7,8] (fC (sq (sfe (sW (Er C) hr (fc (bh 4) (fc (sfe (bF (aD (bh 1) aJ))) (bz (sp (sx 2)) aB))))))) (cM 6 nd) (bN (bH 7 nd (bJ (Ed C) hr (aO 2 (aO 6 (aO 3 aB)))))
  (aC (bZ (tH (pY hr.cY) (aq 7) (aq 0) rfl) (bN (bH 8 nd (aL cz sI (sp (cj (K7 rfl) rfl C.n Ji (bz (sfp (dY ["part"] [0] rfl rfl rfl rfl (by decide) (mj (aq 6)) (λ_ _ _ _ _=>(dq 0 (show gX (["part", "found"]:B6) by decide +kernel) rfl (i7 rfl))) (λ_ _ _ _ _=>dW) (λ_ _ _ _ _=>(dJ (sp (pO hr.cY (aq 1) (aq 0) (λ_ _=>rfl))) sI)))) aB)))))
  (aC (jK 5 (bC (aD (bh 7) (aD (bC (aD (bh 8) (aD (bh 2) (aD (fG gG rfl C.n fB (aO 6 aB)) aJ)))) aJ)))))) bR))) (by decide)))
  (aC (oW 5)))))
theorem oU:cP ["gates", "inputs", "found", "waiting", "table", "gate", "given", "way"] ["gates", "inputs"] (aN (top 56)):=sck
theorem abw(C:Ctx K mg):Def P w K mg base 5 "ways" ["gates", "inputs"] (spF K [.AN,.AN] .t pU):=
 Zt (N:=["gates", "inputs", "found", "waiting", "table", "gate", "given", "way"]) (fs:=[.AN,.AN]) (O:=[.AN,.AN,.own,.own,.AO,.AO,.AO,.AO]) (O':=[]) (Ol:=[]) (rm:=.t) C.W C.hT oU rfl (by decide) (by decide) λf cd A AX s H E hcd hr=>
 (aW (eV 2 oU.nd rA)
  (aW (eV 3 oU.nd (sW (HJ C) hr (aO 0 (aO 1 aB))))
  (aW (aeU 1000000 [4,5,6,7] (cN zq (sp (cj FQ rfl C.n eG (aO 3 aB))) sI) (aW (bH 4 oU.nd (ZM 3 rfl rfl rfl hr rfl hcd C.hT rfl rfl C.n rfl rfl rfl rfl rfl (λ_ _ _ _ _ _=>rfl)))
  (aW (RW 2 3 4 hr.cY (by decide) (by decide) (by decide))
  (aW (aeH (sp (bJ (xO C) hr (bz (sp (cj FQ rfl C.n eG (aO 2 aB))) (aO 0 aB)))))
  (aC (d8 [5,6,7] (fC (ig 0)) (cM 5 oU.nd) (aC (d8 [6,7] (fC (sq (sfe (sW (IK C) hr (aO 2 (fc (bh 4) (fc (bh 5) (aO 1 aB)))))))) (pP rfl (pG (cM 6 oU.nd) (pG (cM 7 oU.nd) mX))) (aC (Kg 3 (iG 3 (Bl C) (hr.mono (by decide)) rfl (jM 3 (pQ (bh 6) (pQ (bh 7) jL))) rfl rfl rfl (by decide))))))))))))
  (aC (oW 2)))))
theorem FZ(C:Ctx K mg):Def P w K mg base 3 "way_circuit" ["found", "table", "inputs"] (spF K [.AN,.AN,.AO] .f iH):=
 bQ (top 57) ["found", "table", "inputs", "wires", "steps", "known", "way"] [.AN,.AN,.AO,.own,.own,.AO,.AO] C.f λnd hr=>
 (aW (eV 3 nd rA)
  (aW (eV 4 nd (bF aJ))
  (aW (abt 0 rfl (by repeat first | exact agH | exact ac7 | exact acY | exact ad7 | apply ad3 | apply ae3) gx rfl [5,6] (Yr 0) (pP rfl (pG (cM 5 nd) (pG (cM 6 nd) mX))) (aW (rF 3 hr.cY (bh 5) (cj FQ rfl C.n eG (aO 3 aB)))
  (aC (bZ (cN NT (sp (sx 6)) (sp lO)) (aC (jK 4 (bC (aD (sx 6) (aD (fG gG rfl C.n fB (bz (sfp (dY ["part"] [3] rfl rfl rfl rfl (by decide) (mj (sp (sx 6))) (λ_ _ _ _ _=>(dq 0 (show gX (["part", "wires"]:B6) by decide +kernel) rfl (i7 rfl))) (λ_ _ _ _ _=>dW) (λ_ _ _ _ _=>(pO hr.cY (aq 1) (aq 0) (λ_ _=>rfl))))) aB)) aJ))))) bR))) (by decide))
  (aC (bu (bJ (qp C) hr (bz (sp (bC (aD (bh 2) (aD (fG gG rfl C.n fB (aO 4 aB)) (aD (pO hr.cY (aq 3) (aq 1) (λ_ _=>rfl)) aJ))))) aB)))))))
theorem Kq(C:Ctx K mg):Def P w K mg base 7 "makes_all" ["gates"] (spF K [.AN] .f pF):=
 bQ (top 62) ["gates"] [.AN] C.f λnd hr=>
 (aC (bu (xR (pY hr.cY) (sp lO) (sfp (sW (Lh C) hr (aO 0 aB))) rfl)))
theorem lN(C:Ctx K mg):Def P w K mg base 2 "opposite" ["tree"] (spF K [.AO] .f cI):=
 bQ (top 63) ["tree"] [.AO] C.f λnd hr=>
 (aW (bZ (mC (yG (kJ (kI (sp (bJ (uZ C) hr (aO 0 aB))))) (vI (cN (d9 hr.units) (sp (sx 0)) (sp (kY rfl C.PL C.vX)))))) (aC (bu (dJ (sp (sx 0)) sI))) bR)
  (aC (bu (bC (aD (kY rfl C.PL C.vX) (aD (bC (aD (bh 0) aJ)) aJ))))))
theorem abJ(C:Ctx K mg){pt:B4->AI ab}{kk:Nat}(hkk:5<=kk)(nT:Def P w K mg base kk "plain_tree" ["wish"] (spF K [.AN] .f pt)):Def P w K mg base (kk+1) "side" ["half", "there"] (spF K [.AN,.AO] .t (tD pt)):=
 bQ (k:=kk) (top 64) ["half", "there"] [.AN,.AO] C.f λnd hr=>
 (aW (bZ (cN (d9 hr.units) (sp (sx 0)) sI) (aC (rE (bF aJ))) bR)
  (aW (bZ (cN (d9 hr.units) (sp (sx 0)) (sp (jO (mD C) (hr.mono (by lia)) rfl (bz (sp (sx 0)) aB)))) (aC (rE (bF (aD (jO (lN C) (hr.mono (by lia)) rfl (fc (bh 1) aB)) aJ)))) bR)
  (aC (rE (bF (aD (bC (aD (kY rfl C.zc C.nA) (aD (bC (aD (bh 1) (aD (jO nT (hr.mono (by lia)) rfl (aO 0 aB)) aJ))) aJ))) aJ))))))
theorem Ht:cP ["wish", "last", "low", "high", "sides"] ["wish"] (aN (top 65)):=sck
theorem xn(C:Ctx K mg):∀fu:Nat,Def P w K mg base (5+2*fu) "plain_tree" ["wish"] (spF K [.AN] .f (cH fu))
 | 0=>aaA (k:=4) (C.f (n:=65)) Ht
 | fu+1=>have nT:=xn C fu
 have UL:=abJ C (kk:=5+2*fu) (by lia) nT
 bQ (k:=5+2*fu+1) (top 65) ["wish", "last", "low", "high", "sides"] [.AN,.AO,.AO,.AO,.AO] C.f λnd hr=>
 (aW (bH 1 nd (aL iQ (sp (sx 0)) sI))
  (aW (bH 2 nd (jO (Am C) (hr.mono (by lia)) rfl (aO 0 (fc (bh 1) (bz sI aB)))))
  (aW (bH 3 nd (jO (Am C) (hr.mono (by lia)) rfl (aO 0 (fc (bh 1) (bz sI aB)))))
  (aW (bZ (cN (d9 hr.units) (aq 2) (aq 3)) (aC (bu (jO nT (hr.mono (by lia)) rfl (aO 2 aB)))) bR)
  (aW (bH 4 nd (aL cz (sfp (Fz UL (hr.mono (by lia)) rfl (aO 2 (fc (jO (lN C) (hr.mono (by lia)) rfl (fc (bh 1) aB)) aB)))) (sfp (Fz UL (hr.mono (by lia)) rfl (aO 3 (fc (bh 1) aB))))))
  (aW (bZ (cN (d9 hr.units) (sp (cj gk rfl C.n eG (aO 4 aB))) sI) (aC (bu (jO (lN C) (hr.mono (by lia)) rfl (fc (sx 4) aB)))) bR)
  (aC (bu (bC (aD (kY rfl C.zc C.nA) (aD (fG gG rfl C.n fB (aO 4 aB)) aJ)))))))))))
theorem J7(C:Ctx K mg):Def P w K mg base 22 "wish_tree" ["wish"] (spF K [.AN] .f o5):=
 bQ (top 66) ["wish", "always"] [.AN,.AO] C.f λnd hr=>
 (aW (bH 1 nd (bC (aD (kY rfl C.zc C.nA) (aD (bC (bx (aD (bJ (lN C) hr (fc gb aB)) aJ))) aJ))))
  (aW (bZ (cN (d9 hr.units) (sp (sx 0)) (sp (bJ (mD C) hr (bz (sp (sx 0)) aB)))) (aC (bu (bh 1))) bR)
  (aC (bu (QD (cN (d9 hr.units) (sp (sx 0)) sI) (bJ (lN C) hr (fc (bh 1) aB)) (bJ (xn C 8) hr (aO 0 aB)))))))
theorem Af:cP ["steps", "lone"] ["steps", "lone"] (aN (top 67)):=sck
theorem Ac(C:Ctx K mg):Def P w K mg base 3 "tables_at_hand" ["steps", "lone"] (spM K [.AN,.AN] 0 jD):=
 Ep (N:=["steps", "lone"]) (fs:=[.AN,.AN]) (O:=λp=>[.fix p,.AN]) (O':=λ_=>[]) (Ol:=[]) (j:=0) (C.f (n:=67)) Af rfl (by decide) (λ_=>rfl) (λp=>of_decide_eq_true rfl) λp f AH A AX s H E hr=>
 (aC (WL 0 rfl (ik.ev gb (ik.ev gb (ik.cl (iG 0 (gW C) (hr.mono (by decide)) rfl (jM 0 (d7 (sq gb) (d7 (sq (sx 1)) (d7 (sq (sfe (bF (bx aJ)))) jL)))) rfl rfl rfl (by decide)) (ik.cl (iG 0 (gW C) (hr.mono (by decide)) rfl (jM 0 (d7 (sq gb) (d7 (sq (sx 1)) (d7 (sq (sfe (bF (bx aJ)))) jL)))) rfl rfl rfl (by decide)) (ik.cl (iG 0 (gW C) (hr.mono (by decide)) rfl (jM 0 (d7 (sq gb) (d7 (sq (sx 1)) (d7 (sq (sfe (bF (bx aJ)))) jL)))) rfl rfl rfl (by decide)) (ik.cl (iG 0 (gW C) (hr.mono (by decide)) rfl (jM 0 (d7 (sq gb) (d7 (sq (sx 1)) (d7 (sq (sfe (bF (bx aJ)))) jL)))) rfl rfl rfl (by decide)) ik.nil)))))) rfl rfl (λz=>nomatch z) (by decide)))
theorem uB(C:Ctx K mg):Def P w K mg base 4 "first_giving" ["gate", "lists", "wanted"] (spF K [.AN,.AN,.AN] .f jl):=
 bQ (top 68) ["gate", "lists", "wanted", "chosen"] [.AN,.AN,.AN,.AO] C.f λnd hr=>
 (aW (d8 [3] (fC (ig 1)) (cM 3 nd) (aC (bZ (cN (d9 hr.units) (sp (bJ (Ed C) hr (aO 0 (aO 3 (bz sI aB))))) (aq 2)) (aC (bu (bh 3))) bR)))
  (aC (bu lO)))
theorem Cr(C:Ctx K mg):Def P w K mg base 5 "nand_circuit" ["gate", "lone"] (spF K [.AO,.AN] .f fU):=
 bQ (top 69) ["gate", "lone", "steps", "wires", "lists", "direct", "chosen", "out"] [.AO,.AN,.own,.AO,.AO,.AO,.AO,.AO] C.f λnd hr=>
 (aW (eV 2 nd (bF aJ))
  (aW (Fd 3 2 nd rfl (uk rfl) (iG 2 (Ac C) (hr.mono (by decide)) rfl (jM 2 (d7 (ig 1) jL)) rfl rfl rfl (by decide)) (of_decide_eq_true rfl))
  (aW (bH 4 nd (bJ (uQ C) hr (bz (sfp (Dn (bF (aD (sfe (ud (Wi rfl) rfl C.n q9 (aO 3 aB))) aJ)) (sp (sx 0)))) aB)))
  (aW (bH 5 nd (bJ (uB C) hr (aO 0 (aO 4 (bz (sp (dJ (sp (kY rfl C.zc C.nA)) sI)) aB)))))
  (aW (bH 6 nd (QD (cN Ku (aq 5) (sp lO)) (bJ (uB C) hr (aO 0 (aO 4 (bz (sp (dJ (sp (kY rfl C.aeC C.DK)) sI)) aB)))) (bh 5)))
  (aW (jK 2 (bC (aD (bh 0) (aD (fG gG rfl C.n fB (bz (sfp (dY ["table"] [3] rfl rfl rfl rfl (by decide) (mj (aq 6)) (λ_ _ _ _ _=>(dq 0 (show gX (["table", "wires"]:B6) by decide +kernel) rfl (i7 rfl))) (λ_ _ _ _ _=>dW) (λ_ _ _ _ _=>(pO hr.cY (aq 1) (aq 0) (λ_ _=>rfl))))) aB)) aJ))))
  (aW (bH 7 nd (aL cz (sp (cj gk rfl C.n eG (aO 2 aB))) sI))
  (aW (bZ (cN Ku (aq 5) (sp lO)) (aC (Fd 7 2 nd rfl (i7 rfl) (iG 2 (gW C) (hr.mono (by decide)) rfl (jM 2 (d7 (sq gb) (d7 (sq (sx 1)) (d7 (sq (sfe (bF (aD (bh 7) aJ)))) jL)))) rfl rfl rfl (by decide)) (of_decide_eq_true rfl))) bR)
  (aC (bu (bJ (Hb C) hr (bz (sp (bC (bx (aD (fG gG rfl C.n fB (aO 2 aB)) (aD (bh 7) aJ))))) aB))))))))))))
theorem JP(C:Ctx K mg):Def P w K mg base 104 "build" ["gates", "wish"] (spF K [.AN,.AN] .f qY):=
 bQ (top 70) ["gates", "wish", "breaches", "name", "breach", "found", "lone", "breaker", "kit"] [.AN,.AN,.AO,.AO,.AO,.AO,.AO,.AO,.AO] C.f λnd hr=>
 (bN (bH 2 nd (sfe (sW (Lh C) hr (aO 0 aB))))
  (bN (kW gx rfl [3,4] (aa6 rfl C.n (kY rfl C.Ph C.rH) (bh 2)) (pP rfl (mL (cM 3 nd) (mL (cM 4 nd) mX))) (aC (bZ (cN Ku (aq 4) (sp lO)) (aC LK) bR)) (by decide))
  (bN (bH 5 nd (sfe (sW (abw C) hr (aO 0 (bz sI aB)))))
  (bN (abk 6 ["table"] [5] nd rfl (i7 rfl) rfl rfl rfl rfl (by decide) (j8 rfl C.n sI) (λ_ _ _ _ _=>(dq 0 (show gX (["table", "found"]:B6) by decide +kernel) rfl (i7 rfl))) (λ_ _ _ _ _=>dW) (λ_ _ _ _ _=>(bJ (FZ C) hr (aO 1 (aO 0 (fc gb aB))))))
  (bN (bH 7 nd (dJ (aq 0) (sp (dJ (sp (sx 2)) sI))))
  (bN (ac8 8 hr.cY nd rfl (i7 rfl) (nj.cons (kY rfl C.PL C.vX) (sx 6) (nj.cons (kY rfl C.zc C.nA) (bJ (Cr C) hr (fc (bh 7) (aO 6 aB))) nj.nil)) rfl rfl (λz=>nomatch z) (by decide) (of_decide_eq_true rfl))
  (aC (bu (bJ (Hb C) hr (bz (sp (X8 8 rfl (LR C) (hr.mono (by decide)) rfl (sp (bJ (DW C) hr (fc (bJ (J7 C) hr (aO 1 aB)) (fc (sx 1) aB)))))) aB))))))))))
theorem jj(C:Ctx K mg):Def P w K mg base 1 "_law_cell_at" ["_law_script", "_law_k"] (spF K [.AN,.AN] .f cX):=
 bQ (top 72) ["_law_script", "_law_k"] [.AN,.AN] C.f λnd hr=>
 (aW (bZ (cN Ib (aq 1) (sp (cj gk rfl C.n eG (aO 0 aB)))) (aC (bu (dJ (aq 0) (aq 1)))) bR)
  (aW (bZ (cN (d9 hr.units) (sp (cj gk rfl C.n eG (aO 0 aB))) sI) (aC (bu (aL cz (sp (aL iI (sp (aL iI (aq 1) (aq 1))) sI)) (sp (aL iI sI (aq 1)))))) bR)
  (aC (bu (aL cz (sp (aL ji (sp (dJ (aq 0) (sp (aL gK (aq 1) (sp (cj gk rfl C.n eG (aO 0 aB))))))) (sp (aL cz sI (sp (aL ji (aq 1) (sp (cj gk rfl C.n eG (aO 0 aB))))))))) (sp (aL iI (sp (aL iI (aq 1) (aq 1))) sI)))))))
theorem MK(C:Ctx K mg):Def P w K mg base 1 "_law_gate" ["_law_cell"] (spF K [.AO] .f qt):=
 bQ (top 73) ["_law_cell", "_law_inputs", "_law_some"] [.AO,.AO,.AO] C.f λnd hr=>
 (aW (bH 1 nd (dJ (sfp (bF (bx (bx (bx (bx (bx (bx (bx (bx (bx (bx aJ)))))))))))) (sp (aL gK (aq 0) sI))))
  (aW (bH 0 nd (aL ji (aq 0) sI))
  (aW (bH 2 nd (sfe (bF (bx (bx (bx (bx (bx (bx (bx (bx aJ)))))))))))
  (aW (bZ (mC (yG (cN (d9 hr.units) (aq 1) sI) (vI (cN (d9 hr.units) (sp (aL gK (aq 0) sI)) sI)))) (aC (bu (bC (bx (aD (dJ (aq 2) (sp (aL gK (sp (aL ji (aq 0) sI)) sI))) aJ))))) bR)
  (aC (bu (bC (aD (bh 1) (aD (aL gK (sp (aL cz (sp (aL iI (sp (aL ji (aq 0) sI)) sI)) (aq 0))) (sp (dJ (sfp (bF (bx (bx (bx (bx (bx aJ))))))) (aq 1)))) aJ)))))))))
theorem yR(C:Ctx K mg):Def P w K mg base 1 "_law_keeps" ["_law_gate_here", "_law_name"] (spF K [.AN,.AN] .f cZ):=
 bQ (top 74) ["_law_gate_here", "_law_name", "_law_rows", "_law_values", "_law_row", "_law_total", "_law_k"] [.AN,.AN,.AO,.AO,.AO,.AO,.AO] C.f λnd hr=>
 (aW (bH 2 nd (aL yS sI (sp (sx 0))))
  (aW (bH 3 nd (sfe (dY ["_law_row"] [0] rfl rfl rfl rfl (by decide) (j8 rfl C.n (aq 2)) (λ_ _ _ _ _=>(dq 0 (show gX (["_law_row", "_law_gate_here"]:B6) by decide +kernel) rfl (i7 rfl))) (λ_ _ _ _ _=>dW) (λ_ _ _ _ _=>(aL pH (sp (aL vC (sp (sx 1)) (aq 0))) sI)))))
  (aW (bZ (cN (d9 hr.units) (aq 1) (sp gZ)) (aC (bu (xR (d9 hr.units) (sp (sx 3)) sI (yj _)))) bR)
  (aW (bZ (cN (d9 hr.units) (aq 1) (sp gZ)) (aC (bu (xR (d9 hr.units) (sp (dJ (aq 3) (sp (aL iQ (aq 2) sI)))) sI (yj _)))) bR)
  (aW (bZ (cN (d9 hr.units) (aq 1) (sp gZ)) (aC (bu (xR (d9 hr.units) (sfp (dY ["_law_row"] [3,2] rfl rfl rfl rfl (by decide) (j8 rfl C.n (aq 2)) (λ_ _ _ _ _=>(dq 0 (show gX (["_law_row", "_law_values", "_law_rows"]:B6) by decide +kernel) rfl (i7 rfl))) (λ_ _ _ _ _=>(wk (cN (d9 hr.units) (sp (dJ (aq 1) (aq 0))) (sp (dJ (aq 1) (sp (aL iQ (sp (aL iQ (aq 2) sI)) (aq 0)))))))) (λ_ _ _ _ _=>(bh 0)))) (sfp (bF aJ)) (yj _)))) bR)
  (aW (d8 [4,5,6] (gV rfl C.n (aq 2)) (cM 4 nd) (aW (bH 5 nd (sx 3))
  (aW (d8 [6] (gV rfl C.n (sp (sx 0))) (cM 6 nd) (aW (bZ (mC (yG (cN (d9 hr.units) (aq 1) (sp gZ)) (vI (cN zq (sp (dJ (aq 3) (aq 4))) (sp (dJ (aq 3) (sp (aL YJ (aq 4) (sp (aL yS sI (aq 6))))))))))) (aC (bu gR)) bR)
  (aC (bH 5 nd (aL cz (aq 5) (sp (aL iI (sp (aL pH (sp (aL vC (aq 4) (aq 6))) sI)) (sp (aL cz (sp (dJ (aq 3) (sp (aL yS sI (aq 6))))) (sp (sx 3)))))))))))
  (aC (bZ (mC (yG (cN (d9 hr.units) (aq 1) (sp gZ)) (vI (cN (zA hr.units) (sp (aL gK (aq 5) sI)) (sp (dJ (aq 3) (aq 4))))))) (aC (bu gR)) bR)))))
  (aC (bu gR))))))))
theorem Qm(C:Ctx K mg):Def P w K mg base 2 "_law_set" ["_law_script", "_law_start"] (spF K [.AN,.AN] .t pL):=
 bQ (top 75) ["_law_script", "_law_start", "_law_first", "_law_name", "_law_good_here", "_law_found", "_law_k", "_law_gate_here"] [.AN,.AN,.AO,.AO,.AO,.own,.AO,.AO] C.f λnd hr=>
 (aW (bH 2 nd (bJ (jj C) hr (aO 0 (aO 1 aB))))
  (aW (bH 3 nd (dJ (sfp (bF (aD gZ (aD gZ (aD gZ (aD gZ (aD gZ aJ))))))) (sp (aL gK (sp (aL ji (aq 2) sI)) sI))))
  (aW (bH 4 nd (sfe (bF (aD (sfe (bF (aD (bC (bx (bx aJ))) aJ))) (aD (sfe (bF (aD (bC (bx (bx aJ))) aJ))) (aD (sfe (bF (aD (bC (bx (bx aJ))) (aD (bC (bx (bx aJ))) aJ)))) (aD (sfe (bF (aD (bC (bx (bx aJ))) (aD (bC (bx (bx aJ))) aJ)))) (aD (sfe (bF (aD (bC (bx (bx aJ))) (aD (bC (bx (bx aJ))) (aD (bC (bx (bx aJ))) aJ))))) (aD (sfe (bF (aD (bC (bx (bx aJ))) (aD (bC (bx (bx aJ))) aJ)))) aJ)))))))))
  (aW (bH 4 nd (aL cz (aq 4) (sfp (bF (aD (sfe (bF (aD (bC (bx (bx aJ))) (aD (bC (bx (bx aJ))) aJ)))) (aD (sfe (bF (aD (bC (bx (bx aJ))) (aD (bC (bx (bx aJ))) aJ)))) (aD (sfe (bF (aD (bC (bx (bx aJ))) (aD (bC (bx (bx aJ))) (aD (bC (bx (bx aJ))) aJ))))) (aD (sfe (bF (aD (bC (bx (bx aJ))) (aD (bC (bx (bx aJ))) aJ)))) (aD (sfe (bF (aD (bC (bx (bx aJ))) aJ))) aJ)))))))))
  (aW (bZ (cN (d9 hr.units) (sp (aL gK (aq 2) sI)) sI) (aC (rE (ud El rfl C.n q9 (bz (sp (dJ (aq 4) (sp (aL gK (sp (aL ji (aq 2) sI)) sI)))) aB)))) bR)
  (aW (eV 5 nd (bF aJ))
  (aW (d8 [6,7] (gV rfl C.n (sp (aL gK (sp (aL ji (aq 2) sI)) sI))) (cM 6 nd) (aW (bH 7 nd (bJ (MK C) hr (fc (bJ (jj C) hr (aO 0 (bz (sp (aL cz (sp (aL cz (aq 1) sI)) (aq 6))) aB))) aB)))
  (aW (bZ (mC (yG (cN Ib (sp (aL gK (aq 2) sI)) sI) (vI (kJ (kI (sp (bJ (yR C) hr (aO 7 (aO 3 aB))))))))) (aC (bH 7 nd (pO hr.cY (sp (aba (j5.cons (bC (bx (bx aJ))) (j5.cons (bC (bx (bx aJ))) (j5.cons (bC (bx (bx aJ))) (j5.cons (bC (bx (bx aJ))) (j5.cons (bC (bx (bx aJ))) j5.nil))))) (by decide +kernel) (λz=>nomatch z) (by decide))) (aq 3) (λ_ _=>rfl)))) bR)
  (aC (jK 5 (bh 7))))))
  (aC (oW 5)))))))))
theorem RM(C:Ctx K mg):Def P w K mg base 1 "_law_out" ["_law_circuit", "_law_row"] (spF K [.AN,.AN] .f um):=
 bQ (top 76) ["_law_circuit", "_law_row", "_law_found", "_law_gate_here", "_law_some", "_law_at"] [.AN,.AN,.own,.AO,.AO,.AO] C.f λnd hr=>
 (bN (eV 2 nd (dY ["_law_j"] [1] rfl rfl rfl rfl (by decide) (j8 rfl C.n (sp (sx 0))) (λ_ _ _ _ _=>(dq 0 (show gX (["_law_j", "_law_row"]:B6) by decide +kernel) rfl (i7 rfl))) (λ_ _ _ _ _=>dW) (λ_ _ _ _ _=>(aL pH (sp (aL vC (aq 1) (aq 0))) sI))))
  (bN (kW gx rfl [3,4,5] (fC (sq (sx 0))) (pP rfl (mL (cM 3 nd) (mL (cM 4 nd) mX))) (bN (bH 5 nd (cj (K7 rfl) rfl C.n Ji (bz (sfp (dY ["_law_k", "_law_wire"] [2] rfl rfl rfl rfl (by decide) (ZF rfl C.n (aq 4)) (λ_ _ _ _ _=>(pP rfl (mL (dq 0 (show gX (["_law_k", "_law_wire", "_law_found"]:B6) by decide +kernel) rfl (i7 rfl)) (mL (dq 1 (show gX (["_law_k", "_law_wire", "_law_found"]:B6) by decide +kernel) rfl (i7 rfl)) mX)))) (λ_ _ _ _ _=>dW) (λ_ _ _ _ _=>(aL yS (sp (dJ (aq 2) (aq 1))) (aq 0))))) aB)))
  (aC (jK 2 (aL pH (sp (aL vC (sp (sx 3)) (aq 5))) sI)))) (by decide))
  (aC (bu (dJ (aq 2) (sp (sx 0)))))))
theorem Mt(C:Ctx K mg):Def P w K mg base 3 "_law_good" ["_law_script"] (spF K [.AN] .f nJ):=
 bQ (top 77) ["_law_script", "_law_gates", "_law_name"] [.AN,.AO,.AO] C.f λnd hr=>
 (aW (bH 1 nd (sfe (sW (Qm C) hr (aO 0 (bz sI aB)))))
  (aW (d8 [2] (fC (sq (sfe (bF (aD gZ (aD gZ (aD gZ (aD gZ (aD gZ aJ))))))))) (cM 2 nd) (aC (bZ (cN (d9 hr.units) (sfp (dY ["_law_gate_here"] [2] rfl rfl rfl rfl (by decide) (mj (aq 1)) (λ_ _ _ _ _=>(dq 0 (show gX (["_law_gate_here", "_law_name"]:B6) by decide +kernel) rfl (i7 rfl))) (λ_ _ _ _ _=>(wk (kJ (kI (sp (bJ (yR C) hr (aO 0 (aO 1 aB)))))))) (λ_ _ _ _ _=>(bh 0)))) (sfp (bF aJ))) (aC (bH 1 nd (aL cz (sp (aeR (aq 1) aab (aag sI))) (sfp (bF (aD (dJ (sfp (bF (aD (bC (bx (bx aJ))) (aD (bC (bx (bx aJ))) (aD (bC (bx (bx aJ))) (aD (bC (bx (bx aJ))) aJ)))))) (sp (aL gK (sp (bJ (jj C) hr (aO 0 (bz sI aB)))) sI))) aJ)))))) bR)))
  (aC (bu (bh 1)))))
theorem Ai(C:Ctx K mg):Def P w K mg base 1 "_law_wish" ["_law_cell"] (spF K [.AN] .f lE):=
 bQ (top 78) ["_law_cell", "_law_inputs", "_law_size", "_law_some"] [.AN,.AO,.AO,.AO] C.f λnd hr=>
 (aW (bH 1 nd (aL cz sI (sp (aL gK (aq 0) sI))))
  (aW (bH 2 nd (dJ (sfp (bF (bx (bx (bx (bx (bx aJ))))))) (aq 1)))
  (aW (bH 3 nd (sfe (bF (bx (aD (aL iQ (aq 2) sI) (bx (aD (aL gK (sp (aL iI (sp (aL ji (aq 0) sI)) sI)) (aq 2)) (aD (aL gK (sp (aL iI (sp (aL ji (aq 0) sI)) sI)) (aq 2)) aJ))))))))
  (aC (bu (bC (aD (bh 1) (aD (dJ (aq 3) (sp (aL gK (sp (aL ji (aq 0) sI)) sI))) aJ))))))))
theorem yt(C:Ctx K mg):Def P w K mg base 6 "_law_right" ["_law_gates", "_law_wish_here", "_law_found"] (spF K [.AN,.AN,.AN] .f jT):=
 bQ (top 79) ["_law_gates", "_law_wish_here", "_law_found", "_law_row"] [.AN,.AN,.AN,.AO] C.f λnd hr=>
 (aW (bZ (mC (wR (cN Pj (sp (bJ (Hq C) hr (aO 2 aB))) (sp gR)) (rN (cN (zA hr.units) (sp (sx 2)) (sp (sx 1)))))) (aC (bu gR)) bR)
  (aW (bZ (cN (zA hr.units) (sfp (dY ["_law_step"] [0] rfl rfl rfl rfl (by decide) (mj (sp (sx 2))) (λ_ _ _ _ _=>(dq 0 (show gX (["_law_step", "_law_gates"]:B6) by decide +kernel) rfl (i7 rfl))) (λ_ _ _ _ _=>(wk (tH (pY hr.cY) (sp (sx 0)) (aq 1) rfl))) (λ_ _ _ _ _=>(bh 0)))) (sfp (bF aJ))) (aC (bu gR)) bR)
  (aW (d8 [3] (gV rfl C.n (sp (aL yS sI (sp (sx 1))))) (cM 3 nd) (aC (bZ (cN (zA hr.units) (sp (bJ (RM C) hr (aO 2 (aO 3 aB)))) (sp (aL pH (sp (aL vC (sp (sx 1)) (aq 3))) sI))) (aC (bu gR)) bR)))
  (aC (bu gR)))))
theorem vA:cP ["_law_script", "_law_gates", "_law_handed", "_law_k", "_law_wish_here"] ["_law_script"] (aN (top 80)):=sck
theorem acw(C:Ctx K mg){fa:Addr}{fd:nN}(F:Fun K "law" "law" (top 80) fa fd):rR P w K mg base CX0 105 fa fd ["_law_script"] (spF K [.AN] .f vN):=
 abE (N:=["_law_script", "_law_gates", "_law_handed", "_law_k", "_law_wish_here"]) (fs:=[.AN]) (O:=[.AN,.AO,.AO,.AO,.AO]) (O':=[]) (Ol:=[]) (rm:=.f) F vA rfl (by decide) (by decide) λf AH A AX s H E hr=>
 (aW (bH 1 vA.nd (bJ (Mt C) hr (aO 0 aB)))
  (aW (bH 2 vA.nd (sfe (ud El rfl C.n q9 (aO 1 aB))))
  (aW (bZ (cN Pj (sp (bJ (Kq C) hr (aO 2 aB))) (sp gR)) (aC (bu gR)) bR)
  (aW (d8 [3,4] (gV rfl C.n (sp (aL cz sI (sp (cj (aeu rfl) rfl C.n ad9 (bz (sp (cj gk rfl C.n eG (aO 0 aB))) (bz sI aB))))))) (cM 3 vA.nd) (aW (bH 4 vA.nd (bJ (Ai C) hr (bz (sp (bJ (jj C) hr (aO 0 (bz (sp (aL cz sI (aq 3))) aB)))) aB)))
  (aC (bZ (mC (wR (kJ (kI (sp (bJ (yt C) hr (aO 1 (aO 4 (bz (sp (bJ (JP C) hr (aO 2 (aO 4 aB)))) aB))))))) (rN (cN (zA hr.units) (aq 2) (aq 1))))) (aC (bu gR)) bR))))
  (aW (bH 4 vA.nd (bJ (Ai C) hr (bz (sp (bJ (jj C) hr (aO 0 (bz sI aB)))) aB)))
  (aC (bu (bJ (yt C) hr (aO 1 (aO 4 (bz (sp (bJ (JP C) hr (aO 2 (aO 4 aB)))) aB)))))))))))
end
variable {l:x6}
theorem all_mk{w:kT}{h:Heap}{fa:Addr}(X:K.In h)(G:h.Ns ff mg)(hfa:mg "law"= some (.ref fa))
 {f39:Addr}{agD afG:C4}{agx:Array B7}{afV agE agj ags aeg agC:a8}
 {f58:Addr}{agd ab0:C4}{afH:Array B7}{afO acO adT ac0 XD adC:a8}
 {CZ:a8}
 {vD:a8}
 {yF:Tok}
 {HF:Tok}
 {IV:Tok}
 {JZ:Tok}
 {yu:a8}
 {Dw:a8}
 {Ak:Addr}
 {T:Addr}
 (F:Bq K defs)
 (N:Bk K Yz)
 (a39:iL K ff "ways"= some (some (.ref f39))) (l39:K.lookup f39=some ⟨afV,agD,.func (fe "ways" "ways" (cF (top 56)) (bV (top 56)) (aN (top 56)) .none agE agj ags afG aeg agC),agx⟩) (c39:mr K aeg "ways"= true) (k39:lh K (.ref f39)=true)
 (a58:iL K ff "law"= some (some (.ref f58))) (l58:K.lookup f58=some ⟨afO,agd,.func (fe "law" "law" (cF (top 80)) (bV (top 80)) (aN (top 80)) .none acO adT ac0 ab0 XD adC),afH⟩) (c58:mr K XD "law"= true) (k58:lh K (.ref f58)=true)
 (Qy:iL K ff "AND"= some (some CZ)) (DK:lL K 9 zz CZ=true)
 (Ge:iL K ff "KINDS"= some (some vD)) (rH:lL K 9 pM vD=true)
 (kh:iL K ff "MOST_CLOSED_ROWS"= some (some (.int 128 yF)))
 (ql:iL K ff "MOST_INPUTS"= some (some (.int 4 HF)))
 (sG:iL K ff "MOST_LISTS"= some (some (.int 20000 IV)))
 (sS:iL K ff "MOST_STEPS"= some (some (.int 600 JZ)))
 (Li:iL K ff "NAND"= some (some yu)) (nA:lL K 9 dU yu=true)
 (Qc:iL K ff "NOT"= some (some Dw)) (vX:lL K 9 gB Dw=true)
 (uO:iL K ff "RELATIONS"= some (some (.ref Ak))) (lZ:Jb K Ak qe=true)
 (yT:pJ K f39 T=true) :
 ∃fd:nN,(∀(s:dc) (v:a8),BindsTo s fd ⟨[v],[]⟩ [("_law_script",v)])/\(∃f,mg "ways"= some (.ref f)/\pJ K f T=true)/\∀base:Heap,K.In base->base.Ns ff mg->rR l.prog w K mg base CX0 105 fa fd ["_law_script"] (spF K [.AN] .f vN):=by
 have e:=hfa.symm.trans (iA X G a58);cases e;refine ⟨fe "law" "law" (cF (top 80)) (bV (top 80)) (aN (top 80)) .none acO adT ac0 ab0 XD adC,λs v=>.of_eq rfl,⟨_,iA X G a39,yT⟩,λbase _ _=>acw ⟨_,X,G,F,N,At.mk' (iA X G a39) l39 c39 k39 (X4 (λ_ _ _ _ _ _ _ _=>rfl) rfl),_,iA X G Qy,DK,_,iA X G Ge,rH,_,iA X G kh,⟨_,rfl⟩,_,iA X G ql,⟨_,rfl⟩,_,iA X G sG,⟨_,rfl⟩,_,iA X G sS,⟨_,rfl⟩,_,iA X G Li,nA,_,iA X G Qc,vX,_,iA X G uO,lZ,_,WX (iA X G a39) yT⟩ (Jc (st:=top 80) l58 c58 k58)⟩
theorem walk{q:gc}{loose:B6}{XP:(Str->B7)->Heap->Prop}{d:DefRec}{K:Params->aw}{as:C2}{e:∀P,as=(K P).map (·.1)}{T:Addr}(hn:l.most=some 63)(hdf:d.params.defaults=[])
 (F:∀(w:kT) (mg:Str->B7) (fa:Addr) (h:Heap),(K w.params).In h->h.Ns ff mg->mg d.name=some (.ref fa) ->
  ∃fd:nN,(∀(s:dc) (u:a8),BindsTo s fd ⟨[u],[]⟩ [("_law_script",u)])/\(∃f,mg "ways"= some (.ref f)/\pJ (K w.params) f T=true)/\∀base:Heap,(K w.params).In base->base.Ns ff mg->rR l.prog w (K w.params) mg base CX0 105 fa fd ["_law_script"] (spF (K w.params) [.AN] .f vN)) :
 PySem.W.WalkO q loose XP (PySem.W.kmHook K as e [T]).says l.row.toRowW d [] (λf vs=>PySem.call f vs):=
 Zq.Yd (n:=63) (k:=105) (x:= "_law_script") (CX:=λ_=>CX0) (sp:=λw=>spF (K w.params) [.AN] .f vN) hn (by decide) hdf ⟨rfl,by decide,by decide⟩ F (λ_ H a ns hl hS=>Rz (main ns hl) hS) λ_ _ _ _ _ z=>z
end Zq
open PySem PySem.W PyProof.Rows
local macro_rules | `(tactic| walk_at "kf")=>`(tactic| exact Zq.Fnd.mk (by k_is) (by k_is) (by k_is) (by k_is))
structure PySem.W.Fast:Prop where(tw8144607046571355521 tw12924317935460721923 tw7332611963844686917 tw18207407387073159215 tw8057440393926707963 tw14487492252220002043 tw10278831053666192689 tw14036108542163260756 tw5951001778984868164 tw13881832843942314012 tw17326365103433547915 tw7118704165595795972 tw6269670823626823684 tw4043017559679624243 tw5731797882176289913 tw1144014938760129705 tw7860846715568055811 tw12739198587894519731 tw10564536054281574359 tw18188233607441716911 tw10502491210168733831 tw6193493991615598325 tw5990030460548371737 tw11782792183892881272 tw8800879579075070233 tw15241846446495176371 tw17477051676255832394 tw18013712976623487544 tw13469548613168287274 tw4896868516578545775 tw4391619847663569624 tw17716045687392354154 tw16674203363235453465 tw16700659944936594618 tw14433679080416577948 tw11710442618252702398 tw8855723320549246198 tw193702933782608052 tw12202145624131507190 tw17408428992136653824 tw1724013345637276954 tw8429916784686036670 tw2890478994195524594 tw7585001076740293307 tw13629405402529973726 tw12291743220826916732 tw10155773554280361214 tw8245262897186089088 tw8773528251973461240 tw3681037411285752002 tw5762386162423523463 tw14380029718590958736 tw15516057746586715971 tw3204545731193910106 tw4772323188078160833 tw17654830748394297310 tw2680447780643064171 tw4177350298493226109 tw42529829752025312 tw8749455780811896920 tw4845100952092488206 tw9171377449001284132 tw538195589863706698 tw14584101272622672276 tw4045656783850227238 tw15857740495315352407 tw5761269987527795678 tw8022588567506823916 tw13328214470849584807 tw8120478793701422964 tw6692117711035406372 tw11787377357341430012 tw17479239733732924364 tw10592050579571133431 tw12800609779808329183 tw7760504848930710491 tw13689137150538286943 tw3884044608724341177 tw12106421868723774940 tw1005795829884045032 tw11419083663644661913 tw15698776494994264224 tw11040323988402235492 tw6880781773707095785 tw4468933265654199311 tw16029922296670326100 tw17475289676672506770 tw15006454521220846581 tw13166328427718004903 tw546860893134972392 tw16699345700038187725 tw8274577207377338138 tw10333835429253443710 tw14605748529116760619 tw15835248084814136217 tw10064156861576344054 tw6463845157517315504 tw2838806354326160692 tw17061734494567048678 tw3209029724490586885 tw8980728549518276313 tw16458731248592259222 tw5726343043422477914 tw1606637522349942153 tw14849368363930870429 tw13641841263489927787 tw12189028480082423977 tw8368694421698209360 tw14464375016732295775 tw9112327843803278399 tw2155403428725116537 tw3819511279606988512 tw186334475329686987 tw4812580167910469449 tw5667729520778633372 tw14316286828095307666 tw12892503936301569471 tw5749234280626263899 tw6564923176604831803 tw17763812532740510201 tw9537854951648493225 tw5136137602950571257 tw10984435625379801406 tw2635554970766360932 tw1843520421785403237 tw12729500640629257668 tw10851296296532602066 tw6999698535555432453 tw6259344185850738949 tw5933157863538887803 tw15050025494449169863 tw12942551777669985178 tw11622786884994597110 tw5208528993895394792 tw7755646568825078120 tw7855355890568610284 tw6807591280216376046 tw7026205921082212042 tw8002899288110437537 tw2534954305764056857 tw12603611519691684465 tw4583096682626826344 tw3292877760957460416 tw13683872409701893530 tw17617080127184889392 tw14564006379787641936 tw7284010901465655066 tw16879603834734076914 tw4913717234345079060 tw7081964596943283167 tw5919096050881292703 tw1229349310657676575 tw9139521416269821361 tw9794478001800416827 tw7024260038900882408 tw15169118268374675031 tw7128944540642010112 tw7498407602110221322 tw8719083559572385689 tw13167937876199694559 tw18198242713914930267 tw17229079377105020420 tw10128329883888268369 tw1850383849942807515 tw10575579546198713981 tw9661733153561085904 tw13109091575739060140 tw16917564219820316014 tw18422893949885840093 tw3457533734463429825 tw2185959399774075936 tw13761525530746588703 tw4809599428888945683 tw6542566089825574400 tw15494226725510937169 tw7916883462060617594 tw13399255238682311941 tw2495171022398829875 tw3892229597860527105 tw1804070121203376634 tw15253588323098534175 tw11309956543132021448 tw8109854237349633920 tw10334460114032406510 tw17523840286112605829 tw6302010558738399768 tw17384930395302064346 tw1587200790667488420 tw14301212409873570488 tw3754641578381829299 tw11558141617536255584 tw8335250800796059539 tw15604829044371365049 tw13994969434391430895 tw17239056398728301285 tw486690047084552091 tw13197968805097933679 tw8000638180257813498 tw5500534719261045816 tw1701397100562991897 tw16151850288849916179 tw1212787768329033128 tw1189093106890740829 tw6695068114163717849 tw10505378386985343049 tw8967359447507186147 tw4150218191731734497 tw17415584892210859668 tw4268039704098607617 tw17788549841829618022 tw17048247311080029666 tw14971969530957757165 tw14418979445204202029 tw12063869324217480844 tw9117321923691264921 tw547765019433338789 tw1560459262351161160 tw760078820076804418 tw7083237772026985541 tw4259283619268154676 tw4202132103829725152 tw1568551137588451992 tw14991167296931335088 tw14232519467877074977 tw10262974141631541807 tw10059341240727369687 tw11072620021049125109 tw2345312994847112387 tw3191493945291498633 tw17041705792061238608 tw11792604613981792788 tw16011856629024062393 tw1059995438284153040 tw7489024149016482213 tw3500351633542608327 tw10344915854548863005 tw5438095366523863993 tw5124167221305761842 tw2461833063200171638 tw4919754656075043083 tw8196408140141522764 tw8153559707872525304 tw15741270138957306577 tw10688219083186069273 tw4324181232377165866 tw1497068211356793220 tw8768128006252584678 tw15729166989939250668 tw14927177455553988307 tw10855114150610829968 tw3925678278884929646 tw11246973182633034989 tw10632404017680904016 tw11898559690168982123 tw2053869561548392344 tw12531514972204697941 tw14518394301131017077 tw7219104665589652238 tw955382372686606466 tw5094938169543969983 tw11575991381211943921 tw16990803343122297700 tw12757579303285733209 tw10672839946651328406 tw13991325435255135266 tw12149423397453150614 tw8856094289816730214 tw3138809248255649480 tw10595031845690468554 tw1901399249860977369 tw11304729610773797494 tw17145213803505286296 tw12462035680545960835 tw12210288584412798846:True)
set_option maxRecDepth 100000 in
set_option maxHeartbeats 0 in
theorem PySem.Challenge.cw_gatekin_k44_every_wish_built_holds : PySem.Challenge.rw_gatekin_k44_every_wish_built.Holds := by
 w_on; o_law; k_head; (case hw => w_witness2)
 k_fill
 refine Zq.walk (l := PySem.Challenge.rw_gatekin_k44_every_wish_built) rfl rfl ?F
 case F =>
  intro w mg fa h KX G hmg
  refine' Zq.all_mk KX G hmg ?hFF ?hNN ?a39 ?l39 ?c39 ?k39 ?a58 ?l58 ?c58 ?k58 ?Qy ?DK ?Ge ?rH ?kh ?ql ?sG ?sS ?Li ?nA ?Qc ?vX ?uO ?lZ ?yT
  (case hFF => ((repeat refine .cons (by walk_at "kf") ?_); exact .nil))
  (case hNN => ((repeat refine .cons (by k_is) ?_); exact .nil))
  (case a39 => k_is)
  (case l39 => k_is)
  (case c39 => k_is)
  (case k39 => k_is)
  (case a58 => k_is)
  (case l58 => k_is)
  (case c58 => k_is)
  (case k58 => k_is)
  (case Qy => k_is)
  (case DK => rfl)
  (case Ge => k_is)
  (case rH => rfl)
  (case kh => k_is)
  (case ql => k_is)
  (case sG => k_is)
  (case sS => k_is)
  (case Li => k_is)
  (case nA => rfl)
  (case Qc => k_is)
  (case vX => rfl)
  (case uO => k_is)
  (case lZ => rfl)
  (case yT => rfl)
