import PyProof.Rows.All
import Wide.All
import OpenK.AllK
import Wide.FinOn
import Lean
import PyProof.EqAt
import PyProof.EqKinds
import PyProof.TupleCall
import PySem.Challenge.RW_gatekin_k54_papers_refused
open PySem renaming wpAny_bind->ae,PyData->af,wpAny_pure->ar,Value->a0,Shared->a8,sizeLine->be,model->bX,wpAny->cf,starEach->dk,SetTable->dy,wpAny_setState_of->eI,Around->eK,wpAny_mono->eR,wpAny_newObj_type->eS,wpAny_call_entry->eT,mainGlobals->fb,wpAny_of_eq->fg,bootBuiltins->fq,wpAny_holding->ft,Program->fF,compareOp->fR,binaryOp->f6,NameKind->gi,mem_of_lookup->gp,wpAny_callSpecial?_slot->gE,builtinLookup_eq_fast->ib,rawInt->iF,isSubtype_type->iP,codeAny_builtin->i3,swapsWith->i4,foldedSetIterable->jv,sysModules->ke,wpAny_rule->ki,World->kn,wpAny_isInstance->ku,plainId_quiet->kA,wpAny_truthy_bool->kC,bindArgs->kD,wpAny_setEntries_of->kN,assignEach->kU,wpAny_Call_Name_kw->k6,cellsFrom->k7,attributeBase->lp,wpAny_seqItems->lS,wpAny_setField->lT,typeLookup_type->ma,ExceptHandler->mM,wpAny_passesOwn->nh,wpAny_ite_split->nr,wpAny_storeSet_of->nL,wpAny_setEpoch_of->nN,backTo->nS,wpAny_attempt->n4,FuncData->oi,wpAny_tryCatch->oo,Paired->oy,wpAny_typeOf->oB,wpAny_specialOf->pb,wpAny_updateSeq->pd,behindInMarks->pj,codeAny_handlers_test->p9,wpAny_pyIter_slot->qh,wpAny_field->qk,codeAny_mono->qA,cLine->qE,wpAny_handleBy_cons->rf,hashInt->rS,intKind->rV,wpAny_execs_nil->rX,builtinsNs->r6,tupleKind_room_in1->sd,sliceBounds->sj,codeAny->sC,Keyword->sF,wpAny_pyIter_list->sN,entryFor_alias->tf,PassesOwn->ua,call_meets->uj,entryFor_of_tree->u7,wpAny_askSetting->va,signature?_of->vn,keywordEach->vv,entryFor->vE,wpAny_Tuple_spliced->wd,getItem->wm,sub_set_self->wt,Scope->xa,argsOk->xh,intKind_is->xC,wpAny_fieldsOf->xD,wpAny_Assign_Name->x8,subscripted->x9,valueAt->yb,unsupported->yv,wpAny_newList->y9,tupleKind->zC,codeAmong->zD,wpAny_execs_cons->zI,noFill_tuple_add->zS,wpAny_Name->AF,pyNext->AG,pyIter->AH,wpAny_call->AJ,concat_meets->AK,IsPart->AL,typeLookup->AM,closureFor->AN,call_meetsIn->AO,letOwnedTupleGo->AW,assign->Bi,backToKw->Bn,wpAny_letGo->BA,callerA->BB,isTrue->BM
open PyProof.Rows renaming K->ag,wpS_bind->cb,arrOf->cm,wpS_pure->cq,SortSt->dP,pendingOf->fi,slot_tuple_getitem->fk,wpS_forRange->hJ,callWith_type1->iq,numOf->kz,envOfC->kQ,IntsAre->oa,elem'->oj,wpS_mono->om,seqObj->pV,failedOf->rh,oneType'->rk,K_mirror_equal->sR,bitAnd_m1->tz,callWith_builtin1->ub,wpS_modify->uu,reverseSlice'->ve,AllBare->wh,IsTup->w9,wpS_get->yk,Keyed->zw,wpS_lift->Au
open List renaming length_map->ai,length_append->aw,getD_eq_getElem?_getD->ay,getElem?_eq_getElem->aI,mem_singleton->aS,mem_cons_of_mem->a6,mem_cons_self->a7,getElem?_map->a9,length_cons->ba,mem_cons->bq,size_toArray->br,mem_map->bt,getElem?_eq_some_iff->bE,map_cons->b9,mem_append_right->cc,map_append->ck,length_replicate->cn,append_nil->cy,replicate->cE,length_take->c6,range->c8,getElem?_append_right->c9,append_assoc->da,mem_append->de,length_range->df,getElem?_eq_none->dr,getElem?_append_left->dA,mem_append_left->dQ,mem_iff_getElem->dS,mem_of_getElem?->d4,length_singleton->d5,mem_range->d6,take_of_length_le->eg,map_map->eh,mem_filterMap->eo,nodup_append->eu,take_append_drop->eM,take_length->e8,length_set->fm,filter_cons_of_neg->fI,length_reverse->fN,foldl_cons->fS,length_nil->fT,replicate_succ->gu,mem_filter->gy,sum_cons->gS,drop_eq_getElem_cons->g6,pairwise_iff_getElem->g7,extract_eq_drop_take->g9,getElem?_set_self->hF,length_drop->hX,all_eq_true->hZ,mem_flatMap->h9,Nodup->ip,filter_cons_of_pos->iL,nodup_cons->i0,getElem_mem->i5,getElem?_range->i7,map_congr_left->ja,any_cons->j1,nil_append->j3,pairwise_cons->kg,getElem?_replicate->kq,take_add_one->kG,foldl_append->kK,forIn_cons->kP,length_filter_le->kR,perm_append_comm->kS,lookup_cons->k8,cons_append->k9,map_nil->ll,pairwise_append->lP,getElem?_replicate_of_lt->l4,flatten_cons->l6,length_eq_zero_iff->l8,filter_eq_self->mm,flatMap_append->mn,pairwise_lt_range->mI,getElem?_set_ne->nv,mem_of_mem_take->nE,getElem_take->nK,getElem?_take_of_lt->nV,length_pos_iff->og,eq_nil_of_length_eq_zero->ow,take_append_of_le_length->ox,drop_eq_nil_of_le->oD,Sublist->oP,find?_cons->oS,filterMap_cons->ra,range_succ->r0,filter_append->sg,findIdx?_eq_some_iff_getElem->sA,ext_getElem?->sP,getElem_drop->tj,pairwise_map->tp,drop_length->uk,eq_nil_iff_forall_not_mem->vb,drop_sublist_drop_left->wq,map_id'->wx,take_zero->xi,drop_zero->xk,length_eraseIdx_of_lt->xA,mem_replicate->xI,map_replicate->xS,lookup->ya,reverse_cons->yi,drop_sublist->yn,reverse_perm->yA,length_erase_of_mem->ze,idxOf_lt_length_iff->zo,map_take->zv,eraseIdx_cons_succ->Ap,getElem_cons_drop->AS,range_succ_eq_map->AU,of_mem_zip->AX,drop_drop->Bz,Pairwise->BD,map_drop->BI,Perm->BU
open PySem.Heap renaming get?_push_of_some->av,lt_size->bg,get?_push_size->bo,SameBut->fv,get?_update_self->ij,size_push->jS,get?_update_other->mB,FlyingW->sT,get?_none_of_le->vr
open Nat renaming le_refl->ax,lt_of_lt_of_le->cK,ne_of_lt->cS,le_trans->c5,le_of_lt->fe,lt_irrefl->fo,zero_le->f7,le_of_not_lt->hY,lt_or_ge->iA,pow_succ->iE,lt_of_le_of_lt->iS,pow_le_pow_right->iX,not_lt_zero->mi,lt_succ_self->mP,ne_of_gt->ny,lt_trans->nz,zero_add->nI,not_lt->n0,le_succ->ot,mul_comm->oC,mul_assoc->pz,lt_succ_of_lt->qc,sub_self->tJ,mul_add->vF,min_eq_left->wa,pow_le_pow_left->we,succ_mul->wo,pos_of_ne_zero->xt,lt_of_succ_lt->yy,le_of_succ_le->yB,lt_trichotomy->yY,mul_left_comm->y3,min_le_right->z5,le_add_right->AA,mod_lt->BN,add_comm->BO,add_zero->BQ
open PySem.W renaming Frag->aE,fnOf->ey,codeHdIn->hV,looks_subIn->i8,mg_of->kB,keepIn->kF,nsIn->kL,codeIn->mS,kia_one->nk,subIn->n9,cellsFrom_some->oz,kitOne->qr,clsIn->vi,Looks->vj,OpenLaw->vx,callWith_K->xc,kla_obj->BC,excIn->BE
open Bool renaming and_eq_true->cp,false_eq_true->fh,false_ne_true->iO,not_eq_true'->qf,and_false->sQ,eq_false_iff->tN,or_eq_true->vS,eq_iff_iff->vT,false_or->y6,or_false->zi,and_self->BF,and_true->BH
open Array renaming length_toList->cx,getD_eq_getD_getElem?->eJ,getElem?_toList->eL,getElem?_eq_getElem->fx,getElem?_eq_some_iff->kH,toList_extract->qv,getElem?_replicate->rl,toList_inj->uS,perm_iff_toList_perm->xp,size_map->xw,forIn_toList->xE,size_setIfInBounds->y8,getElem?_eq_none->AV,replicate->AZ
open PySem.PyData renaming canLayAll0->dc,canLay0->ew,eqv->fw,depthAll->fA,eqvAll->pS
open PySem.Builtin.Range renaming rangeSize->dt,small->i9
open PySem.SetTable renaming below->d3,layClean->gL,eraseAt->lh,sizeAbove->lj,bits->ly,fill->pE,fits->ro,insertAt->tm,turns->xB,road->zk
open PySem.SeqAt renaming shaped->ee,canLay_of_shaped->mE
open PySem.Heap.SameBut renaming update->eD
open Option renaming isSome_iff_exists->eP,isSome_map->sL,map_eq_some_iff->sM
open Int renaming toNat_natCast->ff,le_of_lt->fy,le_trans->gx,le_refl->ia,pow_succ->qB,natCast_add->wb,fdiv_eq_ediv_of_nonneg->xb,not_lt->AR,emod_nonneg->AY,mul_assoc->BG,mul_comm->BS
open PySem.Builtin renaming bitAnd->fE,bitNot->gz,bitOr->jI,bitXor->lI
open PySem.Around renaming under_plainId->gc
open PySem.Value renaming ref->gX,type->iN,isInt_shape->x6
open PySem.F renaming plain_min_loop->i6,plainAttrs_list->l7,slot_list_getattribute->oq,called_set->oQ,slot_list_extend->pT,args_tuple_add_2->rg,slot_dict_itemiterator_iter->rL,entry_tuple_add->si,plainAttrs_dict->sm,slot_tuple_add->sD,entry_min_loop->tw,slot_dict_get->t9,slot_dict_getitem->x5,type_list_extend->y7,args_dict_get_2->As,slot_dict_items->AC,slot_list_index->AD,entry_dict_get->AQ
open ForInStep renaming yield->j2
open Or renaming inl->kx,inr->xl
open PySem.PassesOwn renaming leaving->kM,never->mf
open PySem.SetTable.sizeAbove renaming go->kT
open PySem.Calls renaming spliced_cons->kX,callWith_builtin->mw,spliced_nil->qa,evalArgs_plain->qo
open PySem.Builtin.List renaming listTooLong->lx,listSameRef->rq
open Sum renaming inl->l5,inr->AE
open False renaming elim->l9
open PySem.Builtin.Frozenset renaming difference->md,differenceUpdate->sh
open Ne renaming symm->mu
open PySem.Obj renaming mapSeq->mT,data_mapFields->se,putSet->sf,mapFields->zd
open PySem.Manifest.ParamKind renaming posOnly->na
open PySem.Builtin.Slice renaming slicePlaces->nc,sliceAdjust->qS
open Classical renaming byContradiction->ng
open PySem.Builtin.Tuple renaming tupleExact->nX,tupleHashOf->qV
open True renaming intro->qq
open PySem.SetTable.below renaming go->ti
open Nat.Coprime renaming dvd_of_dvd_mul_right->tq
open PUnit renaming unit->xy
open Option.some renaming injEq->y0
open List.Pairwise renaming imp_of_mem->zh,filterMap->AB
open PyProof renaming noPylong_small->AI
set_option compiler.extract_closed false
set_option Elab.async false
set_option linter.all false
set_option maxRecDepth 100000
local macro_rules | `(tactic| lia) => `(tactic| first | lia (config := {}) | omega)
namespace Zq
open PySem PySem.Spec PyProof.Rows
abbrev A6:=List (Addr×Obj)
abbrev A8:=List (Nat×Int)
abbrev B0:=List (af×af)
abbrev B1:=List (Int×Int)
abbrev B2:=List (Str×Addr)
abbrev B3:=a0->a8->Prop
abbrev B4:=List Int
abbrev B5:=List af
abbrev B6:=List Nat
abbrev B7:=List Str
abbrev B8:=Option a0
abbrev B9:=List a0
abbrev C2:=List Expr
abbrev C3:=List Addr
abbrev C4:=Option Int
abbrev C5:=Option Addr
abbrev C6:=List Stmt
abbrev C7:=List Env
abbrev C9:=Array zw
abbrev nD(x:Str):Prop:=(x == ("__debug__" : Str))=false
end Zq
local macro_rules | `(tactic| walk_at "hf")=>`(tactic| first | exact .inl rfl | exact .inr rfl | assumption)
namespace Zq
open PySem PySem.Spec PyProof.Rows
abbrev Key:=Sum Int Str
abbrev C8:=List Key
noncomputable def qQ:Key->a0->Bool
 | .inl k,v=>Value.isInt k v
 | .inr x,v=>Value.isStrOf x v
noncomputable def adC(w:kn):Key->Int
 | .inl k=>rS k
 | .inr x=>hashStr w x
theorem eX:∀{k:Key}{v:a0},qQ k v=true->(∃i t,k=l5 i/\v=a0.int i t)\/(∃x t,k=AE x/\v=a0.str x t)
 | .inl i,v,h=>by
  obtain ⟨t,e⟩:=x6 h;exact .inl ⟨i,t,rfl,e⟩
 | .inr x,v,h=>by
  obtain ⟨t,e⟩:=Value.isStrOf_shape h;exact .inr ⟨x,t,rfl,e⟩
theorem Ow(i:Int)(t:Tok):qQ (.inl i) (.int i t)=true:=by simp[qQ,Value.isInt]
theorem PQ(x:Str)(t:Tok):qQ (.inr x) (.str x t)=true:=by simp[qQ,Value.isStrOf]
theorem aba(a b:Int):decide ((l5 a:Key)=l5 b)=(a == b):=by
 by_cases e:a=b
 . subst e;simp
 . have h:¬ (l5 a:Key)=l5 b:=λq=>e (l5.inj q);rw[decide_eq_false h];exact (beq_eq_false_iff_ne.mpr e).symm
theorem aa7(a b:Str):decide ((AE a:Key)=AE b)=decide (a=b):=by
 by_cases e:a=b
 . subst e;simp
 . have h:¬ (AE a:Key)=AE b:=λq=>e (AE.inj q);rw[decide_eq_false h,decide_eq_false e]
theorem Y7(a:Int)(b:Str):decide ((l5 a:Key)=AE b)=false:=decide_eq_false (λq=>nomatch q)
theorem Z9(a:Str)(b:Int):decide ((AE a:Key)=l5 b)=false:=decide_eq_false (λq=>nomatch q)
noncomputable def bu(prog:fF)(w:kn):PySem.KeyKind prog w Key where
 is:=qQ
 hash:=adC w
 inj:=λv a b ha hb=>by
  rcases eX ha with ⟨i,t,rfl,rfl⟩ | ⟨x,t,rfl,rfl⟩
  . rcases eX hb with ⟨j,u,rfl,e⟩ | ⟨y,u,rfl,e⟩
    . injection e with e1 _;rw[e1]
    . exact nomatch e
  . rcases eX hb with ⟨j,u,rfl,e⟩ | ⟨y,u,rfl,e⟩
    . exact nomatch e
    . injection e with e1 _;rw[e1]
 byValue:=λk v h=>by
  rcases eX h with ⟨i,t,rfl,rfl⟩ | ⟨x,t,rfl,rfl⟩ <;> rfl
 pyHash:=λhv h=>by
  rcases eX hv with ⟨i,t,rfl,rfl⟩ | ⟨x,t,rfl,rfl⟩
  . exact wpAny_pyHash_int h
  . exact wpAny_pyHash_str h
 eqBool:=λhu hv h=>by
  rcases eX hu with ⟨i,t,rfl,rfl⟩ | ⟨x,t,rfl,rfl⟩
  . rcases eX hv with ⟨j,u,rfl,rfl⟩ | ⟨y,u,rfl,rfl⟩
    . rw[aba] at h;exact wpAny_eqBool_int h
    . rw[Y7] at h;exact SeqAt.EqAt.int_str i t y u _ _ _ _ h
  . rcases eX hv with ⟨j,u,rfl,rfl⟩ | ⟨y,u,rfl,rfl⟩
    . rw[Z9] at h;exact SeqAt.EqAt.str_int x t j u _ _ _ _ h
    . rw[aa7] at h;exact wpAny_eqBool_str h
 «strs» := λk x t v h=>by
  rcases eX h with ⟨i,u,rfl,e⟩ | ⟨y,u,rfl,e⟩
  . exact nomatch e
  . injection e with e1 _;subst e1;cases v <;> rfl
theorem My(prog:fF)(w:kn)(k:Key)(v:a0):(bu prog w).is k v=qQ k v:=rfl
theorem Ja(prog:fF)(w:kn)(i:Int)(t:Tok):(bu prog w).is (.inl i) (.int i t)=true:=Ow i t
theorem Ir(prog:fF)(w:kn)(x:Str)(t:Tok):(bu prog w).is (.inr x) (.str x t)=true:=PQ x t
inductive V where
 | non | bl (b:Bool) | int (i:Int) | str (x:Str) | byt (b:Array UInt8) | flt (b:UInt64) | ref (a:Addr) | ty (n:String)
 deriving DecidableEq
abbrev A7:=List (Key×V)
abbrev C1:=List V
def Ct:V->a0->Prop
 | .non,u=>u=a0.none
 | .bl b,u=>u=a0.bool b
 | .int i,u=>∃t,u=a0.int i t
 | .str x,u=>∃t,u=a0.str x t
 | .byt b,u=>∃t,u=Value.bytes b t
 | .flt b,u=>∃t,u=Value.float b t
 | .ref a,u=>u=gX a
 | .ty n,u=>u=iN n
abbrev CA:C1->B9->Prop:=oy Ct
variable {xs:C1}{us:B9}
theorem CA.length(r:CA xs us):xs.length=us.length:=oy.length r
theorem CA.get:∀{xs:C1}{us:B9}{i:Nat}{x:V},CA xs us->xs[i]?=some x->∃u,us[i]?=some u/\Ct x u
 | _,_,_,_,.nil,e=>by simp at e
 | _,_,0,_,.cons r _,e=>by simp at e;subst e;exact ⟨_,rfl,r⟩
 | _,_,i+1,x,.cons _ t,e=>by
  obtain ⟨u,h1,h2⟩:=CA.get t (by simpa using e);exact ⟨u,by simpa using h1,h2⟩
theorem CA.append:∀{xs ys:C1}{us ws:B9},CA xs us->CA ys ws->CA (xs++ys) (us++ws)
 | _,_,_,_,.nil,s=>s
 | _,_,_,_,.cons r t,s=>.cons r (CA.append t s)
theorem CA.take:∀{xs:C1}{us:B9} (n:Nat),CA xs us->CA (xs.take n) (us.take n)
 | _,_,0,_=>.nil
 | _,_,_+1,.nil=>.nil
 | _,_,n+1,.cons r t=>.cons r (CA.take n t)
theorem CA.drop:∀{xs:C1}{us:B9} (n:Nat),CA xs us->CA (xs.drop n) (us.drop n)
 | _,_,0,r=>r
 | _,_,_+1,.nil=>.nil
 | _,_,n+1,.cons _ t=>CA.drop n t
def mL:Option V->B8->Prop
 | some v,some u=>Ct v u
 | none,none=>True
 | _,_=>False
def KV{κ:Type}:List (κ×V)->List (κ×a0)->Prop:=oy λ(p:κ×V) (q:κ×a0)=>p.1=q.1/\Ct p.2 q.2
noncomputable def kV:Key->V
 | .inl i=>.int i
 | .inr x=>.str x
inductive HO where
 | lst (xs:C1)
 | tup (xs:C1)
 | dK (Cb:A7) | dT (Cb:List (C8×V))
 | set (S:Int->Bool) (n:Nat)
 | ins (C dx:Addr) (fs:List (Str×V))
 | own (x:Addr)
 | xd (fs:List (Str×V))
 | met (f x:Addr)
 | rng (lo hi:Int)
 | frz (o:Obj) (u:HO)
 | tbl (q:Str)
 | ext (φ:Heap->Prop)
abbrev Hp:=Addr->Option HO
noncomputable def CB(H:Hp)(a:Addr)(o:HO):Hp:=λb=>if b=a then some o else H b
variable {H:Hp}{a:Addr}{o:HO}
theorem bc:CB H a o a=some o:=by rw[CB,if_pos rfl]
variable {b:Addr}
theorem aL(h:b≠a):CB H a o b=H b:=by rw[CB,if_neg h]
theorem abT{u:HO}(h:H a=some o)(U:H b=some u)(d:o≠u):a≠b:=by
 intro e;subst e;rw[h] at U;exact d (Option.some.inj U)
theorem dU(h:H a=some o)(U:H b=none):a≠b:=by
 intro e;subst e;rw[h] at U;cases U
section
variable (P:fF) (w:kn)
def fZ(H:Hp)(h:Heap)(a:Addr):HO->Prop
 | .lst xs=>xs.length<=be/\∃(Cf:B9) (n:Nat),CA xs Cf/\h.get? a=some { cls:=.type "list",data:=.seq Cf.toArray n }
 | .tup xs=>xs.length<=be/\∃Cf:B9,CA xs Cf/\w9 h a Cf.toArray
 | .dK Cb=>Cb.length<=be/\(a == ke)=false/\∃vs,KV Cb vs/\h.DictOf (bu P w) a vs
 | .dT Cb=>Cb.length<=be/\(a == ke)=false/\∃xs:List (C8×Addr×a0),
  oy (λ(p:C8×V) (q:C8×Addr×a0)=>p.1=q.1/\H q.2.1=some (.tup (p.1.map kV))/\Ct p.2 q.2.2) Cb xs /\
  ∃o es ep,h.get? a=some o/\o.ExactDict/\o.data= .dict es ep/\es.toList=xs.map (entryOfKey (zC (bu P w)))/\(xs.map (·.1)).Nodup
 | .set S n=>h.SetOf (rV P w) a S n
 | .ins C dx fs=>H dx=some (.own a)/\fs.length<=1000/\dx≠a/\h.get? a=some (PySem.W.instObj C dx) /\
  ∃mA,h.Ns1 dx mA/\(∀f,mL (fs.lookup f) (mA f))/\PySem.Within mA (fs.map (·.1))
 | .own _=>∃o,h.get? a=some o
 | .xd fs=>∃mA,h.Ns1 a mA/\∀f,mL (fs.lookup f) (mA f)
 | .rng lo hi=>∃t u v,h.get? a=some { cls:=.type "range",data:=.fields #[.int lo t,.int hi u,.int 1 v] }
 | .frz o u=>h.get? a=some o/\fZ H h a u
 | .tbl q=>∃ps:Array a0,h.get? a=some { cls:=.none,data:=.fields ps }/\TriplesOk ps.toList/\∀(pos:Pos) (cv:a0),zD pos ps.toList=some cv->∃c ob vs t,cv= .ref c/\H c=some (.own a)/\h.get? c=some ob/\ob.data= .fields vs/\vs[1]?=some (.str q t)
 | .met f x=>h.get? a=some (PySem.W.methodObj (.ref f) (.ref x))
 | .ext φ=>φ h/\(∃o,h.get? a=some o)/\∀h1 h2:Heap,φ h1->(∀o,h1.get? a=some o->h2.get? a=some o)->φ h2
def HOk(H:Hp)(h:Heap):Prop:=∀a o,H a=some o->fZ P w H h a o
end
variable {P:fF}{w:kn}{h:Heap}
section
variable   {H':Hp}{h':Heap}
theorem fZ.lt(x:fZ P w H h a o):a<h.objs.size:=by
 cases o with
 | lst Y=>obtain ⟨_,_,_,_,e⟩:=x;exact bg e
 | tup Y=>obtain ⟨_,_,_,p⟩:=x;exact p.lt
 | dK U=>obtain ⟨_,_,_,_,o,_,_,e,_⟩:=x;exact bg e
 | dT U=>obtain ⟨_,_,_,_,o,_,_,e,_⟩:=x;exact bg e
 | set S n=>obtain ⟨o,_,_,_,e,_⟩:=x;exact bg e
 | ins C j fs=>obtain ⟨_,_,_,e,_⟩:=x;exact bg e
 | own y=>obtain ⟨_,e⟩:=x;exact bg e
 | xd fs=>obtain ⟨_,⟨_,_,_,e,_⟩,_⟩:=x;exact bg e
 | rng lo hi=>obtain ⟨_,_,_,e⟩:=x;exact bg e
 | frz Z u=>obtain ⟨e,_⟩:=x;exact bg e
 | tbl q=>obtain ⟨_,e,_⟩:=x;exact bg e
 | met f y=>exact bg (x)
 | ext i=>obtain ⟨_,⟨_,e⟩,_⟩:=x;exact bg e
theorem Paired.uh{Y U:Type}{F G:Y->U->Prop}:∀{l₁:List Y}{l₂:List U},oy F l₁ l₂->(∀a b,F a b->G a b)->oy G l₁ l₂
 | _,_,.nil,_=>.nil
 | _,_,.cons r t,f=>.cons (f _ _ r) (Paired.uh t f)
theorem fZ.stay(x:fZ P w H h a o)(k:∀b u,(b=a\/H b=some (.own a))->h.get? b=some u->h'.get? b=some u)
 (E:∀b,H b=some (.own a)->H' b=some (.own a)) (m:∀b xs,H b=some (.tup xs)->H' b=some (.tup xs)):fZ P w H' h' a o:=by
 induction o with
 | lst xs=>obtain ⟨z,Z,n,r,e⟩:=x;exact ⟨z,Z,n,r,k _ _ (.inl rfl) e⟩
 | tup xs=>obtain ⟨z,Z,r,U,e,c⟩:=x;exact ⟨z,Z,r,U,k _ _ (.inl rfl) e,c⟩
 | dK l=>obtain ⟨z,y,D,r,U,Y,ep,e,c⟩:=x;exact ⟨z,y,D,r,U,Y,ep,k _ _ (.inl rfl) e,c⟩
 | dT l=>
  obtain ⟨z,y,xs,r,U,Y,ep,e,c⟩:=x;exact ⟨z,y,xs,Paired.uh r λp q z=>⟨z.1,m _ _ z.2.1,z.2.2⟩,U,Y,ep,k _ _ (.inl rfl) e,c⟩
 | set S n=>obtain ⟨U,Y,ep,t,e,c⟩:=x;exact ⟨U,Y,ep,t,k _ _ (.inl rfl) e,c⟩
 | ins C dx fs=>
  obtain ⟨d,z,ne,e,j,⟨s,Y,ep,i,c⟩,r⟩:=x;exact ⟨E _ d,z,ne,k _ _ (.inl rfl) e,j,⟨s,Y,ep,k _ _ (.inr d) i,c⟩,r⟩
 | own y=>obtain ⟨U,e⟩:=x;exact ⟨U,k _ _ (.inl rfl) e⟩
 | xd fs=>obtain ⟨j,⟨s,Y,ep,e,c⟩,r⟩:=x;exact ⟨j,⟨s,Y,ep,k _ _ (.inl rfl) e,c⟩,r⟩
 | rng lo hi=>obtain ⟨t,u,v,e⟩:=x;exact ⟨t,u,v,k _ _ (.inl rfl) e⟩
 | frz U u M=>obtain ⟨e,q⟩:=x;exact ⟨k _ _ (.inl rfl) e,M q⟩
 | tbl q=>
  obtain ⟨O,e,m,Q⟩:=x;refine ⟨O,k _ _ (.inl rfl) e,m,λB I hv=>?_⟩;obtain ⟨c,U,D,t,L,i,J,e4⟩:=Q B I hv;exact ⟨c,U,D,t,L,E _ i,k _ _ (.inr i) J,e4⟩
 | met f y=>
  have e:=x;exact k a _ (.inl rfl) e
 | ext R=>obtain ⟨p,⟨o,e⟩,st⟩:=x;exact ⟨st _ _ p λo q=>k _ _ (.inl rfl) q,⟨o,k _ _ (.inl rfl) e⟩,st⟩
theorem HOk.lt(x:HOk P w H h)(e:H a=some o):a<h.objs.size:=(x a o e).lt
theorem HOk.fresh(x:HOk P w H h)(e:h.objs.size<=a):H a=none:=by
 cases q:H a with
 | none=>rfl
 | some u=>exact absurd (cK (x.lt q) e) (fo _)
theorem HOk.kept(x:HOk P w H h)(k:∀b u,h.get? b=some u->h'.get? b=some u):HOk P w H h':=λa o e=>
 (x a o e).stay (λb u _ q=>k b u q) (λ_ q=>q) λ_ _ q=>q
theorem HOk.laid(x:HOk P w H h)(k:∀b u,h.get? b=some u->h'.get? b=some u)(Z:h.objs.size<=a)(new:fZ P w (CB H a o) h' a o):HOk P w (CB H a o) h':=λb u e=>by
 have U:=x.fresh Z
 by_cases Y:b=a
 . subst Y;rw[bc] at e;cases e;exact new
 . rw[aL Y] at e;exact (x b u e).stay (λc v _ q=>k c v q) (λc q=>by rw[aL (dU q U)];exact q) λc i q=>by rw[aL (dU q U)];exact q
end
def Rd(H:Hp)(a:Addr)(u:HO):Prop:=H a=some u\/∃o,H a=some (.frz o u)
theorem Rd.ok{u:HO}(r:Rd H a u)(x:HOk P w H h):fZ P w H h a u:=by
 rcases r with r | ⟨o,r⟩
 . exact x a u r
 . obtain ⟨_,q⟩:=x a _ r;exact q
def Mut:Option HO->Prop
 | some (.lst _)=>True
 | some (.dK _)=>True
 | some (.dT _)=>True
 | some (.set _ _)=>True
 | some (.ins _ _ _)=>True
 | some (.ext _)=>True
 | _=>False
section
variable    {h':Heap}{x e:Addr}{o':HO}
theorem HOk.write(ok:HOk P w H h)(o:Mut (H x))(p:e=x\/H e=some (.own x))(k:∀b u,b≠e->h.get? b=some u->h'.get? b=some u)(l:∃u,h'.get? e=some u)
 (new:fZ P w (CB H x o') h' x o'):HOk P w (CB H x o') h':=λb u q=>by
 have Y:∀c y,H c=some (.own y)->c≠x:=λc y r z=>by subst z;rwa [r] at o
 have Z:∀c i,H c=some (.tup i)->c≠x:=λc i r z=>by subst z;rwa [r] at o
 by_cases j:b=x
 . subst j;rw[bc] at q;cases q;exact new
 . rw[aL j] at q
   by_cases U:b=e
   . have m:H b=some (.own x):=by
      rcases p with z | z
      . exact absurd (U.trans z) j
      . rw[U];exact z
     rw[q] at m;cases m;obtain ⟨v,hv⟩:=l;exact ⟨v,by rw[U];exact hv⟩
   . refine (ok b u q).stay (λc v hc r=>k c v ?_ r) (λc r=>by rw[aL (Y c b r)];exact r) λc i r=>by rw[aL (Z c i r)];exact r
     rcases hc with rfl | hc
     . exact U
     . rintro rfl;rcases p with z | z
       . exact Y c b hc z
       . rw[hc] at z;cases z;exact j rfl
end
structure Un (fs ex:C3) (H H':Hp) (h h':Heap):Prop where
 keep:∀b o,h.get? b=some o->H b=none->b∉fs->b∉ex->h'.get? b=some o
 slot:∀b o,h.get? b=some o->H b=none->b∈fs->b∉ex->∃sl,h'.get? b=some { o with slots:=sl }
 free:∀b o,h.get? b=some o->H b=none->b∉ex->H' b=none
 there:∀b o,h.get? b=some o->b∉ex->∃o',h'.get? b=some o'
 tups:∀b xs,H b=some (.tup xs)->H' b=some (.tup xs)
 il:∀b o u,H b=some (.frz o u)->H' b=some (.frz o u)
 gm:∀b q,H b=some (.tbl q)->H' b=some (.tbl q)
section
variable {fs fs' ex ex':C3}{H1 H2:Hp}{h1 h2 h':Heap}{x e:Addr}
theorem Un.any(u:Un fs ex H H1 h h1){U:Obj}(q:h.get? b=some U)(n:H b=none)(hx:b∉ex):∃sl,h1.get? b=some { U with slots:=sl }:=by
 by_cases Y:b∈fs
 . exact u.slot b U q n Y hx
 . exact ⟨U.slots,u.keep b U q n Y hx⟩
theorem Un.trans(a:Un fs ex H H1 h h1)(b:Un fs ex H1 H2 h1 h2):Un fs ex H H2 h h2 where
 keep:=λc U q n e hx=>b.keep c U (a.keep c U q n e hx) (a.free c U q n hx) e hx
 slot:=λc U q n e hx=>by
  obtain ⟨o,Y⟩:=a.slot c U q n e hx;obtain ⟨j,m⟩:=b.slot c _ Y (a.free c U q n hx) e hx;exact ⟨j,m⟩
 free:=λc U q n hx=>by
  obtain ⟨i,Y⟩:=a.there c U q hx;exact b.free c i Y (a.free c U q n hx) hx
 there:=λc U q hx=>by
  obtain ⟨i,Y⟩:=a.there c U q hx;exact b.there c i Y hx
 tups:=λc Z q=>b.tups c Z (a.tups c Z q)
 il:=λc U Z q=>b.il c U Z (a.il c U Z q)
 gm:=λc l q=>b.gm c l (a.gm c l q)
theorem Un.kept(k:∀b u,h.get? b=some u->h'.get? b=some u):Un fs ex H H h h':=
 ⟨λb U q _ _ _=>k b U q,λb U q _ _ _=>⟨U.slots,k b U q⟩,λ_ _ _ n _=>n,λb U q _=>⟨U,k b U q⟩,λ_ _ q=>q,λ_ _ _ q=>q,λ_ _ q=>q⟩
theorem Un.refl:Un fs ex H H h h:=Un.kept λ_ _ q=>q
theorem Un.laid(k:∀b u,h.get? b=some u->h'.get? b=some u)(Z:h.objs.size<=a)(U:H a=none):Un fs ex H (CB H a o) h h' where
 keep:=λb u q _ _ _=>k b u q
 slot:=λb u q _ _ _=>⟨u.slots,k b u q⟩
 free:=λb u q n _=>by rw[aL (cS (cK (bg q) Z))];exact n
 there:=λb u q _=>⟨u,k b u q⟩
 tups:=λb Y q=>by rw[aL (dU q U)];exact q
 il:=λb u Y q=>by rw[aL (dU q U)];exact q
 gm:=λb Y q=>by rw[aL (dU q U)];exact q
theorem Un.write(Y:Mut (H x))(p:e=x\/H e=some (.own x))(k:∀b u,b≠e->h.get? b=some u->h'.get? b=some u)(i:∃u,h'.get? e=some u):Un fs ex H (CB H x o) h h':=by
 have hx:∀b,H b=none->b≠x:=λb n z=>by subst z;rwa [n] at Y
 have j:∀b,H b=none->b≠e:=λb n z=>by
  subst z;rcases p with r | r
  . exact hx b n r
  . rw[n] at r;cases r
 have Z:∀b u,H b=some u->¬ Mut (some u)->b≠x:=λb u q m z=>by subst z;rw[q] at Y;exact m Y
 refine ⟨λb u q n _ _=>k b u (j b n) q,λb u q n _ _=>⟨u.slots,k b u (j b n) q⟩,λb u q n _=>by rw[aL (hx b n)];exact n,λb u q _=>?_,
  λb l q=>by rw[aL (Z b _ q λz=>z)];exact q,λb u l q=>by rw[aL (Z b _ q λz=>z)];exact q,λb _ q=>by rw[aL (Z b _ q λz=>z)];exact q⟩
 by_cases U:b=e
 . subst U;exact i
 . exact ⟨u,k b u U q⟩
end
noncomputable def trk(h:Heap)(H:Hp):C3:=(c8 h.objs.size).filter λa=>(H a).isSome
noncomputable def vI(h:Heap)(H:Hp):Heap:=PySem.W.hideAll h (trk h H)
theorem Od(h:Heap)(H:Hp):(vI h H).objs.size=h.objs.size:=PySem.W.hideAll_size _ _
theorem Uj{o:Obj}(e:h.get? b=some o)(n:H b=none):(vI h H).get? b=some o:=
 PySem.W.hideAll_get _ e λU=>by
  have q:=(gy.mp U).2;rw[n] at q;simp at q
theorem Xr{o:Obj}(e:(vI h H).get? b=some o):h.get? b=some o/\H b=none:=by
 have U:=PySem.W.of_hideAll (trk h H) e;refine ⟨U,?_⟩
 cases q:H b with
 | none=>rfl
 | some x=>
  have Y:b∈trk h H:=gy.mpr ⟨d6.mpr (bg U),by simp[q]⟩;have z:(vI h H).get? b=none:=PySem.W.hideAll_none (trk h H) Y;rw[z] at e;cases e
structure Mod (K:aE) (mg:Str->B8) (base:Heap):Prop where
 kin:K.In base
 glob:base.Ns fb mg
 blt:∃mb,base.Ns r6 mb/\∀x:Str,x ≠ "__name__" -> mb x=fq x
 nolimit:base.NoLimit
 bmain:∃bm ob,mg "__builtins__"= some (.ref bm)/\bm≠r6/\base.get? bm=some ob/\ob.cls= .type "module" /\ ob.dict=some r6/\ob.data= .plain
structure Cx where
 prog:fF
 w:kn
 K:aE
 mg:Str->B8
 base:Heap
 A:eK
 N:B7
 s₀:a8
 H₀:Hp
 env:Env
 CU:C7
 stack:C7
 ex:C3
 fn:Str->Bool
 calm:Bool
 pn:A6
 xe:a0->a8->Prop
noncomputable def frs(l:C7):C3:=l.filterMap (·.frame)
noncomputable abbrev Cx.fs(X:Cx):C3:=frs X.CU
def Vis(sc:xa)(x:Str):Prop:=sc.names.lookup x=some .local\/sc.names.lookup x=some .cell\/sc.names.lookup x=some .free
def Loc(sc:xa)(x:Str):Prop:=sc.names.lookup x=some .local\/sc.names.lookup x=some .cell
def Look(env:Env)(h:Heap)(m:Str->B8)(x:Str)(u:a0):Prop:=
 (env.kindOf x=some .local/\m x=some u)\/((env.kindOf x=some .cell\/env.kindOf x=some .free)/\∃c,env.cells.lookup x=some c/\h.IsCell c (some u))
def TabAt(K:aE)(mg:Str->B8)(P:Addr):Prop:=∃(f:Addr) (o:Obj) (fd:oi) (c:Addr),mg "ways"= some (.ref f)/\K.lookup f=some o/\o.data= .func fd/\fd.code= .ref c/\hV K c P=true
noncomputable def iz:Str:= "ways.<locals>.<lambda>"
structure Cx.Ok (X:Cx):Prop where
 mod:Mod X.K X.mg X.base
 kind:X.env.scope.kind= .function
 glob:X.env.globals=fb
 blt:X.env.builtins=r6
 above:X.s₀.heap.objs.size<=X.env.locals
 inj:∀x y c,X.env.cells.lookup x=some c->X.env.cells.lookup y=some c->x=y
 has:∀x,(X.env.kindOf x=some .cell\/X.env.kindOf x=some .free)->∃c,X.env.cells.lookup x=some c
 cab:∀x c,X.fn x=true->X.env.cells.lookup x=some c->X.s₀.heap.objs.size<=c
 hd:X.calm=true->X.A.handled=none
 frames:X.A.frames=some X.stack
 stk:X.stack=X.CU\/(X.stack=X.env::X.CU/\X.env.frame=some X.env.locals)
 exf:∀b∈X.ex,b≠X.env.locals/\∀x c,X.env.cells.lookup x=some c->c≠b
 bs:∀b o,X.base.get? b=some o->X.s₀.heap.get? b=some o/\X.H₀ b=none
 bsz:X.base.objs.size<=X.s₀.heap.objs.size
 Ba:∀b o,X.base.get? b=some o->b∉X.ex
 HD:∀b∈X.ex,b∉X.fs
 oO:X.s₀.heap.FunFrames X.base X.CU
 frf:∀b∈X.fs,X.H₀ b=none
 tabs:∀P,TabAt X.K X.mg P->X.H₀ P=some (.tbl iz)
structure Cs (X:Cx) (BY:A6) (σ:List (Option V)) (H:Hp) (s:a8):Prop where
 ok:X.Ok
 os:s.os=X.s₀.os
 bare:wh s.gens
 base:Un X.fs X.ex X.H₀ H X.s₀.heap s.heap
 loc:∃m,s.heap.Ns X.env.locals m/\∀(i:Nat) (x:Str) (v:V),X.N[i]?=some x->σ[i]?=some (some v)->Vis X.env.scope x->∃u,Ct v u/\Look X.env s.heap m x u
 cell:∀x c,X.env.cells.lookup x=some c->∃v,s.heap.IsCell c v
 free:H X.env.locals=none
 fY:∀x c,X.env.cells.lookup x=some c->H c=none
 pin:∀p∈X.pn++BY,s.heap.get? p.1=some p.2/\H p.1=none/\p.1≠X.env.locals/\p.1∉X.fs/\∀v,p.2.data ≠ .cell v
 CH:HOk X.prog X.w H s.heap
 len:σ.length=X.N.length
variable {X:Cx}{BY:A6}{s s':a8}{g':Array GenState}{t' i:Nat}{ch:C3}{N:B7}{x:Str}{M:Model}{A:eK}{E:B3}{v:V}{u:a0}
section
variable   {σ:List (Option V)}{H':Hp}  {h':Heap}
theorem Cx.Ok.adm(ok:X.Ok){o:Obj}(e:X.base.get? b=some o):b∉X.fs:=λU=>by
 have:=(ok.oO.mem U).1;rw[e] at this;cases this
theorem Cs.bs(I:Cs X BY σ H s):∀b o,X.base.get? b=some o->s.heap.get? b=some o/\H b=none:=λb o e=>
 ⟨I.base.keep b o (I.ok.bs b o e).1 (I.ok.bs b o e).2 (I.ok.adm e) (I.ok.Ba b o e),I.base.free b o (I.ok.bs b o e).1 (I.ok.bs b o e).2 (I.ok.Ba b o e)⟩
theorem Cs.bk(I:Cs X BY σ H s):∀b o,X.base.get? b=some o->s.heap.get? b=some o:=λb o e=>(I.bs b o e).1
theorem Cs.mod(I:Cs X BY σ H s):Mod X.K X.mg X.base:=I.ok.mod
theorem Cs.kIn(I:Cs X BY σ H s):X.K.In s.heap:=I.ok.mod.kin.keeps I.bk
theorem Cs.nolimit(I:Cs X BY σ H s):s.heap.NoLimit:=I.ok.mod.nolimit.keeps I.bk
theorem Cs.lt(I:Cs X BY σ H s):X.env.locals<s.heap.objs.size:=by obtain ⟨_,U,_⟩:=I.loc;exact U.lt
theorem Cs.sz(I:Cs X BY σ H s):X.s₀.heap.objs.size<=s.heap.objs.size:=c5 I.ok.above (fe I.lt)
theorem Cs.acI(I:Cs X BY σ H s)(h:s.heap.objs.size<=a):a∉X.fs:=λU=>by
 obtain ⟨_,o,Y,_⟩:=I.ok.oO.mem U;exact absurd (cK (bg Y) (c5 I.sz h)) (fo _)
theorem Cs.cne(I:Cs X BY σ H s):∀x c,X.env.cells.lookup x=some c->c≠X.env.locals:=λx c e z=>by
 obtain ⟨v,o,Z,hd⟩:=I.cell x c e;obtain ⟨m,⟨i,j,ep,Y,U,_⟩,_⟩:=I.loc;rw[z,Y] at Z;cases Z;rw[U] at hd;cases hd
theorem Cs.oO(I:Cs X BY σ H s):s.heap.FunFrames X.base X.CU:=by
 have all:∀(l:C7),(∀b∈frs l,b∈X.fs)->X.s₀.heap.FunFrames X.base l->s.heap.FunFrames X.base l:=by
  intro l
  induction l with
  | nil=>intro _ _;trivial
  | cons env r q=>
   rintro i ⟨hk,⟨L,o,U,p,j,hd⟩,m⟩;have Y:=i L (by rw[frs,ra,U];exact a7);obtain ⟨u,e⟩:=I.base.slot L o j (I.ok.frf L Y) Y λz=>I.ok.HD L z Y;exact ⟨hk,⟨L,_,U,p,e,hd⟩,q (λb Z=>i b (by rw[frs,ra,U];exact a6 _ Z)) m⟩
 exact all X.CU (λ_ Z=>Z) I.ok.oO
theorem Cs.stack(I:Cs X BY σ H s):s.heap.FunFrames X.base X.stack:=by
 rcases I.ok.stk with e | ⟨e,U⟩
 . rw[e];exact I.oO
 . rw[e];obtain ⟨m,Y,_⟩:=I.loc;refine .cons (by rw[I.ok.kind];decide) U Y ?_ I.oO;exact vr (c5 I.ok.bsz I.ok.above)
theorem Cs.Ag(I:Cs X BY σ H s):∀b∈frs X.stack,b∈X.env.locals::X.fs:=λb U=>by
 rcases I.ok.stk with e | ⟨e,Y⟩
 . rw[e] at U;exact a6 _ U
 . rw[e] at U;unfold frs at U;rwa [ra,Y] at U
theorem Cs.BR(I:Cs X BY σ H s):∀b∈frs X.stack,H b=none:=λb hb=>by
 rcases bq.mp (I.Ag b hb) with e | hb
 . rw[e];exact I.free
 . obtain ⟨_,o,U,_⟩:=I.ok.oO.mem hb;exact I.base.free b o U (I.ok.frf b hb) λz=>I.ok.HD b z hb
theorem Cs.step{d':Drawn}(I:Cs X BY σ H s)
 (Y:∀b∈ch,(b∈X.ex\/X.s₀.heap.objs.size<=b)/\b≠X.env.locals/\(∀x c,X.env.cells.lookup x=some c->c≠b)/\∀p∈X.pn++BY,p.1≠b)
 (keep:∀b o,b≠X.env.locals->b∉X.fs->b∉ch->s.heap.get? b=some o->H b=none->h'.get? b=some o)
 (slot:∀b o,b≠X.env.locals->b∈X.fs->b∉ch->s.heap.get? b=some o->H b=none->∃sl,h'.get? b=some { o with slots:=sl }) (free:∀b o,b∉ch->s.heap.get? b=some o->H b=none->H' b=none)
 (there:∀b o,b∉ch->s.heap.get? b=some o->∃o',h'.get? b=some o')
 (tups:∀b xs,H b=some (.tup xs)->H' b=some (.tup xs)) (il:∀b o u,H b=some (.frz o u)->H' b=some (.frz o u)) (gm:∀b q,H b=some (.tbl q)->H' b=some (.tbl q))
 (ns:∀m,s.heap.Ns X.env.locals m->h'.Ns X.env.locals m) (CH:HOk X.prog X.w H' h') (R:wh g') :
 Cs X BY σ H' { s with heap:=h',gens:=g',drawn:=d',toks:=t' }:=by
 have E:∀b o,X.s₀.heap.get? b=some o->b≠X.env.locals:=λb o e=>cS (cK (bg e) I.ok.above);have j:∀b o,X.s₀.heap.get? b=some o->b∉X.ex->b∉ch:=λb o e hx B=>by
  rcases (Y b B).1 with z | z
  . exact hx z
  . exact absurd (cK (bg e) z) (fo _)
 have U:∀x c,X.env.cells.lookup x=some c->∀v,s.heap.IsCell c v->h'.IsCell c v:=λx c e v D=>by
  obtain ⟨o,C,hd⟩:=D;have Z:c∉ch:=λz=>(Y c z).2.2.1 x c e rfl
  by_cases Q:c∈X.fs
  . obtain ⟨sl,q⟩:=slot c o (I.cne x c e) Q Z C (I.fY x c e);exact ⟨_,q,hd⟩
  . exact ⟨o,keep c o (I.cne x c e) Q Z C (I.fY x c e),hd⟩
 refine ⟨I.ok,I.os,R,⟨λb o e n B hx=>?_,λb o e n B hx=>?_,λb o e n hx=>?_,λb o e hx=>?_,λb xs e=>tups b xs (I.base.tups b xs e),λb o xs e=>il b o xs (I.base.il b o xs e),λb P e=>gm b P (I.base.gm b P e)⟩,?_,λx c e=>?_,?_,λx c e=>?_,λp M=>?_,CH,I.len⟩
 . exact keep b o (E b o e) B (j b o e hx) (I.base.keep b o e n B hx) (I.base.free b o e n hx)
 . obtain ⟨sl,y⟩:=I.base.slot b o e n B hx;obtain ⟨L,J⟩:=slot b _ (E b o e) B (j b o e hx) y (I.base.free b o e n hx);exact ⟨L,J⟩
 . obtain ⟨o',y⟩:=I.base.there b o e hx;exact free b o' (j b o e hx) y (I.base.free b o e n hx)
 . obtain ⟨o',y⟩:=I.base.there b o e hx;exact there b o' (j b o e hx) y
 . obtain ⟨m,hn,S⟩:=I.loc;refine ⟨m,ns m hn,λi x v y J e3=>?_⟩;obtain ⟨u,r,l⟩:=S i x v y J e3;refine ⟨u,r,?_⟩;rcases l with l | ⟨k,c,e,z⟩
   . exact .inl l
   . exact .inr ⟨k,c,e,U x c e _ z⟩
 . obtain ⟨v,z⟩:=I.cell x c e;exact ⟨v,U x c e v z⟩
 . obtain ⟨m,⟨o,_,_,C,_⟩,_⟩:=I.loc;exact free _ o (λz=>(Y _ z).2.1 rfl) C I.free
 . obtain ⟨v,o,C,hd⟩:=I.cell x c e;exact free c o (λz=>(Y c z).2.2.1 x c e rfl) C (I.fY x c e)
 . obtain ⟨e,n,ne,O,d⟩:=I.pin p M;have Z:p.1∉ch:=λz=>(Y p.1 z).2.2.2 p M rfl;exact ⟨keep p.1 p.2 ne O Z e n,free p.1 p.2 Z e n,ne,O,d⟩
theorem Cs.un(I:Cs X BY σ H s)(u:Un X.fs [] H H' s.heap h')(CH:HOk X.prog X.w H' h'):Cs X BY σ H' { s with heap:=h',toks:=t' }:=by
 obtain ⟨m,⟨o,v,ep,j,r⟩,_⟩:=id I.loc;obtain ⟨x,p⟩:=u.any j I.free (by simp);exact I.step (ch:=[]) (λ_ z=>nomatch z) (λb o _ Z _ e n=>u.keep b o e n Z (by simp)) (λb o _ Z _ e n=>u.slot b o e n Z (by simp)) (λb o _ e n=>u.free b o e n (by simp)) (λb o _ e=>u.there b o e (by simp)) u.tups u.il u.gm (λy q=>by
  obtain ⟨B,Y,i,U,l⟩:=q;rw[j] at U;cases U;exact ⟨_,Y,i,p,l⟩) CH I.bare
theorem Cs.call{y:Drawn}(I:Cs X BY σ H s)(u:Un (frs X.stack) ch H H' s.heap h')(CH:HOk X.prog X.w H' h')(v:wh g')
 (Y:∀b∈ch,(b∈X.ex\/X.s₀.heap.objs.size<=b)/\b≠X.env.locals/\(∀x c,X.env.cells.lookup x=some c->c≠b)/\∀p∈X.pn++BY,p.1≠b) :
 Cs X BY σ H' { s with heap:=h',gens:=g',drawn:=y,toks:=t' }:=by
 obtain ⟨m,⟨o,E,ep,q,r⟩,_⟩:=id I.loc;obtain ⟨J,i⟩:=u.any q I.free λz=>(Y _ z).2.1 rfl;exact I.step Y (λb o i D U e n=>u.keep b o e n (λz=>(bq.mp (I.Ag b z)).elim i D) U) (λb o _ _ U e n=>u.any e n U) (λb o U e n=>u.free b o e n U) (λb o U e=>u.there b o e U) u.tups u.il u.gm (λL C=>by
  obtain ⟨M,j,l,Z,B⟩:=C;rw[q] at Z;cases Z;exact ⟨_,j,l,i,B⟩) CH v
theorem Cs.turned{it:Addr}(I:Cs X BY σ H s)(k:∀b o,b≠it->s.heap.get? b=some o->h'.get? b=some o)(C:H it=none)(Z:it≠X.env.locals)
 (h1:it∈X.ex\/X.s₀.heap.objs.size<=it) (h2:∀x c,X.env.cells.lookup x=some c->c≠it) (y:∀p∈X.pn++BY,p.1≠it):Cs X BY σ H { s with heap:=h',toks:=t' }:=by
 have Y:∀b u,H b=some u->b≠it:=λb u e z=>by rw[z,C] at e;cases e
 refine I.step (ch:=[it]) (λb B=>?_) (λb o _ _ U e _=>k b o (λz=>U (by simp[z])) e) (λb o _ _ U e _=>⟨o.slots,k b o (λz=>U (by simp[z])) e⟩) (λ_ _ _ _ n=>n)
  (λb o U e=>⟨o,k b o (λz=>U (by simp[z])) e⟩) (λ_ _ e=>e) (λ_ _ _ e=>e) (λ_ _ e=>e) (λm l=>?_) (λb u e=>?_) I.bare
 . have e:=by simpa using B
   subst e;exact ⟨h1,Z,h2,y⟩
 . obtain ⟨o,i,ep,j,r⟩:=l;exact ⟨o,i,ep,k _ o (mu Z) j,r⟩
 . refine (I.CH b u e).stay (λc v U q=>k c v ?_ q) (λ_ q=>q) λ_ _ q=>q;rcases U with z | z
   . rw[z];exact Y b u e
   . exact Y c _ z
theorem Cs.tok(I:Cs X BY σ H s)(t:Nat):Cs X BY σ H { s with toks:=t }:=I.un Un.refl I.CH
theorem Cs.kept(I:Cs X BY σ H s)(k:∀b u,s.heap.get? b=some u->h'.get? b=some u):Cs X BY σ H { s with heap:=h',toks:=t' }:=I.un (Un.kept k) (I.CH.kept k)
theorem Cs.laid(I:Cs X BY σ H s)(k:∀b u,s.heap.get? b=some u->h'.get? b=some u)(U:s.heap.objs.size<=a)(new:fZ X.prog X.w (CB H a o) h' a o) :
 Cs X BY σ (CB H a o) { s with heap:=h',toks:=t' }:=I.un (Un.laid k U (I.CH.fresh U)) (I.CH.laid k U new)
theorem Cs.write{x e:Addr}(I:Cs X BY σ H s)(Y:Mut (H x))(Z:e=x\/H e=some (.own x))(k:∀b u,b≠e->s.heap.get? b=some u->h'.get? b=some u)(U:∃u,h'.get? e=some u)
 (new:fZ X.prog X.w (CB H x o) h' x o):Cs X BY σ (CB H x o) { s with heap:=h',toks:=t' }:=I.un (Un.write Y Z k U) (I.CH.write Y Z k U new)
theorem Cs.Kv{U:A6}(I:Cs X BY σ H s)(h:∀p∈U,s.heap.get? p.1=some p.2/\H p.1=none/\p.1≠X.env.locals/\p.1∉X.fs/\∀v,p.2.data ≠ .cell v):Cs X U σ H s:=
 ⟨I.ok,I.os,I.bare,I.base,I.loc,I.cell,I.free,I.fY,λp Y=>(de.mp Y).elim (λz=>I.pin p (dQ _ z)) (h p),I.CH,I.len⟩
theorem yq(U:N.Nodup){j:Nat}(a:N[i]?=some x)(b:N[j]?=some x):i=j:=by
 obtain ⟨h1,Y⟩:=bE.mp a;obtain ⟨h2,Z⟩:=bE.mp b;exact (List.getElem_inj U).mp (Y.trans Z.symm)
theorem CT{Q:Unit->a8->Prop}(I:Cs X BY σ H s)(hN:X.N.Nodup)(hi:X.N[i]?=some x)(hx:Loc X.env.scope x)(r:Ct v u)
 (h:∀s',Cs X BY (σ.set i (some v)) H s'->(∃a,fv a s.heap s'.heap/\(a=X.env.locals\/X.env.cells.lookup x=some a))->Q () s') (hf:X.fn x=true\/X.env.scope.names.lookup x=some .local:=by walk_at "hf"):cf M A (storeName X.env x u) Q E s:=by
 obtain ⟨m,hn,hl⟩:=id I.loc;have R:(X.env.scope.kind == .class||(X.env.scope.kind == .module&&X.env.locals != X.env.globals))=false:=by rw[I.ok.kind];rfl
 have C:i < σ.length:=by rw[I.len];exact (bE.mp hi).1
 have cne:=I.cne;have Y:∀{a:Addr}{h':Heap},(∃o,s.heap.get? a=some o/\H a=none)->fv a s.heap h'->HOk X.prog X.w H h':=λ{a h'} ha U b ob e=>by
  obtain ⟨_,_,l⟩:=ha;refine (I.CH b ob e).stay (λc w' hc q=>(U.2 c ?_).trans q) (λ_ q=>q) λ_ _ q=>q;rintro rfl;rcases hc with rfl | hc
  . rw[l] at e;cases e
  . rw[l] at hc;cases hc
 rcases hx with hk | hk
 . refine wpAny_storeName_local hk hn (λh' hn' U=>?_) R;obtain ⟨oL,_,_,hoL,_⟩:=id hn;refine h _ ⟨I.ok,I.os,I.bare,⟨λb o e n J hx=>?_,λb o e n J hx=>?_,I.base.free,λb o e hx=>?_,I.base.tups,I.base.il,I.base.gm⟩,⟨_,hn',λj y v' Z B e3=>?_⟩,λy c e=>?_,I.free,I.fY,λp hp=>?_,Y ⟨oL,hoL,I.free⟩ U,by simpa using I.len⟩ ⟨_,U,.inl rfl⟩
   . exact (U.2 b (cS (cK (bg e) I.ok.above))).trans (I.base.keep b o e n J hx)
   . obtain ⟨sl,Z⟩:=I.base.slot b o e n J hx;exact ⟨sl,(U.2 b (cS (cK (bg e) I.ok.above))).trans Z⟩
   . obtain ⟨o',Z⟩:=I.base.there b o e hx;exact ⟨o',(U.2 b (cS (cK (bg e) I.ok.above))).trans Z⟩
   . by_cases hj:j=i
     . subst hj;rw[hi] at Z;cases Z;rw[hF C] at B;cases B;exact ⟨u,r,.inl ⟨hk,by simp⟩⟩
     . rw[nv (mu hj)] at B;obtain ⟨u',r',q⟩:=hl j y v' Z B e3;refine ⟨u',r',?_⟩;rcases q with ⟨k,e⟩ | ⟨k,c,e,z⟩
       . refine .inl ⟨k,?_⟩;have:y≠x:=λe=>hj (yq hN Z (e ▸ hi));simp[this,e]
       . exact .inr ⟨k,c,e,z.sameBut U (cne y c e)⟩
   . obtain ⟨w',z⟩:=I.cell y c e;exact ⟨w',z.sameBut U (cne y c e)⟩
   . obtain ⟨e,n,ne,nf,d⟩:=I.pin p hp;exact ⟨(U.2 p.1 ne).trans e,n,ne,nf,d⟩
 . have D:X.fn x=true:=by
    rcases hf with z | z
    . exact z
    . rw[z] at hk;cases hk
   obtain ⟨c,hc⟩:=I.ok.has x (.inl hk);obtain ⟨w',z⟩:=I.cell x c hc;refine wpAny_storeName_cell I.ok.kind hk hc z (λh' P U=>?_);obtain ⟨oc,O,S⟩:=id z;refine h { s with heap:=h' } ⟨I.ok,I.os,I.bare,⟨λb o e n J hx=>?_,λb o e n J hx=>?_,I.base.free,λb o e hx=>?_,I.base.tups,I.base.il,I.base.gm⟩,⟨m,hn.sameBut U (mu (cne x c hc)),λj y v' Z B e3=>?_⟩,λy c' e=>?_,I.free,I.fY,λp hp=>?_,Y ⟨oc,O,I.fY x c hc⟩ U,by simpa using I.len⟩ ⟨c,U,.inr hc⟩
   . exact (U.2 b (cS (cK (bg e) (I.ok.cab x c D hc)))).trans (I.base.keep b o e n J hx)
   . obtain ⟨sl,Z⟩:=I.base.slot b o e n J hx;exact ⟨sl,(U.2 b (cS (cK (bg e) (I.ok.cab x c D hc)))).trans Z⟩
   . obtain ⟨o',Z⟩:=I.base.there b o e hx;exact ⟨o',(U.2 b (cS (cK (bg e) (I.ok.cab x c D hc)))).trans Z⟩
   . by_cases hj:j=i
     . subst hj;rw[hi] at Z;cases Z;rw[hF C] at B;cases B;exact ⟨u,r,.inr ⟨.inl hk,c,hc,P⟩⟩
     . rw[nv (mu hj)] at B;obtain ⟨u',r',q⟩:=hl j y v' Z B e3;refine ⟨u',r',?_⟩;rcases q with q | ⟨k,c',e,z'⟩
       . exact .inl q
       . refine .inr ⟨k,c',e,z'.sameBut U ?_⟩;rintro rfl;exact hj (yq hN Z (I.ok.inj _ _ _ e hc ▸ hi))
   . by_cases L:c'=c
     . subst L;exact ⟨_,P⟩
     . obtain ⟨w2,z2⟩:=I.cell y c' e;exact ⟨w2,z2.sameBut U L⟩
   . obtain ⟨e,n,ne,nf,d⟩:=I.pin p hp;refine ⟨(U.2 p.1 ?_).trans e,n,ne,nf,d⟩;intro q;rw[q,O] at e;have q':oc=p.2:=Option.some.inj e;exact d w' (by rw[<- q'];exact S)
theorem uO{Q:Unit->a8->Prop}(I:Cs X BY σ H s)(U:X.N.Nodup)(hi:X.N[i]?=some x)(hx:Loc X.env.scope x)(r:Ct v u)
 (h:∀s',Cs X BY (σ.set i (some v)) H s'->Q () s') (Z:X.fn x=true\/X.env.scope.names.lookup x=some .local:=by walk_at "hf"):cf M A (storeName X.env x u) Q E s:=
 CT I U hi hx r (λs' Y _=>h s' Y) Z
theorem Cs.call'(I:Cs X BY σ H s)(Z:s'.os=s.os)(u:Un (frs X.stack) ch H H' s.heap s'.heap)(CH:HOk X.prog X.w H' s'.heap)(Y:wh s'.gens)
 (U:∀b∈ch,(b∈X.ex\/X.s₀.heap.objs.size<=b)/\b≠X.env.locals/\(∀x c,X.env.cells.lookup x=some c->c≠b)/\∀p∈X.pn++BY,p.1≠b):Cs X BY σ H' s':=by
 obtain ⟨m,j,l,o,i⟩:=s';have e:=Z;subst e;exact I.call u CH Y U
end
abbrev XK:=a0->C5->Hp->Prop
abbrev St:=List (Option V)
abbrev VK:=V->Hp->Prop
abbrev TE:=St->Hp->VK->Prop
abbrev TT:=St->Hp->(Bool->Hp->Prop)->Prop
abbrev TA:=St->Hp->(C1->Hp->Prop)->Prop
structure Ends where
 nx:St->Hp->Prop
 rt:VK
 bk:St->Hp->Prop:=λ_ _=>False
 ct:St->Hp->Prop:=λ_ _=>False
abbrev TS:=Ends->St->Hp->Prop
def EP(X:Cx)(BY:A6)(σ:St)(Q:VK)(u:a0)(s':a8):Prop:=∃v H',Cs X BY σ H' s'/\Ct v u/\Q v H'
def TP(X:Cx)(BY:A6)(σ:St)(Q:Bool->Hp->Prop)(b:Bool)(s':a8):Prop:=∃H',Cs X BY σ H' s'/\Q b H'
def AP(X:Cx)(BY:A6)(σ:St)(Q:C1->Hp->Prop)(us:B9)(s':a8):Prop:=∃vs H',Cs X BY σ H' s'/\CA vs us/\Q vs H'
def SP(X:Cx)(BY:A6)(D:Ends)(f:Flow)(s':a8):Prop:=
 match f with
 | .next=>∃σ' H',Cs X BY σ' H' s'/\D.nx σ' H'
 | .brk=>∃σ' H',Cs X BY σ' H' s'/\D.bk σ' H'
 | .cont=>∃σ' H',Cs X BY σ' H' s'/\D.ct σ' H'
 | .ret u=>∃v σ' H',Cs X BY σ' H' s'/\Ct v u/\D.rt v H'
def PE(X:Cx)(e:Expr)(t:TE):Prop:=
 ∀(BY:A6) (s:a8) (σ:St) (H:Hp) (Q:VK),Cs X BY σ H s->t σ H Q->cf (bX X.prog X.w) X.A (eval e X.env) (EP X BY σ Q) X.xe s
def PT(X:Cx)(e:Expr)(t:TT):Prop:=
 ∀(BY:A6) (s:a8) (σ:St) (H:Hp) (Q:Bool->Hp->Prop),Cs X BY σ H s->t σ H Q->cf (bX X.prog X.w) X.A (BM e X.env (eval e X.env)) (TP X BY σ Q) X.xe s
def PW(X:Cx)(e:Expr)(t:TT):Prop:=
 ∀(whole:Sem a0) (BY:A6) (s:a8) (σ:St) (H:Hp) (Q:Bool->Hp->Prop),Cs X BY σ H s->t σ H Q->cf (bX X.prog X.w) X.A (BM e X.env whole) (TP X BY σ Q) X.xe s
variable {e:Expr}
theorem PW.pt{t:TT}(h:PW X e t):PT X e t:=h _
def PA(X:Cx)(es:C2)(t:TA):Prop:=
 ∀(pos:Pos) (BY:A6) (s:a8) (σ:St) (H:Hp) (Q:C1->Hp->Prop),Cs X BY σ H s->t σ H Q->cf (bX X.prog X.w) X.A (spliced (nS pos (dk es X.env))) (AP X BY σ Q) X.xe s
def PS(X:Cx)(st:Stmt)(t:TS):Prop:=
 ∀(BY:A6) (s:a8) (σ:St) (H:Hp) (D:Ends),Cs X BY σ H s->t D σ H->cf (bX X.prog X.w) X.A (exec st X.env) (SP X BY D) X.xe s
def PSs(X:Cx)(st:C6)(t:TS):Prop:=
 ∀(BY:A6) (s:a8) (σ:St) (H:Hp) (D:Ends),Cs X BY σ H s->t D σ H->cf (bX X.prog X.w) X.A (execs st X.env) (SP X BY D) X.xe s
theorem thn{Y:Type}{t:Sem Y}{Q U:Y->a8->Prop}(h:cf M A t Q E s)(Z:∀a s,Q a s->U a s):cf M A t U E s:=eR h Z λ_ _ x=>x
variable {Q:B3}{pos:Pos}{σ:St}
section
def acV(i:Nat):TE:=λσ H Q=>∃v,σ[i]?=some (some v)/\Q v H
def tC(v:V):TE:=λ_ H Q=>Q v H
theorem fD(o:X.N[i]?=some x)(hv:Vis X.env.scope x)(hd:nD x:=by decide)(Z:(x == ("__classdict__" : Str))=false:=by decide):PE X (.Name x pos) (acV i):=by
 rintro Y s y H Q I ⟨v,e,h⟩;obtain ⟨m,z,q⟩:=I.loc;obtain ⟨u,r,l⟩:=q i x v o e hv;have fin:EP X Y y Q u s:=⟨v,H,I,r,h⟩;rcases l with ⟨hk,p⟩ | ⟨hk,c,j,U⟩
 . exact AF (wpAny_loadName_local I.ok.kind hk z p fin) hd
 . rcases hk with hk | hk
   . exact AF (wpAny_loadName_cell I.ok.kind hk j U fin) hd
   . exact AF (wpAny_loadName_free I.ok.kind hk j U fin Z) hd
theorem aa5{i j pos}:PE X (.Constant (.int i) j pos) (tC (.int i)):=λ_ _ _ H _ I h=>wpAny_Constant_int ⟨.int i,H,I.tok _,⟨_,rfl⟩,h⟩
theorem acB{b j pos}:PE X (.Constant (.bool b) j pos) (tC (.bl b)):=λ_ _ _ H _ I h=>Constant_bool ⟨.bl b,H,I,rfl,h⟩
theorem aat{j pos}:PE X (.Constant .none j pos) (tC .non):=λ_ _ _ H _ I h=>Constant_none ⟨.non,H,I,rfl,h⟩
theorem PX{x j pos}:PE X (.Constant (.str x) j pos) (tC (.str x)):=λ_ _ _ H _ I h=>Calls.Constant_str ⟨.str x,H,I.tok _,⟨_,rfl⟩,h⟩
def Gl(X:Cx)(x:Str):Prop:=X.env.kindOf x=some .globalImplicit
theorem jZ(I:Cs X BY σ H s)(U:Gl X x)(Y:X.mg x=some u)(h:Q u s)
 (hd:nD x:=by decide):cf (bX X.prog X.w) X.A (eval (.Name x pos) X.env) Q E s:=
 Calls.Name_function_global I.ok.kind U (Calls.loadGlobal_global (by rw[I.ok.glob];exact I.mod.glob.keeps I.bk) Y h) hd
theorem kJ(I:Cs X BY σ H s)(U:Gl X x)(Y:X.mg x=none)(hv:fq x=some u)(h:Q u s)
 (Z:x ≠ "__name__" := by decide) (hd:nD x:=by decide):cf (bX X.prog X.w) X.A (eval (.Name x pos) X.env) Q E s:=by
 obtain ⟨e,h1,h2⟩:=I.mod.blt;exact Calls.Name_function_global I.ok.kind U (Calls.loadGlobal_builtin (by rw[I.ok.glob];exact I.mod.glob.keeps I.bk) Y (by rw[I.ok.blt];exact h1.keeps I.bk) ((h2 x Z).trans hv) h) hd
theorem WR(U:Gl X x)(Y:X.mg x=some u)(r:Ct v u)(hd:nD x:=by decide):PE X (.Name x pos) (tC v):=
 λ_ _ _ H _ I h=>jZ I U Y ⟨v,H,I,r,h⟩ hd
theorem X3(U:Gl X x)(Y:X.mg x=none)(hv:fq x=some u)(r:Ct v u)(Z:x ≠ "__name__" := by decide)(hd:nD x:=by decide):PE X (.Name x pos) (tC v):=
 λ_ _ _ H _ I h=>kJ I U Y hv ⟨v,H,I,r,h⟩ Z hd
variable {a b:Expr}{ta tb:TE}
def tB(t:TE):TT:=λσ H Q=>t σ H λx H1=>∃c,x= .bl c/\Q c H1
theorem aac{t:TE}(h:PE X e t)(o:∀whole,BM e X.env whole=(do let v <- whole;standAt e.pos;holding [v] (truthy v)):=by intro _;rfl):PT X e (tB t):=by
 intro Y s l H Q I j;refine isTrue_plain (thn (h Y s l H _ I j) λv s1 U=>?_) (o _);obtain ⟨x,Z,m,i,q1⟩:=U;obtain ⟨d,rfl,q⟩:=q1;cases i;exact kC ⟨Z,m,q⟩
variable {tA tB':TT}{rest:C2}
def adh(t u:TT):TT:=λσ H Q=>t σ H λc H1=>if c=true then u σ H1 Q else Q false H1
def tOr(t u:TT):TT:=λσ H Q=>t σ H λc H1=>if c=true then Q true H1 else u σ H1 Q
def acT(t:TT):TT:=λσ H Q=>t σ H λc H1=>Q (!c) H1
theorem Yk(ha:PT X a tA):PW X (.BoolOp .And [a] pos) tA:=by
 intro Z U s Y H Q I h;refine isTrue_and (thn (ha U s Y H Q I h) λc s1 e=>?_)
 cases c with
 | true=>exact isTrue_and_nil e
 | false=>exact e
theorem Zt(ha:PT X a tA):PW X (.BoolOp .Or [a] pos) tA:=by
 intro Z U s Y H Q I h;refine isTrue_or (thn (ha U s Y H Q I h) λc s1 e=>?_)
 cases c with
 | false=>exact isTrue_or_nil e
 | true=>exact e
theorem abl(ha:PT X a tA)(j:PW X (.BoolOp .And (b::rest) pos) tB'):PW X (.BoolOp .And (a::b::rest) pos) (adh tA tB'):=by
 intro l U s Z H Q I h;refine isTrue_and (thn (ha U s Z H _ I h) λc s1 Y=>?_);obtain ⟨e,i,q1⟩:=Y
 cases c with
 | true=>exact j l U s1 Z e Q i q1
 | false=>exact ⟨e,i,q1⟩
theorem acv(ha:PT X a tA)(j:PW X (.BoolOp .Or (b::rest) pos) tB'):PW X (.BoolOp .Or (a::b::rest) pos) (tOr tA tB'):=by
 intro l U s Z H Q I h;refine isTrue_or (thn (ha U s Z H _ I h) λc s1 Y=>?_);obtain ⟨e,i,q1⟩:=Y
 cases c with
 | true=>exact ⟨e,i,q1⟩
 | false=>exact j l U s1 Z e Q i q1
theorem aav(ha:PT X a tA):PT X (.UnaryOp .Not a pos) (acT tA):=by
 intro U s Y H Q I h;exact isTrue_not (ha U s Y H (λc Z=>Q (!c) Z) I h)
def abG(ta tb:TE):TE:=λσ H Q=>ta σ H λx H1=>∃c,x= .bl c/\if c=true then tb σ H1 Q else Q (.bl false) H1
theorem aaN{op}{t:TE}(h:PE X a t):PE X (.BoolOp op [a] pos) t:=λU s Y H Q I Z=>BoolOp_one (h U s Y H Q I Z)
theorem aax(ha:PE X a ta)(l:PE X (.BoolOp .And (b::rest) pos) tb):PE X (.BoolOp .And (a::b::rest) pos) (abG ta tb):=by
 intro U s e H Q I h;refine BoolOp_and (thn (ha U s e H _ I h) λv s1 Y=>?_);obtain ⟨x,Z,i,j,q1⟩:=Y;obtain ⟨c,rfl,q1⟩:=q1;cases j;refine kC ?_
 cases c with
 | true=>exact l U s1 e Z Q i q1
 | false=>exact ⟨.bl false,Z,i,rfl,q1⟩
end
def SqL(K:aE)(H:Hp)(a:Addr)(xs:C1):Prop:=
 Rd H a (.lst xs) \/
  ∃(o:Obj) (Cf:Array a0) (n:Nat),K.lookup a=some o/\o.cls= .type "list" /\ o.dict=none/\o.data= .seq Cf n/\Cf.size<=be/\CA xs Cf.toList
def SqT(K:aE)(H:Hp)(a:Addr)(xs:C1):Prop:=
 Rd H a (.tup xs) \/
  ∃(o:Obj) (Cf:Array a0) (n:Nat),K.lookup a=some o/\o.cls= .type "tuple" /\ o.data= .seq Cf n/\Cf.size<=be/\CA xs Cf.toList
noncomputable def acO:a0->Option V
 | .none=>some .non
 | .bool b=>some (.bl b)
 | .int i _=>some (.int i)
 | .str x _=>some (.str x)
 | .bytes b _=>some (.byt b)
 | .float b _=>some (.flt b)
 | .ref a=>some (.ref a)
 | .type n=>some (.ty n)
 | _=>none
theorem Ct.abs{x:V}(r:Ct x u):acO u=some x:=by
 cases x with
 | non=>cases r;rfl
 | bl _=>cases r;rfl
 | int _=>obtain ⟨t,rfl⟩:=r;rfl
 | str _=>obtain ⟨t,rfl⟩:=r;rfl
 | byt _=>obtain ⟨t,rfl⟩:=r;rfl
 | flt _=>obtain ⟨t,rfl⟩:=r;rfl
 | ref _=>cases r;rfl
 | ty _=>cases r;rfl
theorem Ct.inj{x y:V}(r:Ct x u)(q:Ct y u):x=y:=Option.some.inj (r.abs.symm.trans q.abs)
theorem CA.inj:∀{xs ys:C1}{us:B9},CA xs us->CA ys us->xs=ys
 | _,_,_,.nil,.nil=>rfl
 | _,_,_,.cons r t,.cons U Y=>by rw[r.inj U,CA.inj t Y]
variable {K:aE}
section
variable       {ys:C1}
theorem SqL.of(h:H a=some (.lst xs)):SqL K H a xs:=.inl (.inl h)
theorem SqT.of(h:H a=some (.tup xs)):SqT K H a xs:=.inl (.inl h)
theorem Cs.list(I:Cs X BY σ H s)(h:SqL X.K H a xs):∃Cf:B9,CA xs Cf/\PlainL s.heap a Cf.toArray/\xs.length<=be:=by
 rcases h with h | ⟨o,Cf,n,hk,U,hd,Y,hz,r⟩
 . obtain ⟨z,Cf,n,r,e⟩:=h.ok I.CH;exact ⟨Cf,r,⟨_,n,e,rfl,rfl,rfl⟩,z⟩
 . refine ⟨Cf.toList,r,⟨o,n,I.kIn a o hk,U,hd,by simpa using Y⟩,?_⟩;have e:=r.length;simp only[cx] at e;lia
theorem Cs.tuple(I:Cs X BY σ H s)(h:SqT X.K H a xs):∃Cf:B9,CA xs Cf/\w9 s.heap a Cf.toArray/\xs.length<=be:=by
 rcases h with h | ⟨o,Cf,n,hk,Y,U,hz,r⟩
 . obtain ⟨z,Cf,r,p⟩:=h.ok I.CH;exact ⟨Cf,r,p,z⟩
 . refine ⟨Cf.toList,r,⟨o,I.kIn a o hk,Y,n,by simpa using U⟩,?_⟩;have e:=r.length;simp only[cx] at e;lia
theorem Cs.Ha(I:Cs X BY σ H s)(h:SqL X.K H a xs)(i:SqL X.K H a ys):xs=ys:=by
 obtain ⟨l,r,⟨o,n,e,_,_,d⟩,_⟩:=I.list h;obtain ⟨Y,j,⟨m,p,Z,_,_,U⟩,_⟩:=I.list i;rw[e] at Z;cases Z;rw[d] at U;injection U with d1 _;have:=by simpa using congrArg Array.toList d1
 subst this;exact r.inj j
theorem Cs.Du(I:Cs X BY σ H s)(h:SqT X.K H a xs)(i:SqT X.K H a ys):xs=ys:=by
 obtain ⟨l,r,⟨o,e,_,n,d⟩,_⟩:=I.tuple h;obtain ⟨Y,j,⟨m,Z,_,p,U⟩,_⟩:=I.tuple i;rw[e] at Z;cases Z;rw[d] at U;injection U with d1 _;have:=by simpa using congrArg Array.toList d1
 subst this;exact r.inj j
end
noncomputable abbrev Cx.wish(X:Cx)(E:B3):Cx:={ X with xe:=E }
noncomputable abbrev Cx.nox(X:Cx):Cx:=X.wish λ_ _=>False
theorem Cx.Ok.wish(ok:X.Ok)(E:B3):(X.wish E).Ok:=
 ⟨ok.mod,ok.kind,ok.glob,ok.blt,ok.above,ok.inj,ok.has,ok.cab,ok.hd,ok.frames,ok.stk,ok.exf,ok.bs,ok.bsz,ok.Ba,ok.HD,ok.oO,ok.frf,ok.tabs⟩
theorem Cx.Ok.oA(ok:(X.wish E).Ok):X.Ok:=
 ⟨ok.mod,ok.kind,ok.glob,ok.blt,ok.above,ok.inj,ok.has,ok.cab,ok.hd,ok.frames,ok.stk,ok.exf,ok.bs,ok.bsz,ok.Ba,ok.HD,ok.oO,ok.frf,ok.tabs⟩
theorem Cs.wish(I:Cs X BY σ H s)(E:B3):Cs (X.wish E) BY σ H s:=⟨I.ok.wish E,I.os,I.bare,I.base,I.loc,I.cell,I.free,I.fY,I.pin,I.CH,I.len⟩
theorem Cs.oA(I:Cs (X.wish E) BY σ H s):Cs X BY σ H s:=⟨I.ok.oA,I.os,I.bare,I.base,I.loc,I.cell,I.free,I.fY,I.pin,I.CH,I.len⟩
theorem SP.oA{D:Ends}{f:Flow}(h:SP (X.wish E) BY D f s'):SP X BY D f s':=by
 cases f with
 | next=>obtain ⟨U,Y,I,q⟩:=h;exact ⟨U,Y,I.oA,q⟩
 | brk=>obtain ⟨U,Y,I,q⟩:=h;exact ⟨U,Y,I.oA,q⟩
 | cont=>obtain ⟨U,Y,I,q⟩:=h;exact ⟨U,Y,I.oA,q⟩
 | ret u=>obtain ⟨v,U,Y,I,r,q⟩:=h;exact ⟨v,U,Y,I.oA,r,q⟩
theorem PSs.nox{st:C6}{t:TS}(h:PSs X.nox st t):PSs X st t:=λU s Y H D I Z=>
 eR (h U s Y H D (I.wish _) Z) (λ_ _ q=>q.oA) λ_ _ z=>l9 z
variable {te:TE}{c:Expr}
section
variable  {st:Stmt}{rest:C6}{t u:TS}
def abP:TS:=λD σ H=>D.nx σ H
def ac7(t u:TS):TS:=λD σ H=>t { D with nx:=u D } σ H
theorem XM:PSs X [] abP:=λ_ _ U H _ I h=>rX ⟨U,H,I,h⟩
theorem yU(h1:PS X st t)(h2:PSs X rest u):PSs X (st::rest) (ac7 t u):=by
 intro U s Z H D I h;refine zI (thn (h1 U s Z H { D with nx:=u D } I h) λf s1 q=>?_)
 cases f with
 | next=>
  obtain ⟨Y,e,i,q⟩:=q;exact h2 U s1 Y e D i q
 | ret v=>exact q
 | brk=>exact q
 | cont=>exact q
theorem J9(h1:PS X st t):PSs X [st] t:=by
 intro U s Y H D I h;refine zI (thn (h1 U s Y H D I h) λf s1 q=>?_)
 cases f with
 | next=>exact rX q
 | ret v=>exact q
 | brk=>exact q
 | cont=>exact q
theorem Cs.quiet(I:Cs X BY σ H s):interactive X.env=false:=by simp[interactive,I.ok.kind]
def abF(te:TE):TS:=λD σ H=>te σ H λ_ H1=>D.nx σ H1
theorem rY(l:PE X e te)(hs:i4 e none pos.line X.env=pure false:=by rfl):PS X (.Expr e pos) (abF te):=by
 intro Y s Z H D I h;exact wpAny_Expr_any (thn (l Y s Z H _ I h) λv s1 U=>by obtain ⟨x,i,j,m,q1⟩:=U;exact ⟨Z,i,j,q1⟩) I.quiet hs
def ac1(te:TE):TS:=λD σ H=>te σ H D.rt
theorem Gz(m:PE X e te):PS X (.Return (some e) pos) (ac1 te):=by
 intro Y s Z H D I h;exact wpAny_Return_some (thn (m Y s Z H _ I h) λv s1 U=>by obtain ⟨x,i,l,j,q1⟩:=U;exact ⟨x,Z,i,l,j,q1⟩)
def acU(c:TT)(t u:TS):TS:=λD σ H=>c σ H λb H1=>if b=true then t D σ H1 else u D σ H1
theorem Wl{a b:C6}{i:TT}(m:PT X c i)(ha:PSs X a t)(l:PSs X b u):PS X (.If c a b pos) (acU i t u):=by
 intro U s Z H D I h;refine wpAny_If (thn (m U s Z H _ I h) λd s1 Y=>?_);obtain ⟨e,j,q1⟩:=Y
 cases d with
 | true=>exact ha U s1 Z e D j q1
 | false=>exact l U s1 Z e D j q1
def Rf:TS:=λ_ _ _=>False
theorem Hd:PS X st Rf:=λ_ _ _ _ _ _ h=>h.elim
theorem Ds{U:C6}:PSs X U Rf:=λ_ _ _ _ _ _ h=>h.elim
end
abbrev TG:=V->St->Hp->(St->Hp->Prop)->Prop
abbrev TGs:=C1->St->Hp->(St->Hp->Prop)->Prop
def PG(X:Cx)(target:Expr)(t:TG):Prop:=
 ∀(BY:A6) (s:a8) (σ:St) (H:Hp) (v:V) (u:a0) (Q:St->Hp->Prop),Cs X BY σ H s->Ct v u->t v σ H Q ->
  cf (bX X.prog X.w) X.A (Bi target X.env u) (λ_ s'=>∃σ' H',Cs X BY σ' H' s'/\Q σ' H') X.xe s
def PGs(X:Cx)(ts:C2)(t:TGs):Prop:=
 ∀(BY:A6) (s:a8) (σ:St) (H:Hp) (vs:C1) (us:B9) (Q:St->Hp->Prop),Cs X BY σ H s->CA vs us->t vs σ H Q ->
  cf (bX X.prog X.w) X.A (assignInOrder ((kU ts X.env).map (·.2)) us) (λ_ s'=>∃σ' H',Cs X BY σ' H' s'/\Q σ' H') X.xe s
variable {es:C2}{tg:Expr}
def yZ(i:Nat):TG:=λv σ H Q=>Q (σ.set i (some v)) H
theorem YJ(Y:X.N.Nodup)(hi:X.N[i]?=some x)(hx:Loc X.env.scope x)(Z:X.fn x=true\/X.env.scope.names.lookup x=some .local:=by walk_at "hf"):PG X (.Name x pos) (yZ i):=by
 intro U s l H v u Q I r h;exact wpAny_assign_Name (uO I Y hi hx r (λj e=>⟨_,H,e,h⟩) Z)
def adB:TGs:=λvs σ H Q=>vs=[]/\Q σ H
def abV(t:TG)(u:TGs):TGs:=λvs σ H Q=>∃v r,vs=v::r/\t v σ H λσ' H'=>u r σ' H' Q
theorem Wv:PGs X [] adB:=by
 rintro U s Y H i Z Q I r ⟨e,h⟩;subst e;cases r;exact assignInOrder_nil ⟨Y,H,I,h⟩
theorem Tf{t:TG}{u:TGs}(h1:PG X e t)(h2:PGs X es u)
 (hs:(kU (e::es) X.env).map (·.2)=Bi e X.env::(kU es X.env).map (·.2):=by rfl):PGs X (e::es) (abV t u):=by
 rintro U s m H p x Q I r ⟨v,q,j,h⟩;subst j
 cases r with
 | cons r l=>
  rw[hs];exact assignInOrder_cons (thn (h1 U s m H _ _ _ I r h) λ_ s1 Y=>by obtain ⟨Z,i,o,q1⟩:=Y;exact h2 U s1 Z i _ _ Q o l q1)
def acE(K:aE)(n:Nat)(t:TGs):TG:=λv σ H Q=>∃a xs,v= .ref a/\SqT K H a xs/\xs.length=n/\t xs σ H Q
theorem aby{k:Nat}{t:TGs}{n:Nat}(B:X.calm=true)(h:PGs X es t)
 (C:(kU es X.env).length=n:=by rfl) (Y:(kU es X.env).findIdx? (·.1)=none:=by rfl):PG X (.Tuple es k pos) (acE X.K n t):=by
 rintro U s q H v u Q I r ⟨a,j,i,m,p,l⟩;subst i;cases r;obtain ⟨z,Z,x,hz⟩:=I.tuple m;refine assign_Tuple_tuple (I.ok.hd B) x (by simp[C,<- p,Z.length]) Y λD hx=>?_;have y:=I.kept (t':=s.toks) λb o e=>hx b o (cS (bg e)) e;exact h U _ q H j _ Q y (by simpa using Z) l
def GJ(te:TE)(g:TG):TS:=λD σ H=>te σ H λx H1=>g x σ H1 D.nx
theorem Qt{g:TG}(p:PE X e te)(i:PG X tg g)(hs:swapsWithSole [tg] e pos.line X.env=pure false:=by rfl)(m:swappedStores [tg] e X.env=pure none:=by rfl)
 (h1:(kU [tg] X.env).map (·.2)=[Bi tg X.env]:=by rfl):PS X (.Assign [tg] e pos) (GJ te g):=by
 intro U s Z H D I h;refine wpAny_Assign_stores (thn (p U s Z H _ I h) λv s1 Y=>?_) hs m;obtain ⟨x,j,o,l,q1⟩:=Y;rw[h1];exact thn (i U s1 Z j x v _ o l q1) λ_ r q=>q
theorem Qw{U:Pos}(l:X.N.Nodup)(hi:X.N[i]?=some x)(hx:Loc X.env.scope x)(u:PE X e te)(hs:i4 e (some (.Name x U)) pos.line X.env=pure false:=by rfl)(p:X.fn x=true\/X.env.scope.names.lookup x=some .local:=by walk_at "hf") :
 PS X (.Assign [.Name x U] e pos) (GJ te (yZ i)):=by
 intro Z s q H D I h;refine x8 (thn (u Z s q H _ I h) λv s1 Y=>?_) hs;obtain ⟨y,m,r,j,q1⟩:=Y;exact uO r l hi hx j (λz o=>⟨_,m,o,q1⟩) p
variable {body:C6}
def aae(c:TT)(tb:TS):TS:=λD σ H=>∃W:Nat->St->Hp->Prop,(∃m,W m σ H)/\∀m σ H,W m σ H ->
 c σ H λb H1=>if b=true then ∃N:St->Hp->Prop,(∀σ' H',N σ' H'->∃m',m'<m/\W m' σ' H')/\tb { D with nx:=N,ct:=N,bk:=D.nx } σ H1 else D.nx σ H1
theorem GP{B:TT}{z:TS}(E:ua (bX X.prog X.w) X.A X.env X.xe)(S:PT X c B)(Q:PSs X body z):PS X (.While c body [] pos) (aae B z):=by
 rintro Y s O H D I ⟨W,⟨M,w0⟩,l⟩;refine wpAny_While (codeAny_whileLoop (λn J=>∃e C,Cs X Y e C J/\W n e C) ?_ M ⟨O,H,I,w0⟩);rintro n s1 ⟨Z,r,R,L⟩;refine nh E (thn (S Y s1 Z r _ R (l n Z r L)) λb P i=>?_);obtain ⟨y,x,q2⟩:=i
 cases b with
 | true=>
  obtain ⟨N,u,q2⟩:=q2;rw[if_pos rfl];refine nh E (thn (Q Y P Z y _ x q2) λf s3 q3=>?_)
  cases f with
  | next=>
   obtain ⟨U,j,p,n3⟩:=q3;obtain ⟨q,o,m⟩:=u U j n3;exact ⟨q,o,U,j,p,m⟩
  | cont=>
   obtain ⟨U,j,p,n3⟩:=q3;obtain ⟨q,o,m⟩:=u U j n3;exact ⟨q,o,U,j,p,m⟩
  | brk=>exact q3
  | ret v=>exact q3
 | false=>
  rw[if_neg iO];exact rX ⟨Z,y,x,q2⟩
structure It where
 go:Nat->Hp->Prop
 yld:Nat->Hp->V->Hp->Prop
 stop:Nat->Hp->Prop
def oK(X:Cx)(BY:A6)(H:Hp)(b:Addr):Prop:=
 H b=none/\b≠X.env.locals/\b∉X.fs/\(b∈X.ex\/X.s₀.heap.objs.size<=b)/\(∀x c,X.env.cells.lookup x=some c->c≠b)/\∀p∈X.pn++BY,p.1≠b
theorem Cs.p8{Y:Hp}(I:Cs X BY σ H s)(U:s.heap.objs.size<=b)(i:Y b=none):oK X BY Y b:=by
 refine ⟨i,ny (cK I.lt U),I.acI U,.inr (c5 I.sz U),λx c e z=>?_,λp Z z=>?_⟩
 . obtain ⟨v,q⟩:=I.cell x c e;exact absurd (cK q.lt (by rw[z];exact U)) (fo _)
 . exact absurd (cK (bg (I.pin p Z).1) (by rw[z];exact U)) (fo _)
structure Turn (P:fF) (w:kn) (K:aE) (tg:Expr) (J:It) (fp:C3) (it:Addr) (tn:Nat->Heap->Prop):Prop where
 mem:it∈fp
 obj:∀i h,tn i h->∀b∈fp,∃o,h.get? b=some o/\∀v,o.data ≠ .cell v
 keep:∀i h h',tn i h->(∀b∈fp,∀o,h.get? b=some o->h'.get? b=some o)->tn i h'
 item:∀(X:Cx),X.prog=P->X.w=w->X.K=K->X.calm=true->∀(i:Nat) (BY:A6) (s:a8) (σ:St) (H:Hp) (E:B3),Cs X BY σ H s->(∀b∈fp,oK X BY H b)->tn i s.heap->J.go i H ->
  cf (bX P w) X.A (AG (.ref it)) (λr s1=>∃u,r=some u /\
   cf (bX P w) X.A (AW tg (.ref it) u) (λ_ s2=>∃x H',Cs X BY σ H' s2/\Ct x u/\J.yld i H x H'/\tn (i+1) s2.heap/\∀b∈fp,H' b=none) E s1) E s
 done:∀(X:Cx),X.prog=P->X.w=w->X.K=K->X.calm=true->∀(i:Nat) (BY:A6) (s:a8) (σ:St) (H:Hp) (E:B3),Cs X BY σ H s->(∀b∈fp,oK X BY H b)->tn i s.heap->J.stop i H ->
  cf (bX P w) X.A (AG (.ref it)) (λr s1=>r=none/\Cs X BY σ H s1) E s
 self:∀(A:eK) (i:Nat) (s:a8) (Q:B3) (E:B3),tn i s.heap->Q (.ref it) s->cf (bX P w) A (AH (.ref it)) Q E s
abbrev TI:=St->Hp->(It->Hp->Prop)->Prop
def PIE(X:Cx)(BY:A6)(σ:St)(tg:Expr)(R:It->Hp->Prop)(itv:a0)(s2:a8):Prop:=
 ∃(it:Addr) (fp:C3) (tn:Nat->Heap->Prop) (J:It) (H':Hp),itv= .ref it/\Cs X BY σ H' s2/\Turn X.prog X.w X.K tg J fp it tn/\tn 0 s2.heap/\(∀b∈fp,oK X BY H' b)/\R J H'
def PI(X:Cx)(tg iter:Expr)(wi:TI):Prop:=
 ∀(BY:A6) (s:a8) (σ:St) (H:Hp) (R:It->Hp->Prop),Cs X BY σ H s->wi σ H R ->
  cf (bX X.prog X.w) X.A (eval iter X.env) (λv s1=>cf (bX X.prog X.w) X.A (AH v) (PIE X BY σ tg R) X.xe s1) X.xe s
theorem uW{o:Obj}{n:String}{Y:Array a0}{Q:Unit->a8->Prop}(Z:s.heap.get? a=some o)(e:o.cls= .type n)(hd:o.data= .fields Y)
 (i:["enumerate", "zip", "dict_itemiterator", "dict_reverseitemiterator", "odict_iterator", "itertools.zip_longest", "itertools.pairwise"].contains n=false) (U:Q () s):cf M A (AW tg (.ref a) u) Q E s:=by
 cases tg <;> first
  | exact ar U
  | (cases u <;> first
   | exact ar U
   | (
    refine ae (wpAny_load Z ?_);rw[e,hd];show cf M A (if (["enumerate", "zip", "dict_itemiterator", "dict_reverseitemiterator", "odict_iterator", "itertools.zip_longest", "itertools.pairwise"].contains n&&Y[0]? == some (iF _))=true then _ else _) Q E s;rw[if_neg (by intro h;rw[i,Bool.false_and] at h;cases h)];exact ar U))
noncomputable def Itl(K:aE)(a:Addr):It:=
 ⟨λi H=>∃xs x,SqL K H a xs/\xs[i]?=some x,λi H x H'=>H'=H/\∀xs,SqL K H a xs->xs[i]?=some x,λi H=>∃xs,SqL K H a xs/\xs.length<=i⟩
noncomputable def Itt(K:aE)(a:Addr):It:=
 ⟨λi H=>∃xs x,SqT K H a xs/\xs[i]?=some x,λi H x H'=>H'=H/\∀xs,SqT K H a xs->xs[i]?=some x,λi H=>∃xs,SqT K H a xs/\xs.length<=i⟩
noncomputable def Itr(lo:Int)(n:Nat):It:=⟨λi _=>i<n,λi H x H'=>H'=H/\x= .int (lo+i),λi _=>n<=i⟩
theorem Ro(a it:Addr):Turn P w K tg (Itl K a) [it] it (λi h=>h.IsListIter it a i) where
 mem:=by simp
 obj:=λi h st b U=>by
  have e:=by simpa using U
  subst e;obtain ⟨o,e,c,d⟩:=st;exact ⟨o,e,λv z=>by rw[d] at z;cases z⟩
 keep:=λi h O st k=>st.at λo e=>k it (by simp) o e
 item:=by
  intro X hP J r Q i Y s σ H E I j st m;subst hP J r;obtain ⟨R,x,l,hx⟩:=m;obtain ⟨D,C,p,hz⟩:=I.list l;obtain ⟨u,hu,ru⟩:=C.get hx;obtain ⟨L,q,S,y,M,B⟩:=j it (by simp);refine wpAny_pyNext_list_item st p.isList (by simpa using hu) λO Z sb=>?_;have I1:=I.turned (t':=s.toks) (λb o U e=>(sb.2 b U).trans e) L q y M B;obtain ⟨o,e,c,d⟩:=id Z;exact ⟨u,rfl,uW e c d (by decide) ⟨x,H,I1,ru,⟨rfl,λys hy=>by rw[I.Ha hy l];exact hx⟩,Z,λb U=>(j b U).1⟩⟩
 done:=by
  intro X hP J r Q i Y s σ H E I j st m;subst hP J r;obtain ⟨R,l,hx⟩:=m;obtain ⟨D,C,p,hz⟩:=I.list l;obtain ⟨L,q,S,y,M,B⟩:=j it (by simp);have hl:=C.length;exact wpAny_pyNext_list_end (I.ok.hd Q) st p.isList (by simp;lia) λO eb=>⟨rfl,I.turned (λb o U e=>eb b o U e) L q y M B⟩
 self:=λ_ _ _ _ _ st h=>wpAny_pyIter_listiter st h
theorem Mx(a it:Addr):Turn P w K tg (Itt K a) [it] it (λi h=>h.IsTupleIter it a i) where
 mem:=by simp
 obj:=λi h st b U=>by
  have e:=by simpa using U
  subst e;obtain ⟨o,e,c,d⟩:=st;exact ⟨o,e,λv z=>by rw[d] at z;cases z⟩
 keep:=λi h O st k=>st.at λo e=>k it (by simp) o e
 item:=by
  intro X hP J r Q i Y s σ H E I j st m;subst hP J r;obtain ⟨R,x,l,hx⟩:=m;obtain ⟨D,C,p,hz⟩:=I.tuple l;obtain ⟨u,hu,ru⟩:=C.get hx;obtain ⟨L,q,S,y,M,B⟩:=j it (by simp);refine wpAny_pyNext_tuple_item st (p) (by simpa using hu) λO Z sb=>?_;have I1:=I.turned (t':=s.toks) (λb o U e=>(sb.2 b U).trans e) L q y M B;obtain ⟨o,e,c,d⟩:=id Z;exact ⟨u,rfl,uW e c d (by decide) ⟨x,H,I1,ru,⟨rfl,λys hy=>by rw[I.Du hy l];exact hx⟩,Z,λb U=>(j b U).1⟩⟩
 done:=by
  intro X hP J r Q i Y s σ H E I j st m;subst hP J r;obtain ⟨R,l,hx⟩:=m;obtain ⟨D,C,p,hz⟩:=I.tuple l;obtain ⟨L,q,S,y,M,B⟩:=j it (by simp);have hl:=C.length;exact wpAny_pyNext_tuple_end (I.ok.hd Q) st (p) (by simp;lia) λO eb=>⟨rfl,I.turned (λb o U e=>eb b o U e) L q y M B⟩
 self:=λ_ _ _ _ _ st h=>wpAny_pyIter_tupleiter st h
theorem Ly(it:Addr)(lo:Int)(n:Nat):Turn P w K tg (Itr lo n) [it] it (λi h=>IsRangeIter h it (lo+(i:Nat)*1) ((n:Int) - (i:Nat)) 1) where
 mem:=by simp
 obj:=λi h st b Y=>by
  have e:=by simpa using Y
  subst e;exact ⟨_,st,λv z=>by
   have Q:=z;cases Q⟩
 keep:=λi h u st k=>k it (by simp) _ st
 item:=by
  intro X hP x p B i U s D H E I j st l;subst hP x p;obtain ⟨C,m,J,q,y,r⟩:=j it (by simp);have W:=Walks.range (prog:=X.prog) (w:=X.w) (I.ok.hd B) it lo 1 n;refine W.item i s _ _ l st λv u L hv Z M=>?_;obtain ⟨t,rfl⟩:=hv;have R:Cs X U D H { s with heap:=u,toks:=L }:=I.turned (λb o Y e=>M b o (by simpa using Y) e) C m q y r;refine ⟨_,rfl,uW Z rfl rfl (by decide) ⟨.int (lo+i),H,R,⟨t,?_⟩,⟨rfl,rfl⟩,Z,λb Y=>(j b Y).1⟩⟩;rw[Int.mul_one]
 done:=by
  intro X hP x p B i U s D H E I j st l;subst hP x p;obtain ⟨C,m,J,q,y,r⟩:=j it (by simp);exact wpAny_pyNext_range_end (I.ok.hd B) st (by have:n<=i:=l;lia) λu O=>⟨rfl,I.turned (λb o Y e=>O b o Y e) C m q y r⟩
 self:=λ_ _ _ _ _ st h=>wpAny_pyIter_rangeiter st h
variable {fp:C3}
theorem Us{R:It->Hp->Prop}{lo hi:Int}{t u v:Tok}(I:Cs X BY σ H s)(h1 : -(2^62)<=lo)(h2:lo<2^62)(j : -(2^62)<=hi)(Z:hi<2^62)
 (q:R (Itr lo (hi - lo).toNat) H):cf (bX X.prog X.w) X.A (AH (.ref s.heap.objs.size)) (PIE X BY σ tg R) E { s with heap:=s.heap.push { cls:=.type "range",data:=.fields #[.int lo t,.int hi u,.int 1 v] },toks:=t' }:=by
 refine wpAny_pyIter_range (IsRange.new ..) (small_one h1 h2 j Z) ?_;have U:Cs X BY σ H { s with heap:=s.heap.push { cls:=.type "range",data:=.fields #[.int lo t,.int hi u,.int 1 v] },toks:=t' }:=I.kept λb o e=>av _ e;refine ⟨(s.heap.push { cls:=.type "range",data:=.fields #[.int lo t,.int hi u,.int 1 v] }).objs.size,[(s.heap.push { cls:=.type "range",data:=.fields #[.int lo t,.int hi u,.int 1 v] }).objs.size],_,_,H,rfl,
  U.kept λb o e=>av _ e,Ly _ lo (hi - lo).toNat,?_,λb l=>?_,q⟩
 . have i:lo+((0:Nat):Int)*1=lo:=by simp
   have Y:(((hi - lo).toNat:Nat):Int) - ((0:Nat):Int)=dt lo hi 1:=by rw[rangeSize_one];split <;> lia
   rw[i,Y];exact bo _ rfl
 . have e:b=(s.heap.push { cls:=.type "range",data:=.fields #[.int lo t,.int hi u,.int 1 v] }).objs.size:=by simpa using l
   subst e;exact U.p8 (ax _) (U.CH.fresh (ax _))
def ace(ta:TA):TI:=λσ H R=>ta σ H λvs H1=>∃j:Int,vs=[.int j] /\ -(2^62)<=j/\j<2^62/\R (Itr 0 j.toNat) H1
theorem BZ{Z:TA}{p:Pos}(i:Gl X "range")(m:X.mg "range"= none)(ha:PA X [c] Z)(hs:dk [c] X.env=[(false,eval c X.env)]:=by rfl):PI X tg (.Call (.Name "range" p) [c] [] pos) (ace Z):=by
 intro Y s u H R I h;refine Call_ (kJ I i m boot_range (iq (thn (ha pos Y s u H _ I h) λz s1 U=>?_) hs rfl));obtain ⟨y,x,v,l,q1⟩:=U;obtain ⟨j,e,q1,q2,q⟩:=q1;subst e
 cases l with
 | cons r o=>
  cases o;obtain ⟨t,rfl⟩:=r;exact call_range_1 (Us v (by lia) (by lia) q1 q2 (by simpa using q))
def acJ(wi:TI)(g:TG)(tb:TS):TS:=λD σ H=>wi σ H λJ H1=>∃W:Nat->Nat->St->Hp->Prop,(∃m,W 0 m σ H1)/\∀i m σ H,W i m σ H ->
 (J.stop i H/\D.nx σ H)\/(J.go i H/\∃N:St->Hp->Prop,(∀σ' H',N σ' H'->∃m',m'<m/\W (i+1) m' σ' H')/\∀x H',J.yld i H x H'->g x σ H' λσ2 H2=>tb { D with nx:=N,ct:=N,bk:=D.nx } σ2 H2)
noncomputable def tK(fp:C3)(h:Heap):A6:=fp.filterMap λb=>(h.get? b).map λo=>(b,o)
theorem lH{o:Obj}(U:b∈fp)(e:h.get? b=some o):(b,o)∈tK fp h:=eo.mpr ⟨b,U,by rw[e];rfl⟩
theorem PJ{p:Addr×Obj}(Z:p∈tK fp h):p.1∈fp/\h.get? p.1=some p.2:=by
 obtain ⟨b,U,e⟩:=eo.mp Z
 cases q:h.get? b with
 | none=>rw[q] at e;cases e
 | some o=>
  rw[q] at e;have Y:=Option.some.inj e;subst Y;exact ⟨U,q⟩
theorem Cs.pinned(I:Cs X BY σ H s)(j:∀b∈fp,oK X BY H b)(l:∀b∈fp,∃o,s.heap.get? b=some o/\∀v,o.data ≠ .cell v):Cs X (BY++tK fp s.heap) σ H s:=
 I.Kv λp q=>(de.mp q).elim (λz=>I.pin p (cc _ z)) λz=>by
  obtain ⟨U,e⟩:=PJ z;obtain ⟨i,Z,m,_⟩:=j p.1 U;obtain ⟨o,Y,d⟩:=l p.1 U;rw[e] at Y;cases Y;exact ⟨e,i,Z,m,d⟩
theorem Cs.pR{U:A6}(I:Cs X (BY++U) σ H s):Cs X BY σ H s:=I.Kv λp Y=>I.pin p (cc _ (dQ _ Y))
theorem QH{wi:TI}{g:TG}{tb:TS}(L:ua (bX X.prog X.w) X.A X.env X.xe)(hc:X.calm=true)(hi:PI X tg c wi)(hg:PG X tg g)(p:PSs X body tb)
 (hs:∀x,jv c X.env x=pure x:=by intro _;rfl):PS X (.For tg c body [] pos) (acJ wi g tb):=by
 intro Z s σ H D I h;refine wpAny_For (thn (hi Z s σ H _ I h) λv s1 h1=>thn h1 λitv s2 h2=>?_) hs;obtain ⟨it,M,tn,J,H2,e,I2,T,st2,f2,W,⟨m0,w0⟩,Q⟩:=h2;subst e;have q:∀{H':Hp},(∀b∈M,H' b=none)->∀b∈M,oK X Z H' b:=λhn b p=>⟨hn b p,(f2 b p).2⟩;refine codeAny_forLoop_any (λn s'=>∃i l H',Cs X Z l H' s'/\tn i s'.heap/\(∀b∈M,H' b=none)/\W i n l H') ?_ m0 ⟨0,σ,H2,I2,st2,λb p=>(f2 b p).1,w0⟩;rintro n s3 ⟨i,j,R,I3,P,O,w3⟩;rcases Q i n j R w3 with ⟨stop,qn⟩ | ⟨go,N,hN,step⟩
 . refine nh L (thn (T.done X rfl rfl rfl hc i Z s3 j R X.xe I3 (q O) P stop) λr s4 U=>?_);obtain ⟨hr,I4⟩:=U;subst hr;exact rX ⟨j,R,I4,qn⟩
 . refine nh L (thn (T.item X rfl rfl rfl hc i Z s3 j R X.xe I3 (q O) P go) λr s4 U=>?_);obtain ⟨u,hr,h4⟩:=U;subst hr;refine nh L (thn h4 λ_ s5 U=>?_);obtain ⟨x,H5,I5,r5,y5,C,fr5⟩:=U;have S:=I5.pinned (q fr5) (T.obj _ _ C);refine nh L (thn (hg _ s5 j H5 x u _ S r5 (step x H5 y5)) λ_ s6 U=>?_);obtain ⟨σ6,H6,I6,q6⟩:=U;refine nh L (thn (p _ s6 σ6 H6 _ I6 q6) λf s7 B=>?_);have again:∀{Y:St}{z:Hp},Cs X (Z++tK M s5.heap) Y z s7->N Y z->∃m,m<n/\∃i l H',Cs X Z l H' s7/\tn i s7.heap/\(∀b∈M,H' b=none)/\W i m l H':=λ{Y z} y E=>by
    obtain ⟨m',hm,w7⟩:=hN Y z E;refine ⟨m',hm,i+1,Y,z,y.pR,T.keep _ _ _ C λb p o e=>(y.pin (b,o) (cc _ (cc _ (lH p e)))).1,λb p=>?_,w7⟩;obtain ⟨o,e,d⟩:=T.obj _ _ C b p;exact (y.pin (b,o) (cc _ (cc _ (lH p e)))).2.1
   cases f with
   | next=>obtain ⟨Y,z,y,E⟩:=B;exact again y E
   | cont=>obtain ⟨Y,z,y,E⟩:=B;exact again y E
   | brk=>obtain ⟨Y,z,y,B⟩:=B;exact ⟨Y,z,y.pR,B⟩
   | ret v=>obtain ⟨x7,Y,z,y,r7,B⟩:=B;exact ⟨x7,Y,z,y.pR,r7,B⟩
abbrev R2:=V->V->Hp->VK->Prop
def OpR(X:Cx)(f:a0->a0->Sem a0)(r:R2):Prop:=
 ∀(BY:A6) (s:a8) (σ:St) (H:Hp) (x y:V) (v u:a0) (Q:VK),Cs X BY σ H s->Ct x v->Ct y u->r x y H Q ->
  cf (bX X.prog X.w) X.A (f v u) (EP X BY σ Q) X.xe s
def UnR(X:Cx)(f:a0->Sem a0)(r:V->Hp->VK->Prop):Prop:=
 ∀(BY:A6) (s:a8) (σ:St) (H:Hp) (x:V) (v:a0) (Q:VK),Cs X BY σ H s->Ct x v->r x H Q ->
  cf (bX X.prog X.w) X.A (f v) (EP X BY σ Q) X.xe s
def eH(X:Cx)(f:a0)(r:C1->Hp->VK->Prop):Prop:=
 ∀(BY:A6) (s:a8) (σ:St) (H:Hp) (xs:C1) (us:B9) (Q:VK),Cs X BY σ H s->CA xs us->r xs H Q ->
  cf (bX X.prog X.w) X.A (call f us) (EP X BY σ Q) X.xe s
def ac2(X:Cx)(r:V->Hp->(Bool->Hp->Prop)->Prop):Prop:=
 ∀(BY:A6) (s:a8) (σ:St) (H:Hp) (x:V) (v:a0) (Q:Bool->Hp->Prop),Cs X BY σ H s->Ct x v->r x H Q ->
  cf (bX X.prog X.w) X.A (truthy v) (TP X BY σ Q) X.xe s
def tOp(r:R2)(ta tb:TE):TE:=λσ H Q=>ta σ H λx H1=>tb σ H1 λy H2=>r x y H2 Q
def tUn(r:V->Hp->VK->Prop)(ta:TE):TE:=λσ H Q=>ta σ H λx H1=>r x H1 Q
def rI(C:Int->Int->Prop)(g:Int->Int->V):R2:=λx y H Q=>∃i j,x= .int i/\y= .int j/\C i j/\Q (g i j) H
def rI0(g:Int->Int->V):R2:=λx y H Q=>∃i j,x= .int i/\y= .int j/\Q (g i j) H
def rU(g:Int->V):V->Hp->VK->Prop:=λx H Q=>∃i,x= .int i/\Q (g i) H
variable {r:R2}{g:Int->Int->Int}
section
variable  {a b:Expr}{ta tb tc:TE}
theorem Vx(ha:PE X a ta)(m:PE X b tb){R:V->V->Hp->Prop}(I:Cs X BY σ H s)
 (h:ta σ H λx H1=>tb σ H1 λy H2=>R x y H2) {f:a0->a0->Sem a0}
 (l:∀v u s2 x y H2,Cs X BY σ H2 s2->Ct x v->Ct y u->R x y H2->cf (bX X.prog X.w) X.A (f v u) Q X.xe s2) :
 cf (bX X.prog X.w) X.A (eval a X.env) (λv Y=>cf (bX X.prog X.w) X.A (eval b X.env) (λu U=>cf (bX X.prog X.w) X.A (f v u) Q X.xe U) X.xe Y) X.xe s:=by
 refine thn (ha BY s σ H _ I h) λv s1 ⟨x,H1,o,e,q1⟩=>thn (m BY s1 σ H1 _ o q1) λu s2 Z=>?_;obtain ⟨y,H2,j,i,q2⟩:=Z;exact l v u s2 x y H2 j e i q2
theorem K8{Y:Operator}(e:OpR X (f6 Y) r)(ha:PE X a ta)(o:PE X b tb):PE X (.BinOp a Y b pos) (tOp r ta tb):=by
 intro U s l H Q I h;exact wpAny_BinOp (Vx ha o I h λv u m x y i Z j p q=>e U m l i x y v u Q Z j p q)
theorem ab3{Z:UnaryOp}{r:V->Hp->VK->Prop}(l:UnR X (unaryOp Z) r)(ha:PE X a ta):PE X (.UnaryOp Z a pos) (tUn r ta):=by
 intro U s e H Q I h;exact UnaryOp_ (thn (ha U s e H _ I h) λv s1 Y=>by obtain ⟨x,i,m,j,q1⟩:=Y;exact l U s1 e i x v Q m j q1)
theorem opI{f:a0->a0->Sem a0}{C:Int->Int->Prop}
 (rule:∀(i j:Int) (t u:Tok) (s:a8) (Q:B3) (E:B3),C i j->Q (.int (g i j) s.toks) { s with toks:=s.toks+1 }->cf (bX X.prog X.w) X.A (f (.int i t) (.int j u)) Q E s) :
 OpR X f (rI C λi j=>.int (g i j)):=by
 rintro U s m H x y v u Q I Z l ⟨i,j,rfl,rfl,Y,q⟩;obtain ⟨t,rfl⟩:=Z;obtain ⟨e,rfl⟩:=l;exact rule i j t e s _ _ Y ⟨.int (g i j),H,I.tok _,⟨_,rfl⟩,q⟩
theorem Fp{f:a0->a0->Sem a0}
 (rule:∀(i j:Int) (t u:Tok) (s:a8) (Q:B3) (E:B3),Q (.int (g i j) s.toks) { s with toks:=s.toks+1 }->cf (bX X.prog X.w) X.A (f (.int i t) (.int j u)) Q E s) :
 OpR X f (rI0 λi j=>.int (g i j)):=by
 rintro U s l H x y v u Q I Y e ⟨i,j,rfl,rfl,q⟩;obtain ⟨t,rfl⟩:=Y;obtain ⟨Z,rfl⟩:=e;exact rule i j t Z s _ _ ⟨.int (g i j),H,I.tok _,⟨_,rfl⟩,q⟩
theorem Ul{f:a0->a0->Sem a0}{g:Int->Int->Bool}
 (rule:∀(i j:Int) (t u:Tok) (s:a8) (Q:B3) (E:B3),Q (.bool (g i j)) s->cf (bX X.prog X.w) X.A (f (.int i t) (.int j u)) Q E s) :
 OpR X f (rI0 λi j=>.bl (g i j)):=by
 rintro U s l H x y v u Q I Y e ⟨i,j,rfl,rfl,q⟩;obtain ⟨t,rfl⟩:=Y;obtain ⟨Z,rfl⟩:=e;exact rule i j t Z s _ _ ⟨.bl (g i j),H,I,rfl,q⟩
def Bj(i j:Int):Prop:=0<j/\j<1073741824
def Uv(i j:Int):Prop:=0<=j/\j<=1000000/\i.natAbs<2^64
def uf(i j:Int):Prop:=(-(2^64)<i/\i<2^64)\/(-(2^64)<j/\j<2^64)
theorem uf.ok{i j:Int}(h:uf i j):IntMulOk i j:=by
 rcases h with ⟨h1,h2⟩ | ⟨h1,h2⟩
 . exact .of_left (intBits_le_64 h1 h2)
 . exact .of_right (intBits_le_64 h1 h2)
theorem two_pow_nn(k:Nat):(0:Int)<=2^k:=by
 rw[two_pow_cast];exact Int.natCast_nonneg _
theorem aaa:OpR X (f6 .Add) (rI0 λi j=>.int (i+j)):=Fp λ_ _ _ _ _ _ _ q=>add_int q
theorem Zi:OpR X (f6 .Sub) (rI0 λi j=>.int (i - j)):=Fp λ_ _ _ _ _ _ _ q=>sub_int q
theorem aan:OpR X (f6 .Mult) (rI uf λi j=>.int (i*j)):=opI λ_ _ _ _ _ _ _ U q=>mul_int q U.ok
theorem W8:OpR X (f6 .FloorDiv) (rI Bj λi j=>.int (i / j)):=opI λi j _ _ _ _ _ U q=>by
 have h1:=U.1;have h2:=U.2;exact floordiv_int (by lia) (by rw[xb i (by lia)];exact q) (.inl (AI (by lia)))
theorem Zx:OpR X (f6 .Mod) (rI (λ_ j=>0<j) λi j=>.int (i % j)):=opI λi j _ _ _ _ _ U q=>by
 have h1:=U;exact mod_int' (by lia) (by rw[Int.fmod_eq_emod_of_nonneg i (by lia)];exact q)
theorem ZW:OpR X (f6 .RShift) (rI (λ_ j=>0<=j) λi j=>.int (i / 2^j.toNat)):=opI λi j _ _ _ _ _ U q=>
 rshift_int U (by rw[xb i (two_pow_nn _)];exact q)
theorem aaS:OpR X (f6 .BitAnd) (rI0 λi j=>.int (fE i j)):=Fp λ_ _ _ _ _ _ _ q=>and_int q
theorem acx:OpR X (f6 .BitOr) (rI0 λi j=>.int (jI i j)):=Fp λ_ _ _ _ _ _ _ q=>or_int q
theorem aaG:OpR X (f6 .BitXor) (rI0 λi j=>.int (lI i j)):=Fp λ_ _ _ _ _ _ _ q=>xor_int q
theorem unI{f:a0->Sem a0}{g:Int->Int}
 (rule:∀(i:Int) (t:Tok) (s:a8) (Q:B3) (E:B3),Q (.int (g i) s.toks) { s with toks:=s.toks+1 }->cf (bX X.prog X.w) X.A (f (.int i t)) Q E s) :
 UnR X f (rU λi=>.int (g i)):=by
 rintro U s Z H x v Q I Y ⟨i,rfl,q⟩;obtain ⟨t,rfl⟩:=Y;exact rule i t s _ _ ⟨.int (g i),H,I.tok _,⟨_,rfl⟩,q⟩
theorem aar:UnR X (unaryOp .Invert) (rU λi=>.int (gz i)):=unI λ_ _ _ _ _ q=>invert_int q
theorem Qf:OpR X (f6 .Add) (λx y H Q=>∃i k,x= .int i/\y= .bl k/\Q (.int (i+b2i k)) H):=by
 rintro U s e H x y v u Q I Y Z ⟨i,k,rfl,rfl,q⟩;obtain ⟨t,rfl⟩:=Y;cases Z;exact add_int_bool ⟨.int (i+b2i k),H,I.tok _,⟨_,rfl⟩,q⟩
end
variable {op:CmpOp}
section
variable  {a b:Expr}{ta tb tc:TE}
theorem aaj{Q:VK}{k U:Bool}(I:Cs X BY σ H s)(q:Q (.bl k) H)(e:k=U):EP X BY σ Q (.bool U) s:=by
 subst e;exact ⟨.bl k,H,I,rfl,q⟩
theorem abI:OpR X (fR .Lt) (rI0 λi j=>.bl (decide (i<j))):=Ul λ_ _ _ _ _ _ _ q=>lt_int q
theorem abM:OpR X (fR .LtE) (rI0 λi j=>.bl (decide (i<=j))):=Ul λ_ _ _ _ _ _ _ q=>le_int q
theorem abZ:OpR X (fR .Gt) (rI0 λi j=>.bl (decide (j<i))):=Ul λ_ _ _ _ _ _ _ q=>gt_int q
theorem Za:OpR X (fR .Is) (λx y H Q=>y= .non/\Q (.bl (decide (x= .non))) H):=by
 rintro Y s e H x y v u Q I U Z ⟨rfl,q⟩;cases Z;refine is_none_gen (aaj I q ?_);cases x <;> first
  | (cases U;rfl)
  | (obtain ⟨t,rfl⟩:=U;rfl)
theorem nU(b:Expr)(h:op ≠ .In:=by decide)(h2:op ≠ .NotIn:=by decide):pj op b=false:=by
 have U:(op == CmpOp.In)=false:=by cases op <;> first | rfl | exact absurd rfl h
 have Y:(op == CmpOp.NotIn)=false:=by cases op <;> first | rfl | exact absurd rfl h2
 cases b <;> simp[pj,U,Y]
theorem YD(Z:OpR X (fR op) r)(ha:PE X a ta)(o:PE X b tb)(j:pj op b=false):PE X (.Compare a [op] [b] pos) (tOp r ta tb):=by
 intro U s l H Q I h;exact wpAny_Compare1 (Vx ha o I h λv u m x y e Y i p q=>Z U m l e x y v u Q Y i p q) j
def Nv(t:TE):TT:=λσ H Q=>t σ H λx H'=>∃k,x= .bl k/\Q k H'
theorem WY(m:OpR X (fR op) r)(ha:PE X a ta)(D:PE X b tb)(B:pj op b=false):PT X (.Compare a [op] [b] pos) (Nv (tOp r ta tb)):=by
 intro U s Y H Q I h;refine wpAny_isTrue_Compare1 (thn (ha U s Y H _ I h) λv s1 ⟨x,Z,E,i,q1⟩=>thn (D U s1 Y Z _ E q1) λu C ⟨y,o,l,j,q2⟩=>
  thn (m U C Y o x y v u _ l i j q2) λc L ⟨z,J,p,q,k,e,q3⟩=>?_) B
 subst e;cases q;exact kC ⟨J,p,q3⟩
def O7(r r':R2)(ta tb tc:TE):TE:=λσ H Q=>ta σ H λx H1=>tb σ H1 λy H2=>r x y H2 λz H3=>∃k,z= .bl k /\
 (if k=true then tc σ H3 λw' H4=>r' y w' H4 Q else Q (.bl false) H3)
theorem RT{Y:CmpOp}{l:R2}(L:OpR X (fR op) r)(j:OpR X (fR Y) l)(ha:PE X a ta)(hb:PE X b tb)(hc:PE X c tc)
 (P:lastMarks [op,Y] [b,c]=false:=by with_unfolding_all rfl):PT X (.Compare a [op,Y] [b,c] pos) (Nv (O7 r l ta tb tc)):=by
 intro U s Z H Q I h;refine isTrue_chain (thn (ha U s Z H _ I h) λv s1 ⟨x,B,I1,C,q1⟩=>test_link (thn (hb U s1 Z B _ I1 q1) λu s2 ⟨y,M,D,m,q2⟩=>
  thn (L U s2 Z M x y v u _ D C m q2) λd s3 ⟨z,p,o,O,k,e,q3⟩=>?_)) P
 subst e;cases O;refine kC ?_
 cases k with
 | false=>
  obtain ⟨k',e',q'⟩:=q3;cases e';exact ite_ff ⟨p,o,q'⟩
 | true=>
  refine ite_tt (test_last (thn (hc U s3 Z p _ o q3) λw' E ⟨z',S,I4,r4,q4⟩=>thn (j U E Z S y z' u w' _ I4 m r4 q4) λd' s5 i=>?_));obtain ⟨z2,q,R,r5,k2,J,q5⟩:=i;subst J;cases r5;exact kC ⟨q,R,q5⟩
def Zb(K:aE)(x:V)(H:Hp)(k:Bool):Prop:=
 match x with
 | .non=>k=false
 | .bl b=>k=b
 | .int i=>k=(i != 0)
 | .str y=>y.length<=be/\k=((y.length:Int) != 0)
 | .byt y=>y.size<=be/\k=((y.size:Int) != 0)
 | .ref p=>(∃xs,SqL K H p xs/\k= !xs.isEmpty)\/(∃xs,SqT K H p xs/\k= !xs.isEmpty)\/∃Cb,H p=some (.dK Cb)/\k= !Cb.isEmpty
 | _=>False
theorem M4{Y:Type}{U:List (Y×V)}{Z:List (Y×a0)}(r:KV U Z):(!Z.isEmpty)= !U.isEmpty:=by
 cases r <;> rfl
theorem zB(r:CA xs us):(!us.toArray.isEmpty)= !xs.isEmpty:=by
 cases r <;> simp
theorem tR:(be:Nat)<2^63:=by rw[sizeLine_eq];decide
theorem ZX:ac2 X (λx H Q=>∃k,Zb X.K x H k/\Q k H):=by
 rintro u s E H x v Q I Z ⟨k,e,q⟩;have D:=tR;have C:=sizeLine_eq
 cases x with
 | non=>
  cases Z;have U:=e;subst U;exact truthy_none ⟨H,I,q⟩
 | bl b=>
  cases Z;have U:=e;subst U;exact kC ⟨H,I,q⟩
 | int i=>
  obtain ⟨t,rfl⟩:=Z;have U:=e;subst U;exact PySem.P.truthy_int ⟨H,I,q⟩
 | str y=>
  obtain ⟨t,rfl⟩:=Z;obtain ⟨hy,U⟩:y.length<=be/\k=((y.length:Int) != 0):=e;subst U;exact PySem.P.truthy_str (by lia) ⟨H,I.tok _,q⟩
 | byt y=>
  obtain ⟨t,rfl⟩:=Z;obtain ⟨hy,U⟩:y.size<=be/\k=((y.size:Int) != 0):=e;subst U;exact PySem.W.truthy_bytes (by lia) ⟨H,I.tok _,q⟩
 | ref p=>
  cases Z;have U:=e;rcases U with ⟨z,hx,U⟩ | ⟨z,hx,U⟩ | ⟨j,hx,U⟩
  . subst U;obtain ⟨o,r,l,hz⟩:=I.list hx;have Y:=r.length;exact wpAny_truthy_list l.isList (by simp only[br];lia) ⟨H,I.tok _,by rw[zB r];exact q⟩
  . subst U;obtain ⟨o,r,l,hz⟩:=I.tuple hx;have Y:=r.length;exact truthy_tuple l (by simp only[br];lia) ⟨H,I.tok _,by rw[zB r];exact q⟩
  . subst U;obtain ⟨hz,B,vs,r,m⟩:j.length<=be/\(p == ke)=false/\∃vs,KV j vs/\s.heap.DictOf (bu X.prog X.w) p vs:=I.CH p _ hx;have Y:=oy.length r;exact wpAny_truthy_dict B m (by lia) ⟨H,I.tok _,by rw[M4 r];exact q⟩
 | _=>exact (e).elim
theorem U8(ha:PE X a ta)(j:∀whole,BM a X.env whole=(do let v <- whole;standAt a.pos;holding [v] (truthy v))) :
 PT X a (λσ H Q=>ta σ H λx H'=>∃k,Zb X.K x H' k/\Q k H'):=by
 intro U s σ H Q I h;exact isTrue_plain (thn (ha U s σ H _ I h) λv s1 Y=>by obtain ⟨x,Z,i,e,q1⟩:=Y;exact ZX U s1 σ Z x v Q i e q1) (j _)
theorem Mi:OpR X (f6 .Add) (λx y H Q=>∃i j,x= .str i/\y= .str j/\i.length+j.length<=be/\Q (.str (i++j)) H):=by
 rintro U s l H x y v u Q I Y e ⟨i,j,rfl,rfl,hz,q⟩;obtain ⟨t,rfl⟩:=Y;obtain ⟨Z,rfl⟩:=e;exact add_str (λZ m=>⟨.str (i++j),H,I.tok _,⟨_,rfl⟩,q⟩) hz
theorem vals1{x:V}(r:CA [x] us):∃u,us=[u]/\Ct x u:=by
 cases r with
 | cons Y U=>cases U;exact ⟨_,rfl,Y⟩
end
theorem mL.some_of{o:B8}(r:mL (some v) o):∃u,o=some u/\Ct v u:=by
 cases o with
 | none=>exact (r).elim
 | some u=>exact ⟨u,rfl,r⟩
structure cA (k:Nat) (A:eK):Prop where
 hd:A.handled=none
 dp:A.depth+3*k+5<recursionLimit
 un:A.units+16*k+200<qE
theorem cA.mono{j k:Nat}(r:cA k A)(h:j<=k):cA j A:=⟨r.hd,by have:=r.dp;lia,by have:=r.un;lia⟩
theorem cA.deeper{k:Nat}(r:cA (k+1) A)(env:Env):cA k (A.deeper env):=
 ⟨r.hd,by have:=r.dp;show A.depth+1+3*k+5<_;lia,by have:=r.un;show A.units+3+16*k+200<_;lia⟩
theorem cA.depth{k:Nat}(r:cA k A):A.depth<recursionLimit:=by have:=r.dp;lia
theorem cA.units{k:Nat}(r:cA k A):A.units+64<qE:=by have:=r.un;lia
def ada:TA:=λ_ H Q=>Q [] H
def ab1(ta:TE)(tr:TA):TA:=λσ H Q=>ta σ H λx H1=>tr σ H1 λxs H2=>Q (x::xs) H2
section
variable     {t:TA}
theorem eO:PA X [] ada:=λ_ _ _ _ H Q I h=>qa ⟨[],H,I,.nil,h⟩
theorem cC(ha:PE X e te)(r:PA X es t)(hs:dk (e::es) X.env=(false,eval e X.env)::dk es X.env:=by rfl):PA X (e::es) (ab1 te t):=by
 intro Z Y s i H Q I h;rw[hs];exact kX (thn (ha Y s i H _ I h) λu s1 U=>by obtain ⟨x,j,v,l,q1⟩:=U;exact thn (r Z Y s1 i j _ v q1) λz y U=>by obtain ⟨o,q,p,m,q2⟩:=U;exact ⟨x::o,q,p,.cons l m,q2⟩)
def adn(t:TA):TE:=λσ H Q=>t σ H λxs H1=>xs.length<=be/\∀p,H1 p=none->Q (.ref p) (CB H1 p (.tup xs))
def adw(t:TA):TE:=λσ H Q=>t σ H λxs H1=>xs.length<=be/\∀p,H1 p=none->Q (.ref p) (CB H1 p (.lst xs))
theorem aam{x1}(h:PA X es t):PE X (.Tuple es x1 pos) (adn t):=by
 intro U s m H Q I j;refine wd (thn (h pos U s m H _ I j) λo s1 ⟨i,Z,Y,r,z,q⟩=>⟨by rw[<- r.length];exact z,?_⟩);have l:=Y.CH.fresh (ax _);refine ⟨.ref s1.heap.objs.size,CB Z s1.heap.objs.size (.tup i),Y.laid (λb u e=>av _ e) (ax _) ?_,rfl,q _ l⟩;exact ⟨z,o,r,⟨_,bo _ rfl,rfl,_,rfl⟩⟩
theorem Z3(h:PA X es t):PE X (.List es pos) (adw t):=by
 intro U s m H Q I j;refine wpAny_List_spliced (thn (h pos U s m H _ I j) λo s1 ⟨i,Z,Y,r,z,q⟩=>⟨by rw[<- r.length];exact z,?_⟩);have l:=Y.CH.fresh (ax _);refine ⟨.ref s1.heap.objs.size,CB Z s1.heap.objs.size (.lst i),Y.laid (λb u e=>av _ e) (ax _) ?_,rfl,q _ l⟩;exact ⟨z,o,0,r,bo _ rfl⟩
end
abbrev Sp:=C1->Hp->VK->XK->Prop
abbrev CXT:=C7->Hp->a8->XK->a0->a8->Prop
structure M8 (P:fF) (w:kn) (K:aE) (mg:Str->B8) (base:Heap) (A:eK) (CU:C7) (s:a8) (H:Hp):Prop where
 frames:A.frames=some CU
 mod:Mod K mg base
 bs:∀b o,base.get? b=some o->s.heap.get? b=some o/\H b=none
 bsz:base.objs.size<=s.heap.objs.size
 oO:s.heap.FunFrames base CU
 frf:∀b∈frs CU,H b=none
 CH:HOk P w H s.heap
 bare:wh s.gens
 tabs:∀P,TabAt K mg P->H P=some (.tbl iz)
def CE(CU:C7)(P:fF)(w:kn)(H:Hp)(s:a8)(Q:VK)(u:a0)(s':a8):Prop:=
 ∃v H',s'.os=s.os/\wh s'.gens/\Un (frs CU) [] H H' s.heap s'.heap/\HOk P w H' s'.heap/\Ct v u/\Q v H'
def CR(CX:CXT)(CU:C7)(P:fF)(w:kn)(H:Hp)(s:a8)(Q:VK)(E:XK)(r:Result)(s':a8):Prop:=
 match r with
 | .ok (.ret u)=>CE CU P w H s Q u s'
 | .ok _=>False
 | .error e=>CX CU H s E e s'
structure oM (P:fF) (w:kn) (K:aE) (mg:Str->B8) (base:Heap) (CX:CXT) (k:Nat) (f:Addr) (fd:oi) (ps:B7) (sp:Sp):Prop where
 len:∀vs H Q E,sp vs H Q E->vs.length=ps.length
 run:∀(A:eK) (CU:C7) (s:a8) (H:Hp) (args:Args) (us:B9) (vs:C1) (Q:VK) (E:XK),cA k A->M8 P w K mg base A CU s H->BindsTo s fd args (ps.zip us)->CA vs us->sp vs H Q E ->
  sC (bX P w) A (.call (.ref f) args) (CR CX CU P w H s Q E) s
theorem Cs.env0(I:Cs X BY σ H s):M8 X.prog X.w X.K X.mg X.base X.A X.stack s H:=
 ⟨I.ok.frames,I.ok.mod,I.bs,c5 I.ok.bsz I.sz,I.stack,I.BR,I.CH,I.bare,λP h=>I.base.gm _ _ (I.ok.tabs P h)⟩
theorem Cs.after{Q:VK}(I:Cs X BY σ H s)(h:CE X.stack X.prog X.w H s Q u s'):EP X BY σ Q u s':=by
 obtain ⟨v,Y,os,bare,un,CH,r,q⟩:=h;obtain ⟨hh,g,d,t,U⟩:=s';obtain rfl:U=s.os:=os;exact ⟨v,Y,I.call un CH bare (λb z=>absurd z (by simp)),r,q⟩
def VJ(sp:Sp)(dvs:C1)(E:XK)(t:TA):TE:=λσ H Q=>t σ H λvs H1=>sp (vs++dvs) H1 Q E
def Binds(K:aE)(fd:oi)(ps:B7)(ds:B9):Prop:=
 ∀(s:a8) (us:B9),K.In s.heap->(us++ds).length=ps.length->BindsTo s fd ⟨us,[]⟩ (ps.zip (us++ds))
variable {ps:B7}
theorem Binds.all{fd:oi}(h:∀us:B9,us.length=ps.length->kD fd ⟨us,[]⟩=pure (ps.zip us)):Binds K fd ps []:=λs us _ U=>by
 rw[cy] at U ⊢;exact .of_eq (h us U)
def Passes(CX:CXT)(X:Cx)(E:XK):Prop:=∀(BY:A6) (σ:St) (H:Hp) (s:a8) (e:a0) (s':a8),Cs X BY σ H s->CX X.stack H s E e s'->X.xe e s'
section
variable  {CX:CXT}{k:Nat}{f C:Addr}{fd:oi}  {sp:Sp}{dvs:C1}{ds:B9}{E:XK}{m:Str}{p apos:Pos}{o:Expr}  {ta:TE}{t:TA}
theorem ZV{Q:VK}(F:oM X.prog X.w X.K X.mg X.base CX k f fd ps sp)(i:cA k X.A)(j:Binds X.K fd ps ds)(hd:CA dvs ds)(hx:Passes CX X E)
 (I:Cs X BY σ H s) (r:CA xs us) (h:sp (xs++dvs) H Q E):cf (bX X.prog X.w) X.A (call (.ref f) us) (EP X BY σ Q) X.xe s:=by
 have Y:=r.append hd;have Z:(us++ds).length=ps.length:=by rw[<- Y.length];exact F.len _ _ _ _ h
 refine AJ (qA (F.run X.A X.stack s H ⟨us,[]⟩ (us++ds) (xs++dvs) Q E i I.env0 (j s us I.kIn Z) Y h) λr l U=>?_)
 cases r with
 | error e=>exact hx BY σ H s e l I U
 | ok fl=>
  cases fl with
  | ret u=>exact I.after U
  | next=>exact l9 U
  | brk=>exact l9 U
  | cont=>exact l9 U
theorem XD(F:oM X.prog X.w X.K X.mg X.base CX k f fd ps sp)(m:cA k X.A)(i:Gl X x)(j:X.mg x=some (.ref f))(hk:kF X.K (.ref f)=true)(o:Binds X.K fd ps ds)(hd:CA dvs ds)(hx:Passes CX X E)
 (ha:PA X (e::es) t) (Y:nD x:=by decide) (u:dk (e::es) X.env=(false,eval e X.env)::dk es X.env:=by rfl) (hpl:(nS pos (dk es X.env)).any (·.1)=false:=by rfl) :
 PE X (.Call (.Name x p) (e::es) [] pos) (VJ sp dvs E t):=by
 intro U s l H Q I h;refine k6 (jZ I i j ?_ Y);refine xc I.ok.mod.kin hk (thn (ha pos U s l H _ I h) λz s1 ⟨y,v,Z,r,q⟩=>⟨Z.kIn,?_⟩) u hpl;exact ZV F m o hd hx Z r q
end
structure cO (N P:B7) (sc:xa):Prop where
 kind:sc.kind= .function
 co:sc.isCoroutine=false
 gen:sc.isGenerator=false
 nd:N.Nodup
 pre:N.take P.length=P
 par:∀x∈P,sc.names.lookup x=some .local\/sc.names.lookup x=some .cell
 Zu:∀y∈sc.names,y.2 ≠ .free
theorem Dw{kindOf:Str->Option gi}:∀{binds:List (Str×a0)}{m:Str->B8},(∀v,(x,v)∉binds)->bindL kindOf binds m x=m x
 | [],_,_=>rfl
 | (n,v)::r,m,h=>by
  rw[bindL,Dw λw U=>h w (a6 _ U)];split
  . have:x≠n:=by rintro rfl;exact h v a7
    simp[this]
  . rfl
theorem CZ{kindOf:Str->Option gi}:∀{binds:List (Str×a0)}{m:Str->B8},(∀v,(x,v)∉binds)->bindC kindOf binds m x=m x
 | [],_,_=>rfl
 | (n,v)::r,m,h=>by
  rw[bindC,CZ λw U=>h w (a6 _ U)];split
  . rfl
  . have:x≠n:=by rintro rfl;exact h v a7
    simp[this]
theorem Cg{kindOf:Str->Option gi}{v:a0}:∀{P:B7}{vs:B9}{i:Nat}{m:Str->B8},P.Nodup->P[i]?=some x->vs[i]?=some v->kindOf x=some .local ->
 bindL kindOf (P.zip vs) m x=some v
 | [],_,_,_,_,h,_,_=>by simp at h
 | _::_,[],_,_,_,_,h,_=>by simp at h
 | p::P,w::vs,0,m,nd,h1,h2,hk=>by
  simp at h1 h2;subst h1;subst h2;show bindL kindOf ((p,w)::P.zip vs) m p=_;rw[bindL,Dw λv hv=>(i0.mp nd).1 (AX hv).1,if_pos hk];simp
 | p::P,w::vs,i+1,m,nd,h1,h2,hk=>by
  unfold bindL;exact Cg (i0.mp nd).2 (by simpa using h1) (by simpa using h2) hk
theorem CQ{kindOf:Str->Option gi}{v:a0}:∀{P:B7}{vs:B9}{i:Nat}{m:Str->B8},P.Nodup->P[i]?=some x->vs[i]?=some v->kindOf x≠some .local ->
 bindC kindOf (P.zip vs) m x=some v
 | [],_,_,_,_,h,_,_=>by simp at h
 | _::_,[],_,_,_,_,h,_=>by simp at h
 | p::P,w::vs,0,m,nd,h1,h2,hk=>by
  simp at h1 h2;subst h1;subst h2;show bindC kindOf ((p,w)::P.zip vs) m p=_;rw[bindC,CZ λv hv=>(i0.mp nd).1 (AX hv).1,if_neg hk];simp
 | p::P,w::vs,i+1,m,nd,h1,h2,hk=>by
  unfold bindC;exact CQ (i0.mp nd).2 (by simpa using h1) (by simpa using h2) hk
noncomputable def start(N:B7)(vs:C1):St:=vs.map some++cE (N.length - vs.length) none
noncomputable def jx(CX:CXT)(P:fF)(w:kn)(K:aE)(mg:Str->B8)(base:Heap)(N:B7)(qual:Str)(scope:xa)(f:Addr)(cd:a0)(A:eK)(CU:C7)(s:a8)(H:Hp)(E:XK):Cx where
 prog:=P
 w:=w
 K:=K
 mg:=mg
 base:=base
 A:=A.deeper (kQ qual scope s.heap.objs.size f cd)
 N:=N
 s₀:=s
 H₀:=H
 env:=kQ qual scope s.heap.objs.size f cd
 CU:=CU
 stack:=kQ qual scope s.heap.objs.size f cd::CU
 ex:=[]
 calm:=true
 fn:=λ_=>true
 pn:=[]
 xe:=λe s'=>cf (bX P w) (A.deeper (kQ qual scope s.heap.objs.size f cd)) (leaving (kQ qual scope s.heap.objs.size f cd) e) (λ_ s''=>CX CU H s E e s'') (λe' s''=>CX CU H s E e' s'') s'
theorem GC{U:xa}{n:Nat}(h:U.names.lookup x=some .cell):∃c,(k7 n U.names []).lookup x=some c:=by
 have q:=oz U.names n [] (.inl h);exact eP.mp q
variable {mg:Str->B8}
theorem Qd{CX:CXT}{base:Heap}{Y:Str}{U:xa}{f:Addr}{o:a0}{CU:C7}{s1:a8}{E:XK}
 (S:cO N ps U) (hd:A.handled=none) (Z:M8 P w K mg base A CU s H) (C:xs.length=ps.length) (r:CA xs us)
 (x:InCallC s s.heap.objs.size (bindL (kQ Y U s.heap.objs.size f o).kindOf (ps.zip us) λ_=>none) (k7 (s.heap.objs.size+1) U.names []) (bindC (kQ Y U s.heap.objs.size f o).kindOf (ps.zip us) λ_=>none) s1) :
 Cs (jx CX P w K mg base N Y U f o A CU s H E) [] (start N xs) H s1:=by
 have hpl:ps.length<=N.length:=by have:=congrArg List.length S.pre;rw[c6] at this;lia
 obtain ⟨h1,D,rfl,hk⟩:=x.done;have j:∀b:Addr,b∉(jx CX P w K mg base N Y U f o A CU s H E).ex:=λb z=>absurd (show b∈([]:C3) from z) (by simp);refine ⟨⟨Z.mod,S.kind,rfl,rfl,ax _,λy z c h1 h2=>?_,λy hy=>?_,λy c _ h=>?_,λ_=>hd,Around.frames_deeper Z.frames,.inr ⟨rfl,rfl⟩,λb z=>absurd z (j b),Z.bs,Z.bsz,λb _ _=>j b,λb z=>absurd z (j b),Z.oO,Z.frf,Z.tabs⟩,
  rfl,Z.bare,Un.kept hk,⟨_,x.toInCall.ns,λi y v h1 h2 I=>?_⟩,λy c h=>⟨_,x.cell y c h⟩,Z.CH.fresh (ax _),λy c h=>?_,λp m=>absurd (show p∈([]:A6) from m) (by simp),Z.CH.kept hk,?_⟩
 . exact name_of_addr x.apart (gp h1) (gp h2)
 . have hy:U.names.lookup y=some .cell\/U.names.lookup y=some .free:=hy;rcases hy with hy | hy
   . exact GC hy
   . exact absurd rfl (S.Zu _ (gp hy))
 . exact fe (x.above y c (gp h))
 . have hi:i<xs.length:=by
    unfold start at h2
    by_cases hi:i<xs.length
    . exact hi
    . rw[c9 (by simpa using hi)] at h2;rw[kq] at h2;split at h2 <;> cases h2
   have ha:xs[i]?=some v:=by
    unfold start at h2;rw[dA (by simpa using hi),a9] at h2
    cases e:xs[i]? with
    | none=>rw[e] at h2;cases h2
    | some a=>rw[e] at h2;cases h2;rfl
   obtain ⟨u,hu,B⟩:=r.get ha;have m:ps[i]?=some y:=by
    rw[<- S.pre,nV (by lia)];exact h1
   have l:ps.Nodup:=by rw[<- S.pre];exact S.nd.sublist (List.take_sublist _ _)
   refine ⟨u,B,?_⟩;rcases S.par y (d4 m) with k | k
   . exact .inl ⟨k,Cg l m hu k⟩
   . obtain ⟨c,e⟩:=GC (n:=s.heap.objs.size+1) k;refine .inr ⟨.inl k,c,e,?_⟩;have q:=x.cell y c e;rw[CQ l m hu (by show U.names.lookup y≠_;rw[k];decide)] at q;exact q
 . exact Z.CH.fresh (fe (x.above y c (gp h)))
 . unfold start;show _=N.length;rw[aw,ai,cn];lia
theorem Et{CX:CXT}{base:Heap}{k:Nat}{f:Addr}{name Y:Str}{i:Arguments}{U:xa}{dV kV p pm Z ct oc:a0}{R od:C5}
 {M:Array B8}{sp:Sp} (lk:K.lookup f=some ⟨oc,od,.func (ey name Y i body U dV kV p pm R Z ct),M⟩) (C:mS K Z Y=true) (S:cO N ps U)
 (len:∀vs H Q E,sp vs H Q E->vs.length=ps.length)
 (hbody:∀(A:eK) (CU:C7) (s:a8) (H:Hp) (vs:C1) (Q:VK) (E:XK),cA k (A.deeper (kQ Y U s.heap.objs.size f Z))->sp vs H Q E ->
  ∃t,PSs (jx CX P w K mg base N Y U f Z A CU s H E) body t/\t { nx:=λ_ H'=>Q .non H',rt:=Q } (start N vs) H) :
 oM P w K mg base CX (k+1) f (ey name Y i body U dV kV p pm R Z ct) ps sp:=by
 refine ⟨len,λA CU s H args us vs Q E D B hb r z=>?_⟩;have hl:=len _ _ _ _ z;have KX:K.In s.heap:=B.mod.kin.keeps λb o e=>(B.bs b o e).1;have O:s.heap.NoLimit:=B.mod.nolimit.keeps λb o e=>(B.bs b o e).1;have l:∀y∈ps.zip us,U.names.lookup y.1=some .local\/(U.names.lookup y.1=some .cell/\((k7 (s.heap.objs.size+1) U.names []).lookup y.1).isSome=true):=λ⟨n,v⟩ hy=>by
  rcases S.par n (AX hy).1 with q | q
  . exact .inl q
  . exact .inr ⟨q,oz _ _ _ (.inl q)⟩
 refine codeAny_call_function D.depth (KX _ _ lk) rfl S.co S.gen rfl (PySem.W.codeRec_of KX C) (hb _ _ _ _ ?_);refine wpAny_newFunctionEnv_cells S.kind l λenv he s1 x=>?_;subst he;refine ⟨O.keeps x.toInCall.keep,codeAny_func ?_⟩;obtain ⟨t,ht,hq⟩:=hbody A CU s H vs Q E (D.deeper _) z;have I:Cs (jx CX P w K mg base N Y U f Z A CU s H E) [] (start N vs) H s1:=Qd S D.hd B hl r x;refine eR (ht [] s1 (start N vs) H _ I hq) (λfl s' m=>?_) λe s' m=>m;have fin:∀{j:St}{H':Hp}{v:V}{u:a0},Cs (jx CX P w K mg base N Y U f Z A CU s H E) [] j H' s'->Ct v u->Q v H'->CE CU P w H s Q u s':=
  λ{j H' v u} J L q=>⟨v,H',J.os,J.bare,J.base,J.CH,L,q⟩
 cases fl with
 | ret u=>
  obtain ⟨v,j,H',J,L,q⟩:=m;exact fin J L q
 | next=>
  obtain ⟨j,H',J,q⟩:=m;exact fin (v:=V.non) (u:=a0.none) J rfl q
 | brk=>
  obtain ⟨_,_,_,q⟩:=m;exact l9 q
 | cont=>
  obtain ⟨_,_,_,q⟩:=m;exact l9 q
section
variable   {p:Pos}   {t:TA}{id T:String}{r:C1->Hp->VK->Prop}
def tCB(r:C1->Hp->VK->Prop)(t:TA):TE:=λσ H Q=>t σ H λvs H1=>r vs H1 Q
theorem yN(y:eH X (.builtin id) r)(j:Gl X x)(o:X.mg x=none)(hv:fq x=some (.builtin id))(ha:PA X (e::es) t)(B:x ≠ "__name__" := by decide)(Z:nD x:=by decide)
 (z:dk (e::es) X.env=(false,eval e X.env)::dk es X.env:=by rfl) (hpl:(nS pos (dk es X.env)).any (·.1)=false:=by rfl):PE X (.Call (.Name x p) (e::es) [] pos) (tCB r t):=by
 intro U s i H Q I h;refine k6 (kJ I j o hv ?_ B Z);exact ub (thn (ha pos U s i H _ I h) λu s1 Y=>by obtain ⟨q,m,v,l,q1⟩:=Y;exact y U s1 i m q u Q v l q1) z hpl
theorem CJ(y:eH X (.type T) r)(j:Gl X x)(o:X.mg x=none)(hv:fq x=some (.type T))(ha:PA X (e::es) t)(B:x ≠ "__name__" := by decide)(Z:nD x:=by decide)
 (z:dk (e::es) X.env=(false,eval e X.env)::dk es X.env:=by rfl) (hpl:(nS pos (dk es X.env)).any (·.1)=false:=by rfl):PE X (.Call (.Name x p) (e::es) [] pos) (tCB r t):=by
 intro U s i H Q I h;refine k6 (kJ I j o hv ?_ B Z);exact iq (thn (ha pos U s i H _ I h) λu s1 Y=>by obtain ⟨q,m,v,l,q1⟩:=Y;exact y U s1 i m q u Q v l q1) z hpl
end
end Zq
namespace HT
open PySem PyProof.Rows
section
variable {prog:fF}{w:kn}{A:eK}{E:a0->a8->Prop}{s:a8}
theorem YF{t b:Addr}{Y ws:List a0}{Q:a0->a8->Prop}(x:w9 s.heap t Y.toArray)(y:w9 s.heap b ws.toArray)(hv:Y≠[])
 (h1:ws=[]->Q (.ref t) s) (h2:ws≠[]->Q (.ref s.heap.objs.size) { s with heap:=s.heap.push { cls:=.type "tuple",data:=.seq (Y++ws).toArray } })
 (p:Y.length+ws.length<=be):cf (bX prog w) A (f6 .Add (.ref t) (.ref b)) Q E s:=by
 obtain ⟨⟨cls,u,data,q⟩,m,v,n,hd⟩:=id x;obtain ⟨⟨r,l,data2,Z⟩,U,i,n2,j⟩:=id y;simp only at v hd i j;subst v hd i j;have e:Y.toArray++ws.toArray=(Y++ws).toArray:=by simp
 by_cases o:ws=[]
 . exact AK ⟨_,m,rfl⟩ ⟨_,U,rfl⟩ zS seq_tuple_add sD si (rg _ _)
    (tuple_addW1 t b Y.toArray ws.toArray n n2 u l q Z (by simpa using hv) (by simp[o])) ⟨m,U,h1 o⟩
 . refine AK ⟨_,m,rfl⟩ ⟨_,U,rfl⟩ zS seq_tuple_add sD si (rg _ _)
    (tuple_addW2 t b Y.toArray ws.toArray n n2 u l q Z (by simpa using hv) (by simpa using o) (by rw[br,br];exact p)) ⟨m,U,?_⟩
   rw[e];exact h2 o
noncomputable def sIx(n d:Nat):Option Int->Nat
 | none=>d
 | some v=>if v<0 then (v+(n:Int)).toNat else min v.toNat n
theorem Gy(n d:Nat):sIx n d none=d:=rfl
theorem JV(n d k:Nat):sIx n d (some (k:Int))=min k n:=by
 show (if (k:Int)<0 then ((k:Int)+(n:Int)).toNat else min (k:Int).toNat n)=min k n;rw[if_neg (by lia),ff]
theorem ZC(n d:Nat)(hd:d<=n)(o:Option Int):sIx n d o<=n:=by
 cases o with
 | none=>exact hd
 | some v=>
  show (if v<0 then (v+(n:Int)).toNat else min v.toNat n)<=n
  by_cases hv:v<0
  . rw[if_pos hv];lia
  . rw[if_neg hv];exact z5 _ _
theorem J3(v:Int)(n d:Nat):(if v<0 then max (v+(n:Int)) 0 else min v (n:Int))=((sIx n d (some v):Nat):Int):=by
 show (if v<0 then max (v+(n:Int)) 0 else min v (n:Int))=(((if v<0 then (v+(n:Int)).toNat else min v.toNat n):Nat):Int)
 by_cases hv:v<0
 . simp only[if_pos hv];lia
 . simp only[if_neg hv];lia
theorem Lb(lo hi:Option Int)(n:Nat):qS lo hi 1 (n:Int)=(((sIx n 0 lo:Nat):Int),((sIx n n hi:Nat):Int)):=by
 have h1:¬ ((1:Int)<0):=by lia
 unfold qS;simp only[if_false];refine Prod.ext ?_ ?_
 . cases lo with
   | none=>rfl
   | some v=>exact J3 v n 0
 . cases hi with
   | none=>rfl
   | some v=>exact J3 v n n
theorem Mq(i j:Nat):nc (i:Int) (j:Int) 1=j - i:=by
 unfold nc;have h1:1 > 0:=by lia
 split <;> lia
theorem zU{v:a0}{o:Option Int}{Q:Option Int->a8->Prop}(p:AL v o)(h:Q o s):cf (bX prog w) A (Builtin.Slice.slicePartIndex v) Q E s:=by
 cases p with
 | none=>exact slicePart_none h
 | int i t=>exact slicePart_int h
theorem qg{e:Addr}{i Z:a0}{lo hi:Option Int}{n:Nat}{Q:Int×Int×Nat->a8->Prop}(hs:s.heap.IsSliceOf e i Z .none)(j:AL i lo)(l:AL Z hi)
 (h:Q (((sIx n 0 lo:Nat):Int),1,sIx n n hi - sIx n 0 lo) s):cf (bX prog w) A (Builtin.Slice.sliceApplied (.ref e) (pure (n:Int))) Q E s:=by
 obtain ⟨os,Y,m,U⟩:=id hs;refine ae (ae (qk Y U rfl (ae (qk Y U rfl (ae (qk Y U rfl (ar (ae (slicePart_none ?_)))))))));rw[if_neg (by decide)];refine ae (zU j (ae (zU l (ae (ar ?_)))));show cf _ _ (match qS lo hi 1 (n:Int) with | (lo,hi)=>pure (lo,(1:Int),nc lo hi 1)) _ _ s;rw[Lb lo hi n];show cf _ _ (pure (((sIx n 0 lo:Nat):Int),(1:Int),nc ((sIx n 0 lo:Nat):Int) ((sIx n n hi:Nat):Int) 1)) _ _ s;rw[Mq];exact ar h
theorem Rx(xs:Array a0)(i k:Nat):((c8 k).filterMap λ(m:Nat)=>xs[((i:Int)+(m:Int)*1).toNat]?).toArray=((xs.toList.drop i).take k).toArray:=by
 have e:(λ(m:Nat)=>xs[((i:Int)+(m:Int)*1).toNat]?)=λm=>xs[i+m]?:=by
  funext m;have:((i:Int)+(m:Int)*1).toNat=i+m:=by lia
  rw[this]
 rw[e];have:=pick_run xs i k;rw[List.filterMap_map] at this;have U:((λx=>xs[x]?)∘λx=>i+x)=λm=>xs[i+m]?:=rfl;rw[U] at this;rw[this]
theorem xY{t i:Addr}{U:Array a0}{r p:a0}{lo hi:Option Int}{Q:a0->a8->Prop}(Z:w9 s.heap t U)(hs:s.heap.IsSliceOf i r p .none)(x:AL r lo)(u:AL p hi)
 (v:¬ (sIx U.size 0 lo=0/\sIx U.size U.size hi=U.size))
 (h:Q (.ref s.heap.objs.size) { s with heap:=s.heap.push { cls:=.type "tuple",data:=.seq ((U.toList.drop (sIx U.size 0 lo)).take (sIx U.size U.size hi - sIx U.size 0 lo)).toArray } })
 (y:U.size<=be):cf (bX prog w) A (wm (.ref t) (.ref i)) Q E s:=by
 have Y:sizeOk (.seq ((U.toList.drop (sIx U.size 0 lo)).take (sIx U.size U.size hi - sIx U.size 0 lo)).toArray):=by
  show ((U.toList.drop (sIx U.size 0 lo)).take (sIx U.size U.size hi - sIx U.size 0 lo)).toArray.size<=be;rw[br,c6,hX,cx];lia
 have hj:sIx U.size U.size hi<=U.size:=ZC _ _ (ax _) hi;obtain ⟨os,j,o,z⟩:=id hs;have l:s.TypeIs (.ref i) "slice" := ⟨os,j,o⟩;unfold wm
 try with_reducible refine ft ?_
 first | refine ae (ar ?_) | skip
 refine ae (wpAny_sequenceKey Z.typeIs (by decide) ?_);refine ae (gE (name:=Str.ofString "__getitem__") Z.typeIs fk
  (eT fk Z.typeIs entry_tuple_getitem ?_ (args_tuple_getitem _ _)))
 show cf _ _ (Builtin.Tuple.tupleItemsOf (.ref t) >>= _) _ _ s;refine ae (tupleItemsOf_ Z ?_);refine ae (oB l ?_);rw[if_pos (by decide)];refine ae (qg hs x u ?_);have e:¬ ((((sIx U.size 0 lo:Nat):Int) == 0&&(1:Int) == 1&&(sIx U.size U.size hi - sIx U.size 0 lo) == U.size)=true):=by
  intro q;rw[cp,cp] at q;have q1:((sIx U.size 0 lo:Nat):Int)=0:=eq_of_beq q.1.1;have q2:sIx U.size U.size hi - sIx U.size 0 lo=U.size:=eq_of_beq q.2;exact v ⟨by lia,by lia⟩
 show cf _ _ (if (((sIx U.size 0 lo:Nat):Int) == 0&&(1:Int) == 1&&(sIx U.size U.size hi - sIx U.size 0 lo) == U.size)=true then _ else _) _ _ s;rw[if_neg e,Rx]
 first
  | exact ae (m:=nX _) (eS (ar ⟨_,rfl,ar h⟩) Y)
  | exact ae (m:=nX _) (eS (ae (ar (ar ⟨_,rfl,ar h⟩))) Y)
  | exact ae (ae (m:=nX _) (eS (ar (ar ⟨_,rfl,ar h⟩)) Y))
  | exact ae (ae (m:=nX _) (eS (ar ⟨_,rfl,ar h⟩) Y))
end
end HT
namespace Zq
open PySem PySem.Spec PyProof.Rows
abbrev TO:=St->Hp->(C4->Hp->Prop)->Prop
def PO(X:Cx)(e:Option Expr)(t:TO):Prop:=
 ∀(BY:A6) (s:a8) (σ:St) (H:Hp) (Q:C4->Hp->Prop),Cs X BY σ H s->t σ H Q ->
  cf (bX X.prog X.w) X.A (evalPart e X.env) (λu s'=>∃o H',Cs X BY σ H' s'/\AL u o/\Q o H') X.xe s
def Yj:TO:=λ_ H Q=>Q none H
def acz(t:TE):TO:=λσ H Q=>t σ H λx H1=>∃i,x= .int i/\Q (some i) H1
theorem intsAre_of{ns:B4}:∀{us:B9},CA (ns.map V.int) us->oa us ns:=by
 induction ns with
 | nil=>intro us r;rw[ll] at r;cases r;exact .nil
 | cons n ns Z=>
  intro us r;rw[b9] at r
  cases r with
  | cons U Y=>
   obtain ⟨t,e⟩:=U;subst e;exact .cons n t (Z Y)
variable {xs:C1}{us:B9}
section
variable {X:Cx}{e:Expr}{te:TE}{lo hi:Option Expr}{tl th:TO}{pos p2:Pos}
theorem Xu:PO X none Yj:=by
 intro U s Y H Q I h;rw[evalPart_none];exact ar ⟨none,H,I,.none,h⟩
theorem X5(h:PE X e te):PO X (some e) (acz te):=by
 intro Y s m H Q I l;rw[evalPart_some];refine thn (h Y s m H _ I l) λu s1 U=>?_;obtain ⟨x,Z,o,j,q1⟩:=U;obtain ⟨i,rfl,q⟩:=q1;obtain ⟨t,rfl⟩:=j;exact ⟨some i,Z,o,.int i t,q⟩
def SlR(X:Cx)(r:V->C4->C4->Hp->VK->Prop):Prop:=
 ∀(BY:A6) (s:a8) (σ:St) (H:Hp) (x:V) (v vl vu:a0) (lo hi:C4) (sl:Addr) (Q:VK),Cs X BY σ H s->Ct x v->s.heap.IsSliceOf sl vl vu .none->AL vl lo->AL vu hi->r x lo hi H Q ->
  ∃T id,AM (.type T) "__getitem__"= pure (some (.builtin id))/\s.TypeIs v T/\cf (bX X.prog X.w) X.A (wm v (.ref sl)) (EP X BY σ Q) X.xe s
def tSl(r:V->C4->C4->Hp->VK->Prop)(te:TE)(tl th:TO):TE:=λσ H Q=>te σ H λx H1=>tl σ H1 λl H2=>th σ H2 λu H3=>r x l u H3 Q
theorem TV{r:V->C4->C4->Hp->VK->Prop}(L:SlR X r)(M:PE X e te)(D:PO X lo tl)(hu:PO X hi th):PE X (.Subscript e (.Slice lo hi none p2) pos) (tSl r te tl th):=by
 intro U s Y H Q I h;refine Subscript_ (thn (M U s Y H _ I h) λv s1 ⟨x,y,I1,z,q1⟩=>wpAny_Slice (thn (D U s1 Y y _ I1 q1) λm R ⟨l,C,B,E,q2⟩=>thn (hu U R Y C _ B q2) λj i Z=>?_));obtain ⟨u,o,O,P,q3⟩:=Z;rw[evalPart_none];refine ar ?_;have S:Cs X U Y o { i with heap:=i.heap.push { cls:=.type "slice",data:=.fields #[m,j,.none] } }:=O.kept λb ob q=>av _ q;obtain ⟨T,id,hT,J,p⟩:=L U { i with heap:=i.heap.push { cls:=.type "slice",data:=.fields #[m,j,.none] } } Y o x v m j l u i.heap.objs.size Q S z (Heap.IsSliceOf.new ..) E P q3;exact tail_any J hT p (by with_unfolding_all rfl)
noncomputable def vD(xs:C1)(lo hi:C4):C1:=(xs.drop (HT.sIx xs.length 0 lo)).take (HT.sIx xs.length xs.length hi - HT.sIx xs.length 0 lo)
theorem yf(xs:C1)(lo hi:C4):(vD xs lo hi).length<=xs.length:=by
 rw[vD,c6,hX];lia
def ZZ(K:aE):V->C4->C4->Hp->VK->Prop:=λx lo hi H Q=>∃a xs,x= .ref a/\SqT K H a xs /\
 ¬ (HT.sIx xs.length 0 lo=0/\HT.sIx xs.length xs.length hi=xs.length)/\∀p,H p=none->Q (.ref p) (CB H p (.tup (vD xs lo hi)))
theorem aaJ:SlR X (ZZ X.K):=by
 rintro i s C H x v B u lo hi z Q I j p o l ⟨a,Y,rfl,hx,m,q⟩;cases j;obtain ⟨Z,r,e,hz⟩:=I.tuple hx;have U:Z.toArray.size=Y.length:=by rw[br];exact r.length.symm
 refine ⟨"tuple",_,fk.lookup,e.typeIs,?_⟩;refine HT.xY e p o l (by rw[U];exact m) ?_ (by rw[U];exact hz);rw[U];refine ⟨.ref s.heap.objs.size,_,I.laid (λb y q=>av _ q) (ax _) ?_,rfl,q _ (I.CH.fresh (ax _))⟩;exact ⟨c5 (yf Y lo hi) hz,_,(r.drop (HT.sIx Y.length 0 lo)).take (HT.sIx Y.length Y.length hi - HT.sIx Y.length 0 lo),w9.new _ _⟩
def acb(K:aE):R2:=λx y H Q=>∃a b xs ys,x= .ref a/\y= .ref b/\SqT K H a xs/\SqT K H b ys/\xs≠[]/\xs.length+ys.length<=be /\
 (ys=[]->Q (.ref a) H)/\(ys≠[]->∀p,H p=none->Q (.ref p) (CB H p (.tup (xs++ys))))
theorem CA.Aq(r:CA xs us):us=[]↔xs=[]:=by
 cases r with
 | nil=>simp
 | cons _ _=>simp
theorem Xb:OpR X (f6 .Add) (acb X.K):=by
 rintro e s D H x y v u Q I j p ⟨a,b,C,r,rfl,rfl,ha,m,hx,hz,q1,q2⟩;cases j;cases p;obtain ⟨o,Y,i,_⟩:=I.tuple ha;obtain ⟨Z,U,l,_⟩:=I.tuple m;refine HT.YF i l (λz=>hx (Y.Aq.mp z)) (λz=>⟨.ref a,H,I,rfl,q1 (U.Aq.mp z)⟩) (λz=>?_) (by rw[<- Y.length,<- U.length];exact hz);refine ⟨.ref s.heap.objs.size,_,I.laid (λb B q=>av _ q) (ax _) ?_,rfl,q2 (λw=>z (U.Aq.mpr w)) _ (I.CH.fresh (ax _))⟩;exact ⟨by rw[aw];exact hz,_,Y.append U,w9.new _ _⟩
end
noncomputable def ixN(n:Nat)(i:Int):Option Nat:=if 0<=i then (if i<n then some i.toNat else none) else if -(n:Int)<=i then some (i+n).toNat else none
noncomputable def atI{α:Type}(xs:List α)(i:Int):Option α:=(ixN xs.length i).bind λj=>xs[j]?
theorem Ym{n:Nat}{i:Int}{j:Nat}(h:ixN n i=some j):seqIndex? i n=some j/\j<n /\ -(n:Int)<=i/\i<n:=by
 unfold ixN at h
 by_cases U:0<=i
 . rw[if_pos U] at h
   by_cases h1:i<n
   . rw[if_pos h1] at h;have e:=Option.some.inj h;exact ⟨by rw[seqIndex_of U h1,e],by lia,by lia,h1⟩
   . rw[if_neg h1] at h;cases h
 . rw[if_neg U] at h
   by_cases h1 : -n<=i
   . rw[if_pos h1] at h;have e:=Option.some.inj h;exact ⟨by rw[seqIndex_neg (by lia) h1,e],by lia,h1,by lia⟩
   . rw[if_neg h1] at h;cases h
theorem J1{U:Type}{xs:List U}{i:Int}{v:U}(h:atI xs i=some v):∃j,seqIndex? i xs.length=some j/\xs[j]?=some v/\j<xs.length /\ -(xs.length:Int)<=i/\i<xs.length:=by
 unfold atI at h
 cases e:ixN xs.length i with
 | none=>rw[e] at h;cases h
 | some j=>
  rw[e] at h;obtain ⟨h1,h2,Y,Z⟩:=Ym e;exact ⟨j,h1,h,h2,Y,Z⟩
theorem Kq{U:Type}{xs:List U}{j:Nat}{v:U}(h:xs[j]?=some v):atI xs (j:Int)=some v:=by
 have hj:=(bE.mp h).1;have e:ixN xs.length (j:Int)=some j:=by
  rw[ixN,if_pos (by lia),if_pos (by lia)];simp
 rw[atI,e];exact h
def sX(b:Expr):Prop:=∀o i,x9 b false o i=operate [o,i] (wm o i)
def IxR(X:Cx)(r:R2):Prop:=
 ∀(value slice:Expr) (BY:A6) (s:a8) (σ:St) (H:Hp) (x y:V) (v u:a0) (Q:VK),Cs X BY σ H s->Ct x v->Ct y u->r x y H Q ->
  x9 slice false v u=operate [v,u] (wm v u)->cf (bX X.prog X.w) X.A (subscriptTail value slice v u) (EP X BY σ Q) X.xe s
def MtR(X:Cx)(id:String)(r:V->C1->Hp->VK->Prop):Prop:=
 ∀(BY:A6) (s:a8) (σ:St) (H:Hp) (x:V) (xs:C1) (v:a0) (us:B9) (Q:VK),Cs X BY σ H s->Ct x v->CA xs us->r x xs H Q ->
  cf (bX X.prog X.w) X.A (call (.builtin id) (v::us)) (EP X BY σ Q) X.xe s
section
variable {X:Cx}{a b:Expr}{ta tb:TE}{pos:Pos}
theorem Wb{r:R2}(l:IxR X r)(ha:PE X a ta)(m:PE X b tb)(hs:sX b):PE X (.Subscript a b pos) (tOp r ta tb):=by
 intro U s i H Q I h;exact Subscript_ (Vx ha m I h λv u j x y Z Y e o q=>l a b U j i Z x y v u Q Y e o q (hs _ _))
def acX(K:aE):R2:=λx y H Q=>∃p xs i v,x= .ref p/\y= .int i/\SqL K H p xs/\atI xs i=some v/\Q v H
def acS(K:aE):R2:=λx y H Q=>∃p xs i v,x= .ref p/\y= .int i/\SqT K H p xs/\atI xs i=some v/\Q v H
theorem Wr:IxR X (acX X.K):=by
 intro Z l U s P H x y v u Q I D R h C;obtain ⟨p,S,i,z,rfl,rfl,E,M,q⟩:=h;cases D;obtain ⟨t,rfl⟩:=R;obtain ⟨m,r,e,hz⟩:=I.list E;obtain ⟨j,h1,h2,h3,J,O⟩:=J1 M;obtain ⟨w,o,Y⟩:=r.get h2;have L:=r.length;have hn:=tR;have fin:EP X U P Q w s:=⟨z,H,I,Y,q⟩
 by_cases B:0<=i
 . have hj:=by
    rw[seqIndex_of B O] at h1;exact Option.some.inj h1
   exact item_listR e.isList B (by lia) (by rw[hj];simpa using o) fin C
 . have hj:(i+(m.toArray.size:Int)).toNat=j:=by
    rw[seqIndex_neg (by lia) J] at h1;rw[br,<- L];exact Option.some.inj h1
   exact subscriptTail_builtinR e.isList.typeIs slot_list_getitem.lookup
    (wpAny_getItem_list_neg e.isList (by lia) (by rw[br] <;> lia) (by lia) (by rw[hj];simpa using o) ⟨rfl,fin⟩) C
theorem aas:IxR X (acS X.K):=by
 intro Z e U s J H x y v u Q I o L h M;obtain ⟨p,O,i,z,rfl,rfl,B,E,q⟩:=h;cases o;obtain ⟨t,rfl⟩:=L;obtain ⟨D,r,l,hz⟩:=I.tuple B;obtain ⟨j,h1,h2,h3,P,S⟩:=J1 E;obtain ⟨w,m,Y⟩:=r.get h2;have C:=r.length;have R:=tR;have fin:EP X U J Q w s:=⟨z,H,I,Y,q⟩;exact subscriptTail_builtinR l.typeIs fk.lookup
  (getItem_tuple l (by lia) (by lia) (by rw[br,<- C];exact h1) (by simpa using m) ⟨rfl,fin⟩) M
theorem Gr(lo hi:C4)(n:Nat):(sj lo hi none n).1=((HT.sIx n 0 lo:Nat):Int)/\(sj lo hi none n).2.1=((HT.sIx n n hi:Nat):Int)/\(sj lo hi none n).2.2=1:=by
 refine ⟨?_,?_,rfl⟩
 . cases lo with
   | none=>simp[sj,HT.sIx]
   | some i=>
    simp only[sj,HT.sIx,Option.getD_none,show (1:Int) > 0 by decide,if_true]
    by_cases h:i<0
    . simp only[h,if_true] <;> lia
    . simp only[h,if_false] <;> lia
 . cases hi with
   | none=>simp[sj,HT.sIx]
   | some i=>
    simp only[sj,HT.sIx,Option.getD_none,show (1:Int) > 0 by decide,if_true]
    by_cases h:i<0
    . simp only[h,if_true] <;> lia
    . simp only[h,if_false] <;> lia
theorem DY(U:B9)(lo hi:C4):slicePick U.toArray lo hi none=((U.drop (HT.sIx U.length 0 lo)).take (HT.sIx U.length U.length hi - HT.sIx U.length 0 lo)).toArray:=by
 obtain ⟨h1,h2,Y⟩:=Gr lo hi U.toArray.size;rw[slicePick,h1,h2,Y];simp only[sliceRange_one,pick_run,br] <;> rfl
def aaT(K:aE):V->C4->C4->Hp->VK->Prop:=λx lo hi H Q=>∃a xs,x= .ref a/\SqL K H a xs/\∀p,H p=none->Q (.ref p) (CB H p (.lst (vD xs lo hi)))
theorem Xn:SlR X (aaT X.K):=by
 rintro e s B H x v z p lo hi y Q I i o l j ⟨a,U,rfl,hx,q⟩;cases i;obtain ⟨m,r,Z,hz⟩:=I.list hx;have Y:=r.length;refine ⟨"list",_,slot_list_getitem.lookup,Z.isList.typeIs,?_⟩;refine wpAny_getItem_list_slice Z.isList o l j .none (by simp) ?_ (by rw[br] <;> lia);rw[DY,<- Y];refine ⟨.ref s.heap.objs.size,_,I.laid (λb u q=>av _ q) (ax _) ?_,rfl,q _ (I.CH.fresh (ax _))⟩;exact ⟨c5 (yf U lo hi) hz,_,0,(r.drop (HT.sIx U.length 0 lo)).take (HT.sIx U.length U.length hi - HT.sIx U.length 0 lo),bo _ rfl⟩
theorem vM:eH X (.builtin "len") (λxs H Q=>∃p ys,xs=[.ref p]/\(SqL X.K H p ys\/SqT X.K H p ys)/\Q (.int ys.length) H):=by
 rintro i s l H xs m Q I r ⟨p,ys,rfl,hq,q⟩;obtain ⟨u,rfl,j⟩:=vals1 r;cases j;have o:=tR;rcases hq with hq | hq
 . obtain ⟨e,Y,Z,hz⟩:=I.list hq;have U:=Y.length;exact Calls.call_len_list Z.isList (by simp only[br] <;> lia) ⟨.int ys.length,H,I.tok _,⟨s.toks+1,by rw[br,U]⟩,q⟩
 . obtain ⟨e,Y,Z,hz⟩:=I.tuple hq;have U:=Y.length;exact len_tuple Z (by simp only[br] <;> lia) ⟨.int ys.length,H,I.tok _,⟨s.toks+1,by rw[br,U]⟩,q⟩
theorem GD:eH X (.builtin "len") (λxs H Q=>∃z,xs=[.str z]/\z.length<=be/\Q (.int z.length) H):=by
 rintro U s Y H xs Z Q I r ⟨z,rfl,hz,q⟩;obtain ⟨u,rfl,t,rfl⟩:=vals1 r;have e:=tR;exact len_str (by lia) ⟨.int z.length,H,I.tok _,⟨_,rfl⟩,q⟩
theorem vY:eH X (.type "list") (λxs H Q=>∃p ys,xs=[.ref p]/\(SqL X.K H p ys\/SqT X.K H p ys)/\∀l,H l=none->Q (.ref l) (CB H l (.lst ys))):=by
 rintro m s C H xs D Q I r ⟨p,ys,rfl,hq,q⟩;obtain ⟨u,rfl,B⟩:=vals1 r;cases B;have fin:∀(U:B9),CA ys U->ys.length<=be->∀(Y:Heap) (Z:Nat),(∀b z,s.heap.get? b=some z->Y.get? b=some z) ->
  Y.get? s.heap.objs.size=some { cls:=.type "list",dict:=none,data:=.seq U.toArray Z,slots:=#[] }->EP X m C Q (.ref s.heap.objs.size) { s with heap:=Y }:=λU i hz Y Z kp e=>
  ⟨.ref s.heap.objs.size,_,I.laid kp (ax _) (show fZ X.prog X.w _ Y _ (.lst ys) from ⟨hz,U,Z,i,e⟩),rfl,q _ (I.CH.fresh (ax _))⟩
 rcases hq with hq | hq
 . obtain ⟨U,i,x,hz⟩:=I.list hq;have j:=i.length;obtain ⟨o,v,y,n,hd⟩:=x.isList;exact call_list_seq p (.inl rfl) v y hd (λY Z kp e=>fin U i hz Y Z kp e) (by simp only[br] <;> lia)
 . obtain ⟨U,i,x,hz⟩:=I.tuple hq;have j:=i.length;obtain ⟨o,v,y,n,hd⟩:=x;exact call_list_seq p (.inr rfl) v y hd (λY Z kp e=>fin U i hz Y Z kp e) (by simp only[br] <;> lia)
theorem u9:eH X (.type "tuple") (λxs H Q=>∃p ys,xs=[.ref p]/\((SqL X.K H p ys/\∀l,H l=none->Q (.ref l) (CB H l (.tup ys)))\/(SqT X.K H p ys/\Q (.ref p) H))):=by
 rintro v s B H xs C Q I r ⟨p,ys,rfl,h⟩;obtain ⟨u,rfl,z⟩:=vals1 r;cases z;rcases h with ⟨Z,q⟩ | ⟨Z,q⟩
 . obtain ⟨U,Y,i,hz⟩:=I.list Z;have j:=Y.length;refine call_tuple_list i.isList (λx kp=>?_) (by simp only[br] <;> lia);have m:=I.kept (t':=s.toks) kp;have y:=
    m.laid (t':=s.toks) (λb o e=>av _ e) (ax _) (show fZ X.prog X.w _ _ _ (.tup ys) from ⟨hz,U,Y,w9.new _ _⟩)
   exact ⟨.ref x.objs.size,_,y,rfl,q _ (m.CH.fresh (ax _))⟩
 . obtain ⟨U,Y,i,hz⟩:=I.tuple Z;exact call_tuple_same i ⟨.ref p,H,I,rfl,q⟩
def tyV(K:aE)(T:String)(x:V)(H:Hp):Prop:=match x with
 | .str _=>T = "str"
 | .int _=>T = "int"
 | .ref p=>(T = "list" /\ ∃xs,SqL K H p xs)\/(T = "tuple" /\ ∃o,K.lookup p=some o/\o.cls= .type "tuple" /\ o.dict=none) \/
  (T = "dict" /\ ((∃Cb,H p=some (.dK Cb))\/∃Cb,H p=some (.dT Cb)))\/(T = "set" /\ ∃S n,H p=some (.set S n))
 | _=>False
theorem Ru{U:A6}{m:St}{H:Hp}{s:a8}{T:String}{x:V}{v:a0}(I:Cs X U m H s)(r:Ct x v)(ty:tyV X.K T x H) :
 s.TypeIs v T/\∀a,v= .ref a->∃ob,s.heap.get? a=some ob/\ob.dict=none:=by
 cases x with
 | str z=>
  obtain ⟨t,rfl⟩:=r;cases (ty);exact ⟨typeIs_str s z t,λ_ e=>nomatch e⟩
 | int i=>
  obtain ⟨t,rfl⟩:=r;cases (ty);exact ⟨typeIs_int s i t,λ_ e=>nomatch e⟩
 | ref p=>
  cases r;rcases ty with ⟨rfl,y,l⟩ | ⟨rfl,o,hk,u,hd⟩ | ⟨rfl,hk⟩ | ⟨rfl,S,n,hk⟩
  . obtain ⟨q,_,j,_⟩:=I.list l;refine ⟨j.isList.typeIs,λa e=>?_⟩;cases e;obtain ⟨o,n,e,c,hd,_⟩:=j;exact ⟨o,e,hd⟩
  . refine ⟨⟨o,I.kIn p o hk,u⟩,λa e=>?_⟩;cases e;exact ⟨o,I.kIn _ o hk,hd⟩
  . have z:∃o,s.heap.get? p=some o/\o.ExactDict:=by
     rcases hk with ⟨Z,hk⟩ | ⟨Z,hk⟩
     . obtain ⟨_,_,_,_,o,_,_,e,ex,_⟩:=I.CH p _ hk;exact ⟨o,e,ex⟩
     . obtain ⟨_,_,_,_,o,_,_,e,ex,_⟩:=I.CH p _ hk;exact ⟨o,e,ex⟩
    obtain ⟨o,e,ex⟩:=z;refine ⟨⟨o,e,ex.1⟩,λa Y=>?_⟩;cases Y;exact ⟨o,e,ex.2.1⟩
  . obtain ⟨o,_,_,_,e,ex,_⟩:=I.CH p _ hk;refine ⟨⟨o,e,ex.1⟩,λa Y=>?_⟩;cases Y;exact ⟨o,e,ex.2.1⟩
 | _=>exact l9 ty
def ac8(K:aE)(T:String)(r:V->C1->Hp->VK->Prop)(to:TE):TE:=λσ H Q=>to σ H λx H1=>tyV K T x H1/\r x [] H1 Q
def tBM(K:aE)(T:String)(r:V->C1->Hp->VK->Prop)(to:TE)(t:TA):TE:=λσ H Q=>to σ H λx H1=>tyV K T x H1/\t σ H1 λxs H2=>r x xs H2 Q
variable {o e:Expr}{es:C2}{to:TE}{t:TA}{name:Str}{apos cpos:Pos}{T id:String}{r:V->C1->Hp->VK->Prop}
theorem Zg(y:PlainAttrs T)(slot:Slot T name id)(i:typeOf (.builtin id)=pure (.type "method_descriptor"))(u:MtR X id r)(q:PE X o to)
 (Y:lp o name X.env (eval o X.env)=eval o X.env:=by rfl) (Z:(apos.endLine == cpos.line)=true:=by rfl):PE X (.Call (.Attribute o name apos) [] [] cpos) (ac8 X.K T r to):=by
 intro U s l H Q I h;refine wpAny_Call_method0_late Y Z (thn (q U s l H _ I h) λv s1 e=>?_);obtain ⟨x,p,m,j,ty,q1⟩:=e;obtain ⟨h1,h2⟩:=Ru m j ty;exact ⟨T,id,y,slot,i,h1,h2,mw rfl (PySem.evalArgs_none (u U s1 l p x [] v [] Q m j .nil q1))⟩
theorem Er(P:PlainAttrs T)(slot:Slot T name id)(p:typeOf (.builtin id)=pure (.type "method_descriptor"))(J:MtR X id r)(D:PE X o to)(ha:PA X (e::es) t)
 (i:lp o name X.env (eval o X.env)=eval o X.env:=by rfl)
 (l:((nS cpos (dk (e::es) X.env)).all (λx=>!x.1)&&(Bn cpos (vv [] X.env)).all (λx=>x.1.isSome)
  && decide ((e::es).length+([]:List sF).length+(if ([]:List sF).isEmpty then 0 else 1)<30))=true:=by rfl)
 (j:(apos.endLine == cpos.line)=true:=by rfl) (hs:dk (e::es) X.env=(false,eval e X.env)::dk es X.env:=by rfl) (Z:(nS cpos (dk es X.env)).any (·.1)=false:=by rfl) :
 PE X (.Call (.Attribute o name apos) (e::es) [] cpos) (tBM X.K T r to t):=by
 intro Y s m H Q I h;refine wpAny_Call_method_late i l j rfl (thn (D Y s m H _ I h) λv s1 U=>?_);obtain ⟨x,z,u,q,ty,q1⟩:=U;obtain ⟨h1,h2⟩:=Ru u q ty;refine ⟨T,id,P,slot,p,h1,h2,?_⟩;have y:=ha cpos Y s1 m z _ u q1;rw[hs] at y ⊢;exact mw (by show (false||(nS cpos (dk es X.env)).any (·.1))=false;rw[Z] <;> rfl) (qo (thn y λO M U=>by obtain ⟨L,E,C,B,q2⟩:=U;exact J Y M m E x L v O Q C q B q2))
end
def MtM(X:Cx)(id:String)(r:V->C1->Hp->VK->Prop):Prop:=
 ∀(BY:A6) (s:a8) (σ:St) (H:Hp) (x:V) (xs:C1) (v:a0) (us:B9) (Q:VK),Cs X BY σ H s->Ct x v->CA xs us->r x xs H Q ->
  cf (bX X.prog X.w) X.A (call (.builtin id) (v::us)) (EP X BY σ Q) X.xe s
theorem CA.one{x:V}(h:CA [x] us):∃u,us=[u]/\Ct x u:=by
 cases h with
 | cons r t=>cases t;exact ⟨_,rfl,r⟩
theorem CA.two{x y:V}(h:CA [x,y] us):∃u v,us=[u,v]/\Ct x u/\Ct y v:=by
 cases h with
 | cons r t=>
  cases t with
  | cons q t=>cases t;exact ⟨_,_,rfl,r,q⟩
theorem CA.zero:∀{us:B9},CA [] us->us=[]
 | _,.nil=>rfl
theorem CA.dropLast(h:CA xs us):CA xs.dropLast us.dropLast:=by
 induction h with
 | nil=>exact .nil
 | cons r t U=>
  cases t with
  | nil=>exact .nil
  | cons q Y=>exact .cons r U
theorem CA.rep(h:CA xs us):∀k:Nat,CA (cE k xs).flatten (cE k us).flatten
 | 0=>.nil
 | k+1=>by
  rw[gu,gu,l6,l6];exact CA.append h (CA.rep h k)
theorem Lh{Y:Type}(l:List Y):l.eraseIdx (l.length - 1)=l.dropLast:=by
 induction l with
 | nil=>rfl
 | cons a r U=>
  cases r with
  | nil=>rfl
  | cons b r=>
   have e:(a::b::r).length - 1=((b::r).length - 1)+1:=by
    have h1:(a::b::r).length=r.length+2:=rfl;have h2:(b::r).length=r.length+1:=rfl;lia
   rw[e,Ap,U]
   all_goals rfl
theorem foldl_rep(U:B9):∀(k:Nat) (Cc:B9),
 List.foldl (λY i=>Y++i) Cc.toArray (cE k U.toArray)=(Cc++(cE k U).flatten).toArray
 | 0,Cc=>by simp
 | k+1,Cc=>by
  have e:Cc.toArray++U.toArray=(Cc++U).toArray:=by simp
  have Z:(Cc++U)++(cE k U).flatten=Cc++(cE (k+1) U).flatten:=by
   rw[gu,l6,da]
  rw[<- Z,<- foldl_rep U k (Cc++U),<- e,gu,fS]
variable {Cf:B9}
section
variable {X:Cx}{BY:A6}{σ:St}{H:Hp}{s:a8}{l b:Addr}{ys zs:C1}
theorem Cs.Lq{n:Nat}{f:Array a0->Array a0}{t':Nat}(I:Cs X BY σ H s)(Y:H l=some (.lst xs))
 (e:s.heap.get? l=some { cls:=.type "list",data:=.seq Cf.toArray n }) (Z:f Cf.toArray=us.toArray) (hv:CA ys us) (hz:ys.length<=be) :
 Cs X BY σ (CB H l (.lst ys)) { s with heap:=s.heap.update l (mT f),toks:=t' }:=by
 have q:=PySem.IsL.update e f;rw[Z] at q;refine I.write (by rw[Y];exact trivial) (.inl rfl) (λi u U hu=>(mB s.heap (mT f) (mu U)).trans hu) ⟨_,q⟩ ?_;exact ⟨hz,us,_,hv,q⟩
theorem Cs.aaE{t':Nat}(I:Cs X BY σ H s)(hv:CA ys Cf)(hz:ys.length<=be) :
 Cs X BY σ (CB H s.heap.objs.size (.lst ys)) { s with heap:=s.heap.push { cls:=.type "list",data:=.seq Cf.toArray },toks:=t' }:=
 I.laid (λ_ _ q=>av _ q) (ax _) ⟨hz,Cf,0,hv,bo _ rfl⟩
theorem Cs.fresh(I:Cs X BY σ H s):H s.heap.objs.size=none:=I.CH.fresh (ax _)
theorem Cs.Lg(I:Cs X BY σ H s)(U:H l=some (.lst xs)):xs.length<=be/\∃(Cf:B9) (n:Nat),CA xs Cf/\xs.length=Cf.length/\s.heap.get? l=some { cls:=.type "list",data:=.seq Cf.toArray n }:=by
 obtain ⟨z,Cf,n,r,e⟩:=I.CH l _ U;exact ⟨z,Cf,n,r,r.length,e⟩
theorem Fi{n:Nat}(h:n<=be):lx n=false:=by
 exact decide_eq_false (by lia)
end
section
variable {X:Cx}
def Xq:V->C1->Hp->VK->Prop:=λx vs H Q=>∃l xs y,x= .ref l/\vs=[y]/\H l=some (.lst xs)/\xs.length<be/\Q .non (CB H l (.lst (xs++[y])))
theorem DG:MtM X "list.append" Xq:=by
 rintro Z s C H x p v D Q I i m ⟨l,o,y,rfl,rfl,Y,hz,q⟩;cases i;obtain ⟨u,rfl,j⟩:=m.one;obtain ⟨z,U,n,r,B,e⟩:=I.Lg Y;refine uj F.slot_list_append ⟨_,e,rfl⟩ F.entry_list_append (F.args_list_append_2 _ _) (PySem.list_append l U.toArray n u (by rw[br];lia)) ⟨e,?_⟩;refine ⟨.non,_,I.Lq Y e (by simp) (r.append (.cons j .nil)) ?_,rfl,q⟩;rw[aw,d5];lia
def ac9:V->C1->Hp->VK->Prop:=λx vs H Q=>∃l xs y,x= .ref l/\vs=[]/\H l=some (.lst xs)/\xs[xs.length - 1]?=some y/\Q y (CB H l (.lst xs.dropLast))
theorem aad:MtM X "list.pop" ac9:=by
 rintro j s E H x D v J Q I m B ⟨l,C,y,rfl,rfl,i,hy,q⟩;cases m;have Y:=B.zero;subst Y;obtain ⟨z,U,n,r,o,e⟩:=I.Lg i;obtain ⟨u,hu,p⟩:=r.get hy;have Z:=by
  show U.toArray[U.length - 1]?=some u;rw[<- eL,<- o];exact hu
 refine uj F.slot_list_pop ⟨_,e,rfl⟩ F.entry_list_pop (F.args_list_pop_1 _) (MeetsSeq.list_pop_last l U.toArray n u Z (by rw[br];lia)) ⟨e,?_⟩;refine ⟨y,_,I.Lq i e ?_ r.dropLast ?_,p,q⟩
 . rw[br,List.eraseIdxIfInBounds_toArray,Lh]
 . rw[List.length_dropLast];lia
theorem len_rep{Y:Type}(xs:List Y)(k:Nat):(cE k xs).flatten.length=k*xs.length:=by
 induction k with
 | zero=>simp
 | succ k U=>rw[gu,l6,aw,U,wo,BO]
end
end Zq
namespace Att
open PySem PySem.W PySem.Calls PyProof.Rows
theorem zp{P:Params}{h:Heap}:∀(ns:List Int) (vs:List a0),WellAll P h vs (ns.map WData.int)->oa vs ns:=by
 intro ns
 induction ns with
 | nil=>
  intro vs w;rw[ll] at w;cases w;exact .nil
 | cons n ns U=>
  intro vs w;rw[b9] at w
  cases w with
  | cons a b=>
   cases a;exact .cons _ _ (U _ b)
theorem QL{l:vx}{n:Nat}(z:l.most=some n){P:Params}{h:Heap}{args:List WData}{U:List a0}
 (Y:l.row.toRowW.claim.pre args=true) (o:WellAll P h U args) :
 ∃a vs ns,U=[gX a]/\args=[WData.list (ns.map WData.int)]/\h.get? a=some { cls:=.type "list",data:=.seq vs.toArray }/\oa vs ns/\ns.length<=n:=by
 have j:=(pre_splitW Y).1;have y:=(pre_splitW Y).2;obtain ⟨d,r,rfl,h1,h2⟩:=hasAllW_cons j;obtain rfl:=hasAllW_nil h2;obtain ⟨B,rfl,s⟩:=hasW_list h1;obtain ⟨ns,rfl⟩:=items_int s;have Z:ns.length<=n:=by
  have m:(WTm.not (.lt (.lit (.int n)) (.len (.arg 0)))).holds [] { args:=[.list (ns.map .int)] }=true:=by
   have m:=(holds_andW y).1;rwa [z] at m
  have i:=condW_of m (w_not (w_lt w_lit (w_len_list (w_arg rfl))));rw[ai] at i;refine hY λq=>?_;have u:n<(ns.length:Int):=by lia
  first
   | (rw[decide_eq_true u] at i;exact absurd i (by decide))
   | (simp at i;lia)
 cases o with
 | cons v x=>
  cases x
  cases v with
  | list p e=>exact ⟨_,_,ns,rfl,rfl,p,zp ns _ e,Z⟩
theorem Qk(l:vx)(U:List WData):l.row.toRowW.claim.post U (.bool true) U=true:=
 postW_of
  (show WShape.has [] (.bool true) .bool=true by first | rfl | decide | simp[WShape.arms,WShape.armsAll])
  (w_eq_bool (w_res rfl) w_lit) rfl
theorem Jj{l:vx}{n:Nat}{q:fF}{Z:List Str}{z:(Str->Option a0)->Heap->Prop}{D:kn->Heap->Prop}{d:DefRec}
 (Q:l.most=some n) (u:d.params.defaults=[])
 (call:∀(w:kn) (s₀ U:a8) (mg mb:Str->Option a0) (p:Addr) (o:Obj) (pm cd e:a0) (a:Addr) (vs:List a0) (ns:List Int),
  Ground q Z [] z w s₀ mg mb U.heap->D w U.heap ->
  U.heap.get? p=some o->o.data= .func (docDef d.name d.params d.body d.scope pm cd e)->U.heap.CodeRec cd d.name->mg d.name=some (.ref p) ->
  U.heap.get? a=some { cls:=.type "list",data:=.seq vs.toArray }->oa vs ns->ns.length<=n->U.gens=#[] ->
  sC (bX l.prog w) BB (.call (.ref p) ⟨[.ref a],[]⟩) (λr s'=>r= .ok (.ret (.bool true))/\OldK U.heap s'.heap/\s'.os=U.os/\wh s'.gens) U) :
 WalkO q Z z D l.row.toRowW d [] (λf vs=>PySem.call f vs):=by
 intro w s₀ U mg mb G Y p o pm cd e P kV J hd v B x I H E as s C S y R;obtain rfl:P= .none:=Dflts.none B u;obtain rfl:kV= .none:=Dflts.noKw B;obtain ⟨a,vs,ns,rfl,rfl,m,i,j⟩:=QL Q s y;refine enter_call (qA (call w s₀ U mg mb p o pm cd e a vs ns G Y J (fd_plain hd) v x m i j I) λr s' M=>?_);obtain ⟨rfl,h2,h3,O⟩:=M;exact ⟨.inl ⟨.bool true,.bool true,[],rfl,λ_=>rfl,.bool true,Qk l _,λ_=>⟨BD.nil,λ_ L=>(nomatch L)⟩⟩,h2,h3,O⟩
end Att
namespace Zq
open PySem PySem.Spec PyProof.Rows
theorem Cq:∀{vs:B9}{ns:B4},oa vs ns->CA (ns.map V.int) vs
 | _,_,.nil=>.nil
 | _,_,.cons n t h=>.cons ⟨t,rfl⟩ (Cq h)
noncomputable def b8(s:Stmt):Arguments:=match s with
 | .FunctionDef _ a _ _ _ _ _ _ _ _=>a
 | _=>{ posonlyargs:=[],args:=[],vararg:=none,kwonlyargs:=[],kw_defaults:=[],kwarg:=none,defaults:=[] }
noncomputable def bC(s:Stmt):C6:=match s with
 | .FunctionDef _ _ b _ _ _ _ _ _ _=>b
 | _=>[]
noncomputable def aK(s:Stmt):xa:=match s with
 | .FunctionDef _ _ _ _ _ _ sc _ _ _=>sc
 | _=>{ kind:=.function,names:=[],isGenerator:=false,isCoroutine:=false }
abbrev CX0:CXT:=λ_ _ _ _ _ _=>False
abbrev E0:XK:=λ_ _ _=>False
theorem abU{X:Cx}:Passes CX0 X E0:=λ_ _ _ _ _ _ _ h=>h.elim
structure Fun (K:aE) (x qual:Str) (st:Stmt) (f:Addr) (fd:oi):Prop where
 ex:∃(oc:a0) (od:C5) (kV doc pm:a0) (an:C5) (Cn ct:a0) (osl:Array B8),
  fd=ey x qual (b8 st) (bC st) (aK st) .none kV doc pm an Cn ct/\K.lookup f=some ⟨oc,od,.func fd,osl⟩/\mS K Cn qual=true
 kp:kF K (.ref f)=true
variable {x qual:Str}
section
variable {P:fF}{w:kn}{K:aE}{mg:Str->B8}{base:Heap}
theorem Fun.ok{st:Stmt}{f:Addr}{fd:oi}{N ps:B7}{k:Nat}{sp:Sp}(F:Fun K x qual st f fd)(S:cO N ps (aK st))(len:∀vs H Q E,sp vs H Q E->vs.length=ps.length)
 (hbody:∀(U:a0) (A:eK) (CU:C7) (s:a8) (H:Hp) (vs:C1) (Q:VK) (E:XK),cA k (A.deeper (kQ qual (aK st) s.heap.objs.size f U))->sp vs H Q E ->
  ∃t,PSs (jx CX0 P w K mg base N qual (aK st) f U A CU s H E).nox (bC st) t/\t { nx:=λ_ H'=>Q .non H',rt:=Q } (start N vs) H):oM P w K mg base CX0 (k+1) f fd ps sp:=by
 obtain ⟨m,o,kV,e,pm,l,U,ct,j,rfl,lk,Z⟩:=F.ex;refine Et lk Z S len λA CU s H vs Q E i Y=>?_;obtain ⟨t,h,q⟩:=hbody U A CU s H vs Q E i Y;exact ⟨t,h.nox,q⟩
theorem Fun.binds{st:Stmt}{f:Addr}{fd:oi}{ps:B7}(F:Fun K x qual st f fd)
 (h:∀(kV U pm:a0) (Z:C5) (Y ct:a0) (us:B9),us.length=ps.length->kD (ey x qual (b8 st) (bC st) (aK st) .none kV U pm Z Y ct) ⟨us,[]⟩=pure (ps.zip us)):Binds K fd ps []:=by
 obtain ⟨j,l,kV,U,pm,Z,Y,ct,i,rfl,lk,e⟩:=F.ex;exact .all (h kV U pm Z Y ct)
theorem G9{st:Stmt}{f:Addr}{i:a0}{j e:C5}{Z:Array B8}{kV Y pm U ct:a0}(l:K.lookup f=some ⟨i,j,.func (ey x qual (b8 st) (bC st) (aK st) .none kV Y pm e U ct),Z⟩)
 (c:mS K U qual=true) (k:kF K (.ref f)=true):Fun K x qual st f (ey x qual (b8 st) (bC st) (aK st) .none kV Y pm e U ct):=⟨⟨i,j,kV,Y,pm,e,U,ct,Z,rfl,l,c⟩,k⟩
end
theorem vP{A B:Prop}(h:B):if false=true then A else B:=by
 rw[if_neg iO];exact h
theorem uc{A B:Prop}(h:A):if true=true then A else B:=by
 rw[if_pos rfl];exact h
def aA(H H':Hp):Prop:=∀b o,H b=some o->H' b=some o
theorem aA.refl(H:Hp):aA H H:=λ_ _ h=>h
theorem aA.trans{H U H2:Hp}(a:aA H U)(b:aA U H2):aA H H2:=λc o h=>b c o (a c o h)
theorem aA.free{H U:Hp}(e:aA H U){l:Addr}(h:U l=Option.none):H l=Option.none:=by
 cases q:H l with
 | none=>rfl
 | some o=>
  rw[e l o q] at h;cases h
theorem aA.seq{K:aE}{H U:Hp}{a:Addr}{xs:C1}(e:aA H U)(h:SqL K H a xs):SqL K U a xs:=by
 rcases h with (h | ⟨o,h⟩) | h
 . exact .inl (.inl (e _ _ h))
 . exact .inl (.inr ⟨o,e _ _ h⟩)
 . exact .inr h
end Zq
set_option maxHeartbeats 4000000
namespace Zq
open PySem PySem.Spec PyProof.Rows
noncomputable def Cx.comp(X:Cx)(scope:xa)(tn:B7)(ix:B6)(cl:B2)(C:Addr)(s₂:a8)(H₂:Hp)(fp:C3):Cx where
 prog:=X.prog
 w:=X.w
 K:=X.K
 mg:=X.mg
 base:=X.base
 A:=X.A
 N:=tn++ix.map λi=>X.N.getD i Str.empty
 s₀:=s₂
 H₀:=H₂
 env:=compEnvC scope cl C X.env
 CU:=X.stack
 stack:=X.stack
 ex:=fp
 fn:=λx=>scope.names.lookup x == some .cell
 calm:=X.calm
 pn:=[]
 xe:=λ_ _=>False
noncomputable def sJ(tn:B7)(ix:B6)(σ:St):St:=cE tn.length none++ix.map λi=>(σ[i]?).join
def pX(X:Cx)(ifs:C2)(t:TT):Prop:=
 ∀(BY:A6) (s:a8) (σ:St) (H:Hp) (Q:Bool->Hp->Prop),Cs X BY σ H s->t σ H Q ->
  cf (bX X.prog X.w) X.A (forIn ifs true λc r=>if r=true then do let ok <- BM c X.env (eval c X.env);pure (j2 ok) else pure (j2 r)) (TP X BY σ Q) X.xe s
def acL:TT:=λ_ H Q=>Q true H
variable {X:Cx}
theorem RB:pX X [] acL:=λ_ _ _ H _ I h=>wpAny_tests_nil ⟨H,I,h⟩
theorem Te{c:Expr}{t:TT}(h:PT X c t):pX X [c] t:=λU s Y H Q I q=>wpAny_tests_one (h U s Y H Q I q)
def Zd(tn:B7)(ix:B6)(g:TG)(tt:TT)(te:TE)(σ:St)(Q:VK)(J:It)(H1:Hp):Prop:=∀D,H1 D=none ->
 ∃W:Nat->Nat->St->C1->Hp->Prop,(∃m,W 0 m (sJ tn ix σ) [] (CB H1 D (.lst [])))/\∀i m σb Cc H2,W i m σb Cc H2->H2 D=some (.lst Cc) /\
  ((
   J.stop i H2/\Q (.ref D) H2)\/(J.go i H2/\Cc.length<be/\∀x H3,J.yld i H2 x H3->g x σb H3 λσ4 H4=>tt σ4 H4 λb H5=>
   if b=true then te σ4 H5 λv H6=>H6 D=some (.lst Cc)/\∃m',m'<m/\W (i+1) m' σ4 (Cc++[v]) (CB H6 D (.lst (Cc++[v]))) else ∃m',m'<m/\W (i+1) m' σ4 Cc H5))
def El(tn:B7)(ix:B6)(wi:TI)(g:TG)(tt:TT)(te:TE):TE:=λσ H Q=>wi σ H (Zd tn ix g tt te σ Q)
variable {scope:xa}{env:Env}
theorem Ei(h:∀x∈scope.names,x.2= .free->∃c,env.cells.lookup x.1=some c) :
 ∃cl,AN scope env=pure cl/\(∀x c,cl.lookup x=some c->env.cells.lookup x=some c)/\∀x∈scope.names,x.2= .free->∃c,cl.lookup x.1=some c:=by
 have all:∀(l:List (Str×gi)) (U:B2),(∀x∈l,x.2= .free->∃c,env.cells.lookup x.1=some c)->(∀x c,U.lookup x=some c->env.cells.lookup x=some c) ->
  ∃cl,(forIn l U λ(x:Str×gi) (r:B2)=>(if (x.2 == gi.free)=true then (do let a <- cellOf env x.1;pure (j2 ((x.1,a)::r))) else pure (j2 r):Sem (ForInStep B2)))=pure cl /\
   (∀x c,cl.lookup x=some c->env.cells.lookup x=some c)/\(∀x∈l,x.2= .free->∃c,cl.lookup x.1=some c)/\∀x,(∃c,U.lookup x=some c)->∃c,cl.lookup x=some c:=by
  intro l
  induction l with
  | nil=>intro U _ ha;exact ⟨U,rfl,ha,λx hx=>absurd hx (by simp),λx hx=>hx⟩
  | cons y r q=>
   intro U m ha;obtain ⟨n,k⟩:=y
   by_cases hk:k= .free
   . subst hk;obtain ⟨c,u⟩:=m (n,.free) (by simp) rfl;have p:∀x c',ya x ((n,c)::U)=some c'->env.cells.lookup x=some c':=λx c' e=>by
      rw[k8] at e
      cases hx:x == n with
      | true=>
       rw[hx] at e;have Y:=beq_iff_eq.mp hx;cases e;rw[Y];exact u
      | false=>rw[hx] at e;exact ha x c' e
     obtain ⟨cl,Y,i,Z,e4⟩:=q ((n,c)::U) (λx hx=>m x (a6 _ hx)) p;have v:cellOf env n=pure c:=by rw[cellOf,u]
     refine ⟨cl,?_,i,λx hx j=>?_,λx ⟨c',o⟩=>?_⟩
     . rw[kP];simp only[v,beq_self_eq_true,pure_bind];exact Y
     . rcases bq.mp hx with rfl | hx
       . exact e4 n ⟨c,by simp⟩
       . exact Z x hx j
     . refine e4 x ?_;rw[k8]
       cases x == n with
       | true=>exact ⟨c,rfl⟩
       | false=>exact ⟨c',o⟩
   . have z:(k == gi.free)=false:=by simpa using hk
     obtain ⟨cl,Y,i,Z,e4⟩:=q U (λx hx=>m x (a6 _ hx)) ha;refine ⟨cl,?_,i,λx hx j=>?_,e4⟩
     . rw[kP];simp only[z,fh,pure_bind];exact Y
     . rcases bq.mp hx with rfl | hx
       . exact absurd j hk
       . exact Z x hx j
 obtain ⟨cl,Y,i,Z,_⟩:=all scope.names [] h (λx c e=>by simp at e);refine ⟨cl,?_,i,Z⟩;refine Eq.trans rfl ?_;have s:=congrArg (· >>= pure) Y
 first
  | (exact s)
  | exact s.trans (pure_bind _ _)
theorem mJ{env:Env}:∀{U:List (Str×gi)}{x:Str},U.lookup x=some .free ->
 (U.map λ(n,k)=>if (k == gi.free&&env.scope.kind == .function&&env.kindOf n == some .cell) then (n,gi.cell) else (n,k)).lookup x=some .cell \/
 (U.map λ(n,k)=>if (k == gi.free&&env.scope.kind == .function&&env.kindOf n == some .cell) then (n,gi.cell) else (n,k)).lookup x=some .free
 | [],_,h=>by simp at h
 | (n,k)::r,x,h=>by
  have Z:=@mJ env r x;show ya x ((if (k == gi.free&&env.scope.kind == .function&&env.kindOf n == some .cell)=true then (n,gi.cell) else (n,k))::_)=_\/ya x ((if (k == gi.free&&env.scope.kind == .function&&env.kindOf n == some .cell)=true then (n,gi.cell) else (n,k))::_)=_
  cases hx:x == n with
  | true=>
   simp only[k8,hx] at h;cases h
   by_cases Y:(gi.free == gi.free&&env.scope.kind == .function&&env.kindOf n == some .cell)=true
   . rw[if_pos Y];exact .inl (by simp[k8,hx])
   . rw[if_neg Y];exact .inr (by simp[k8,hx])
  | false=>
   simp only[k8,hx] at h
   by_cases Y:(k == gi.free&&env.scope.kind == .function&&env.kindOf n == some .cell)=true
   . rw[if_pos Y];simp only[k8,hx];exact Z h
   . rw[if_neg Y];simp only[k8,hx];exact Z h
noncomputable def gK(X:Cx)(scope:xa)(ix:B6):Bool:=
 scope.kind == .function&&scope.names.all (λy=>scope.names.lookup y.1 == some y.2&&(y.2 != .free||(X.env.scope.names.lookup y.1 == some .cell||X.env.scope.names.lookup y.1 == some .free))&&(y.2 != .local||scope.names.lookup y.1 == some .local)) &&
 ix.all λi=>match X.N[i]? with
  | some x=>scope.names.lookup x == some .free
  | none=>false
structure HX (X:Cx) (scope:xa) (ix:B6):Prop where
 kind:scope.kind= .function
 one:∀y∈scope.names,scope.names.lookup y.1=some y.2
 free:∀y∈scope.names,y.2= .free->X.env.scope.names.lookup y.1=some .cell\/X.env.scope.names.lookup y.1=some .free
 loc:∀y∈scope.names,y.2= .local->scope.names.lookup y.1=some .local
 ix:∀i∈ix,∃x,X.N[i]?=some x/\scope.names.lookup x=some .free
theorem gK.of{ix:B6}(h:gK X scope ix=true):HX X scope ix:=by
 unfold gK at h;rw[cp,cp] at h;obtain ⟨⟨h1,h2⟩,U⟩:=h;rw[hZ] at h2 U;have g:∀y∈scope.names,(scope.names.lookup y.1=some y.2/\(y.2= .free->X.env.scope.names.lookup y.1=some .cell\/X.env.scope.names.lookup y.1=some .free))/\(y.2= .local->scope.names.lookup y.1=some .local):=λy hy=>by
  have q:=h2 y hy;rw[cp,cp,vS,vS,vS] at q;obtain ⟨⟨q1,q2⟩,q3⟩:=q;refine ⟨⟨by simpa using q1,λe=>?_⟩,λe=>?_⟩
  . rcases q2 with q2 | q2 | q2
    . exact absurd e (by simpa using q2)
    . exact .inl (by simpa using q2)
    . exact .inr (by simpa using q2)
  . rcases q3 with q3 | q3
    . exact absurd e (by simpa using q3)
    . simpa using q3
 refine ⟨by simpa using h1,λy hy=>(g y hy).1.1,λy hy=>(g y hy).1.2,λy hy=>(g y hy).2,λi hi=>?_⟩;have q:=U i hi
 cases e:X.N[i]? with
 | none=>rw[e] at q;cases q
 | some x=>rw[e] at q;exact ⟨x,rfl,by simpa using q⟩
variable {BY:A6}{σ:St}{H:Hp}{s:a8}
section
variable       {tn:B7}{ix:B6}{cl:B2}{C D:Addr}{fp:C3}{h₁:Heap}{tk:Nat}
theorem Cs.block(S:HX X scope ix)(I:Cs X BY σ H s)(U:∀x c,cl.lookup x=some c->(X.env.cells.lookup x=some c/\scope.names.lookup x≠some .cell)\/(scope.names.lookup x=some .cell/\s.heap.objs.size<=c/\c≠D/\h₁.IsCell c none))
 (R:∀x y c,cl.lookup x=some c->cl.lookup y=some c->scope.names.lookup x=some .cell->scope.names.lookup y=some .cell->x=y) (Q:∀x,scope.names.lookup x=some .cell->∃c,cl.lookup x=some c) (B:∀x∈scope.names,x.2= .free->∃c,cl.lookup x.1=some c)
 (E:∀b∈fp,oK X BY H b) (hfo:∀b∈fp,∃o,s.heap.get? b=some o) (old:∀b o,s.heap.get? b=some o->h₁.get? b=some o) (hD:s.heap.objs.size<=D) (hC:s.heap.objs.size<=C) (hDC:D≠C)
 (hd:h₁.get? D=some { cls:=.type "list",data:=.seq ([]:B9).toArray }) (hn:∃m,h₁.Ns C m) :
 Cs (X.comp scope tn ix cl C s H fp) [] (sJ tn ix σ) (CB H D (.lst [])) { s with heap:=h₁,toks:=tk }:=by
 have frD:=I.CH.fresh hD;have frC:=I.CH.fresh hC;have Y:∀x c,X.env.cells.lookup x=some c->c<s.heap.objs.size:=λx c e=>by
  obtain ⟨v,q⟩:=I.cell x c e;exact q.lt
 have hcl:∀x c,scope.names.lookup x=some .free->cl.lookup x=some c->X.env.cells.lookup x=some c:=λx c hx e=>by
  rcases U x c e with z | z
  . exact z.1
  . rw[hx] at z;cases z.1
 have ok:(X.comp scope tn ix cl C s H fp).Ok:=by
  refine ⟨I.ok.mod,S.kind,I.ok.glob,I.ok.blt,hC,λx y c h1 h2=>?_,λx hx=>?_,λx c h e=>?_,I.ok.hd,I.ok.frames,.inl rfl,λb M=>⟨?_,λx c e=>?_⟩,I.bs,
   c5 I.ok.bsz I.sz,λb o e M=>?_,λb M hf=>?_,I.stack,I.BR,λP h=>I.base.gm _ _ (I.ok.tabs P h)⟩
  . rcases U x c h1 with z1 | z1 <;> rcases U y c h2 with z2 | z2
    . exact I.ok.inj x y c z1.1 z2.1
    . exact absurd (Y x c z1.1) (n0.mpr z2.2.1)
    . exact absurd (Y y c z2.1) (n0.mpr z1.2.1)
    . exact R x y c h1 h2 z1.1 z2.1
  . -- a cell or a free name of the block has Cf cell
    have J:=hx;have hm:∃k,(x,k)∈(scope.names.map λ(n,k)=>if (k == gi.free&&X.env.scope.kind == .function&&X.env.kindOf n == some .cell) then (n,gi.cell) else (n,k))/\(k= .cell\/k= .free):=by
     rcases J with h | h
     . exact ⟨_,gp h,.inl rfl⟩
     . exact ⟨_,gp h,.inr rfl⟩
    obtain ⟨k,hm,hk⟩:=hm;obtain ⟨⟨n,k'⟩,hy,e⟩:=bt.mp hm
    dsimp only at e
    by_cases hc:(k' == gi.free&&X.env.scope.kind == .function&&X.env.kindOf n == some .cell)=true
    . rw[if_pos hc] at e;cases e;rw[cp,cp] at hc;exact B _ hy (by simpa using hc.1.1)
    . rw[if_neg hc] at e;cases e;rcases hk with hk | hk
      . exact Q _ (by rw[<- hk];exact S.one _ hy)
      . exact B _ hy hk
  . rcases U x c e with z | z
    . have h:(scope.names.lookup x == some gi.cell)=true:=h;exact absurd (by simpa using h) z.2
    . exact z.2.1
  . intro z;obtain ⟨o,e⟩:=hfo b M;exact absurd (cK (bg e) (by rw[z];exact hC)) (fo _)
  . rcases U x c e with z | z
    . exact (E b M).2.2.2.2.1 x c z.1
    . intro y;obtain ⟨o,e'⟩:=hfo b M;have q:=bg e';rw[<- y] at q;exact absurd q (n0.mpr z.2.1)
  . rcases (E b M).2.2.2.1 with z | z
    . exact I.ok.Ba b o e z
    . exact absurd (cK (bg (I.ok.bs b o e).1) z) (fo _)
  . rcases bq.mp (I.Ag b hf) with z | z
    . exact (E b M).2.1 z
    . exact (E b M).2.2.1 z
 refine ⟨ok,rfl,I.bare,Un.laid old hD frD,?_,λx c e=>?_,?_,λx c e=>?_,λp hp=>absurd (show p∈([]:A6) from hp) (by simp),?_,?_⟩
 . obtain ⟨m,hn⟩:=hn;refine ⟨m,hn,λi x v e1 e2 e3=>?_⟩;have hi:tn.length<=i:=by
    rcases iA i tn.length with hi | hi
    . have j:(cE tn.length none++ix.map λi=>(σ[i]?).join)[i]?=some (some v):=e2;rw[dA (by simpa using hi),kq,if_pos hi] at j;cases j
    . exact hi
   have r:(tn++ix.map λi=>X.N.getD i Str.empty)[i]?=some x:=e1;have j:(cE tn.length none++ix.map λi=>(σ[i]?).join)[i]?=some (some v):=e2;rw[c9 hi,a9] at r;rw[c9 (by simpa using hi),a9,cn] at j
   cases ek:ix[i - tn.length]? with
   | none=>rw[ek] at r;cases r
   | some k=>
    rw[ek] at r j;have O:X.N.getD k Str.empty=x:=Option.some.inj r;have Z:(σ[k]?).join=some v:=Option.some.inj j;have e2s:σ[k]?=some (some v):=by
     cases q:σ[k]? with
     | none=>rw[q] at Z;cases Z
     | some o=>rw[q] at Z;have:o=some v:=Z;rw[this]
    obtain ⟨x',J,L⟩:=S.ix k (d4 ek);have exx:x'=x:=by
     rw[<- O,ay,J];rfl
    subst exx;have hfr:=S.free _ (gp L) rfl;obtain ⟨m0,hn0,hl0⟩:=I.loc;obtain ⟨u,ru,lk⟩:=hl0 k x' v J e2s (.inr hfr);refine ⟨u,ru,?_⟩;rcases lk with ⟨kl,_⟩ | ⟨kc,c,ec,ic⟩
    . exfalso
      have kl':X.env.scope.names.lookup x'=some .local:=kl;rcases hfr with z | z <;> rw[z] at kl' <;> cases kl'
    . obtain ⟨c',ec'⟩:=B _ (gp L) rfl;have ecc:=by
       have q:=hcl x' c' L ec';rw[ec] at q;exact (Option.some.inj q).symm
      subst ecc;refine .inr ⟨mJ L,c',ec',?_⟩;obtain ⟨o,ho,l⟩:=ic;exact ⟨o,old _ _ ho,l⟩
 . rcases U x c e with z | z
   . obtain ⟨v,o,ho,l⟩:=I.cell x c z.1;exact ⟨v,o,old _ _ ho,l⟩
   . exact ⟨_,z.2.2.2⟩
 . show CB H D (.lst []) C=none;rw[aL (mu hDC)];exact frC
 . rcases U x c e with z | z
   . rw[aL (cS (cK (Y x c z.1) hD))];exact I.fY x c z.1
   . rw[aL z.2.2.1];exact I.CH.fresh z.2.1
 . exact I.CH.laid old hD ⟨f7 _,[],0,.nil,hd⟩
 . show (sJ tn ix σ).length=(tn++ix.map λi=>X.N.getD i Str.empty).length;rw[sJ,aw,aw,cn,ai,ai]
end
variable {prog:fF}{w:kn}{A:eK}{pos:Pos}
theorem Hc{R:Result->a8->Prop}{s:a8}{z U iter:Expr}{u:C2}{it Cc:a0}(I:Nat->a8->Prop)
 (D:∀n s,I n s->cf (bX prog w) A (AG it) (λr e=>match r with
  | none=>R (.ok .next) e
  | some v=>cf (bX prog w) A (AW U it v) (λ_ Y=>cf (bX prog w) A (Bi U env v) (λ_ j=>
   cf (bX prog w) A (forIn u true λc r=>if r=true then do let ok <- BM c env (eval c env);pure (j2 ok) else pure (j2 r)) (λok Z=>
    if ok=true then cf (bX prog w) A (eval z env) (λx i=>
     cf (bX prog w) A (call (.builtin "list.append") [Cc,x]) (λ_ o=>∃m,m<n/\I m o) (λ_ _=>False) i) (λ_ _=>False) Z
    else ∃m,m<n/\I m Z) (λ_ _=>False) j) (λ_ _=>False) Y) (λ_ _=>False) e) (λ_ _=>False) s)
 (n:Nat) (h:I n s) :
 sC (bX prog w) A (.compLoop (.ListComp z [⟨U,iter,u,0⟩] scope pos) 0 it Cc env) R s:=by
 refine codeAny_loop rfl I (λn s E=>?_) n h;refine wpAny_noted ?_;rw[compTurn_list];refine ae (wpAny_standAt (ae (eR (D n s E) (λr e l=>?_) λ_ _ f=>f.elim)))
 cases r with
 | none=>exact ar l
 | some v=>
  refine ae (eR l (λ_ Y q=>?_) λ_ _ f=>f.elim);refine ae (eR q (λ_ j y=>ae (eR y (λok Z p=>?_) λ_ _ f=>f.elim)) λ_ _ f=>f.elim)
  cases ok with
  | false=>exact ar ⟨rfl,p⟩
  | true=>
   exact ae (ae (eR p (λx i B=>ae (eR B (λ_ o C=>ar (ar ⟨rfl,C⟩)) λ_ _ f=>f.elim)) λ_ _ f=>f.elim))
variable {x:Str}{E:B3}
section
variable       {tn:B7}{ix:B6}{elt tg iter:Expr}{ifs:C2}  {wi:TI}{g:TG}{tt:TT}{te:TE}{Q:VK}
theorem vH{U:B2}:∀{l:List (Str×gi)}{n:Nat}{Cc:B2},k7 n l (Cc++U)=k7 n l Cc++U
 | [],n,Cc=>rfl
 | (y,k)::l,n,Cc=>by
  unfold k7
  by_cases hk:(k == .cell)=true
  . rw[if_pos hk,if_pos hk];exact vH (Cc:=(y,n)::Cc)
  . rw[if_neg hk,if_neg hk];exact vH
theorem wR{c:Addr}:∀{l:List (Str×gi)}{n:Nat}{Cc:B2},(x,c)∈k7 n l Cc->(x,c)∈Cc\/(x,gi.cell)∈l
 | [],n,Cc,h=>.inl h
 | (y,k)::l,n,Cc,h=>by
  unfold k7 at h
  by_cases hk:(k == .cell)=true
  . rw[if_pos hk] at h;rcases wR h with z | z
    . rcases bq.mp z with e | z
      . cases e;exact .inr (by rw[show k=gi.cell by simpa using hk];exact a7)
      . exact .inl z
    . exact .inr (a6 _ z)
  . rw[if_neg hk] at h;rcases wR h with z | z
    . exact .inl z
    . exact .inr (a6 _ z)
theorem Dr{x y:Str}{c:Addr}:∀{cs:B2},cs.Pairwise (λx y=>x.2≠y.2)->(x,c)∈cs->(y,c)∈cs->x=y
 | [],_,h,_=>nomatch h
 | z::cs,h,h1,h2=>by
  obtain ⟨U,Y⟩:=kg.mp h;rcases bq.mp h1 with e1 | e1
  . rcases bq.mp h2 with e2 | e2
    . rw[<- e1] at e2;cases e2;rfl
    . rw[<- e1] at U;exact (U (y,c) e2 rfl).elim
  . rcases bq.mp h2 with e2 | e2
    . rw[<- e2] at U;exact (U (x,c) e1 rfl).elim
    . exact Dr Y e1 e2
theorem Ri{M:Model}{U:Addr}{cl:B2}{Q:Env->a8->Prop}
 (h:Q (newEnv scope s.heap.objs.size U (k7 (s.heap.objs.size+1) scope.names cl) x none .none (some env) r6) { s with heap:=pushCells (s.heap.push { cls:=.type "dict",data:=.dict #[] }) scope.names }) :
 cf M A (newFunctionEnv scope U cl [] x none .none (some env)) Q E s:=by
 refine ae (wpAny_alloc (ae (wpAny_layCells _ (λe kind Y=>by cases Z:kind == gi.cell <;> simp[Z]) _ _ _ _ ?_)));rw[jS ..];exact ae (ar (ar h))
theorem CV(S:HX X scope ix)(hc:X.calm=true)(hi:PI X tg iter wi)
 (hg:∀cl C j l fp,PG (X.comp scope tn ix cl C j l fp) tg g) (ht:∀cl C j l fp,pX (X.comp scope tn ix cl C j l fp) ifs tt) (he:∀cl C j l fp,PE (X.comp scope tn ix cl C j l fp) elt te)
 {P:a0->Addr->Result->a8->Prop} (I:Cs X BY σ H s) (h:El tn ix wi g tt te σ H Q)
 (hP:∀D C s' H',Cs X BY σ H' s'->(∃m,s'.heap.Ns C m)->oK X BY H' C->Q (.ref D) H'->P (.ref D) C (.ok .next) s') :
 ∃cl,AN scope X.env=pure cl/\cf (bX X.prog X.w) X.A (eval iter X.env) (λx s₁=>cf (bX X.prog X.w) X.A (AH x) (λit j=>cf (bX X.prog X.w) X.A (newList []) (λCc s₃=>
  cf (bX X.prog X.w) X.A (newFunctionEnv scope X.env.globals cl [] X.env.qual none .none (some X.env)) (λcenv s₄=>
   sC (bX X.prog X.w) X.A (.compStart (.ListComp elt [⟨tg,iter,ifs,0⟩] scope pos) 0 it Cc { cenv with scope:=relabel scope X.env }) (P Cc cenv.locals) s₄) X.xe s₃) X.xe j) X.xe s₁) X.xe s:=by
 obtain ⟨cl,hcl,hc1,hc2⟩:=Ei λx hx hf=>I.ok.has x.1 (S.free x hx hf);refine ⟨cl,hcl,thn (hi BY s σ H _ I h) λv s1 h1=>thn h1 λitv U h2=>?_⟩;obtain ⟨it,fp,tnn,J,E,e,I2,T,st2,f2,R⟩:=h2;subst e;refine eS (Ri ?_);generalize hHH:U.heap.push { cls:=.type "list",dict:=none,data:=.seq ([]:B9).toArray }=HH;have hCs:HH.objs.size=U.heap.objs.size+1:=by rw[<- hHH,jS]
 have hDC:U.heap.objs.size≠HH.objs.size:=by rw[hCs];exact cS (mP _)
 have L:U.heap.objs.size<=HH.objs.size:=by rw[hCs];exact ot _
 have T3:∀b o,HH.get? b=some o->(pushCells (HH.push { cls:=.type "dict",data:=.dict #[] }) scope.names).get? b=some o:=λb o e=>pushCells_keeps _ _ b o (av _ e);have B:(pushCells (HH.push { cls:=.type "dict",data:=.dict #[] }) scope.names).Ns HH.objs.size (λ_=>none):=(Heap.Ns.new HH (.type "dict")).keeps (pushCells_keeps _ _);have okc:=cellsFrom_ok scope.names (HH.push { cls:=.type "dict",data:=.dict #[] }) (HH.objs.size+1) [] ⟨λ_ _ hm=>(nomatch hm),BD.nil⟩ (by rw[jS];exact ax _);rw[jS] at okc;have eCL:k7 (HH.objs.size+1) scope.names cl=k7 (HH.objs.size+1) scope.names []++cl:=vH (Cc:=[]);have spl:∀x c,(k7 (HH.objs.size+1) scope.names cl).lookup x=some c->(scope.names.lookup x=some .cell/\(x,c)∈k7 (HH.objs.size+1) scope.names [])\/(cl.lookup x=some c/\scope.names.lookup x≠some .cell):=λx c e=>by
  rw[eCL,List.lookup_append] at e
  cases q:(k7 (HH.objs.size+1) scope.names []).lookup x with
  | none=>
   rw[q] at e;refine .inr ⟨e,λz=>?_⟩;have:=oz scope.names (HH.objs.size+1) [] (.inl z);rw[q] at this;cases this
  | some d=>
   rw[q] at e;have e:=e;cases e;have m:=gp q;rcases wR m with z | z
   . nomatch z
   . exact .inl ⟨S.one _ z,m⟩
 have has:∀x,scope.names.lookup x=some .cell\/(cl.lookup x).isSome=true->∃c,(k7 (HH.objs.size+1) scope.names cl).lookup x=some c:=λx z=>eP.mp (oz scope.names (HH.objs.size+1) cl z);generalize hCL:k7 (HH.objs.size+1) scope.names cl=CL at spl has ⊢;generalize hh1:pushCells (HH.push { cls:=.type "dict",data:=.dict #[] }) scope.names=h₁ at T3 B okc ⊢;have old:=λb o e=>T3 b o (hHH ▸ av _ e);have hacc:=T3 _ _ (hHH ▸ bo _ rfl);have hfo:∀b∈fp,∃o,U.heap.get? b=some o:=λb Z=>let ⟨o,e,_⟩:=T.obj _ _ st2 b Z;⟨o,e⟩;obtain ⟨W,⟨m0,w0⟩,turn⟩:=R U.heap.objs.size (I2.CH.fresh (ax _));have aaP:∀x c,CL.lookup x=some c->(X.env.cells.lookup x=some c/\scope.names.lookup x≠some .cell)\/(scope.names.lookup x=some .cell/\U.heap.objs.size<=c/\c≠U.heap.objs.size/\h₁.IsCell c none):=λx c e=>by
  rcases spl x c e with ⟨z,m⟩ | ⟨z,m⟩
  . obtain ⟨q1,q2⟩:=okc.empty x c m;rw[hCs] at q2;exact .inr ⟨z,by lia,λy=>by rw[y] at q2;lia,q1⟩
  . exact .inl ⟨hc1 x c z,m⟩
 have J0:Cs (X.comp scope tn ix CL HH.objs.size U E fp) [] (sJ tn ix σ) (CB E U.heap.objs.size (.lst [])) { U with heap:=h₁,toks:=U.toks }:=
  Cs.block S I2 aaP (λx y c e1 e2 k1 k2=>by
   rcases spl x c e1 with ⟨_,m1⟩ | ⟨_,m1⟩
   . rcases spl y c e2 with ⟨_,m2⟩ | ⟨_,m2⟩
     . exact Dr okc.apart m1 m2
     . exact absurd k2 m2
   . exact absurd k1 m1) (λx z=>has x (.inl z)) (λx hx hf=>by
   obtain ⟨c,e⟩:=hc2 x hx hf;exact has x.1 (.inr (by rw[e];rfl))) f2 hfo old (ax _) L hDC hacc ⟨_,B⟩
 have O:∀{H':Hp},(∀b∈fp,H' b=none)->∀b∈fp,oK (X.comp scope tn ix CL HH.objs.size U E fp) [] H' b:=λhn b Z=>by
  refine ⟨hn b Z,λz=>?_,λz=>?_,.inl Z,λx c e=>?_,λp hp=>absurd (show p∈([]:A6) from hp) (by simp)⟩
  . obtain ⟨o,e⟩:=hfo b Z;exact absurd (cK (bg e) (by rw[z];exact L)) (fo _)
  . rcases bq.mp (I2.Ag b z) with z | z
    . exact (f2 b Z).2.1 z
    . exact (f2 b Z).2.2.1 z
  . rcases aaP x c e with z | z
    . exact (f2 b Z).2.2.2.2.1 x c z.1
    . intro y;obtain ⟨o,e'⟩:=hfo b Z;have q:=bg e';rw[<- y] at q;exact absurd q (n0.mpr z.2.1)
 have fp0:∀b∈fp,CB E U.heap.objs.size (.lst []) b=none:=λb Z=>by
  obtain ⟨o,e⟩:=hfo b Z;rw[aL (cS (bg e))];exact (f2 b Z).1
 have st1:=T.keep _ _ _ st2 λb Z o e=>old b o e;have loop:∀s₃:a8,s₃={ U with heap:=h₁,toks:=U.toks } ->
  sC (bX X.prog X.w) X.A (.compLoop (.ListComp elt [⟨tg,iter,ifs,0⟩] scope pos) 0 (.ref it) (.ref U.heap.objs.size) (compEnvC scope CL HH.objs.size X.env)) (P (.ref U.heap.objs.size) HH.objs.size) s₃:=by
  rintro s₃ rfl;refine Hc (λn s'=>∃i σ' Cc H',Cs (X.comp scope tn ix CL HH.objs.size U E fp) [] σ' H' s'/\tnn i s'.heap/\(∀b∈fp,H' b=none)/\W i n σ' Cc H') ?_ m0 ⟨0,_,[],_,J0,st1,fp0,w0⟩;rintro n s3 ⟨i,σ3,Cc,H3,I3,st3,fr3,w3⟩;obtain ⟨hD3,ways⟩:=turn i n σ3 Cc H3 w3;rcases ways with ⟨stop,qn⟩ | ⟨go,hsz,step⟩
  . refine thn (T.done (X.comp scope tn ix CL HH.objs.size U E fp) rfl rfl rfl hc i [] s3 σ3 H3 _ I3 (O fr3) st3 stop) λr s4 Y=>?_;obtain ⟨hr,I4⟩:=Y;subst hr;have I5:=I2.call' I4.os I4.base I4.CH I4.bare λb Z=>⟨(f2 b Z).2.2.2.1,(f2 b Z).2.1,(f2 b Z).2.2.2.2.1,(f2 b Z).2.2.2.2.2⟩;obtain ⟨m4,hn4,_⟩:=I4.loc;exact hP _ _ s4 H3 I5 ⟨m4,hn4⟩ (I2.p8 L I4.free) qn
  . refine thn (T.item (X.comp scope tn ix CL HH.objs.size U E fp) rfl rfl rfl hc i [] s3 σ3 H3 _ I3 (O fr3) st3 go) λr s4 Y=>?_;obtain ⟨u,hr,h4⟩:=Y;subst hr;refine thn h4 λ_ s5 Y=>?_;obtain ⟨x,H5,I5,r5,y5,st5,fr5⟩:=Y;have I5':=I5.pinned (O fr5) (T.obj _ _ st5);have back:∀{σ7:St}{H7:Hp}{s7:a8},Cs (X.comp scope tn ix CL HH.objs.size U E fp) ([]++tK fp s5.heap) σ7 H7 s7->Cs (X.comp scope tn ix CL HH.objs.size U E fp) [] σ7 H7 s7/\tnn (i+1) s7.heap/\∀b∈fp,H7 b=none:=λ{σ7 H7 s7} I7=>by
     refine ⟨I7.pR,T.keep _ _ _ st5 λb Z o e=>(I7.pin (b,o) (cc _ (cc _ (lH Z e)))).1,λb Z=>?_⟩;obtain ⟨o,e,d⟩:=T.obj _ _ st5 b Z;exact (I7.pin (b,o) (cc _ (cc _ (lH Z e)))).2.1
    refine thn (hg CL HH.objs.size U E fp _ s5 σ3 H5 x u _ I5' r5 (step x H5 y5)) λ_ s6 ⟨M,H6,I6,q6⟩=>thn (ht CL HH.objs.size U E fp _ s6 M H6 _ I6 q6) λok s7 Y=>?_;obtain ⟨H7,I7,q7⟩:=Y
    cases ok with
    | false=>
     rw[if_neg iO] at q7 ⊢;obtain ⟨m',hm,w7⟩:=q7;obtain ⟨b1,b2,b3⟩:=back I7;exact ⟨m',hm,i+1,M,Cc,H7,b1,b2,b3,w7⟩
    | true=>
     rw[if_pos rfl] at q7 ⊢;refine thn (he CL HH.objs.size U E fp _ s7 M H7 _ I7 q7) λxv s8 ⟨v8,H8,I8,r8,hD8,m',hm,w8⟩=>thn (DG _ s8 M H8 (.ref U.heap.objs.size) [v8] (.ref U.heap.objs.size) [xv] (λ_ H9=>H9=CB H8 U.heap.objs.size (.lst (Cc++[v8]))) I8 rfl (.cons r8 .nil) ⟨_,Cc,v8,rfl,rfl,hD8,hsz,rfl⟩) λ_ s9 Y=>?_;obtain ⟨_,H9,I9,_,e9⟩:=Y;subst e9;obtain ⟨b1,b2,b3⟩:=back I9;exact ⟨m',hm,i+1,M,Cc++[v8],_,b1,b2,b3,w8⟩
 exact codeAny_compStart_list (loop _ rfl) (T.self X.A 0 _ _ _ st1 (loop _ rfl))
theorem Xy(S:gK X scope ix=true)(J:X.calm=true)(hi:PI X tg iter wi)
 (l:∀cl C U Y fp,PG (X.comp scope tn ix cl C U Y fp) tg g) (r:∀cl C U Y fp,pX (X.comp scope tn ix cl C U Y fp) ifs tt) (v:∀cl C U Y fp,PE (X.comp scope tn ix cl C U Y fp) elt te)
 (hs:∀x,jv iter X.env x=pure x:=by intro _;rfl):PE X (.ListComp elt [⟨tg,iter,ifs,0⟩] scope pos) (El tn ix wi g tt te):=by
 intro Z s B H Q I h;obtain ⟨cl,i,q⟩:=CV (P:=λj C=>compPost (bX X.prog X.w) X.A X.xe none (EP X Z B Q) j C) (gK.of S) J hi l r v I h λD C L u p ⟨m,y⟩ f q=>by
  refine ⟨m,y,λM z=>⟨.ref D,u,?_,rfl,q⟩⟩;exact p.turned (λb o E e=>z.extBut b o E e) f.1 f.2.1 f.2.2.2.1 f.2.2.2.2.1 f.2.2.2.2.2
 rw[eval_ListComp];exact wpAny_comprehension_free rfl hs i (gK.of S).kind (gK.of S).loc q
theorem J7{i:Nat}{y:Str}{J Z:Pos}(R:X.N.Nodup)(O:X.N[i]?=some y)(hy:Loc X.env.scope y)(S:gK X scope ix=true)(hc:X.calm=true)(hi:PI X tg iter wi)
 (Q:∀cl C U Y fp,PG (X.comp scope tn ix cl C U Y fp) tg g) (ht:∀cl C U Y fp,pX (X.comp scope tn ix cl C U Y fp) ifs tt) (he:∀cl C U Y fp,PE (X.comp scope tn ix cl C U Y fp) elt te)
 (u:i4 (.ListComp elt [⟨tg,iter,ifs,0⟩] scope pos) (some (.Name y J)) Z.line X.env=pure true:=by rfl)
 (hf:X.fn y=true\/X.env.scope.names.lookup y=some .local:=by walk_at "hf")
 (hs:∀x,jv iter X.env x=pure x:=by intro _;rfl):PS X (.Assign [.Name y J] (.ListComp elt [⟨tg,iter,ifs,0⟩] scope pos) Z) (GJ (El tn ix wi g tt te) (yZ i)):=by
 intro j s σ H E I h;rw[exec_Assign_Name_used _ _ _ _ u];refine ae (wpAny_standAt (ae ?_));obtain ⟨cl,B,q⟩:=CV (P:=λM C=>compPost (bX X.prog X.w) X.A X.xe (some (Bi (.Name y J) X.env)) (λ_ p=>SP X j E .next p) M C) (gK.of S) hc hi Q ht he I h λD C p H' I' ⟨m,hn⟩ f q=>by
  refine wpAny_assign_Name (CT (v:=.ref D) I' R O hy rfl (λs2 I2 l=>?_) hf);obtain ⟨a,sb,ha⟩:=l;have r:C≠a:=by
   rcases ha with ha | ha
   . rw[ha];exact f.2.1
   . exact λz=>f.2.2.2.2.1 y a ha z.symm
  refine ⟨m,hn.sameBut sb r,λh' L=>⟨_,H',?_,q⟩⟩;exact I2.turned (λb o hb e=>L.extBut b o hb e) f.1 f.2.1 f.2.2.2.1 f.2.2.2.2.1 f.2.2.2.2.2
 refine ae (eR (wpAny_comprehension_free rfl hs B (gK.of S).kind (gK.of S).loc q) (λ_ p hq=>ar (ar hq)) λ_ _ e=>e)
end
variable {K:aE}{H':Hp}{a:Addr}
theorem aA.lJ{xs:C1}(e:aA H H')(h:SqT K H a xs):SqT K H' a xs:=by
 rcases h with (h | ⟨o,h⟩) | h
 . exact .inl (.inl (e _ _ h))
 . exact .inl (.inr ⟨o,e _ _ h⟩)
 . exact .inr h
theorem aA.new{p:Addr}(h:H p=none)(o:HO):aA H (CB H p o):=λb u q=>by rw[aL (dU q h)];exact q
theorem aA.up{p:Addr}{o:HO}(s:aA H H')(h:H p=none):aA H (CB H' p o):=λb u q=>by rw[aL (dU q h)];exact s b u q
mutual
def Is(K:aE)(H:Hp):af->V->Prop
 | .none,v=>v= .non
 | .bool b,v=>v= .bl b
 | .int i,v=>v= .int i
 | .str x,v=>v= .str x
 | .list ds,v=>∃a vs,v= .ref a/\SqL K H a vs/\d8 K H ds vs
 | .tuple ds,v=>∃a vs,v= .ref a/\SqT K H a vs/\d8 K H ds vs
 | .dict _,_=>False
def d8(K:aE)(H:Hp):B5->C1->Prop
 | [],vs=>vs=[]
 | d::ds,vs=>∃v r,vs=v::r/\Is K H d v/\d8 K H ds r
end
mutual
theorem Is.mono(e:aA H H'):∀(d:af) {v:V},Is K H d v->Is K H' d v
 | .none,v,h=>h
 | .bool _,v,h=>h
 | .int _,v,h=>h
 | .str _,v,h=>h
 | .list ds,v,h=>by
  rw[Is] at h ⊢;obtain ⟨a,vs,h1,h2,h3⟩:=h;exact ⟨a,vs,h1,e.seq h2,d8.mono e ds h3⟩
 | .tuple ds,v,h=>by
  rw[Is] at h ⊢;obtain ⟨a,vs,h1,h2,h3⟩:=h;exact ⟨a,vs,h1,e.lJ h2,d8.mono e ds h3⟩
 | .dict _,v,h=>h
theorem d8.mono(e:aA H H'):∀(ds:B5) {vs:C1},d8 K H ds vs->d8 K H' ds vs
 | [],vs,h=>h
 | d::ds,vs,h=>by
  rw[d8] at h ⊢;obtain ⟨v,r,h1,h2,h3⟩:=h;exact ⟨v,r,h1,Is.mono e d h2,d8.mono e ds h3⟩
end
mutual
theorem Is.reads(I:Cs X BY σ H s):∀(d:af) {v:V}{u:a0},Is X.K H d v->Ct v u->∃as,Reads s.heap u d as
 | .none,v,u,h,r=>by
  rw[Is] at h;subst h;cases r;exact ⟨_,.none⟩
 | .bool b,v,u,h,r=>by
  rw[Is] at h;subst h;cases r;exact ⟨_,.bool b⟩
 | .int i,v,u,h,r=>by
  rw[Is] at h;subst h;obtain ⟨t,rfl⟩:=r;exact ⟨_,.int i t⟩
 | .str x,v,u,h,r=>by
  rw[Is] at h;subst h;obtain ⟨t,rfl⟩:=r;exact ⟨_,.str x t⟩
 | .list ds,v,u,h,r=>by
  rw[Is] at h;obtain ⟨a,vs,rfl,h2,h3⟩:=h;cases r;obtain ⟨Cf,rv,⟨o,n,e,c,_,d⟩,_⟩:=I.list h2;obtain ⟨as,q⟩:=d8.reads I ds h3 rv;exact ⟨_,.list e c d (by simpa using q)⟩
 | .tuple ds,v,u,h,r=>by
  rw[Is] at h;obtain ⟨a,vs,rfl,h2,h3⟩:=h;cases r;obtain ⟨Cf,rv,⟨o,e,c,n,d⟩,_⟩:=I.tuple h2;obtain ⟨as,q⟩:=d8.reads I ds h3 rv;exact ⟨_,.tuple e c d (by simpa using q)⟩
 | .dict _,v,u,h,r=>by
  rw[Is] at h;exact h.elim
theorem d8.reads(I:Cs X BY σ H s):∀(ds:B5) {vs:C1}{us:B9},d8 X.K H ds vs->CA vs us->∃as,ReadsAll s.heap us ds as
 | [],vs,us,h,r=>by
  rw[d8] at h;subst h;cases r;exact ⟨_,.nil⟩
 | d::ds,vs,us,h,r=>by
  rw[d8] at h;obtain ⟨v,rr,rfl,h2,h3⟩:=h
  cases r with
  | cons r1 r2=>
   obtain ⟨as,q⟩:=Is.reads I d h2 r1;obtain ⟨bs,q'⟩:=d8.reads I ds h3 r2;exact ⟨_,.cons q q'⟩
end
theorem uM:∀ns:B4,fA (ns.map af.int)=0
 | []=>by rw[ll,fA]
 | n::ns=>by rw[b9,fA,af.depth,uM ns];rfl
def acG(K:aE):R2:=λx y H Q=>∃d e,Is K H d x/\Is K H e y/\ee d=true/\ee e=true/\Q (.bl (fw d e)) H
def ac3(K:aE):R2:=λx y H Q=>∃d e,Is K H d x/\Is K H e y/\ee d=true/\ee e=true/\Q (.bl (!fw d e)) H
theorem abi(hu:X.A.units+64<qE):OpR X (fR .Eq) (acG X.K):=by
 rintro U s o H x y v u Q I i m ⟨d,e,h1,h2,l,j,q⟩;obtain ⟨as,Y⟩:=Is.reads I d h1 i;obtain ⟨bs,Z⟩:=Is.reads I e h2 m;exact eq_dataH Y Z l j hu ⟨.bl (fw d e),H,I,rfl,q⟩
theorem Ze(hu:X.A.units+64<qE):OpR X (fR .NotEq) (ac3 X.K):=by
 rintro U s o H x y v u Q I i m ⟨d,e,h1,h2,l,j,q⟩;obtain ⟨as,Y⟩:=Is.reads I d h1 i;obtain ⟨bs,Z⟩:=Is.reads I e h2 m;exact ne_dataH Y Z l j hu ⟨.bl (!fw d e),H,I,rfl,q⟩
noncomputable def Itv(K:aE)(a:Addr)(n:Nat):It:=
 ⟨λi H=>i<n/\∃xs x,SqL K H a xs/\xs[n - 1 - i]?=some x,λi H x H'=>H'=H/\∀xs,SqL K H a xs->xs[n - 1 - i]?=some x,λi _=>i=n⟩
variable {P:fF}
theorem RZ{S:Expr}(a it:Addr)(n:Nat):Turn P w K S (Itv K a n) [it] it (λi h=>h.IsRevIter it a ((n:Int) - 1 - (i:Nat))) where
 mem:=by simp
 obj:=λi h st b U=>by
  have e:=by simpa using U
  subst e;obtain ⟨o,e,c,d⟩:=st;exact ⟨o,e,λv z=>by rw[d] at z;cases z⟩
 keep:=λi h M st k=>st.at λo e=>k it (by simp) o e
 item:=by
  intro X hP C q O i Z s σ H E I j st l;subst hP C q;obtain ⟨hi,xs,x,L,hx⟩:=l;obtain ⟨Cf,rv,p,hz⟩:=I.list L;obtain ⟨u,hu,ru⟩:=rv.get hx;obtain ⟨D,m,R,r,J,y⟩:=j it (by simp);have e:n - 1 - i=((n - 1 - i:Nat):Int):=by lia
  rw[e] at st;refine wpAny_pyNext_rev_item st p.isList (by simpa using hu) λM Y sb=>?_;have Q:((n - 1 - i:Nat):Int) - 1=n - 1 - ((i+1:Nat):Int):=by lia
  rw[Q] at Y;have I1:=I.turned (t':=s.toks) (λb o U e=>(sb.2 b U).trans e) D m r J y;obtain ⟨o,e,c,d⟩:=id Y;exact ⟨u,rfl,uW e c d (by decide) ⟨x,H,I1,ru,⟨rfl,λys hy=>by rw[I.Ha hy L];exact hx⟩,Y,λb U=>(j b U).1⟩⟩
 done:=by
  intro X hP C q O i Z s σ H E I j st l;subst hP C q;have B:=l;subst B;obtain ⟨D,m,R,r,J,y⟩:=j it (by simp);have e:(i:Int) - 1 - i= -1:=by lia
  rw[e] at st;exact wpAny_pyNext_rev_end (I.ok.hd O) st λM eb=>⟨rfl,I.turned (λb o U e=>eb b o U e) D m r J y⟩
 self:=λ_ _ _ _ _ st h=>wpAny_pyIter_revIter st h
section
variable  {tg:Expr}
def adk(K:aE)(ta:TA):TI:=λσ H R=>ta σ H λvs H1=>∃a xs,vs=[.ref a]/\SqL K H1 a xs/\R (Itv K a xs.length) H1
theorem Y9{a:Expr}{m:TA}{p:Pos}(C:Gl X "reversed")(r:X.mg "reversed"= none)(ha:PA X [a] m)(hs:dk [a] X.env=[(false,eval a X.env)]:=by rfl):PI X tg (.Call (.Name "reversed" p) [a] [] pos) (adk X.K m):=by
 intro Z s L H R I h;refine Call_ (kJ I C r boot_reversed (iq (thn (ha pos Z s L H _ I h) λM s1 Y=>?_) hs rfl));obtain ⟨O,E,i,D,q1⟩:=Y;obtain ⟨l,j,e,J,q⟩:=q1;subst e;obtain ⟨u,rfl,z⟩:=CA.one D;cases z;obtain ⟨U,x,v,hz⟩:=i.list J;refine call_reversed_list v.isList ?_;have hit:(s1.heap.push (revObj l ((U.toArray.size:Int) - 1))).IsRevIter s1.heap.objs.size l (j.length - 1 - (0:Int)):=by
  have y:(U.toArray.size:Int) - 1=j.length - 1 - (0:Int):=by
   have:=x.length;rw[br];lia
  rw[y];exact ⟨_,bo _ rfl,rfl,rfl⟩
 refine wpAny_pyIter_revIter hit (⟨s1.heap.objs.size,[s1.heap.objs.size],_,_,E,rfl,i.kept λb o e=>av _ e,RZ l _ j.length,hit,λb B=>?_,q⟩);have e:=by simpa using B
 subst e;exact i.p8 (ax _) (i.CH.fresh (ax _))
end
variable {y:V}{u:a0}
theorem Cs.Ws{h2:Heap}{tk:Nat}{fp:C3}{x:V}{v:a0}{Z:Obj}(I:Cs X BY σ H s)(i:∀b∈fp,oK X BY H b)
 (k3:∀c o,s.heap.get? c=some o->c∉fp->h2.get? c=some o) (p:h2.get? s.heap.objs.size=some Z) (B:Z.cls= .type "tuple") (hd:Z.data= .seq #[u,v] 0) (E:Ct x u) (D:Ct y v) :
 Cs X BY σ (CB H s.heap.objs.size (.tup [x,y])) { s with heap:=h2,toks:=tk }:=by
 have U:=I.CH.fresh (ax s.heap.objs.size);have j:∀c o,H c=some o->c∉fp:=λc o q hc=>by rw[(i c hc).1] at q;cases q
 have z:∀b o,s.heap.get? b=some o->b≠s.heap.objs.size:=λb o q=>cS (bg q);refine I.call' (ch:=fp) (s':={ s with heap:=h2,toks:=tk }) rfl ⟨λb o q n _ hc=>k3 b o q hc,λb o q n _ hc=>⟨o.slots,k3 b o q hc⟩,λb o q n hc=>by rw[aL (z b o q)];exact n,λb o q hc=>⟨o,k3 b o q hc⟩,λb m q=>?_,λb o y q=>?_,λb O q=>?_⟩ (λb o q=>?_) I.bare λb e=>?_
 . rw[aL (dU q U)];exact q
 . rw[aL (dU q U)];exact q
 . rw[aL (dU q U)];exact q
 . by_cases e:b=s.heap.objs.size
   . subst e;rw[bc] at q;cases q;exact ⟨by show 2<=be;decide,[u,v],.cons E (.cons D .nil),⟨Z,p,B,0,hd⟩⟩
   . rw[aL e] at q;refine (I.CH b o q).stay (λc w hc Y=>?_) (λc Y=>by rw[aL (dU Y U)];exact Y) λc m Y=>by rw[aL (dU Y U)];exact Y
     rcases hc with rfl | hc
     . exact k3 c w Y (j c _ q)
     . exact k3 c w Y (j c _ hc)
 . obtain ⟨M,l,L,r,J,C⟩:=i b e;exact ⟨r,l,J,C⟩
structure At (K:aE) (mg:Str->B8) (x:Str) (st:Stmt) (ps:B7):Prop where
 ex:∃f fd,Fun K x x st f fd/\Binds K fd ps []/\mg x=some (.ref f)
structure Def (P:fF) (w:kn) (K:aE) (mg:Str->B8) (base:Heap) (k:Nat) (x:Str) (ps:B7) (sp:Sp):Prop where
 ex:∃f fd,oM P w K mg base CX0 k f fd ps sp/\Binds K fd ps []/\kF K (.ref f)=true/\mg x=some (.ref f)
variable {ps:B7}
section
variable    {mg:Str->B8}{base:Heap}
theorem At.ok{st:Stmt}{N:B7}{k:Nat}{sp:Sp}(F:At K mg x st ps)(S:cO N ps (aK st))(len:∀vs H Q E,sp vs H Q E->vs.length=ps.length)
 (hbody:∀(f:Addr) (U:a0) (A:eK) (CU:C7) (s:a8) (H:Hp) (vs:C1) (Q:VK) (E:XK),cA k (A.deeper (kQ x (aK st) s.heap.objs.size f U))->sp vs H Q E ->
  ∃t,PSs (jx CX0 P w K mg base N x (aK st) f U A CU s H E).nox (bC st) t/\t { nx:=λ_ H'=>Q .non H',rt:=Q } (start N vs) H):Def P w K mg base (k+1) x ps sp:=by
 obtain ⟨f,fd,F,b,m⟩:=F.ex;exact ⟨f,fd,F.ok S len (hbody f),b,F.kp,m⟩
theorem At.mk'{st:Stmt}{f:Addr}{i Z:C5}{e:Array B8}{kV Y pm U ct:a0}(m:mg x=some (.ref f))
 (l:K.lookup f=some ⟨u,i,.func (ey x x (b8 st) (bC st) (aK st) .none kV Y pm Z U ct),e⟩) (c:mS K U x=true) (k:kF K (.ref f)=true)
 (h:∀(kV Y pm:a0) (Z:C5) (U ct:a0) (us:B9),us.length=ps.length->kD (ey x x (b8 st) (bC st) (aK st) .none kV Y pm Z U ct) ⟨us,[]⟩=pure (ps.zip us)):At K mg x st ps:=
 ⟨f,_,G9 l c k,(G9 l c k).binds h,m⟩
end
section
variable  {k:Nat}   {sp:Sp}{p:Pos}{e:Expr}{es:C2}{t:TA}
theorem Ez(F:Def X.prog X.w X.K X.mg X.base k x ps sp)(Z:cA k X.A)(Y:Gl X x)(ha:PA X (e::es) t)(U:nD x:=by decide)
 (i:dk (e::es) X.env=(false,eval e X.env)::dk es X.env:=by rfl) (hpl:(nS pos (dk es X.env)).any (·.1)=false:=by rfl):PE X (.Call (.Name x p) (e::es) [] pos) (VJ sp [] E0 t):=by
 obtain ⟨f,fd,F,b,kp,m⟩:=F.ex;exact XD F Z Y m kp b .nil abU ha U i hpl
end
variable {o:Option V}
section
variable {κ:Type} [DecidableEq κ]
noncomputable def jc(Cb:List (κ×V))(k:κ):Option V:=(Cb.find? λkv=>decide (kv.1=k)).map (·.2)
noncomputable def putK(Cb:List (κ×V))(k:κ)(v:V):List (κ×V):=
 if (Cb.any λkv=>decide (kv.1=k))=true then Cb.map (λkv=>if kv.1=k then (kv.1,v) else kv) else Cb++[(k,v)]
noncomputable def rA(Cb:List (κ×V))(k:κ):List (κ×V):=Cb.filter λkv=>decide (kv.1≠k)
theorem tW{p:κ×V}{r:List (κ×V)}{k:κ}(e:p.1=k):jc (p::r) k=some p.2:=by simp[jc,oS,e]
theorem uX{p:κ×V}{r:List (κ×V)}{k:κ}(e:¬ p.1=k):jc (p::r) k=jc r k:=by simp[jc,oS,e]
theorem HN(k:κ):∀Cb:List (κ×V),(Cb.any λU=>decide (U.1=k))=(jc Cb k).isSome
 | []=>rfl
 | p::r=>by
  rw[j1]
  by_cases e:p.1=k
  . simp only[tW e,decide_eq_true e,Bool.true_or,Option.isSome_some]
  . rw[uX e,decide_eq_false e,y6];exact HN k r
theorem rN(U:List (κ×V))(k:κ)(v:V):(putK U k v).length<=U.length+1:=by
 unfold putK;split
 . rw[ai];lia
 . rw[aw,ba,fT];lia
theorem mL.vB{u:B8}(r:mL o u):o.isSome=u.isSome:=by
 cases o with
 | none=>cases u with
  | none=>rfl
  | some _=>exact (r).elim
 | some _=>cases u with
  | none=>exact (r).elim
  | some _=>rfl
theorem mL.getD{u:B8}{U:a0}(r:mL o u)(rd:Ct y U):Ct (o.getD y) (u.getD U):=by
 cases o with
 | none=>cases u with
  | none=>exact rd
  | some _=>exact (r).elim
 | some _=>cases u with
  | none=>exact (r).elim
  | some _=>exact r
theorem KV.val{U:List (κ×V)}{i:List (κ×a0)}(r:KV U i)(k:κ):mL (jc U k) (yb i k):=by
 induction r with
 | nil=>exact qq
 | @cons p q l Y h t j=>
  obtain ⟨h1,h2⟩:=h
  by_cases e:p.1=k
  . have Z:=h1.symm.trans e;have b:yb (q::Y) k=some q.2:=by simp[yb,oS,Z]
    rw[tW e,b];exact h2
  . have Z:¬ q.1=k:=λz=>e (h1.trans z);have b:yb (q::Y) k=yb Y k:=by simp[yb,oS,Z]
    rw[uX e,b];exact j
theorem KV.any{U:List (κ×V)}{Z:List (κ×a0)}(r:KV U Z)(k:κ):(U.any λY=>decide (Y.1=k))=Z.any λY=>decide (Y.1=k):=by
 induction r with
 | nil=>rfl
 | cons h t e=>rw[j1,j1,e,h.1]
theorem KV.repl{Y:List (κ×V)}{Z:List (κ×a0)}(r:KV Y Z)(k:κ)(j:Ct y u) :
 KV (Y.map λU=>if U.1=k then (U.1,y) else U) (Z.map λU=>if U.1=k then (U.1,u) else U):=by
 induction r with
 | nil=>exact .nil
 | @cons p q m l h t i=>
  rw[b9,b9];refine .cons ?_ i;obtain ⟨h1,h2⟩:=h
  by_cases e:p.1=k
  . rw[if_pos e,if_pos (h1.symm.trans e)];exact ⟨h1,j⟩
  . rw[if_neg e,if_neg (λz=>e (h1.trans z))];exact ⟨h1,h2⟩
theorem KV.put{U:List (κ×V)}{Y:List (κ×a0)}(r:KV U Y)(k:κ)(Z:Ct y u):KV (putK U k y) (stored Y k u):=by
 unfold putK stored;rw[r.any k]
 by_cases e:(Y.any λi=>decide (i.1=k))=true
 . rw[if_pos e,if_pos e];exact r.repl k Z
 . rw[if_neg e,if_neg e];exact oy.snoc r ⟨rfl,Z⟩
theorem KV.drop{U:List (κ×V)}{Z:List (κ×a0)}(r:KV U Z)(k:κ):KV (rA U k) (without Z k):=by
 unfold rA without
 induction r with
 | nil=>exact .nil
 | @cons p q l j h t Y=>
  obtain ⟨h1,h2⟩:=h;rw[List.filter_cons,List.filter_cons]
  by_cases e:p.1=k
  . have a:¬ decide (p.1≠k)=true:=by simp[e]
    have b:¬ decide (q.1≠k)=true:=by simp[h1.symm.trans e]
    rw[if_neg a,if_neg b];exact Y
  . have i:¬ q.1=k:=λz=>e (h1.trans z);have a:decide (p.1≠k)=true:=by simp[e]
    have b:decide (q.1≠k)=true:=by simp[i]
    rw[if_pos a,if_pos b];exact .cons ⟨h1,h2⟩ Y
theorem KV.length{U:List (κ×V)}{Y:List (κ×a0)}(r:KV U Y):U.length=Y.length:=oy.length r
theorem TQ(U:List (κ×V))(k:κ):(rA U k).length<=U.length:=kR _ _
end
theorem uI{k:Key}(r:Ct (kV k) u):(bu P w).is k u=true:=by
 cases k with
 | inl i=>obtain ⟨t,e⟩:=(r);subst e;exact Ja P w i t
 | inr x=>obtain ⟨t,e⟩:=(r);subst e;exact Ir P w x t
theorem Dg:∀{ks:C8}{us:B9},CA (ks.map kV) us->ItemsAre (bu P w) ks us
 | [],_,r=>by rw[ll] at r;cases r;exact .nil
 | k::ks,_,r=>by
  rw[b9] at r
  cases r with
  | cons h t=>exact .cons (uI h) (Dg t)
abbrev KT(H:Hp):List (C8×V)->List (C8×Addr×a0)->Prop:=oy λp q=>p.1=q.1/\H q.2.1=some (.tup (p.1.map kV))/\Ct p.2 q.2.2
variable {Cb:List (C8×V)}{xs:List (C8×Addr×a0)}
theorem KT.val(r:KT H Cb xs)(k:C8):mL (jc Cb k) ((atKey xs k).map (·.2)):=by
 induction r with
 | nil=>exact qq
 | @cons p q i U h t Z=>
  obtain ⟨h1,_,h2⟩:=h
  by_cases e:p.1=k
  . have Y:=h1.symm.trans e;have b:atKey (q::U) k=some q.2:=by simp[atKey,oS,Y]
    rw[tW e,b];exact h2
  . have Y:¬ q.1=k:=λz=>e (h1.trans z);have b:atKey (q::U) k=atKey U k:=by simp[atKey,oS,Y]
    rw[uX e,b];exact Z
theorem KT.repl(r:KT H Cb xs)(k:C8)(i:Ct y u) :
 KT H (Cb.map λU=>if U.1=k then (U.1,y) else U) (xs.map (putAt k u)):=by
 induction r with
 | nil=>exact .nil
 | @cons p q l j h t Z=>
  rw[b9,b9];refine .cons ?_ Z;obtain ⟨h1,h2,Y⟩:=h;unfold putAt
  by_cases e:p.1=k
  . rw[if_pos e,if_pos (h1.symm.trans e)];exact ⟨h1,h2,i⟩
  . rw[if_neg e,if_neg (λz=>e (h1.trans z))];exact ⟨h1,h2,Y⟩
variable {b:Addr}
theorem KT.put(r:KT H Cb xs)(k:C8)(Y:H b=some (.tup (k.map kV)))(U:Ct y u) :
 KT H (putK Cb k y) (storedH xs k b u):=by
 have e:(Cb.any λZ=>decide (Z.1=k))=(atKey xs k).isSome:=by
  rw[HN,(r.val k).vB,sL]
 unfold putK storedH;rw[e]
 by_cases q:(atKey xs k).isSome=true
 . rw[if_pos q,if_pos q];exact r.repl k U
 . rw[if_neg q,if_neg q];exact oy.snoc r ⟨rfl,Y,U⟩
theorem KT.keeps(r:KT H Cb xs)(U:∀b ys,H b=some (.tup ys)->H' b=some (.tup ys)):KT H' Cb xs:=
 Paired.uh r λ_ _ z=>⟨z.1,U _ _ z.2.1,z.2.2⟩
section
variable    {h:Heap}
theorem VN{u:HO}(ok:HOk P w H h)(e:Rd H a u):fZ P w H h a u:=e.ok ok
theorem m9{U:A7}(ok:HOk P w H h)(e:Rd H a (.dK U)):U.length<=be/\(a == ke)=false/\∃vs,KV U vs/\h.DictOf (bu P w) a vs:=
 VN ok e
theorem Wf{U:A7}(ok:HOk P w H h)(e:H a=some (.dK U)):U.length<=be/\(a == ke)=false/\∃vs,KV U vs/\h.DictOf (bu P w) a vs:=m9 ok (.inl e)
theorem wB{Y:C8}(ok:HOk P w H h)(e:H a=some (.tup (Y.map kV))):(zC (bu P w)).is h Y a:=by
 obtain ⟨_,U,r,o,h1,h2,n,Z⟩:=(ok a _ e);exact ⟨o,U.toArray,n,h1,h2,Z,by simpa using Dg r⟩
theorem xK(ok:HOk P w H h)(e:Rd H a (.dT Cb)):Cb.length<=be/\(a == ke)=false /\
 ∃xs,KT H Cb xs/\h.DictOfH (zC (bu P w)) a xs:=by
 obtain ⟨z,y,xs,r,o,Y,ep,h1,h2,s,j,i⟩:=(VN ok e);refine ⟨z,y,xs,r,o,Y,ep,h1,h2,s,j,λx hx=>?_,i⟩;have all:∀{l:List (C8×V)}{m:List (C8×Addr×a0)},KT H l m->∀x∈m,(zC (bu P w)).is h x.1 x.2.1:=by
  intro l m q
  induction q with
  | nil=>intro x hx;exact nomatch hx
  | @cons p q v u U t Z=>
   intro x hx;rcases bq.mp hx with e | hx
   . subst e;exact wB ok (by rw[<- U.1];exact U.2.1)
   . exact Z x hx
 exact all r x hx
theorem abN(ok:HOk P w H h)(e:H a=some (.dT Cb)):Cb.length<=be/\(a == ke)=false /\
 ∃xs,KT H Cb xs/\h.DictOfH (zC (bu P w)) a xs:=xK ok (.inl e)
end
def rJ(H:Hp)(a:Addr)(y:V)(r:Option V):Prop:=
 (∃Cb k,Rd H a (.dK Cb)/\y=kV k/\r=jc Cb k)\/∃Cb k b,Rd H a (.dT Cb)/\y= .ref b/\H b=some (.tup (k.map kV))/\r=jc Cb k
def vO(H:Hp)(a:Addr)(y v:V)(H':Hp):Prop:=
 (∃Cb k,H a=some (.dK Cb)/\y=kV k/\Cb.length<be/\H'=CB H a (.dK (putK Cb k v))) \/
 ∃Cb k b,H a=some (.dT Cb)/\y= .ref b/\H b=some (.tup (k.map kV))/\Cb.length<be/\H'=CB H a (.dT (putK Cb k v))
theorem rJ.k{U:A7}{k:Key}(e:H a=some (.dK U)):rJ H a (kV k) (jc U k):=.inl ⟨U,k,.inl e,rfl,rfl⟩
theorem rJ.t{k:C8}(e:H a=some (.dT Cb))(U:H b=some (.tup (k.map kV))):rJ H a (.ref b) (jc Cb k):=.inr ⟨Cb,k,b,.inl e,rfl,U,rfl⟩
theorem vO.k{U:A7}{k:Key}{v:V}(e:H a=some (.dK U))(Y:U.length<be):vO H a (kV k) v (CB H a (.dK (putK U k v))):=.inl ⟨U,k,e,rfl,Y,rfl⟩
theorem vO.t{k:C8}{v:V}(e:H a=some (.dT Cb))(Y:H b=some (.tup (k.map kV)))(U:Cb.length<be) :
 vO H a (.ref b) v (CB H a (.dT (putK Cb k v))):=.inr ⟨Cb,k,b,e,rfl,Y,U,rfl⟩
variable {Q:B3}
section
variable       {v:V}{r:a0}
theorem Cs.big(I:Cs X BY σ H s):ke<s.heap.objs.size:=by
 have h:=(I.mod.glob.keeps I.bk).lt;exact nz (by decide) h
theorem Qg(hu:A.units+1<qE)(I:Cs X BY σ H s)(g:rJ H a y (some v))(r:Ct y u)(h:∀Z s',Cs X BY σ H s'->Ct v Z->Q Z s') :
 cf (bX X.prog X.w) A (wm (.ref a) u) Q E s:=by
 rcases g with ⟨o,k,e,i,l⟩ | ⟨o,k,b,e,i,x,l⟩
 . subst i;obtain ⟨z,hd,D,Y,m⟩:=m9 I.CH e;obtain ⟨Z,j,U⟩:=mL.some_of (by rw[l];exact Y.val k);exact wpAny_getItem_of (uI r) m.mapOf j (h Z _ (I.tok _) U)
 . subst i;cases (r);obtain ⟨z,hd,C,Y,m⟩:=xK I.CH e;obtain ⟨Z,j,U⟩:=mL.some_of (by rw[l];exact Y.val k);obtain ⟨p,B,q⟩:=sM.mp j;refine wpAny_getItem_heap (sd hu) (wB I.CH x) m B ?_;rw[q];exact h Z _ (I.tok _) U
theorem XR(hu:A.units+1<qE)(I:Cs X BY σ H s)(g:rJ H a y o)(j:Ct y u)(h:∀s',Cs X BY σ H s'->Q (.bool (!o.isSome)) s') :
 cf (bX X.prog X.w) A (fR .NotIn u (.ref a)) Q E s:=by
 rcases g with ⟨Z,k,e,i,l⟩ | ⟨Z,k,b,e,i,m,l⟩
 . subst i;obtain ⟨z,hd,r,U,Y⟩:=m9 I.CH e;refine wpAny_notIn_of (uI j) hd Y.mapOf ?_;rw[<- (U.val k).vB,<- l];exact h _ (I.tok _)
 . subst i;cases (j);obtain ⟨z,hd,p,U,Y⟩:=xK I.CH e;refine wpAny_notIn_heap (sd hu) (wB I.CH m) hd Y ?_;have q:=(U.val k).vB;rw[sL] at q;rw[<- q,<- l];exact h _ (I.tok _)
theorem Bv{U:Heap}{t':Nat}{Y:HO}(I:Cs X BY σ H s)(e:Mut (H a))(hs:fv a s.heap U)(i:∃q,U.get? a=some q)(new:fZ X.prog X.w (CB H a Y) U a Y) :
 Cs X BY σ (CB H a Y) { s with heap:=U,toks:=t' }:=
 I.write e (.inl rfl) (λb q Z z=>(hs.2 b Z).trans z) i new
theorem Fg{e:Heap}{U:A7}{Z:List (Key×a0)}(z:U.length<=be)(hd:(a == ke)=false)(Y:KV U Z)(dd:e.DictOf (bu P w) a Z) :
 fZ P w H' e a (.dK U):=⟨z,hd,Z,Y,dd⟩
theorem Q9{Q:Unit->a8->Prop}(hu:A.units+1<qE)(I:Cs X BY σ H s)(g:vO H a y v H')(L:Ct y u)(C:Ct v r)(h:∀s',Cs X BY σ H' s'->Q () s') :
 cf (bX X.prog X.w) A (setItem (.ref a) u r) Q E s:=by
 rcases g with ⟨U,k,e,x,l,o⟩ | ⟨U,k,b,e,x,J,l,o⟩
 . subst x o;obtain ⟨z,hd,R,Y,m⟩:=Wf I.CH e;have hz:R.length<=be:=by rw[<- Y.length];exact z
   have j:(putK U k v).length<=be:=by have:=rN U k v;lia
   refine wpAny_setItem_pairs (uI L) m λD Z p=>h _ ?_;have O:∃q,D.get? a=some q:=let ⟨q,_,_,i,_⟩:=Z;⟨q,i⟩;exact Bv I (by rw[e];exact qq) p O (Fg j hd (Y.put k C) Z)
 . subst x o;cases (L);obtain ⟨z,hd,S,Y,m⟩:=abN I.CH e;have hz:S.length<=be:=by rw[<- oy.length Y];exact z
   have j:(putK U k v).length<=be:=by have:=rN U k v;lia
   refine wpAny_setItem_heap (sd hu) (wB I.CH J) m λD Z p=>h _ ?_;obtain ⟨q,es,ep,i,h2,h3,M,_,P⟩:=Z;refine Bv I (by rw[e];exact qq) p ⟨q,i⟩ ⟨j,hd,_,(Y.put k J C).keeps λc ys B=>?_,q,es,ep,i,h2,h3,M,P⟩;rw[aL (abT B e (λz=>nomatch z))];exact B
end
section
variable       {Cb:A7}{k:Key}
theorem acA{v:V}{U:B9}(I:Cs X BY σ H s)(e:H a=some (.dK Cb))(o:Ct (kV k) u)(l:jc Cb k=some v)(p:U=[]\/∃x,U=[x])
 (h:∀j s',Cs X BY σ (CB H a (.dK (rA Cb k))) s'->Ct v j->Q j s'):cf (bX X.prog X.w) A (call (.builtin "dict.pop") (.ref a::u::U)) Q E s:=by
 obtain ⟨z,hd,D,Y,r⟩:=Wf I.CH e;obtain ⟨j,C,m⟩:=mL.some_of (by rw[<- l];exact Y.val k);have M:(keyPart u).isSome=true:=by
  cases k with
  | inl i=>obtain ⟨t,q⟩:=(o);subst q;rfl
  | inr x=>obtain ⟨t,q⟩:=(o);subst q;rfl
 have ha:xh "dict.pop" ⟨.ref a::u::U,[]⟩:=by
  rcases p with q | ⟨x,q⟩
  . subst q;exact PySem.F.args_dict_pop_2 _ _
  . subst q;exact PySem.F.args_dict_pop_3 _ _ _
 refine AO PySem.F.slot_dict_pop r.typeIs PySem.F.entry_dict_pop ha (meets_dict_pop_there (bu X.prog X.w) a (uI o) U p M)
  ⟨D,j,r,by rw[<- Y.length];exact z,C,λy Z B=>h j _ ?_ m⟩
 have L:∃q,y.get? a=some q:=let ⟨q,_,_,J,_⟩:=Z;⟨q,J⟩;exact Bv I (by rw[e];exact qq) B L (Fg (c5 (TQ Cb k) z) hd (Y.drop k) Z)
theorem acC(I:Cs X BY σ H s)(e:Rd H a (.dK Cb))(h:∀t s',Cs X BY σ H s'->Q (.int Cb.length t) s'):cf (bX X.prog X.w) A (call (.builtin "len") [.ref a]) Q E s:=by
 obtain ⟨z,hd,Z,U,Y⟩:=m9 I.CH e;refine call_len_dict hd Y (by rw[<- U.length];rw[sizeLine_eq] at z;lia) ?_;rw[<- U.length];exact h _ _ (I.tok _)
end
def Ue(i:Expr):Prop:=∀ov iv,x9 i false ov iv=operate [ov,iv] (wm ov iv)
theorem KR{Y U:Expr}{T id:String}
 (p:AM (.type T) "__getitem__"= pure (some (.builtin id))) (hs:Ue U)
 (h:cf (bX prog w) A (eval Y env) (λo j=>cf (bX prog w) A (eval U env) (λi s₂=>s₂.TypeIs o T/\cf (bX prog w) A (wm o i) Q E s₂) E j) E s) :
 cf (bX prog w) A (eval (.Subscript Y U pos) env) Q E s:=by
 refine Subscript_ (eR h (λo j l=>eR l (λi s₂ Z=>?_) λ_ _ x=>x) λ_ _ x=>x);obtain ⟨hT,Z⟩:=Z;refine ae ?_;rw[getitemInPython_of_ne hT.not_modules];refine ae (pb hT p ?_);have fin:cf (bX prog w) A (x9 U false o i) (λr e=>cf (bX prog w) A (letTemporaryGo Y o r >>= λ_=>pure r) Q E e) E s₂:=by
  rw[hs o i];exact wpAny_operating (eR Z (λr e m=>ae (wpAny_letTemporaryGo (ar m))) λ_ _ x=>x)
 first
  | exact ar (ae fin)
  | exact ae (ar (ae fin))
  | exact ae fin
theorem Jb(I:Cs X BY σ H s)(g:rJ H a y o):s.TypeIs (.ref a) "dict" := by
 rcases g with ⟨Y,k,e,_,_⟩ | ⟨Y,k,b,e,_,_,_⟩
 . obtain ⟨_,_,i,_,U⟩:=m9 I.CH e;exact U.typeIs
 . obtain ⟨_,_,Z,_,U⟩:=xK I.CH e;exact U.typeIs
def abH(td ty tv:TE):TS:=λD σ H=>tv σ H λv H1=>td σ H1 λx H2=>ty σ H2 λy H3=>∃a H4,x= .ref a/\vO H3 a y v H4/\D.nx σ H4
section
variable  {o i e value:Expr}{pos' tpos:Pos}{td ty tv:TE}
theorem J5(hu:X.A.units+1<qE)(l:PE X o td)(hi:PE X i ty)(hv:PE X value tv)(hs:i4 value (some (.Subscript o i pos')) pos.line X.env=pure false) :
 PS X (.Assign [.Subscript o i pos'] value pos) (abH td ty tv):=by
 intro U s Z H D I h;refine wpAny_Assign_Subscript (thn (hv U s Z H _ I h) λr s1 ⟨v,e,J,q,q1⟩=>thn (l U s1 Z e _ J q1) λu C ⟨x,m,j,p,q2⟩=>thn (hi U C Z m _ j q2) λO Q Y=>?_) hs;obtain ⟨y,P,B,L,a,z,ex,g,q3⟩:=Y;subst ex;obtain rfl:u=gX a:=p;exact Q9 hu B g L q λM E=>⟨Z,z,E,q3⟩
end
theorem Vo(h:Heap)(U:ke<h.objs.size):fZ P w H (h.push { cls:=.type "dict",data:=.dict #[] }) h.objs.size (.dK []):=
 ⟨f7 _,beq_eq_false_iff_ne.mpr (mu (cS U)),[],.nil,Heap.DictOf.new h⟩
def Zh:TE:=λ_ H Q=>∀p,H p=none->Q (.ref p) (CB H p (.dK []))
theorem Ug:PE X (.Dict [] [] pos) Zh:=λU s Y H Q I h=>
 wpAny_Dict_empty ⟨.ref s.heap.objs.size,_,I.laid (λ_ _ q=>av _ q) (ax _) (Vo s.heap I.big),rfl,h _ (I.CH.fresh (ax _))⟩
noncomputable def vL(Cb more:A7):A7:=more.foldl (λCc kv=>putK Cc kv.1 kv.2) Cb
theorem KV.merge:∀{U:A7}{rs:List (Key×a0)}{Cb:A7}{vs:List (Key×a0)},KV U rs->KV Cb vs->KV (vL Cb U) (merged vs rs):=by
 intro U rs Cb vs r
 induction r generalizing Cb vs with
 | nil=>intro q;exact q
 | @cons p q j i h t Z=>
  intro Y;have e:KV (putK Cb p.1 p.2) (stored vs q.1 q.2):=by
   have:=Y.put p.1 h.2;rw[<- h.1];exact this
  exact Z e
theorem u0:∀(U Cb:A7),(vL Cb U).length<=Cb.length+U.length
 | [],Cb=>by show Cb.length<=Cb.length+0;lia
 | p::r,Cb=>by
  have h1:=u0 r (putK Cb p.1 p.2);have h2:=rN Cb p.1 p.2;show (vL (putK Cb p.1 p.2) r).length<=_;rw[ba];lia
structure M1 (X:Cx) (o:Expr) (m:Str) (apos:Pos) (e:Expr) (cpos:Pos):Prop where
 base:lp o m X.env (eval o X.env)=eval o X.env
 few:((nS cpos (dk [e] X.env)).all (λx=>!x.1)&&(Bn cpos (vv [] X.env)).all (λx=>x.1.isSome)
  && decide (([e]:C2).length+([]:List sF).length+(if ([]:List sF).isEmpty then 0 else 1)<30))=true
 line:(apos.endLine == cpos.line)=true
 trees:nS cpos (dk [e] X.env)=[(false,eval e X.env)]
def IsD(H:Hp)(a:Addr):Prop:=(∃Cb,Rd H a (.dK Cb))\/∃Cb,Rd H a (.dT Cb)
theorem Hn(I:Cs X BY σ H s)(d:IsD H a) :
 s.TypeIs (.ref a) "dict" /\ (∀b,gX a= .ref b->∃ob,s.heap.get? b=some ob/\ob.dict=none)/\(a == ke)=false:=by
 rcases d with ⟨Y,e⟩ | ⟨Y,e⟩
 . obtain ⟨_,hd,i,_,U⟩:=m9 I.CH e;refine ⟨U.typeIs,λb q=>?_,hd⟩;cases q;obtain ⟨ob,_,_,h1,h2,_⟩:=U;exact ⟨ob,h1,h2.2.1⟩
 . obtain ⟨_,hd,Z,_,U⟩:=xK I.CH e;refine ⟨U.typeIs,λb q=>?_,hd⟩;cases q;obtain ⟨ob,_,_,h1,h2,_⟩:=U;exact ⟨ob,h1,h2.2.1⟩
section
variable       {d:V}{r:a0}
theorem aab(hu:A.units+1<qE)(I:Cs X BY σ H s)(g:rJ H a y o)(m:Ct y u)(h:∀j s',Cs X BY σ H s'->Ct (o.getD .non) j->Q j s') :
 cf (bX X.prog X.w) A (call (.builtin "dict.get") [.ref a,u]) Q E s:=by
 rcases g with ⟨i,k,e,Z,l⟩ | ⟨i,k,b,e,Z,q,l⟩
 . subst Z;obtain ⟨z,hd,r,U,Y⟩:=m9 I.CH e;refine AO t9 Y.typeIs AQ (As _ _) (meets_dict_get (bu X.prog X.w) a (uI m) hd) ⟨_,Y.mapOf,h _ _ (I.tok _) ?_⟩;rw[l];exact (U.val k).getD rfl
 . subst Z;cases (m);obtain ⟨z,hd,p,U,Y⟩:=xK I.CH e;refine AO t9 Y.typeIs AQ (As _ _) (meetsH_dict_get (zC (bu X.prog X.w)) a b hd) ⟨sd hu,k,p,wB I.CH q,Y,h _ _ (I.tok _) ?_⟩;rw[l];exact (U.val k).getD rfl
end
def aag(td ty:TE):TE:=λσ H Q=>td σ H λx H1=>∃a,x= .ref a/\IsD H1 a/\ty σ H1 λy H2=>∃o,rJ H2 a y o/\Q (o.getD .non) H2
def Z1(td ty:TE):TE:=λσ H Q=>td σ H λx H1=>∃a,x= .ref a/\IsD H1 a/\ty σ H1 λy H2=>∃Cb k v,H2 a=some (.dK Cb)/\y=kV k/\jc Cb k=some v/\Q v (CB H2 a (.dK (rA Cb k)))
section
variable  {o e f:Expr}{apos cpos:Pos}{td ty tx:TE}
theorem Vl(hu:X.A.units+1<qE)(q:PE X o td)(z:PE X e ty)(m:M1 X o "get" apos e cpos):PE X (.Call (.Attribute o "get" apos) [e] [] cpos) (aag td ty):=by
 intro Y s i H Q I h;refine wpAny_Call_method m.base m.few m.line sm t9 PySem.F.type_dict_get (thn (q Y s i H _ I h) λu s1 U=>?_);obtain ⟨x,l,j,r,a,ex,d,q1⟩:=U;subst ex;obtain rfl:u=gX a:=r;obtain ⟨t1,t2,_⟩:=Hn j d;refine ⟨t1,t2,?_⟩;rw[m.trees];exact mw rfl (qo (kX (thn (z Y s1 i l _ j q1) λE J U=>by obtain ⟨y,v,p,C,D,g,q2⟩:=U;exact qa (aab hu p g C λL M B Z=>⟨_,v,B,Z,q2⟩))))
theorem UL(r:PE X o td)(C:PE X e ty)(m:M1 X o "pop" apos e cpos):PE X (.Call (.Attribute o "pop" apos) [e] [] cpos) (Z1 td ty):=by
 intro U s i H Q I h;refine wpAny_Call_method m.base m.few m.line sm PySem.F.slot_dict_pop PySem.F.type_dict_pop (thn (r U s i H _ I h) λu s1 Y=>?_);obtain ⟨x,p,j,z,a,ex,d,q1⟩:=Y;subst ex;obtain rfl:u=gX a:=z;obtain ⟨t1,t2,_⟩:=Hn j d;refine ⟨t1,t2,?_⟩;rw[m.trees];refine mw rfl (qo (kX (thn (C U s1 i p _ j q1) λO P ⟨y,M,q,L,B,k,v,J,D,l,q2⟩=>qa ?_)));subst D;exact acA q J L l (.inl rfl) λR S E Z=>⟨v,_,E,Z,q2⟩
end
abbrev lK:=List B4
noncomputable def acu(ks:lK):Int:=reduceHash (qV (ks.map λk=>reduceHash (qV (k.map rS))))
noncomputable def Wc(a:Addr)(xs:List (lK×Addr×a0)):HO:=.ext λh=>
 xs.length<=be/\(a == ke)=false/\(xs.map (·.1)).Nodup/\∃o es ep,h.get? a=some o/\o.ExactDict/\o.data= .dict es ep/\es.toList=xs.map λx=>⟨acu x.1,.ref x.2.1,x.2.2⟩
def Ms(K:aE)(H:Hp)(ks:lK)(b:Addr):Prop:=∃cs:C3,SqT K H b (cs.map V.ref)/\oy (λ(k:B4) c=>SqT K H c (k.map V.int)) ks cs
abbrev KN(K:aE)(H:Hp):List (lK×V)->List (lK×Addr×a0)->Prop:=oy λp q=>p.1=q.1/\Ms K H p.1 q.2.1/\Ct p.2 q.2.2
theorem Ms.keeps{Y:lK}(n:Ms K H Y b)(U:∀b ys,SqT K H b ys->SqT K H' b ys):Ms K H' Y b:=by
 obtain ⟨Z,h1,h2⟩:=n;exact ⟨Z,U _ _ h1,Paired.uh h2 λ_ _ z=>U _ _ z⟩
theorem KN.keeps{U:List (lK×V)}{xs:List (lK×Addr×a0)}(r:KN K H U xs)(Y:∀b ys,SqT K H b ys->SqT K H' b ys):KN K H' U xs:=
 Paired.uh r λ_ _ z=>⟨z.1,z.2.1.keeps Y,z.2.2⟩
noncomputable def abL(k:B4):Int:=reduceHash (qV (k.map rS))
noncomputable def abD(a:Addr)(xs:List (B4×Addr×a0)):HO:=.ext λh=>
 xs.length<=be/\(a == ke)=false/\(xs.map (·.1)).Nodup/\∃o es ep,h.get? a=some o/\o.ExactDict/\o.data= .dict es ep/\es.toList=xs.map λx=>⟨abL x.1,.ref x.2.1,x.2.2⟩
end Zq
namespace PySem
open Sem (wp)
section
variable {prog:fF}{w:kn}{K:Type} [DecidableEq K] (knd:KeyKind prog w K)
inductive sE (h:Heap):List (List K)->List a0->Prop
 | nil:sE h [] []
 | cons {k:List K}{a:Addr}{ks:List (List K)}{vs:List a0}:IsTupleKey knd h k a->sE h ks vs->sE h (k::ks) (.ref a::vs)
variable {knd}
theorem sE.length{h:Heap}{x:List (List K)}{U:List a0}(hx:sE knd h x U):x.length=U.length:=by
 induction hx with
 | nil=>rfl
 | cons _ _ Y=>simp[Y]
variable {A:eK}{E:a0->a8->Prop}{s:a8}
end
end PySem
namespace Zq
open PySem PySem.Spec PyProof.Rows
structure Exn where
 cls:Str
 arg:Option af
inductive Co (α:Type) where
 | ok (a:α)
 | err (x:Exn)
 | bad
abbrev D0:=af->af->Co af
abbrev D1:=af->Co af
noncomputable def Co.bind{α β:Type}:Co α->(α->Co β)->Co β
 | .ok a,f=>f a
 | .err x,_=>.err x
 | .bad,_=>.bad
@[simp] theorem Co.aP {U Y:Type} (a:U) (f:U->Co Y):(Co.ok a).bind f=f a:=rfl
theorem Co.aq{U Y:Type}{r:Co U}{f:U->Co Y}{b:Y}(h:r.bind f= .ok b):∃a,r= .ok a/\f a= .ok b:=by
 cases r with
 | ok a=>exact ⟨a,rfl,h⟩
 | err x=>cases h
 | bad=>cases h
noncomputable def gd{α:Type}(c:Prop)[Decidable c](r:Co α):Co α:=if c then r else .bad
theorem bZ{Y:Type}{c:Prop}[Decidable c]{r:Co Y}{a:Y}(h:gd c r= .ok a):c/\r= .ok a:=by
 unfold gd at h
 by_cases U:c
 . rw[if_pos U] at h;exact ⟨U,h⟩
 . rw[if_neg U] at h;cases h
theorem bH{U:Type}{c:Prop}[Decidable c]{r:Co U}(h:c):gd c r=r:=if_pos h
abbrev Ev:=List (Option af)
inductive Out where
 | nx (Γ:Ev)
 | rt (d:af)
 | bk (Γ:Ev)
 | ct (Γ:Ev)
abbrev ME:=Ev->Co af
abbrev MS:=Ev->Co Out
noncomputable def bJ:af->Option Key
 | .int i=>some (.inl i)
 | .str x=>some (.inr x)
 | _=>none
mutual
def Rp(K:aE)(A:Hp):af->V->Prop
 | .none,v=>v= .non
 | .bool b,v=>v= .bl b
 | .int i,v=>v= .int i
 | .str x,v=>v= .str x
 | .list ds,v=>∃a vs,v= .ref a/\SqL K A a vs/\au K A ds vs
 | .tuple ds,v=>∃a vs,v= .ref a/\SqT K A a vs/\au K A ds vs
 | .dict Cb,v=>∃a u,v= .ref a/\Rd A a (.dK u)/\aR K A Cb u
def au(K:aE)(A:Hp):B5->C1->Prop
 | [],vs=>vs=[]
 | d::ds,vs=>∃v r,vs=v::r/\Rp K A d v/\au K A ds r
def aR(K:aE)(A:Hp):B0->A7->Prop
 | [],u=>u=[]
 | (k,d)::r,u=>∃key v u',u=(key,v)::u'/\bJ k=some key/\Rp K A d v/\aR K A r u'
end
variable {H H':Hp}
theorem aA.rd(e:aA H H'){a:Addr}{u:HO}(h:Rd H a u):Rd H' a u:=by
 rcases h with h | ⟨o,h⟩
 . exact .inl (e _ _ h)
 . exact .inr ⟨o,e _ _ h⟩
variable {K:aE}
mutual
theorem Rp.mono(e:aA H H'):∀(d:af) {v:V},Rp K H d v->Rp K H' d v
 | .none,v,h=>by rw[Rp] at h ⊢;exact h
 | .bool _,v,h=>by rw[Rp] at h ⊢;exact h
 | .int _,v,h=>by rw[Rp] at h ⊢;exact h
 | .str _,v,h=>by rw[Rp] at h ⊢;exact h
 | .list ds,v,h=>by
  rw[Rp] at h ⊢;obtain ⟨a,vs,h1,h2,h3⟩:=h;exact ⟨a,vs,h1,e.seq h2,au.mono e ds h3⟩
 | .tuple ds,v,h=>by
  rw[Rp] at h ⊢;obtain ⟨a,vs,h1,h2,h3⟩:=h;exact ⟨a,vs,h1,e.lJ h2,au.mono e ds h3⟩
 | .dict Cb,v,h=>by
  rw[Rp] at h ⊢;obtain ⟨a,u,h1,h2,h3⟩:=h;exact ⟨a,u,h1,aA.rd e h2,aR.mono e Cb h3⟩
theorem au.mono(e:aA H H'):∀(ds:B5) {vs:C1},au K H ds vs->au K H' ds vs
 | [],vs,h=>by rw[au] at h ⊢;exact h
 | d::ds,vs,h=>by
  rw[au] at h ⊢;obtain ⟨v,r,h1,h2,h3⟩:=h;exact ⟨v,r,h1,Rp.mono e d h2,au.mono e ds h3⟩
theorem aR.mono(e:aA H H'):∀(Cb:B0) {u:A7},aR K H Cb u->aR K H' Cb u
 | [],u,h=>by rw[aR] at h ⊢;exact h
 | (k,d)::r,u,h=>by
  rw[aR] at h ⊢;obtain ⟨key,v,u',h1,h2,h3,h4⟩:=h;exact ⟨key,v,u',h1,h2,Rp.mono e d h3,aR.mono e r h4⟩
end
mutual
theorem Rp.is:∀(d:af) {v:V},d.canLay0=true->Rp K H d v->Is K H d v
 | .none,v,_,h=>by rw[Rp] at h;rw[Is];exact h
 | .bool _,v,_,h=>by rw[Rp] at h;rw[Is];exact h
 | .int _,v,_,h=>by rw[Rp] at h;rw[Is];exact h
 | .str _,v,_,h=>by rw[Rp] at h;rw[Is];exact h
 | .list ds,v,c,h=>by
  rw[Rp] at h;rw[Is];rw[ew] at c;obtain ⟨a,vs,h1,h2,h3⟩:=h;exact ⟨a,vs,h1,h2,au.is ds c h3⟩
 | .tuple ds,v,c,h=>by
  rw[Rp] at h;rw[Is];rw[ew] at c;obtain ⟨a,vs,h1,h2,h3⟩:=h;exact ⟨a,vs,h1,h2,au.is ds c h3⟩
 | .dict _,v,c,h=>by rw[ew] at c;cases c
theorem au.is:∀(ds:B5) {vs:C1},dc ds=true->au K H ds vs->d8 K H ds vs
 | [],vs,_,h=>by rw[au] at h;rw[d8];exact h
 | d::ds,vs,c,h=>by
  rw[au] at h;rw[d8];rw[dc,cp] at c;obtain ⟨v,r,h1,h2,h3⟩:=h;exact ⟨v,r,h1,Rp.is d c.1 h2,au.is ds c.2 h3⟩
end
variable {A:Hp}{ds:B5}{d:af}
section
variable   {v:V}
theorem Rp.int{i:Int}:Rp K A (.int i) v↔v= .int i:=by rw[Rp]
theorem Rp.bool{b:Bool}:Rp K A (.bool b) v↔v= .bl b:=by rw[Rp]
theorem Rp.none:Rp K A .none v↔v= .non:=by rw[Rp]
theorem Rp.str{x:Str}:Rp K A (.str x) v↔v= .str x:=by rw[Rp]
theorem Rp.list:Rp K A (.list ds) v↔∃a vs,v= .ref a/\SqL K A a vs/\au K A ds vs:=by rw[Rp]
theorem Rp.tuple:Rp K A (.tuple ds) v↔∃a vs,v= .ref a/\SqT K A a vs/\au K A ds vs:=by rw[Rp]
theorem au.nil{U:C1}:au K A [] U↔U=[]:=by rw[au]
theorem au.cons{d:af}{Y:B5}{U:C1}:au K A (d::Y) U↔∃v r,U=v::r/\Rp K A d v/\au K A Y r:=by rw[au]
theorem au.length:∀{ds:B5}{vs:C1},au K A ds vs->ds.length=vs.length
 | [],vs,h=>by rw[au.nil] at h;rw[h];rfl
 | d::ds,vs,h=>by
  rw[au.cons] at h;obtain ⟨v,r,rfl,_,h⟩:=h;rw[ba,ba,au.length h]
theorem au.get:∀{ds:B5}{vs:C1}{i:Nat}{x:V},au K A ds vs->vs[i]?=some x->∃d,ds[i]?=some d/\Rp K A d x
 | [],vs,i,x,h,e=>by rw[au.nil] at h;subst h;simp at e
 | d::ds,vs,i,x,h,e=>by
  rw[au.cons] at h;obtain ⟨v,r,rfl,h1,h⟩:=h
  match i with
  | 0=>simp at e;subst e;exact ⟨d,rfl,h1⟩
  | i+1=>
   have Z:=by simpa using e
   obtain ⟨U,h2,Y⟩:=au.get h Z;exact ⟨U,by simpa using h2,Y⟩
theorem au.get':∀{ds:B5}{vs:C1}{i:Nat}{d:af},au K A ds vs->ds[i]?=some d->∃x,vs[i]?=some x/\Rp K A d x
 | [],vs,i,x,h,e=>by simp at e
 | d::ds,vs,i,x,h,e=>by
  rw[au.cons] at h;obtain ⟨v,r,rfl,h1,h⟩:=h
  match i with
  | 0=>simp at e;subst e;exact ⟨v,rfl,h1⟩
  | i+1=>
   have Z:=by simpa using e
   obtain ⟨U,h2,Y⟩:=au.get' h Z;exact ⟨U,by simpa using h2,Y⟩
theorem au.append:∀{ds es:B5}{vs us:C1},au K A ds vs->au K A es us->au K A (ds++es) (vs++us)
 | [],es,vs,us,h,g=>by rw[au.nil] at h;subst h;exact g
 | d::ds,es,vs,us,h,g=>by
  rw[au.cons] at h;obtain ⟨v,r,rfl,h1,h⟩:=h;rw[k9,k9,au.cons];exact ⟨v,r++us,rfl,h1,au.append h g⟩
theorem au.one{x:V}(h:Rp K A d x):au K A [d] [x]:=by rw[au.cons];exact ⟨x,[],rfl,h,au.nil.mpr rfl⟩
theorem au.take:∀{ds:B5}{vs:C1} (n:Nat),au K A ds vs->au K A (ds.take n) (vs.take n)
 | _,_,0,_=>by rw[xi,xi];exact au.nil.mpr rfl
 | [],vs,n+1,h=>by rw[au.nil] at h;subst h;exact au.nil.mpr rfl
 | d::ds,vs,n+1,h=>by
  rw[au.cons] at h;obtain ⟨v,r,rfl,h1,h⟩:=h;rw[List.take_succ_cons,List.take_succ_cons,au.cons];exact ⟨v,_,rfl,h1,au.take n h⟩
theorem au.drop:∀{ds:B5}{vs:C1} (n:Nat),au K A ds vs->au K A (ds.drop n) (vs.drop n)
 | _,_,0,h=>by rw[xk,xk];exact h
 | [],vs,n+1,h=>by rw[au.nil] at h;subst h;exact au.nil.mpr rfl
 | d::ds,vs,n+1,h=>by
  rw[au.cons] at h;obtain ⟨v,r,rfl,h1,h⟩:=h;rw[List.drop_succ_cons,List.drop_succ_cons];exact au.drop n h
theorem au.reverse:∀{ds:B5}{vs:C1},au K A ds vs->au K A ds.reverse vs.reverse
 | [],vs,h=>by rw[au.nil] at h;subst h;exact au.nil.mpr rfl
 | d::ds,vs,h=>by
  rw[au.cons] at h;obtain ⟨v,r,rfl,h1,h⟩:=h;rw[yi,yi];exact (au.reverse h).append (au.one h1)
theorem au.ints{ns:B4}:au K A (ns.map af.int) (ns.map V.int):=by
 induction ns with
 | nil=>exact au.nil.mpr rfl
 | cons n ns U=>exact au.cons.mpr ⟨_,_,rfl,Rp.int.mpr rfl,U⟩
end
inductive Fl where
 | CD | CC | own | fix (p:Addr) | exc (C:Addr) | nst (b:Bool) | kit
 deriving DecidableEq
abbrev C0:=List Fl
noncomputable def isO:Fl->Bool
 | .own=>true
 | .fix _=>true
 | _=>false
noncomputable def isX:Fl->Bool
 | .exc _=>true
 | .nst _=>true
 | .kit=>true
 | _=>false
def abd(A:Hp)(C:Addr)(v:V):Prop:=∃p ob,v= .ref p/\A p=some (.frz ob (.own 0))/\ob.cls= .ref C
noncomputable def Lk:B5->Option B4
 | []=>some []
 | .int i::r=>match Lk r with
  | some l=>some (i::l)
  | none=>none
 | _::_=>none
noncomputable def V3:B5->Option lK
 | []=>some []
 | .tuple ds::r=>match Lk ds,V3 r with
  | some a,some b=>some (a::b)
  | _,_=>none
 | _::_=>none
noncomputable def acP:af->Option lK
 | .tuple ds=>V3 ds
 | _=>none
def RpN(K:aE)(A:Hp)(Cb:B0)(xs:List (lK×Addr×a0)):Prop:=∃us:List (lK×V),KN K A us xs/\oy (λp q=>acP p.1=some q.1/\Rp K A p.2 q.2) Cb us
def adx(K:aE)(A B H:Hp)(d:af)(v:V):Prop:=∃p xs Cb,v= .ref p/\d= .dict Cb/\H p=some (Wc p xs)/\A p=none/\B p=none/\RpN K A Cb xs
noncomputable def abX:af->Option B4
 | .tuple ds=>Lk ds
 | _=>none
abbrev RpT(K:aE)(A:Hp):B0->List (B4×Addr×a0)->Prop:=oy λp q=>abX p.1=some q.1/\SqT K A q.2.1 (q.1.map V.int)/\∃v,Ct v q.2.2/\Rp K A p.2 v
def wz(K:aE)(A:Hp)(d:af)(v:V):Prop:=∃p xs Cb,v= .ref p/\d= .dict Cb/\A p=some (abD p xs)/\RpT K A Cb xs
theorem wz.mono{v:V}(Y:aA A H)(h:wz K A d v):wz K H d v:=by
 obtain ⟨p,e,U,Z,i,h1,h2⟩:=h;exact ⟨p,e,U,Z,i,Y _ _ h1,Paired.uh h2 λ_ _ z=>⟨z.1,Y.lJ z.2.1,z.2.2.imp λv y=>⟨y.1,Rp.mono Y _ y.2⟩⟩⟩
def Pk(K:aE)(A H:Hp)(d:af)(v:V):Prop:=
 Rp K A d v\/(∃p vs ds,v= .ref p/\d= .list ds/\SqL K H p vs/\au K A ds vs)\/∃p u Cb,v= .ref p/\d= .dict Cb/\Rd H p (.dK u)/\aR K A Cb u
def g8(K:aE)(A:Hp)(d:af)(o:HO):Prop:=(∃ds vs,d= .list ds/\o= .lst vs/\au K A ds vs)\/∃Cb u,d= .dict Cb/\o= .dK u/\aR K A Cb u
def Own(K:aE)(A B H:Hp)(d:af)(v:V):Prop:=∃p o,v= .ref p/\H p=some o/\A p=none/\B p=none/\g8 K A d o
def xG(K:aE)(A B H:Hp):Fl->af->V->Prop
 | .CD,d,v=>Rp K A d v
 | .CC,d,v=>Pk K A B d v
 | .own,d,v=>Own K A B H d v
 | .fix p,d,v=>v= .ref p/\Own K A B H d v
 | .exc C,_,v=>abd A C v
 | .nst b,d,v=>b=true->adx K A B H d v
 | .kit,d,v=>wz K A d v
def Eo(K:aE)(A B H:Hp)(f:Fl)(d:Option af)(v:Option V):Prop:=∀d',d=some d'->∃v',v=some v'/\xG K A B H f d' v'
noncomputable abbrev fl(O:C0)(i:Nat):Fl:=O.getD i .CD
noncomputable abbrev gv(Γ:Ev)(i:Nat):Option af:=Γ.getD i none
noncomputable abbrev sv(σ:St)(i:Nat):Option V:=σ.getD i none
structure aQ (K:aE) (A B H:Hp) (O:C0) (σ:St) (Γ:Ev):Prop where
 a:aA A H
 b:aA B H
 len:Γ.length=σ.length
 slot:∀i,Eo K A B H (fl O i) (gv Γ i) (sv σ i)
 sep:∀i j,i≠j->isO (fl O i)=true->isO (fl O j)=true->gv Γ i≠none->gv Γ j≠none->sv σ i≠sv σ j
def New(A A' B:Hp):Prop:=∀p,A p=none->B p≠none->A' p=none
structure aO (A H A' H':Hp):Prop where
 aa:aA A A'
 hh:aA H H'
 ah:aA A' H'
 nw:New A A' H
theorem aO.refl(h:aA A H):aO A H A H:=⟨aA.refl _,aA.refl _,h,λ_ h _=>h⟩
variable {p:Addr}
theorem aA.ne(e:aA H H')(h:H p≠none):H' p≠none:=by
 cases q:H p with
 | none=>exact absurd q h
 | some o=>rw[e p o q];simp
theorem aO.trans{Y Z H2:Hp}(g:aO A H H' Y)(U:aO H' Y Z H2):aO A H Z H2:=
 ⟨g.aa.trans U.aa,g.hh.trans U.hh,U.ah,λp h1 h2=>U.nw p (g.nw p h1 h2) (aA.ne g.hh h2)⟩
theorem New.mono{B:Hp}(n:New A H H')(s:aA B H'):New A H B:=λp h1 h2=>n p h1 (aA.ne s h2)
theorem New.trans{B:Hp}(n:New A H B)(m:New H H' B):New A H' B:=λp h1 h2=>m p (n p h1 h2) h2
variable {o:HO}{Cb:B0}{xs:List (lK×Addr×a0)}
section
variable  {B A':Hp}{O:C0}{σ:St}{Γ:Ev}  {v:V}
theorem Pk.mono(ha:aA A A')(hh:aA H H')(h:Pk K A H d v):Pk K A' H' d v:=by
 rcases h with h | ⟨p,i,e,Y,Z,h1,h2⟩ | ⟨p,u,U,Y,Z,h1,h2⟩
 . exact .inl (Rp.mono ha d h)
 . exact .inr (.inl ⟨p,i,e,Y,Z,hh.seq h1,au.mono ha e h2⟩)
 . exact .inr (.inr ⟨p,u,U,Y,Z,aA.rd hh h1,aR.mono ha U h2⟩)
theorem g8.mono(ha:aA A A')(h:g8 K A d o):g8 K A' d o:=by
 rcases h with ⟨e,i,Y,Z,h⟩ | ⟨U,u,Y,Z,h⟩
 . exact .inl ⟨e,i,Y,Z,au.mono ha e h⟩
 . exact .inr ⟨U,u,Y,Z,aR.mono ha U h⟩
theorem RpN.mono(ha:aA A A')(h:RpN K A Cb xs):RpN K A' Cb xs:=by
 obtain ⟨U,h1,h2⟩:=h;exact ⟨U,h1.keeps λb Y e=>ha.lJ e,Paired.uh h2 λ_ _ z=>⟨z.1,Rp.mono ha _ z.2⟩⟩
theorem g8.nx(h:g8 K A d o)(e:some o=some (Wc p xs)):False:=by
 rcases h with ⟨i,j,Y,U,h⟩ | ⟨Z,u,Y,U,h⟩ <;> (rw[U] at e;cases e)
theorem xG.grow(g:aO A H A' H'){f:Fl}(h:xG K A B H f d v):xG K A' B H' f d v:=by
 cases f with
 | CD=>exact Rp.mono g.aa d h
 | CC=>exact Pk.mono g.aa (aA.refl _) h
 | own=>
  obtain ⟨p,o,e,h1,h2,Y,U⟩:=h;exact ⟨p,o,e,g.hh _ _ h1,g.nw p h2 (by rw[h1];simp),Y,U.mono g.aa⟩
 | fix x=>
  obtain ⟨s,p,o,e,h1,h2,Y,U⟩:=h;exact ⟨s,p,o,e,g.hh _ _ h1,g.nw p h2 (by rw[h1];simp),Y,U.mono g.aa⟩
 | exc C=>
  obtain ⟨p,j,e,h1,h2⟩:=h;exact ⟨p,j,e,g.aa _ _ h1,h2⟩
 | nst b=>
  intro z;obtain ⟨p,l,Z,r,u,i,m,w5,q⟩:=h z;exact ⟨p,l,Z,r,u,g.hh _ _ i,g.nw p m (by rw[i];simp),w5,q.mono g.aa⟩
 | kit=>exact wz.mono g.aa h
theorem Eo.grow(g:aO A H A' H'){f:Fl}{d:Option af}{v:Option V}(h:Eo K A B H f d v):Eo K A' B H' f d v:=λU e=>
 let ⟨Y,Z,q⟩:=h U e;⟨Y,Z,q.grow g⟩
theorem aQ.grow(g:aO A H A' H')(r:aQ K A B H O σ Γ):aQ K A' B H' O σ Γ:=
 ⟨g.ah,r.b.trans g.hh,r.len,λi=>(r.slot i).grow g,r.sep⟩
theorem g8.share(h:g8 K A d o)(s:aA A (CB A p o)):Rp K (CB A p o) d (.ref p):=by
 rcases h with ⟨e,i,U,Z,h⟩ | ⟨Y,u,U,Z,h⟩
 . subst U;subst Z;exact Rp.list.mpr ⟨p,i,rfl,SqL.of bc,au.mono s e h⟩
 . subst U;subst Z;exact (by rw[Rp];exact ⟨p,u,rfl,.inl bc,aR.mono s Y h⟩)
theorem Own.pk(h:Own K A B H d v):Pk K A H d v:=by
 obtain ⟨p,o,e,h1,_,_,⟨j,l,Z,U,i⟩ | ⟨Y,u,Z,U,i⟩⟩:=h
 . subst U;exact .inr (.inl ⟨p,l,j,e,Z,SqL.of h1,i⟩)
 . subst U;exact .inr (.inr ⟨p,u,Y,e,Z,.inl h1,i⟩)
theorem xG.pk(U:aA B H){f:Fl}(h:xG K A B H f d v)(hx:isX f=false):Pk K A H d v:=by
 cases f with
 | CD=>exact .inl h
 | CC=>exact Pk.mono (aA.refl _) U h
 | own=>exact Own.pk h
 | fix Y=>exact Own.pk h.2
 | exc C=>cases hx
 | nst b=>cases hx
 | kit=>cases hx
theorem Pk.list(ha:aA A H)(h:Pk K A H (.list ds) v):∃p vs,v= .ref p/\SqL K H p vs/\au K A ds vs:=by
 rcases h with h | ⟨p,vs,Z,Y,U,h1,h2⟩ | ⟨p,u,i,Y,U,h1,h2⟩
 . obtain ⟨a,vs,e,h1,h2⟩:=Rp.list.mp h;exact ⟨a,vs,e,ha.seq h1,h2⟩
 . cases U;exact ⟨p,vs,Y,h1,h2⟩
 . cases U
theorem Pk.j8(h:Pk K A H d v)(n:∀ds,d ≠ .list ds)(n2:∀Cb,d ≠ .dict Cb):Rp K A d v:=by
 rcases h with h | ⟨p,e,U,Z,Y,h1,h2⟩ | ⟨p,u,Cb,Z,Y,h1,h2⟩
 . exact h
 . exact absurd Y (n U)
 . exact absurd Y (n2 Cb)
theorem Pk.int{i:Int}(h:Pk K A H (.int i) v):v= .int i:=Rp.int.mp (h.j8 (λ_ z=>nomatch z) (λ_ z=>nomatch z))
theorem Pk.bool{i:Bool}(h:Pk K A H (.bool i) v):v= .bl i:=Rp.bool.mp (h.j8 (λ_ z=>nomatch z) (λ_ z=>nomatch z))
theorem Pk.none(h:Pk K A H .none v):v= .non:=Rp.none.mp (h.j8 (λ_ z=>nomatch z) (λ_ z=>nomatch z))
theorem Pk.str{x:Str}(h:Pk K A H (.str x) v):v= .str x:=Rp.str.mp (h.j8 (λ_ z=>nomatch z) (λ_ z=>nomatch z))
theorem Pk.tuple(ha:aA A H)(h:Pk K A H (.tuple ds) v):∃p vs,v= .ref p/\SqT K H p vs/\au K A ds vs:=by
 obtain ⟨a,vs,e,h1,h2⟩:=Rp.tuple.mp (h.j8 (λ_ z=>nomatch z) (λ_ z=>nomatch z));exact ⟨a,vs,e,ha.lJ h1,h2⟩
theorem Pk.is(ha:aA A H)(i:ee d=true)(h:Pk K A H d v):Is K H d v:=by
 have c:=mE i;rcases h with h | ⟨p,j,U,Z,Y,h1,h2⟩ | ⟨p,u,e,Z,Y,h1,h2⟩
 rotate_right
 . subst Y;rw[ew] at c;cases c
 . exact Is.mono ha d (Rp.is d c h)
 . subst Y;rw[Is];rw[ew] at c;exact ⟨p,j,Z,h1,d8.mono ha U (au.is U c h2)⟩
theorem Rp.dict:Rp K A (.dict Cb) v↔∃a u,v= .ref a/\Rd A a (.dK u)/\aR K A Cb u:=by rw[Rp]
theorem aR.nil{u:A7}:aR K A [] u↔u=[]:=by rw[aR]
theorem aR.cons{k d:af}{r:B0}{u:A7}:aR K A ((k,d)::r) u↔∃key v u',u=(key,v)::u'/\bJ k=some key/\Rp K A d v/\aR K A r u':=by rw[aR]
theorem Pk.dict(ha:aA A H)(h:Pk K A H (.dict Cb) v):∃a u,v= .ref a/\Rd H a (.dK u)/\aR K A Cb u:=by
 rcases h with h | ⟨p,j,i,Y,U,h1,h2⟩ | ⟨p,u,Z,Y,U,h1,h2⟩
 . obtain ⟨a,u,e,h1,h2⟩:=Rp.dict.mp h;exact ⟨a,u,e,aA.rd ha h1,h2⟩
 . cases U
 . cases U;exact ⟨p,u,Y,h1,h2⟩
theorem aO.new(ha:aA A H)(h:H p=none):aO A H (CB A p o) (CB H p o):=
 ⟨aA.new (ha.free h) o,aA.new h o,λb u q=>by
  by_cases U:b=p
  . subst U;rw[bc] at q ⊢;exact q
  . rw[aL U] at q ⊢;exact ha b u q,λb h1 h2=>by
  have U:b≠p:=λz=>h2 (z ▸ h);rw[aL U];exact h1⟩
theorem aO.lay(ha:aA A H)(h:H p=none):aO A H A (CB H p o):=
 ⟨aA.refl _,aA.new h o,ha.trans (aA.new h o),λb h1 _=>h1⟩
end
structure Nm (X:Cx) (i:Nat) (x:Str):Prop where
 a:X.N[i]?=some x
 b:Vis X.env.scope x
 c:nD x
 d:(x == ("__classdict__" : Str))=false
end Zq
local macro_rules | `(tactic| walk_at "nm")=>`(tactic| exact ⟨rfl,by first | exact kx rfl | exact xl (kx rfl) | exact xl (xl rfl),by decide,by decide⟩)
namespace Zq
open PySem PySem.Spec PyProof.Rows
noncomputable def CO:Expr->Bool
 | .Starred _ _=>false
 | _=>true
noncomputable def dF:C2->Bool
 | []=>true
 | e::es=>CO e&&dF es
variable {e:Expr}
theorem bM{es:C2}{env:Env}(h:CO e=true):dk (e::es) env=(false,eval e env)::dk es env:=by
 cases e <;> first | rfl | cases h
theorem ik:∀{es:C2}{env:Env}{pos:Pos},dF es=true->(nS pos (dk es env)).any (·.1)=false
 | [],_,_,_=>rfl
 | e::es,env,pos,h=>by
  rw[dF,cp] at h;rw[bM h.1];show (false||(nS pos (dk es env)).any (·.1))=false;rw[ik h.2];rfl
def tE(K:aE)(O:C0)(m:ME):TE:=λσ H Q=>∃A B Γ d,aQ K A B H O σ Γ/\m Γ = .ok d/\∀v A' H',aO A H A' H'->Rp K A' d v->Q v H'
def tP(K:aE)(O:C0)(m:ME):TE:=λσ H Q=>∃A B Γ d,aQ K A B H O σ Γ/\m Γ = .ok d/\∀v A' H',aO A H A' H'->Pk K A' H' d v->Q v H'
def sr(K:aE)(H A' H':Hp)(d:af)(v:V):Prop:=∃p o,v= .ref p/\H p=none/\H' p=some o/\A' p=none/\g8 K A' d o
def tF(K:aE)(O:C0)(m:ME):TE:=λσ H Q=>∃A B Γ d,aQ K A B H O σ Γ/\m Γ = .ok d/\∀v A' H',aO A H A' H'->sr K H A' H' d v->Q v H'
def tT(K:aE)(O:C0)(m:ME):TT:=λσ H Q=>∃A B Γ b,aQ K A B H O σ Γ/\m Γ = .ok (.bool b)/\∀A' H',aO A H A' H'->Q b H'
variable {X:Cx}{t':TT}{tg:Expr}
theorem PE.imp{t t':TE}(h:PE X e t)(i:∀σ H Q,t' σ H Q->t σ H Q):PE X e t':=λU s σ H Q I q=>h U s σ H Q I (i σ H Q q)
theorem PT.imp{t:TT}(h:PT X e t)(i:∀σ H Q,t' σ H Q->t σ H Q):PT X e t':=λU s σ H Q I q=>h U s σ H Q I (i σ H Q q)
theorem PW.imp{t:TT}(h:PW X e t)(i:∀σ H Q,t' σ H Q->t σ H Q):PW X e t':=λw U s σ H Q I q=>h w U s σ H Q I (i σ H Q q)
theorem PA.imp{e:C2}{t t':TA}(h:PA X e t)(i:∀σ H Q,t' σ H Q->t σ H Q):PA X e t':=λY U s σ H Q I q=>h Y U s σ H Q I (i σ H Q q)
theorem PS.imp{e:Stmt}{t t':TS}(h:PS X e t)(i:∀D σ H,t' D σ H->t D σ H):PS X e t':=λU s σ H D I q=>h U s σ H D I (i D σ H q)
theorem PSs.imp{e:C6}{t t':TS}(h:PSs X e t)(i:∀D σ H,t' D σ H->t D σ H):PSs X e t':=λU s σ H D I q=>h U s σ H D I (i D σ H q)
theorem PI.imp{t t':TI}(h:PI X tg e t)(i:∀σ H R,t' σ H R->t σ H R):PI X tg e t':=λU s σ H R I q=>h U s σ H R I (i σ H R q)
section
variable (X:Cx)
structure QE (e:Expr) (t:TE):Prop where
 h:PE X e t
structure QT (e:Expr) (t:TT):Prop where
 h:PT X e t
structure QW (e:Expr) (t:TT):Prop where
 h:PW X e t
structure QA (e:C2) (t:TA):Prop where
 h:PA X e t
structure QS (e:Stmt) (t:TS):Prop where
 h:PS X e t
structure QSs (e:C6) (t:TS):Prop where
 h:PSs X e t
structure QI (tg e:Expr) (t:TI):Prop where
 h:PI X tg e t
structure QO (e:Option Expr) (t:TO):Prop where
 h:PO X e t
structure QG (tg:Expr) (t:TG):Prop where
 h:PG X tg t
structure QGs (tg:C2) (t:TGs):Prop where
 h:PGs X tg t
structure vZ (e:C2) (t:TT):Prop where
 h:pX X e t
end
theorem QE.imp{t t':TE}(h:PE X e t)(i:∀σ H Q,t' σ H Q->t σ H Q):QE X e t':=⟨PE.imp h i⟩
theorem QT.imp{t:TT}(h:PT X e t)(i:∀σ H Q,t' σ H Q->t σ H Q):QT X e t':=⟨PT.imp h i⟩
theorem QW.imp{t:TT}(h:PW X e t)(i:∀σ H Q,t' σ H Q->t σ H Q):QW X e t':=⟨PW.imp h i⟩
theorem QA.imp{e:C2}{t t':TA}(h:PA X e t)(i:∀σ H Q,t' σ H Q->t σ H Q):QA X e t':=⟨PA.imp h i⟩
theorem QS.imp{e:Stmt}{t t':TS}(h:PS X e t)(i:∀D σ H,t' D σ H->t D σ H):QS X e t':=⟨PS.imp h i⟩
theorem QSs.imp{e:C6}{t t':TS}(h:PSs X e t)(i:∀D σ H,t' D σ H->t D σ H):QSs X e t':=⟨PSs.imp h i⟩
theorem QI.imp{t t':TI}(h:PI X tg e t)(i:∀σ H R,t' σ H R->t σ H R):QI X tg e t':=⟨PI.imp h i⟩
variable {K:aE}{O:C0}{m m1 m2:ME}{c:Expr}{pos:Pos}{A H A' H':Hp}{d:af}{v:V}{i:Nat}{Γ:Ev}{σ:St}{x:Str}{op:CmpOp}{rest:C2}{ds:B5}{vs:C1}
section
variable     {a b:Expr}
theorem sp(h:QE X e (tE K O m)):QE X e (tP K O m):=QE.imp h.h λj H Q U=>by obtain ⟨A,B,Z,d,r,em,k⟩:=U;exact ⟨A,B,Z,d,r,em,λv Y i g p=>k v Y i g (.inl p)⟩
theorem sr.share(g:aO A H A' H')(h:sr K H A' H' d v):∃U,aO A H U H'/\Rp K U d v:=by
 obtain ⟨p,o,rfl,h1,h2,Z,e⟩:=h;have s:aA A' (CB A' p o):=aA.new Z _;refine ⟨CB A' p o,⟨g.aa.trans s,g.hh,λb u q=>?_,λb n1 n2=>?_⟩,e.share s⟩
 . by_cases Y:b=p
   . subst Y;rw[bc] at q;rw[h2];exact q
   . rw[aL Y] at q;exact g.ah b u q
 . have Y:b≠p:=λz=>n2 (z ▸ h1);rw[aL Y];exact g.nw b n1 n2
theorem sfe(h:QE X e (tF K O m)):QE X e (tE K O m):=QE.imp h.h λl H Q ⟨A,B,Z,d,r,em,k⟩=>⟨A,B,Z,d,r,em,λv j i g p=>by
 obtain ⟨U,Y,p'⟩:=p.share g;exact k v U i Y p'⟩
theorem sfp(h:QE X e (tF K O m)):QE X e (tP K O m):=sp (sfe h)
noncomputable def aj(i:Nat):ME:=λΓ=>match gv Γ i with
 | some d=>.ok d
 | none=>.bad
noncomputable def eC(d:af):ME:=λ_=>.ok d
theorem pB(h:aj i Γ = .ok d):gv Γ i=some d:=by
 unfold aj at h
 cases q:gv Γ i with
 | none=>rw[q] at h;cases h
 | some U=>rw[q] at h;cases h;rfl
theorem fC(h:sv σ i=some v):σ[i]?=some (some v):=by
 unfold sv at h;rw[ay] at h
 cases q:σ[i]? with
 | none=>rw[q] at h;cases h
 | some o=>rw[q] at h;exact congrArg some h
theorem ao(i:Nat)(nm:Nm X i x:=by walk_at "nm")(hx:isX (fl O i)=false:=by rfl):QE X (.Name x pos) (tP K O (aj i)):=QE.imp (fD nm.1 nm.2 nm.3 nm.4) λZ H Q U=>by
 obtain ⟨A,B,e,d,r,em,k⟩:=U;obtain ⟨v,Y,q⟩:=r.slot i d (pB em);exact ⟨v,fC Y,k v A H (aO.refl r.a) (q.pk r.b hx)⟩
theorem aU(i:Nat)(hi:fl O i= .CD:=by rfl)(nm:Nm X i x:=by walk_at "nm"):QE X (.Name x pos) (tE K O (aj i)):=QE.imp (fD nm.1 nm.2 nm.3 nm.4) λZ H Q U=>by
 obtain ⟨A,B,e,d,r,em,k⟩:=U;obtain ⟨v,Y,q⟩:=r.slot i d (pB em);rw[hi] at q;exact ⟨v,fC Y,k v A H (aO.refl r.a) q⟩
theorem Ga(h:PE X e (tC v))(Y:∀A,Rp K A d v):QE X e (tE K O (eC d)):=QE.imp h λZ H Q U=>by
 obtain ⟨A,B,j,i,r,em,k⟩:=U;cases em;exact k v A H (aO.refl r.a) (Y A)
theorem km{i:Int}{j pos}:QE X (.Constant (.int i) j pos) (tE K O (eC (.int i))):=Ga aa5 λ_=>Rp.int.mpr rfl
theorem jD{i:Bool}{j pos}:QE X (.Constant (.bool i) j pos) (tE K O (eC (.bool i))):=Ga acB λ_=>Rp.bool.mpr rfl
theorem gA{j pos}:QE X (.Constant .none j pos) (tE K O (eC .none)):=Ga aat λ_=>Rp.none.mpr rfl
theorem mH{j pos}:QE X (.Constant (.str x) j pos) (tE K O (eC (.str x))):=Ga PX λ_=>Rp.str.mpr rfl
theorem jW{u:a0}(U:Gl X x)(Z:X.mg x=some u)(r:Ct v u)(Y:∀A,Rp K A d v)(hd:nD x:=by decide):QE X (.Name x pos) (tE K O (eC d)):=
 Ga (WR U Z r hd) Y
noncomputable def ak(f:D0)(a b:ME):ME:=λΓ=>(a Γ).bind λx=>(b Γ).bind λy=>f x y
def rD(K:aE)(f:D0):R2:=λx y H Q=>∃A d1 d2 d,f d1 d2= .ok d/\aA A H/\Pk K A H d1 x/\Pk K A H d2 y/\∀v A' H',aO A H A' H'->Rp K A' d v->Q v H'
def rDF(K:aE)(f:D0):R2:=λx y H Q=>∃A d1 d2 d,f d1 d2= .ok d/\aA A H/\Pk K A H d1 x/\Pk K A H d2 y/\∀v A' H',aO A H A' H'->sr K H A' H' d v->Q v H'
theorem vQ{f:D0}{Q:VK}(h:tE K O (ak f m1 m2) σ H Q):tOp (rD K f) (tP K O m1) (tP K O m2) σ H Q:=by
 obtain ⟨A,B,e,d,r,em,k⟩:=h;obtain ⟨Y,o,em⟩:=Co.aq em;obtain ⟨Z,m,em⟩:=Co.aq em;refine ⟨A,B,e,Y,r,o,λx j z U l=>⟨j,B,e,Z,r.grow U,m,λy u C g2 p=>⟨u,Y,Z,d,em,g2.ah,l.mono g2.aa g2.hh,p,λv q s g3 i=>k v q s ((U.trans g2).trans g3) i⟩⟩⟩
theorem aaQ{f:D0}{Q:VK}(h:tF K O (ak f m1 m2) σ H Q):tOp (rDF K f) (tP K O m1) (tP K O m2) σ H Q:=by
 obtain ⟨A,B,i,d,r,em,k⟩:=h;obtain ⟨Y,s,em⟩:=Co.aq em;obtain ⟨Z,q,em⟩:=Co.aq em;refine ⟨A,B,i,Y,r,s,λx l E U m=>⟨l,B,i,Z,r.grow U,q,λy D I g2 u=>⟨D,Y,Z,d,em,g2.ah,m.mono g2.aa g2.hh,u,λv z C g3 j=>k v z C ((U.trans g2).trans g3) ?_⟩⟩⟩;obtain ⟨p,o,e,h1,h2⟩:=j;exact ⟨p,o,e,(U.trans g2).hh.free h1,h2⟩
theorem Z8{f:D0}{Q:Bool->Hp->Prop}(h:tT K O (ak f m1 m2) σ H Q):Nv (tOp (rD K f) (tP K O m1) (tP K O m2)) σ H Q:=by
 obtain ⟨A,B,Z,Y,r,em,k⟩:=h;exact vQ ⟨A,B,Z,_,r,em,λv U e g p=>⟨Y,Rp.bool.mp p,k U e g⟩⟩
theorem aX{U:Operator}{f:D0}(Z:OpR X (f6 U) (rD K f))(ha:QE X a (tP K O m1))(Y:QE X b (tP K O m2)):QE X (.BinOp a U b pos) (tE K O (ak f m1 m2)):=QE.imp (K8 Z ha.h Y.h) λ_ _ _=>vQ
theorem YZ{U:Operator}{f:D0}(Z:OpR X (f6 U) (rDF K f))(ha:QE X a (tP K O m1))(Y:QE X b (tP K O m2)):QE X (.BinOp a U b pos) (tF K O (ak f m1 m2)):=QE.imp (K8 Z ha.h Y.h) λ_ _ _=>aaQ
theorem qu{f:D0}(Y:OpR X (fR op) (rD K f))(ha:QE X a (tP K O m1))(U:QE X b (tP K O m2))(Z:pj op b=false):QE X (.Compare a [op] [b] pos) (tE K O (ak f m1 m2)):=QE.imp (YD Y ha.h U.h Z) λ_ _ _=>vQ
theorem my{f:D0}(Y:OpR X (fR op) (rD K f))(ha:QE X a (tP K O m1))(U:QE X b (tP K O m2))(Z:pj op b=false):QT X (.Compare a [op] [b] pos) (tT K O (ak f m1 m2)):=QT.imp (WY Y ha.h U.h Z) λ_ _ _=>Z8
noncomputable def qm(f g:D0)(a b c:ME):ME:=λΓ=>(a Γ).bind λx=>(b Γ).bind λy=>(f x y).bind λt=>match t with
 | .bool true=>(c Γ).bind λz=>g y z
 | .bool false=>.ok (.bool false)
 | _=>.bad
theorem Uu{f g:D0}{Q:VK}(h:tE K O (qm f g m1 m2 m) σ H Q):O7 (rD K f) (rD K g) (tP K O m1) (tP K O m2) (tP K O m) σ H Q:=by
 obtain ⟨A,B,Y,d,r,em,k⟩:=h;obtain ⟨j,L,em⟩:=Co.aq em;obtain ⟨Z,p,em⟩:=Co.aq em;obtain ⟨t,I,em⟩:=Co.aq em;refine ⟨A,B,Y,j,r,L,λx M H1 U P=>⟨M,B,Y,Z,r.grow U,p,λy E H2 g2 l=>⟨E,j,Z,t,I,g2.ah,P.mono g2.aa g2.hh,l,λv i S g3 J=>?_⟩⟩⟩
 cases t with
 | bool e=>
  refine ⟨e,Rp.bool.mp J,?_⟩
  cases e with
  | false=>
   cases em;exact vP (k _ i S ((U.trans g2).trans g3) (Rp.bool.mpr rfl))
  | true=>
   obtain ⟨o,e4,em⟩:=Co.aq em;exact uc ⟨i,B,Y,o,((r.grow U).grow g2).grow g3,e4,λz R H4 g4 q=>⟨R,Z,o,d,em,g4.ah,(l.mono g3.aa g3.hh).mono g4.aa g4.hh,q,λv u C D s=>k v u C ((((U.trans g2).trans g3).trans g4).trans D) s⟩⟩
 | _=>cases em
theorem FP{U:CmpOp}{f g:D0}(e:OpR X (fR op) (rD K f))(Y:OpR X (fR U) (rD K g))(ha:QE X a (tP K O m1))(o:QE X b (tP K O m2))(s:QE X c (tP K O m))
 (i:lastMarks [op,U] [b,c]=false:=by with_unfolding_all rfl):QT X (.Compare a [op,U] [b,c] pos) (tT K O (qm f g m1 m2 m)):=QT.imp (RT e Y ha.h o.h s.h i) λu H Q ⟨A,B,l,Z,r,em,k⟩=>
 Uu ⟨A,B,l,_,r,em,λv j q g p=>⟨Z,Rp.bool.mp p,k j q g⟩⟩
noncomputable def mY(a b:ME):ME:=λΓ=>(a Γ).bind λx=>match x with
 | .bool true=>b Γ
 | .bool false=>.ok (.bool false)
 | _=>.bad
noncomputable def eOr(a b:ME):ME:=λΓ=>(a Γ).bind λx=>match x with
 | .bool false=>b Γ
 | .bool true=>.ok (.bool true)
 | _=>.bad
noncomputable def uT(a:ME):ME:=λΓ=>(a Γ).bind λx=>match x with
 | .bool t=>.ok (.bool (!t))
 | _=>.bad
theorem Qu{op}(h:QE X a (tE K O m)):QE X (.BoolOp op [a] pos) (tE K O m):=⟨aaN h.h⟩
theorem Q0(ha:QE X a (tE K O m1))(s:QE X (.BoolOp .And (b::rest) pos) (tE K O m2)):QE X (.BoolOp .And (a::b::rest) pos) (tE K O (mY m1 m2)):=QE.imp (aax ha.h s.h) λx H Q U=>by
 obtain ⟨A,B,j,d,r,em,k⟩:=U;obtain ⟨i,m,em⟩:=Co.aq em;refine ⟨A,B,j,i,r,m,λv e l Y o=>?_⟩
 cases i with
 | bool Z=>
  refine ⟨Z,Rp.bool.mp o,?_⟩
  cases Z with
  | true=>exact uc ⟨e,B,j,d,r.grow Y,em,λv q u g p=>k v q u (Y.trans g) p⟩
  | false=>cases em;exact vP (k _ e l Y (Rp.bool.mpr rfl))
 | _=>cases em
theorem Gv(h:QE X e (tE K O m))(j:∀whole,BM e X.env whole=(do let v <- whole;standAt e.pos;holding [v] (truthy v)):=by intro _;rfl):QT X e (tT K O m):=QT.imp (aac h.h j) λl H Q ⟨A,B,Z,U,r,em,k⟩=>
 ⟨A,B,Z,_,r,em,λv Y i g p=>⟨U,Rp.bool.mp p,k Y i g⟩⟩
theorem xO(ha:QT X a (tT K O m)):QW X (.BoolOp .And [a] pos) (tT K O m):=⟨Yk ha.h⟩
theorem qd(ha:QT X a (tT K O m)):QW X (.BoolOp .Or [a] pos) (tT K O m):=⟨Zt ha.h⟩
theorem z8(ha:QT X a (tT K O m1))(p:QW X (.BoolOp .And (b::rest) pos) (tT K O m2)):QW X (.BoolOp .And (a::b::rest) pos) (tT K O (mY m1 m2)):=QW.imp (abl ha.h p.h) λs H Q U=>by
 obtain ⟨A,B,i,d,r,em,k⟩:=U;obtain ⟨m,l,em⟩:=Co.aq em
 cases m with
 | bool Z=>
  refine ⟨A,B,i,Z,r,l,λe j Y=>?_⟩
  cases Z with
  | true=>exact uc ⟨e,B,i,d,r.grow Y,em,λo q g=>k o q (Y.trans g)⟩
  | false=>cases em;exact vP (k e j Y)
 | _=>cases em
theorem oY(ha:QT X a (tT K O m1))(p:QW X (.BoolOp .Or (b::rest) pos) (tT K O m2)):QW X (.BoolOp .Or (a::b::rest) pos) (tT K O (eOr m1 m2)):=QW.imp (acv ha.h p.h) λs H Q U=>by
 obtain ⟨A,B,i,d,r,em,k⟩:=U;obtain ⟨m,l,em⟩:=Co.aq em
 cases m with
 | bool Z=>
  refine ⟨A,B,i,Z,r,l,λe j Y=>?_⟩
  cases Z with
  | false=>exact vP ⟨e,B,i,d,r.grow Y,em,λo q g=>k o q (Y.trans g)⟩
  | true=>cases em;exact uc (k e j Y)
 | _=>cases em
theorem lO(h:QW X e (tT K O m)):QT X e (tT K O m):=⟨h.h.pt⟩
theorem Gn(ha:QT X a (tT K O m1)):QT X (.UnaryOp .Not a pos) (tT K O (uT m1)):=QT.imp (aav ha.h) λo H Q U=>by
 obtain ⟨A,B,e,d,r,em,k⟩:=U;obtain ⟨j,m,em⟩:=Co.aq em
 cases j with
 | bool l=>cases em;exact ⟨A,B,e,l,r,m,λi Y Z=>k i Y Z⟩
 | _=>cases em
noncomputable def Fj:af->Co af
 | .none=>.ok (.bool false)
 | .bool b=>.ok (.bool b)
 | .int i=>.ok (.bool (i != 0))
 | .list ds=>.ok (.bool (!ds.isEmpty))
 | .tuple ds=>.ok (.bool (!ds.isEmpty))
 | .str x=>gd (x.length<=be) (.ok (.bool ((x.length:Int) != 0)))
 | _=>.bad
noncomputable def eUn(f:D1)(a:ME):ME:=λΓ=>(a Γ).bind f
theorem au.isEmpty(h:au K A ds vs):vs.isEmpty=ds.isEmpty:=by
 cases ds with
 | nil=>rw[au.nil] at h;subst h;rfl
 | cons d ds=>rw[au.cons] at h;obtain ⟨v,r,rfl,_⟩:=h;rfl
theorem abh(h:QE X a (tP X.K O m))(z:∀whole,BM a X.env whole=(do let v <- whole;standAt a.pos;holding [v] (truthy v)):=by intro _;rfl):QT X a (tT X.K O (eUn Fj m)):=QT.imp (U8 h.h z) λC H Q Y=>by
 obtain ⟨A,B,y,l,r,em,k⟩:=Y;obtain ⟨j,q,em⟩:=Co.aq em;refine ⟨A,B,y,j,r,q,λv s o Z U=>⟨l,?_,k s o Z⟩⟩
 cases j with
 | none=>cases em;rw[U.none];rfl
 | bool b=>cases em;rw[U.bool];rfl
 | int i=>cases em;rw[U.int];rfl
 | str x=>
  obtain ⟨hz,em⟩:=bZ em;cases em;rw[U.str];exact ⟨hz,rfl⟩
 | list u=>
  cases em;obtain ⟨p,e,rfl,h1,h2⟩:=U.list Z.ah;exact .inl ⟨e,h1,by rw[h2.isEmpty]⟩
 | tuple u=>
  cases em;obtain ⟨p,e,rfl,h1,h2⟩:=U.tuple Z.ah;exact .inr (.inl ⟨e,h1,by rw[h2.isEmpty]⟩)
 | dict _=>cases em
end
noncomputable def oJ(g:Int->Int->Co af):af->af->Co af
 | .int a,.int b=>g a b
 | _,_=>.bad
theorem iD{g:Int->Int->Co af}{a b:af}(e:oJ g a b= .ok d):∃i j,a= .int i/\b= .int j/\g i j= .ok d:=by
 cases a with
 | int i=>
  cases b with
  | int j=>exact ⟨i,j,rfl,rfl,e⟩
  | _=>cases e
 | _=>cases e
noncomputable def cj:af->af->Co af
 | .int a,.int b=>.ok (.int (a+b))
 | .str a,.str b=>gd (a.length+b.length<=be) (.ok (.str (a++b)))
 | .list a,.list b=>gd (a.length+b.length<=be) (.ok (.list (a++b)))
 | .tuple a,.tuple b=>gd (a.length+b.length<=be) (.ok (.tuple (a++b)))
 | .int a,.bool b=>.ok (.int (a+b2i b))
 | _,_=>.bad
noncomputable def qG:af->af->Co af:=oJ λa b=>.ok (.int (a - b))
instance (i j:Int):Decidable (uf i j):=by unfold uf;infer_instance
instance (i j:Int):Decidable (Bj i j):=by unfold Bj;infer_instance
instance (i j:Int):Decidable (Uv i j):=by unfold Uv;infer_instance
noncomputable def yr:af->af->Co af:=oJ λa b=>gd (uf a b) (.ok (.int (a*b)))
noncomputable def zJ:af->af->Co af:=oJ λa b=>gd (Bj a b) (.ok (.int (a / b)))
noncomputable def qF:af->af->Co af:=oJ λa b=>gd (0<b) (.ok (.int (a % b)))
noncomputable def Fd:af->af->Co af:=oJ λa b=>gd (0<=b) (.ok (.int (a / 2^b.toNat)))
noncomputable def uY:af->af->Co af:=oJ λa b=>.ok (.int (fE a b))
noncomputable def orD:af->af->Co af:=oJ λa b=>.ok (.int (jI a b))
noncomputable def RG:af->af->Co af:=oJ λa b=>.ok (.int (lI a b))
noncomputable def ltD:af->af->Co af:=oJ λa b=>.ok (.bool (decide (a<b)))
noncomputable def leD:af->af->Co af:=oJ λa b=>.ok (.bool (decide (a<=b)))
noncomputable def gtD:af->af->Co af:=oJ λa b=>.ok (.bool (decide (b<a)))
noncomputable def eqD(a b:af):Co af:=gd (ee a=true/\ee b=true) (.ok (.bool (fw a b)))
noncomputable def neD(a b:af):Co af:=gd (ee a=true/\ee b=true) (.ok (.bool (!fw a b)))
noncomputable def abt:af->Bool
 | .none=>true
 | _=>false
noncomputable def rF:af->af->Co af
 | a,.none=>.ok (.bool (abt a))
 | _,_=>.bad
noncomputable def CF:af->af->Co af
 | .list ds,.int i=>match atI ds i with | some d=>.ok d | none=>.bad
 | .tuple ds,.int i=>match atI ds i with | some d=>.ok d | none=>.bad
 | _,_=>.bad
variable {g:a0->a0->Sem a0}
theorem zm{f:D0}{C:Int->Int->Prop}{h:Int->Int->Int}(l:OpR X g (rI C λi j=>.int (h i j)))
 (p:∀a b d,f a b= .ok d->∃i j,a= .int i/\b= .int j/\C i j/\d= .int (h i j)):OpR X g (rD X.K f):=by
 rintro U s q H x y v u Q I m r ⟨A,B,z,d,e,ha,Z,o,k⟩;obtain ⟨i,j,rfl,rfl,Y,rfl⟩:=p _ _ _ e;exact l U s q H x y v u Q I m r ⟨i,j,Z.int,o.int,Y,k _ A H (aO.refl ha) (Rp.int.mpr rfl)⟩
theorem xf{f:D0}{h:Int->Int->Int}(Z:OpR X g (rI0 λi j=>.int (h i j)))
 (o:∀a b d,f a b= .ok d->∃i j,a= .int i/\b= .int j/\d= .int (h i j)):OpR X g (rD X.K f):=by
 rintro U s p H x y v u Q I l q ⟨A,z,r,d,e,ha,Y,m,k⟩;obtain ⟨i,j,rfl,rfl,rfl⟩:=o _ _ _ e;exact Z U s p H x y v u Q I l q ⟨i,j,Y.int,m.int,k _ A H (aO.refl ha) (Rp.int.mpr rfl)⟩
theorem FZ{f:D0}{h:Int->Int->Bool}(Z:OpR X g (rI0 λi j=>.bl (h i j)))
 (o:∀a b d,f a b= .ok d->∃i j,a= .int i/\b= .int j/\d= .bool (h i j)):OpR X g (rD X.K f):=by
 rintro U s p H x y v u Q I l q ⟨A,z,r,d,e,ha,Y,m,k⟩;obtain ⟨i,j,rfl,rfl,rfl⟩:=o _ _ _ e;exact Z U s p H x y v u Q I l q ⟨i,j,Y.int,m.int,k _ A H (aO.refl ha) (Rp.bool.mpr rfl)⟩
theorem wN:OpR X (f6 .Sub) (rD X.K qG):=xf Zi λa b d e=>by
 obtain ⟨i,j,rfl,rfl,e⟩:=iD e;cases e;exact ⟨_,_,rfl,rfl,rfl⟩
theorem Bd:OpR X (f6 .FloorDiv) (rD X.K zJ):=zm W8 λa b d e=>by
 obtain ⟨i,j,rfl,rfl,e⟩:=iD e;obtain ⟨U,e⟩:=bZ e;cases e;exact ⟨_,_,rfl,rfl,U,rfl⟩
theorem qH:OpR X (f6 .Mod) (rD X.K qF):=zm Zx λa b d e=>by
 obtain ⟨i,j,rfl,rfl,e⟩:=iD e;obtain ⟨U,e⟩:=bZ e;cases e;exact ⟨_,_,rfl,rfl,U,rfl⟩
theorem Ig:OpR X (f6 .RShift) (rD X.K Fd):=zm ZW λa b d e=>by
 obtain ⟨i,j,rfl,rfl,e⟩:=iD e;obtain ⟨U,e⟩:=bZ e;cases e;exact ⟨_,_,rfl,rfl,U,rfl⟩
theorem qp:OpR X (f6 .BitAnd) (rD X.K uY):=xf aaS λa b d e=>by
 obtain ⟨i,j,rfl,rfl,e⟩:=iD e;cases e;exact ⟨_,_,rfl,rfl,rfl⟩
theorem VL:OpR X (f6 .BitOr) (rD X.K orD):=xf acx λa b d e=>by
 obtain ⟨i,j,rfl,rfl,e⟩:=iD e;cases e;exact ⟨_,_,rfl,rfl,rfl⟩
theorem aaz:OpR X (f6 .BitXor) (rD X.K RG):=xf aaG λa b d e=>by
 obtain ⟨i,j,rfl,rfl,e⟩:=iD e;cases e;exact ⟨_,_,rfl,rfl,rfl⟩
theorem t8:OpR X (fR .Lt) (rD X.K ltD):=FZ abI λa b d e=>by
 obtain ⟨i,j,rfl,rfl,e⟩:=iD e;cases e;exact ⟨_,_,rfl,rfl,rfl⟩
theorem acf:OpR X (fR .LtE) (rD X.K leD):=FZ abM λa b d e=>by
 obtain ⟨i,j,rfl,rfl,e⟩:=iD e;cases e;exact ⟨_,_,rfl,rfl,rfl⟩
theorem fV:OpR X (fR .Gt) (rD X.K gtD):=FZ abZ λa b d e=>by
 obtain ⟨i,j,rfl,rfl,e⟩:=iD e;cases e;exact ⟨_,_,rfl,rfl,rfl⟩
theorem jz(hu:X.A.units+64<qE):OpR X (fR .Eq) (rD X.K eqD):=by
 rintro U s m H x y v u Q I j o ⟨A,i,Y,d,e,ha,Z,l,k⟩;obtain ⟨⟨h1,h2⟩,e⟩:=bZ e;cases e;exact abi hu U s m H x y v u Q I j o ⟨i,Y,Z.is ha h1,l.is ha h2,h1,h2,k _ A H (aO.refl ha) (Rp.bool.mpr rfl)⟩
theorem zc(hu:X.A.units+64<qE):OpR X (fR .NotEq) (rD X.K neD):=by
 rintro U s m H x y v u Q I j o ⟨A,i,Y,d,e,ha,Z,l,k⟩;obtain ⟨⟨h1,h2⟩,e⟩:=bZ e;cases e;exact Ze hu U s m H x y v u Q I j o ⟨i,Y,Z.is ha h1,l.is ha h2,h1,h2,k _ A H (aO.refl ha) (Rp.bool.mpr rfl)⟩
theorem Pk.isNone{x:V}(ha:aA A H)(p:Pk K A H d x):decide (x=V.non)=abt d:=by
 cases d with
 | none=>rw[p.none];rfl
 | bool b=>rw[p.bool];rfl
 | int b=>rw[p.int];rfl
 | str b=>rw[p.str];rfl
 | list b=>obtain ⟨q,U,rfl,_⟩:=p.list ha;rfl
 | tuple b=>obtain ⟨q,U,rfl,_⟩:=p.tuple ha;rfl
 | dict b=>obtain ⟨q,u,rfl,_⟩:=p.dict ha;rfl
noncomputable def uG:af->af->Co af
 | .bool a,.bool b=>.ok (.bool (!(a == b)))
 | _,_=>.bad
theorem Bf:OpR X (fR .IsNot) (rD X.K uG):=by
 rintro Z s o H x y v u Q I U Y ⟨A,l,i,d,e,ha,j,m,k⟩
 cases l with
 | bool a=>
  cases i with
  | bool b=>
   cases e;rw[j.bool] at U;rw[m.bool] at Y;cases U;cases Y;refine wpAny_isNot_plain rfl ⟨.bl (!(a == b)),H,I,?_,k _ A H (aO.refl ha) (Rp.bool.mpr rfl)⟩;cases a <;> cases b <;> rfl
  | _=>cases e
 | _=>cases e
theorem zq:OpR X (fR .Is) (rD X.K rF):=by
 rintro U s l H x y v u Q I i m ⟨A,p,Y,d,e,ha,Z,j,k⟩
 cases Y with
 | none=>
  have o:=Co.ok.inj e;subst o;exact Za U s l H x y v u Q I i m ⟨j.none,by rw[Z.isNone ha];exact k _ A H (aO.refl ha) (Rp.bool.mpr rfl)⟩
 | _=>cases e
def aci(K:aE):R2:=λx y H Q=>∃l b xs zs,x= .ref l/\y= .ref b/\SqL K H l xs/\SqL K H b zs/\xs.length+zs.length<=be/\∀p,H p=none->Q (.ref p) (CB H p (.lst (xs++zs)))
theorem Ke:OpR X (f6 .Add) (aci X.K):=by
 rintro C s σ H x y v u Q I O ry ⟨l,b,xs,zs,rfl,rfl,S,L,hz,q⟩;cases O;cases ry;obtain ⟨Y,r,P,_⟩:=I.list S;obtain ⟨U,p,m,_⟩:=I.list L;have hl:=r.length;have J:=p.length;obtain ⟨⟨cls,R,D,M⟩,z,E,n,hd⟩:=P.isList;obtain ⟨⟨B,o,data2,j⟩,e,i,n2,Z⟩:=m.isList;simp only at E hd i Z;subst E hd i Z;have ea:Y.toArray++U.toArray=(Y++U).toArray:=by simp
 refine AK ⟨_,z,rfl⟩ ⟨_,e,rfl⟩ noFill_list_add seq_list_add PySem.F.slot_list_add PySem.F.entry_list_add (PySem.F.args_list_add_2 _ _) (list_addW l b Y.toArray U.toArray n n2 R o M j (by simp only[br];lia)) ⟨z,e,?_⟩;rw[ea];exact ⟨.ref _,_,I.aaE (r.append p) (by rw[aw];lia),rfl,q _ I.fresh⟩
theorem Tq:OpR X (f6 .Add) (λx y H Q=>∃a b ys,x= .ref a/\y= .ref b/\SqT X.K H a []/\SqT X.K H b ys/\Q (.ref b) H):=by
 rintro o s R H x y v u Q I C O ⟨a,b,ys,rfl,rfl,ha,M,q⟩;cases C;cases O;obtain ⟨E,z,J,_⟩:=I.tuple ha;obtain ⟨U,P,L,_⟩:=I.tuple M;cases z;obtain ⟨⟨cls,D,p,B⟩,l,r,n,hd⟩:=id J;obtain ⟨⟨m,j,data2,i⟩,Z,e,n2,Y⟩:=id L;simp only at r hd e Y;subst r hd e Y;exact AK ⟨_,l,rfl⟩ ⟨_,Z,rfl⟩ zS seq_tuple_add sD si (rg _ _)
  (tuple_addW0 a b _ U.toArray n n2 D j B i rfl) ⟨l,Z,⟨.ref b,H,I,rfl,q⟩⟩
theorem cU:OpR X (f6 .Add) (rD X.K cj):=by
 rintro U s q H x y v u Q I Z r ⟨A,S,M,d,e,ha,l,m,k⟩
 cases S with
 | int i=>
  cases M with
  | int j=>cases e;exact aaa U s q H x y v u Q I Z r ⟨i,j,l.int,m.int,k _ A H (aO.refl ha) (Rp.int.mpr rfl)⟩
  | bool j=>cases e;exact Qf U s q H x y v u Q I Z r ⟨i,j,l.int,m.bool,k _ A H (aO.refl ha) (Rp.int.mpr rfl)⟩
  | _=>cases e
 | str i=>
  cases M with
  | str j=>
   obtain ⟨J,e⟩:=bZ e;cases e;exact Mi U s q H x y v u Q I Z r ⟨i,j,l.str,m.str,J,k _ A H (aO.refl ha) (Rp.str.mpr rfl)⟩
  | _=>cases e
 | list i=>
  cases M with
  | list j=>
   obtain ⟨J,e⟩:=bZ e;cases e;obtain ⟨L,B,D,h1,q1⟩:=l.list ha;obtain ⟨O,Y,C,h2,q2⟩:=m.list ha;refine Ke U s q H x y v u Q I Z r ⟨L,O,B,Y,D,C,h1,h2,by rw[<- q1.length,<- q2.length];exact J,λp P=>?_⟩;have g:=aO.new (o:=.lst (B++Y)) ha P;exact k _ _ _ g (Rp.list.mpr ⟨p,_,rfl,SqL.of bc,(au.mono g.aa _ q1).append (au.mono g.aa _ q2)⟩)
  | _=>cases e
 | tuple i=>
  cases M with
  | tuple j=>
   obtain ⟨J,e⟩:=bZ e;cases e;obtain ⟨L,B,D,h1,q1⟩:=l.tuple ha;obtain ⟨O,Y,C,h2,q2⟩:=m.tuple ha
   by_cases E:i=[]
   . subst E;have ex:=ow q1.length.symm;subst ex;refine Tq U s q H x y v u Q I Z r ⟨L,O,Y,D,C,h1,h2,?_⟩;rw[j3] at k;refine k _ A H (aO.refl ha) ?_;have:=m.j8 (λ_ z=>nomatch z) (λ_ z=>nomatch z);rwa [C] at this
   refine Xb U s q H x y v u Q I Z r ⟨L,O,B,Y,D,C,h1,h2,λz=>?_,by rw[<- q1.length,<- q2.length];exact J,λz=>?_,λz p P=>?_⟩
   . subst z;have:=q1.length;exact E (ow this)
   . subst z;have R:=ow q2.length;subst R;rw[cy] at k;refine k _ A H (aO.refl ha) ?_;have:=l.j8 (λ_ z=>nomatch z) (λ_ z=>nomatch z);rwa [D] at this
   . have g:=aO.new (o:=.tup (B++Y)) ha P;exact k _ _ _ g (Rp.tuple.mpr ⟨p,_,rfl,SqT.of bc,(au.mono g.aa _ q1).append (au.mono g.aa _ q2)⟩)
  | _=>cases e
 | _=>cases e
noncomputable def Fo:af->af->Co af
 | .list a,.list b=>gd (a.length+b.length<=be) (.ok (.list (a++b)))
 | _,_=>.bad
theorem aay:OpR X (f6 .Add) (rDF X.K Fo):=by
 rintro U s D H x y v u Q I B L ⟨A,q,l,d,e,ha,o,C,k⟩
 cases q with
 | list i=>
  cases l with
  | list j=>
   obtain ⟨M,e⟩:=bZ e;cases e;obtain ⟨E,r,m,h1,q1⟩:=o.list ha;obtain ⟨J,Z,z,h2,q2⟩:=C.list ha;refine Ke U s D H x y v u Q I B L ⟨E,J,r,Z,m,z,h1,h2,by rw[<- q1.length,<- q2.length];exact M,λp Y=>?_⟩;exact k _ _ _ (aO.lay ha Y) ⟨p,_,rfl,Y,bc,ha.free Y,.inl ⟨_,_,rfl,rfl,q1.append q2⟩⟩
  | _=>cases e
 | _=>cases e
def ab9:R2:=λx y H Q=>∃l k xs,x= .ref l/\y= .int k/\Rd H l (.lst xs) /\ -(2^63)<=k/\k<2^63/\xs.length*k.toNat<=be /\
 ∀p,H p=none->Q (.ref p) (CB H p (.lst (cE k.toNat xs).flatten))
theorem Xe:OpR X (f6 .Mult) ab9:=by
 rintro p s S H x y v u Q I B J ⟨l,k,R,rfl,rfl,M,h1,h2,hz,q⟩;cases B;obtain ⟨t,rfl⟩:=J;obtain ⟨z,U,n,r,e⟩:=M.ok I.CH;have C:=r.length;have i:U.toArray.size*k.toNat<=be:=by rw[br,<- C];exact hz
 have o:¬ U.toArray.size*k.toNat > (2^63 - 1) / 8:=by
  have:(be:Nat)<=(2^63 - 1) / 8:=by decide
  lia
 have j:¬ (!Builtin.List.listFitsIndex k)=true:=by
  rw[fitsIndex_both h1 h2];exact iO
 have Y:¬ lx (U.toArray.size*k.toNat)=true:=by
  rw[Fi i];exact iO
 have Z:List.foldl (λD E=>D++E) #[] (cE (if U.toArray.isEmpty=true then 0 else k.toNat) U.toArray)=(cE k.toNat U).flatten.toArray:=by
  have O:=λm=>by
   have:=foldl_rep U m [];rwa [j3] at this
  rw[O]
  cases U with
  | nil=>simp
  | cons a P=>rw[if_neg (by simp)]
 refine wpAny_binaryOp_repeat_ref (by decide) ⟨_,e,rfl⟩ (λL=>typeIs_int L k t) noFill_list_mul F.fills_int_mul F.slot_int_rmul repeat_list F.slot_int_index.lookup
  (uj F.slot_int_rmul (typeIs_int s k t) F.entry_int_rmul (F.args_int_rmul_2 _ _) (int___rmul___int_list k t l U.toArray n)
   ⟨e,rfl,⟨_,e,rfl⟩,uj F.slot_list_mul ⟨_,e,rfl⟩ F.entry_list_mul (F.args_list_mul_2 _ _) (AutoListH.list___mul___list_int_3 l U.toArray n k t j o Y) ⟨e,?_⟩⟩)
 rw[Z];exact ⟨.ref _,_,I.aaE (r.rep k.toNat) (by rw[len_rep,oC];exact hz),rfl,q _ I.fresh⟩
theorem au.reps(h:au K A ds vs)(k:Nat):au K A (cE k ds).flatten (cE k vs).flatten:=by
 induction k with
 | zero=>exact au.nil.mpr rfl
 | succ k U=>rw[gu,gu,l6,l6];exact h.append U
theorem wJ:OpR X (f6 .Mult) (rD X.K yr):=zm aan λa b d e=>by
 obtain ⟨i,j,rfl,rfl,e⟩:=iD e;obtain ⟨U,e⟩:=bZ e;cases e;exact ⟨_,_,rfl,rfl,U,rfl⟩
noncomputable def wj:af->af->Co af
 | .list a,.int k=>gd (-(2^63)<=k/\k<2^63/\a.length*k.toNat<=be) (.ok (.list (cE k.toNat a).flatten))
 | _,_=>.bad
theorem Ff{b:Expr}(ha:QE X e (tF X.K O m1))(R:QE X b (tP X.K O m2)):QE X (.BinOp e .Mult b pos) (tF X.K O (ak wj m1 m2)):=QE.imp (K8 Xe ha.h R.h) λσ H Q U=>by
 obtain ⟨A,B,q,d,r,em,k⟩:=U;obtain ⟨z,J,em⟩:=Co.aq em;obtain ⟨v,D,em⟩:=Co.aq em;refine ⟨A,B,q,z,r,J,λx L S s M=>⟨L,B,q,v,r.grow s,D,λy A2 H2 g2 P=>?_⟩⟩
 cases z with
 | list i=>
  cases v with
  | int j=>
   obtain ⟨l,em⟩:=bZ em;cases em;obtain ⟨E,o,rfl,h0,h1,h2,⟨ds,C,Z,rfl,q1⟩ | ⟨I,u,Z,_⟩⟩:=M
   rotate_right
   . cases Z
   cases Z;refine ⟨E,j,C,rfl,P.int,.inl (g2.hh _ _ h1),l.1,l.2.1,by rw[<- q1.length];exact l.2.2,λp Y=>?_⟩;have m:=s.trans g2;exact k _ _ _ (m.trans (aO.lay g2.ah Y)) ⟨p,_,rfl,m.hh.free Y,bc,g2.ah.free Y,.inl ⟨_,_,rfl,rfl,(au.mono g2.aa _ q1).reps _⟩⟩
  | _=>cases em
 | _=>cases em
theorem au.atI{i:Int}(h:au K A ds vs)(e:Zq.atI ds i=some d):∃x,Zq.atI vs i=some x/\Rp K A d x:=by
 unfold Zq.atI at e ⊢;rw[<- h.length]
 cases q:ixN ds.length i with
 | none=>rw[q] at e;cases e
 | some j=>rw[q] at e;exact h.get' e
theorem Es:IxR X (rD X.K CF):=by
 intro U Y j s J H x y v u Q I B L P M;obtain ⟨A,R,C,d,e,ha,D,E,k⟩:=P
 cases R with
 | list m=>
  cases C with
  | int i=>
   have Z:(match Zq.atI m i with | some d=>Co.ok d | none=>.bad)= .ok d:=e
   cases q:Zq.atI m i with
   | none=>rw[q] at Z;cases Z
   | some O=>
    rw[q] at Z;cases Z;obtain ⟨l,r,o,h1,q2⟩:=D.list ha;obtain ⟨z,hz,p⟩:=q2.atI q;exact Wr U Y j s J H x y v u Q I B L ⟨l,r,i,z,o,E.int,h1,hz,k _ A H (aO.refl ha) p⟩ M
  | _=>cases e
 | tuple m=>
  cases C with
  | int i=>
   have Z:(match Zq.atI m i with | some d=>Co.ok d | none=>.bad)= .ok d:=e
   cases q:Zq.atI m i with
   | none=>rw[q] at Z;cases Z
   | some O=>
    rw[q] at Z;cases Z;obtain ⟨l,r,o,h1,q2⟩:=D.tuple ha;obtain ⟨z,hz,p⟩:=q2.atI q;exact aas U Y j s J H x y v u Q I B L ⟨l,r,i,z,o,E.int,h1,hz,k _ A H (aO.refl ha) p⟩ M
  | _=>cases e
 | _=>cases e
theorem Wa{b:Expr}(ha:QE X e (tP X.K O m1))(U:QE X b (tP X.K O m2))(hs:sX b):QE X (.Subscript e b pos) (tE X.K O (ak CF m1 m2)):=QE.imp (Wb Es ha.h U.h hs) λ_ _ _=>vQ
noncomputable def evs:List ME->Ev->Co B5
 | [],_=>.ok []
 | m::ms,Γ=>(m Γ).bind λd=>(evs ms Γ).bind λds=>.ok (d::ds)
theorem ph:∀{ms:List ME}{Γ:Ev}{ds:B5},evs ms Γ = .ok ds->ds.length=ms.length
 | [],_,_,h=>by cases h;rfl
 | m::ms,Γ,ds,h=>by
  obtain ⟨d,_,h⟩:=Co.aq h;obtain ⟨r,e,h⟩:=Co.aq h;cases h;rw[ba,ba,ph e]
def tAi(K:aE)(O:C0)(ms:List ME):TA:=λσ H Q=>∃A B Γ ds,aQ K A B H O σ Γ/\evs ms Γ = .ok ds/\∀vs A' H',aO A H A' H'->au K A' ds vs->Q vs H'
def Gq(K:aE)(A H:Hp):Fl->af->V->Prop
 | .CD,d,v=>Rp K A d v
 | _,d,v=>Pk K A H d v
def jL(K:aE)(A H:Hp):C0->B5->C1->Prop
 | [],ds,vs=>ds=[]/\vs=[]
 | f::fs,ds,vs=>∃d r v s,ds=d::r/\vs=v::s/\Gq K A H f d v/\jL K A H fs r s
def tAr(K:aE)(O:C0)(fs:C0)(ms:List ME):TA:=λσ H Q=>∃A B Γ ds,aQ K A B H O σ Γ/\evs ms Γ = .ok ds/\∀vs A' H',aO A H A' H'->jL K A' H' fs ds vs->Q vs H'
variable {ms:List ME}
section
variable      {fs:C0}  {es:C2}
theorem aH:QA X [] (tAi K O []):=QA.imp eO λY H Q U=>by
 obtain ⟨A,B,e,Z,r,em,k⟩:=U;cases em;exact k [] A H (aO.refl r.a) (au.nil.mpr rfl)
theorem aF(ha:QE X e (tE K O m))(x:QA X es (tAi K O ms))(hs:CO e=true:=by rfl):QA X (e::es) (tAi K O (m::ms)):=QA.imp (cC ha.h x.h (bM hs)) λC H Q U=>by
 obtain ⟨A,B,j,D,r,em,k⟩:=U;obtain ⟨d,o,em⟩:=Co.aq em;obtain ⟨Y,q,em⟩:=Co.aq em;cases em;exact ⟨A,B,j,d,r,o,λv l z Z p=>⟨l,B,j,Y,r.grow Z,q,λi y s g2 u=>k (v::i) y s (Z.trans g2) (au.cons.mpr ⟨v,i,rfl,Rp.mono g2.aa d p,u⟩)⟩⟩
theorem az:QA X [] (tAr K O [] []):=QA.imp eO λY H Q U=>by
 obtain ⟨A,B,e,Z,r,em,k⟩:=U;cases em;exact k [] A H (aO.refl r.a) ⟨rfl,rfl⟩
theorem d9(ha:QE X e (tE K O m))(x:QA X es (tAr K O fs ms))(hs:CO e=true:=by rfl):QA X (e::es) (tAr K O (.CD::fs) (m::ms)):=QA.imp (cC ha.h x.h (bM hs)) λC H Q Y=>by
 obtain ⟨A,B,j,D,r,em,k⟩:=Y;obtain ⟨d,o,em⟩:=Co.aq em;obtain ⟨U,q,em⟩:=Co.aq em;cases em;exact ⟨A,B,j,d,r,o,λv l z Z p=>⟨l,B,j,U,r.grow Z,q,λi y s g2 u=>k (v::i) y s (Z.trans g2) ⟨d,U,v,i,rfl,rfl,Rp.mono g2.aa d p,u⟩⟩⟩
theorem aY(ha:QE X e (tP K O m))(x:QA X es (tAr K O fs ms))(hs:CO e=true:=by rfl):QA X (e::es) (tAr K O (.CC::fs) (m::ms)):=QA.imp (cC ha.h x.h (bM hs)) λC H Q Y=>by
 obtain ⟨A,B,j,D,r,em,k⟩:=Y;obtain ⟨d,o,em⟩:=Co.aq em;obtain ⟨U,q,em⟩:=Co.aq em;cases em;exact ⟨A,B,j,d,r,o,λv l z Z p=>⟨l,B,j,U,r.grow Z,q,λi y s g2 u=>k (v::i) y s (Z.trans g2) ⟨d,U,v,i,rfl,rfl,p.mono g2.aa g2.hh,u⟩⟩⟩
noncomputable def bF(ms:List ME):ME:=λΓ=>(evs ms Γ).bind λds=>.ok (.tuple ds)
noncomputable def bI(ms:List ME):ME:=λΓ=>(evs ms Γ).bind λds=>.ok (.list ds)
theorem bh{x1}(h:QA X es (tAi K O ms))(l:ms.length<=be:=by first | decide | exact of_decide_eq_true rfl):QE X (.Tuple es x1 pos) (tE K O (bF ms)):=QE.imp (aam h.h) λv H Q U=>by
 obtain ⟨A,B,m,d,r,em,k⟩:=U;obtain ⟨j,Z,em⟩:=Co.aq em;cases em;refine ⟨A,B,m,j,r,Z,λi u s Y e=>⟨by rw[<- e.length,ph Z];exact l,λp q=>?_⟩⟩;have g:=aO.new (o:=.tup i) Y.ah q;exact k _ _ _ (Y.trans g) (Rp.tuple.mpr ⟨p,i,rfl,SqT.of bc,au.mono g.aa j e⟩)
theorem bA(h:QA X es (tAi K O ms))(m:ms.length<=be:=by first | decide | exact of_decide_eq_true rfl):QE X (.List es pos) (tF K O (bI ms)):=QE.imp (Z3 h.h) λu H Q U=>by
 obtain ⟨A,B,o,d,r,em,k⟩:=U;obtain ⟨j,e,em⟩:=Co.aq em;cases em;refine ⟨A,B,o,j,r,e,λl s q Y i=>⟨by rw[<- i.length,ph e];exact m,λp Z=>?_⟩⟩;exact k _ _ _ (Y.trans (aO.lay Y.ah Z)) ⟨p,_,rfl,Y.hh.free Z,bc,Y.ah.free Z,.inl ⟨j,l,rfl,rfl,i⟩⟩
noncomputable def rK:List (Str×ME)->ME
 | []=>λ_=>.ok (.dict [])
 | (x,m)::r=>λΓ=>(m Γ).bind λd=>(rK r Γ).bind λe=>match e with
  | .dict ds=>.ok (.dict ((.str x,d)::ds))
  | _=>.bad
theorem xj:QE X (.Dict [] [] pos) (tF K O (rK [])):=QE.imp Ug λZ H Q U=>by
 obtain ⟨A,B,e,d,r,em,k⟩:=U;cases em;intro p Y;exact k _ _ _ (aO.lay r.a Y) ⟨p,_,rfl,Y,bc,r.a.free Y,.inr ⟨_,_,rfl,rfl,aR.nil.mpr rfl⟩⟩
theorem abJ{Z:UnaryOp}{f:D1}{r:V->Hp->VK->Prop}(q:UnR X (unaryOp Z) r)(u:∀A H U d x (Q:VK),f U= .ok d->aA A H->Pk K A H U x->(∀v A' H',aO A H A' H'->Rp K A' d v->Q v H')->r x H Q)
 (ha:QE X e (tP K O m)):QE X (.UnaryOp Z e pos) (tE K O (eUn f m)):=QE.imp (ab3 q ha.h) λz H Q Y=>by
 obtain ⟨A,B,y,d,r,em,k⟩:=Y;obtain ⟨U,s,em⟩:=Co.aq em;exact ⟨A,B,y,U,r,s,λv l j i o=>u l j U d v Q em i.ah o λv A' H' g p=>k v A' H' (i.trans g) p⟩
noncomputable def eFn(f:B5->Co af)(ms:List ME):ME:=λΓ=>(evs ms Γ).bind f
def o5(K:aE)(A H:Hp)(ds:B5)(vs:C1):Prop:=jL K A H (ds.map λ_=>.CC) ds vs
def rC(K:aE)(f:B5->Co af):C1->Hp->VK->Prop:=λvs H Q=>∃A ds d,f ds= .ok d/\aA A H/\o5 K A H ds vs/\∀v A' H',aO A H A' H'->Rp K A' d v->Q v H'
def rCF(K:aE)(f:B5->Co af):C1->Hp->VK->Prop:=λvs H Q=>∃A ds d,f ds= .ok d/\aA A H/\o5 K A H ds vs/\∀v A' H',aO A H A' H'->sr K H A' H' d v->Q v H'
noncomputable def n7(ms:List ME):C0:=ms.map λ_=>.CC
theorem Qc(h:evs ms Γ = .ok ds):n7 ms=ds.map λ_=>.CC:=by
 have e:=ph h;rw[n7,List.map_const',List.map_const',e]
theorem V9{f:B5->Co af}{Q:VK}(h:tE K O (eFn f ms) σ H Q):tCB (rC K f) (tAr K O (n7 ms) ms) σ H Q:=by
 obtain ⟨A,B,l,d,r,em,k⟩:=h;obtain ⟨Z,Y,em⟩:=Co.aq em;refine ⟨A,B,l,Z,r,Y,λq e o U i=>⟨e,Z,d,em,U.ah,by rw[o5,<- Qc Y];exact i,λv j m g p=>k v j m (U.trans g) p⟩⟩
theorem Wg{f:B5->Co af}{Q:VK}(h:tF K O (eFn f ms) σ H Q):tCB (rCF K f) (tAr K O (n7 ms) ms) σ H Q:=by
 obtain ⟨A,B,m,d,r,em,k⟩:=h;obtain ⟨Z,Y,em⟩:=Co.aq em;refine ⟨A,B,m,Z,r,Y,λx i u U j=>⟨i,Z,d,em,U.ah,by rw[o5,<- Qc Y];exact j,λv l s g p=>k v l s (U.trans g) ?_⟩⟩;obtain ⟨q,o,e,h1,h2⟩:=p;exact ⟨q,o,e,U.hh.free h1,h2⟩
variable  {p:Pos}{id:String}{f:B5->Co af}
theorem aZ(i:eH X (.builtin id) (rC K f))(Y:Gl X x)(Z:X.mg x=none)(hv:fq x=some (.builtin id))(ha:QA X (e::es) (tAr K O (n7 ms) ms))(j:x ≠ "__name__" := by decide)(U:nD x:=by decide)
 (hs:CO e=true:=by rfl) (hpl:dF es=true:=by rfl):QE X (.Call (.Name x p) (e::es) [] pos) (tE K O (eFn f ms)):=QE.imp (yN i Y Z hv ha.h j U (bM hs) (ik hpl)) λ_ _ _=>V9
theorem Vq(i:eH X (.builtin id) (rCF K f))(Y:Gl X x)(Z:X.mg x=none)(hv:fq x=some (.builtin id))(ha:QA X (e::es) (tAr K O (n7 ms) ms))(j:x ≠ "__name__" := by decide)(U:nD x:=by decide)
 (hs:CO e=true:=by rfl) (hpl:dF es=true:=by rfl):QE X (.Call (.Name x p) (e::es) [] pos) (tF K O (eFn f ms)):=QE.imp (yN i Y Z hv ha.h j U (bM hs) (ik hpl)) λ_ _ _=>Wg
theorem lu(i:eH X (.type id) (rC K f))(Y:Gl X x)(Z:X.mg x=none)(hv:fq x=some (.type id))(ha:QA X (e::es) (tAr K O (n7 ms) ms))(j:x ≠ "__name__" := by decide)(U:nD x:=by decide)
 (hs:CO e=true:=by rfl) (hpl:dF es=true:=by rfl):QE X (.Call (.Name x p) (e::es) [] pos) (tE K O (eFn f ms)):=QE.imp (CJ i Y Z hv ha.h j U (bM hs) (ik hpl)) λ_ _ _=>V9
theorem n8(i:eH X (.type id) (rCF K f))(Y:Gl X x)(Z:X.mg x=none)(hv:fq x=some (.type id))(ha:QA X (e::es) (tAr K O (n7 ms) ms))(j:x ≠ "__name__" := by decide)(U:nD x:=by decide)
 (hs:CO e=true:=by rfl) (hpl:dF es=true:=by rfl):QE X (.Call (.Name x p) (e::es) [] pos) (tF K O (eFn f ms)):=QE.imp (CJ i Y Z hv ha.h j U (bM hs) (ik hpl)) λ_ _ _=>Wg
end
theorem o5.nil(h:o5 K A H [] vs):vs=[]:=h.2
theorem o5.cons{K:aE}{A H:Hp}{d:af}{U:B5}{Y:C1}(h:o5 K A H (d::U) Y):∃v r,Y=v::r/\Pk K A H d v/\o5 K A H U r:=by
 obtain ⟨i,j,v,s,Z,e,h1,h2⟩:=h;cases Z;exact ⟨v,s,e,h1,h2⟩
noncomputable def cQ:B5->Co af
 | [.list ds]=>.ok (.int ds.length)
 | [.tuple ds]=>.ok (.int ds.length)
 | [.str x]=>gd (x.length<=be) (.ok (.int x.length))
 | _=>.bad
noncomputable def uF:B5->Co af
 | [.list ds]=>.ok (.list ds)
 | [.tuple ds]=>.ok (.list ds)
 | _=>.bad
noncomputable def jM:B5->Co af
 | [.list ds]=>.ok (.tuple ds)
 | [.tuple ds]=>.ok (.tuple ds)
 | _=>.bad
theorem dN:eH X (.builtin "len") (rC X.K cQ):=by
 rintro U s j H y m Q I r ⟨A,q,d,e,ha,p,k⟩
 match q,e with
 | [.list es],e=>
  cases e;obtain ⟨v,o,rfl,Y,Z⟩:=p.cons;obtain rfl:=Z.nil;obtain ⟨l,i,rfl,h1,q1⟩:=Y.list ha;exact vM U s j H _ m Q I r ⟨l,i,rfl,.inl h1,by rw[<- q1.length];exact k _ A H (aO.refl ha) (Rp.int.mpr rfl)⟩
 | [.tuple es],e=>
  cases e;obtain ⟨v,o,rfl,Y,Z⟩:=p.cons;obtain rfl:=Z.nil;obtain ⟨l,i,rfl,h1,q1⟩:=Y.tuple ha;exact vM U s j H _ m Q I r ⟨l,i,rfl,.inr h1,by rw[<- q1.length];exact k _ A H (aO.refl ha) (Rp.int.mpr rfl)⟩
 | [.str x],e=>
  obtain ⟨u,e⟩:=bZ e;cases e;obtain ⟨v,o,rfl,Y,Z⟩:=p.cons;obtain rfl:=Z.nil;exact GD U s j H _ m Q I r ⟨x,by rw[Y.str],u,k _ A H (aO.refl ha) (Rp.int.mpr rfl)⟩
theorem By:eH X (.type "list") (rCF X.K uF):=by
 rintro U s m H y o Q I r ⟨A,x,d,e,ha,p,k⟩
 match x,e with
 | [.list es],e=>
  cases e;obtain ⟨v,u,rfl,Z,i⟩:=p.cons;obtain rfl:=i.nil;obtain ⟨l,j,rfl,h1,q1⟩:=Z.list ha;exact vY U s m H _ o Q I r ⟨l,j,rfl,.inl h1,λq Y=>k _ A _ (aO.lay ha Y) ⟨q,_,rfl,Y,bc,ha.free Y,.inl ⟨_,_,rfl,rfl,q1⟩⟩⟩
 | [.tuple es],e=>
  cases e;obtain ⟨v,u,rfl,Z,i⟩:=p.cons;obtain rfl:=i.nil;obtain ⟨l,j,rfl,h1,q1⟩:=Z.tuple ha;exact vY U s m H _ o Q I r ⟨l,j,rfl,.inr h1,λq Y=>k _ A _ (aO.lay ha Y) ⟨q,_,rfl,Y,bc,ha.free Y,.inl ⟨_,_,rfl,rfl,q1⟩⟩⟩
theorem mW:eH X (.type "tuple") (rC X.K jM):=by
 rintro U s m H C u Q I r ⟨A,B,d,e,ha,p,k⟩
 match B,e with
 | [.list es],e=>
  cases e;obtain ⟨v,x,rfl,Z,i⟩:=p.cons;obtain rfl:=i.nil;obtain ⟨l,Y,rfl,h1,q1⟩:=Z.list ha;exact u9 U s m H _ u Q I r ⟨l,Y,rfl,.inl ⟨h1,λq y=>by
   have g:=aO.new (o:=.tup Y) ha y;exact k _ _ _ g (Rp.tuple.mpr ⟨q,Y,rfl,SqT.of bc,au.mono g.aa _ q1⟩)⟩⟩
 | [.tuple es],e=>
  cases e;obtain ⟨v,x,rfl,Z,i⟩:=p.cons;obtain rfl:=i.nil;have j:=Z.j8 (λ_ z=>nomatch z) (λ_ z=>nomatch z);obtain ⟨l,Y,rfl,h1,q1⟩:=Z.tuple ha;exact u9 U s m H _ u Q I r ⟨l,Y,rfl,.inr ⟨h1,k _ A H (aO.refl ha) j⟩⟩
noncomputable def tyN:af->String
 | .none => "NoneType"
 | .bool _ => "bool"
 | .int _ => "int"
 | .str _ => "str"
 | .list _ => "list"
 | .tuple _ => "tuple"
 | .dict _ => "dict"
noncomputable def uP(T:String)(d:af):Bool:=tyN d == T||(T == "int" && tyN d == "bool")
noncomputable def vR(T:String)(a:ME):ME:=λΓ=>(a Γ).bind λd=>.ok (.bool (uP T d))
variable {T:String}
theorem G5(t:String):qr K (.type t) (.type t)=some true:=by rw[qr,if_pos (by simp)]
theorem QV{t:String}{b:Bool}(U:(iN t == iN T)=false)(h:(if PySem.W.kitMeta T=true then (fastBuiltinMro t).map (·.contains (iN T)) else none)=some b):qr K (.type t) (.type T)=some b:=by
 unfold qr PySem.W.kitCls;rw[if_neg (by rw[U];exact iO)];exact h
def Hb(K:aE)(T:String):Prop:=∀d:af,qr K (.type (tyN d)) (.type T)=some (uP T d)
theorem QQ(h:∀t∈["NoneType", "bool", "int", "str", "list", "tuple", "dict"],qr K (.type t) (.type T)=some (t == T||(T == "int" && t == "bool"))):Hb K T:=λd=>h (tyN d) (by cases d <;> simp[tyN])
theorem Ye:Hb K "int" := QQ λt h=>by
 simp only[bq,List.not_mem_nil,or_false] at h;rcases h with rfl | rfl | rfl | rfl | rfl | rfl | rfl <;> first | exact (G5 _).trans (by decide +kernel) | exact QV (by decide +kernel) (by decide +kernel)
theorem O4:Hb K "tuple" := QQ λt h=>by
 simp only[bq,List.not_mem_nil,or_false] at h;rcases h with rfl | rfl | rfl | rfl | rfl | rfl | rfl <;> first | exact (G5 _).trans (by decide +kernel) | exact QV (by decide +kernel) (by decide +kernel)
section
variable    {a b:Expr}{p:Pos}
def acs(K:aE)(T:String):C1->Hp->VK->Prop:=λxs H Q=>∃x A d,xs=[x,.ty T]/\aA A H/\Pk K A H d x/\Q (.bl (uP T d)) H
theorem aaM(hT:Hb X.K T):eH X (.builtin "isinstance") (acs X.K T):=by
 rintro j s D H J L Q I r ⟨x,A,d,rfl,ha,Y,q⟩;obtain ⟨u,c,rfl,U,E⟩:=CA.two r;cases E;have fin:∀p,EP X j D Q (.bool (uP T d)) { s with toks:=p }:=λp=>⟨.bl _,H,I.tok p,rfl,q⟩;have e:=hT d
 cases d with
 | none=>rw[Y.none] at U;cases U;exact nk PySem.W.kitx_none I.kIn qq e (λz=>nomatch z) fin
 | bool y=>rw[Y.bool] at U;cases U;exact nk PySem.W.kitx_bool I.kIn qq e (λz=>nomatch z) fin
 | int i=>rw[Y.int] at U;obtain ⟨t,rfl⟩:=U;exact nk PySem.W.kitx_int I.kIn qq e (λz=>nomatch z) fin
 | str y=>rw[Y.str] at U;obtain ⟨t,rfl⟩:=U;exact nk PySem.W.kitx_str I.kIn qq e (λz=>nomatch z) fin
 | list B=>
  obtain ⟨l,vs,rfl,h1,q1⟩:=Y.list ha;cases U;obtain ⟨v,_,C,_⟩:=I.list h1;obtain ⟨o,h2,m,_⟩:=C.isList;exact nk PySem.W.kitx_list I.kIn ⟨o,h2,m⟩ e (λz=>nomatch z) fin
 | tuple B=>
  obtain ⟨l,vs,rfl,h1,q1⟩:=Y.tuple ha;cases U;obtain ⟨v,_,⟨o,h2,m,_⟩,_⟩:=I.tuple h1;exact nk PySem.W.kitx_tuple I.kIn ⟨o,h2,m⟩ e (λz=>nomatch z) fin
 | dict B=>
  obtain ⟨l,Z,rfl,h1,_⟩:=Y.dict ha;cases U;obtain ⟨_,_,vs,_,hd⟩:Z.length<=be/\(l == ke)=false/\∃vs,KV Z vs/\s.heap.DictOf (bu X.prog X.w) l vs:=m9 I.CH h1;obtain ⟨o,_,_,h2,m,_⟩:=hd;exact nk PySem.W.kitx_dict I.kIn ⟨o,h2,m.1⟩ e (λz=>nomatch z) fin
theorem Rh(hT:Hb X.K T)(i:Gl X "isinstance")(q:X.mg "isinstance"= none)(ha:QE X a (tP X.K O m))(u:PE X b (tC (.ty T)))
 (h1:dk (a::[b]) X.env=(false,eval a X.env)::dk [b] X.env:=by rfl) (h2:dk [b] X.env=(false,eval b X.env)::dk [] X.env:=by rfl) (hpl:(nS pos (dk [b] X.env)).any (·.1)=false:=by rfl) :
 QE X (.Call (.Name "isinstance" p) [a,b] [] pos) (tE X.K O (vR T m)):=
 QE.imp (yN (aaM hT) i q (show fq "isinstance"= some (.builtin "isinstance") by decide +kernel) (cC ha.h (cC u eO h2) h1) (by decide) (by decide) h1 hpl) λx H Q U=>by
  obtain ⟨A,B,s,d,r,em,k⟩:=U;obtain ⟨e,o,em⟩:=Co.aq em;cases em;exact ⟨A,B,s,e,r,o,λv Z j Y l=>⟨v,Z,e,rfl,Y.ah,l,k _ Z j Y (Rp.bool.mpr rfl)⟩⟩
theorem Wk(U:Gl X x)(Y:X.mg x=none)(hv:fq x=some (.type T))(Z:x ≠ "__name__" := by decide)(hd:nD x:=by decide):PE X (.Name x pos) (tC (.ty T)):=
 X3 U Y hv rfl Z hd
end
noncomputable def cutD(xs:B5)(lo hi:C4):B5:=(xs.drop (HT.sIx xs.length 0 lo)).take (HT.sIx xs.length xs.length hi - HT.sIx xs.length 0 lo)
def MO:=Ev->Co C4
noncomputable def nH:MO:=λ_=>.ok none
noncomputable def nG(m:ME):MO:=λΓ=>(m Γ).bind λd=>match d with
 | .int i=>.ok (some i)
 | _=>.bad
noncomputable def slD:af->C4->C4->Co af
 | .list ds,lo,hi=>.ok (.list (cutD ds lo hi))
 | .tuple ds,lo,hi=>.ok (.tuple (cutD ds lo hi))
 | _,_,_=>.bad
noncomputable def eSl(a:ME)(lo hi:MO):ME:=λΓ=>(a Γ).bind λd=>(lo Γ).bind λl=>(hi Γ).bind λh=>slD d l h
def tO(K:aE)(O:C0)(m:MO):TO:=λσ H Q=>∃A B Γ o,aQ K A B H O σ Γ/\m Γ = .ok o/\∀A' H',aO A H A' H'->Q o H'
theorem PO.imp{e:Option Expr}{t t':TO}(h:PO X e t)(i:∀σ H Q,t' σ H Q->t σ H Q):PO X e t':=λU s σ H Q I q=>h U s σ H Q I (i σ H Q q)
theorem QO.imp{e:Option Expr}{t t':TO}(h:PO X e t)(i:∀σ H Q,t' σ H Q->t σ H Q):QO X e t':=⟨PO.imp h i⟩
variable {prog:fF}{w:kn}{E Q:B3}{s:a8}{items:Array a0}
section
variable    {lo hi:Option Expr}{ml mh:MO}{a:Expr}{p p2:Pos}
theorem xH:QO X none (tO X.K O nH):=QO.imp Xu λY H Q U=>by obtain ⟨A,B,Z,o,r,em,k⟩:=U;cases em;exact k A H (aO.refl r.a)
theorem xV(h:QE X e (tP X.K O m)):QO X (some e) (tO X.K O (nG m)):=QO.imp (X5 h.h) λs H Q U=>by
 obtain ⟨A,B,q,o,r,em,k⟩:=U;obtain ⟨d,j,em⟩:=Co.aq em
 cases d with
 | int i=>cases em;exact ⟨A,B,q,_,r,j,λv l Y Z p=>⟨i,p.int,k l Y Z⟩⟩
 | _=>cases em
section
variable   {A:eK}
open HT in
theorem xX{t sl:Addr}{vl vu:a0}{lo hi:C4}(ht:w9 s.heap t items)(hs:s.heap.IsSliceOf sl vl vu .none)(pl:AL vl lo)(pu:AL vu hi)
 (hw:sIx items.size 0 lo=0/\sIx items.size items.size hi=items.size) (h:Q (.ref t) s):cf (bX prog w) A (wm (.ref t) (.ref sl)) Q E s:=by
 obtain ⟨os,hos,hcs,hds⟩:=id hs;have hTs:s.TypeIs (.ref sl) "slice" := ⟨os,hos,hcs⟩;unfold wm
 try with_reducible refine ft ?_
 first | refine ae (ar ?_) | skip
 refine ae (wpAny_sequenceKey ht.typeIs (by decide) ?_);refine ae (gE ht.typeIs fk
  (eT fk ht.typeIs entry_tuple_getitem ?_ (args_tuple_getitem _ _)))
 show cf _ _ (Builtin.Tuple.tupleItemsOf (.ref t) >>= _) _ _ s;refine ae (tupleItemsOf_ ht (ae (oB hTs ?_)));rw[if_pos (by decide)];refine ae (qg hs pl pu ?_);show cf _ _ (if (((sIx items.size 0 lo:Nat):Int) == 0&&(1:Int) == 1&&(sIx items.size items.size hi - sIx items.size 0 lo) == items.size)=true then _ else _) _ _ s;rw[hw.1,hw.2,if_pos (by simp)];refine ae (ae (oB ht.typeIs (ar ?_)));rw[if_pos (by decide)];exact ae (ki (ar ⟨_,rfl,ar h⟩))
end
def abf(K:aE):V->C4->C4->Hp->VK->Prop:=λx lo hi H Q=>∃a xs,x= .ref a/\SqT K H a xs /\
 (HT.sIx xs.length 0 lo=0/\HT.sIx xs.length xs.length hi=xs.length)/\Q (.ref a) H
theorem WX:SlR X (abf X.K):=by
 rintro e s B H x v z u lo hi y Q I j p o l ⟨a,i,rfl,hx,m,q⟩;cases j;obtain ⟨Y,r,Z,hz⟩:=I.tuple hx;have U:Y.toArray.size=i.length:=by rw[br];exact r.length.symm
 refine ⟨"tuple",_,fk.lookup,Z.typeIs,?_⟩;exact xX Z p o l (by rw[U];exact m) ⟨.ref a,H,I,rfl,q⟩
theorem RC{lo hi:C4}(h:HT.sIx ds.length 0 lo=0/\HT.sIx ds.length ds.length hi=ds.length):cutD ds lo hi=ds:=by
 rw[cutD,h.1,h.2,xk,Nat.sub_zero,e8]
def acM(K:aE):V->C4->C4->Hp->VK->Prop:=λx lo hi H Q=>aaT K x lo hi H Q\/ZZ K x lo hi H Q\/abf K x lo hi H Q
theorem acZ:SlR X (acM X.K):=by
 intro U s m H x v i Y lo hi Z Q I e o l j h;rcases h with h | h | h
 . exact Xn U s m H x v i Y lo hi Z Q I e o l j h
 . exact aaJ U s m H x v i Y lo hi Z Q I e o l j h
 . exact WX U s m H x v i Y lo hi Z Q I e o l j h
theorem au.cut(h:au K A ds vs)(lo hi:C4):au K A (cutD ds lo hi) (vD vs lo hi):=by
 unfold cutD vD;rw[<- h.length];exact (h.drop _).take _
theorem Em(ha:QE X a (tP X.K O m))(C:QO X lo (tO X.K O ml))(hh:QO X hi (tO X.K O mh)):QE X (.Subscript a (.Slice lo hi none p2) pos) (tE X.K O (eSl m ml mh)):=QE.imp (TV acZ ha.h C.h hh.h) λS H Q e=>by
 obtain ⟨A,B,i,d,r,em,k⟩:=e;obtain ⟨x,I,em⟩:=Co.aq em;obtain ⟨l,y,em⟩:=Co.aq em;obtain ⟨h,E,em⟩:=Co.aq em;refine ⟨A,B,i,x,r,I,λv J M p L=>⟨J,B,i,l,r.grow p,y,λD P g2=>⟨D,B,i,h,(r.grow p).grow g2,E,λR H3 g3=>?_⟩⟩⟩;have g:=(p.trans g2).trans g3;have s:=L.mono (g2.trans g3).aa (g2.trans g3).hh
 cases x with
 | list Y=>
  cases em;obtain ⟨q,U,rfl,h1,q1⟩:=s.list g3.ah;refine .inl ⟨q,U,rfl,h1,λt j=>?_⟩;have Z:=aO.new (o:=.lst (vD U l h)) g3.ah j;exact k _ _ _ (g.trans Z) (Rp.list.mpr ⟨t,_,rfl,SqL.of bc,au.mono Z.aa _ (q1.cut l h)⟩)
 | tuple Y=>
  cases em;have rp:=s.j8 (λ_ z=>nomatch z) (λ_ z=>nomatch z);obtain ⟨q,U,rfl,h1,q1⟩:=s.tuple g3.ah
  by_cases u:HT.sIx Y.length 0 l=0/\HT.sIx Y.length Y.length h=Y.length
  . refine .inr (.inr ⟨q,U,rfl,h1,by rw[<- q1.length];exact u,?_⟩);rw[RC u] at k;exact k _ _ _ g rp
  refine .inr (.inl ⟨q,U,rfl,h1,by rw[<- q1.length];exact u,λt j=>?_⟩);have Z:=aO.new (o:=.tup (vD U l h)) g3.ah j;exact k _ _ _ (g.trans Z) (Rp.tuple.mpr ⟨t,_,rfl,SqT.of bc,au.mono Z.aa _ (q1.cut l h)⟩)
 | _=>cases em
end
theorem bK{U:Type}{l:List U}{x d:U}(h:i<l.length):(l.set i x).getD i d=x:=by
 rw[ay,hF h];rfl
variable {j:Nat}
theorem aM{U:Type}{l:List U}{x d:U}(h:i≠j):(l.set i x).getD j d=l.getD j d:=by
 rw[ay,ay,nv h]
variable {p:Addr}{B:Hp}
theorem aQ.set(r:aQ K A B H O σ Γ)(hi:i < Γ.length)(U:i<O.length)(p:Rp K A d v):aQ K A B H (O.set i .CD) (σ.set i (some v)) (Γ.set i (some d)):=by
 have m:i < σ.length:=by rw[<- r.len];exact hi
 refine ⟨r.a,r.b,by rw[fm,fm];exact r.len,λj=>?_,λj k Z h1 h2 Y l=>?_⟩
 . by_cases hj:i=j
   . subst hj;unfold fl gv sv;rw[bK U,bK hi,bK m];exact λo e=>⟨v,rfl,by cases e;exact p⟩
   . unfold fl gv sv;rw[aM hj,aM hj,aM hj];exact r.slot j
 . have hj:i≠j:=λz=>by subst z;unfold fl at h1;rw[bK U] at h1;cases h1
   have hk:i≠k:=λz=>by subst z;unfold fl at h2;rw[bK U] at h2;cases h2
   unfold fl at h1 h2;unfold gv at Y l;rw[aM hj] at h1 Y;rw[aM hk] at h2 l;unfold sv;rw[aM hj,aM hk];exact r.sep j k Z h1 h2 Y l
theorem aQ.adg{o:HO}(r:aQ K A B H O σ Γ)(hi:i < Γ.length)(l:i<O.length)(h1:H p=some o)(h2:A p=none)(q:B p=none)(m:g8 K A d o)
 (Z:∀j,isO (fl O j)=true->gv Γ j≠none->sv σ j≠some (.ref p)):aQ K A B H (O.set i .own) (σ.set i (some (.ref p))) (Γ.set i (some d)):=by
 have Y:i < σ.length:=by rw[<- r.len];exact hi
 refine ⟨r.a,r.b,by rw[fm,fm];exact r.len,λj=>?_,λj k U q1 q2 q3 q4=>?_⟩
 . by_cases hj:i=j
   . subst hj;unfold fl gv sv;rw[bK l,bK hi,bK Y];exact λs e=>⟨_,rfl,by cases e;exact ⟨p,o,rfl,h1,h2,q,m⟩⟩
   . unfold fl gv sv;rw[aM hj,aM hj,aM hj];exact r.slot j
 . unfold fl at q1 q2;unfold gv at q3 q4;unfold sv
   by_cases hj:i=j
   . subst hj;have hk:=U;rw[aM hk] at q2 q4;rw[bK Y,aM hk];exact λz=>Z k q2 q4 z.symm
   . rw[aM hj] at q1 q3;rw[aM hj]
     by_cases hk:i=k
     . subst hk;rw[bK Y];exact Z j q1 q3
     . rw[aM hk] at q2 q4;rw[aM hk];exact r.sep j k U q1 q2 q3 q4
theorem aQ.pP(r:aQ K A B H O σ Γ)(h1:isO (fl O j)=true)(h2:gv Γ j≠none):∃d p o,gv Γ j=some d/\sv σ j=some (.ref p)/\H p=some o/\A p=none/\B p=none/\g8 K A d o:=by
 cases e:gv Γ j with
 | none=>exact absurd e h2
 | some d=>
  obtain ⟨v,Y,q⟩:=r.slot j d e
  cases U:fl O j with
  | CD=>rw[U] at h1;cases h1
  | CC=>rw[U] at h1;cases h1
  | own=>
   rw[U] at q;obtain ⟨p,o,rfl,q⟩:=q;exact ⟨d,p,o,rfl,Y,q⟩
  | fix Z=>
   rw[U] at q;obtain ⟨_,p,o,rfl,q⟩:=q;exact ⟨d,p,o,rfl,Y,q⟩
  | exc C=>rw[U] at h1;cases h1
  | nst b=>rw[U] at h1;cases h1
  | kit=>rw[U] at h1;cases h1
theorem aQ.fresh(r:aQ K A B H O σ Γ)(g:aO A H A' H'){o:HO}(hi:i < Γ.length)(Y:i<O.length)(h0:H p=none)(h1:H' p=some o)(h2:A' p=none)(e:g8 K A' d o) :
 aQ K A' B H' (O.set i .own) (σ.set i (some (.ref p))) (Γ.set i (some d)):=by
 refine (r.grow g).adg hi Y h1 h2 (r.b.free h0) e λj q1 q2 z=>?_;obtain ⟨m,p',q,l,Z,U,_⟩:=r.pP q1 q2;rw[Z] at z;cases z;rw[h0] at U;cases U
theorem aQ.freeze(r:aQ K A B H O σ Γ)(hi:fl O i= .own)(R:i<O.length):∃A',aA A A'/\New A A' B/\aQ K A' B H (O.set i .CD) σ Γ:=by
 by_cases x:gv Γ i=none
 . refine ⟨A,aA.refl _,λ_ h _=>h,r.a,r.b,r.len,λj=>?_,λj k v h1 h2 I E=>?_⟩
   . by_cases hj:i=j
     . subst hj;intro d e;rw[x] at e;cases e
     . rw[fl,aM hj];exact r.slot j
   . have hj:i≠j:=λz=>by subst z;exact I x
     have hk:i≠k:=λz=>by subst z;exact E x
     unfold fl at h1 h2;rw[aM hj] at h1;rw[aM hk] at h2;exact r.sep j k v h1 h2 I E
 . have l:isO (fl O i)=true:=by rw[hi];rfl
   obtain ⟨d,p,o,e1,J,h1,h2,I,E⟩:=r.pP l x;have s:=aA.new h2 o;refine ⟨CB A p o,s,λq n1 n2=>?_,λb u q=>?_,r.b,r.len,λj=>?_,λj k v q1 q2 q3 q4=>?_⟩
   . have hq:q≠p:=λz=>n2 (z ▸ I);rw[aL hq];exact n1
   . by_cases hb:b=p
     . subst hb;rw[bc] at q;rw[h1];exact q
     . rw[aL hb] at q;exact r.a b u q
   . by_cases hj:i=j
     . subst hj;rw[fl,bK R];intro d' y;rw[e1] at y;cases y;refine ⟨_,J,?_⟩;exact E.share s
     . rw[fl,aM hj];intro d' y;obtain ⟨v',m,q⟩:=r.slot j d' y;refine ⟨v',m,?_⟩
       cases U:fl O j with
       | CD=>rw[U] at q;unfold fl at U;rw[U];exact Rp.mono s d' q
       | CC=>rw[U] at q;unfold fl at U;rw[U];exact Pk.mono s (aA.refl _) q
       | own=>
        rw[U] at q;have Z:=U;unfold fl at U;rw[U];obtain ⟨p',L,rfl,S,g2,g3,g4⟩:=q;refine ⟨p',L,rfl,S,?_,g3,g4.mono s⟩;have Y:p'≠p:=λz=>by
         refine r.sep i j hj l (by rw[Z];rfl) x (by rw[y];simp) ?_;rw[J,m,z]
        rw[aL Y];exact g2
       | fix p0=>
        rw[U] at q;have Z:=U;unfold fl at U;rw[U];obtain ⟨q0,p',L,rfl,S,g2,g3,g4⟩:=q;refine ⟨q0,p',L,rfl,S,?_,g3,g4.mono s⟩;have Y:p'≠p:=λz=>by
         refine r.sep i j hj l (by rw[Z];rfl) x (by rw[y];simp) ?_;rw[J,m,z]
        rw[aL Y];exact g2
       | kit=>rw[U] at q;unfold fl at U;rw[U];exact wz.mono s q
       | exc C=>
        rw[U] at q;unfold fl at U;rw[U];obtain ⟨p',ob,P,Q,D⟩:=q;exact ⟨p',ob,P,s _ _ Q,D⟩
       | nst b=>
        rw[U] at q;unfold fl at U;rw[U];intro z;obtain ⟨p',xs,M,P,Q,D,w4,w5,w6⟩:=q z;refine ⟨p',xs,M,P,Q,D,?_,w5,w6.mono s⟩;have Y:p'≠p:=λz=>by subst z;rw[h1] at D;exact E.nx D
        rw[aL Y];exact w4
   . have hj:i≠j:=λz=>by subst z;unfold fl at q1;rw[bK R] at q1;cases q1
     have hk:i≠k:=λz=>by subst z;unfold fl at q2;rw[bK R] at q2;cases q2
     unfold fl at q1 q2;rw[aM hj] at q1;rw[aM hk] at q2;exact r.sep j k v q1 q2 q3 q4
theorem aQ.change{o o':HO}{S:af}(r:aQ K A B H O σ Γ)(hi:isO (fl O i)=true)(hl:i < Γ.length)(m:gv Γ i≠none)(hs:sv σ i=some (.ref p))(h1:H p=some o)(R:g8 K A S o') :
 aQ K A B (CB H p o') O σ (Γ.set i (some S)):=by
 obtain ⟨d,p',o0,e1,P,g1,g2,g3,g4⟩:=r.pP hi m;rw[hs] at P;cases P;refine ⟨λb u q=>?_,λb u q=>?_,by rw[fm];exact r.len,λj=>?_,λj k L q1 q2 q3 q4=>?_⟩
 . have M:b≠p:=λz=>by rw[z,g2] at q;cases q
   rw[aL M];exact r.a b u q
 . have M:b≠p:=λz=>by rw[z,g3] at q;cases q
   rw[aL M];exact r.b b u q
 . by_cases hj:i=j
   . subst hj;rw[gv,bK hl];intro s e;cases e;refine ⟨_,hs,?_⟩
     cases U:fl O i with
     | CD=>rw[U] at hi;cases hi
     | CC=>rw[U] at hi;cases hi
     | own=>exact ⟨p,o',rfl,bc,g2,g3,R⟩
     | fix p0=>
      obtain ⟨Q,l,q⟩:=r.slot i d e1;rw[U] at q;rw[hs] at l;cases l;exact ⟨q.1,p,o',rfl,bc,g2,g3,R⟩
     | exc C=>rw[U] at hi;cases hi
     | nst b=>rw[U] at hi;cases hi
     | kit=>rw[U] at hi;cases hi
   . rw[gv,aM hj];intro s Z;obtain ⟨Q,l,q⟩:=r.slot j s Z;refine ⟨Q,l,?_⟩
     cases U:fl O j with
     | CD=>rwa [U] at q
     | CC=>rwa [U] at q
     | own=>
      rw[U] at q;obtain ⟨p',o',rfl,D,I,x,y⟩:=q;refine ⟨p',o',rfl,?_,I,x,y⟩;have Y:p'≠p:=λz=>by
       refine r.sep i j hj hi (by rw[U];rfl) m (by rw[gv,Z];simp) ?_;rw[hs,l,z]
      rw[aL Y];exact D
     | fix p0=>
      rw[U] at q;obtain ⟨q0,p',o',rfl,D,I,x,y⟩:=q;refine ⟨q0,p',o',rfl,?_,I,x,y⟩;have Y:p'≠p:=λz=>by
       refine r.sep i j hj hi (by rw[U];rfl) m (by rw[gv,Z];simp) ?_;rw[hs,l,z]
      rw[aL Y];exact D
     | kit=>rwa [U] at q
     | exc C=>rwa [U] at q
     | nst b=>
      rw[U] at q;intro z;obtain ⟨p',xs,E,w1,w2,v,w4,w5,w6⟩:=q z;have Y:p'≠p:=λz=>by subst z;rw[g1] at v;exact g4.nx v
      exact ⟨p',xs,E,w1,w2,by rw[aL Y];exact v,w4,w5,w6⟩
 . have h3:gv Γ j≠none:=by
    by_cases hj:i=j
    . subst hj;exact m
    . unfold gv at q3 ⊢;rwa [aM hj] at q3
   have J:gv Γ k≠none:=by
    by_cases hk:i=k
    . subst hk;exact m
    . unfold gv at q4 ⊢;rwa [aM hk] at q4
   exact r.sep j k L q1 q2 h3 J
theorem aQ.weak{Γ':Ev}(r:aQ K A B H O σ Γ)(Z:Γ'.length=Γ.length)(h:∀j,gv Γ' j=none\/gv Γ' j=gv Γ j):aQ K A B H O σ Γ':=by
 have Y:∀j,gv Γ' j≠none->gv Γ j≠none:=λj n=>by
  rcases h j with z | z
  . exact absurd z n
  . rw[<- z];exact n
 refine ⟨r.a,r.b,Z.trans r.len,λj d e=>?_,λj k U q1 q2 q3 q4=>r.sep j k U q1 q2 (Y j q3) (Y k q4)⟩;rcases h j with z | z
 . rw[z] at e;cases e
 . rw[z] at e;exact r.slot j d e
noncomputable def clr(l:B6)(Γ:Ev):Ev:=l.foldl (λΓ i=>Γ.set i none) Γ
theorem zy:∀(l:B6) (Γ:Ev),(clr l Γ).length=Γ.length/\∀j,gv (clr l Γ) j=none\/gv (clr l Γ) j=gv Γ j
 | [],Γ=>⟨rfl,λ_=>.inr rfl⟩
 | i::l,Γ=>by
  obtain ⟨h1,h2⟩:=zy l (Γ.set i none);refine ⟨h1.trans (fm ..),λj=>?_⟩;rcases h2 j with z | z
  . exact .inl z
  . by_cases hj:i=j
    . subst hj;left;show gv (clr l (Γ.set i none)) i=none;rw[z];rw[gv,ay]
      by_cases hi:i < Γ.length
      . rw[hF hi];rfl
      . rw[dr (by rw[fm];lia)];rfl
    . right;show gv (clr l (Γ.set i none)) j=gv Γ j;rw[z];exact aM hj
theorem aQ.clr(r:aQ K A B H O σ Γ)(l:B6):aQ K A B H O σ (Zq.clr l Γ):=r.weak (zy l Γ).1 (zy l Γ).2
inductive Rm where
 | f | t | m (p:Addr)
def Y0(K:aE)(rm:Rm)(B A' H':Hp)(d:af)(v:V):Prop:=match rm with
 | .f=>Rp K A' d v
 | .t=>sr K B A' H' d v
 | .m p=>∃d1 dm o,d= .tuple [d1,dm]/\Rp K A' d1 v/\H' p=some o/\A' p=none/\g8 K A' dm o
def nj(K:aE)(rm:Rm)(Ol O':C0)(A B:Hp)(D:Ends):Out->Prop
 | .nx Γ'=>∀σ' A' H',aQ K A' B H' O' σ' Γ'->aA A A'->New A A' B->D.nx σ' H'
 | .bk Γ'=>∀σ' A' H',aQ K A' B H' Ol σ' Γ'->aA A A'->New A A' B->D.bk σ' H'
 | .ct Γ'=>∀σ' A' H',aQ K A' B H' Ol σ' Γ'->aA A A'->New A A' B->D.ct σ' H'
 | .rt d=>∀v A' H',aA A' H'->aA B H'->aA A A'->New A A' B->Y0 K rm B A' H' d v->D.rt v H'
def tS(K:aE)(rm:Rm)(Ol O O':C0)(m:MS):TS:=λD σ H=>∃A B Γ o,aQ K A B H O σ Γ/\m Γ = .ok o/\nj K rm Ol O' A B D o
variable {rm:Rm}{Ol O':C0}
section
variable    {A1 H1:Hp}{D:Ends}{o:Out}
theorem nj.sub(e:aA A A1)(nw:New A A1 B)(h:nj K rm Ol O' A B D o):nj K rm Ol O' A1 B D o:=by
 cases o with
 | nx i=>exact λU Y Z r s n=>h U Y Z r (e.trans s) (nw.trans n)
 | bk i=>exact λU Y Z r s n=>h U Y Z r (e.trans s) (nw.trans n)
 | ct i=>exact λU Y Z r s n=>h U Y Z r (e.trans s) (nw.trans n)
 | rt d=>exact λv Y Z s1 j s n=>h v Y Z s1 j (e.trans s) (nw.trans n)
theorem aO.nB(g:aO A H A1 H1)(b:aA B H):New A A1 B:=g.nw.mono b
end
noncomputable def cR:MS:=λΓ=>.ok (.nx Γ)
noncomputable def aG(a b:MS):MS:=λΓ=>(a Γ).bind λo=>match o with
 | .nx Γ'=>b Γ'
 | .rt d=>.ok (.rt d)
 | .bk Γ'=>.ok (.bk Γ')
 | .ct Γ'=>.ok (.ct Γ')
noncomputable def aN(i:Nat)(m:ME):MS:=λΓ=>(m Γ).bind λd=>gd (i < Γ.length) (.ok (.nx (Γ.set i (some d))))
noncomputable def sIf(c:ME)(a b:MS):MS:=λΓ=>(c Γ).bind λx=>match x with
 | .bool true=>a Γ
 | .bool false=>b Γ
 | _=>.bad
noncomputable def bD(m:ME):MS:=λΓ=>(m Γ).bind λd=>.ok (.rt d)
noncomputable def sEx(m:ME):MS:=λΓ=>(m Γ).bind λ_=>.ok (.nx Γ)
noncomputable def jP:MS:=λ_=>.bad
variable {O1 O2:C0}{te:TE}{pos':Pos}
section
variable      {m1 m2:MS}  {st:Stmt}{rest a b:C6}
theorem cL:QSs X [] (tS K rm Ol O O cR):=QSs.imp XM λD Y H U=>by
 obtain ⟨A,B,Z,o,r,em,k⟩:=U;cases em;exact k Y A H r (aA.refl _) λ_ h _=>h
theorem cz(h1:QS X st (tS K rm Ol O O1 m1))(h2:QSs X rest (tS K rm Ol O1 O2 m2)):QSs X (st::rest) (tS K rm Ol O O2 (aG m1 m2)):=QSs.imp (yU h1.h h2.h) λD q H U=>by
 obtain ⟨A,B,Z,o,r,em,k⟩:=U;obtain ⟨l,Y,em⟩:=Co.aq em
 cases l with
 | nx e=>exact ⟨A,B,Z,_,r,Y,λi m s j p nw=>⟨m,B,e,o,j,em,k.sub p nw⟩⟩
 | rt d=>cases em;exact ⟨A,B,Z,_,r,Y,k⟩
 | bk d=>cases em;exact ⟨A,B,Z,_,r,Y,k⟩
 | ct d=>cases em;exact ⟨A,B,Z,_,r,Y,k⟩
theorem aB(h1:QS X st (tS K rm Ol O O1 m1)):QSs X [st] (tS K rm Ol O O1 m1):=⟨J9 h1.h⟩
theorem Oj(i:Nat)(h:QS X st (tS K rm Ol O2 O' m1))(Y:O.set i .CD=O2:=by rfl)(hi:fl O i= .own:=by rfl)(e:i<O.length:=by exact of_decide_eq_true rfl):QS X st (tS K rm Ol O O' m1):=QS.imp (Y ▸ h.h) λD p H U=>by
 obtain ⟨A,B,l,o,r,em,k⟩:=U;obtain ⟨j,m,nw,Z⟩:=r.freeze hi e;exact ⟨j,B,l,o,Z,em,k.sub m nw⟩
theorem U5(h:∀U H Q,tE K O m U H Q->te U H Q)(Z:i<O.length){D:Ends}{U:St}{H:Hp}(q:tS K rm Ol O (O.set i .CD) (aN i m) D U H):GJ te (yZ i) D U H:=by
 obtain ⟨A,B,j,o,r,em,k⟩:=q;obtain ⟨d,Y,em⟩:=Co.aq em;obtain ⟨hi,em⟩:=bZ em;cases em;refine h U H _ ⟨A,B,j,d,r,Y,λv e l g p=>?_⟩;exact k _ e l ((r.grow g).set hi Z p) g.aa (g.nB r.b)
theorem wQ(h:∀U H Q,tF K O m U H Q->te U H Q)(e:i<O.length){D:Ends}{U:St}{H:Hp}(q:tS K rm Ol O (O.set i .own) (aN i m) D U H):GJ te (yZ i) D U H:=by
 obtain ⟨A,B,l,o,r,em,k⟩:=q;obtain ⟨d,Y,em⟩:=Co.aq em;obtain ⟨hi,em⟩:=bZ em;cases em;refine h U H _ ⟨A,B,l,d,r,Y,λv j u g p=>?_⟩;obtain ⟨p,o,rfl,s,h1,h2,Z⟩:=p;exact k _ j u (r.fresh g hi e s h1 h2 Z) g.aa (g.nB r.b)
theorem abw(i:Nat)(Y:X.N.Nodup)(hi:X.N[i]?=some x)(hx:Loc X.env.scope x)(Z:QE X e (tE K O m))(l:i<O.length:=by exact of_decide_eq_true rfl)(hs:i4 e (some (.Name x pos')) pos.line X.env=pure false:=by rfl)
 (j:X.fn x=true\/X.env.scope.names.lookup x=some .local:=by walk_at "hf") (U:O.set i .CD=O2:=by rfl):QS X (.Assign [.Name x pos'] e pos) (tS K rm Ol O O2 (aN i m)):=
 U ▸ QS.imp (Qw Y hi hx Z.h hs j) λD o H=>U5 (λ_ _ _ z=>z) l
theorem Xx(i:Nat)(Y:X.N.Nodup)(hi:X.N[i]?=some x)(hx:Loc X.env.scope x)(Z:QE X e (tF K O m))(l:i<O.length:=by exact of_decide_eq_true rfl)(hs:i4 e (some (.Name x pos')) pos.line X.env=pure false:=by rfl)
 (j:X.fn x=true\/X.env.scope.names.lookup x=some .local:=by walk_at "hf") (U:O.set i .own=O2:=by rfl):QS X (.Assign [.Name x pos'] e pos) (tS K rm Ol O O2 (aN i m)):=
 U ▸ QS.imp (Qw Y hi hx Z.h hs j) λD o H=>wQ (λ_ _ _ z=>z) l
theorem cT(q:QT X c (tT K O m))(ha:QSs X a (tS K rm Ol O O' m1))(p:QSs X b (tS K rm Ol O O' m2)):QS X (.If c a b pos) (tS K rm Ol O O' (sIf m m1 m2)):=QS.imp (Wl q.h ha.h p.h) λD u H Y=>by
 obtain ⟨A,B,Z,o,r,em,k⟩:=Y;obtain ⟨l,j,em⟩:=Co.aq em
 cases l with
 | bool e=>
  refine ⟨A,B,Z,e,r,j,λi s U=>?_⟩
  cases e with
  | true=>exact uc ⟨i,B,Z,o,r.grow U,em,k.sub U.aa (U.nB r.b)⟩
  | false=>exact vP ⟨i,B,Z,o,r.grow U,em,k.sub U.aa (U.nB r.b)⟩
 | _=>cases em
theorem bB(q:QE X e (tE K O m)):QS X (.Return (some e) pos) (tS K .f Ol O O' (bD m)):=QS.imp (Gz q.h) λD s H U=>by
 obtain ⟨A,B,j,o,r,em,k⟩:=U;obtain ⟨Z,Y,em⟩:=Co.aq em;cases em;exact ⟨A,B,j,Z,r,Y,λv i l g p=>k v i l g.ah (r.b.trans g.hh) g.aa (g.nB r.b) p⟩
theorem Kh(s:QE X e (tF K O m)):QS X (.Return (some e) pos) (tS K .t Ol O O' (bD m)):=QS.imp (Gz s.h) λD u H U=>by
 obtain ⟨A,B,j,o,r,em,k⟩:=U;obtain ⟨Z,Y,em⟩:=Co.aq em;cases em;refine ⟨A,B,j,Z,r,Y,λv i l g p=>k v i l g.ah (r.b.trans g.hh) g.aa (g.nB r.b) ?_⟩;obtain ⟨q,o,e,h1,h2⟩:=p;exact ⟨q,o,e,r.b.free h1,h2⟩
theorem pF(i:Nat){p:Pos}(hi:fl O i= .own:=by rfl)(nm:Nm X i x:=by walk_at "nm"):QS X (.Return (some (.Name x p)) pos) (tS K .t Ol O O' (bD (aj i))):=QS.imp (Gz (fD nm.1 nm.2 nm.3 nm.4)) λD s H U=>by
 obtain ⟨A,B,u,o,r,em,k⟩:=U;obtain ⟨j,Y,em⟩:=Co.aq em;cases em;obtain ⟨v,Z,q⟩:=r.slot i j (pB Y);rw[hi] at q;refine ⟨v,fC Z,k v A H r.a r.b (aA.refl _) (λ_ h _=>h) ?_⟩;obtain ⟨p,o,e,h1,h2,m,l⟩:=q;exact ⟨p,o,e,m,h1,h2,l⟩
theorem mF:QS X st (tS K rm Ol O O' jP):=QS.imp Hd λD Y H U=>by obtain ⟨A,B,Z,o,r,em,k⟩:=U;cases em
theorem rB(s:QE X e (tP K O m))(hs:i4 e none pos.line X.env=pure false:=by rfl):QS X (.Expr e pos) (tS K rm Ol O O (sEx m)):=QS.imp (rY s.h hs) λD j H U=>by
 obtain ⟨A,B,l,o,r,em,k⟩:=U;obtain ⟨Z,Y,em⟩:=Co.aq em;cases em;exact ⟨A,B,l,Z,r,Y,λv i q g p=>k j i q (r.grow g) g.aa (g.nB r.b)⟩
end
def spF(K:aE)(fs:C0)(rm:Rm)(f:B5->Co af):Sp:=λvs H Q _=>∃A ds d,aA A H/\jL K A H fs ds vs/\f ds= .ok d/\∀v A' H',aO A H A' H'->Y0 K rm H A' H' d v->Q v H'
theorem jL.length:∀{fs:C0}{ds:B5}{vs:C1},jL K A H fs ds vs->vs.length=fs.length/\ds.length=fs.length
 | [],ds,vs,h=>by obtain ⟨rfl,rfl⟩:=h;exact ⟨rfl,rfl⟩
 | f::fs,ds,vs,h=>by
  obtain ⟨d,r,v,s,rfl,rfl,_,h⟩:=h;have:=h.length;exact ⟨by rw[ba,ba,this.1],by rw[ba,ba,this.2]⟩
noncomputable def aJ(f:B5->Co af)(ms:List ME):ME:=λΓ=>(evs ms Γ).bind f
variable {ps:B7}
section
variable  {k:Nat}   {fs:C0}{f:B5->Co af}   {p:Pos}  {es:C2}
theorem Xg(F:Def X.prog X.w X.K X.mg X.base k x ps (spF X.K fs .f f))(z:cA k X.A)(j:Gl X x)(ha:QA X (e::es) (tAr X.K O fs ms))(Y:nD x:=by decide)
 (D:CO e=true:=by rfl) (hpl:dF es=true:=by rfl):QE X (.Call (.Name x p) (e::es) [] pos) (tE X.K O (aJ f ms)):=
 QE.imp (Ez F z j ha.h Y (bM D) (ik hpl)) λE H Q U=>by
  obtain ⟨A,B,y,d,r,em,k⟩:=U;obtain ⟨i,o,em⟩:=Co.aq em;refine ⟨A,B,y,i,r,o,λs m l Z q=>?_⟩;show spF X.K fs .f f (s++[]) l Q E0;rw[cy];exact ⟨m,i,d,Z.ah,q,em,λv u C g p=>k v u C (Z.trans g) p⟩
theorem YH(F:Def X.prog X.w X.K X.mg X.base k x ps (spF X.K fs .t f))(D:cA k X.A)(j:Gl X x)(ha:QA X (e::es) (tAr X.K O fs ms))(Z:nD x:=by decide)
 (I:CO e=true:=by rfl) (hpl:dF es=true:=by rfl):QE X (.Call (.Name x p) (e::es) [] pos) (tF X.K O (aJ f ms)):=
 QE.imp (Ez F D j ha.h Z (bM I) (ik hpl)) λJ H Q U=>by
  obtain ⟨A,B,C,d,r,em,k⟩:=U;obtain ⟨i,s,em⟩:=Co.aq em;refine ⟨A,B,C,i,r,s,λy m l Y u=>?_⟩;show spF X.K fs .t f (y++[]) l Q E0;rw[cy];refine ⟨m,i,d,Y.ah,u,em,λv z E g p=>k v z E (Y.trans g) ?_⟩;obtain ⟨q,o,e,h1,h2⟩:=p;exact ⟨q,o,e,Y.hh.free h1,h2⟩
end
noncomputable def fnR(n:Nat)(m:MS)(ds:B5):Co af:=(m (ds.map some++cE (n - ds.length) none)).bind λo=>match o with
 | .rt d=>.ok d
 | _=>.bad
variable {P:fF}{mg:Str->B8}{N:B7}
section
variable     {base:Heap}
theorem jJ:∀{ds:B5}{vs:C1},aA A H->jL K A H Ol ds vs->(∀i,i<Ol.length->(fl O i= .CD/\fl Ol i= .CD)\/fl O i= .CC)->Ol.length<=N.length ->
 aQ K A H H O (Zq.start N vs) (ds.map some++cE (N.length - ds.length) none):=by
 intro ds vs ha h o I;have m:=h.length;have one:∀(Ol:C0) (ds:B5) (vs:C1),jL K A H Ol ds vs->∀i d,ds[i]?=some d->∃v,vs[i]?=some v/\Gq K A H (fl Ol i) d v:=by
  intro Ol
  induction Ol with
  | nil=>intro ds vs h i d e;obtain ⟨rfl,rfl⟩:=h;simp at e
  | cons f Ol x=>
   intro ds vs h i d e;obtain ⟨D,r,v,s,rfl,rfl,h1,h⟩:=h
   match i with
   | 0=>simp at e;subst e;exact ⟨v,rfl,h1⟩
   | i+1=>
    obtain ⟨p,h2,Z⟩:=x r s h i d (by simpa using e);exact ⟨p,by simpa using h2,Z⟩
 have Y:∀i,gv (ds.map some++cE (N.length - ds.length) none) i=ds[i]?:=λi=>by
  rw[gv,ay];rcases iA i ds.length with h | h
  . rw[dA (by simpa using h),a9,aI h];rfl
  . rw[c9 (by simpa using h),kq,dr h];split <;> rfl
 have l:∀i v,vs[i]?=some v->sv (Zq.start N vs) i=some v:=λi v e=>by
  unfold sv Zq.start;rw[ay];have h:=(bE.mp e).1;rw[dA (by simpa using h),a9,e];rfl
 refine ⟨ha,aA.refl _,?_,λi d e=>?_,λi j hij h1 h2 Z E=>?_⟩
 . rw[Zq.start,aw,aw,ai,ai,cn,cn];lia
 . rw[Y] at e;obtain ⟨v,u,q⟩:=one Ol ds vs h i d e;refine ⟨v,l i v u,?_⟩;have hi:i<Ol.length:=by rw[<- m.2];exact (bE.mp e).1
   rcases o i hi with ⟨z,y⟩ | z
   . rw[z];rwa [y] at q
   . rw[z]
     cases U:fl Ol i with
     | CD=>rw[U] at q;exact .inl q
     | CC=>rwa [U] at q
     | own=>rwa [U] at q
     | fix B=>rwa [U] at q
     | exc C=>rwa [U] at q
     | nst b=>rwa [U] at q
     | kit=>rwa [U] at q
 . rw[Y] at Z;have hi:i<Ol.length:=by
    rw[<- m.2];rcases iA i ds.length with h | h
    . exact h
    . exact absurd (dr h) Z
   rcases o i hi with ⟨z,_⟩ | z <;> rw[z] at h1 <;> cases h1
theorem YT{st:Stmt}{fd:oi}{k:Nat}{fs:C0}{m:MS}(F:Fun K x x st p fd)(S:cO N ps (aK st))(Z:fs.length=ps.length)(I:ps.length<=N.length)
 (y:∀i,i<fs.length->(fl O i= .CD/\fl fs i= .CD)\/fl O i= .CC)
 (hbody:∀(f:Addr) (U:a0) (A:eK) (CU:C7) (s:a8) (H:Hp) (E:XK),cA k (A.deeper (kQ x (aK st) s.heap.objs.size f U)) ->
  QSs (jx CX0 P w K mg base N x (aK st) f U A CU s H E).nox (bC st) (tS K rm Ol O O' m)):oM P w K mg base CX0 (k+1) p fd ps (spF K fs rm (fnR N.length m)):=by
 refine F.ok S (λB H Q E h=>?_) (λU A CU s H B Q E l h=>?_)
 . obtain ⟨A,j,d,_,h,_⟩:=h;rw[h.length.1,Z]
 . obtain ⟨e,j,d,ha,h,em,q⟩:=h;obtain ⟨o,z,em⟩:=Co.aq em
   cases o with
   | rt J=>
    cases em;refine ⟨_,(hbody p U A CU s H E l).h,e,H,_,_,jJ ha h y (by lia),z,λv u Y s1 C D nw r=>q v u Y ⟨D,C,s1,nw⟩ r⟩
   | _=>cases em
theorem aaX{st:Stmt}{k:Nat}{m:MS}(F:At K mg x st ps)(S:cO N ps (aK st))(Z:O1.length=ps.length)(D:ps.length<=N.length)
 (u:∀i,i<O1.length->(fl O i= .CD/\fl O1 i= .CD)\/fl O i= .CC)
 (hbody:∀(f:Addr) (U:a0) (A:eK) (CU:C7) (s:a8) (H:Hp) (E:XK),cA k (A.deeper (kQ x (aK st) s.heap.objs.size f U)) ->
  QSs (jx CX0 P w K mg base N x (aK st) f U A CU s H E).nox (bC st) (tS K rm Ol O O' m)):Def P w K mg base (k+1) x ps (spF K O1 rm (fnR N.length m)):=by
 refine F.ok S (λz H Q E h=>?_) (λf U A CU s H z Q E l h=>?_)
 . obtain ⟨A,j,d,_,h,_⟩:=h;rw[h.length.1,Z]
 . obtain ⟨e,j,d,ha,h,em,q⟩:=h;obtain ⟨o,y,em⟩:=Co.aq em
   cases o with
   | rt I=>
    cases em;refine ⟨_,(hbody f U A CU s H E l).h,e,H,_,_,jJ ha h u (by lia),y,λv r Y s1 B C nw p=>q v r Y ⟨C,B,s1,nw⟩ p⟩
   | _=>cases em
end
abbrev MI:=Ev->Co B5
structure ux (K:aE) (A B:Hp) (J:It) (xs:B5):Prop where
 go:∀i H,aA A H->aA B H->i<xs.length->J.go i H
 stop:∀H,aA A H->aA B H->J.stop xs.length H
 yld:∀i A2 H x H',aA A A2->aA A2 H->aA B H->i<xs.length->J.yld i H x H'->∃A' d,xs[i]?=some d/\aO A2 H A' H'/\Rp K A' d x
def tI(K:aE)(O:C0)(it:MI):TI:=λσ H R=>∃A B Γ xs,aQ K A B H O σ Γ/\it Γ = .ok xs/\∀J A1 H1,aO A H A1 H1->ux K A1 B J xs->R J H1
def tIc(K:aE)(O:C0)(it:MI):TI:=λσ H R=>∃A B Γ xs,aQ K A B H O σ Γ/\it Γ = .ok xs/\∀J A1 H1,aO A H A1 H1->ux K A1 H1 J xs->R J H1
def tQ(K:aE)(O:C0)(m:ME):TE:=λσ H Q=>∃A B Γ d,aQ K A B H O σ Γ/\m Γ = .ok d/\∀v A' H',aO A H A' H'->Pk K A' B d v->Q v H'
theorem sq(h:QE X e (tE K O m)):QE X e (tQ K O m):=QE.imp h.h λj H Q U=>by obtain ⟨A,B,Z,d,r,em,k⟩:=U;exact ⟨A,B,Z,d,r,em,λv Y i g p=>k v Y i g (.inl p)⟩
theorem kh(i:Nat)(hi:isO (fl O i)=false:=by rfl)(nm:Nm X i x:=by walk_at "nm")(hx:isX (fl O i)=false:=by rfl):QE X (.Name x pos) (tQ K O (aj i)):=QE.imp (fD nm.1 nm.2 nm.3 nm.4) λj H Q Y=>by
 obtain ⟨A,B,l,d,r,em,k⟩:=Y;obtain ⟨v,Z,q⟩:=r.slot i d (pB em);refine ⟨v,fC Z,k v A H (aO.refl r.a) ?_⟩
 cases U:fl O i with
 | CD=>rw[U] at q;exact .inl q
 | CC=>rwa [U] at q
 | own=>rw[U] at hi;cases hi
 | fix e=>rw[U] at hi;cases hi
 | exc C=>rw[U] at hx;cases hx
 | nst b=>rw[U] at hx;cases hx
 | kit=>rw[U] at hx;cases hx
theorem Pk.aao{H:Hp}(h:Pk K A B (.list ds) v):∃p vs,v= .ref p/\au K A ds vs/\∀H,aA A H->aA B H->SqL K H p vs:=by
 rcases h with h | ⟨p,vs,Y,Z,U,h1,h2⟩ | ⟨_,_,_,_,U,_⟩
 . obtain ⟨a,vs,e,h1,h2⟩:=Rp.list.mp h;exact ⟨a,vs,e,h2,λH s _=>s.seq h1⟩
 . cases U;exact ⟨p,vs,Z,h2,λH _ s=>s.seq h1⟩
 . cases U
theorem Pk.lJ{H:Hp}(h:Pk K A B (.tuple ds) v):∃p vs,v= .ref p/\au K A ds vs/\∀H,aA A H->SqT K H p vs:=by
 obtain ⟨a,vs,e,h1,h2⟩:=Rp.tuple.mp (h.j8 (λ_ z=>nomatch z) (λ_ z=>nomatch z));exact ⟨a,vs,e,h2,λH s=>s.lJ h1⟩
theorem Wm(Z:au K A ds vs)(Y:∀H,aA A H->aA B H->SqL K H p vs):ux K A B (Itl K p) ds:=by
 have r:=Z.length;refine ⟨λi H s1 U hi=>?_,λH s1 U=>⟨vs,Y H s1 U,by lia⟩,λi o H x m j s1 U hi y=>?_⟩
 . exact ⟨vs,vs[i]'(by lia),Y H s1 U,aI _⟩
 . obtain ⟨rfl,y⟩:=y;have e:=y vs (Y m (j.trans s1) U);obtain ⟨d,l,q⟩:=Z.get e;exact ⟨o,d,l,aO.refl s1,Rp.mono j d q⟩
theorem aal(Z:au K A ds vs)(U:∀H,aA A H->SqT K H p vs):ux K A B (Itt K p) ds:=by
 have r:=Z.length;refine ⟨λi H s1 Y hi=>?_,λH s1 Y=>⟨vs,U H s1,by lia⟩,λi o H x m j s1 Y hi y=>?_⟩
 . exact ⟨vs,vs[i]'(by lia),U H s1,aI _⟩
 . obtain ⟨rfl,y⟩:=y;have e:=y vs (U m (j.trans s1));obtain ⟨d,l,q⟩:=Z.get e;exact ⟨o,d,l,aO.refl s1,Rp.mono j d q⟩
theorem Gw(lo:Int)(n:Nat):ux K A B (Itr lo n) ((c8 n).map λi=>af.int (lo+(i:Nat))):=by
 have U:((c8 n).map λi=>af.int (lo+(i:Nat))).length=n:=by rw[ai,df]
 refine ⟨λi H _ _ hi=>(by rwa [U] at hi),λH _ _=>(by rw[U];exact ax _),λi Y H x j e s1 Z hi y=>?_⟩;obtain ⟨rfl,rfl⟩:=y;rw[U] at hi;exact ⟨Y,.int (lo+i),by rw[a9,i7 hi];rfl,aO.refl s1,Rp.int.mpr rfl⟩
theorem Z7(j:au K A ds vs)(Z:∀H,aA A H->aA B H->SqL K H p vs):ux K A B (Itv K p vs.length) ds.reverse:=by
 have Y:=j.length;refine ⟨λi H s1 U hi=>?_,λH s1 U=>?_,λi o H x m l s1 U hi y=>?_⟩
 . rw[fN,Y] at hi;exact ⟨hi,vs,vs[vs.length - 1 - i]'(by lia),Z H s1 U,aI _⟩
 . rw[fN,Y];rfl
 . rw[fN,Y] at hi;obtain ⟨rfl,y⟩:=y;have e:=y vs (Z m (l.trans s1) U);have s:vs.reverse[i]?=some x:=by rw[List.getElem?_reverse hi];exact e
   obtain ⟨d,r,q⟩:=j.reverse.get s;exact ⟨o,d,r,aO.refl s1,Rp.mono l d q⟩
noncomputable def itL(m:ME):MI:=λΓ=>(m Γ).bind λd=>match d with
 | .list ds=>.ok ds
 | .tuple ds=>.ok ds
 | _=>.bad
noncomputable def lL(m:ME):MI:=λΓ=>(m Γ).bind λd=>match d with
 | .int j=>gd (-(2^62)<=j/\j<2^62) (.ok ((c8 j.toNat).map λi=>af.int (0+(i:Nat))))
 | _=>.bad
noncomputable def itV(m:ME):MI:=λΓ=>(m Γ).bind λd=>match d with
 | .list ds=>.ok ds.reverse
 | _=>.bad
variable {m':ME}
section
variable    {a b:Expr}{p:Pos}
def acH(K:aE)(tl:TE):TI:=λσ H R=>tl σ H λx H1=>∃a,x= .ref a/\(((∃xs,SqL K H1 a xs)/\R (Itl K a) H1)\/((∃xs,SqT K H1 a xs)/\R (Itt K a) H1))
theorem Q7(y:PE X c te):PI X tg c (acH X.K te):=by
 intro Z s z H R I h;refine thn (y Z s z H _ I h) λv s1 Y=>?_;obtain ⟨x,m,U,r,q1⟩:=Y;obtain ⟨a,e,q1⟩:=q1;subst e;cases r;rcases q1 with ⟨⟨u,i⟩,q⟩ | ⟨⟨u,i⟩,q⟩
 . obtain ⟨l,B,p,hz⟩:=U.list i;refine sN p.isList (⟨s1.heap.objs.size,[s1.heap.objs.size],_,_,m,rfl,U.kept λb o e=>av _ e,Ro a _,⟨_,bo _ rfl,rfl,rfl⟩,λb j=>?_,q⟩);have e:=by simpa using j
   subst e;exact U.p8 (ax _) (U.CH.fresh (ax _))
 . obtain ⟨l,B,p,hz⟩:=U.tuple i;refine wpAny_pyIter_tuple (p) (⟨s1.heap.objs.size,[s1.heap.objs.size],_,_,m,rfl,U.kept λb o e=>av _ e,Mx a _,⟨_,bo _ rfl,rfl,rfl⟩,λb j=>?_,q⟩);have e:=by simpa using j
   subst e;exact U.p8 (ax _) (U.CH.fresh (ax _))
theorem JK{R:It->Hp->Prop}{xs:B5}(Y:aA A A')(Z:aA B A')(p:Pk K A B d v)(e:(match d with | .list ds=>Co.ok ds | .tuple ds=>.ok ds | _=>.bad)= .ok xs)
 (k:∀J,ux K A B J xs->R J A'):∃a,v= .ref a/\(((∃xs,SqL K A' a xs)/\R (Itl K a) A')\/((∃xs,SqT K A' a xs)/\R (Itt K a) A')):=by
 cases d with
 | list ds=>
  cases e;obtain ⟨q,U,rfl,h2,h1⟩:=p.aao (H:=A');exact ⟨q,rfl,.inl ⟨⟨U,h1 A' Y Z⟩,k _ (Wm h2 h1)⟩⟩
 | tuple ds=>
  cases e;obtain ⟨q,U,rfl,h2,h1⟩:=p.lJ (H:=A');exact ⟨q,rfl,.inr ⟨⟨U,h1 A' Y⟩,k _ (aal h2 h1)⟩⟩
 | _=>cases e
theorem fO(h:QE X e (tQ X.K O m)):QI X tg e (tI X.K O (itL m)):=QI.imp (Q7 h.h) λq H R U=>by
 obtain ⟨A,B,o,p,r,em,k⟩:=U;obtain ⟨d,j,em⟩:=Co.aq em;refine ⟨A,B,o,d,r,j,λv i Z Y l=>JK Y.ah (r.b.trans Y.hh) l em λJ hj=>k J i Z Y hj⟩
theorem iI(h:QE X e (tP X.K O m)):QI X tg e (tIc X.K O (itL m)):=QI.imp (Q7 h.h) λq H R U=>by
 obtain ⟨A,B,o,p,r,em,k⟩:=U;obtain ⟨d,j,em⟩:=Co.aq em;refine ⟨A,B,o,d,r,j,λv i Z Y l=>JK Y.ah (aA.refl _) l em λJ hj=>k J i Z Y hj⟩
theorem jE(Z:Gl X "range")(s:X.mg "range"= none)(ha:QE X a (tP X.K O m))(hs:dk [a] X.env=[(false,eval a X.env)]:=by rfl):QI X tg (.Call (.Name "range" p) [a] [] pos) (tI X.K O (lL m)):=
 QI.imp (BZ Z s (cC ha.h eO hs) hs) λy H R U=>by
  obtain ⟨A,B,u,x,r,em,k⟩:=U;obtain ⟨d,q,em⟩:=Co.aq em
  cases d with
  | int j=>
   obtain ⟨Y,em⟩:=bZ em;cases em;exact ⟨A,B,u,_,r,q,λv l e i o=>⟨j,by rw[o.int],Y.1,Y.2,k _ l e i (Gw 0 _)⟩⟩
  | _=>cases em
theorem v5(Z:Gl X "range")(s:X.mg "range"= none)(ha:QE X a (tP X.K O m))(hs:dk [a] X.env=[(false,eval a X.env)]:=by rfl):QI X tg (.Call (.Name "range" p) [a] [] pos) (tIc X.K O (lL m)):=
 QI.imp (BZ Z s (cC ha.h eO hs) hs) λy H R U=>by
  obtain ⟨A,B,u,x,r,em,k⟩:=U;obtain ⟨d,q,em⟩:=Co.aq em
  cases d with
  | int j=>
   obtain ⟨Y,em⟩:=bZ em;cases em;exact ⟨A,B,u,_,r,q,λv l e i o=>⟨j,by rw[o.int],Y.1,Y.2,k _ l e i (Gw 0 _)⟩⟩
  | _=>cases em
theorem aaI(e:Gl X "reversed")(o:X.mg "reversed"= none)(ha:QE X a (tQ X.K O m))(hs:dk [a] X.env=[(false,eval a X.env)]:=by rfl):QI X tg (.Call (.Name "reversed" p) [a] [] pos) (tI X.K O (itV m)):=
 QI.imp (Y9 e o (cC ha.h eO hs) hs) λy H R U=>by
  obtain ⟨A,B,u,x,r,em,k⟩:=U;obtain ⟨d,l,em⟩:=Co.aq em
  cases d with
  | list z=>
   cases em;refine ⟨A,B,u,_,r,l,λv i Y Z j=>?_⟩;obtain ⟨q,s,rfl,h2,h1⟩:=j.aao (H:=Y);exact ⟨q,s,rfl,h1 Y Z.ah (r.b.trans Z.hh),k _ i Y Z (Z7 h2 h1)⟩
  | _=>cases em
variable {elts:C2}{tpos:Pos}
end
abbrev MG:=af->Ev->Co Ev
noncomputable def gN(i:Nat):MG:=λd Γ=>gd (i < Γ.length) (.ok (Γ.set i (some d)))
noncomputable def gTs:List MG->B5->Ev->Co Ev
 | [],[],Γ=>.ok Γ
 | g::gs,d::ds,Γ=>(g d Γ).bind λΓ'=>gTs gs ds Γ'
 | _,_,_=>.bad
noncomputable def gT(gs:List MG):MG:=λd Γ=>match d with
 | .tuple ds=>gTs gs ds Γ
 | _=>.bad
def pC(is:B6)(σ σ':St):Prop:=σ'.length=σ.length/\∀j,j∉is->σ'[j]?=σ[j]?
theorem pC.trans{is Z:B6}{U σ'':St}(h:pC is σ U)(Y:pC Z U σ''):pC (is++Z) σ σ'':=
 ⟨Y.1.trans h.1,λj hj=>(Y.2 j λz=>hj (cc _ z)).trans (h.2 j λz=>hj (dQ _ z))⟩
def tG(K:aE)(O O':C0)(is:B6)(g:MG):TG:=λv σ H Q=>∃A B Γ d Γ',aQ K A B H O σ Γ/\Rp K A d v/\g d Γ = .ok Γ'/\∀σ',aQ K A B H O' σ' Γ'->pC is σ σ'->Q σ' H
def tGs(K:aE)(O O':C0)(is:B6)(gs:List MG):TGs:=λvs σ H Q=>∃A B Γ ds Γ',aQ K A B H O σ Γ/\au K A ds vs/\gTs gs ds Γ = .ok Γ'/\∀σ',aQ K A B H O' σ' Γ'->pC is σ σ'->Q σ' H
theorem PG.imp{t t':TG}(h:PG X tg t)(i:∀v σ H Q,t' v σ H Q->t v σ H Q):PG X tg t':=λU s σ H v u Q I r q=>h U s σ H v u Q I r (i v σ H Q q)
theorem PGs.imp{t t':TGs}(h:PGs X rest t)(i:∀v σ H Q,t' v σ H Q->t v σ H Q):PGs X rest t':=λU s σ H v u Q I r q=>h U s σ H v u Q I r (i v σ H Q q)
theorem QG.imp{t t':TG}(h:PG X tg t)(i:∀v σ H Q,t' v σ H Q->t v σ H Q):QG X tg t':=⟨PG.imp h i⟩
theorem QGs.imp{t t':TGs}(h:PGs X rest t)(i:∀v σ H Q,t' v σ H Q->t v σ H Q):QGs X rest t':=⟨PGs.imp h i⟩
theorem zR:∀{gs:List MG}{ds:B5}{Γ Γ':Ev},gTs gs ds Γ = .ok Γ'->ds.length=gs.length
 | [],[],_,_,_=>rfl
 | g::gs,d::ds,Γ,Γ',h=>by
  obtain ⟨U,_,h⟩:=Co.aq h;rw[ba,ba,zR h]
section
variable   {is js:B6}{g:MG}{gs:List MG}  {es:C2}
theorem cV(i:Nat)(Z:X.N.Nodup)(hi:X.N[i]?=some x)(hx:Loc X.env.scope x)(l:i<O.length:=by exact of_decide_eq_true rfl)(e:X.fn x=true\/X.env.scope.names.lookup x=some .local:=by walk_at "hf")(Y:O.set i .CD=O2:=by rfl) :
 QG X (.Name x pos) (tG X.K O O2 [i] (gN i)):=Y ▸ QG.imp (YJ Z hi hx e) λv o H Q U=>by
 obtain ⟨A,B,q,d,m,r,p,em,k⟩:=U;obtain ⟨hi,em⟩:=bZ em;cases em;exact k _ (r.set hi l p) ⟨fm ..,λj hj=>nv (λz=>hj (by rw[z];exact a7))⟩
theorem mO:QGs X [] (tGs X.K O O [] []):=QGs.imp Wv λj Z H Q U=>by
 obtain ⟨A,B,i,Y,e,r,p,em,k⟩:=U
 cases Y with
 | nil=>cases em;exact ⟨au.nil.mp p,k Z r ⟨rfl,λ_ _=>rfl⟩⟩
 | cons d Y=>cases em
theorem Tj(h1:QG X e (tG X.K O O1 is g))(h2:QGs X es (tGs X.K O1 O2 js gs))(hs:(kU (e::es) X.env).map (·.2)=Bi e X.env::(kU es X.env).map (·.2):=by rfl):QGs X (e::es) (tGs X.K O O2 (is++js) (g::gs)):=by
 refine QGs.imp (Tf h1.h h2.h ?_) λC D H Q ⟨A,B,z,Z,i,r,p,em,k⟩=>?_
 . exact hs
 . cases Z with
   | nil=>cases em
   | cons d Z=>
    obtain ⟨U,m,em⟩:=Co.aq em;obtain ⟨v,o,rfl,q,x⟩:=au.cons.mp p;exact ⟨v,o,rfl,A,B,z,d,U,r,q,m,λj l y=>⟨A,B,U,Z,i,l,x,em,λY u s=>k Y u (y.trans s)⟩⟩
theorem qy{k:Nat}{n:Nat}(m:X.calm=true)(h:QGs X es (tGs X.K O O' is gs))(Z:gs.length=n:=by rfl)
 (o:(kU es X.env).length=n:=by rfl) (Y:(kU es X.env).findIdx? (·.1)=none:=by rfl):QG X (.Tuple es k pos) (tG X.K O O' is (gT gs)):=QG.imp (aby m h.h o Y) λv q H Q U=>by
 obtain ⟨A,B,l,d,e,r,p,em,k⟩:=U
 cases d with
 | tuple j=>
  have p':=Rp.tuple.mp p;obtain ⟨a,i,rfl,h1,h2⟩:=p';exact ⟨a,i,rfl,r.a.lJ h1,by rw[<- h2.length,<- Z];exact zR em,A,B,l,j,e,r,h2,em,k⟩
 | _=>cases em
end
noncomputable def K3(g:MG)(m:ME):MS:=λΓ=>(m Γ).bind λd=>(g d Γ).bind λΓ'=>.ok (.nx Γ')
section
variable    {is:B6}{g:MG}
theorem Qv(z:QE X e (tE X.K O m))(l:QG X tg (tG X.K O O' is g))(hs:swapsWithSole [tg] e pos.line X.env=pure false:=by rfl)(x:swappedStores [tg] e X.env=pure none:=by rfl)(h1:(kU [tg] X.env).map (·.2)=[Bi tg X.env]:=by rfl):QS X (.Assign [tg] e pos) (tS X.K rm Ol O O' (K3 g m)):=by
 refine QS.imp (Qt z.h l.h hs x h1) λD C H U=>?_;obtain ⟨A,B,j,o,r,em,k⟩:=U;obtain ⟨d,q,em⟩:=Co.aq em;obtain ⟨Z,u,em⟩:=Co.aq em;cases em;exact ⟨A,B,j,d,r,q,λv i y g p=>⟨i,B,j,d,Z,r.grow g,p,u,λY s _=>k Y i y s g.aa (g.nB r.b)⟩⟩
end
noncomputable def oW(O Oe:C0)(cl:B6):Bool:=Oe.length == O.length&&(c8 O.length).all λj=>decide (fl Oe j=fl O j)||cl.contains j
variable {Oe:C0}
theorem Ve{cl:B6}(h:oW O Oe cl=true)(j:Nat):fl Oe j=fl O j\/j∈cl:=by
 unfold oW at h;rw[cp,hZ] at h;rcases iA j O.length with hj | hj
 . have:=h.2 j (d6.mpr hj);rw[vS] at this;rcases this with z | z
   . exact .inl (of_decide_eq_true z)
   . exact .inr (by simpa using z)
 . left;unfold fl;rw[ay,ay,dr hj,dr (by rw[show Oe.length=O.length by simpa using h.1];exact hj)]
theorem G4:∀(l:B6) (Γ:Ev) (j:Nat),j∈l->gv (clr l Γ) j=none
 | i::l,Γ,j,h=>by
  by_cases hj:j∈l
  . exact G4 l (Γ.set i none) j hj
  . have e:j=i:=by
     rcases bq.mp h with z | z
     . exact z
     . exact absurd z hj
    subst e;rcases (zy l (Γ.set j none)).2 j with z | z
    . exact z
    . show gv (clr l (Γ.set j none)) j=none;rw[z];rw[gv,ay]
      by_cases hi:j < Γ.length
      . rw[hF hi];rfl
      . rw[dr (by rw[fm];lia)];rfl
theorem aQ.iU{cl:B6}(m:oW O Oe cl=true)(r:aQ K A B H Oe σ Γ):aQ K A B H O σ (Zq.clr cl Γ):=by
 have U:=r.clr cl;have Y:∀j,gv (Zq.clr cl Γ) j≠none->fl O j=fl Oe j:=λj n=>by
  rcases Ve m j with z | z
  . exact z.symm
  . exact absurd (G4 cl Γ j z) n
 refine ⟨U.a,U.b,U.len,λj d e=>?_,λi j hij h1 h2 Z l=>U.sep i j hij (by rw[<- Y i Z];exact h1) (by rw[<- Y j l];exact h2) Z l⟩;have:=U.slot j d e;rw[Y j (by rw[e];simp)];exact this
noncomputable def forR(g:MG)(cl:B6)(b:MS):B5->Ev->Co Out
 | [],Γ=>.ok (.nx Γ)
 | x::xs,Γ=>(g x Γ).bind λΓ1=>(b Γ1).bind λo=>match o with
  | .nx Γ2=>forR g cl b xs (clr cl Γ2)
  | .ct Γ2=>forR g cl b xs (clr cl Γ2)
  | .bk Γ2=>.ok (.nx (clr cl Γ2))
  | .rt d=>.ok (.rt d)
noncomputable def dM(it:MI)(g:MG)(cl:B6)(b:MS):MS:=λΓ=>(it Γ).bind λxs=>forR g cl b xs Γ
variable {body:C6}
section
variable    {is:B6}{g:MG}{it:MI}{cl:B6}{mb:MS}{iter:Expr}
theorem mD(hp:ua (bX X.prog X.w) X.A X.env X.xe)(hc:X.calm=true)(cl:B6)(hi:QI X tg iter (tI X.K O it))(hg:QG X tg (tG X.K O O is g))(hb:QSs X body (tS X.K rm Oe O Oe mb))(hE:oW O Oe cl=true)
 (hs:∀x,jv iter X.env x=pure x:=by intro _;rfl):QS X (.For tg iter body [] pos) (tS X.K rm Ol O O (dM it g cl mb)):=by
 refine QS.imp (QH hp hc hi.h hg.h hb.h hs) λD σ H Tz=>?_;obtain ⟨A,B,Γ,o,r,em,k⟩:=Tz;obtain ⟨Z,e1,em⟩:=Co.aq em;refine ⟨A,B,Γ,Z,r,e1,λJ A1 H1 g1 hj=>?_⟩;refine ⟨λi n I R=>n=Z.length - i/\i<=Z.length/\∃P z,aQ X.K P B R O I z/\aA A P/\New A P B/\aA A1 P/\forR g cl mb (Z.drop i) z= .ok o,⟨Z.length,rfl,f7 _,A1,Γ,r.grow g1,g1.aa,g1.nB r.b,aA.refl _,em⟩,?_⟩;rintro i n I R ⟨rfl,hi.h,P,z,s,sa,nw,l,m⟩
 by_cases Y:i<Z.length
 . refine .inr ⟨hj.go i R (l.trans s.a) s.b Y,λE H''=>i+1<=Z.length/\∃q U,aQ X.K q B H'' O E U/\aA A q/\New A q B/\aA A1 q/\forR g cl mb (Z.drop (i+1)) U= .ok o,?_,λx H3 y=>?_⟩
   . rintro E H'' ⟨h1,q,U,h2⟩;exact ⟨Z.length - (i+1),by lia,rfl,h1,q,U,h2⟩
   . obtain ⟨q,d,ed,g3,p3⟩:=hj.yld i P R x H3 l s.a s.b Y y;have hd:Z.drop i=d::Z.drop (i+1):=by
      rw[g6 Y];rw[aI Y] at ed;cases ed;rfl
     rw[hd] at m;obtain ⟨U,e3,m⟩:=Co.aq m;obtain ⟨o3,e4,m⟩:=Co.aq m;have j:=sa.trans g3.aa;have p:=nw.trans (g3.nB s.b);refine ⟨q,B,z,d,U,s.grow g3,p3,e3,λσ4 r4 _=>⟨q,B,U,o3,r4,e4,?_⟩⟩;have sb:∀{D':Ends},nj X.K rm Ol O A B D' o->nj X.K rm Ol O q B D' o:=λh=>h.sub j p
     cases o3 with
     | nx C=>exact λQ M H5 S u L=>⟨Y,M,clr cl C,S.iU hE,j.trans u,p.trans L,l.trans (g3.aa.trans u),m⟩
     | ct C=>exact λQ M H5 S u L=>⟨Y,M,clr cl C,S.iU hE,j.trans u,p.trans L,l.trans (g3.aa.trans u),m⟩
     | bk C=>
      cases m;exact λQ M H5 S u L=>k Q M H5 (S.iU hE) (j.trans u) (p.trans L)
     | rt d'=>
      cases m;exact λv M H5 q1 q2 u L rv=>k v M H5 q1 q2 (j.trans u) (p.trans L) rv
 . have e:i=Z.length:=by lia
   subst e;rw[uk] at m;cases m;exact .inl ⟨hj.stop R (l.trans s.a) s.b,k I P R s sa nw⟩
end
noncomputable def whR(c:ME)(cl:B6)(b:MS):Nat->Ev->Co Out
 | 0,_=>.bad
 | n+1,Γ=>(c Γ).bind λx=>match x with
  | .bool true=>(b Γ).bind λo=>match o with
   | .nx Γ2=>whR c cl b n (clr cl Γ2)
   | .ct Γ2=>whR c cl b n (clr cl Γ2)
   | .bk Γ2=>.ok (.nx (clr cl Γ2))
   | .rt d=>.ok (.rt d)
  | .bool false=>.ok (.nx Γ)
  | _=>.bad
noncomputable def dO(fuel:Nat)(c:ME)(cl:B6)(b:MS):MS:=λΓ=>whR c cl b fuel Γ
section
variable    {cl:B6}  {mc:ME}{mb:MS}
theorem uE(S:ua (bX X.prog X.w) X.A X.env X.xe)(fuel:Nat)(cl:B6)(hc:QT X c (tT X.K O mc))(hb:QSs X body (tS X.K rm Oe O Oe mb))(I:oW O Oe cl=true):QS X (.While c body [] pos) (tS X.K rm Ol O O (dO fuel mc cl mb)):=by
 refine QS.imp (GP S hc.h hb.h) λD σ H ⟨A,B,Q,o,r,em,k⟩=>⟨λn q M=>∃i U,aQ X.K i B M O q U/\aA A i/\New A i B/\whR mc cl mb n U= .ok o,⟨fuel,A,Q,r,aA.refl _,λ_ h _=>h,em⟩,?_⟩;rintro n q M ⟨i,U,E,sa,nw,Y⟩
 cases n with
 | zero=>cases Y
 | succ n=>
  obtain ⟨x,e3,Y⟩:=Co.aq Y
  cases x with
  | bool J=>
   refine ⟨i,B,U,J,E,e3,λP H3 g3=>?_⟩;have Z:=sa.trans g3.aa;have e:=nw.trans (g3.nB E.b)
   cases J with
   | false=>
    cases Y;exact vP (k q P H3 (E.grow g3) Z e)
   | true=>
    obtain ⟨L,e4,Y⟩:=Co.aq Y;refine uc ⟨λl z=>∃i U,aQ X.K i B z O l U/\aA A i/\New A i B/\whR mc cl mb n U= .ok o,λl z h=>⟨n,mP _,h⟩,P,B,U,L,E.grow g3,e4,?_⟩
    cases L with
    | nx j=>exact λm u y C s p=>⟨u,clr cl j,C.iU I,Z.trans s,e.trans p,Y⟩
    | ct j=>exact λm u y C s p=>⟨u,clr cl j,C.iU I,Z.trans s,e.trans p,Y⟩
    | bk j=>cases Y;exact λm u y C s p=>k m u y (C.iU I) (Z.trans s) (e.trans p)
    | rt d'=>cases Y;exact λv u y q1 q2 s p R=>k v u y q1 q2 (Z.trans s) (e.trans p) R
  | _=>cases Y
end
noncomputable def qY(g:MG)(c:ME)(e:ME)(Γ:Ev):B5->Co B5
 | []=>.ok []
 | x::xs=>(g x Γ).bind λΓ1=>(c Γ1).bind λt=>match t with
  | .bool true=>(e Γ1).bind λd=>(qY g c e Γ xs).bind λds=>.ok (d::ds)
  | .bool false=>qY g c e Γ xs
  | _=>.bad
noncomputable def jn(nt:Nat)(ix:B6)(Γ:Ev):Ev:=cE nt none++ix.map (gv Γ)
noncomputable def bfl:Fl->Fl
 | .own=>.CC
 | .fix _=>.CC
 | .nst _=>.nst false
 | f=>f
noncomputable def lW(nt:Nat)(ix:B6)(O:C0):C0:=cE nt .CD++ix.map λi=>bfl (fl O i)
noncomputable def bU(it:MI)(g:MG)(c e:ME)(nt:Nat)(ix:B6):ME:=λΓ=>(it Γ).bind λxs=>gd (xs.length<be) ((qY g c e (jn nt ix Γ) xs).bind λds=>.ok (.list ds))
theorem Yg:(σ[i]?).join=sv σ i:=by
 rw[sv,ay]
 cases σ[i]? with
 | none=>rfl
 | some o=>rfl
theorem qR{U:Type}{os:List U}{ix:B6}{f:Nat->U}{d:U}(j:Nat):(os++ix.map f).getD j d=if j<os.length then os.getD j d else match ix[j - os.length]? with | some i=>f i | none=>d:=by
 rw[ay];split
 . rename_i h;rw[dA h,ay]
 . rename_i h;rw[c9 (by lia),a9];cases ix[j - os.length]? <;> rfl
theorem aQ.block(r:aQ K A B H O σ Γ){os:List (Option V)}{Y:Nat}(l:os.length=Y)(ix:B6):aQ K A H H (lW Y ix O) (os++ix.map λi=>(σ[i]?).join) (jn Y ix Γ):=by
 have p:∀j,isO (fl (lW Y ix O) j)=false:=λj=>by
  unfold fl lW;rw[qR,cn];split
  . rw[ay,kq];split <;> rfl
  . cases ix[j - Y]? with
    | none=>rfl
    | some i=>simp only;cases fl O i <;> rfl
 refine ⟨r.a,aA.refl _,?_,λj d e=>?_,λi j _ h1 _ _ _=>absurd (h1.symm.trans (p i)) Bool.noConfusion⟩
 . rw[jn,aw,aw,cn,ai,ai,l]
 . unfold gv jn at e;rw[qR,cn] at e;split at e
   . rw[ay,kq] at e;split at e <;> cases e
   . rename_i hj
     cases q:ix[j - Y]? with
     | none=>rw[q] at e;cases e
     | some i=>
      rw[q] at e;obtain ⟨v,o,U⟩:=r.slot i d e;refine ⟨v,?_,?_⟩
      . rw[sv,qR,if_neg (by lia),l,q];show (σ[i]?).join=some v;rw[Yg];exact o
      . have m:fl (lW Y ix O) j=bfl (fl O i):=by
         unfold fl lW;rw[qR,cn,if_neg hj,q]
        rw[m]
        cases Z:fl O i with
        | CD=>rwa [Z] at U
        | CC=>rw[Z] at U;exact Pk.mono (aA.refl _) r.b U
        | own=>rw[Z] at U;exact Own.pk U
        | fix s=>rw[Z] at U;exact Own.pk U.2
        | exc C=>rwa [Z] at U
        | nst b=>exact λz=>nomatch z
        | kit=>rwa [Z] at U
variable {ifs:C2}
theorem pX.imp{t:TT}(h:pX X ifs t)(i:∀σ H Q,t' σ H Q->t σ H Q):pX X ifs t':=λU s σ H Q I q=>h U s σ H Q I (i σ H Q q)
theorem vZ.imp{t:TT}(h:pX X ifs t)(i:∀σ H Q,t' σ H Q->t σ H Q):vZ X ifs t':=⟨pX.imp h i⟩
theorem eF:vZ X [] (tT X.K O (eC (.bool true))):=vZ.imp RB λY H Q U=>by
 obtain ⟨A,B,Z,b,r,em,k⟩:=U;cases em;exact k A H (aO.refl r.a)
theorem pO(h:QT X c (tT X.K O m)):vZ X [c] (tT X.K O m):=⟨Te h.h⟩
section
variable  {Ob:C0}{tn:B7}{ix:B6}{it:MI}{g:MG}{mc me:ME}
theorem yM(hOb:Ob=lW tn.length ix O){nt:Nat}(hnt:nt=tn.length){is:B6}(his:∀j∈is,j<tn.length){Q:VK}(h:tF K O (bU it g mc me nt ix) σ H Q):El tn ix (tIc K O it) (tG K Ob O1 is g) (tT K O1 mc) (tE K O1 me) σ H Q:=by
 subst hOb hnt;obtain ⟨A,B,Γ,d,r,em,k⟩:=h;obtain ⟨m,e1,em⟩:=Co.aq em;obtain ⟨hz,em⟩:=bZ em;obtain ⟨ds,e2,em⟩:=Co.aq em;cases em;refine ⟨A,B,Γ,m,r,e1,λJ A1 H1 P hj D hD=>?_⟩;have r1:=r.grow P;have hAD:=P.ah.free hD;refine ⟨λi n σb E M=>n=m.length - i/\i<=m.length/\E.length<=i/\(∃os:List (Option V),os.length=tn.length/\σb=os++ix.map λi=>(σ[i]?).join)/\∃L,aA A1 L/\New A1 L H1/\aA L M/\aA H1 M/\L D=none/\M D=some (.lst E) /\
  ∃Z I,ds=Z++I/\au K L Z E/\qY g mc me (jn tn.length ix Γ) (m.drop i)= .ok I,⟨m.length,rfl,f7 _,f7 _,⟨_,cn,rfl⟩,A1,aA.refl _,λ_ h _=>h,P.ah.trans (aA.new hD _),aA.new hD _,hAD,bc,[],ds,rfl,au.nil.mpr rfl,e2⟩,?_⟩
 rintro i n σb E M ⟨rfl,hi,hacc,⟨os,ho,rfl⟩,L,o,nw,s2,U,a2,s,Z,I,rfl,rp,Y⟩;refine ⟨s,?_⟩
 by_cases l:i<m.length
 . refine .inr ⟨hj.go i M (o.trans s2) U l,by lia,λx H3 y=>?_⟩;obtain ⟨A3,dx,ed,g3,p3⟩:=hj.yld i L M x H3 o s2 U l y;have hd:m.drop i=dx::m.drop (i+1):=by
    rw[g6 l];rw[aI l] at ed;cases ed;rfl
   rw[hd] at Y;obtain ⟨R,e4,Y⟩:=Co.aq Y;obtain ⟨t,e5,Y⟩:=Co.aq Y;have rb:=by
    have rr:aQ K A3 B H3 O σ Γ:=by
     refine ⟨g3.ah,r1.b.trans (U.trans g3.hh),r1.len,λj=>?_,r1.sep⟩;intro d' e';obtain ⟨v',e'',q⟩:=r1.slot j d' e';refine ⟨v',e'',?_⟩
     cases S:fl O j with
     | CD=>rw[S] at q;exact Rp.mono (o.trans g3.aa) d' q
     | CC=>rw[S] at q;exact Pk.mono (o.trans g3.aa) (aA.refl _) q
     | own=>
      rw[S] at q;obtain ⟨p',o',rfl,u1,u2,u3,u4⟩:=q;have n1:=nw p' u2 (by rw[u1];simp);exact ⟨p',o',rfl,g3.hh _ _ (U _ _ u1),g3.nw p' n1 (by rw[U _ _ u1];simp),u3,u4.mono (o.trans g3.aa)⟩
     | fix p0=>
      rw[S] at q;obtain ⟨q0,p',o',rfl,u1,u2,u3,u4⟩:=q;have n1:=nw p' u2 (by rw[u1];simp);exact ⟨q0,p',o',rfl,g3.hh _ _ (U _ _ u1),g3.nw p' n1 (by rw[U _ _ u1];simp),u3,u4.mono (o.trans g3.aa)⟩
     | kit=>rw[S] at q;exact wz.mono (o.trans g3.aa) q
     | exc C=>
      rw[S] at q;obtain ⟨p',ob,w1,w2,w3⟩:=q;exact ⟨p',ob,w1,(o.trans g3.aa) _ _ w2,w3⟩
     | nst b=>
      rw[S] at q;intro z;obtain ⟨p',m,Cb,w1,w2,w3,w4,w5,w6⟩:=q z;have n1:=nw p' w4 (by rw[w3];simp);exact ⟨p',m,Cb,w1,w2,g3.hh _ _ (U _ _ w3),g3.nw p' n1 (by rw[U _ _ w3];simp),w5,w6.mono (o.trans g3.aa)⟩
    exact rr.block ho ix
   refine ⟨A3,H3,_,dx,R,rb,p3,e4,λσ4 r4 y4=>?_⟩;have hos:∃os':List (Option V),os'.length=tn.length/\σ4=os'++ix.map λi=>(σ[i]?).join:=by
    have hl4:σ4.length=tn.length+ix.length:=by rw[y4.1,aw,ai,ho]
    refine ⟨σ4.take tn.length,by rw[c6];lia,sP λj=>?_⟩;rcases iA j tn.length with hj | hj
    . rw[dA (by rw[c6];lia),nV hj]
    . rw[y4.2 j (λz=>absurd (his j z) (by lia)),c9 (by lia),c9 (by rw[c6];lia),c6,ho];congr 1;lia
   cases t with
   | bool bb=>
    refine ⟨A3,H3,R,bb,r4,e5,λA4 H4 g4=>?_⟩;have nw4:=nw.trans ((g3.trans g4).nw.mono U);have hD4:=g4.hh _ _ (g3.hh _ _ s);have a4:=(g3.trans g4).nw D a2 (by rw[s];simp)
    cases bb with
    | false=>
     refine vP ⟨m.length - (i+1),by lia,rfl,l,by lia,hos,A4,o.trans (g3.trans g4).aa,nw4,g4.ah,U.trans (g3.trans g4).hh,a4,hD4,Z,I,rfl,au.mono (g3.trans g4).aa _ rp,Y⟩
    | true=>
     obtain ⟨dv,e6,Y⟩:=Co.aq Y;obtain ⟨ds3,e7,Y⟩:=Co.aq Y;cases Y;refine uc ⟨A4,H3,R,dv,r4.grow g4,e6,λv A5 H5 g5 p5=>?_⟩;have gg:=(g3.trans g4).trans g5;have hD5:=g5.hh _ _ hD4;have a5:=gg.nw D a2 (by rw[s];simp);refine ⟨hD5,m.length - (i+1),by lia,rfl,l,by rw[aw,d5];lia,hos,A5,o.trans gg.aa,nw.trans (gg.nw.mono U),λb u q=>?_,?_,a5,bc,Z++[dv],ds3,by rw[da];rfl,(au.mono gg.aa _ rp).append (au.one p5),e7⟩
     . have hb:b≠D:=λz=>by rw[z,a5] at q;cases q
       rw[aL hb];exact g5.ah b u q
     . exact (U.trans gg.hh).up hD
   | _=>cases Y
 . have e:i=m.length:=by lia
   subst e;rw[uk] at Y;cases Y;rw[cy] at k;refine .inl ⟨hj.stop M (o.trans s2) U,k _ L M ⟨P.aa.trans o,P.hh.trans U,s2,λp n1 n2=>nw p (P.nw p n1 n2) (aA.ne P.hh n2)⟩ ⟨D,_,rfl,P.hh.free hD,s,a2,.inl ⟨Z,E,rfl,rfl,rp⟩⟩⟩
end
variable {scope:xa}
section
variable  {Ob:C0}  {tn:B7}{ix is:B6}{it:MI}{g:MG}{mc me:ME}{elt iter:Expr}   {nt:Nat}
theorem eN(Z:B7)(ix:B6)(S:gK X scope ix=true)(o:X.calm=true)(i:Ob=lW Z.length ix O)(l:nt=Z.length)(e:∀j∈is,j<Z.length)(hi:QI X tg iter (tIc X.K O it))
 (m:∀cl C U Y fp,QG (X.comp scope Z ix cl C U Y fp) tg (tG X.K Ob O1 is g)) (p:∀cl C U Y fp,vZ (X.comp scope Z ix cl C U Y fp) ifs (tT X.K O1 mc)) (q:∀cl C U Y fp,QE (X.comp scope Z ix cl C U Y fp) elt (tE X.K O1 me))
 (hs:∀x,jv iter X.env x=pure x:=by intro _;rfl):QE X (.ListComp elt [⟨tg,iter,ifs,0⟩] scope pos) (tF X.K O (bU it g mc me nt ix)):=
 QE.imp (Xy S o hi.h (λcl C U Y fp=>(m cl C U Y fp).h) (λcl C U Y fp=>(p cl C U Y fp).h) (λcl C U Y fp=>(q cl C U Y fp).h) hs) λr H Q h=>yM i l e h
theorem JR(i:Nat)(e:B7)(ix:B6){y:Str}{Z:Pos}(s:X.N.Nodup)(q:X.N[i]?=some y)(hy:Loc X.env.scope y)(S:gK X scope ix=true)(I:X.calm=true)(p:Ob=lW e.length ix O)(l:nt=e.length)(o:∀j∈is,j<e.length)(hi:QI X tg iter (tIc X.K O it))
 (r:∀cl C U Y fp,QG (X.comp scope e ix cl C U Y fp) tg (tG X.K Ob O1 is g)) (z:∀cl C U Y fp,vZ (X.comp scope e ix cl C U Y fp) ifs (tT X.K O1 mc)) (B:∀cl C U Y fp,QE (X.comp scope e ix cl C U Y fp) elt (tE X.K O1 me))
 (v:i<O.length:=by exact of_decide_eq_true rfl) (m:i4 (.ListComp elt [⟨tg,iter,ifs,0⟩] scope pos) (some (.Name y pos')) Z.line X.env=pure true:=by rfl)
 (u:X.fn y=true\/X.env.scope.names.lookup y=some .local:=by walk_at "hf")
 (hs:∀x,jv iter X.env x=pure x:=by intro _;rfl) (E:O.set i .own=O2:=by rfl):QS X (.Assign [.Name y pos'] (.ListComp elt [⟨tg,iter,ifs,0⟩] scope pos) Z) (tS X.K rm Ol O O2 (aN i (bU it g mc me nt ix))):=
 E ▸ QS.imp (J7 s q hy S I hi.h (λcl C U Y fp=>(r cl C U Y fp).h) (λcl C U Y fp=>(z cl C U Y fp).h) (λcl C U Y fp=>(B cl C U Y fp).h) m u hs) λD J H=>wQ (λJ H Q h=>yM p l o h) v
end
noncomputable def lY(i:Nat)(m:ME):MS:=λΓ=>(m Γ).bind λd=>match gv Γ i with
 | some (.list ds)=>gd (ds.length<be/\i < Γ.length) (.ok (.nx (Γ.set i (some (.list (ds++[d]))))))
 | _=>.bad
noncomputable def vN(i:Nat)(m:ME):MS:=λΓ=>(m Γ).bind λd=>match gv Γ i,d with
 | some (.list ds),.list es=>gd (ds.length+es.length<=be/\i < Γ.length) (.ok (.nx (Γ.set i (some (.list (ds++es))))))
 | _,_=>.bad
variable {cpos:Pos}
section
variable     {a b:Expr}{p apos:Pos}
theorem uZ(r:aQ K A B H O σ Γ)(hi:isO (fl O i)=true)(Y:gv Γ i=some (.list ds)):∃q vs,sv σ i=some (.ref q)/\H q=some (.lst vs)/\au K A ds vs:=by
 obtain ⟨d,q,o,U,e,h1,h2,m,⟨j,vs,rfl,rfl,Z⟩ | ⟨l,u,rfl,rfl,Z⟩⟩:=r.pP hi (by rw[Y];simp)
 rotate_right
 . rw[Y] at U;cases U
 rw[Y] at U;cases U;exact ⟨q,vs,e,h1,Z⟩
theorem qt(i:Nat)(L:QE X e (tE X.K O m))(hi:isO (fl O i)=true:=by rfl)(nm:Nm X i x:=by walk_at "nm")(Y:lp (.Name x p) "append" X.env (eval (.Name x p) X.env)=eval (.Name x p) X.env:=by rfl)
 (l:((nS cpos (dk (e::[]) X.env)).all (λx=>!x.1)&&(Bn cpos (vv [] X.env)).all (λx=>x.1.isSome)
  && decide ((e::[]).length+([]:List sF).length+(if ([]:List sF).isEmpty then 0 else 1)<30))=true:=by rfl)
 (Z:(apos.endLine == cpos.line)=true:=by rfl) (hs:dk (e::[]) X.env=(false,eval e X.env)::dk [] X.env:=by rfl) (U:(nS cpos (dk [] X.env)).any (·.1)=false:=by rfl)
 (z:i4 (.Call (.Attribute (.Name x p) "append" apos) [e] [] cpos) none pos.line X.env=pure false:=by rfl) :
 QS X (.Expr (.Call (.Attribute (.Name x p) "append" apos) [e] [] cpos) pos) (tS X.K rm Ol O O (lY i m)):=by
 refine QS.imp (rY (Er l7 PySem.F.slot_list_append PySem.F.type_list_append DG (fD nm.1 nm.2 nm.3 nm.4) (cC L.h eO hs) Y l Z hs U) z) λD R H s=>?_;obtain ⟨A,B,I,o,r,em,k⟩:=s;obtain ⟨d,M,em⟩:=Co.aq em
 cases u:gv I i with
 | none=>rw[u] at em;cases em
 | some dl=>
  rw[u] at em
  cases dl with
  | list ds=>
   obtain ⟨⟨S,y⟩,em⟩:=bZ em;cases em;obtain ⟨q,J,C,h1,E⟩:=uZ r hi u;refine ⟨.ref q,fC C,.inl ⟨rfl,J,SqL.of h1⟩,A,B,I,d,r,M,λv P H1 j Q=>⟨q,J,v,rfl,rfl,j.hh _ _ h1,by rw[<- E.length];exact S,?_⟩⟩;exact k R P _ ((r.grow j).change hi y (by rw[u];simp) C (j.hh _ _ h1) (.inl ⟨_,_,rfl,rfl,(au.mono j.aa _ E).append (au.one Q)⟩)) j.aa (j.nB r.b)
  | _=>cases em
def Vm:V->C1->Hp->VK->Prop:=λx vs H Q=>∃l b xs zs,x= .ref l/\vs=[.ref b]/\H l=some (.lst xs)/\Rd H b (.lst zs)/\xs.length+zs.length<=be/\Q .non (CB H l (.lst (xs++zs)))
theorem MP:MtM X "list.extend" Vm:=by
 rintro o s P H x M v R Q I C E ⟨l,b,J,S,rfl,rfl,m,B,hz,q⟩;cases C;obtain ⟨u,rfl,D⟩:=E.one;cases D;obtain ⟨z,Y,n,r,O,e⟩:=I.Lg m;obtain ⟨L,U,n2,j,y⟩:=B.ok I.CH;have p:=j.length;have i:Y.toArray.size+U.toArray.size<=be:=by rw[br,br];lia
 have Z:¬ (!Y.toArray.isEmpty&&lx (Y.toArray.size+U.toArray.size))=true:=by
  rw[Fi i,sQ];exact iO
 refine uj pT ⟨_,e,rfl⟩ F.entry_list_extend (F.args_list_extend_2 _ _)
  (AutoSeq1.list_extend_list_list_0 l Y.toArray n b U.toArray n2 Z (by rw[br];lia) (by lia)) ⟨e,y,?_⟩
 refine ⟨.non,_,I.Lq m e (by simp) (r.append j) ?_,rfl,q⟩;rw[aw];lia
theorem aaL(i:Nat)(R:QE X e (tF X.K O m))(hi:isO (fl O i)=true:=by rfl)(nm:Nm X i x:=by walk_at "nm")(Y:lp (.Name x p) "extend" X.env (eval (.Name x p) X.env)=eval (.Name x p) X.env:=by rfl)
 (l:((nS cpos (dk (e::[]) X.env)).all (λx=>!x.1)&&(Bn cpos (vv [] X.env)).all (λx=>x.1.isSome)
  && decide ((e::[]).length+([]:List sF).length+(if ([]:List sF).isEmpty then 0 else 1)<30))=true:=by rfl)
 (Z:(apos.endLine == cpos.line)=true:=by rfl) (hs:dk (e::[]) X.env=(false,eval e X.env)::dk [] X.env:=by rfl) (U:(nS cpos (dk [] X.env)).any (·.1)=false:=by rfl)
 (z:i4 (.Call (.Attribute (.Name x p) "extend" apos) [e] [] cpos) none pos.line X.env=pure false:=by rfl) :
 QS X (.Expr (.Call (.Attribute (.Name x p) "extend" apos) [e] [] cpos) pos) (tS X.K rm Ol O O (vN i m)):=by
 refine QS.imp (rY (Er l7 pT y7 MP (fD nm.1 nm.2 nm.3 nm.4) (cC R.h eO hs) Y l Z hs U) z) λD σ H s=>?_;obtain ⟨A,B,J,o,r,em,k⟩:=s;obtain ⟨d,S,em⟩:=Co.aq em
 cases u:gv J i with
 | none=>rw[u] at em;cases em
 | some dl=>
  rw[u] at em
  cases dl with
  | list ds=>
   cases d with
   | list es=>
    obtain ⟨⟨hc,y⟩,em⟩:=bZ em;cases em;obtain ⟨q,L,E,h1,I⟩:=uZ r hi u;refine ⟨.ref q,fC E,.inl ⟨rfl,L,SqL.of h1⟩,A,B,J,_,r,S,λv A1 H1 j p1=>?_⟩;obtain ⟨q2,o2,rfl,h0,h5,h7,⟨P,Q,C,rfl,M⟩ | ⟨_,_,C,_⟩⟩:=p1
    rotate_right
    . cases C
    cases C;refine ⟨q,q2,L,Q,rfl,rfl,j.hh _ _ h1,.inl h5,by rw[<- I.length,<- M.length];exact hc,?_⟩;exact k σ A1 _ ((r.grow j).change hi y (by rw[u];simp) E (j.hh _ _ h1) (.inl ⟨_,_,rfl,rfl,(au.mono j.aa _ I).append M⟩)) j.aa (j.nB r.b)
   | _=>cases em
  | _=>cases em
end
noncomputable def intsOf:B5->Option B4
 | []=>some []
 | .int i::ds=>(intsOf ds).map (i :: ·)
 | _::_=>none
theorem nR:∀{ds:B5}{ns:B4},intsOf ds=some ns->ds=ns.map af.int
 | [],ns,h=>by cases h;rfl
 | .int i::ds,ns,h=>by
  unfold intsOf at h
  cases e:intsOf ds with
  | none=>rw[e] at h;cases h
  | some U=>rw[e] at h;cases h;rw[nR e];rfl
@[simp] theorem ji (ns:B4):intsOf (ns.map af.int)=some ns:=by
 induction ns with
 | nil=>rfl
 | cons n ns U=>rw[b9,intsOf,U];rfl
noncomputable def boolsOf:B5->Option (List Bool)
 | []=>some []
 | .bool i::ds=>(boolsOf ds).map (i :: ·)
 | _::_=>none
theorem Ac:∀{ds:B5}{ns:List Bool},boolsOf ds=some ns->ds=ns.map af.bool
 | [],ns,h=>by cases h;rfl
 | .bool i::ds,ns,h=>by
  unfold boolsOf at h
  cases e:boolsOf ds with
  | none=>rw[e] at h;cases h
  | some U=>rw[e] at h;cases h;rw[Ac e];rfl
@[simp] theorem Jo (ns:List Bool):boolsOf (ns.map af.bool)=some ns:=by
 induction ns with
 | nil=>rfl
 | cons n ns U=>rw[b9,boolsOf,U];rfl
noncomputable def Ar:B5->Co af
 | [.list ds]=>match intsOf ds with
  | some ns=>.ok (.int ns.sum)
  | none=>.bad
 | _=>.bad
noncomputable def Nz:B5->Co af
 | [.list ds]=>match boolsOf ds with
  | some bs=>.ok (.bool (bs.all id))
  | none=>.bad
 | _=>.bad
theorem au.Tv:∀{ns:B4}{vs:C1},au K A (ns.map af.int) vs->vs=ns.map V.int
 | [],vs,h=>by rwa [ll,au.nil] at h
 | n::ns,vs,h=>by
  rw[b9,au.cons] at h;obtain ⟨v,r,rfl,h1,h2⟩:=h;rw[Rp.int.mp h1,h2.Tv];rfl
theorem au.We:∀{ns:List Bool}{vs:C1},au K A (ns.map af.bool) vs->vs=ns.map V.bl
 | [],vs,h=>by rwa [ll,au.nil] at h
 | n::ns,vs,h=>by
  rw[b9,au.cons] at h;obtain ⟨v,r,rfl,h1,h2⟩:=h;rw[Rp.bool.mp h1,h2.We];rfl
theorem Df:∀{ns:B4}{us:B9},CA (ns.map V.int) us->oa us ns
 | [],_,.nil=>.nil
 | n::ns,_,.cons r t=>by
  obtain ⟨U,rfl⟩:=r;exact .cons n U (Df t)
theorem zH:∀{ns:List Bool}{us:B9},CA (ns.map V.bl) us->us=ns.map a0.bool
 | [],_,.nil=>rfl
 | n::ns,_,.cons r t=>by
  rw[r,zH t];rfl
theorem Hw(L:X.calm=true):eH X (.builtin "sum") (rC X.K Ar):=by
 rintro j s σ H M P Q I r ⟨A,z,d,e,ha,p,k⟩
 match z,e with
 | [.list es],e=>
  have Y:(match intsOf es with | some ns=>Co.ok (af.int ns.sum) | none=>.bad)= .ok d:=e
  cases Z:intsOf es with
  | none=>rw[Z] at Y;cases Y
  | some ns=>
   rw[Z] at Y;cases Y;obtain rfl:=nR Z;obtain ⟨v,O,rfl,D,E⟩:=p.cons;obtain rfl:=E.nil;obtain ⟨l,vs,rfl,h1,q1⟩:=D.list ha;obtain rfl:=q1.Tv;obtain ⟨u,rfl,x⟩:=CA.one r;cases x;obtain ⟨C,B,y,hz⟩:=I.list h1;have hi:=Df B;have U:=hi.allInts;obtain ⟨i,m⟩:=U.items;have q:=nums_intItems i;refine sum_intListG (I.ok.hd L) (by rw[<- m];exact y.isList) λS R J hk=>?_;have o:numsOf (intItems i).toList=ns:=by
    rw[<- m];exact hi.numsOf
   rw[q] at o;rw[preSum_eq,eg (by simp),o];exact ⟨.int ns.sum,H,I.kept hk,⟨J,rfl⟩,k _ A H (aO.refl ha) (Rp.int.mpr rfl)⟩
theorem Iu{A:eK}{bs:List Bool}:TruthOf P w A (λi v=>(bs.map a0.bool).toArray[i]?=some v) (λi=>bs.getD i false):=by
 intro i v s Q E hP Z;have U:(bs.map a0.bool)[i]?=some v:=by simpa using hP
 rw[a9] at U
 cases e:bs[i]? with
 | none=>rw[e] at U;cases U
 | some b=>
  rw[e] at U;cases U;have Y:Q (bs.getD i false) s:=Z;rw[ay,e] at Y;exact kC Y
theorem all_range(bs:List Bool):((c8 bs.length).all λi=>bs.getD i false)=bs.all id:=by
 rw[vT,hZ,hZ];refine ⟨λh b Y=>?_,λh i hi=>?_⟩
 . obtain ⟨i,hi,rfl⟩:=List.getElem_of_mem Y;have:=h i (d6.mpr hi);rwa [ay,aI hi] at this
 . have U:=d6.mp hi;rw[ay,aI U];exact h _ (i5 U)
theorem Py(J:X.calm=true):eH X (.builtin "all") (rC X.K Nz):=by
 rintro m s σ H L O Q I r ⟨A,y,d,e,ha,p,k⟩
 match y,e with
 | [.list es],e=>
  have U:(match boolsOf es with | some ns=>Co.ok (af.bool (ns.all id)) | none=>.bad)= .ok d:=e
  cases j:boolsOf es with
  | none=>rw[j] at U;cases U
  | some bs=>
   rw[j] at U;cases U;obtain rfl:=Ac j;obtain ⟨v,M,rfl,D,E⟩:=p.cons;obtain rfl:=E.nil;obtain ⟨l,S,rfl,h1,q1⟩:=D.list ha;obtain rfl:=q1.We;obtain ⟨u,rfl,x⟩:=CA.one r;cases x;obtain ⟨C,B,Y,hz⟩:=I.list h1;obtain rfl:=zH B;have Z:=Y.lt;refine call_all_walk (sN Y.isList ⟨_,_,_,_,_,_,λi=>bs.getD i false,rfl,Walks.list (A:=X.A.in1) (I.ok.hd J) s.heap.objs.size l (cS Z) (bs.map a0.bool).toArray,⟨⟨_,bo _ rfl,rfl,rfl⟩,Y.isList.push _⟩,Iu,λR P hk=>?_⟩);have e4:(bs.map a0.bool).toArray.size=bs.length:=by simp
   rw[e4,all_range];exact ⟨.bl _,H,I.kept λb o q=>hk b o (λz=>absurd (aS.mp z) (cS (bg q))) (av _ q),rfl,k _ A H (aO.refl ha) (Rp.bool.mpr rfl)⟩
variable {ns:B4}
theorem K6{a:Addr}{f:B5->Co af}{U:Fl}{E:XK}(Z:f [.list (ns.map af.int)]= .ok (.bool true))(e:SqL K H a (ns.map V.int)):spF K [U] .f f [.ref a] H (λv _=>v= .bl true) E:=by
 refine ⟨H,[.list (ns.map af.int)],.bool true,aA.refl _,⟨_,_,_,_,rfl,rfl,?_,rfl,rfl⟩,Z,λv Y j g p=>(Rp.bool (K:=K) (A:=Y)).mp p⟩;have q:=Rp.list.mpr ⟨a,_,rfl,e,au.ints⟩
 cases U with
 | CD=>exact q
 | CC=>exact .inl q
 | own=>exact .inl q
 | fix i=>exact .inl q
 | exc C=>exact .inl q
 | nst b=>exact .inl q
 | kit=>exact .inl q
variable {a b:C9}{hi:Nat}{y:zw}
structure Mv (lo hi:Nat) (st st':dP):Prop where
 kind:kindOf st'=kindOf st
 failed:rh st'=rh st
 pend:fi st'=fi st
 perm:(cm st').Perm (cm st)
 out:∀i,i<lo\/hi<=i->ag (cm st') i=ag (cm st) i
structure Sk (st:dP):Prop where
 kind:kindOf st=rk
 failed:rh st=none
 keys:IntKeys (cm st)
def Seg(a:C9)(lo hi:Nat):Prop:=∀i j,lo<=i->i<=j->j<hi->ag a i<=ag a j
def Dsc(a:C9)(lo hi:Nat):Prop:=∀i j,lo<=i->i<=j->j<hi->ag a j<=ag a i
theorem Mv.refl(lo hi:Nat)(st:dP):Mv lo hi st st:=⟨rfl,rfl,rfl,.refl _,λ_ _=>rfl⟩
theorem Mv.trans{lo:Nat}{a b c:dP}(x:Mv lo hi a b)(y:Mv lo hi b c):Mv lo hi a c:=
 ⟨y.kind.trans x.kind,y.failed.trans x.failed,y.pend.trans x.pend,y.perm.trans x.perm,λi h=>(y.out i h).trans (x.out i h)⟩
theorem Mv.wide{lo U:Nat}{a b:dP}(x:Mv lo hi a b)(h1:j<=lo)(h2:hi<=U):Mv j U a b:=
 ⟨x.kind,x.failed,x.pend,x.perm,λi h=>x.out i (by lia)⟩
theorem Mv.size{lo:Nat}{a b:dP}(x:Mv lo hi a b):(cm b).size=(cm a).size:=x.perm.size_eq
theorem keys_perm(h:a.Perm b)(k:IntKeys b):IntKeys a:=λp U=>k p ((xp.mp h).mem_iff.mp U)
theorem Mv.sk{lo:Nat}{a b:dP}(x:Mv lo hi a b)(k:Sk a):Sk b:=⟨x.kind.trans k.kind,x.failed.trans k.failed,keys_perm x.perm k.keys⟩
theorem Mv.arr{lo:Nat}{st:dP}(Y:a.Perm (cm st))(U:∀i,i<lo\/hi<=i->ag a i=ag (cm st) i):Mv lo hi st (setArr st a):=⟨rfl,rfl,rfl,Y,U⟩
theorem ZJ(h:IntKeys a)(hi:i<a.size):∃t q,a[i]?=some (.int (ag a i) t,q):=by
 obtain ⟨n,t,U⟩:=h a[i] (by simp);refine ⟨t,a[i].2,?_⟩;rw[getElem?_pos a i hi];have e:ag a i=n:=by rw[ag,getElem?_pos a i hi];simp only[U];rfl
 rw[e];exact congrArg some (Prod.ext U rfl)
section
variable   {A:eK}
theorem wk{st:dP}{Q:Option Bool->dP->Prop}(k:Sk st)(hi:i<(cm st).size)(hj:j<(cm st).size)
 (h:Q (some (decide (ag (cm st) i<ag (cm st) j))) st):wpS (bX prog w) A E s (ltAt' i j) Q st:=by
 obtain ⟨t,p,U⟩:=ZJ k.keys hi;obtain ⟨u,q,Y⟩:=ZJ k.keys hj;exact wpS_ltAt k.kind U Y h
theorem wX{st:dP}{x:zw}{Q:Option Bool->dP->Prop}(k:kindOf st=rk)(hx:∃n t,x.1= .int n t)(hy:∃n t,y.1= .int n t)
 (h:Q (some (decide (kz x.1<kz y.1))) st):wpS (bX prog w) A E s (lt' x y) Q st:=by
 obtain ⟨a,t,U⟩:=hx;obtain ⟨b,u,Y⟩:=hy;rw[lt'_eq];refine cb (yk ?_);rw[k,keyLt'_oneType,U,Y];rw[U,Y] at h;exact cb (Au (n4 (oneLt_int ⟨rfl,cq h⟩)))
theorem dJ{st:dP}{Q:zw->dP->Prop}(hi:i<a.size)(h:Q a[i] st):wpS (bX prog w) A E s (oj a i) Q st:=by
 rw[elem'_eq,getElem?_pos a i hi];exact cq h
theorem Yy{st:dP}{lo n ok:Nat}{Q:Bool->dP->Prop}(k:Sk st)(D:lo+n<=(cm st).size)(CH:ok<=n)(hs:Seg (cm st) lo (lo+ok))
 (h:∀Y,Mv lo (lo+n) st Y->Seg (cm Y) lo (lo+n)->Q true Y):wpS (bX prog w) A E s (binarySort' lo n ok) Q st:=by
 rw[binarySort'_eq];refine cb (om (hJ (I:=λk c b=>c=(none,())/\Mv lo (lo+n) st b/\Seg (cm b) lo (lo+min k n))
  (Q:=λc b=>c=(none,())/\Mv lo (lo+n) st b/\Seg (cm b) lo (lo+n)) ?step ?fin ?init) ?post)
 case post=>
  rintro c b ⟨rfl,m,g⟩;exact cq (h b m g)
 case init=>
  refine ⟨rfl,.refl _ _ _,λi j hi hij hj=>?_⟩
  by_cases h1:ok=0
  . have:i=j:=by lia
    subst this;exact ia _
  . exact hs i j hi hij (by lia)
 case fin=>
  rintro c b ⟨C,m,g⟩;rw[show min (max (max ok 1) n) n=n by lia] at g;exact ⟨C,m,g⟩
 case step=>
  rintro x c b u z ⟨rfl,m,g⟩;rw[show min x n=x by lia] at g;have B:=m.sk k;have sz:=m.size;refine cb (om (hJ (I:=λy c U=>U=b/\∃l r,c=(none,l,r)/\l<=r/\r<=x/\r - l<=x - y /\
   (∀i,i<l->ag (cm b) (lo+i)<=ag (cm b) (lo+x))/\(∀i,r<=i->i<x->ag (cm b) (lo+x)<ag (cm b) (lo+i)))
   (Q:=λc U=>U=b/\∃l r,c=(none,l,r)/\l<=x /\
    (∀i,i<l->ag (cm b) (lo+i)<=ag (cm b) (lo+x))/\(∀i,l<=i->i<x->ag (cm b) (lo+x)<ag (cm b) (lo+i))) ?istep ?ifin ?iinit) ?ipost)
  case iinit=>exact ⟨rfl,0,x,rfl,by lia,by lia,by lia,λi hi=>by lia,λi h1 h2=>by lia⟩
  case ifin=>
   rintro c U ⟨rfl,l,r,rfl,q1,q2,q3,q4,q5⟩;have:l=r:=by lia
   subst this;exact ⟨rfl,l,l,rfl,q2,q4,q5⟩
  case istep=>
   rintro y c U _ v ⟨rfl,l,r,rfl,q1,q2,q3,q4,q5⟩
   dsimp only
   by_cases hge:l>=r
   . rw[if_pos hge];have:l=r:=by lia
     subst this;exact cq ⟨rfl,l,l,rfl,q2,q4,q5⟩
   . rw[if_neg hge];refine cb (wk B (by lia) (by lia) ?_)
     by_cases Z:ag (cm U) (lo+x)<ag (cm U) (lo+(l+r) / 2)
     . simp only[Z,decide_true,if_true];refine cq ⟨rfl,l,(l+r) / 2,rfl,by lia,by lia,by lia,q4,λi h1 h2=>?_⟩;exact Int.lt_of_lt_of_le Z (g _ _ (by lia) (by lia) (by lia))
     . simp only[Z,decide_false,if_false];refine cq ⟨rfl,(l+r) / 2+1,r,rfl,by lia,by lia,by lia,λi h1=>?_,q5⟩;exact gx (g (lo+i) (lo+(l+r) / 2) (by lia) (by lia) (by lia)) (AR.mp Z)
  case ipost=>
   rintro c U ⟨rfl,l,r,rfl,q1,q4,q5⟩;show wpS _ _ _ _ (do moveDown' (lo+x) (lo+l);pure (j2 (none,()))) _ _;rw[moveDown'_eq];have e:lo+x<(cm U).size:=by lia
   have p:∀i,ag (bubble (cm U) (lo+x) (lo+x - (lo+l))) i=if i=lo+l then ag (cm U) (lo+x) else if lo+l<i/\i<=lo+x then ag (cm U) (i - 1) else ag (cm U) i:=by
    intro i;rw[K_bubble e (by lia),show lo+x - (lo+x - (lo+l))=lo+l by lia]
   refine cb (uu (cq ⟨rfl,m.trans (.arr (bubble_perm _ _ _) λi hi=>?_),?_⟩))
   . rw[p,if_neg (by lia),if_neg (by lia)]
   rw[show min (x+1) n=x+1 by lia];intro i j hi hij hj;rw[p,p];have q:=λi h1 h2=>by have:=q4 (i - lo) (by lia);rwa [show lo+(i - lo)=i by lia] at this
   have o:∀i,lo+l<=i->i<lo+x->ag (cm U) (lo+x)<ag (cm U) i:=λi h1 h2=>by have:=q5 (i - lo) (by lia) (by lia);rwa [show lo+(i - lo)=i by lia] at this
   repeat' split
   all_goals first
    | (exfalso;lia)
    | exact ia _
    | exact q _ (by lia) (by lia)
    | exact fy (o _ (by lia) (by lia))
    | exact g _ _ (by lia) (by lia) (by lia)
theorem yW{st:dP}{Q:Unit->dP->Prop}(h:Q () (setArr st (mirror (cm st) i j ((j - i) / 2)))) :
 wpS (bX prog w) A E s (ve i j) Q st:=by
 rw[reverseSlice'_eq];exact uu h
theorem Mv.rev{lo:Nat}{st:dP}(h1:lo<=i)(h2:j<=hi)(U:j<=(cm st).size):Mv lo hi st (setArr st (mirror (cm st) i j ((j - i) / 2))):=
 .arr (mirror_perm _ _ _ _) λk hk=>by rw[K_mirror U,if_neg (by lia)]
noncomputable def upL(lo a n:Nat):StateT dP Sem (Option (Option Nat)×Nat):=
 forIn [a:n] (none,a) λ_ c=>do
  match <- ltAt' (lo+c.snd) (lo+c.snd - 1) with
  | some b=>if b=true then pure (.done (none,c.snd)) else pure (.yield (none,c.snd+1))
  | _=>pure (.done (some none,c.snd))
noncomputable def upE(lo a n:Nat):StateT dP Sem (Option Nat):=do
 ve lo (lo+a)
 let c <- upL lo a n
 match c.fst with
 | some r=>pure r
 | none=>pure (some c.snd)
noncomputable def dnL(lo a n:Nat):StateT dP Sem (Option (Option Nat)×Nat×Nat):=
 forIn [a:n] (none,a,0) λ_ c=>do
  match <- ltAt' (lo+c.snd.fst) (lo+c.snd.fst - 1) with
  | some b=>
   if b=true then
    if c.snd.snd > 0 then do
     ve (lo+c.snd.fst - (c.snd.snd+1)) (lo+c.snd.fst)
     pure (.yield (none,c.snd.fst+1,0))
    else pure (.yield (none,c.snd.fst+1,0))
   else do
    match <- ltAt' (lo+c.snd.fst - 1) (lo+c.snd.fst) with
    | some b'=>if b'=true then pure (.done (none,c.snd.fst,c.snd.snd)) else pure (.yield (none,c.snd.fst+1,c.snd.snd+1))
    | _=>pure (.done (some none,c.snd.fst,c.snd.snd))
  | _=>pure (.done (some none,c.snd.fst,c.snd.snd))
noncomputable def dnE(lo a n:Nat):StateT dP Sem (Option Nat):=do
 liftM (rule "list.sort.descending-run")
 let c <- dnL lo (a+1) n
 match c.fst with
 | some r=>pure r
 | none=>
  if c.snd.snd > 0 then do
   ve (lo+c.snd.fst - (c.snd.snd+1)) (lo+c.snd.fst)
   upE lo c.snd.fst n
  else upE lo c.snd.fst n
theorem KH{st:dP}{lo a n:Nat}{Q:Option (Option Nat)×Nat->dP->Prop}(k:Sk st)(q:lo+n<=(cm st).size)(ha:1<=a)(e:a<=n)(hs:Seg (cm st) lo (lo+a))
 (h:∀m,a<=m->m<=n->Seg (cm st) lo (lo+m)->(m=n\/ag (cm st) (lo+m)<ag (cm st) (lo+m - 1))->Q (none,m) st):wpS (bX prog w) A E s (upL lo a n) Q st:=by
 refine hJ (I:=λx c b=>b=st/\c=(none,x)/\Seg (cm st) lo (lo+x)) ?step ?fin ⟨rfl,rfl,hs⟩
 case fin=>
  rintro c b ⟨rfl,rfl,g⟩;rw[show max a n=n by lia] at g ⊢;exact h n e (ax _) g (.inl rfl)
 case step=>
  rintro x c b Z p ⟨rfl,rfl,g⟩;refine cb (wk k (by lia) (by lia) ?_)
  by_cases U:ag (cm b) (lo+x)<ag (cm b) (lo+x - 1)
  . simp only[U,decide_true,if_true];exact cq (h x Z (by lia) g (.inr U))
  . simp only[U,decide_false,if_false];refine cq ⟨rfl,rfl,λi j hi hij hj=>?_⟩
    by_cases Y:j<lo+x
    . exact g i j hi hij Y
    . have o:j=lo+x:=by lia
      subst o
      by_cases l:i=lo+x
      . subst l;exact ia _
      . exact gx (g i (lo+x - 1) hi (by lia) (by lia)) (AR.mp U)
theorem JZ{st:dP}{lo a n:Nat}{Q:Option Nat->dP->Prop}(k:Sk st)(e:lo+n<=(cm st).size)(ha:1<=a)(Z:a<=n)(hs:Dsc (cm st) lo (lo+a))
 (h:∀m U,Mv lo (lo+n) st U->1<=m->m<=n->Seg (cm U) lo (lo+m)->Q (some m) U):wpS (bX prog w) A E s (upE lo a n) Q st:=by
 refine cb (yW ?_);have Y:Mv lo (lo+n) st (setArr st (mirror (cm st) lo (lo+a) ((lo+a - lo) / 2))):=.rev (ax _) (by lia) (by lia);refine cb (KH (Y.sk k) (by rw[Y.size];exact e) ha Z ?_ λm q1 q2 q3 _=>cq (h m _ Y (by lia) q2 q3));intro i j hi hij hj;rw[K_mirror (by lia),K_mirror (by lia),if_pos (by lia),if_pos (by lia)];exact hs _ _ (by lia) (by lia) (by lia)
theorem Yh{st:dP}{lo a n:Nat}{Q:Option (Option Nat)×Nat×Nat->dP->Prop}(k:Sk st)(B:lo+n<=(cm st).size)(ha:1<=a)(u:a<=n)(hs:Dsc (cm st) lo (lo+a))
 (h:∀m e U,Mv lo (lo+n) st U->a<=m->m<=n->Dsc (cm U) lo (lo+m)->e+1<=m->(∀i,lo+m - (e+1)<=i->i<lo+m->ag (cm U) i=ag (cm U) (lo+m - 1))->Q (none,m,e) U) :
 wpS (bX prog w) A E s (dnL lo a n) Q st:=by
 refine hJ (I:=λx c b=>∃e,c=(none,x,e)/\Mv lo (lo+n) st b/\Dsc (cm b) lo (lo+x)/\e+1<=x /\
  (∀i,lo+x - (e+1)<=i->i<lo+x->ag (cm b) i=ag (cm b) (lo+x - 1))) ?step ?fin ⟨0,rfl,.refl _ _ _,hs,by lia,λi h1 h2=>by congr 1;lia⟩
 case fin=>
  rintro c b ⟨e,rfl,m,g,q1,q2⟩;rw[show max a n=n by lia] at g q1 q2 ⊢;exact h n e b m u (ax _) g q1 q2
 case step=>
  rintro x c b p z ⟨e,rfl,m,g,q1,q2⟩
  dsimp only
  have sz:=m.size;refine cb (wk (m.sk k) (by lia) (by lia) ?_)
  by_cases r:ag (cm b) (lo+x)<ag (cm b) (lo+x - 1)
  . simp only[r,decide_true,if_true];have one:∀o:C9,(∀k,ag o k=ag (cm b) k)->Dsc o lo (lo+(x+1)):=by
     intro o hk i j hi hij hj;rw[hk,hk]
     by_cases l:j<lo+x
     . exact g i j hi hij l
     . have Z:j=lo+x:=by lia
       subst Z
       by_cases Y:i=lo+x
       . subst Y;exact ia _
       . exact gx (fy r) (g i (lo+x - 1) hi (by lia) (by lia))
    by_cases y:e > 0
    . rw[if_pos y];refine cb (yW (cq ⟨0,rfl,m.trans (.rev (by lia) (by lia) (by lia)),one _ (sR (by lia) q2),by lia,λi h1 h2=>by congr 1;lia⟩))
    . rw[if_neg y];exact cq ⟨0,rfl,m,one _ (λ_=>rfl),by lia,λi h1 h2=>by congr 1;lia⟩
  . simp only[r,decide_false,if_false];refine cb (wk (m.sk k) (by lia) (by lia) ?_)
    by_cases v:ag (cm b) (lo+x - 1)<ag (cm b) (lo+x)
    . simp only[v,decide_true,if_true];exact cq (h x e b m p (by lia) g q1 q2)
    . simp only[v,decide_false,if_false];have hx:ag (cm b) (lo+x)=ag (cm b) (lo+x - 1):=by lia
      refine cq ⟨e+1,rfl,m,λi j hi hij hj=>?_,by lia,λi h1 h2=>?_⟩
      . by_cases l:j<lo+x
        . exact g i j hi hij l
        . have Z:j=lo+x:=by lia
          subst Z
          by_cases Y:i=lo+x
          . subst Y;exact ia _
          . rw[hx];exact g i (lo+x - 1) hi (by lia) (by lia)
      . rw[show lo+(x+1) - 1=lo+x by lia]
        by_cases q:i=lo+x
        . subst q;rfl
        . rw[hx];exact q2 i (by lia) (by lia)
theorem Kr{st:dP}{lo a n:Nat}{Q:Option Nat->dP->Prop}(k:Sk st)(r:lo+n<=(cm st).size)(Z:a+1<=n)(hs:Dsc (cm st) lo (lo+(a+1)))
 (h:∀m U,Mv lo (lo+n) st U->1<=m->m<=n->Seg (cm U) lo (lo+m)->Q (some m) U):wpS (bX prog w) A E s (dnE lo a n) Q st:=by
 refine cb (Au (ki ⟨rfl,?_⟩));refine cb (Yh k r (by lia) Z hs λm e b Y q1 q2 g q3 q4=>?_)
 dsimp only
 have sz:=Y.size
 by_cases q:e > 0
 . rw[if_pos q];have o:Mv lo (lo+n) b (setArr b (mirror (cm b) (lo+m - (e+1)) (lo+m) ((lo+m - (lo+m - (e+1))) / 2))):=.rev (by lia) (by lia) (by lia);refine cb (yW (JZ (o.sk (Y.sk k)) (by rw[o.size];lia) (by lia) q2 ?_ λl p m3=>h l p (Y.trans (o.trans m3))));intro i j hi hij hj;rw[sR (by lia) q4,sR (by lia) q4];exact g i j hi hij hj
 . rw[if_neg q];exact JZ (Y.sk k) (by lia) (by lia) q2 g λl p m3=>h l p (Y.trans m3)
local macro_rules | `(tactic| walk_at "up_eq")=>`(tactic| (refine congrArg (_ >>= ·) (funext fun _=>?_);refine congrArg (_ >>= ·) (funext fun c=>?_);obtain ⟨r,m⟩:=c;cases r <;> rfl))
local macro_rules | `(tactic| walk_at "dn_eq")=>`(tactic| (refine congrArg (_ >>= ·) (funext fun c=>?_);obtain ⟨r,m,e⟩:=c;cases r with
 | some r=>rfl
 | none=>(dsimp only;split;(refine congrArg (_ >>= ·) (funext λ_=>?_);walk_at "up_eq");walk_at "up_eq")))
theorem run_eq(lo n:Nat):countRun' lo n=(do
 let c <- upL lo 1 n
 match c.fst with
 | some r=>pure r
 | none=>
  if (c.snd == n)=true then pure (some c.snd)
  else if c.snd > 1 then do
   match <- ltAt' lo (lo+c.snd - 1) with
   | some b=>if b=true then pure (some c.snd) else do
    ve lo (lo+c.snd)
    dnE lo c.snd n
   | _=>pure none
  else dnE lo c.snd n):=by
 rw[countRun'_eq];refine congrArg (_ >>= ·) (funext λc=>?_);obtain ⟨r,m⟩:=c
 cases r with
 | some r=>rfl
 | none=>
  dsimp only
  split
  . rfl
  . split
    . refine congrArg (_ >>= ·) (funext λx=>?_)
      cases x with
      | none=>rfl
      | some b=>
       dsimp only
       split
       . rfl
       . refine congrArg (_ >>= ·) (funext λ_=>congrArg (_ >>= ·) (funext λ_=>?_));walk_at "dn_eq"
    . refine congrArg (_ >>= ·) (funext λ_=>?_);walk_at "dn_eq"
theorem XX{st:dP}{lo n:Nat}{Q:Option Nat->dP->Prop}(k:Sk st)(hn:lo+n<=(cm st).size)(h1:1<=n)
 (h:∀m st',Mv lo (lo+n) st st'->1<=m->m<=n->Seg (cm st') lo (lo+m)->Q (some m) st') :
 wpS (bX prog w) A E s (countRun' lo n) Q st:=by
 rw[run_eq];refine cb (KH k hn (ax 1) h1 (λi j hi hij hj=>by
  have:i=j:=by lia
  subst this;exact ia _) λm q1 q2 g q3=>?_)
 by_cases hm:m=n
 . rw[if_pos (by simpa using hm)];exact cq (h m st (.refl _ _ _) q1 q2 g)
 . rw[if_neg (by simpa using hm)];have hl:=q3.resolve_left hm
   by_cases hgt:m > 1
   . rw[if_pos hgt];refine cb (wk k (by lia) (by lia) ?_)
     by_cases hr:ag (cm st) lo<ag (cm st) (lo+m - 1)
     . simp only[hr,decide_true,if_true];exact cq (h m st (.refl _ _ _) q1 q2 g)
     . simp only[hr,decide_false,if_false];have all:∀k,lo<=k->k<lo+m->ag (cm st) k=ag (cm st) (lo+m - 1):=by
        intro k u1 u2;have a1:=g lo k (by lia) u1 u2;have a2:=g k (lo+m - 1) u1 (by lia) (by lia);lia
       have m1:Mv lo (lo+n) st (setArr st (mirror (cm st) lo (lo+m) ((lo+m - lo) / 2))):=.rev (ax _) (by lia) (by lia);refine cb (yW (Kr (m1.sk k) (by rw[m1.size];exact hn) (by lia) ?_ λm' b' m3=>h m' b' (m1.trans m3)));intro i j hi hij hj;rw[sR (by lia) all,sR (by lia) all]
       by_cases hjn:j<lo+m
       . rw[all i (by lia) (by lia),all j (by lia) hjn];exact ia _
       . have hj':j=lo+m:=by lia
         subst hj'
         by_cases hi':i=lo+m
         . subst hi';exact ia _
         . rw[all i (by lia) (by lia)];exact fy hl
   . rw[if_neg hgt];have hm1:m=1:=by lia
     subst hm1;refine Kr k hn (by lia) ?_ h;intro i j hi hij hj
     by_cases hi':i=j
     . subst hi';exact ia _
     . have hi0:i=lo:=by lia
       have hj1:j=lo+1:=by lia
       subst hi0;subst hj1;exact fy hl
end
noncomputable def gal:Bool->zw->C9->Nat->Nat->Nat->StateT dP Sem (Option Nat):=sortPriv% PySem.Builtin.gallop
noncomputable def bey(left:Bool)(key:zw)(arr:C9)(i:Nat):StateT dP Sem (Option Bool):=do
 let x <- oj arr i
 if left then lt' x key else return (<- lt' key x).map (!·)
theorem aap(left:Bool)(key:zw)(arr:C9)(base n U:Nat):gal left key arr base n U=(do
 let mut p:=0
 let mut q:=1
 let mut u:=0
 let mut v:=0
 let some r <- bey left key arr (base+U) | return none
 if r then
  let top:=n - U
  for _ in [0:n] do
   if q>=top then break
   let some r <- bey left key arr (base+(U+q)) | return none
   if !r then break
   p:=q
   q:=2*q+1
  u:=U+p+1
  v:=U+min q top
 else
  let top:=U+1
  for _ in [0:n] do
   if q>=top then break
   let some r <- bey left key arr (base+(U - q)) | return none
   if r then break
   p:=q
   q:=2*q+1
  u:=U+1 - min q top
  v:=U - p
 for _ in [0:n] do
  if u>=v then break
  let m:=u+(v - u) / 2
  let some r <- bey left key arr (base+m) | return none
  if r then u:=m+1 else v:=m
 return some v):=rfl
noncomputable def byd(left:Bool)(x y:Int):Bool:=if left then decide (y<x) else decide (y<=x)
section
variable   {A:eK}
theorem wY{st:dP}{left:Bool}{key:zw}{arr:C9}{Q:Option Bool->dP->Prop}(k:kindOf st=rk)(hk:∃n t,key.1= .int n t)(ha:IntKeys arr)(hi:i<arr.size)
 (h:Q (some (byd left (kz key.1) (ag arr i))) st):wpS (bX prog w) A E s (bey left key arr i) Q st:=by
 refine cb (dJ hi ?_);have e:ag arr i=kz arr[i].1:=by rw[ag,getElem?_pos arr i hi]
 rw[e] at h;have hx:=ha arr[i] (by simp)
 cases left with
 | true=>exact wX k hx hk h
 | false=>
  refine cb (wX k hk hx (cq ?_));have:(!decide (kz key.1<kz arr[i].1))=byd false (kz key.1) (kz arr[i].1):=by
   rw[byd,if_neg (by simp),<- decide_not];exact decide_eq_decide.mpr AR
  show Q (some (!decide (kz key.1<kz arr[i].1))) st;rw[this];exact h
set_option hygiene false in
local macro_rules | `(tactic| walk_at "gal_end")=>`(tactic| (
 refine cb (om (hJ (I:=λx c b=>b=st0/\∃u v,c=(none,u,v)/\u<=v/\v<=n/\v - u<=n - x/\(∀i,i<u->byd left (kz key.1) (ag arr (base+i))=true)/\(∀i,v<=i->i<n->byd left (kz key.1) (ag arr (base+i))=false))
  (Q:=λc b=>b=st0/\∃v,c=(none,v,v)/\v<=n/\(∀i,i<v->byd left (kz key.1) (ag arr (base+i))=true)/\(∀i,v<=i->i<n->byd left (kz key.1) (ag arr (base+i))=false)) ?ab6 ?adA ⟨rfl,_,_,rfl,huv,hvn,by lia,hu,hv⟩) ?abQ)
 case abQ=>
  rintro c b ⟨rfl,v,rfl,q1,q2,q3⟩;exact cq (h v q1 q2 q3)
 case adA=>
  rintro c b ⟨rfl,u,v,rfl,q1,q2,q3,q4,q5⟩;have:u=v:=by lia
  subst this;exact ⟨rfl,u,rfl,q2,q4,q5⟩
 case ab6=>
  rintro x c b _ hx ⟨rfl,u,v,rfl,q1,q2,q3,q4,q5⟩
  dsimp only
  by_cases hge:u>=v
  . rw[if_pos hge];have:u=v:=by lia
    subst this;exact cq ⟨rfl,u,rfl,q2,q4,q5⟩
  . rw[if_neg hge];refine cb (wY k hk ha (by lia) ?_)
    dsimp only
    cases hP:byd left (kz key.1) (ag arr (base+(u+(v - u) / 2))) with
    | true=>
     rw[if_pos rfl];exact cq ⟨rfl,u+(v - u) / 2+1,v,rfl,by lia,q2,by lia,λi hi=>up i (u+(v - u) / 2) (by lia) (by lia) hP,q5⟩
    | false=>
     rw[if_neg (by simp)];exact cq ⟨rfl,u,u+(v - u) / 2,rfl,by lia,by lia,by lia,q4,λi h1 h2=>dn (u+(v - u) / 2) i h1 h2 hP⟩))
theorem pq{st:dP}{left:Bool}{key:zw}{arr:C9}{base n U:Nat}{Q:Option Nat->dP->Prop}(k:kindOf st=rk)(hk:∃n t,key.1= .int n t)(ha:IntKeys arr)
 (l:base+n<=arr.size) (hh:U<n) (hs:Seg arr base (base+n))
 (h:∀v,v<=n->(∀i,i<v->byd left (kz key.1) (ag arr (base+i))=true)->(∀i,v<=i->i<n->byd left (kz key.1) (ag arr (base+i))=false)->Q (some v) st) :
 wpS (bX prog w) A E s (gal left key arr base n U) Q st:=by
 have up:∀i j,i<=j->j<n->byd left (kz key.1) (ag arr (base+j))=true->byd left (kz key.1) (ag arr (base+i))=true:=by
  intro i j hij hj hP;have:=hs (base+i) (base+j) (by lia) (by lia) (by lia);unfold byd at hP ⊢;cases left <;> simp at hP ⊢ <;> lia
 have dn:∀i j,i<=j->j<n->byd left (kz key.1) (ag arr (base+i))=false->byd left (kz key.1) (ag arr (base+j))=false:=by
  intro i j hij hj hP
  cases e:byd left (kz key.1) (ag arr (base+j)) with
  | false=>rfl
  | true=>rw[up i j hij hj e] at hP;cases hP
 rw[aap];refine cb (wY k hk ha (by lia) ?_)
 dsimp only
 cases hP:byd left (kz key.1) (ag arr (base+U)) with
 | true=>
  rw[if_pos rfl];refine cb (om (hJ (I:=λx c b=>b=st/\∃p q,c=(none,p,q)/\p<q/\x+1<=q/\p<n - U/\byd left (kz key.1) (ag arr (base+(U+p)))=true)
   (Q:=λc b=>b=st/\∃p q,c=(none,p,q)/\p<q/\p<n - U/\byd left (kz key.1) (ag arr (base+(U+p)))=true/\(q<n - U->byd left (kz key.1) (ag arr (base+(U+q)))=false)) ?step ?fin ⟨rfl,0,1,rfl,by lia,by lia,by lia,hP⟩) ?post)
  case post=>
   rintro c b ⟨rfl,p,q,rfl,q1,q2,q3,q4⟩;have huv:U+p+1<=U+min q (n - U):=by lia
   have hvn:U+min q (n - U)<=n:=by lia
   have hu:∀i,i<U+p+1->byd left (kz key.1) (ag arr (base+i))=true:=λi hi=>up i (U+p) (by lia) (by lia) q3;have hv:∀i,U+min q (n - U)<=i->i<n->byd left (kz key.1) (ag arr (base+i))=false:=λi h1 h2=>dn (U+q) i (by lia) h2 (q4 (by lia))
   dsimp only
   generalize Z:b=st0 at *
   walk_at "gal_end"
  case fin=>
   rintro c b ⟨rfl,p,q,rfl,q1,q2,q3,q4⟩;exact ⟨rfl,p,q,rfl,q1,q3,q4,λh=>by lia⟩
  case step=>
   rintro x c b _ hx ⟨rfl,p,q,rfl,q1,q2,q3,q4⟩
   dsimp only
   by_cases hge:q>=n - U
   . rw[if_pos hge];exact cq ⟨rfl,p,q,rfl,q1,q3,q4,λh=>by lia⟩
   . rw[if_neg hge];refine cb (wY k hk ha (by lia) ?_)
     dsimp only
     cases Y:byd left (kz key.1) (ag arr (base+(U+q))) with
     | true=>
      rw[if_neg (by simp)];exact cq ⟨rfl,q,2*q+1,rfl,by lia,by lia,by lia,Y⟩
     | false=>
      rw[if_pos (by simp)];exact cq ⟨rfl,p,q,rfl,q1,q3,q4,λ_=>Y⟩
 | false=>
  rw[if_neg (by simp)];refine cb (om (hJ (I:=λx c b=>b=st/\∃p q,c=(none,p,q)/\p<q/\x+1<=q/\p<U+1/\byd left (kz key.1) (ag arr (base+(U - p)))=false)
   (Q:=λc b=>b=st/\∃p q,c=(none,p,q)/\p<q/\p<U+1/\byd left (kz key.1) (ag arr (base+(U - p)))=false/\(q<U+1->byd left (kz key.1) (ag arr (base+(U - q)))=true)) ?step ?fin ⟨rfl,0,1,rfl,by lia,by lia,by lia,hP⟩) ?post)
  case post=>
   rintro c b ⟨rfl,p,q,rfl,q1,q2,q3,q4⟩;have huv:U+1 - min q (U+1)<=U - p:=by lia
   have hvn:U - p<=n:=by lia
   have hu:∀i,i<U+1 - min q (U+1)->byd left (kz key.1) (ag arr (base+i))=true:=λi hi=>up i (U - q) (by lia) (by lia) (q4 (by lia));have hv:=λi h1 h2=>dn (U - p) i (by lia) h2 q3
   dsimp only
   generalize Z:b=st0 at *
   walk_at "gal_end"
  case fin=>
   rintro c b ⟨rfl,p,q,rfl,q1,q2,q3,q4⟩;exact ⟨rfl,p,q,rfl,q1,q3,q4,λh=>by lia⟩
  case step=>
   rintro x c b _ hx ⟨rfl,p,q,rfl,q1,q2,q3,q4⟩
   by_cases hge:q>=U+1
   . rw[if_pos hge];exact cq ⟨rfl,p,q,rfl,q1,q3,q4,λh=>by lia⟩
   . rw[if_neg hge];refine cb (wY k hk ha (by lia) ?_)
     dsimp only
     cases Y:byd left (kz key.1) (ag arr (base+(U - q))) with
     | true=>
      rw[if_pos rfl];exact cq ⟨rfl,p,q,rfl,q1,q3,q4,λ_=>Y⟩
     | false=>
      rw[if_neg (by simp)];exact cq ⟨rfl,q,2*q+1,rfl,by lia,by lia,by lia,Y⟩
end
section
variable {α:Type}{le:α->α->Prop}
structure Jn (le:α->α->Prop) (A B L:List α) (i j:Nat):Prop where
 perm:L.Perm (A.take i++B.take j)
 srt:L.Pairwise le
 la:∀x∈L,∀y∈A.drop i,le x y
 lb:∀x∈L,∀y∈B.drop j,le x y
theorem Jn.swap{A B L:List α}(h:Jn le A B L i j):Jn le B A L j i:=
 ⟨h.perm.trans kS,h.srt,h.lb,h.la⟩
theorem Jn.step{A B L:List α}{k:Nat}(h:Jn le A B L i j)(Z:A.Pairwise le)(hk:∀x∈(A.drop i).take k,∀y∈B.drop j,le x y):Jn le A B (L++(A.drop i).take k) (i+k) j:=by
 have e:(A.drop i).take k++A.drop (i+k)=A.drop i:=by rw[<- Bz,eM]
 have U:(A.drop i).Pairwise le:=Z.sublist (yn _ _);rw[<- e] at U;obtain ⟨s1,l,Y⟩:=lP.mp U;refine ⟨?_,lP.mpr ⟨h.srt,s1,λx hx y hy=>h.la x hx y (nE hy)⟩,λx hx y hy=>?_,λx hx y hy=>?_⟩
 . rw[List.take_add,da];refine (h.perm.append_right _).trans ?_;rw[da];exact kS.append_left _
 . rcases de.mp hx with hx | hx
   . exact h.la x hx y (by rw[<- e];exact cc _ hy)
   . exact Y x hx y hy
 . rcases de.mp hx with hx | hx
   . exact h.lb x hx y hy
   . exact hk x hx y hy
theorem Jn.fin{A B L:List α}(h:Jn le A B L i j)(Y:A.Pairwise le)(U:B.Pairwise le)(hk:∀x∈A.drop i,∀y∈B.drop j,le x y) :
 (L++A.drop i++B.drop j).Perm (A++B)/\(L++A.drop i++B.drop j).Pairwise le:=by
 constructor
 . have h1:(L++A.drop i++B.drop j).Perm ((A.take i++B.take j)++A.drop i++B.drop j):=(h.perm.append_right _).append_right _;refine h1.trans ?_;have h2:(A++B)=(A.take i++A.drop i)++(B.take j++B.drop j):=by rw[eM,eM]
   rw[h2,da,da,da];refine List.Perm.append_left _ ?_;rw[<- da,<- da];exact kS.append_right _
 . refine lP.mpr ⟨lP.mpr ⟨h.srt,Y.sublist (yn _ _),h.la⟩,U.sublist (yn _ _),λx hx y hy=>?_⟩;rcases de.mp hx with hx | hx
   . exact h.lb x hx y hy
   . exact hk x hx y hy
theorem Jn.first{A B:List α}{b:α}(Y:B[0]?=some b)(Z:B.Pairwise le)(U:∀x∈A,le b x):Jn le A B [b] 0 1:=by
 cases B with
 | nil=>simp at Y
 | cons c B=>
  simp at Y;subst Y;refine ⟨by simp,by simp,λx hx y hy=>?_,λx hx y hy=>?_⟩
  . simp at hx;subst hx;exact U y (by simpa using hy)
  . simp at hx;subst hx;exact (kg.mp Z).1 y (by simpa using hy)
end
noncomputable def setG:Nat->StateT dP Sem Unit:=sortPriv% PySem.Builtin.setMinGallop
noncomputable def mLo:C9->C9->StateT dP Sem C9:=sortPriv% PySem.Builtin.mergeLo
noncomputable def mHi:C9->C9->StateT dP Sem C9:=sortPriv% PySem.Builtin.mergeHi
theorem Zz(a b:C9):mLo a b=(do
 rule "list.sort.merge-lo"
 let t:=a.size+b.size
 let U (o:C9) (i j:Nat):=o++a.extract i a.size++b.extract j b.size
 let Y (o:C9) (i j:Nat):=o++b.extract j b.size++a.extract i a.size
 let mut o:C9:=#[<- oj b 0]
 let mut i:=0
 let mut j:=1
 if j == b.size then return U o i j
 if i+1 == a.size then return Y o i j
 let mut g:=gallopOf (<- get)
 for _ in [0:t] do
  let mut p:=0
  let mut q:=0
  for _ in [0:t] do
   let some r <- lt' (<- oj b j) (<- oj a i) | return U o i j
   if r then
    o:=o.push (<- oj b j);j:=j+1;q:=q+1;p:=0
    if j == b.size then return U o i j
    if q>=g then break
   else
    o:=o.push (<- oj a i);i:=i+1;p:=p+1;q:=0
    if i+1 == a.size then return Y o i j
    if p>=g then break
  rule "list.sort.gallop"
  g:=g+1
  for _ in [0:t] do
   if g > 1 then g:=g - 1
   setG g
   let some k <- gal false (<- oj b j) a i (a.size - i) 0 | return U o i j
   p:=k
   if k > 0 then
    o:=o++a.extract i (i+k);i:=i+k
    if i+1 == a.size then return Y o i j
    if i == a.size then return U o i j
   o:=o.push (<- oj b j);j:=j+1
   if j == b.size then return U o i j
   let some k <- gal true (<- oj a i) b j (b.size - j) 0 | return U o i j
   q:=k
   if k > 0 then
    o:=o++b.extract j (j+k);j:=j+k
    if j == b.size then return U o i j
   o:=o.push (<- oj a i);i:=i+1
   if i+1 == a.size then return Y o i j
   if p<7&&q<7 then break
  g:=g+1
  setG g
 yv "internal:list.sort.merge-bound"):=rfl
section
variable   {A:eK}
theorem uU{st:dP}{Q:Unit->dP->Prop}(h:Q () (dP.mk' (kindOf st) (cm st) (fi st) i (rh st))):wpS (bX prog w) A E s (setG i) Q st:=by
 exact uu h
end
def leK(p q:zw):Prop:=kz p.1<=kz q.1
def Rs(a b r:C9):Prop:=r.toList.Perm (a.toList++b.toList)/\r.toList.Pairwise leK
def Sg(st st':dP):Prop:=kindOf st'=kindOf st/\cm st'=cm st/\fi st'=fi st/\rh st'=rh st
theorem iQ(hi:i<a.size):ag a i=kz a[i].1:=by rw[ag,getElem?_pos a i hi]
theorem Seg.pw(h:Seg a 0 a.size):a.toList.Pairwise leK:=by
 rw[g7];intro i j hi hj hij;have Y:=by simpa using hi
 have U:=by simpa using hj
 have:=h i j (by lia) (by lia) U;rw[iQ Y,iQ U] at this;simpa[leK] using this
theorem abe(h:a.toList.Pairwise leK):Seg a 0 a.size:=by
 intro i j _ hij hj
 by_cases e:i=j
 . subst e;exact ia _
 . rw[g7] at h;have:=h i j (by simpa using (by lia:i<a.size)) (by simpa using hj) (by lia);rw[iQ (by lia),iQ hj];simpa[leK] using this
theorem qX(h:y∈a.toList.drop i):∃x,i<=x/\x<a.size/\kz y.1=ag a x:=by
 obtain ⟨n,Y,rfl⟩:=dS.mp h;have U:i+n<a.size:=by simp at Y;lia
 refine ⟨i+n,by lia,U,?_⟩;rw[iQ U];simp
theorem qJ{k:Nat}(h:y∈(a.toList.drop i).take k):∃x,i<=x/\x<i+k/\x<a.size/\kz y.1=ag a x:=by
 obtain ⟨n,Y,rfl⟩:=dS.mp h;have U:n<k/\i+n<a.size:=by simp at Y;lia
 refine ⟨i+n,by lia,by lia,U.2,?_⟩;rw[iQ U.2];simp
variable {o:C9}
section
variable  {k:Nat}
theorem Ht(h:Jn leK a.toList b.toList o.toList i j)(r:Seg a 0 a.size)(p:Seg b 0 b.size)(hj:j<b.size)(hk:∀x,i<=x->x<i+k->ag a x<=ag b j):Jn leK a.toList b.toList (o++a.extract i (i+k)).toList (i+k) j:=by
 have e:(o++a.extract i (i+k)).toList=o.toList++(a.toList.drop i).take k:=by simp[g9]
 rw[e];refine h.step r.pw λx hx y hy=>?_;obtain ⟨u,Y,Z,s,U⟩:=qJ hx;obtain ⟨v,m,q,l⟩:=qX hy;rw[leK,U,l];exact gx (hk u Y Z) (p j v (f7 _) m q)
theorem abA(h:Jn leK a.toList b.toList o.toList i j)(Y:Seg a 0 a.size)(U:Seg b 0 b.size)(hi:i<a.size)(hk:∀x,j<=x->x<j+k->ag b x<=ag a i):Jn leK a.toList b.toList (o++b.extract j (j+k)).toList i (j+k):=
 (Ht h.swap U Y hi hk).swap
theorem Vr(hi:i<a.size):o.push a[i]=o++a.extract i (i+1):=by
 apply uS.mp;simp[g6,hi]
theorem Gf(h:Jn leK a.toList b.toList o.toList i j)(Y:Seg a 0 a.size)(U:Seg b 0 b.size)(hj:j<b.size)(hi:i<a.size)(hk:ag a i<=ag b j):Jn leK a.toList b.toList (o.push a[i]).toList (i+1) j:=by
 rw[Vr hi];exact Ht h Y U hj λx h1 h2=>by rw[show x=i by lia];exact hk
theorem Rb(h:Jn leK a.toList b.toList o.toList i j)(Y:Seg a 0 a.size)(U:Seg b 0 b.size)(hi:i<a.size)(hj:j<b.size)(hk:ag b j<=ag a i):Jn leK a.toList b.toList (o.push b[j]).toList i (j+1):=
 (Gf h.swap U Y hi hj hk).swap
theorem zE(h:Jn leK a.toList b.toList o.toList i j)(Y:Seg a 0 a.size)(U:Seg b 0 b.size)(Z:i=a.size\/j=b.size):Rs a b (o++a.extract i a.size++b.extract j b.size):=by
 have e:(o++a.extract i a.size++b.extract j b.size).toList=o.toList++a.toList.drop i++b.toList.drop j:=by
  simp[eg]
 rw[Rs,e];refine h.fin Y.pw U.pw λx hx y hy=>?_;rcases Z with rfl | rfl
 . rw[oD (by simp)] at hx;cases hx
 . rw[oD (by simp)] at hy;cases hy
theorem Ek(h:Jn leK a.toList b.toList o.toList i j)(p:Seg a 0 a.size)(m:Seg b 0 b.size)(r:i+1=a.size)(U:∀x,x<b.size->ag b x<=ag a (a.size - 1)):Rs a b (o++b.extract j b.size++a.extract i a.size):=by
 have e:(o++b.extract j b.size++a.extract i a.size).toList=o.toList++b.toList.drop j++a.toList.drop i:=by
  simp[eg]
 rw[Rs,e];have f:=h.swap.fin m.pw p.pw λx hx y hy=>by
  obtain ⟨u,q,Z,Y⟩:=qX hx;obtain ⟨v,s,z,l⟩:=qX hy;rw[leK,Y,l,show v=a.size - 1 by lia];exact U u Z
 exact ⟨f.1.trans kS,f.2⟩
end
theorem xu{x y:Int}:byd true x y=true↔y<x:=by simp[byd]
theorem zL{x y:Int}:byd false x y=true↔y<=x:=by simp[byd]
theorem wU{x y:Int}:byd true x y=false↔x<=y:=by simp[byd]
theorem zx{x y:Int}:byd false x y=false↔x<y:=by simp[byd]
theorem Seg.sub{lo U hi':Nat}(h:Seg a lo hi)(h1:lo<=U)(h2:hi'<=hi):Seg a U hi':=λi j q1 q2 q3=>h i j (by lia) q2 (by lia)
section
variable   {A:eK}
theorem Wj{U:Type}{c:Prop}[Decidable c]{g2:Nat}{R:Nat->StateT dP Sem U}{Q:U->dP->Prop}{st:dP}(h:∀g,wpS (bX prog w) A E s (setG g >>= λ_=>R g) Q st) :
 wpS (bX prog w) A E s (if c then setG i >>= λ_=>R i else setG g2 >>= λ_=>R g2) Q st:=by
 split
 . exact h i
 . exact h g2
theorem zV{U:Type}{m Y:StateT dP Sem U}{Q:U->dP->Prop}{st:dP}(e:m=Y)(h:wpS (bX prog w) A E s m Q st):wpS (bX prog w) A E s Y Q st:=e ▸ h
abbrev LoT:=Option C9×C9×Nat×Nat×Nat×Nat×Nat
noncomputable def loC(a b o:C9)(i j g p q:Nat):StateT dP Sem (ForInStep LoT):=do
 let y <- oj a i
 if (i+1+1 == a.size)=true then pure (.done (some (o.push y++b.extract j b.size++a.extract (i+1) a.size),o.push y,i+1,j,g,p,q))
 else if (decide (p<7)&&decide (q<7))=true then pure (.done (none,o.push y,i+1,j,g,p,q))
 else pure (.yield (none,o.push y,i+1,j,g,p,q))
noncomputable def loB(a b o:C9)(i j g p q:Nat):StateT dP Sem (ForInStep LoT):=do
 let x <- oj b j
 if (j+1 == b.size)=true then pure (.done (some (o.push x++a.extract i a.size++b.extract (j+1) b.size),o.push x,i,j+1,g,p,q))
 else do
  let y <- oj a i
  let z <- gal true y b (j+1) (b.size - (j+1)) 0
  match z with
  | some k=>
   if k > 0 then
    if (j+1+k == b.size)=true then pure (.done (some (o.push x++b.extract (j+1) (j+1+k)++a.extract i a.size++b.extract (j+1+k) b.size),o.push x++b.extract (j+1) (j+1+k),i,j+1+k,g,p,k))
    else loC a b (o.push x++b.extract (j+1) (j+1+k)) i (j+1+k) g p k
   else loC a b (o.push x) i (j+1) g p k
  | _=>pure (.done (some (o.push x++a.extract i a.size++b.extract (j+1) b.size),o.push x,i,j+1,g,p,q))
theorem Ka{st:dP}{g p q:Nat}{Q:ForInStep LoT->dP->Prop}(e:Seg a 0 a.size)(Y:Seg b 0 b.size)(l:∀x,x<b.size->ag b x<=ag a (a.size - 1))
 (J:Jn leK a.toList b.toList o.toList i j) (h1:i+1<a.size) (h2:j<b.size) (m:hi<=i+j) (hk:ag a i<=ag b j) (hd:∀r o i j g p q,Rs a b r->Q (.done (some r,o,i,j,g,p,q)) st)
 (hx:∀o i j g p q,Jn leK a.toList b.toList o.toList i j->i+1<a.size->j<b.size->hi<=i+j->Q (.done (none,o,i,j,g,p,q)) st/\Q (.yield (none,o,i,j,g,p,q)) st) :
 wpS (bX prog w) A E s (loC a b o i j g p q) Q st:=by
 refine cb (dJ (yy h1) ?_);have Z:=Gf J e Y h2 (yy h1) hk
 by_cases U:i+1+1=a.size
 . rw[if_pos (by simpa using U)];exact cq (hd _ _ _ _ _ _ _ (Ek Z e Y U l))
 . rw[if_neg (by simpa using U)];have z:=hx (o.push a[i]) (i+1) j g p q Z (Nat.lt_of_le_of_ne h1 U) h2 (by lia);split
   . exact cq z.1
   . exact cq z.2
theorem KC{st:dP}{g p q X:Nat}{Q:ForInStep LoT->dP->Prop}(v:kindOf st=rk)(H:IntKeys a)(D:IntKeys b)(Y:Seg a 0 a.size)(U:Seg b 0 b.size)(B:∀x,x<b.size->ag b x<=ag a (a.size - 1))
 (J:Jn leK a.toList b.toList o.toList i j) (h1:i+1<a.size) (h2:j<b.size) (L:X<=i+j) (hk:ag b j<=ag a i) (hd:∀r o i j g p q,Rs a b r->Q (.done (some r,o,i,j,g,p,q)) st)
 (hx:∀o i j g p q,Jn leK a.toList b.toList o.toList i j->i+1<a.size->j<b.size->X<=i+j->Q (.done (none,o,i,j,g,p,q)) st/\Q (.yield (none,o,i,j,g,p,q)) st) :
 wpS (bX prog w) A E s (loB a b o i j g p q) Q st:=by
 have hi:=yy h1;refine cb (dJ h2 ?_);have y:=Rb J Y U hi h2 hk
 by_cases e:j+1=b.size
 . rw[if_pos (by simpa using e)];exact cq (hd _ _ _ _ _ _ _ (zE y Y U (.inr e)))
 . rw[if_neg (by simpa using e)];have z:=Nat.lt_of_le_of_ne h2 e;refine cb (dJ hi (cb (pq v (H _ (by simp)) D (by lia) (by lia) (U.sub (f7 _) (by lia)) λu I C l=>?_)))
   dsimp only
   rw[<- iQ hi] at C l;have Z:=abA (k:=u) y Y U hi (λx q1 q2=>by have:=xu.mp (C (x - (j+1)) (by lia));rw[show j+1+(x - (j+1))=x by lia] at this;lia);split
   . by_cases m:j+1+u=b.size
     . rw[if_pos (by simpa using m)];exact cq (hd _ _ _ _ _ _ _ (zE Z Y U (.inr m)))
     . rw[if_neg (by simpa using m)];exact Ka Y U B Z h1 (by lia) (by lia) (wU.mp (l u (ax _) (by lia))) hd hx
   . exact Ka Y U B y h1 z (by lia) (wU.mp (l 0 (by lia) (by lia))) hd hx
theorem XF{st:dP}{Q:C9->dP->Prop}(hk:kindOf st=rk)(ka:IntKeys a)(S:IntKeys b)(Z:Seg a 0 a.size)(e:Seg b 0 b.size)
 (ha:1<=a.size) (hb:1<=b.size) (hba:ag b 0<=ag a 0) (H:∀x,x<b.size->ag b x<=ag a (a.size - 1)) (h:∀r L,Sg st L->Rs a b r->Q r L):wpS (bX prog w) A E s (mLo a b) Q st:=by
 rw[Zz];refine cb (Au (ki ⟨rfl,?_⟩));refine cb (dJ (by lia) ?_);have J0:Jn leK a.toList b.toList (#[b[0]]:C9).toList 0 1:=by
  refine Jn.first ?_ e.pw λx hx=>?_
  . simp
  . obtain ⟨u,u1,u2,u3⟩:=qX (i:=0) (by simpa using hx);rw[leK,u3,<- iQ (by lia)];exact gx hba (Z 0 u (by lia) (by lia) u2)
 have S0:Sg st st:=⟨rfl,rfl,rfl,rfl⟩
 by_cases D:1=b.size
 . rw[if_pos (by simpa using D)];exact cq (h _ _ S0 (zE J0 Z e (.inr D)))
 rw[if_neg (by simpa using D)]
 by_cases C:0+1=a.size
 . rw[if_pos (by simpa using C)];exact cq (h _ _ S0 (Ek J0 Z e C H))
 rw[if_neg (by simpa using C)];refine cb (yk ?_);refine cb (om (hJ (I:=λx c Y=>Sg st Y/\∃o i j g,c=(none,o,i,j,g)/\Jn leK a.toList b.toList o.toList i j/\i+1<a.size/\j<b.size/\x+1<=i+j)
  (Q:=λc Y=>Sg st Y/\∃r o i j g,c=(some r,o,i,j,g)/\Rs a b r) ?step ?fin ⟨S0,_,_,_,_,rfl,J0,by lia,by lia,by lia⟩) ?post)
 case post=>
  rintro c Y ⟨S1,r,o,i,j,g,rfl,l⟩;exact cq (h _ _ S1 l)
 case fin=>
  rintro c Y ⟨S1,o,i,j,g,rfl,J,q1,q2,q3⟩;lia
 case step=>
  rintro x c Y _ hx ⟨S1,o,i,j,g,rfl,J,q1,q2,q3⟩;refine cb (om (hJ (I:=λy c Y=>Sg st Y/\∃o i j p q,c=(none,o,i,j,p,q)/\Jn leK a.toList b.toList o.toList i j/\i+1<a.size/\j<b.size/\x+1+y<=i+j)
   (Q:=λc Y=>Sg st Y/\((∃o i j p q,c=(none,o,i,j,p,q)/\Jn leK a.toList b.toList o.toList i j/\i+1<a.size/\j<b.size/\x+2<=i+j)\/∃r o i j p q,c=(some r,o,i,j,p,q)/\Rs a b r)) ?step1 ?Vi ⟨S1,_,_,_,_,_,rfl,J,by lia,by lia,by lia⟩) ?NQ)
  case Vi=>
   rintro c Y ⟨U,o,i,j,p,q,rfl,J,q1,q2,q3⟩;exact ⟨U,.inl ⟨_,_,_,_,_,rfl,J,q1,q2,by lia⟩⟩
  case step1=>
   rintro y c Y _ hy ⟨U,o,i,j,p,q,rfl,J,q1,q2,q3⟩
   dsimp only
   refine cb (dJ (by lia) (cb (dJ (by lia) ?_)));refine cb (wX (U.1.trans hk) (S _ (by simp)) (ka _ (by simp)) ?_);rw[<- iQ (by lia),<- iQ (by lia)]
   dsimp only
   by_cases c3:ag b j<ag a i
   . rw[if_pos (by simpa using c3)];refine cb (dJ (by lia) ?_);have z:=Rb J Z e (by lia) (by lia) (fy c3)
     by_cases v:j+1=b.size
     . rw[if_pos (by simpa using v)];exact cq ⟨U,.inr ⟨_,_,_,_,_,_,rfl,zE z Z e (.inr v)⟩⟩
     . rw[if_neg (by simpa using v)];split
       . exact cq ⟨U,.inl ⟨_,_,_,_,_,rfl,z,by lia,by lia,by lia⟩⟩
       . exact cq ⟨U,_,_,_,_,_,rfl,z,by lia,by lia,by lia⟩
   . rw[if_neg (by simpa using c3)];refine cb (dJ (by lia) ?_);have z:=Gf J Z e (by lia) (by lia) (AR.mp c3)
     by_cases v:i+1+1=a.size
     . rw[if_pos (by simpa using v)];exact cq ⟨U,.inr ⟨_,_,_,_,_,_,rfl,Ek z Z e v H⟩⟩
     . rw[if_neg (by simpa using v)];split
       . exact cq ⟨U,.inl ⟨_,_,_,_,_,rfl,z,by lia,by lia,by lia⟩⟩
       . exact cq ⟨U,_,_,_,_,_,rfl,z,by lia,by lia,by lia⟩
  case NQ=>
   rintro c Y ⟨U,⟨o,i,j,p,q,rfl,J,q1,q2,q3⟩ | ⟨r,o,i,j,p,q,rfl,l⟩⟩
   rotate_left
   . exact cq ⟨U,_,_,_,_,_,rfl,l⟩
   refine cb (Au (ki ⟨rfl,?_⟩));refine cb (om (hJ (I:=λy c Y=>Sg st Y/\∃o i j g p q,c=(none,o,i,j,g,p,q)/\Jn leK a.toList b.toList o.toList i j/\i+1<a.size/\j<b.size/\x+2<=i+j)
    (Q:=λc Y=>Sg st Y/\((∃o i j g p q,c=(none,o,i,j,g,p,q)/\Jn leK a.toList b.toList o.toList i j/\i+1<a.size/\j<b.size/\x+2<=i+j)\/∃r o i j g p q,c=(some r,o,i,j,g,p,q)/\Rs a b r)) ?Mp ?fin2 ⟨U,_,_,_,_,_,_,rfl,J,by lia,by lia,by lia⟩) ?post2)
   case fin2=>
    rintro c Y ⟨U,o,i,j,g,p,q,rfl,J,q1,q2,q3⟩;exact ⟨U,.inl ⟨_,_,_,_,_,_,rfl,J,q1,q2,q3⟩⟩
   case post2=>
    rintro c Y ⟨U,⟨o,i,j,g,p,q,rfl,J,q1,q2,q3⟩ | ⟨r,o,i,j,g,p,q,rfl,l⟩⟩
    . exact cb (uU (cq ⟨U,_,_,_,_,rfl,J,by lia,by lia,by lia⟩))
    . exact cq ⟨U,_,_,_,_,_,rfl,l⟩
   case Mp=>
    rintro y c Y _ hy ⟨S2',o,i,j,g,p,q,rfl,J,q1,q2,q3⟩
    dsimp only
    generalize hg1:g - 1=g1;apply Wj;intro g';refine cb (uU ?_);have U:=S2';refine cb (dJ (by lia) (cb (pq (U.1.trans hk) (S _ (by simp)) ka (by lia) (by lia) (Z.sub (by lia) (by lia)) λk v1 v2 v3=>?_)))
    dsimp only
    rw[<- iQ (by lia)] at v2 v3;have B:=Ht (k:=k) J Z e (by lia) (λx h1 h2=>by have:=zL.mp (v2 (x - i) (by lia));rw[show i+(x - i)=x by lia] at this;lia)
    by_cases D:k > 0
    . rw[if_pos D]
      by_cases C:i+k+1=a.size
      . rw[if_pos (by simpa using C)];exact cq ⟨U,.inr ⟨_,_,_,_,_,_,_,rfl,Ek B Z e C H⟩⟩
      . rw[if_neg (by simpa using C)]
        by_cases c7:i+k=a.size
        . rw[if_pos (by simpa using c7)];exact cq ⟨U,.inr ⟨_,_,_,_,_,_,_,rfl,zE B Z e (.inl c7)⟩⟩
        . rw[if_neg (by simpa using c7)];refine zV (m:=loB a b (o++a.extract i (i+k)) (i+k) j g' k q) (by kernel_rfl) (KC (U.1.trans hk) ka S Z e H B (by lia) q2 (by lia) (fy (zx.mp (v3 k (ax _) (by lia)))) (λr _ _ _ _ _ _ l=>⟨U,.inr ⟨_,_,_,_,_,_,_,rfl,l⟩⟩) λo i j g p q P R M O=>⟨⟨U,.inl ⟨_,_,_,_,_,_,rfl,P,R,M,O⟩⟩,U,_,_,_,_,_,_,rfl,P,R,M,O⟩)
    . rw[if_neg D];refine zV (m:=loB a b o i j g' k q) (by kernel_rfl) (KC (U.1.trans hk) ka S Z e H J q1 q2 q3 (fy (zx.mp (v3 0 (by lia) (by lia)))) (λr _ _ _ _ _ _ l=>⟨U,.inr ⟨_,_,_,_,_,_,_,rfl,l⟩⟩) λo i j g p q P R M O=>⟨⟨U,.inl ⟨_,_,_,_,_,_,rfl,P,R,M,O⟩⟩,U,_,_,_,_,_,_,rfl,P,R,M,O⟩)
end
theorem aaH(a b:C9):mHi a b=(do
 rule "list.sort.merge-hi"
 let t:=a.size+b.size
 let U (o:C9) (i j:Nat):=a.extract 0 i++b.extract 0 j++o.reverse
 let Y (o:C9) (i j:Nat):=b.extract 0 j++a.extract 0 i++o.reverse
 let mut i:=a.size - 1
 let mut j:=b.size
 let mut o:C9:=#[<- oj a i]
 if i == 0 then return U o i j
 if j == 1 then return Y o i j
 let mut g:=gallopOf (<- get)
 for _ in [0:t] do
  let mut p:=0
  let mut q:=0
  for _ in [0:t] do
   let some r <- lt' (<- oj b (j - 1)) (<- oj a (i - 1)) | return U o i j
   if r then
    i:=i - 1;o:=o.push (<- oj a i);p:=p+1;q:=0
    if i == 0 then return U o i j
    if p>=g then break
   else
    j:=j - 1;o:=o.push (<- oj b j);q:=q+1;p:=0
    if j == 1 then return Y o i j
    if q>=g then break
  rule "list.sort.gallop"
  g:=g+1
  for _ in [0:t] do
   if g > 1 then g:=g - 1
   setG g
   let some z <- gal false (<- oj b (j - 1)) a 0 i (i - 1) | return U o i j
   let k:=i - z
   p:=k
   if k > 0 then
    o:=o++(a.extract z i).reverse;i:=z
    if i == 0 then return U o i j
   j:=j - 1;o:=o.push (<- oj b j)
   if j == 1 then return Y o i j
   let some z <- gal true (<- oj a (i - 1)) b 0 j (j - 1) | return U o i j
   let k:=j - z
   q:=k
   if k > 0 then
    o:=o++(b.extract z j).reverse;j:=z
    if j == 1 then return Y o i j
    if j == 0 then return U o i j
   i:=i - 1;o:=o.push (<- oj a i)
   if i == 0 then return U o i j
   if p<7&&q<7 then break
  g:=g+1
  setG g
 yv "internal:list.sort.merge-bound"):=rfl
def geK(p q:zw):Prop:=leK q p
def Jh(a b o:C9)(i j:Nat):Prop:=Jn geK a.toList.reverse b.toList.reverse o.toList (a.size - i) (b.size - j)
theorem Seg.wp(h:Seg a 0 a.size):a.toList.reverse.Pairwise geK:=List.pairwise_reverse.mpr h.pw
theorem m5(hi:i<=a.size):a.toList.reverse.drop (a.size - i)=(a.toList.take i).reverse:=by
 rw[List.drop_reverse];congr 2;simp;lia
theorem Gi{z:Nat}(hi:i<=a.size)(hz:z<=i):(a.toList.reverse.drop (a.size - i)).take (i - z)=(a.extract z i).reverse.toList:=by
 rw[m5 hi,List.take_reverse,Array.toList_reverse,qv];congr 1;have e:(a.toList.take i).length - (i - z)=z:=by simp;lia
 rw[e,g9,List.drop_take]
theorem vW(h:y∈(a.toList.take i).reverse):∃x,x<i/\x<a.size/\kz y.1=ag a x:=by
 obtain ⟨x,_,h1,h2,U⟩:=qJ (i:=0) (by simpa using h);exact ⟨x,by lia,h2,U⟩
variable {r:C9}
section
variable  {z:Nat}
theorem Ge(h:Jh a b o i j)(m:Seg a 0 a.size)(U:Seg b 0 b.size)(hi:i<=a.size)(hj:j<=b.size)(Y:1<=j)(hz:z<=i)(hk:∀x,z<=x->x<i->ag b (j - 1)<=ag a x):Jh a b (o++(a.extract z i).reverse) z j:=by
 have e:(o++(a.extract z i).reverse).toList=o.toList++(a.toList.reverse.drop (a.size - i)).take (i - z):=by rw[Gi hi hz];simp
 rw[Jh,e,show a.size - z=a.size - i+(i - z) by lia];refine Jn.step h m.wp λx hx y hy=>?_;rw[Gi hi hz] at hx;rw[m5 hj] at hy;obtain ⟨u,l,B,s,Z⟩:=qJ (by simpa[g9] using hx);obtain ⟨v,q,r,p⟩:=vW hy;unfold geK leK;rw[Z,p];exact gx (U v (j - 1) (f7 _) (by lia) (by lia)) (hk u l (by lia))
theorem Jh.swap(h:Jh a b o i j):Jh b a o j i:=Jn.swap h
theorem aaR(h:Jh a b o i j)(Z:Seg a 0 a.size)(Y:Seg b 0 b.size)(hi:i<=a.size)(hj:j<=b.size)(U:1<=i)(hz:z<=j)(hk:∀x,z<=x->x<j->ag a (i - 1)<=ag b x):Jh a b (o++(b.extract z j).reverse) i z:=
 (Ge h.swap Y Z hj hi U hz hk).swap
theorem Tn(hi:i<a.size):o.push a[i]=o++(a.extract i (i+1)).reverse:=by
 apply uS.mp;simp[g6,hi]
theorem Al(h:Jh a b o i j)(Z:Seg a 0 a.size)(Y:Seg b 0 b.size)(hi:i<=a.size)(hj:j<=b.size)(U:1<=j)(e:1<=i)(l:i - 1<a.size)(hk:ag b (j - 1)<=ag a (i - 1)):Jh a b (o.push a[i - 1]) (i - 1) j:=by
 rw[Tn l,show i - 1+1=i by lia];exact Ge h Z Y hi hj U (by lia) λx h1 h2=>by rw[show x=i - 1 by lia];exact hk
theorem N8(h:Jh a b o i j)(e:Seg a 0 a.size)(Z:Seg b 0 b.size)(hi:i<=a.size)(hj:j<=b.size)(Y:1<=i)(U:1<=j)(l:j - 1<b.size)(hk:ag a (i - 1)<=ag b (j - 1)):Jh a b (o.push b[j - 1]) i (j - 1):=
 (Al h.swap Z e hj hi Y U l hk).swap
theorem hfin(h:Jh a b o i j)(p:Seg a 0 a.size)(m:Seg b 0 b.size)(hi:i<=a.size)(hj:j<=b.size)(hk:∀x y,x<i->y<j->ag a x<=ag b y):Rs a b (a.extract 0 i++b.extract 0 j++o.reverse):=by
 have f:=Jn.fin h.swap m.wp p.wp λx hx y hy=>by
  rw[m5 hj] at hx;rw[m5 hi] at hy;obtain ⟨u,Y,q,U⟩:=vW hx;obtain ⟨v,l,r,Z⟩:=vW hy;unfold geK leK;rw[U,Z];exact hk v u l Y
 rw[m5 hj,m5 hi] at f;have e:(a.extract 0 i++b.extract 0 j++o.reverse).toList=(o.toList++(b.toList.take j).reverse++(a.toList.take i).reverse).reverse:=by
  simp[g9]
 rw[Rs,e];refine ⟨(yA _).trans (f.1.trans ?_),List.pairwise_reverse.mpr f.2⟩;exact ((yA _).append (yA _)).trans kS
theorem zZ(h:Jh a b o i j)(Y:Seg a 0 a.size)(U:Seg b 0 b.size)(hi:i<=a.size)(hj:j<=b.size)(Z:i=0\/j=0):Rs a b (a.extract 0 i++b.extract 0 j++o.reverse):=
 hfin h Y U hi hj λx y hx hy=>by lia
theorem Rs.swap(h:Rs b a r):Rs a b r:=⟨h.1.trans kS,h.2⟩
theorem Ep(h:Jh a b o i j)(Z:Seg a 0 a.size)(Y:Seg b 0 b.size)(hi:i<=a.size)(hj:j<=b.size)(e:j=1)(U:∀x,x<a.size->ag b 0<=ag a x):Rs a b (b.extract 0 j++a.extract 0 i++o.reverse):=
 (hfin h.swap Y Z hj hi λx y hx hy=>by rw[show x=0 by lia];exact U y (by lia)).swap
end
section
variable   {A:eK}
abbrev HiT:=Option C9×Nat×Nat×C9×Nat×Nat×Nat
noncomputable def hiC(a b o:C9)(i j g p q:Nat):StateT dP Sem (ForInStep HiT):=do
 let y <- oj a (i - 1)
 if (i - 1 == 0)=true then pure (.done (some (a.extract 0 (i - 1)++b.extract 0 j++(o.push y).reverse),i - 1,j,o.push y,g,p,q))
 else if (decide (p<7)&&decide (q<7))=true then pure (.done (none,i - 1,j,o.push y,g,p,q))
 else pure (.yield (none,i - 1,j,o.push y,g,p,q))
noncomputable def hiB(a b o:C9)(i j g p q:Nat):StateT dP Sem (ForInStep HiT):=do
 let x <- oj b (j - 1)
 if (j - 1 == 1)=true then pure (.done (some (b.extract 0 (j - 1)++a.extract 0 i++(o.push x).reverse),i,j - 1,o.push x,g,p,q))
 else do
  let y <- oj a (i - 1)
  let z <- gal true y b 0 (j - 1) (j - 1 - 1)
  match z with
  | some z=>
   if j - 1 - z > 0 then
    if (z == 1)=true then pure (.done (some (b.extract 0 z++a.extract 0 i++(o.push x++(b.extract z (j - 1)).reverse).reverse),i,z,o.push x++(b.extract z (j - 1)).reverse,g,p,j - 1 - z))
    else if (z == 0)=true then pure (.done (some (a.extract 0 i++b.extract 0 z++(o.push x++(b.extract z (j - 1)).reverse).reverse),i,z,o.push x++(b.extract z (j - 1)).reverse,g,p,j - 1 - z))
    else hiC a b (o.push x++(b.extract z (j - 1)).reverse) i z g p (j - 1 - z)
   else hiC a b (o.push x) i (j - 1) g p (j - 1 - z)
  | _=>pure (.done (some (a.extract 0 i++b.extract 0 (j - 1)++(o.push x).reverse),i,j - 1,o.push x,g,p,q))
theorem Ko{st:dP}{g p q X:Nat}{Q:ForInStep HiT->dP->Prop}(m:Seg a 0 a.size)(Z:Seg b 0 b.size)
 (J:Jh a b o i j) (h1:1<=i) (h2:i<=a.size) (l:2<=j) (Y:j<=b.size) (u:X+i+j<=a.size+b.size) (hk:ag b (j - 1)<=ag a (i - 1)) (hd:∀r i j o g p q,Rs a b r->Q (.done (some r,i,j,o,g,p,q)) st)
 (hx:∀i j o g p q,Jh a b o i j->1<=i->i<=a.size->2<=j->j<=b.size->X+i+j<=a.size+b.size->Q (.done (none,i,j,o,g,p,q)) st/\Q (.yield (none,i,j,o,g,p,q)) st) :
 wpS (bX prog w) A E s (hiC a b o i j g p q) Q st:=by
 have hi:i - 1<a.size:=by lia
 refine cb (dJ hi ?_);have e:=Al J m Z h2 Y (yB l) h1 hi hk
 by_cases U:i - 1=0
 . rw[if_pos (by simpa using U)];exact cq (hd _ _ _ _ _ _ _ (zZ e m Z (fe hi) Y (.inl U)))
 . rw[if_neg (by simpa using U)];have z:=hx (i - 1) j (o.push a[i - 1]) g p q e (xt U) (fe hi) l Y (by lia);split
   . exact cq z.1
   . exact cq z.2
theorem Kg{st:dP}{g p q X:Nat}{Q:ForInStep HiT->dP->Prop}(B:kindOf st=rk)(M:IntKeys a)(L:IntKeys b)(Y:Seg a 0 a.size)(U:Seg b 0 b.size)(e:∀x,x<a.size->ag b 0<=ag a x)
 (J:Jh a b o i j) (h1:1<=i) (h2:i<=a.size) (O:2<=j) (H:j<=b.size) (P:X+i+j<=a.size+b.size) (hk:ag a (i - 1)<=ag b (j - 1)) (hd:∀r i j o g p q,Rs a b r->Q (.done (some r,i,j,o,g,p,q)) st)
 (hx:∀i j o g p q,Jh a b o i j->1<=i->i<=a.size->2<=j->j<=b.size->X+i+j<=a.size+b.size->Q (.done (none,i,j,o,g,p,q)) st/\Q (.yield (none,i,j,o,g,p,q)) st) :
 wpS (bX prog w) A E s (hiB a b o i j g p q) Q st:=by
 have hi:i - 1<a.size:=by lia
 have hj:j - 1<b.size:=by lia
 refine cb (dJ hj ?_);have C:=N8 J Y U h2 H h1 (yB O) hj hk
 by_cases D:j - 1=1
 . rw[if_pos (by simpa using D)];exact cq (hd _ _ _ _ _ _ _ (Ep C Y U h2 (fe hj) D e))
 . rw[if_neg (by simpa using D)];refine cb (dJ hi (cb (pq B (M _ (by simp)) L (by lia) (by lia) (U.sub (ax _) (by lia)) λm I l u=>?_)))
   dsimp only
   rw[<- iQ hi] at l u;simp only[nI] at l u;have Z:=aaR (z:=m) C Y U h2 (fe hj) h1 I (λx h1 h2=>wU.mp (u x h1 h2));split
   . by_cases y:m=1
     . rw[if_pos (by simpa using y)];exact cq (hd _ _ _ _ _ _ _ (Ep Z Y U h2 (by lia) y e))
     . rw[if_neg (by simpa using y)]
       by_cases v:m=0
       . rw[if_pos (by simpa using v)];exact cq (hd _ _ _ _ _ _ _ (zZ Z Y U h2 (by lia) (.inr v)))
       . rw[if_neg (by simpa using v)];exact Ko Y U Z h1 h2 (by lia) (by lia) (by lia) (fy (xu.mp (l (m - 1) (by lia)))) hd hx
   . exact Ko Y U C h1 h2 (by lia) (by lia) (by lia) (fy (xu.mp (l (j - 1 - 1) (by lia)))) hd hx
theorem Yt{st:dP}{Q:C9->dP->Prop}(hk:kindOf st=rk)(ka:IntKeys a)(kb:IntKeys b)(Z:Seg a 0 a.size)(e:Seg b 0 b.size)
 (ha:1<=a.size) (hb:1<=b.size) (l:∀x,x<a.size->ag b 0<=ag a x) (hl:ag b (b.size - 1)<=ag a (a.size - 1)) (h:∀r L,Sg st L->Rs a b r->Q r L):wpS (bX prog w) A E s (mHi a b) Q st:=by
 rw[aaH];refine cb (Au (ki ⟨rfl,?_⟩));refine cb (dJ (by lia) ?_);have J0:=by
  have z:Jh a b #[] a.size b.size:=by
   exact ⟨by simp,by simp,λx hx=>by simp at hx,λx hx=>by simp at hx⟩
  have:=Al z Z e (ax _) (ax _) hb ha (by lia) hl;simpa using this
 have S0:Sg st st:=⟨rfl,rfl,rfl,rfl⟩
 by_cases D:a.size - 1=0
 . rw[if_pos (by simpa using D)];exact cq (h _ _ S0 (zZ J0 Z e (by lia) (by lia) (.inl D)))
 rw[if_neg (by simpa using D)]
 by_cases C:b.size=1
 . rw[if_pos (by simpa using C)];exact cq (h _ _ S0 (Ep J0 Z e (by lia) (by lia) C l))
 rw[if_neg (by simpa using C)];refine cb (yk ?_);refine cb (om (hJ (I:=λx c Y=>Sg st Y/\∃i j o g,c=(none,i,j,o,g)/\Jh a b o i j/\1<=i/\i<=a.size/\2<=j/\j<=b.size/\x+1+i+j<=a.size+b.size)
  (Q:=λc Y=>Sg st Y/\∃r i j o g,c=(some r,i,j,o,g)/\Rs a b r) ?step ?fin ⟨S0,_,_,_,_,rfl,J0,by lia,by lia,by lia,by lia,by lia⟩) ?post)
 case post=>
  rintro c Y ⟨S1,r,i,j,o,g,rfl,u⟩;exact cq (h _ _ S1 u)
 case fin=>
  rintro c Y ⟨S1,i,j,o,g,rfl,J,q1,q2,q3,q4,q5⟩;lia
 case step=>
  rintro x c Y _ hx ⟨S1,i,j,o,g,rfl,J,q1,q2,q3,q4,q5⟩;refine cb (om (hJ (I:=λy c Y=>Sg st Y/\∃i j o p q,c=(none,i,j,o,p,q)/\Jh a b o i j/\1<=i/\i<=a.size/\2<=j/\j<=b.size/\x+1+y+i+j<=a.size+b.size)
   (Q:=λc Y=>Sg st Y/\((∃i j o p q,c=(none,i,j,o,p,q)/\Jh a b o i j/\1<=i/\i<=a.size/\2<=j/\j<=b.size/\x+2+i+j<=a.size+b.size)\/∃r i j o p q,c=(some r,i,j,o,p,q)/\Rs a b r)) ?step1 ?Vi ⟨S1,_,_,_,_,_,rfl,J,by lia,by lia,by lia,by lia,by lia⟩) ?NQ)
  case Vi=>
   rintro c Y ⟨U,i,j,o,p,q,rfl,J,q1,q2,q3,q4,q5⟩;exact ⟨U,.inl ⟨_,_,_,_,_,rfl,J,q1,q2,q3,q4,by lia⟩⟩
  case step1=>
   rintro y c Y _ hy ⟨U,i,j,o,p,q,rfl,J,q1,q2,q3,q4,q5⟩
   dsimp only
   refine cb (dJ (by lia) (cb (dJ (by lia) ?_)));refine cb (wX (U.1.trans hk) (kb _ (by simp)) (ka _ (by simp)) ?_);rw[<- iQ (by lia),<- iQ (by lia)]
   dsimp only
   by_cases c3:ag b (j - 1)<ag a (i - 1)
   . rw[if_pos (by simpa using c3)];refine cb (dJ (by lia) ?_);have B:=Al J Z e q2 q4 (by lia) q1 (by lia) (fy c3)
     by_cases v:i - 1=0
     . rw[if_pos (by simpa using v)];exact cq ⟨U,.inr ⟨_,_,_,_,_,_,rfl,zZ B Z e (by lia) (by lia) (.inl v)⟩⟩
     . rw[if_neg (by simpa using v)];split
       . exact cq ⟨U,.inl ⟨_,_,_,_,_,rfl,B,by lia,by lia,by lia,by lia,by lia⟩⟩
       . exact cq ⟨U,_,_,_,_,_,rfl,B,by lia,by lia,by lia,by lia,by lia⟩
   . rw[if_neg (by simpa using c3)];refine cb (dJ (by lia) ?_);have B:=N8 J Z e q2 q4 q1 (by lia) (by lia) (AR.mp c3)
     by_cases v:j - 1=1
     . rw[if_pos (by simpa using v)];exact cq ⟨U,.inr ⟨_,_,_,_,_,_,rfl,Ep B Z e (by lia) (by lia) v l⟩⟩
     . rw[if_neg (by simpa using v)];split
       . exact cq ⟨U,.inl ⟨_,_,_,_,_,rfl,B,by lia,by lia,by lia,by lia,by lia⟩⟩
       . exact cq ⟨U,_,_,_,_,_,rfl,B,by lia,by lia,by lia,by lia,by lia⟩
  case NQ=>
   rintro c Y ⟨U,⟨i,j,o,p,q,rfl,J,q1,q2,q3,q4,q5⟩ | ⟨r,i,j,o,p,q,rfl,u⟩⟩
   rotate_left
   . exact cq ⟨U,_,_,_,_,_,rfl,u⟩
   refine cb (Au (ki ⟨rfl,?_⟩));refine cb (om (hJ (I:=λy c Y=>Sg st Y/\∃i j o g p q,c=(none,i,j,o,g,p,q)/\Jh a b o i j/\1<=i/\i<=a.size/\2<=j/\j<=b.size/\x+2+i+j<=a.size+b.size)
    (Q:=λc Y=>Sg st Y/\((∃i j o g p q,c=(none,i,j,o,g,p,q)/\Jh a b o i j/\1<=i/\i<=a.size/\2<=j/\j<=b.size/\x+2+i+j<=a.size+b.size)\/∃r i j o g p q,c=(some r,i,j,o,g,p,q)/\Rs a b r)) ?Mp ?fin2 ⟨U,_,_,_,_,_,_,rfl,J,by lia,by lia,by lia,by lia,by lia⟩) ?post2)
   case fin2=>
    rintro c Y ⟨U,i,j,o,g,p,q,rfl,J,q1,q2,q3,q4,q5⟩;exact ⟨U,.inl ⟨_,_,_,_,_,_,rfl,J,q1,q2,q3,q4,q5⟩⟩
   case post2=>
    rintro c Y ⟨U,⟨i,j,o,g,p,q,rfl,J,q1,q2,q3,q4,q5⟩ | ⟨r,i,j,o,g,p,q,rfl,u⟩⟩
    . exact cb (uU (cq ⟨U,_,_,_,_,rfl,J,by lia,by lia,by lia,by lia,by lia⟩))
    . exact cq ⟨U,_,_,_,_,_,rfl,u⟩
   case Mp=>
    rintro y c Y _ hy ⟨S2',i,j,o,g,p,q,rfl,J,q1,q2,q3,q4,q5⟩
    dsimp only
    generalize hg1:g - 1=g1;apply Wj;intro g';refine cb (uU ?_);have U:=S2';refine cb (dJ (by lia) (cb (pq (U.1.trans hk) (kb _ (by simp)) ka (by lia) (by lia) (Z.sub (by lia) (by lia)) λz v1 v2 v3=>?_)))
    dsimp only
    rw[<- iQ (by lia)] at v2 v3;simp only[nI] at v2 v3;have R:=Ge (z:=z) J Z e q2 q4 (by lia) v1 (λx h1 h2=>fy (zx.mp (v3 x h1 h2)))
    by_cases D:i - z > 0
    . rw[if_pos D]
      by_cases C:z=0
      . rw[if_pos (by simpa using C)];exact cq ⟨U,.inr ⟨_,_,_,_,_,_,_,rfl,zZ R Z e (by lia) q4 (.inl C)⟩⟩
      . rw[if_neg (by simpa using C)];exact zV (m:=hiB a b (o++(a.extract z i).reverse) z j g' (i - z) q) (by kernel_rfl) (Kg (X:=x+2) (U.1.trans hk) ka kb Z e l R (by lia) (by lia) q3 q4 (by lia) (zL.mp (v2 (z - 1) (by lia))) (λr _ _ _ _ _ _ u=>⟨U,.inr ⟨_,_,_,_,_,_,_,rfl,u⟩⟩) λi j o g p q S z2 M O H P=>⟨⟨U,.inl ⟨_,_,_,_,_,_,rfl,S,z2,M,O,H,P⟩⟩,U,_,_,_,_,_,_,rfl,S,z2,M,O,H,P⟩)
    . rw[if_neg D];exact zV (m:=hiB a b o i j g' (i - z) q) (by kernel_rfl) (Kg (X:=x+2) (U.1.trans hk) ka kb Z e l J q1 q2 q3 q4 q5 (zL.mp (v2 (i - 1) (by lia))) (λr _ _ _ _ _ _ u=>⟨U,.inr ⟨_,_,_,_,_,_,_,rfl,u⟩⟩) λi j o g p q S z2 M O H P=>⟨⟨U,.inl ⟨_,_,_,_,_,_,rfl,S,z2,M,O,H,P⟩⟩,U,_,_,_,_,_,_,rfl,S,z2,M,O,H,P⟩)
end
theorem aaD(i:Nat):mergeAt' i=(do
 let z <- get
 let (some (u,m,pw),some (v,n,_)):=((fi z)[i]?,(fi z)[i+1]?) | yv "internal:list.sort.pending"
 set (setPending z (((fi z).setIfInBounds i (u,m+n,pw)).eraseIdxIfInBounds (i+1)))
 let some k <- gal false (<- oj (cm z) v) (cm z) u m 0 | return false
 let (u,m):=(u+k,m - k)
 if m == 0 then return true
 let some n <- gal true (<- oj (cm z) (u+m - 1)) (cm z) v n (n - 1) | return false
 if n == 0 then return true
 let x:=(cm z).extract u v
 let y:=(cm z).extract v (v+n)
 let r <- if m<=n then mLo x y else mHi x y
 modify λz=>setArr z (r.toList.zipIdx.foldl (λa (p,j)=>a.setIfInBounds (u+j) p) (cm z))
 return (rh (<- get)).isNone):=rfl
section
variable   {A:eK}
theorem W0{st U:dP}{Q:PUnit->dP->Prop}(h:Q ⟨⟩ U):wpS (bX prog w) A E s (set U:StateT dP Sem PUnit) Q st:=by
 rw[wpS,StateT.run_set];exact ar ⟨rfl,h⟩
end
variable {u:Nat}
theorem Hf:∀(l:List zw) (n:Nat) (a:C9),u+n+l.length<=a.size ->
 ((l.zipIdx n).foldl (λa (x:zw×Nat)=>a.setIfInBounds (u+x.2) x.1) a).toList=a.toList.take (u+n)++l++a.toList.drop (u+n+l.length)
 | [],n,a,h=>by simp
 | p::l,n,a,h=>by
  rw[List.zipIdx_cons,fS];have e:(p::l).length=l.length+1:=rfl;rw[e] at h ⊢;rw[Hf l (n+1) _ (by rw[y8];lia),Array.toList_setIfInBounds];have U:u+n<a.toList.length:=by simp;lia
  have Y:(a.toList.set (u+n) p).take (u+(n+1))=a.toList.take (u+n)++[p]:=by
   rw[show u+(n+1)=u+n+1 by lia,kG,List.take_set_of_le (ax _)];simp[List.getElem?_set,U];lia
  have Z:(a.toList.set (u+n) p).drop (u+(n+1)+l.length)=a.toList.drop (u+n+(l.length+1)):=by
   rw[List.drop_set_of_lt (by lia),show u+(n+1)+l.length=u+n+(l.length+1) by lia]
  rw[Y,Z];simp
theorem Ah:ag a i=(match a.toList[i]? with | some p=>kz p.1 | none=>0):=by rw[ag,eL];cases a[i]? <;> rfl
theorem kW{v x:Nat}(hx:u+x<v)(hv:v<=a.size):ag (a.extract u v) x=ag a (u+x):=by
 rw[iQ (by simp;lia),iQ (by lia)];simp
theorem tU{v:Nat}(k:IntKeys a):IntKeys (a.extract u v):=λp U=>k p (by
 rw[qv,g9] at U;exact List.mem_of_mem_drop (nE U))
variable {a':C9}
theorem S6{v e:Nat}(huv:u<=v)(s:v<=e)(J:e<=a.size)(m:Rs (a.extract u v) (a.extract v e) r)
 (Y:a'.toList=a.toList.take u++r.toList++a.toList.drop e) :
 a'.Perm a/\(∀t,t<u\/e<=t->ag a' t=ag a t)/\Seg a' u e/\(∀t,u<=t->t<e->∃t',u<=t'/\t'<e/\ag a' t=ag a t'):=by
 have o:r.toList.length=e - u:=by rw[m.1.length_eq];simp;lia
 have l:(a.extract u v).toList++(a.extract v e).toList=(a.toList.drop u).take (e - u):=by
  rw[qv,qv,g9,g9,show e - u=(v - u)+(e - v) by lia,List.take_add,Bz,show u+(v - u)=v by lia]
 have q:r.toList.Perm ((a.toList.drop u).take (e - u)):=by rw[<- l];exact m.1
 have p:(a.toList.take u).length=u:=by simp;lia
 have E:a.toList=a.toList.take u++(a.toList.drop u).take (e - u)++a.toList.drop e:=by
  have:=eM (e - u) (a.toList.drop u);rw[Bz,show u+(e - u)=e by lia] at this;rw[da,this,eM]
 have Z:∀t,t<u\/e<=t->ag a' t=ag a t:=by
  intro t ht;rw[Ah,Ah,Y];congr 1;rcases ht with ht | ht
  . rw[da,dA (by lia),nV ht]
  . rw[c9 (by rw[aw];lia),List.getElem?_drop];congr 1;rw[aw];lia
 have U:∀t,u<=t->t<e->ag a' t=ag r (t - u):=by
  intro t h1 h2;rw[Ah,Ah,Y];congr 1;rw[da,c9 (by lia),p,dA (by lia)]
 have y:=abe m.2;have z:r.size=e - u:=by rw[<- o];simp
 refine ⟨xp.mpr ?_,Z,λi j hi hij hj=>?_,λt h1 h2=>?_⟩
 . rw[Y]
   conv=>rhs;rw[E]
   exact (q.append_left _).append_right _
 . rw[U i hi (by lia),U j (by lia) hj];exact y _ _ (f7 _) (by lia) (by lia)
 . rw[U t h1 h2];have B:r[t - u]'(by lia)∈(a.toList.drop u).take (e - u):=q.mem_iff.mp (by simp);obtain ⟨x,D,I,H,C⟩:=qJ B;exact ⟨x,D,by lia,by rw[iQ (by lia),C]⟩
theorem Tw{y v e f:Nat}(m:y<=v)(hz:e<=f)(l:∀t,u<=t->t<y->ag a t<=ag a v)(top:∀t,y<=t->t<v+e->ag a v<=ag a t/\ag a t<=ag a (v - 1))(Y:∀t,v+e<=t->t<v+f->ag a (v - 1)<=ag a t)
 (o:ag a v<=ag a (v - 1)) (s1:Seg a u v) (x:Seg a v (v+f)) (p2:∀t,t<y\/v+e<=t->ag a' t=ag a t) (s:Seg a' y (v+e)) (r:∀t,y<=t->t<v+e->∃t',y<=t'/\t'<v+e/\ag a' t=ag a t'):Seg a' u (v+f):=by
 intro i j hi hij hj
 by_cases Z:i<y
 . rw[p2 i (.inl Z)]
   by_cases p:j<y
   . rw[p2 j (.inl p)];exact s1 i j hi hij (cK p m)
   . by_cases U:j<v+e
     . obtain ⟨t,t1,t2,t3⟩:=r j (n0.mp p) U;rw[t3];exact gx (l i hi Z) (top t t1 t2).1
     . rw[p2 j (.inr (n0.mp U))];exact gx (l i hi Z) (gx o (Y j (n0.mp U) hj))
 . have Z:=n0.mp Z
   by_cases U:j<v+e
   . exact s i j Z hij U
   . have U:=n0.mp U;rw[p2 j (.inr U)]
     by_cases q:i<v+e
     . obtain ⟨t,t1,t2,t3⟩:=r i Z q;rw[t3];exact gx (top t t1 t2).2 (Y j U hj)
     . rw[p2 i (.inr (n0.mp q))];exact x i j (c5 (AA _ _) (n0.mp q)) hij hj
variable {l1 l2:List (Nat×Nat×Nat)}
theorem SX{x y z:Nat×Nat×Nat}:(((l1++x::y::l2).toArray.setIfInBounds l1.length z).eraseIdxIfInBounds (l1.length+1))=(l1++z::l2).toArray:=by
 apply uS.mp;rw[List.setIfInBounds_toArray];have:(l1++x::y::l2).set l1.length z=l1++z::y::l2:=by simp
 rw[this,Array.eraseIdxIfInBounds,dif_pos (by simp)];simp[List.eraseIdx_append_of_length_le]
section
variable   {A:eK}
theorem Ys{st:dP}{m pw v n q:Nat}{Q:Bool->dP->Prop}(k:Sk st)(I:fi st=(l1++(u,m,pw)::(v,n,q)::l2).toArray)
 (hv:v=u+m) (hm:1<=m) (hn:1<=n) (hs:v+n<=(cm st).size) (s1:Seg (cm st) u (u+m)) (Z:Seg (cm st) v (v+n))
 (h:∀st',Sk st'->fi st'=(l1++(u,m+n,pw)::l2).toArray->(cm st').Perm (cm st)->(∀t,t<u\/v+n<=t->ag (cm st') t=ag (cm st) t)->Seg (cm st') u (u+(m+n))->Q true st') :
 wpS (bX prog w) A E s (mergeAt' l1.length) Q st:=by
 rw[aaD];refine cb (yk ?_);have g1:(fi st)[l1.length]?=some (u,m,pw):=by rw[I];simp
 have g2:(fi st)[l1.length+1]?=some (v,n,q):=by rw[I];simp
 rw[g1,g2];refine cb (W0 ?_);rw[I,SX];generalize U:setPending st (l1++(u,m+n,pw)::l2).toArray=b;have b1:kindOf b=rk:=by rw[<- U];exact k.kind
 have b2:cm b=cm st:=by rw[<- U]
 have b3:rh b=none:=by rw[<- U];exact k.failed
 have b4:fi b=(l1++(u,m+n,pw)::l2).toArray:=by rw[<- U]
 have P:Sk b:=⟨b1,b3,by rw[b2];exact k.keys⟩;refine cb (dJ (by lia) (cb (pq b1 (k.keys _ (by simp)) k.keys (by lia) (by lia) s1 λz w1 D w3=>?_)))
 dsimp only
 rw[<- iQ (by lia)] at D w3
 by_cases c1:m - z=0
 . rw[if_pos (by simpa using c1)];refine cq (h b P b4 (by rw[b2]) (λt _=>by rw[b2]) ?_);rw[b2];intro i j hi hij hj
   by_cases y:j<v
   . exact s1 i j hi hij (by lia)
   . by_cases L:i<v
     . have:=zL.mp (D (i - u) (by lia));rw[show u+(i - u)=i by lia] at this;exact gx this (Z v j (by lia) (by lia) (by lia))
     . exact Z i j (by lia) hij (by lia)
 . rw[if_neg (by simpa using c1)];refine cb (dJ (by lia) (cb (pq b1 (k.keys _ (by simp)) k.keys (by lia) (by lia) Z λz' x1 o M=>?_)))
   dsimp only
   rw[<- iQ (by lia),show u+z+(m - z) - 1=v - 1 by lia] at o M
   by_cases R:z'=0
   . rw[if_pos (by simpa using R)];refine cq (h b P b4 (by rw[b2]) (λt _=>by rw[b2]) ?_);rw[b2];intro i j hi hij hj
     by_cases y:j<v
     . exact s1 i j hi hij (by lia)
     . by_cases L:i<v
       . have h0:=wU.mp (M 0 (by lia) (by lia));exact gx (s1 i (v - 1) hi (by lia) (by lia)) (gx h0 (Z (v+0) j (by lia) (by lia) (by lia)))
       . exact Z i j (by lia) hij (by lia)
   . rw[if_neg (by simpa using R)];have hz:z<m:=by lia
     have Y:=zx.mp (w3 z (ax _) hz);have y1:((cm st).extract (u+z) v).size=m - z:=by simp;lia
     have y2:((cm st).extract v (v+z')).size=z':=by simp;lia
     have sx:Seg ((cm st).extract (u+z) v) 0 ((cm st).extract (u+z) v).size:=by
      intro i j _ hij hj;rw[kW (by lia) (by lia),kW (by lia) (by lia)];exact s1 _ _ (by lia) (by lia) (by lia)
     have sy:Seg ((cm st).extract v (v+z')) 0 ((cm st).extract v (v+z')).size:=by
      intro i j _ hij hj;rw[kW (by lia) (by lia),kW (by lia) (by lia)];exact Z _ _ (by lia) (by lia) (by lia)
     have fin:∀r st',Sg b st'->Rs ((cm st).extract (u+z) v) ((cm st).extract v (v+z')) r ->
      wpS (bX prog w) A E s (do
       modify λz0=>setArr z0 (r.toList.zipIdx.foldl (λa (p:zw×Nat)=>a.setIfInBounds (u+z+p.2) p.1) (cm z0))
       let x <- get
       pure (rh x).isNone) Q st':=by
      intro r st' S hr;refine cb (uu (cb (yk ?_)));obtain ⟨S1,O,S3,S4⟩:=S;have ef:=S4.trans b3;have l:r.toList.length=(m - z)+z':=by rw[hr.1.length_eq];simp;lia
      have fp:=Hf (u:=u+z) r.toList 0 (cm st') (by rw[O,b2,l];lia);rw[O,b2,l,show u+z+0=u+z by lia,show u+z+(m - z+z')=v+z' by lia] at fp;obtain ⟨J,H,p3,p4⟩:=S6 (by lia) (by lia) (by lia) hr fp;rw[O,b2];refine cq ?_;rw[ef];refine h _ ⟨S1.trans b1,ef,keys_perm J k.keys⟩ (S3.trans b4) J (λt ht=>H t (by lia)) ?_;have top:∀t,u+z<=t->t<v+z'->ag (cm st) v<=ag (cm st) t/\ag (cm st) t<=ag (cm st) (v - 1):=by
       intro t h1 h2
       by_cases htv:t<v
       . exact ⟨gx (fy Y) (s1 (u+z) t (by lia) h1 (by lia)),s1 t (v - 1) (by lia) (by lia) (by lia)⟩
       . have:=xu.mp (o (t - v) (by lia));rw[show v+(t - v)=t by lia] at this;exact ⟨Z v t (by lia) (by lia) (by lia),fy this⟩
      have C:∀t,u<=t->t<u+z->ag (cm st) t<=ag (cm st) v:=by
       intro t h1 h2;have:=zL.mp (D (t - u) (by lia));rwa [show u+(t - u)=t by lia] at this
      have e:∀t,v+z'<=t->t<v+n->ag (cm st) (v - 1)<=ag (cm st) t:=by
       intro t h1 h2;have:=wU.mp (M (t - v) (by lia) (by lia));rwa [show v+(t - v)=t by lia] at this
      have B:=gx (fy Y) (s1 (u+z) (v - 1) (by lia) (by lia) (by lia));generalize (List.foldl (λa p=>a.setIfInBounds (u+z+p.2) p.1) (cm st) r.toList.zipIdx)=a' at J H p3 p4 ⊢;rw[show u+(m+n)=v+n by lia];exact Tw (show u+z<=v by lia) x1 C top e B (by rw[hv];exact s1) Z H p3 p4
     split
     . refine cb (XF b1 (tU k.keys) (tU k.keys) sx sy (by lia) (by lia) ?_ ?_ fin)
       . rw[kW (by lia) (by lia),kW (by lia) (by lia)];exact fy Y
       . intro x hx;rw[kW (by lia) (by lia),kW (by lia) (by lia),show u+z+(((cm st).extract (u+z) v).size - 1)=v - 1 by lia];exact fy (xu.mp (o x (by lia)))
     . refine cb (Yt b1 (tU k.keys) (tU k.keys) sx sy (by lia) (by lia) ?_ ?_ fin)
       . intro x hx;rw[kW (by lia) (by lia),kW (by lia) (by lia)];exact gx (fy Y) (s1 (u+z) (u+z+x) (by lia) (by lia) (by lia))
       . rw[kW (by lia) (by lia),kW (by lia) (by lia),show u+z+(((cm st).extract (u+z) v).size - 1)=v - 1 by lia];exact fy (xu.mp (o _ (by lia)))
end
def Rn(a:C9):Nat->List (Nat×Nat×Nat)->Nat->Prop
 | lo,[],hi=>lo=hi
 | lo,(u,n,_)::r,hi=>u=lo/\1<=n/\Seg a u (u+n)/\Rn a (u+n) r hi
theorem Rn.le:∀{p:List (Nat×Nat×Nat)}{lo hi:Nat},Rn a lo p hi->lo+p.length<=hi
 | [],lo,hi,h=>by have:lo=hi:=h;simp;lia
 | (u,n,q)::r,lo,hi,⟨h1,h2,Y,U⟩=>by have:=Rn.le U;simp;lia
theorem Rn.same:∀{p:List (Nat×Nat×Nat)}{lo hi:Nat},Rn a lo p hi->(∀t,lo<=t->t<hi->ag a' t=ag a t)->Rn a' lo p hi
 | [],lo,hi,h,_=>h
 | (u,n,q)::r,lo,hi,⟨h1,h2,Y,U⟩,hk=>by
  have:=Rn.le U;refine ⟨h1,h2,λi j hi hij hj=>?_,Rn.same U λt t1 t2=>hk t (by lia) t2⟩;rw[hk i (by lia) (by lia),hk j (by lia) (by lia)];exact Y i j hi hij hj
theorem Rn.append:∀{p r:List (Nat×Nat×Nat)}{lo hi:Nat},Rn a lo (p++r) hi↔∃m,Rn a lo p m/\Rn a m r hi
 | [],r,lo,hi=>⟨λh=>⟨lo,rfl,h⟩,λU=>by obtain ⟨m,h1,h2⟩:=U;have:=h1;subst this;exact h2⟩
 | (u,n,q)::p,r,lo,hi=>by
  constructor
  . rintro ⟨h1,h2,Z,i⟩;obtain ⟨m,Y,e⟩:=Rn.append.mp i;exact ⟨m,⟨h1,h2,Z,Y⟩,e⟩
  . rintro ⟨m,⟨h1,h2,Z,Y⟩,e⟩;exact ⟨h1,h2,Z,Rn.append.mpr ⟨m,Y,e⟩⟩
section
variable   {A:eK}
theorem J8{st:dP}{p:List (Nat×Nat×Nat)}{Q:Bool->dP->Prop}(k:Sk st)(I:fi st=p.toArray)(z:Rn (cm st) 0 p hi)(hh:hi<=(cm st).size)(H:i+1<p.length)
 (h:∀U p',Sk U->fi U=p'.toArray->(cm U).Perm (cm st)->Rn (cm U) 0 p' hi->p'.length+1=p.length->(∀t,hi<=t->ag (cm U) t=ag (cm st) t)->Q true U) :
 wpS (bX prog w) A E s (mergeAt' i) Q st:=by
 obtain ⟨Z,x,y,r,e,el⟩:∃Z x y r,p=Z++x::y::r/\Z.length=i:=by
  refine ⟨p.take i,p[i],p[i+1],p.drop (i+2),?_,by simp;lia⟩;rw[AS,AS,eM]
 obtain ⟨u,m,pw⟩:=x;obtain ⟨v,n,q⟩:=y;subst e;subst el;obtain ⟨c,j,⟨h1,h2,L,B,J,P,l⟩⟩:=Rn.append.mp z;have C:=l.le;have M:=j.le;refine Ys k I B h2 J (by lia) L P λU D Y pm out O=>h U _ D Y pm ?_ (by simp only[aw,ba];lia) λt o=>out t (by lia);refine Rn.append.mpr ⟨c,j.same λt _ o=>out t (by lia),h1,by lia,O,?_⟩;rw[show u+(m+n)=v+n by lia];exact l.same λt o _=>out t (by lia)
structure Gd (st:dP) (lo:Nat) (b:dP):Prop where
 sk:Sk b
 perm:(cm b).Perm (cm st)
 runs:∃p,fi b=p.toArray/\Rn (cm b) 0 p lo
theorem Rn.modify{f:Nat×Nat×Nat->Nat×Nat×Nat}(j:∀x,(f x).1=x.1/\(f x).2.1=x.2.1):∀{p:List (Nat×Nat×Nat)}{i lo hi:Nat},Rn a lo p hi->Rn a lo (p.modify i f) hi
 | [],i,lo,hi,h=>by cases i <;> exact h
 | (u,n,q)::r,0,lo,hi,⟨h1,h2,Y,U⟩=>by
  obtain ⟨Z,e⟩:=j (u,n,q);rw[List.modify_zero_cons];generalize f (u,n,q)=y at Z e;obtain ⟨l,o,m⟩:=y;subst Z;subst e;exact ⟨h1,h2,Y,U⟩
 | (u,n,q)::r,i+1,lo,hi,⟨h1,h2,Y,U⟩=>by
  rw[List.modify_succ_cons];exact ⟨h1,h2,Y,Rn.modify j U⟩
theorem Gd.modify{st b:dP}{lo:Nat}{f:Nat×Nat×Nat->Nat×Nat×Nat}(g:Gd st lo b)(U:∀x,(f x).1=x.1/\(f x).2.1=x.2.1):Gd st lo (setPending b ((fi b).modify i f)):=by
 obtain ⟨p,e,r⟩:=g.runs;refine ⟨⟨g.sk.kind,g.sk.failed,g.sk.keys⟩,g.perm,p.modify i f,?_,r.modify U⟩;rw[e];apply uS.mp;simp
theorem Gd.push{st b:dP}{lo n:Nat}(g:Gd st lo b)(hs:Seg (cm b) lo (lo+n))(U:1<=n):Gd st (lo+n) (setPending b ((fi b).push (lo,n,0))):=by
 obtain ⟨p,e,r⟩:=g.runs;refine ⟨⟨g.sk.kind,g.sk.failed,g.sk.keys⟩,g.perm,p++[(lo,n,0)],?_,Rn.append.mpr ⟨lo,r,rfl,U,hs,rfl⟩⟩;rw[e];simp
set_option hygiene false in
local macro_rules | `(tactic| walk_at "runs_end")=>`(tactic| (
 refine cb (yk ?_)
 cases hbk:(fi b2).back? with
 | none=>
  refine cb (uu (cq ⟨lo+n,rfl,by lia,by lia,g2.push sg2 (by lia)⟩))
 | some t=>
  obtain ⟨s1,n1,q0⟩:=t
  dsimp only
  refine cb (om (hJ (I:=λy c b3=>c=(none,())/\Gd st lo b3/\Seg (cm b3) lo (lo+n)) (Q:=λc b3=>c=(none,())/\Gd st lo b3/\Seg (cm b3) lo (lo+n)) ?istep (λ_ _ hh=>hh) ⟨rfl,g2,sg2⟩) ?ipost)
  case ipost=>
   rintro c b3 ⟨rfl,g3,sg3⟩;have g4:=g3.modify (i:=(fi b3).size - 1) (f:=λx=>(x.1,x.2.1,power' (cm st).size (2*s1+n1) (2*s1+n1+n1+n) (cm st).size)) (λx=>⟨rfl,rfl⟩);exact cb (uu (cb (uu (cq ⟨lo+n,rfl,by lia,by lia,g4.push sg3 (by lia)⟩))))
  case istep=>
   rintro y c b3 _ hy ⟨rfl,g3,sg3⟩;refine cb (yk ?_);obtain ⟨p,ep,rp⟩:=g3.runs
   by_cases hz:(fi b3).size > 1
   . rw[if_pos hz];have hz2:(fi b3).size - 2<(fi b3).size:=by lia
     rw[getElem?_pos (fi b3) _ hz2];generalize (fi b3)[(fi b3).size - 2]=t3;obtain ⟨t1,t2,older⟩:=t3
     dsimp only
     split
     . exact cq ⟨rfl,g3,sg3⟩
     . have hpl:(fi b3).size=p.length:=by rw[ep];simp
       have sz3:(cm b3).size=(cm st).size:=g3.perm.size_eq;refine cb (J8 g3.sk ep rp (by lia) (by lia) λb4 p' k4 e4 pm4 r4 _ out=>?_);rw[if_neg (by simp)];refine cq ⟨rfl,⟨k4,pm4.trans g3.perm,p',e4,r4⟩,λi j hi hij hj=>?_⟩;rw[out i (by lia),out j (by lia)];exact sg3 i j hi hij hj
   . rw[if_neg hz];exact cq ⟨rfl,g3,sg3⟩))
theorem XC{st:dP}{Q:Unit->dP->Prop}(k:Sk st)(J:fi st=#[])(h2:2<=(cm st).size)
 (h:∀U,(cm U).Perm (cm st)->rh U=none->SortedTo (cm U) (cm st).size->Q () U):wpS (bX prog w) A E s sortRuns' Q st:=by
 rw[sortRuns'_eq];refine cb (yk ?_)
 dsimp only
 generalize M:minRun' (cm st).size (cm st).size 0=mr;refine cb (om (hJ (I:=λx c b=>∃lo,c=(none,lo)/\x<=lo/\lo<=(cm st).size/\Gd st lo b)
  (Q:=λc b=>c=(none,(cm st).size)/\Gd st (cm st).size b) ?step ?fin ⟨0,rfl,by lia,by lia,k,.refl _,[],J,rfl⟩) ?post)
 case fin=>
  rintro c b ⟨lo,rfl,q1,q2,g⟩;have:lo=(cm st).size:=by lia
  subst this;exact ⟨rfl,g⟩
 case step=>
  rintro x c b _ hx ⟨lo,rfl,q1,q2,g⟩
  by_cases y:lo>=(cm st).size
  . rw[if_pos y];have:lo=(cm st).size:=by lia
    subst this;exact cq ⟨rfl,g⟩
  . rw[if_neg y];have sz:=g.perm.size_eq;refine cb (XX g.sk (by lia) (by lia) λm b1 Y P S C=>?_)
    dsimp only
    have keep:∀{b2:dP},Mv lo (cm st).size b b2->Gd st lo b2:=λ{b2} Y=>by
     obtain ⟨p,ep,rp⟩:=g.runs;exact ⟨Y.sk g.sk,Y.perm.trans g.perm,p,Y.pend.trans ep,rp.same λt _ R=>Y.out t (by lia)⟩
    have e:Mv lo (cm st).size b b1:=Y.wide (by lia) (by lia)
    by_cases z:m<mr
    . rw[if_pos z];refine cb (Au (ki ⟨rfl,?_⟩));refine cb (Yy (Y.sk g.sk) (by rw[Y.size];lia) (by lia) C λb2 v sg2=>?_);rw[if_neg (by simp)];have g2:=keep (e.trans (v.wide (ax _) (by lia)));have r:1<=min ((cm st).size - lo) mr:=by lia
      have o:lo+min ((cm st).size - lo) mr<=(cm st).size:=by lia
      generalize min ((cm st).size - lo) mr=n at *
      walk_at "runs_end"
    . rw[if_neg z];have g2:=keep e;generalize b1=b2 at *
      have sg2:=C;have r:1<=m:=by lia
      have o:lo+m<=(cm st).size:=by lia
      generalize m=n at *
      walk_at "runs_end"
 case post=>
  rintro c b ⟨rfl,g⟩;have sz:=g.perm.size_eq;refine cb (om (hJ (I:=λx c b=>c=(none,())/\Sk b/\(cm b).Perm (cm st)/\∃p,fi b=p.toArray/\Rn (cm b) 0 p (cm st).size/\p.length<=max 1 ((cm st).size - x))
   (Q:=λc b=>c=(none,())/\Sk b/\(cm b).Perm (cm st)/\∃p,fi b=p.toArray/\Rn (cm b) 0 p (cm st).size/\p.length<=1) ?ack ?acR ?abB) ?acd)
  case abB=>
   obtain ⟨p,ep,rp⟩:=g.runs;have:=rp.le;exact ⟨rfl,g.sk,g.perm,p,ep,rp,by lia⟩
  case acR=>
   rintro c b ⟨O,Z,pm,p,ep,rp,l⟩;exact ⟨O,Z,pm,p,ep,rp,by lia⟩
  case acd=>
   rintro c b ⟨rfl,Z,pm,p,ep,rp,l⟩;refine cq (h b pm Z.failed λi j hij hj=>?_)
   match p,rp,l with
   | [],rp,_=>have:0=(cm st).size:=rp;lia
   | [(u,n,q)],⟨h1,h3,D,L⟩,_=>
    have h6:u+n=(cm st).size:=L;exact D i j (by lia) hij (by lia)
  case ack=>
   rintro x c b _ hx ⟨rfl,Z,pm,p,ep,rp,l⟩;refine cb (yk ?_);have hpl:(fi b).size=p.length:=by rw[ep];simp
   by_cases B:(fi b).size<=1
   . rw[if_pos B];exact cq ⟨rfl,Z,pm,p,ep,rp,by lia⟩
   . rw[if_neg B];refine cb (J8 Z ep rp (by rw[pm.size_eq];exact ax _) ?hidx λb4 p' k4 e4 pm4 r4 H out=>?acp)
     case acp=>
      rw[if_neg (by simp)];exact cq ⟨rfl,k4,pm4.trans pm,p',e4,r4,by lia⟩
     case hidx=>
      repeat' split
      all_goals lia
theorem Cj{U:B9}{n:Nat}{P:Fin->a8->Prop}(j:s.heap.get? p=some (pV "list" U.toArray n))
 (i:oa U ns) (hz:U.length<=be)
 (h:∀(out:Array a0) (Y:B4),oa out.toList Y->Y.Perm ns->Y.Pairwise (· <= ·)->P (.done (.ret .none)) { s with heap:=sortedHeap s.heap p U out }) :
 cf (bX prog w) A (Builtin.«list.sort» ⟨[.ref p],[]⟩) P E s:=by
 by_cases h2:U.length<2
 . exact list_sort_tree j i (by lia) h
 rw[list_sort_plain];have ha:=bg j;refine ae (listItems_at j rfl (ae (listUpdate_at j rfl ?_ (by simpa using hz) (by simp))));obtain ⟨l,q⟩:∃l,(s.heap.update p (mT λ_=>#[])).get? p=some (pV "list" #[] l):=⟨_,get?_update_seq j (λ_=>#[])⟩;refine ae (seqEpoch_at q rfl (ae (wpAny_newTuple (ae (y9 (ft ?_))))));have g2:(((s.heap.update p (mT λ_=>#[])).push (pV "tuple" U.toArray 0)).push (pV "list" #[] 0)).get? p=some (pV "list" #[] l):=
  av _ (av _ q)
 have v:¬ U.toArray.size<2:=by simpa using h2
 rw[if_neg v,if_neg v];have m:keyKind' U.toArray=pure rk:=by
  match U,h2,i with
  | [],h2,_=>simp at h2
  | [_],h2,_=>simp at h2
  | v₁::r::u,_,i=>exact keyKind_ints i
 rw[m];refine ae (ar ?_);have all:=XC (prog:=prog) (w:=w) (A:=A) (E:=E) (s:={ s with heap:=((s.heap.update p (mT λ_=>#[])).push (pV "tuple" U.toArray 0)).push (pV "list" #[] 0) })
  (st:=dP.mk' rk (U.toArray.zip U.toArray) #[] 7 none)
  (Q:=λ_ Z=>(cm Z).Perm (pairsOf U)/\rh Z=none/\SortedTo (cm Z) (pairsOf U).size)
  ⟨rfl,rfl,i.intKeys⟩ rfl (by show 2<=(pairsOf U).size;rw[pairsOf_size];lia) (λZ q1 q2 q3=>⟨q1,q2,q3⟩)
 refine ae (eR all ?_ λ_ _ e=>e);rintro ⟨⟨⟩,Z⟩ D ⟨rfl,x,C,o⟩;refine ae (seqEpoch_at g2 rfl (ae (listUpdate_at g2 rfl ?_ (by simp) (by rw[xw,x.size_eq,pairsOf_size];lia))));rw[C];simp only[bne_self_eq_false,fh,if_false];obtain ⟨Y,y,z,B⟩:=sorted_out i x o;exact ar (h _ Y y z B)
end
noncomputable def insI(x:Int):B4->B4
 | []=>[x]
 | y::ys=>if x<=y then x::y::ys else y::insI x ys
noncomputable def srt:B4->B4
 | []=>[]
 | x::xs=>insI x (srt xs)
theorem insI_perm(x:Int):∀ys:B4,(insI x ys).Perm (x::ys)
 | []=>.refl _
 | y::ys=>by
  unfold insI
  by_cases h:x<=y
  . rw[if_pos h]
  . rw[if_neg h];exact ((insI_perm x ys).cons y).trans (.swap ..)
theorem dX:∀xs:B4,(srt xs).Perm xs
 | []=>.refl _
 | x::xs=>(insI_perm x (srt xs)).trans ((dX xs).cons x)
theorem ym(x:Int):∀{ys:B4},ys.Pairwise (· <= ·)->(insI x ys).Pairwise (· <= ·)
 | [],_=>List.pairwise_singleton _ _
 | y::ys,h=>by
  unfold insI;have hy:=(kg.mp h)
  by_cases U:x<=y
  . rw[if_pos U];refine kg.mpr ⟨λz hz=>?_,h⟩;rcases bq.mp hz with rfl | hz
    . exact U
    . exact gx U (hy.1 z hz)
  . rw[if_neg U];refine kg.mpr ⟨λz hz=>?_,ym x hy.2⟩;rcases bq.mp ((insI_perm x ys).mem_iff.mp hz) with rfl | hz
    . lia
    . exact hy.1 z hz
theorem gR:∀xs:B4,(srt xs).Pairwise (· <= ·)
 | []=>.nil
 | x::xs=>ym x (gR xs)
theorem kj:∀{xs ys:B4},xs.Perm ys->xs.Pairwise (· <= ·)->ys.Pairwise (· <= ·)->xs=ys
 | [],ys,p,_,_=>(List.nil_perm.mp p).symm ▸ rfl
 | x::xs,[],p,_,_=>absurd p.length_eq (by simp)
 | x::xs,y::ys,p,hx,hy=>by
  have U:=kg.mp hx;have Y:=kg.mp hy;have h1:y<=x:=by
   rcases bq.mp (p.mem_iff.mp a7) with e | e
   . lia
   . exact Y.1 x e
  have h2:x<=y:=by
   rcases bq.mp (p.mem_iff.mpr a7) with e | e
   . lia
   . exact U.1 y e
  have e:x=y:=by lia
  subst e;rw[kj (p.cons_inv) U.2 Y.2]
theorem qw:∀{us:B9}{ns:B4},oa us ns->CA (ns.map V.int) us
 | _,_,.nil=>.nil
 | _,_,.cons n t h=>.cons ⟨t,rfl⟩ (qw h)
theorem au.Lj:∀{ns:B4}{vs:C1},au K A (ns.map af.int) vs->vs=ns.map V.int
 | [],vs,h=>au.nil.mp h
 | n::ns,vs,h=>by
  obtain ⟨v,r,rfl,h1,h2⟩:=au.cons.mp h;rw[Rp.int.mp h1,au.Lj h2];rfl
open Classical in
noncomputable def eqR(h:Heap)(x:af)(y:a0):Bool:=if q:∃d as,Reads h y d as/\d.canLay0=true then fw (Classical.choose q) x else false
variable {h:Heap}{as:C3}
theorem P0{x:af}{y:a0}(r:Reads h y d as)(hd:d.canLay0=true):eqR h x y=fw d x:=by
 unfold eqR;have q:∃d as,Reads h y d as/\d.canLay0=true:=⟨d,as,r,hd⟩;rw[dif_pos q];obtain ⟨Y,U,Z⟩:=Classical.choose_spec q;rw[(PySem.Reads.unique U d as r).1]
theorem anyR{x:af}:∀{us:B9}{ds:B5}{as:C3},ReadsAll h us ds as->dc ds=true->us.any (eqR h x)=ds.any λd=>fw d x
 | _,_,_,.nil,_=>rfl
 | _,_,_,.cons r U,c=>by
  rw[dc,cp] at c;rw[j1,j1,P0 r c.1,anyR U c.2]
theorem aaw:∀{us:B9}{ds:B5}{as:C3}{u:a0},ReadsAll h us ds as->u∈us->∃d as,d∈ds/\Reads h u d as
 | _,_,_,u,.nil,m=>nomatch m
 | _,_,_,u,.cons r Y,m=>by
  rcases bq.mp m with rfl | m
  . exact ⟨_,_,a7,r⟩
  . obtain ⟨U,as,h1,h2⟩:=aaw Y m;exact ⟨U,as,a6 _ h1,h2⟩
noncomputable def inB(a:af)(ds:B5):Bool:=ds.any λy=>fw y a
noncomputable def Oc:af->af->Co af
 | a,.list ds=>gd (ee a=true/\ds.all ee=true) (.ok (.bool (!inB a ds)))
 | a,.tuple ds=>gd (ee a=true/\ds.all ee=true) (.ok (.bool (!inB a ds)))
 | _,_=>.bad
theorem Bu:∀{ds:B5},ds.all ee=true->dc ds=true
 | [],_=>by rw[dc]
 | d::ds,h=>by
  rw[List.all_cons,cp] at h;rw[dc,mE h.1,Bu h.2];rfl
theorem G3(h:ee d=true):d.depth<=64:=by
 unfold ee at h;rw[cp] at h;exact of_decide_eq_true h.2
variable {BY:A6}
theorem Px{U:af}{x:V}{v:a0}{Y:B9}(hu:X.A.units+66<qE)(I:Cs X BY σ H s)(u:Ct x v)(ha:aA A H)
 (q:Pk X.K A H U x) (j:ee U=true) (Z:ds.all ee=true) (q2:au X.K A ds vs) (r:CA vs Y) :
 (∀y,y∈Y.toArray->SeqAt.EqAt X.A.in1 s y v (eqR s.heap U y))/\Y.toArray.any (eqR s.heap U)=inB U ds:=by
 obtain ⟨as,p⟩:=Is.reads I U (q.is ha j) u;obtain ⟨bs,l⟩:=d8.reads I ds (d8.mono ha ds (au.is ds (Bu Z) q2)) r;refine ⟨λy hy=>?_,by rw[List.any_toArray,anyR l (Bu Z)];rfl⟩;obtain ⟨d,o,hd,m⟩:=aaw l (by simpa using hy);have i:=hZ.mp Z d hd;rw[P0 m (mE i)];refine SeqAt.eqAt_reads d U X.A.in1 s y v o as m p (mE i) (mE j) ?_;have:=G3 i;have e:X.A.in1.units=X.A.units+1:=rfl;have:=Nat.min_le_left d.depth U.depth;lia
theorem Dp(hu:X.A.units+66<qE):OpR X (fR .NotIn) (rD X.K Oc):=by
 rintro q s M H x y v u Q I p D ⟨A,B,J,d,e,ha,z,C,k⟩
 cases J with
 | list E=>
  obtain ⟨⟨U,Y⟩,e⟩:=bZ e;have o:=Co.ok.inj e;subst o;obtain ⟨l,L,rfl,h1,q2⟩:=C.list ha;cases D;obtain ⟨j,r,Z,hz⟩:=I.list h1;obtain ⟨i,m⟩:=Px hu I p ha z U Y q2 r;refine SeqAt.notIn_listAt (eqR s.heap B) Z.isList i ?_;rw[m];exact ⟨.bl _,H,I,rfl,k _ A H (aO.refl ha) (Rp.bool.mpr rfl)⟩
 | tuple E=>
  obtain ⟨⟨U,Y⟩,e⟩:=bZ e;have o:=Co.ok.inj e;subst o;obtain ⟨l,L,rfl,h1,q2⟩:=C.tuple ha;cases D;obtain ⟨j,r,Z,hz⟩:=I.tuple h1;obtain ⟨i,m⟩:=Px hu I p ha z U Y q2 r;refine SeqAt.notIn_tupleAt (eqR s.heap B) (Z) i ?_;rw[m];exact ⟨.bl _,H,I,rfl,k _ A H (aO.refl ha) (Rp.bool.mpr rfl)⟩
 | _=>cases e
theorem _root_.Zq.cA.cH{k:Nat}{A:eK}(r:cA k A):A.units+66<qE:=by have:=r.un;lia
noncomputable def cD(key:Key):B0->Option af
 | []=>none
 | (k,d)::r=>if bJ k=some key then some d else cD key r
noncomputable def qz(key:Key):B0->Bool
 | []=>false
 | (k,_)::r=>if bJ k=some key then true else qz key r
noncomputable def vo(key:Key)(x:af):B0->B0
 | []=>[]
 | (k,d)::r=>(if bJ k=some key then (k,x) else (k,d))::vo key x r
noncomputable def iW(kd:af)(key:Key)(x:af)(Cb:B0):B0:=if qz key Cb=true then vo key x Cb else Cb++[(kd,x)]
theorem lA{k:af}{key U:Key}(h:bJ k=some U):bJ k=some key↔U=key:=by rw[h];simp
variable {Cb:B0}
section
variable   {key:Key}
theorem aR.look:∀{Cb:B0}{u:A7},aR K A Cb u->(∀d,cD key Cb=some d->∃v,jc u key=some v/\Rp K A d v)/\(cD key Cb=none->jc u key=none)
 | [],u,h=>by
  rw[aR.nil] at h;subst h;exact ⟨λd e=>(nomatch e),λ_=>rfl⟩
 | (k,d)::r,u,h=>by
  obtain ⟨Y,v,j,rfl,hk,hd,Z⟩:=aR.cons.mp h;unfold cD
  by_cases e:bJ k=some key
  . have U:=(lA hk).mp e;rw[if_pos e];exact ⟨λi z=>by cases z;exact ⟨v,tW U,hd⟩,λz=>(nomatch z)⟩
  . have U:=λz=>e ((lA hk).mpr z);rw[if_neg e,uX U];exact aR.look Z
theorem aR.has:∀{Cb:B0}{u:A7},aR K A Cb u->(u.any λY=>decide (Y.1=key))=qz key Cb
 | [],u,h=>by rw[aR.nil] at h;subst h;rfl
 | (k,d)::r,u,h=>by
  obtain ⟨U,v,i,rfl,hk,hd,Z⟩:=aR.cons.mp h;rw[qz,j1,aR.has Z]
  by_cases e:bJ k=some key
  . rw[if_pos e,decide_eq_true ((lA hk).mp e)];rfl
  . rw[if_neg e,decide_eq_false λz=>e ((lA hk).mpr z)];rfl
theorem aR.set{x:af}{w:V}(hx:Rp K A x w):∀{Cb:B0}{u:A7},aR K A Cb u->aR K A (vo key x Cb) (u.map λY=>if Y.1=key then (Y.1,w) else Y)
 | [],u,h=>by rw[aR.nil] at h;subst h;exact aR.nil.mpr rfl
 | (k,d)::r,u,h=>by
  obtain ⟨U,v,i,rfl,hk,hd,Z⟩:=aR.cons.mp h;rw[vo,b9]
  by_cases e:bJ k=some key
  . rw[if_pos e,if_pos ((lA hk).mp e)];exact aR.cons.mpr ⟨U,w,_,rfl,hk,hx,aR.set hx Z⟩
  . rw[if_neg e,if_neg λz=>e ((lA hk).mpr z)];exact aR.cons.mpr ⟨U,v,_,rfl,hk,hd,aR.set hx Z⟩
theorem aR.snoc{Z x:af}{w:V}(hk:bJ Z=some key)(hx:Rp K A x w):∀{Cb:B0}{u:A7},aR K A Cb u->aR K A (Cb++[(Z,x)]) (u++[(key,w)])
 | [],u,h=>by rw[aR.nil] at h;subst h;exact aR.cons.mpr ⟨key,w,[],rfl,hk,hx,aR.nil.mpr rfl⟩
 | (k,d)::r,u,h=>by
  obtain ⟨U,v,i,rfl,Y,hd,e⟩:=aR.cons.mp h;exact aR.cons.mpr ⟨U,v,_,rfl,Y,hd,aR.snoc hk hx e⟩
theorem aR.put{x:af}{u:A7}(hk:bJ d=some key)(hx:Rp K A x v)(h:aR K A Cb u):aR K A (iW d key x Cb) (putK u key v):=by
 unfold iW putK;rw[h.has]
 by_cases e:qz key Cb=true
 . rw[if_pos e,if_pos e];exact h.set hx
 . rw[if_neg e,if_neg e];exact h.snoc hk hx
theorem aR.length:∀{Cb:B0}{u:A7},aR K A Cb u->Cb.length=u.length
 | [],u,h=>by rw[aR.nil] at h;subst h;rfl
 | (k,d)::r,u,h=>by
  obtain ⟨U,v,Z,rfl,_,_,Y⟩:=aR.cons.mp h;rw[ba,ba,aR.length Y]
end
noncomputable def gk:af->af->Co af
 | a,.dict Cb=>match bJ a with
  | some key=>.ok (.bool (!(cD key Cb).isSome))
  | none=>.bad
 | a,b=>Oc a b
theorem Pk.key{key:Key}(p:Pk K A H d v)(h:bJ d=some key):v=kV key:=by
 cases d with
 | int i=>cases h;exact p.int
 | str x=>cases h;exact p.str
 | _=>cases h
theorem aR.some{u:A7}{key:Key}(h:aR K A Cb u):(jc u key).isSome=(cD key Cb).isSome:=by
 have:=h.look (key:=key)
 cases e:cD key Cb with
 | none=>rw[this.2 e];rfl
 | some d=>obtain ⟨v,U,_⟩:=this.1 d e;rw[U];rfl
theorem iT(hu:X.A.units+66<qE):OpR X (fR .NotIn) (rD X.K gk):=by
 rintro U s q H x y v u Q I Z p ⟨A,Y,r,d,e,ha,i,j,k⟩
 cases r with
 | dict o=>
  have e:(match bJ Y with | some key=>Co.ok (af.bool (!(cD key o).isSome)) | none=>.bad)= .ok d:=e
  cases hk:bJ Y with
  | none=>rw[hk] at e;cases e
  | some key=>
   rw[hk] at e;cases e;obtain ⟨l,w,rfl,h1,h2⟩:=j.dict ha;cases p;rw[i.key hk] at Z;exact XR (by lia) I ((kx ⟨_,key,h1,rfl,rfl⟩)) Z λB z=>⟨.bl _,H,z,rfl,k _ A H (aO.refl ha) (Rp.bool.mpr (by rw[h2.some]))⟩
 | list m=>exact Dp hu U s q H x y v u Q I Z p ⟨A,Y,.list m,d,e,ha,i,j,k⟩
 | tuple m=>exact Dp hu U s q H x y v u Q I Z p ⟨A,Y,.tuple m,d,e,ha,i,j,k⟩
 | _=>cases e
noncomputable def o9(i:Nat)(mk mv:ME):MS:=λΓ=>(mv Γ).bind λx=>(mk Γ).bind λkd=>match gv Γ i with
 | some (.dict Cb)=>match bJ kd with
  | some key=>gd (Cb.length<be/\i < Γ.length) (.ok (.nx (Γ.set i (some (.dict (iW kd key x Cb))))))
  | none=>.bad
 | _=>.bad
section
variable     {a b:Expr}{p apos:Pos}
theorem uw(r:aQ K A B H O σ Γ)(hi:isO (fl O i)=true)(Y:gv Γ i=some (.dict Cb)):∃q u,sv σ i=some (.ref q)/\H q=some (.dK u)/\aR K A Cb u:=by
 obtain ⟨d,q,o,U,e,h1,h2,m,⟨j,l,rfl,rfl,Z⟩ | ⟨Cb,u,rfl,rfl,Z⟩⟩:=r.pP hi (by rw[Y];simp)
 . rw[Y] at U;cases U
 . rw[Y] at U;cases U;exact ⟨q,u,e,h1,Z⟩
theorem Rp.key{key:Key}(p:Rp K A d v)(h:bJ d=some key):v=kV key:=Pk.key (H:=A) (.inl p) h
theorem BV(i:Nat)(hu:X.A.units+66<qE)(ha:QE X a (tE X.K O m))(J:QE X e (tE X.K O m'))(hi:isO (fl O i)=true:=by rfl)(nm:Nm X i x:=by walk_at "nm")(hs:i4 e (some (.Subscript (.Name x pos') a cpos)) pos.line X.env=pure false:=by rfl) :
 QS X (.Assign [.Subscript (.Name x pos') a cpos] e pos) (tS X.K rm Ol O O (o9 i m m')):=by
 refine QS.imp (J5 (by lia) (fD nm.1 nm.2 nm.3 nm.4) ha.h J.h hs) λD S H Z=>?_;obtain ⟨A,B,l,o,r,em,k⟩:=Z;obtain ⟨d,L,em⟩:=Co.aq em;obtain ⟨Q,C,em⟩:=Co.aq em
 cases j:gv l i with
 | none=>rw[j] at em;cases em
 | some dl=>
  rw[j] at em
  cases dl with
  | dict E=>
   have U:=em
   cases hk:bJ Q with
   | none=>rw[hk] at U;cases U
   | some key=>
    rw[hk] at U;obtain ⟨⟨hz,p⟩,U⟩:=bZ U;cases U;obtain ⟨q,u,y,h2,s⟩:=uw r hi j;refine ⟨A,B,l,d,r,L,λv M H1 z P=>⟨.ref q,fC y,M,B,l,_,r.grow z,C,λw I H2 g2 R=>?_⟩⟩;have Y:=z.trans g2;refine ⟨q,_,rfl,by rw[Rp.key R hk];exact vO.k (Y.hh _ _ h2) (by rw[<- s.length];exact hz),?_⟩;exact k S I _ ((r.grow Y).change hi p (by rw[j];simp) y (Y.hh _ _ h2) (.inr ⟨_,_,rfl,rfl,aR.put hk (Rp.mono g2.aa _ P) (aR.mono Y.aa _ s)⟩)) Y.aa (Y.nB r.b)
  | _=>cases em
end
noncomputable def ixY:af->af->Co af
 | .dict Cb,a=>match bJ a with
  | some key=>match cD key Cb with
   | some d=>.ok d
   | none=>.bad
  | none=>.bad
 | a,b=>CF a b
theorem W6:IxR X (λx y H Q=>∃a v,x= .ref a/\rJ H a y (some v)/\X.A.units+1<qE/\Q v H):=by
 intro Z e Y s l H x y v u Q I p B h m;obtain ⟨a,w,rfl,g,hu,q⟩:=h;cases p;have hT:=Jb I g;refine ae ?_;rw[getitemInPython_of_ne hT.not_modules];refine ae (pb hT x5.lookup ?_);have fin:cf (bX X.prog X.w) X.A (x9 e false (.ref a) u) (λr U=>cf (bX X.prog X.w) X.A (letTemporaryGo Z (.ref a) r >>= λ_=>pure r) (EP X Y l Q) X.xe U) X.xe s:=by
  rw[m];exact wpAny_operating (eR (Qg hu I g B λz o C j=>(⟨w,H,C,j,q⟩:EP X Y l Q z o)) (λr U i=>ae (wpAny_letTemporaryGo (ar i))) λ_ _ x=>x)
 first
  | exact ar (ae fin)
  | exact ae (ar (ae fin))
  | exact ae fin
theorem Z4(hu:X.A.units+66<qE):IxR X (rD X.K ixY):=by
 intro U Y Z s r H x y v u Q I o z E B;obtain ⟨A,M,m,d,e,ha,p,q,k⟩:=E
 cases M with
 | dict i=>
  have e:(match bJ m with | some key=>(match cD key i with | some d=>Co.ok d | none=>.bad) | none=>.bad)= .ok d:=e
  cases hk:bJ m with
  | none=>rw[hk] at e;cases e
  | some key=>
   rw[hk] at e;have e:(match cD key i with | some d=>Co.ok d | none=>.bad)= .ok d:=e
   cases C:cD key i with
   | none=>rw[C] at e;cases e
   | some O=>
    rw[C] at e;cases e;obtain ⟨l,w,rfl,h1,h2⟩:=p.dict ha;obtain ⟨J,D,L⟩:=(h2.look).1 d C;refine W6 U Y Z s r H _ y v u Q I o z ⟨l,J,rfl,?_,by lia,k _ A H (aO.refl ha) L⟩ B;rw[q.key hk,<- D];exact (.inl ⟨_,_,h1,rfl,rfl⟩)
 | list j=>exact Es U Y Z s r H x y v u Q I o z ⟨A,.list j,m,d,e,ha,p,q,k⟩ B
 | tuple j=>exact Es U Y Z s r H x y v u Q I o z ⟨A,.tuple j,m,d,e,ha,p,q,k⟩ B
 | str j=>exact Es U Y Z s r H x y v u Q I o z ⟨A,.str j,m,d,e,ha,p,q,k⟩ B
 | _=>cases e
theorem kE{b:Expr}(hu:X.A.units+66<qE)(ha:QE X e (tP X.K O m1))(U:QE X b (tP X.K O m2))(hs:sX b):QE X (.Subscript e b pos) (tE X.K O (ak ixY m1 m2)):=QE.imp (Wb (Z4 hu) ha.h U.h hs) λ_ _ _=>vQ
noncomputable def m8:B0->Option B4
 | []=>some []
 | (.int k,_)::r=>(m8 r).map (k :: ·)
 | _=>none
theorem Hz:∀{Cb:B0}{ns:B4}{u:A7},m8 Cb=some ns->aR K A Cb u->u.map (·.1)=ns.map l5
 | [],ns,u,h,r=>by cases h;rw[aR.nil.mp r];rfl
 | (.int k,d)::U,ns,u,h,r=>by
  have h:(m8 U).map (k :: ·)=some ns:=h
  cases e:m8 U with
  | none=>rw[e] at h;cases h
  | some i=>
   rw[e] at h;cases h;obtain ⟨key,v,Z,rfl,hk,_,Y⟩:=aR.cons.mp r;cases hk;rw[b9,b9,Hz e Y]
 | (.none,d)::U,ns,u,h,r=>by cases h
 | (.bool _,d)::U,ns,u,h,r=>by cases h
 | (.str _,d)::U,ns,u,h,r=>by cases h
 | (.list _,d)::U,ns,u,h,r=>by cases h
 | (.tuple _,d)::U,ns,u,h,r=>by cases h
 | (.dict _,d)::U,ns,u,h,r=>by cases h
theorem YL{u:A7}{U:List (Key×a0)}(r:KV u U):U.map (·.1)=u.map (·.1):=by
 induction r with
 | nil=>rfl
 | cons h t Y=>rw[b9,b9,Y,h.1]
theorem Yz{i:Int}{v:a0}(h:(bu P w).is (.inl i) v=true):∃t,v= .int i t:=by
 rw[My] at h;cases v <;> simp_all [qQ,Value.isInt]
theorem rT:∀{vs:B9}{ns:B4},vs.length=ns.length->(∀(j:Nat) (v:a0),vs[j]?=some v->∃n t,ns[j]?=some n/\v= .int n t)->oa vs ns
 | [],[],_,_=>.nil
 | [],_::_,h,_=>by simp at h
 | _::_,[],h,_=>by simp at h
 | v::vs,n::ns,h,g=>by
  obtain ⟨n',t,e,rfl⟩:=g 0 v rfl;obtain rfl:n=n':=Option.some.inj e;exact .cons n t (rT (by simpa using h) λj v hv=>g (j+1) v (by simpa using hv))
theorem Gj(hc:X.calm=true):eH X (.builtin "sorted") (λxs H Q=>∃p u ns,xs=[.ref p]/\Rd H p (.dK u)/\u.map (·.1)=ns.map l5/\ns.length<3000/\∀l,H l=none->Q (.ref l) (CB H l (.lst ((srt ns).map V.int)))):=by
 rintro D s σ H xs us Q I r ⟨p,u,ns,rfl,he,hk,m,q⟩;obtain ⟨z,rfl,rx⟩:=vals1 r;cases rx;obtain ⟨hz,C,vs,kv,dd⟩:=m9 I.CH he;obtain ⟨ep,M⟩:=dd.dictAt;have B:=(YL kv).trans hk;have J:=by have:=congrArg List.length B;rwa [ai,ai] at this
 have Y:vs.length<=be:=by rw[J];exact fe (nz m (by decide))
 refine (Calls.call_function_entry kind_sorted plain_sorted entry_sorted (args_sorted1 _) ?_);unfold Builtin.«sorted»;refine ae (ar (ae (PySem.W.kdu_collect (PySem.W.kdl_dict C) (I.ok.hd hc) M Y λL tk y Z U=>?_)));have P:y.toList.length=ns.length:=by rw[cx,U.1,J]
 have hI:=rT P λj v hv=>by
  obtain ⟨k,x,e1,e2⟩:=U.2 j v (by rw[<- eL];exact hv);have E:(ns.map l5)[j]?=some k:=by rw[<- B,a9,e1];rfl
  rw[a9] at E
  cases e4:ns[j]? with
  | none=>rw[e4] at E;cases E
  | some n=>
   rw[e4] at E;cases E;obtain ⟨t,rfl⟩:=Yz e2;exact ⟨n,t,rfl,rfl⟩
 have i:(L.push (pV "list" y.toList.toArray 0)).get? L.objs.size=some (pV "list" y.toList.toArray 0):=bo _ rfl;have R:Zq.Cs X D σ H { s with heap:=L,toks:=tk }:=I.kept Z;refine ae (y9 (ae (ft (eT slot_list_sort ⟨_,i,rfl⟩ entry_list_sort (Cj i hI (fe (cK (show _<3000 by lia) (by decide))) λout ns' a1 a2 a3=>⟨_,rfl,ar ⟨_,rfl,?_⟩⟩) (args_list_sort _)))) (by rw[P];exact fe (nz m (by decide))));have e:=kj (a2.trans (dX ns).symm) a3 (gR ns);subst e;obtain ⟨c,O⟩:=sortedHeap_at i;refine ⟨.ref L.objs.size,_,R.laid (λb o e=>?_) (ax _) ?_,rfl,q _ (R.CH.fresh (ax _))⟩
 . have S:=bg e;rw[sortedHeap_old (cS S) (by rw[size_push'];exact qc S)];exact av _ e
 . refine ⟨?_,out.toList,c,qw a1,by simpa[pV] using O⟩;rw[ai,(dX ns).length_eq];exact fe (nz m (by decide))
noncomputable def Az:B5->Co af
 | [.dict Cb]=>match m8 Cb with
  | some ns=>gd (ns.length<3000) (.ok (.list ((srt ns).map af.int)))
  | none=>.bad
 | _=>.bad
theorem K5(z:X.calm=true):eH X (.builtin "sorted") (rCF X.K Az):=by
 rintro U s o H B y Q I r ⟨A,x,d,e,ha,p,k⟩
 match x,e with
 | [.dict Cb],e=>
  have e:(match m8 Cb with | some Y=>gd (Y.length<3000) (.ok (.list ((srt Y).map af.int))) | none=>.bad)=Co.ok d:=e
  cases i:m8 Cb with
  | none=>rw[i] at e;cases e
  | some Y=>
   rw[i] at e;obtain ⟨hz,e⟩:=bZ e;cases e;obtain ⟨v,C,rfl,j,m⟩:=p.cons;obtain rfl:=m.nil;obtain ⟨l,u,rfl,h1,q1⟩:=j.dict ha;exact Gj z U s o H _ y Q I r ⟨l,u,Y,rfl,h1,Hz i q1,hz,λq Z=>k _ A _ (aO.lay ha Z) ⟨q,_,rfl,Z,bc,ha.free Z,.inl ⟨_,_,rfl,rfl,au.ints⟩⟩⟩
noncomputable def rem(H:Hp)(p:Addr):Hp:=λb=>if b=p then none else H b
theorem GF:rem H p p=none:=if_pos rfl
theorem sU{b:Addr}(h:b≠p):rem H p b=H b:=if_neg h
theorem YQ:aA (rem H p) H:=λb o e=>by
 by_cases h:b=p
 . subst h;rw[GF] at e;cases e
 . rwa [sU h] at e
theorem m6(s:aA B H)(U:B p=none):aA B (rem H p):=λb o e=>by
 have h:b≠p:=λz=>by rw[z,U] at e;cases e
 rw[sU h];exact s b o e
theorem ab0(h:gv Γ i≠none):i < Γ.length:=by
 rcases iA i Γ.length with z | z
 . exact z
 . exact absurd (by rw[gv,ay,dr z];rfl) h
theorem aQ.aa9{o':HO}{dm:af}(r:aQ K A B H O σ Γ)(hi:isO (fl O i)=true)(s:gv Γ i≠none)(hs:sv σ i=some (.ref p))(Z:aA A A')(ah:aA A' H')(hk:∀b u,b≠p->H b=some u->H' b=some u)(nw:New A A' H)
 (R:A' p=none) (hp:H' p=some o') (ho:g8 K A' dm o'):aQ K A' B H' O σ (Γ.set i (some dm)):=by
 obtain ⟨d,p',o0,e1,S,g1,g2,g3,g4⟩:=r.pP hi s;rw[hs] at S;cases S;have hl:=ab0 s;refine ⟨ah,λb u q=>?_,by rw[fm];exact r.len,λj=>?_,λj k Q q1 q2 q3 q4=>?_⟩
 . have hb:b≠p:=λz=>by rw[z,g3] at q;cases q
   exact hk b u hb (r.b b u q)
 . by_cases hj:i=j
   . subst hj;rw[gv,bK hl];intro Y e;cases e;refine ⟨_,hs,?_⟩
     cases U:fl O i with
     | CD=>rw[U] at hi;cases hi
     | CC=>rw[U] at hi;cases hi
     | own=>exact ⟨p,o',rfl,hp,R,g3,ho⟩
     | fix p0=>
      obtain ⟨y,m,q⟩:=r.slot i d e1;rw[U] at q;rw[hs] at m;cases m;exact ⟨q.1,p,o',rfl,hp,R,g3,ho⟩
     | exc C=>rw[U] at hi;cases hi
     | nst b=>rw[U] at hi;cases hi
     | kit=>rw[U] at hi;cases hi
   . rw[gv,aM hj];intro Y x;obtain ⟨y,m,q⟩:=r.slot j Y x;refine ⟨y,m,?_⟩;have v:isO (fl O j)=true->∀p',y= .ref p'->p'≠p:=λU p' ez z=>by
      refine r.sep i j hj hi U s (by rw[gv,x];simp) ?_;rw[hs,m,ez,z]
     cases U:fl O j with
     | CD=>rw[U] at q;exact Rp.mono Z Y q
     | CC=>rw[U] at q;exact Pk.mono Z (aA.refl _) q
     | own=>
      rw[U] at q;obtain ⟨p',o',rfl,o,L,D,E⟩:=q;exact ⟨p',o',rfl,hk _ _ (v (by rw[U];rfl) p' rfl) o,nw p' L (by rw[o];simp),D,E.mono Z⟩
     | fix p0=>
      rw[U] at q;obtain ⟨q0,p',o',rfl,o,L,D,E⟩:=q;exact ⟨q0,p',o',rfl,hk _ _ (v (by rw[U];rfl) p' rfl) o,nw p' L (by rw[o];simp),D,E.mono Z⟩
     | kit=>rw[U] at q;exact wz.mono Z q
     | exc C=>
      rw[U] at q;obtain ⟨p',ob,J,M,l⟩:=q;exact ⟨p',ob,J,Z _ _ M,l⟩
     | nst b=>
      rw[U] at q;intro z;obtain ⟨p',xs,I,J,M,l,w4,w5,w6⟩:=q z;have hn:p'≠p:=λz=>by subst z;rw[g1] at l;exact g4.nx l
      exact ⟨p',xs,I,J,M,hk _ _ hn l,nw p' w4 (by rw[l];simp),w5,w6.mono Z⟩
 . have h3:gv Γ j≠none:=by
    by_cases hj:i=j
    . subst hj;exact s
    . unfold gv at q3 ⊢;rwa [aM hj] at q3
   have P:gv Γ k≠none:=by
    by_cases hk:i=k
    . subst hk;exact s
    . unfold gv at q4 ⊢;rwa [aM hk] at q4
   exact r.sep j k Q q1 q2 h3 P
inductive MA where
 | CD | CC | var (i:Nat) | new
def Nt(K:aE)(A B:Hp)(σ:St)(Γ:Ev)(H0 H:Hp):MA->af->V->Prop
 | .CD,d,v=>Rp K A d v
 | .CC,d,v=>Pk K A B d v
 | .var i,d,v=>sv σ i=some v/\gv Γ i=some d
 | .new,d,v=>∃p o,v= .ref p/\H0 p=none/\H p=some o/\A p=none/\g8 K A d o
def nq(K:aE)(A B:Hp)(σ:St)(Γ:Ev)(H0 H:Hp):List MA->B5->C1->Prop
 | [],ds,vs=>ds=[]/\vs=[]
 | a::as,ds,vs=>∃d r v s,ds=d::r/\vs=v::s/\Nt K A B σ Γ H0 H a d v/\nq K A B σ Γ H0 H as r s
section
variable  {H0:Hp}
theorem nq.base(s:aA H0 H):∀{as:List MA}{ds:B5}{vs:C1},nq K A B σ Γ H H' as ds vs->nq K A B σ Γ H0 H' as ds vs
 | [],ds,vs,h=>h
 | a::as,ds,vs,h=>by
  obtain ⟨d,r,v,t,rfl,rfl,h1,h2⟩:=h;refine ⟨d,r,v,t,rfl,rfl,?_,nq.base s h2⟩
  cases a with
  | new=>obtain ⟨p,o,e,U,q⟩:=h1;exact ⟨p,o,e,s.free U,q⟩
  | CD=>exact h1
  | CC=>exact h1
  | var i=>exact h1
theorem nq.len:∀{as:List MA}{ds:B5}{vs:C1},nq K A B σ Γ H0 H as ds vs->ds.length=as.length/\vs.length=as.length
 | [],ds,vs,h=>by obtain ⟨rfl,rfl⟩:=h;exact ⟨rfl,rfl⟩
 | a::as,ds,vs,h=>by
  obtain ⟨d,r,v,t,rfl,rfl,_,h2⟩:=h;have:=h2.len;exact ⟨by rw[ba,ba,this.1],by rw[ba,ba,this.2]⟩
theorem nq.get:∀{as:List MA}{ds:B5}{vs:C1}{i:Nat}{d:af}{v:V}{a:MA},nq K A B σ Γ H0 H as ds vs->as[i]?=some a->ds[i]?=some d->vs[i]?=some v->Nt K A B σ Γ H0 H a d v
 | [],ds,vs,i,d,v,a,h,U,Z,Y=>by simp at U
 | b::as,ds,vs,i,d,v,a,h,U,Z,Y=>by
  obtain ⟨e,r,j,t,rfl,rfl,h1,h2⟩:=h
  match i with
  | 0=>simp at U Z Y;subst U;subst Z;subst Y;exact h1
  | i+1=>exact h2.get (by simpa using U) (by simpa using Z) (by simpa using Y)
end
def tAm(K:aE)(O:C0)(as:List MA)(ms:List ME):TA:=λσ H Q=>∃A B Γ ds,aQ K A B H O σ Γ/\evs ms Γ = .ok ds/\∀vs A' H',aO A H A' H'->nq K A' B σ Γ H H' as ds vs->Q vs H'
section
variable      {as:List MA}  {es:C2}
theorem vz:QA X [] (tAm K O [] []):=QA.imp eO λY H Q U=>by
 obtain ⟨A,B,e,Z,r,em,k⟩:=U;cases em;exact k [] A H (aO.refl r.a) ⟨rfl,rfl⟩
theorem j7(ha:QE X e (tE K O m))(x:QA X es (tAm K O as ms))(hs:CO e=true:=by rfl):QA X (e::es) (tAm K O (.CD::as) (m::ms)):=QA.imp (cC ha.h x.h (bM hs)) λC H Q Y=>by
 obtain ⟨A,B,j,D,r,em,k⟩:=Y;obtain ⟨d,o,em⟩:=Co.aq em;obtain ⟨U,q,em⟩:=Co.aq em;cases em;exact ⟨A,B,j,d,r,o,λv l z Z p=>⟨l,B,j,U,r.grow Z,q,λi y s g2 u=>k (v::i) y s (Z.trans g2) ⟨d,U,v,i,rfl,rfl,Rp.mono g2.aa d p,u.base Z.hh⟩⟩⟩
theorem vp(i:Nat)(q:QA X es (tAm K O as ms))(nm:Nm X i x:=by walk_at "nm"):QA X (.Name x pos::es) (tAm K O (.var i::as) (aj i::ms)):=QA.imp (cC (fD nm.1 nm.2 nm.3 nm.4) q.h (bM rfl)) λu H Q Y=>by
 obtain ⟨A,B,p,y,r,em,k⟩:=Y;obtain ⟨d,e,em⟩:=Co.aq em;obtain ⟨U,l,em⟩:=Co.aq em;cases em;obtain ⟨v,Z,_⟩:=r.slot i d (pB e);exact ⟨v,fC Z,A,B,p,U,r,l,λj s m g2 o=>k (v::j) s m g2 ⟨d,U,v,j,rfl,rfl,⟨Z,pB e⟩,o⟩⟩
end
def spM(K:aE)(fs:C0)(j:Nat)(f:B5->Co af):Sp:=λvs H Q _=>∃A B ds d dm p o,aA A H/\aA B H/\vs.length=fs.length/\ds.length=fs.length/\vs[j]?=some (.ref p)/\H p=some o/\A p=none/\B p=none /\
 (∀e,ds[j]?=some e->g8 K A e o)/\(∀(i:Nat) e v,i≠j->ds[i]?=some e->vs[i]?=some v->Gq K A B (fl fs i) e v)/\f ds= .ok (.tuple [d,dm]) /\
 ∀v A' H' o',aA A A'->aA A' H'->(∀b u,b≠p->H b=some u->H' b=some u)->New A A' H->A' p=none->H' p=some o'->g8 K A' dm o'->Rp K A' d v->Q v H'
noncomputable def kOk:MA->Fl->Bool
 | .CD,.CD=>true
 | .CD,.CC=>true
 | .CC,.CC=>true
 | _,_=>false
theorem Nt.ac6{a:MA}{f:Fl}(h:Nt K A B σ Γ A' H a d v)(hk:kOk a f=true):Gq K A B f d v:=by
 cases a <;> cases f <;> first | exact h | exact .inl h | cases hk
noncomputable def Lz:af->Option (af×af)
 | .tuple [d,dm]=>some (d,dm)
 | _=>none
def tM(K:aE)(O:C0)(i:Nat)(f:B5->Co af)(ms:List ME):TE:=λσ H Q=>∃A B Γ ds d dm,aQ K A B H O σ Γ/\evs ms Γ = .ok ds/\f ds= .ok (.tuple [d,dm]) /\
 ∀v A' H',aQ K A' B H' O σ (Γ.set i (some dm))->aA A A'->New A A' B->Rp K A' d v->Q v H'
section
variable  {k:Nat}   {fs:C0}  {f:B5->Co af}  {as:List MA}  {p:Pos}  {es:C2}
theorem rZ(i:Nat)(F:Def X.prog X.w X.K X.mg X.base k x ps (spM X.K fs j f))(hr:cA k X.A)(hg:Gl X x)(ha:QA X (e::es) (tAm X.K O as ms))(hj:as[j]?=some (.var i))(hi:isO (fl O i)=true)(hlen:as.length=fs.length)(J:∀l,l<fs.length->l≠j->kOk (as.getD l .new) (fl fs l)=true)
 (R:nD x:=by decide) (he:CO e=true:=by rfl) (hpl:dF es=true:=by rfl):QE X (.Call (.Name x p) (e::es) [] pos) (tM X.K O i f ms):=
 QE.imp (Ez F hr hg ha.h R (bM he) (ik hpl)) λσ H Q u=>by
  obtain ⟨A,B,M,Z,d,dm,r,e1,e2,k⟩:=u;refine ⟨A,B,M,Z,r,e1,λD A1 H1 C P=>?_⟩;show spM X.K fs j f (D++[]) H1 Q E0;rw[cy];have hl:=P.len;have E:=r.grow C;have hjl:=(bE.mp hj).1;have Y:Z[j]?=some Z[j]:=aI (by lia);have U:D[j]?=some D[j]:=aI (by lia);obtain ⟨hs,s⟩:sv σ i=some D[j]/\gv M i=some Z[j]:=P.get hj Y U;have m:gv M i≠none:=by rw[s];simp
  obtain ⟨d',p',o,y,q,u3,u4,u5,u6⟩:=E.pP hi m;rw[hs] at q;rw[s] at y;have y:=Option.some.inj y;have q:=Option.some.inj q;refine ⟨A1,B,Z,d,dm,p',o,C.ah,E.b,by lia,by lia,by rw[U,q],u3,u4,u5,λz hz=>?_,λl z v I hz hv=>?_,e2,λv A2 H2 o2 s1 s2 s3 S s5 s6 s7 s8=>?_⟩
  . rw[Y] at hz;rw[<- Option.some.inj hz,y];exact u6
  . have L:l<as.length:=by have:=(bE.mp hz).1;lia
    have ea:as[l]?=some (as.getD l .new):=by rw[ay,aI L];rfl
    exact (P.get ea hz hv).ac6 (J l (by lia) I)
  . exact k v A2 H2 (E.aa9 hi m (by rw[hs,q]) s1 s2 s3 S s5 s6 s7) (C.aa.trans s1) ((C.nB r.b).trans (S.mono E.b)) s8
end
theorem Wq{t:af}{U:af}(h:Lz t=some (d,U)):t= .tuple [d,U]:=by
 unfold Lz at h;split at h
 . cases h;rfl
 . cases h
section
variable     {base:Heap}
theorem zj{o:HO}(ha:aA A H)(m:aA B H)(hv:vs.length=Ol.length)(hd:ds.length=Ol.length)(hj:vs[j]?=some (.ref p))(Q:H p=some o)(M:A p=none)(Z:B p=none)
 (u:∀e,ds[j]?=some e->g8 K A e o) (U:∀(i:Nat) e v,i≠j->ds[i]?=some e->vs[i]?=some v->Gq K A B (fl Ol i) e v) (D:fl O j= .fix p) (J:∀i,i<Ol.length->i≠j->(fl O i= .CD/\fl Ol i= .CD)\/fl O i= .CC) (hn:Ol.length<=N.length) :
 aQ K A (rem H p) H O (Zq.start N vs) (ds.map some++cE (N.length - ds.length) none):=by
 have s:∀i,gv (ds.map some++cE (N.length - ds.length) none) i=ds[i]?:=λi=>by
  rw[gv,ay];rcases iA i ds.length with h | h
  . rw[dA (by simpa using h),a9,aI h];rfl
  . rw[c9 (by simpa using h),kq,dr h];split <;> rfl
 have r:∀i v,vs[i]?=some v->sv (Zq.start N vs) i=some v:=λi v e=>by
  unfold sv Zq.start;rw[ay];have h:=(bE.mp e).1;rw[dA (by simpa using h),a9,e];rfl
 have x:∀i,i<Ol.length->isO (fl O i)=true->i=j:=λi hi h=>by
  rcases Classical.em (i=j) with z | z
  . exact z
  . rcases J i hi z with ⟨q,_⟩ | q <;> rw[q] at h <;> cases h
 refine ⟨ha,YQ,?_,λi d e=>?_,λi l y h1 h2 L I=>?_⟩
 . rw[Zq.start,aw,aw,ai,ai,cn,cn];lia
 . rw[s] at e;have hi:i<Ol.length:=by rw[<- hd];exact (bE.mp e).1
   by_cases z:i=j
   . subst z;exact ⟨_,r i _ hj,by rw[D];exact ⟨rfl,p,o,rfl,Q,M,GF,u d e⟩⟩
   . have E:vs[i]?=some vs[i]:=aI (by lia);refine ⟨_,r i _ E,?_⟩;have q:=U i d _ z e E;rcases J i hi z with ⟨z1,R⟩ | z1
     . rw[z1];rwa [R] at q
     . rw[z1]
       cases Y:fl Ol i with
       | CD=>rw[Y] at q;exact .inl q
       | CC=>rw[Y] at q;exact Pk.mono (aA.refl _) (m6 m Z) q
       | own=>rw[Y] at q;exact Pk.mono (aA.refl _) (m6 m Z) q
       | fix S=>rw[Y] at q;exact Pk.mono (aA.refl _) (m6 m Z) q
       | exc C=>rw[Y] at q;exact Pk.mono (aA.refl _) (m6 m Z) q
       | nst b=>rw[Y] at q;exact Pk.mono (aA.refl _) (m6 m Z) q
       | kit=>rw[Y] at q;exact Pk.mono (aA.refl _) (m6 m Z) q
 . rw[s] at L I;have hi:i<Ol.length:=by
    rw[<- hd];rcases iA i ds.length with h | h
    . exact h
    . exact absurd (dr h) L
   have P:l<Ol.length:=by
    rw[<- hd];rcases iA l ds.length with h | h
    . exact h
    . exact absurd (dr h) I
   exact absurd ((x i hi h1).trans (x l P h2).symm) y
end
abbrev K4:B9:=[.type "ValueError",.type "Exception",.type "BaseException",.type "object"]
abbrev rH(K:aE)(C:Addr):Prop:=BE K C K4 "ValueError.__new__"= true
variable {C:Addr}
theorem Yu(X:K.In h)(q:rH K C):∃bm N nm i bs hdct sn sub ab col dd k0 k1 k2 k3 k5 m,
 h.get? C=some (excClassObj nm i C N bs bm hdct sn sub ab col dd k0 k1 k2 k3 k5 "ValueError.__new__")/\h.Ns N m/\m "__init__"= none/\OwnTail h K4 bm:=by
 have q:BE K C K4 "ValueError.__new__"= true:=q;unfold BE at q
 cases e:K.lookup C with
 | none=>rw[e] at q;cases q
 | some v=>
  rw[e] at q;split at q
  . rename_i Z;cases Z;rename_i dd r o;split at q
    . rename_i x bm k0 k1 k2 k3 n k5 U j;simp only[cp,beq_iff_eq,qf] at q;obtain ⟨⟨⟨⟨⟨q1,q2⟩,q3⟩,q4⟩,q5⟩,s⟩:=q;subst q1 q2;obtain ⟨nm,bs,u,Y,i,hd,sn,sub,ab,col,p⟩:=r;have U:=U;have q3:=q3;subst U q3;obtain ⟨l⟩:=o;have j:=j;subst j;exact ⟨bm,Y,nm,i,bs,hd,sn,sub,ab,col,dd,k0,k1,k2,k3,k5,_,X _ _ e,.of_isNs (PySem.W.isNs_of_in X q5),PySem.W.nsMap_none_of_in X q5 s,PySem.W.tail_of_in X q4⟩
    . cases q
  . cases q
def xJ(X:Cx)(C:Addr)(XE:Hp->Prop):Prop:=∀(BY:A6) (σ:St) (H:Hp) (s:a8) (h':Heap) (e:Addr) (vs:B9),Zq.Cs X BY σ H s->Heap.MadeExcOf s.heap h' e (.ref C) vs->XE H->X.xe (.ref e) { s with heap:=h' }
theorem VB{j:Hp->Prop}(R:X.calm=true)(p:Gl X x)(y:X.mg x=some (.ref C))(u:rH X.K C)(J:PE X e te)(hx:xJ X C j)
 (hs:dk (e::[]) X.env=(false,eval e X.env)::dk [] X.env) (hd:nD x:=by decide) :
 PS X (.Raise (some (.Call (.Name x pos') [e] [] cpos)) none pos) (λD σ H=>te σ H λv H1=>j H1/\[v].length=1):=by
 intro U s σ H D I h;obtain ⟨S,N,nm,M,bs,hdct,sn,sub,ab,col,dd,k0,k1,k2,k3,k5,mN,h1,h2,P,l⟩:=Yu I.ok.mod.kin u;refine wpAny_Raise_call_subT (nm:=nm) (q:=M) (N:=N) (bs:=bs) (hdct:=hdct) (sn:=sn) (sub:=sub) (ab:=ab) (col:=col) (dd:=dd) (k0:=k0) (k1:=k1) (k2:=k2) (k3:=k3) (k5:=k5) PySem.F.excBase_ValueError (l.hasType (by decide +kernel)) (I.ok.hd R) (by rw[hs];rfl) P (jZ I p y ⟨rfl,?_⟩ hd);have m:=cC J eO hs cpos U s σ H (λo i=>j i/\o.length=1) I h;rw[hs] at m ⊢;refine qo (thn m λE O z=>?_);obtain ⟨o,i,Y,r,q,B⟩:=z;refine ⟨rfl,by rw[<- r.length,B];decide,Y.bk _ _ h1,h2.keeps Y.bk,l.keeps Y.bk,λL Q Z=>hx U σ i O L Q E Y Z q⟩
def CXE(P:fF)(w:kn):CXT:=λCU H s E e s'=>∃(ea t C:Addr) (B:Heap) (H':Hp),e= .ref ea/\s'.os=s.os/\wh s'.gens/\sT B CU ea (.ref C) (.ref t) s'.heap /\
 (∀b o,s.heap.get? b=some o->b∉frs CU->H b=none->B.get? b=some o)/\HOk P w H' B/\Un (frs CU) [] H H' s.heap s'.heap/\E (.ref C) none H'
theorem d7{base:Heap}{l:C7}(F:h.FunFrames base l){b:Addr}(U:b∈frs l):∃o,h.get? b=some o/\∀vs,o.data ≠ .fields vs:=(F.mem U).2
variable {CU:C7}
theorem uB{base:Heap}{f:Addr}{j:a0}{A:eK}{E:XK} :
 xJ (jx (CXE P w) P w K mg base N x scope f j A CU s H E) C (λH1=>E (.ref C) none H1):=by
 intro BY σ H1 R h' e vs I D hE;have Z:=I.stack;have l:=I.BR;have U:Un (frs CU) [] H H1 s.heap R.heap:=I.base;have hloc:=I.ok.above;have J:∀b,b∈frs (kQ x scope s.heap.objs.size f j::CU)->b=s.heap.objs.size\/b∈frs CU:=λb hb=>by
  have hb:=hb;obtain ⟨p,he,y⟩:=eo.mp hb;rcases bq.mp he with rfl | he
  . left;exact (Option.some.inj y).symm
  . right;exact eo.mpr ⟨p,he,y⟩
 let B:=PySem.W.hideAll R.heap (frs (kQ x scope s.heap.objs.size f j::CU))
 have v:∀b o,R.heap.get? b=some o->b∉frs (kQ x scope s.heap.objs.size f j::CU)->B.get? b=some o:=λb o e n=>PySem.W.hideAll_get _ e n;have old:∀b o,s.heap.get? b=some o->b∉frs CU->b∉frs (kQ x scope s.heap.objs.size f j::CU):=λb o e n z=>by
  rcases J b z with q | q
  . subst q;exact absurd (bg e) (fo _)
  . exact n q
 refine wpAny_leaves_madeW I.ok.frames rfl (λb o q=>PySem.W.of_hideAll _ q) (PySem.W.funFrames_hide Z λp he a ha=>eo.mpr ⟨p,he,ha⟩) D λh'' t M x2 x3 x4=>?_;have Q:=λa o ea=>((I.CH a o ea).stay (λb u hb hu=>v b u hu λz=>by
  have:=l b z;rcases hb with rfl | hb
  . rw[ea] at this;cases this
  . rw[hb] at this;cases this) (λ_ q=>q) λ_ _ q=>q)
 refine ⟨e,t,C,B,H1,rfl,I.os,I.bare,M,λb o Y n i=>v b o (U.keep b o Y i n (by simp)) (old b o Y n),Q,⟨λb o Y i n _=>M.1 _ _ (v b o (U.keep b o Y i n (by simp)) (old b o Y n)),λb o Y i hb _=>?_,λb o Y i _=>U.free b o Y i (by simp),λb o Y _=>?_,U.tups,U.il,U.gm⟩,hE⟩
 . obtain ⟨sl,q⟩:=U.slot b o Y i hb (by simp);have S:b∈frs (kQ x scope s.heap.objs.size f j::CU):=by
    obtain ⟨p,he,y⟩:=eo.mp (hb);exact eo.mpr ⟨p,a6 _ he,y⟩
   obtain ⟨L,r,hd⟩:=d7 Z S;rw[q] at r;cases r;obtain ⟨m,q'⟩:=x4 b _ (D.keeps b _ q) hd;exact ⟨m,q'⟩
 . obtain ⟨L,q⟩:=U.there b o Y (by simp)
   by_cases hb:b∈frs (kQ x scope s.heap.objs.size f j::CU)
   . obtain ⟨o2,O,hd⟩:=d7 Z hb;obtain ⟨m,q'⟩:=x4 b _ (D.keeps b _ O) hd;exact ⟨_,q'⟩
   . exact ⟨L,M.1 _ _ (v b L q hb)⟩
abbrev MZ:=Ev->Co Str
noncomputable def zNo:MZ:=λ_=>.bad
noncomputable def su(c:Str):MZ:=λ_=>.ok c
noncomputable def cF(m1:MS)(z1 z2:MZ):MZ:=λΓ=>match m1 Γ with
 | .ok (.nx Γ')=>z2 Γ'
 | _=>z1 Γ
noncomputable def zIf(c:ME)(z1 z2:MZ):MZ:=λΓ=>(c Γ).bind λx=>match x with
 | .bool true=>z1 Γ
 | .bool false=>z2 Γ
 | _=>.bad
def tZ(K:aE)(O:C0)(XE:Str->Hp->Prop)(z:MZ):TS:=λD σ H=>∃A B Γ c,aQ K A B H O σ Γ/\z Γ = .ok c/\∀A' H',aA A' H'->aA B H'->aA A A'->New A A' B->XE c H'
variable {XE:Str->Hp->Prop}
section
variable      {m1:MS}  {z z1 z2:MZ}  {st:Stmt}{rest a b:C6}
theorem qZ:QS X st (tZ K O XE zNo):=QS.imp Hd λD Y H U=>by obtain ⟨A,B,Z,c,r,em,k⟩:=U;cases em
theorem gM:QSs X rest (tZ K O XE zNo):=QSs.imp Ds λD Y H U=>by obtain ⟨A,B,Z,c,r,em,k⟩:=U;cases em
theorem Sy{Y:Str}{j}{p2:Pos}(l:X.calm=true)(Z:Gl X x)(i:X.mg x=some (.ref C))(e:rH X.K C)(hx:xJ X C (XE x))(hd:nD x:=by decide) :
 QS X (.Raise (some (.Call (.Name x pos') [.Constant (.str Y) j p2] [] cpos)) none pos) (tZ K O XE (su x)):=QS.imp (VB l Z i e PX hx rfl hd) λD m H U=>by
 obtain ⟨A,B,o,c,r,em,k⟩:=U;cases em;exact ⟨k A H r.a r.b (aA.refl _) λ_ h _=>h,rfl⟩
theorem Xo(h1:QS X st (tS K rm Ol O O1 m1))(l:QS X st (tZ K O XE z1))(j:QSs X rest (tZ K O1 XE z2)):QSs X (st::rest) (tZ K O XE (cF m1 z1 z2)):=by
 refine ⟨λY s m H D I h=>?_⟩;obtain ⟨A,B,Z,c,r,em,k⟩:=h;have em:(match m1 Z with | .ok (.nx U)=>z2 U | _=>z1 Z)= .ok c:=em
 by_cases i:∃U,m1 Z= .ok (.nx U)
 . obtain ⟨U,i⟩:=i;rw[i] at em;exact yU h1.h j.h Y s m H D I ⟨A,B,Z,_,r,i,λo u y p v nw=>⟨u,B,U,c,p,em,λx q q1 q2 q3 q4=>k x q q1 q2 (v.trans q3) (nw.trans q4)⟩⟩
 . have em:z1 Z= .ok c:=by
    revert em;split
    . rename_i U e;exact absurd ⟨U,e⟩ i
    . exact id
   exact yU l.h (Ds) Y s m H D I ⟨A,B,Z,c,r,em,k⟩
theorem MN(s:QT X c (tT K O m))(ha:QSs X a (tZ K O XE z1))(q:QSs X b (tZ K O XE z2)):QS X (.If c a b pos) (tZ K O XE (zIf m z1 z2)):=QS.imp (Wl s.h ha.h q.h) λD v H Y=>by
 obtain ⟨A,B,e,c,r,em,k⟩:=Y;obtain ⟨p,o,em⟩:=Co.aq em
 cases p with
 | bool j=>
  refine ⟨A,B,e,j,r,o,λl u U=>?_⟩
  cases j with
  | true=>exact uc ⟨l,B,e,c,r.grow U,em,λi Z q1 q2 q3 q4=>k i Z q1 q2 (U.aa.trans q3) ((U.nB r.b).trans q4)⟩
  | false=>exact vP ⟨l,B,e,c,r.grow U,em,λi Z q1 q2 q3 q4=>k i Z q1 q2 (U.aa.trans q3) ((U.nB r.b).trans q4)⟩
 | _=>cases em
end
def spZ(K:aE)(fs:C0)(cl:Str->Addr)(zf:B5->Co Str):Sp:=λvs H _ E=>∃A ds c,aA A H/\jL K A H fs ds vs/\zf ds= .ok c/\∀A' H',aO A H A' H'->E (.ref (cl c)) none H'
noncomputable def fnZ(n:Nat)(z:MZ)(ds:B5):Co Str:=z (ds.map some++cE (n - ds.length) none)
structure DefX (P:fF) (w:kn) (K:aE) (mg:Str->B8) (base:Heap) (k:Nat) (x:Str) (ps:B7) (sp:Sp):Prop where
 ex:∃f fd,oM P w K mg base (CXE P w) k f fd ps sp/\Binds K fd ps []/\kF K (.ref f)=true/\mg x=some (.ref f)
variable {cl:Str->Addr}
section
variable     {base:Heap}
theorem sY{st:Stmt}{k:Nat}{fs:C0}{z:MZ}(F:At K mg x st ps)(S:cO N ps (aK st))(j:fs.length=ps.length)(I:ps.length<=N.length)
 (v:∀i,i<fs.length->(fl O i= .CD/\fl fs i= .CD)\/fl O i= .CC)
 (hbody:∀(f:Addr) (U:a0) (A:eK) (CU:C7) (s:a8) (H:Hp) (E:XK),cA k (A.deeper (kQ x (aK st) s.heap.objs.size f U)) ->
  QSs (jx (CXE P w) P w K mg base N x (aK st) f U A CU s H E) (bC st) (tZ K O (λc H1=>E (.ref (cl c)) none H1) z)):DefX P w K mg base (k+1) x ps (spZ K fs cl (fnZ N.length z)):=by
 obtain ⟨f,fd,F,b,m⟩:=F.ex;obtain ⟨C,D,kV,Z,pm,B,U,ct,u,rfl,lk,Y⟩:=F.ex;refine ⟨f,_,Et lk Y S (λy H Q E h=>?_) (λA CU s H y Q E p h=>?_),b,F.kp,m⟩
 . obtain ⟨A,o,c,_,h,_⟩:=h;rw[h.length.1,j]
 . obtain ⟨l,o,c,ha,h,em,q⟩:=h;exact ⟨_,(hbody f U A CU s H E p).h,l,H,_,c,jJ ha h v (by lia),em,λr e q1 q2 q3 q4=>q r e ⟨q3,q2,q1,q4⟩⟩
end
theorem vG{a:Addr}{o:HO}(ok:HOk P w H h)(e:H a=some o):∃u,h.get? a=some u:=by
 have x:=ok a o e
 cases o with
 | lst Y=>obtain ⟨_,_,_,_,e⟩:=x;exact ⟨_,e⟩
 | tup Y=>obtain ⟨_,_,_,p⟩:=x;obtain ⟨o,e,_⟩:=p;exact ⟨_,e⟩
 | dK U=>obtain ⟨_,_,_,_,o,_,_,e,_⟩:=x;exact ⟨_,e⟩
 | dT U=>obtain ⟨_,_,_,_,o,_,_,e,_⟩:=x;exact ⟨_,e⟩
 | set S n=>obtain ⟨o,_,_,_,e,_⟩:=x;exact ⟨_,e⟩
 | ins C j fs=>obtain ⟨_,_,_,e,_⟩:=x;exact ⟨_,e⟩
 | own y=>obtain ⟨_,e⟩:=x;exact ⟨_,e⟩
 | xd fs=>obtain ⟨_,⟨_,_,_,e,_⟩,_⟩:=x;exact ⟨_,e⟩
 | rng lo hi=>obtain ⟨_,_,_,e⟩:=x;exact ⟨_,e⟩
 | frz Z u=>obtain ⟨e,_⟩:=x;exact ⟨_,e⟩
 | tbl q=>obtain ⟨_,e,_⟩:=x;exact ⟨_,e⟩
 | met f y=>exact ⟨_,(x)⟩
 | ext i=>obtain ⟨_,⟨_,e⟩,_⟩:=x;exact ⟨_,e⟩
variable {zf:B5->Co Str}
theorem abW{k:Nat}{f:Str}{p:Pos}{c:Str}
 (I:Zq.Cs X BY σ H s) (F:DefX X.prog X.w X.K X.mg X.base k f ps (spZ X.K Ol cl zf)) (P:cA k X.A) (J:Gl X f) (ha:QA X (e::rest) (tAr X.K O Ol ms)) (x:∀U s',¬ X.xe U s') (r:aQ X.K A B H O σ Γ) (R:evs ms Γ = .ok ds) (D:zf ds= .ok c)
 (k:∀U s' s1 H1 A1,Zq.Cs X BY σ H1 s1->aO A H A1 H1->CXE X.prog X.w X.stack H1 s1 (λl _ H'=>l= .ref (cl c)/\∃A',aO A1 H1 A' H') U s'->E U s')
 (o:nD f:=by decide) (Q:CO e=true:=by rfl) (hpl:dF rest=true:=by rfl) :
 cf (bX X.prog X.w) X.A (eval (.Call (.Name f p) (e::rest) [] pos) X.env) (λ_ _=>False) E s:=by
 obtain ⟨fa,fd,F,hb,kp,L⟩:=F.ex;refine k6 (jZ I J L ?_ o);refine xc I.ok.mod.kin kp (eR (ha.h pos BY s σ H (λZ H1=>∃A1,aO A H A1 H1/\jL X.K A1 H1 Ol ds Z) I ⟨A,B,Γ,ds,r,R,λZ A1 H1 g p=>⟨A1,g,p⟩⟩) (λi s1 z=>?_) λU s' z=>absurd z (x U s')) (bM Q) (ik hpl);obtain ⟨Z,H1,j,y,A1,m,C⟩:=z;refine ⟨j.kIn,?_⟩;have M:i.length=ps.length:=by
  rw[<- y.length];exact F.len Z H1 (λ_ _=>False) (λ_ _ _=>True) ⟨A1,ds,c,m.ah,C,D,λ_ _ _=>trivial⟩
 refine AJ (qA (F.run X.A X.stack s1 H1 ⟨i,[]⟩ i Z (λ_ _=>False) (λl _ H'=>l= .ref (cl c)/\∃A',aO A1 H1 A' H') P j.env0 (by have:=hb s1 i j.kIn (by rw[cy];exact M);rwa [cy] at this) y ⟨A1,ds,c,m.ah,C,D,λA' H' g=>⟨rfl,A',g⟩⟩) λS s' Y=>?_)
 cases S with
 | error U=>exact k U s' s1 H1 A1 j m Y
 | ok fl=>
  cases fl with
  | ret u=>obtain ⟨v,H',_,_,_,_,_,q⟩:=Y;exact q.elim
  | next=>exact Y.elim
  | brk=>exact Y.elim
  | cont=>exact Y.elim
structure xn (K:aE) (C Ci:Addr):Prop where
 cls:(vi K Ci).isSome=true
 base:n9 K (.ref Ci) (.type "BaseException")=some true
 no:n9 K (.ref C) (.ref Ci)=some false
variable {M:Model}{ea:Addr}{ob:Obj}
section
variable  {A:eK}
theorem pJ{U:Addr}(X:K.In h)(e:(vi K U).isSome=true):vj M h (isType (.ref U)) true:=by
 unfold vi at e;split at e
 . rename_i j p Z Y i;exact λl o m r k q=>ae (wpAny_loadPart (k _ _ (X _ _ i)) (ar q))
 . cases e
theorem Wi:∀(cs:C3) {s:a8}{Q:PUnit->a8->Prop},K.In s.heap->(∀c∈cs,xn K C c)->Q xy s->cf M A (forIn (cs.map gX) xy λc __s=>do
 let __do_lift <- isExcClass c
 if (
  !__do_lift)=true then do
  rule "try.except-non-exception-class"
  raiseErrorWords "TypeError" "catching classes that do not inherit from BaseException is not allowed"
  pure (j2 xy)
  else pure (j2 xy)) Q E s
 | [],s,Q,X,U,h=>ar h
 | c::cs,s,Q,X,U,h=>by
  have n:=U c a7;rw[b9,kP];refine ae (ae (ae ((pJ X n.cls).at ?_)));rw[if_pos rfl];refine (i8 X n.base).at ?_;rw[if_neg (by decide)];exact ar (Wi cs X (λd hd=>U d (a6 _ hd)) h)
theorem Wd:∀(cs:C3) {s:a8}{Q:Option Bool×Unit->a8->Prop},K.In s.heap->(∀c∈cs,xn K C c)->Q (none,()) s->cf M A (forIn (cs.map gX) ((none:Option Bool),()) λc __s=>do
 let __do_lift <- isSubtype (.ref C) c
 if __do_lift=true then pure (ForInStep.done (some true,())) else pure (j2 (none,()))) Q E s
 | [],s,Q,X,U,h=>ar h
 | c::cs,s,Q,X,U,h=>by
  have n:=U c a7;rw[b9,kP];refine ae (ae ((i8 X n.no).at ?_));rw[if_neg (by decide)];exact ar (Wd cs X (λd hd=>U d (a6 _ hd)) h)
theorem Iz{o:Obj}{n:Nat}{Q:Bool->a8->Prop}(X:K.In s.heap)(i:s.heap.get? ea=some ob)(U:ob.cls= .ref C)(Y:s.heap.get? p=some o)(e:o.cls= .type "tuple")(hd:o.data= .seq (as.map gX).toArray n)(Z:∀c∈as,xn K C c)(h:Q false s) :
 cf M A (excMatches (.ref ea) (.ref p)) Q E s:=by
 refine ae (ku ⟨o,Y,e⟩ isSubtype_tuple_tuple ?_)
 dsimp only;rw[if_pos rfl]
 refine ae (lS Y hd (ae (ar (ae (Wi as X Z ?_)))));have ty:vj M s.heap (typeOf (gX ea)) (.ref C):=by
  exact λl r m j k q=>ae (wpAny_loadPart (k _ _ i) (ar (by rw[U];exact q)))
 exact ae (ty.at (ae (Wd as X Z (ar h))))
theorem yh(Y:h.get? ea=some ob)(U:ob.cls= .ref C):vj M h (typeOf (gX ea)) (.ref C):=by
 intro Z i e j k q;exact ae (wpAny_loadPart (k _ _ Y) (ar (by rw[U];exact q)))
end
theorem X6{A:eK}{Q:Unit->a8->Prop}(I:Zq.Cs X BY σ H s)(O:X.N.Nodup)(hi:X.N[i]?=some x)(hk:X.env.scope.names.lookup x=some .local)(hv:σ[i]?=some (some v))
 (h:∀s',Zq.Cs X BY (σ.set i none) H s'->Q () s'):cf M A (unbindName X.env x) Q E s:=by
 obtain ⟨m,J,D⟩:=id I.loc;have cne:=I.cne;have l:(X.env.scope.kind == .class||(X.env.scope.kind == .module&&X.env.locals != X.env.globals))=false:=by rw[I.ok.kind];rfl
 obtain ⟨u,_,lk⟩:=D i x v hi hv (.inl hk);have hm:m x=some u:=by
  rcases lk with ⟨_,q⟩ | ⟨q,_⟩
  . exact q
  . have:X.env.scope.names.lookup x=some .cell\/X.env.scope.names.lookup x=some .free:=q;rw[hk] at this;rcases this with z | z <;> cases z
 obtain ⟨oL,_,_,hoL,_⟩:=id J;refine wpAny_unbindName_local hk J hm l λh' u' B Y=>?_;have U:∀b o,X.s₀.heap.get? b=some o->b≠X.env.locals:=λb o e=>cS (cK (bg e) I.ok.above);have tr:=λb P e=>(I.CH b P e).stay (λc L hc q=>(Y.2 c (by
  rintro rfl;rcases hc with rfl | hc
  . rw[I.free] at e;cases e
  . rw[I.free] at hc;cases hc)).trans q) (λ_ q=>q) λ_ _ q=>q
 refine h _ ⟨I.ok,I.os,I.bare,⟨λb o e n C hx=>(Y.2 b (U b o e)).trans (I.base.keep b o e n C hx),λb o e n C hx=>?_,I.base.free,λb o e hx=>?_,I.base.tups,I.base.il,I.base.gm⟩,⟨_,B,λj y S Z r e3=>?_⟩,λy c e=>?_,I.free,I.fY,λp hp=>?_,tr,by rw[fm];exact I.len⟩
 . obtain ⟨sl,Z⟩:=I.base.slot b o e n C hx;exact ⟨sl,(Y.2 b (U b o e)).trans Z⟩
 . obtain ⟨o',Z⟩:=I.base.there b o e hx;exact ⟨o',(Y.2 b (U b o e)).trans Z⟩
 . by_cases hj:j=i
   . subst hj;rw[hF (bE.mp hv).1] at r;cases r
   . rw[nv (mu hj)] at r;obtain ⟨u2,R,q⟩:=D j y S Z r e3;refine ⟨u2,R,?_⟩;rcases q with ⟨k,e⟩ | ⟨k,c,e,z⟩
     . refine .inl ⟨k,?_⟩;have:y≠x:=λe=>hj (yq O Z (e ▸ hi));simp[this,e]
     . exact .inr ⟨k,c,e,z.sameBut Y (cne y c e)⟩
 . obtain ⟨L,z⟩:=I.cell y c e;exact ⟨L,z.sameBut Y (cne y c e)⟩
 . obtain ⟨e,n,ne,nf,d⟩:=I.pin p hp;exact ⟨(Y.2 p.1 ne).trans e,n,ne,nf,d⟩
inductive lq (X:Cx):C2->C3->Prop where
 | nil:lq X [] []
 | cons {x:Str}{p:Pos}{C:Addr}{es:C2}{cs:C3} (hg:Gl X x) (hm:X.mg x=some (.ref C)) (hd:nD x) (t:lq X es cs):lq X (.Name x p::es) (C::cs)
theorem Af(I:Zq.Cs X BY σ H s):∀{es:C2}{cs:C3}{Q:B9->a8->Prop},lq X es cs->Q (cs.map gX) s->cf (bX X.prog X.w) X.A (spliced (nS pos (dk es X.env))) Q E s
 | _,_,Q,.nil,h=>qa h
 | _,_,Q,.cons U Y hd t,h=>by
  rw[bM rfl];exact kX (jZ I U Y (Af I t h) hd)
variable {h':Heap}
theorem Oi{B:Heap}{cls U:a0}(f:sT B CU ea cls U h)(k:∀b o,h.get? b=some o->h'.get? b=some o):sT B CU ea cls U h':=by
 obtain ⟨Y,s,p,r,u,T,Z,ts,l,q,i,e4,v,j,x,y,m⟩:=f;exact ⟨λb o e=>k _ _ (Y b o e),s,p.of_keeps λb o e _=>⟨o,k _ _ e,rfl⟩,r,u,T,Z,ts,k _ _ l,q,i,e4,v,j,k _ _ x,y,m⟩
theorem Pk.isL(ha:aA A H)(c:d.canLay0=true)(h:Pk K A H d v):Is K H d v:=by
 rcases h with h | ⟨p,i,U,Z,Y,h1,h2⟩ | ⟨p,u,e,Z,Y,h1,h2⟩
 rotate_right
 . subst Y;rw[ew] at c;cases c
 . exact Is.mono ha d (Rp.is d c h)
 . subst Y;rw[Is];rw[ew] at c;exact ⟨p,i,Z,h1,d8.mono ha U (au.is U c h2)⟩
variable {l it:Addr}
section
open Builtin Builtin.Str
theorem Ck:Manifest.owners.lookup (String.ofList ['d','e','s','r','e','v','e','r'].reverse)=some Manifest.sig_reversed:=by kernel_rfl
theorem jm:Slot "reversed" "__next__" "reversed.__next__" :=
 .of (owner:= "reversed") (n:= "__next__") (by rw[ma,ib];kernel_rfl) (by decide +kernel) (by decide +kernel) (by decide +kernel)
  (by first | exact .inl (by decide +kernel) | exact .inr (by decide +kernel)) (by rw[iP];kernel_rfl)
theorem sW:vE table "reversed.__next__"= some Builtin.«reversed.__next__» := u7 (by kernel_rfl)
theorem rE(a:a0):xh "reversed.__next__" ⟨[a],[]⟩:=by
 rw[xh,vn (n:=['_','_','t','x','e','n','_','_']) (by kernel_rfl) Ck];kernel_rfl
theorem vg:Slot "reversed" "__iter__" "reversed.__iter__" :=
 .of (owner:= "reversed") (n:= "__iter__") (by rw[ma,ib];kernel_rfl) (by decide +kernel) (by decide +kernel) (by decide +kernel)
  (by first | exact .inl (by decide +kernel) | exact .inr (by decide +kernel)) (by rw[iP];kernel_rfl)
theorem zT(a:a0):xh "reversed.__iter__" ⟨[a],[]⟩:=by
 rw[xh,vn (n:=['_','_','r','e','t','i','_','_']) (by kernel_rfl) Ck];kernel_rfl
theorem Aw:vE table "reversed.__iter__"= some Builtin.«dict_keyiterator.__iter__» :=
 tf (id':= "dict_keyiterator.__iter__") (by kernel_rfl) (by first | rfl | decide +kernel | (simp +decide [String.splitOnAux])) (by decide +kernel) (by kernel_rfl)
theorem DR:Slot "reversed" "__init__" "object.__init__" :=
 .of (owner:= "object") (n:= "__init__") (by rw[ma,ib];kernel_rfl) (by decide +kernel) (by decide +kernel) (by decide +kernel)
  (by first | exact .inl (by decide +kernel) | exact .inr (by decide +kernel)) (by rw[iP];kernel_rfl)
theorem MT:TypeCalled "reversed" "reversed.__new__" "object.__init__" :=
 ⟨by decide +kernel,by decide +kernel,⟨_,_,F.mro_reversed⟩,madeBy_type F.mro_reversed F.lookup_reversed_new (by decide +kernel),by decide +kernel,by rw[iP];kernel_rfl,DR⟩
theorem yx:AM (.type "tuple") "__reversed__"= pure none:=by rw[ma,ib];kernel_rfl
theorem sub_tuple_dict:isSubtype (.type "tuple") (.type "dict")=pure false:=by rw[iP];kernel_rfl
noncomputable def GR(l:Addr)(i:Int):Obj:={ cls:=.type "reversed",data:=.fields #[.ref l,iF i] }
def mz(h:Heap)(a l:Addr)(i:Int):Prop:=∃o,h.get? a=some o/\o.cls= .type "reversed" /\ o.data= .fields #[.ref l,iF i]
theorem mz.typeIs{i:Int}(x:mz s.heap p l i):s.TypeIs (.ref p) "reversed" := by obtain ⟨o,U,Y,_⟩:=x;exact ⟨o,U,Y⟩
theorem mz.at{i:Int}(x:mz h p l i)(e:∀o,h.get? p=some o->h'.get? p=some o):mz h' p l i:=by obtain ⟨o,U,r⟩:=x;exact ⟨o,e _ U,r⟩
theorem Ef(l:Addr)(U:Array a0)(Y:(U.size:Int)<2^63):Meets (Builtin.«reversed.__new__» ⟨[.type "reversed",.ref l],[]⟩) (λ_ R s=>w9 s.heap l U /\
 R (.ok (.ret (.ref s.heap.objs.size))) { s with heap:=s.heap.push (GR l ((U.size:Int) - 1)),toks:=s.toks+1+1 }):=
 .of_wp λprog w A R s h=>by
  obtain ⟨Z,h⟩:=h;refine ae (fg (newClass_reversed _) ?_)
  try dsimp only
  refine ae (fg (by first | rfl | kernel_rfl) (ae (fg (by first | rfl | kernel_rfl) ?_)))
  try dsimp only
  refine ae (pb Z.typeIs yx ?_)
  try dsimp only
  refine ae (ae (ku Z.typeIs sub_tuple_dict ?_));refine ae (pb Z.typeIs fk.lookup ?_)
  try dsimp only
  rw[if_pos (by decide)];refine ar (ae (len_tuple Z Y ?_));refine ae (fg rfl ?_)
  try dsimp only
  refine ae ?_;show cf _ _ (newObj (.type "reversed") (.fields #[.ref l,iF ((U.size:Int) - 1)])) _ _ _;exact eS (ar ⟨_,rfl,h⟩)
section
variable   {A:eK}
theorem Vn(Y:w9 s.heap l items)(U:(items.size:Int)<2^63)
 (h:Q (.ref s.heap.objs.size) { s with heap:=s.heap.push (GR l ((items.size:Int) - 1)),toks:=s.toks+1+1 }):cf (bX prog w) A (call (.type "reversed") [.ref l]) Q E s:=
 callType_new MT (by decide) (F.typeCall_reversed_1 _) (F.newCall_reversed_1 _) (λobj=>F.args_object_init_2 obj _) F.entry_reversed_new (Ef l items U)
  ⟨Y,⟨_,bo _ rfl,rfl⟩,h⟩
theorem tu{x:a0}{Q:B8->a8->Prop}(hit:mz s.heap it l (i:Int))(Z:w9 s.heap l items)(Y:(items.size:Int)<2^63)(hx:items[i]?=some x)
 (e:∀h',mz h' it l ((i:Int) - 1)->fv it s.heap h'->Q (some x) { s with heap:=h',toks:=s.toks+1 }):cf (bX prog w) A (AG (.ref it)) Q E s:=by
 obtain ⟨o,U,j,hd⟩:=id hit;have hi:=(kH.mp hx).1;refine ae (n4 (gE hit.typeIs jm
  (eT jm hit.typeIs sW ?_ (rE _))))
 refine ae (fg rfl ?_)
 try dsimp only
 refine ae (qk U hd rfl (ae (qk U hd rfl ?_)));show cf _ _ (if (i:Int)<0 then _ else _) _ _ s;rw[if_neg (by lia)];refine ae (pb Z.typeIs fk.lookup (ae (wpAny_mkInt ?_)));refine ae (n4 (getItem_tuple Z (by lia) (by lia) (by unfold seqIndex?;simp only[if_neg (show ¬ ((i:Nat):Int)<0 by lia)];rw[if_pos (by simp;lia)];simp) hx ?_))
 try dsimp only
 refine ae (qk U hd rfl (ae (lT U hd (by simp) ?_)));refine ar ⟨x,rfl,ar (e _ ?_ (eD ..))⟩;exact ⟨_,ij _ U (Obj.isFreed_of_fields (se hd _)),(Obj.cls_mapFields ..).trans j,by
  rw[se hd];simp⟩
theorem um{Q:B8->a8->Prop}(hh:A.handled=none)(hit:mz s.heap it l (-1))
 (Z:∀h',Heap.ExtBut it s.heap h'->Q none { s with heap:=h' }):cf (bX prog w) A (AG (.ref it)) Q E s:=by
 obtain ⟨o,U,e,hd⟩:=id hit;refine ae (n4 (gE hit.typeIs jm
  (eT jm hit.typeIs sW ?_ (rE _))))
 refine ae (fg rfl ?_)
 try dsimp only
 refine ae (qk U hd rfl (ae (qk U hd rfl ?_)));show cf _ _ (if (-1:Int)<0 then _ else _) _ _ s;rw[if_pos (by decide)];refine ae (ki (ae ?_));refine ae (lT U hd (by simp) ?_);have Y:(s.heap.update it (zd λx=>x.setIfInBounds 1 (iF (-1)))).get? it=some _:=ij _ U (Obj.isFreed_of_fields (se hd _));refine lT Y (se hd _) (by simp) (ae ?_);refine ae (ae (eS ?_ (by size_fits)));refine ae (fg (by first | rfl | (rfl)) (eS ?_ (by size_fits)));refine ae (wpAny_handled ?_)
 first | rw[hh] | rw[hh]
 refine ae (ar (wpAny_throw ?_));refine ae (ku ⟨_,bo _ rfl,rfl⟩ isSubtype_stop ?_);refine ar (Z _ ((((eD ..).trans (eD ..)).extBut.push _).push _))
theorem pH{i:Int}(hit:mz s.heap it l i)(h:Q (.ref it) s):cf (bX prog w) A (AH (.ref it)) Q E s:=by
 refine qh hit.typeIs vg (eT vg hit.typeIs Aw ?_ (zT _));exact ar ⟨_,rfl, "reversed",_,hit.typeIs,jm.lookup,h⟩
end
noncomputable def UJ(K:aE)(a:Addr)(n:Nat):It:=
 ⟨λi H=>i<n/\∃xs x,SqT K H a xs/\xs[n - 1 - i]?=some x,λi H x H'=>H'=H/\∀xs,SqT K H a xs->xs[n - 1 - i]?=some x,λi _=>i=n⟩
theorem Up(a it:Addr)(n:Nat):Turn P w K tg (UJ K a n) [it] it (λi h=>mz h it a ((n:Int) - 1 - (i:Nat))) where
 mem:=by simp
 obj:=λi h st b U=>by
  have e:=by simpa using U
  subst e;obtain ⟨o,e,c,d⟩:=st;exact ⟨o,e,λv z=>by rw[d] at z;cases z⟩
 keep:=λi h R st k=>st.at λo e=>k it (by simp) o e
 item:=by
  intro X hP J r S i Z s σ H E I l st m;subst hP J r;obtain ⟨hi,xs,x,O,hx⟩:=m;obtain ⟨C,Q,p,hz⟩:=I.tuple O;obtain ⟨u,hu,ru⟩:=Q.get hx;obtain ⟨L,q,f2,y,M,B⟩:=l it (by simp);have e:n - 1 - i=((n - 1 - i:Nat):Int):=by lia
  rw[e] at st;have j:(C.toArray.size:Int)<2^63:=by
   have:=Q.length;rw[PySem.sizeLine_eq] at hz;rw[br];lia
  refine tu st p j (by simpa using hu) λR Y sb=>?_;have e2:((n - 1 - i:Nat):Int) - 1=n - 1 - ((i+1:Nat):Int):=by lia
  rw[e2] at Y;have I1:=I.turned (t':=s.toks+1) (λb o U e=>(sb.2 b U).trans e) L q y M B;obtain ⟨o,e,c,d⟩:=id Y;exact ⟨u,rfl,uW e c d (by decide) ⟨x,H,I1,ru,⟨rfl,λys hy=>by rw[I.Du hy O];exact hx⟩,Y,λb U=>(l b U).1⟩⟩
 done:=by
  intro X hP J r S i Z s σ H E I l st m;subst hP J r;have D:=m;subst D;obtain ⟨L,q,f2,y,M,B⟩:=l it (by simp);have e:(i:Int) - 1 - i= -1:=by lia
  rw[e] at st;exact um (I.ok.hd S) st λR eb=>⟨rfl,I.turned (λb o U e=>eb b o U e) L q y M B⟩
 self:=λ_ _ _ _ _ st h=>pH st h
def adz(K:aE)(ta:TA):TI:=λσ H R=>ta σ H λvs H1=>∃a xs,vs=[.ref a]/\SqT K H1 a xs/\R (UJ K a xs.length) H1
theorem ZK{v:TA}{p:Pos}(D:Gl X "reversed")(x:X.mg "reversed"= none)(ha:PA X [c] v)(hs:dk [c] X.env=[(false,eval c X.env)]:=by rfl):PI X tg (.Call (.Name "reversed" p) [c] [] pos) (adz X.K v):=by
 intro i s M H R I h;refine Call_ (kJ I D x boot_reversed (iq (thn (ha pos i s M H _ I h) λO s1 Z=>?_) hs rfl));obtain ⟨P,J,j,E,q1⟩:=Z;obtain ⟨l,m,e,L,q⟩:=q1;subst e;obtain ⟨u,rfl,B⟩:=CA.one E;cases B;obtain ⟨U,r,y,hz⟩:=j.tuple L;have Y:(U.toArray.size:Int)<2^63:=by
  have:=r.length;rw[PySem.sizeLine_eq] at hz;rw[br];lia
 refine Vn y Y ?_;have hit:mz (s1.heap.push (GR l ((U.toArray.size:Int) - 1))) s1.heap.objs.size l (m.length - 1 - (0:Int)):=by
  have z:(U.toArray.size:Int) - 1=m.length - 1 - (0:Int):=by
   have:=r.length;rw[br];lia
  rw[z];exact ⟨_,bo _ rfl,rfl,rfl⟩
 refine pH hit (⟨s1.heap.objs.size,[s1.heap.objs.size],_,_,J,rfl,j.kept λb o e=>av _ e,Up l _ m.length,hit,λb C=>?_,q⟩);have e:=by simpa using C
 subst e;exact j.p8 (ax _) (j.CH.fresh (ax _))
end
theorem Zr(Z:au K A ds vs)(Y:∀H,aA A H->SqT K H p vs):ux K A B (UJ K p vs.length) ds.reverse:=by
 have U:=Z.length;refine ⟨λi H s1 j hi=>?_,λH s1 j=>?_,λi o H x m l s1 j hi y=>?_⟩
 . rw[fN,U] at hi;exact ⟨hi,vs,vs[vs.length - 1 - i]'(by lia),Y H s1,aI _⟩
 . rw[fN,U];rfl
 . rw[fN,U] at hi;obtain ⟨rfl,y⟩:=y;have e:=y vs (Y m (l.trans s1));have s:vs.reverse[i]?=some x:=by rw[List.getElem?_reverse hi];exact e
   obtain ⟨d,r,q⟩:=Z.reverse.get s;exact ⟨o,d,r,aO.refl s1,Rp.mono l d q⟩
noncomputable def Ls(m:ME):MI:=λΓ=>(m Γ).bind λd=>match d with
 | .tuple ds=>.ok ds.reverse
 | _=>.bad
section
variable    {a b:Expr}{p:Pos}
theorem aaW(e:Gl X "reversed")(o:X.mg "reversed"= none)(ha:QE X a (tP X.K O m))(hs:dk [a] X.env=[(false,eval a X.env)]:=by rfl):QI X tg (.Call (.Name "reversed" p) [a] [] pos) (tIc X.K O (Ls m)):=
 QI.imp (ZK e o (cC ha.h eO hs) hs) λy H R U=>by
  obtain ⟨A,B,u,x,r,em,k⟩:=U;obtain ⟨d,l,em⟩:=Co.aq em
  cases d with
  | tuple z=>
   cases em;refine ⟨A,B,u,_,r,l,λv i Y Z j=>?_⟩;obtain ⟨q,s,rfl,h2,h1⟩:=j.lJ (H:=Y);exact ⟨q,s,rfl,h1 Y Z.ah,k _ i Y Z (Zr h2 h1)⟩
  | _=>cases em
end
noncomputable def xR(i:Nat)(g:MG):MS:=λΓ=>match gv Γ i with
 | some (.list ds)=>match ds[ds.length - 1]? with
  | some d=>gd (i < Γ.length) ((g d (Γ.set i (some (.list (ds.take (ds.length - 1)))))).bind λΓ'=>.ok (.nx Γ'))
  | none=>.bad
 | _=>.bad
section
variable    {is:B6}{g:MG}  {p apos:Pos}
theorem Wy(i:Nat)(Q:QG X tg (tG X.K O O' is g))(hi:isO (fl O i)=true:=by rfl)(nm:Nm X i x:=by walk_at "nm")(e:lp (.Name x p) "pop" X.env (eval (.Name x p) X.env)=eval (.Name x p) X.env:=by rfl)
 (m:(apos.endLine == cpos.line)=true:=by rfl)
 (hs:swapsWithSole [tg] (.Call (.Attribute (.Name x p) "pop" apos) [] [] cpos) pos.line X.env=pure false:=by rfl) (R:swappedStores [tg] (.Call (.Attribute (.Name x p) "pop" apos) [] [] cpos) X.env=pure none:=by rfl) (h1:(kU [tg] X.env).map (·.2)=[Bi tg X.env]:=by rfl) :
 QS X (.Assign [tg] (.Call (.Attribute (.Name x p) "pop" apos) [] [] cpos) pos) (tS X.K rm Ol O O' (xR i g)):=by
 refine QS.imp (Qt (Zg l7 PySem.F.slot_list_pop PySem.F.type_list_pop aad (fD nm.1 nm.2 nm.3 nm.4) e m) Q.h hs R h1) λD σ H u=>?_;obtain ⟨A,B,s,o,r,em,k⟩:=u;have U:(match gv s i with
  | some (.list Y)=>match Y[Y.length - 1]? with
   | some d=>gd (i<s.length) ((g d (s.set i (some (.list (Y.take (Y.length - 1)))))).bind λZ=>Co.ok (Out.nx Z))
   | none=>.bad
  | _=>.bad)= .ok o:=em
 cases v:gv s i with
 | none=>rw[v] at U;cases U
 | some dl=>
  rw[v] at U
  cases dl with
  | list Y=>
   replace U:(match Y[Y.length - 1]? with
    | some d=>gd (i<s.length) ((g d (s.set i (some (.list (Y.take (Y.length - 1)))))).bind λZ=>Co.ok (Out.nx Z))
    | none=>.bad)= .ok o:=U
   cases l:Y[Y.length - 1]? with
   | none=>rw[l] at U;cases U
   | some d=>
    rw[l] at U;obtain ⟨E,U⟩:=bZ U;obtain ⟨Z,z,U⟩:=Co.aq U;cases U;obtain ⟨q,M,J,h1,C⟩:=uZ r hi v;obtain ⟨y,hy,S⟩:=C.get' l;have j:=C.length;rw[j] at hy;have L:=C.take (Y.length - 1);rw[j] at L;refine ⟨.ref q,fC J,.inl ⟨rfl,M,SqL.of h1⟩,q,M,y,rfl,rfl,h1,hy,?_⟩;rw[List.dropLast_eq_take];refine ⟨A,B,_,d,Z,r.change hi E (by rw[v];simp) J h1 (.inl ⟨_,_,rfl,rfl,?_⟩),S,z,λI P _=>k I A _ P (aA.refl _) ((aO.refl r.a).nB r.b)⟩;rw[j];exact L
  | _=>cases U
end
noncomputable def MK(lo c:Int)(n:Nat):It:=⟨λi _=>i<n,λi H x H'=>H'=H/\x= .int (lo+i*c),λi _=>n<=i⟩
theorem Jc(it:Addr)(lo c:Int)(n:Nat):Turn P w K tg (MK lo c n) [it] it (λi h=>IsRangeIter h it (lo+(i:Nat)*c) ((n:Int) - (i:Nat)) c) where
 mem:=by simp
 obj:=λi h st b Y=>by
  have e:=by simpa using Y
  subst e;exact ⟨_,st,λv z=>by
   have Q:=z;cases Q⟩
 keep:=λi h x st k=>k it (by simp) _ st
 item:=by
  intro X hP y p u i U s D H E I j st l;subst hP y p;obtain ⟨C,m,J,q,B,r⟩:=j it (by simp);have W:=Walks.range (prog:=X.prog) (w:=X.w) (I.ok.hd u) it lo c n;refine W.item i s _ _ l st λv x L hv Z M=>?_;obtain ⟨t,rfl⟩:=hv;have R:Cs X U D H { s with heap:=x,toks:=L }:=I.turned (λb o Y e=>M b o (by simpa using Y) e) C m q B r;refine ⟨_,rfl,uW Z rfl rfl (by decide) ⟨.int (lo+i*c),H,R,⟨t,rfl⟩,⟨rfl,rfl⟩,Z,λb Y=>(j b Y).1⟩⟩
 done:=by
  intro X hP y p u i U s D H E I j st l;subst hP y p;obtain ⟨C,m,J,q,B,r⟩:=j it (by simp);exact wpAny_pyNext_range_end (I.ok.hd u) st (by have:n<=i:=l;lia) λx O=>⟨rfl,I.turned (λb o Y e=>O b o Y e) C m q B r⟩
 self:=λ_ _ _ _ _ st h=>wpAny_pyIter_rangeiter st h
theorem QX{R:It->Hp->Prop}{lo hi c:Int}{t u v:Tok}(I:Cs X BY σ H s)(hs:i9 lo hi c=true)(h0:0<=dt lo hi c)
 (q:R (MK lo c (dt lo hi c).toNat) H):cf (bX X.prog X.w) X.A (AH (.ref s.heap.objs.size)) (PIE X BY σ tg R) E { s with heap:=s.heap.push { cls:=.type "range",data:=.fields #[.int lo t,.int hi u,.int c v] },toks:=i }:=by
 refine wpAny_pyIter_range (IsRange.new ..) hs ?_;have U:Cs X BY σ H { s with heap:=s.heap.push { cls:=.type "range",data:=.fields #[.int lo t,.int hi u,.int c v] },toks:=i }:=I.kept λb o e=>av _ e;refine ⟨(s.heap.push { cls:=.type "range",data:=.fields #[.int lo t,.int hi u,.int c v] }).objs.size,[(s.heap.push { cls:=.type "range",data:=.fields #[.int lo t,.int hi u,.int c v] }).objs.size],_,_,H,rfl,
  U.kept λb o e=>av _ e,Jc _ lo c (dt lo hi c).toNat,?_,λb Z=>?_,q⟩
 . have Y:lo+((0:Nat):Int)*c=lo:=by simp
   have j:(((dt lo hi c).toNat:Nat):Int) - ((0:Nat):Int)=dt lo hi c:=by lia
   rw[Y,j];exact bo _ rfl
 . have e:b=(s.heap.push { cls:=.type "range",data:=.fields #[.int lo t,.int hi u,.int c v] }).objs.size:=by simpa using Z
   subst e;exact U.p8 (ax _) (U.CH.fresh (ax _))
def abK(ta:TA):TI:=λσ H R=>ta σ H λvs H1=>∃i j c:Int,vs=[.int i,.int j,.int c]/\(c≠0/\c.natAbs<1073741824/\i9 i j c=true/\0<=dt i j c)/\R (MK i c (dt i j c).toNat) H1
theorem NZ{a b:Expr}{o:TA}{p:Pos}(u:Gl X "range")(y:X.mg "range"= none)(ha:PA X [a,b,c] o)(hs:dk [a,b,c] X.env=[(false,eval a X.env),(false,eval b X.env),(false,eval c X.env)]:=by rfl)(Y:dk [b,c] X.env=[(false,eval b X.env),(false,eval c X.env)]:=by rfl) :
 PI X tg (.Call (.Name "range" p) [a,b,c] [] pos) (abK o):=by
 intro U s z H R I h;refine Call_ (kJ I u y boot_range (iq (thn (ha pos U s z H _ I h) λE s1 l=>?_) (by rw[hs,Y]) (by rw[Y];rfl)));obtain ⟨J,D,C,v,q1⟩:=l;obtain ⟨i,j,k,e,⟨q0,q1,q2,q3⟩,q⟩:=q1;subst e
 cases v with
 | cons r Z=>
  cases Z with
  | cons x Z=>
   cases Z with
   | cons m Z=>
    cases Z;obtain ⟨t,rfl⟩:=r;obtain ⟨L,rfl⟩:=x;obtain ⟨B,rfl⟩:=m;exact call_range_3 q0 (QX C q2 q3 q) (.inl (AI q1))
section
variable   {m'':ME}{a b:Expr}{p:Pos}
theorem Qs(lo c:Int)(n:Nat):ux K A B (MK lo c n) ((c8 n).map λi=>af.int (lo+(i:Nat)*c)):=by
 have U:((c8 n).map λi=>af.int (lo+(i:Nat)*c)).length=n:=by rw[ai,df]
 refine ⟨λi H _ _ hi=>(by rwa [U] at hi),λH _ _=>(by rw[U];exact ax _),λi Y H x j e s1 Z hi y=>?_⟩;obtain ⟨rfl,rfl⟩:=y;rw[U] at hi;exact ⟨Y,.int (lo+i*c),by rw[a9,i7 hi];rfl,aO.refl s1,Rp.int.mpr rfl⟩
noncomputable def GK(d d' d'':af):Co B5:=match d,d',d'' with
 | .int i,.int j,.int c=>gd (c≠0/\c.natAbs<1073741824/\i9 i j c=true/\0<=dt i j c) (.ok ((c8 (dt i j c).toNat).map λk=>af.int (i+(k:Nat)*c)))
 | _,_,_=>.bad
noncomputable def Um(m m' m'':ME):MI:=λΓ=>(m Γ).bind λd=>(m' Γ).bind λd'=>(m'' Γ).bind λd''=>GK d d' d''
theorem YC{Y U:af}(h:GK d Y U= .ok ds):∃i j c:Int,d= .int i/\Y= .int j/\U= .int c/\(c≠0/\c.natAbs<1073741824/\i9 i j c=true/\0<=dt i j c)/\ds=(c8 (dt i j c).toNat).map λk=>af.int (i+(k:Nat)*c):=by
 unfold GK at h;split at h
 . obtain ⟨Z,em⟩:=bZ h;cases em;exact ⟨_,_,_,rfl,rfl,rfl,Z,rfl⟩
 . cases h
theorem Qp(q:Gl X "range")(x:X.mg "range"= none)(ha:QE X a (tP X.K O m))(Q:QE X b (tP X.K O m'))(o:QE X c (tP X.K O m''))(hs:dk [a,b,c] X.env=[(false,eval a X.env),(false,eval b X.env),(false,eval c X.env)]:=by rfl)(U:dk [b,c] X.env=[(false,eval b X.env),(false,eval c X.env)]:=by rfl)(Y:dk [c] X.env=[(false,eval c X.env)]:=by rfl) :
 QI X tg (.Call (.Name "range" p) [a,b,c] [] pos) (tIc X.K O (Um m m' m'')):=
 QI.imp (NZ q x (cC ha.h (cC Q.h (cC o.h eO Y) (by rw[U,Y])) (by rw[hs,U])) hs U) λσ H R Z=>by
  obtain ⟨A,B,e,xs,r,em,k⟩:=Z;obtain ⟨d,E,em⟩:=Co.aq em;obtain ⟨d',u,em⟩:=Co.aq em;obtain ⟨P,C,em⟩:=Co.aq em;obtain ⟨i,j,s,rfl,rfl,rfl,o,rfl⟩:=YC em;exact ⟨A,B,e,_,r,E,λv I H1 l J=>⟨I,B,e,_,r.grow l,u,λv' y H2 g2 M=>⟨y,B,e,_,(r.grow l).grow g2,C,λz L S g3 D=>⟨i,j,s,by rw[J.int,M.int,D.int],o,k _ L S ((l.trans g2).trans g3) (Qs i s _)⟩⟩⟩⟩
noncomputable def aa4:af->Co af
 | .int a=>.ok (.int (gz a))
 | _=>.bad
theorem aa6(ha:QE X tg (tP K O m)):QE X (.UnaryOp .Invert tg pos) (tE K O (eUn aa4 m)):=abJ aar (λA H U d x Q e Y p k=>by
 cases U with
 | int i=>cases e;exact ⟨i,p.int,k _ A H (aO.refl Y) (Rp.int.mpr rfl)⟩
 | _=>cases e) ha
end
def gj(xs:Array Nat):Prop:=xs.toList.Pairwise (· < ·)
theorem Ju(xs:Array Nat)(i d:Nat):xs.getD i d=xs.toList.getD i d:=by
 rw[ay,eL,eJ]
variable {xs:Array Nat}
theorem yu(m:gj xs):∀fuel lo hi,hi - lo<=fuel->lo<=hi->hi<=xs.size ->
 (∀a∈xs.toList.take lo,a<j)->(∀b∈xs.toList.drop hi,j<=b) ->
 ti xs j fuel lo hi<=xs.size/\(∀a∈xs.toList.take (ti xs j fuel lo hi),a<j)/\(∀b∈xs.toList.drop (ti xs j fuel lo hi),j<=b)
 | 0,lo,hi,h1,h2,l,i,Z=>by
  have e:lo=hi:=by lia
  subst e;exact ⟨l,i,Z⟩
 | fuel+1,lo,hi,h1,h2,l,i,Z=>by
  unfold ti
  by_cases Y:lo<hi
  . rw[if_pos Y]
    dsimp only
    have p:(lo+hi) / 2<xs.toList.length:=by rw[cx];lia
    have q:xs.getD ((lo+hi) / 2) j=xs.toList[(lo+hi) / 2]:=by
     rw[Ju,ay,aI p];rfl
    rw[q]
    by_cases o:xs.toList[(lo+hi) / 2]<j
    . rw[if_pos o];refine yu m fuel _ hi (by lia) (by lia) l (λa ha=>?_) Z;obtain ⟨k,hk,rfl⟩:=dS.mp ha;rw[nK];rw[c6] at hk;have U:k<xs.toList.length:=by lia
      rcases iA k ((lo+hi) / 2) with hq | hq
      . exact nz (g7.mp m k ((lo+hi) / 2) U p hq) o
      . have:k=(lo+hi) / 2:=by lia
        subst this;exact o
    . rw[if_neg o];refine yu m fuel lo _ (by lia) (by lia) (by lia) i λb r=>?_;obtain ⟨k,hk,rfl⟩:=dS.mp r;rw[tj];rw[hX] at hk;have U:(lo+hi) / 2+k<xs.toList.length:=by lia
      rcases Nat.eq_zero_or_pos k with rfl | hq
      . simp only[BQ];lia
      . have:=g7.mp m ((lo+hi) / 2) ((lo+hi) / 2+k) p U (by lia);lia
  . rw[if_neg Y];have e:lo=hi:=by lia
    subst e;exact ⟨l,i,Z⟩
theorem uR(Y:gj xs)(j:Nat):d3 xs j<=xs.size/\(∀a∈xs.toList.take (d3 xs j),a<j)/\(∀b∈xs.toList.drop (d3 xs j),j<=b):=
 yu Y xs.size 0 xs.size (by lia) (by lia) (ax _) (λa ha=>by simp at ha) (λb U=>by rw[<- cx,uk] at U;cases U)
theorem below_at(U:gj xs)(h:j∈xs.toList):xs[d3 xs j]?=some j:=by
 obtain ⟨h1,h2,Z⟩:=uR U j;obtain ⟨k,hk,e⟩:=dS.mp h;have l:d3 xs j<=k:=by
  rcases iA k (d3 xs j) with hq | hq
  . have i:xs.toList[k]∈xs.toList.take (d3 xs j):=dS.mpr ⟨k,by rw[c6];lia,nK⟩;have:=h2 _ i;lia
  . exact hq
 have Y:d3 xs j<xs.toList.length:=by lia
 have m:=Z (xs.toList[d3 xs j]) (dS.mpr ⟨0,by rw[hX];lia,by rw[tj];rfl⟩);rcases iA (d3 xs j) k with hq | hq
 . have:=g7.mp U _ _ Y hk hq;lia
 . have:d3 xs j=k:=by lia
   rw[<- eL,aI Y];simp only[this,e]
theorem Nb(Y:gj xs)(hi:i<xs.size):d3 xs (xs[i]+1)=i+1:=by
 obtain ⟨h1,h2,Z⟩:=uR Y (xs[i]+1);have U:i<xs.toList.length:=by simpa using hi
 have e:xs.toList[i]=xs[i]:=by simp
 rcases yY (d3 xs (xs[i]+1)) (i+1) with hq | hq | hq
 . have:=Z (xs.toList[i]) (dS.mpr ⟨i - d3 xs (xs[i]+1),by rw[hX];lia,by rw[tj];congr 1;lia⟩);lia
 . exact hq
 . have hj:i+1<xs.toList.length:=by rw[cx];lia
   have j:=h2 (xs.toList[i+1]) (dS.mpr ⟨i+1,by rw[c6];lia,nK⟩);have l:=g7.mp Y i (i+1) U hj (by lia);lia
theorem Js(U:gj xs):d3 xs 0=0:=by
 obtain ⟨h1,h2,Y⟩:=uR U 0;rcases Nat.eq_zero_or_pos (d3 xs 0) with h | h
 . exact h
 . have hj:0<xs.toList.length:=by rw[cx];lia
   have Z:=h2 (xs.toList[0]) (dS.mpr ⟨0,by rw[c6];lia,nK⟩);lia
theorem DW(Z:gj xs)(h:xs[d3 xs j]?≠some j):gj (tm xs (d3 xs j) j):=by
 obtain ⟨h1,h2,m⟩:=uR Z j;have o:=λq=>h (below_at Z q);rw[gj,SetTable.toList_insertAt];have U:xs.toList.Pairwise (· < ·):=Z;rw[<- eM (d3 xs j) xs.toList] at U;obtain ⟨i,l,p⟩:=lP.mp U;have Y:∀b∈xs.toList.drop (d3 xs j),j<b:=λb hb=>by
  have:=m b hb;have:b≠j:=λe=>o (e ▸ List.mem_of_mem_drop hb);lia
 refine lP.mpr ⟨i,kg.mpr ⟨Y,l⟩,λa ha b hb=>?_⟩;have:=h2 a ha;rcases bq.mp hb with rfl | hb
 . exact this
 . have:=Y b hb;lia
theorem Ih(U:gj xs)(i:Nat):gj (lh xs i):=by
 unfold gj lh;have e:(xs.extract 0 i++xs.extract (i+1) xs.size).toList=xs.toList.take i++xs.toList.drop (i+1):=by
  simp[eg]
 rw[e];refine List.Pairwise.sublist ?_ U;have:xs.toList.take i++xs.toList.drop i=xs.toList:=eM i _;exact (oP.append (oP.refl _) (wq xs.toList (ot i))).trans (by rw[this];exact oP.refl _)
theorem Hx(n:Nat):gj (Array.range n):=by
 rw[gj,Array.toList_range];exact mI
theorem yQ{t:dy}{Z:Nat->Int}{h:Int}{m:Option Nat}:∀fuel p,(∀d,p.dummy=some d->t.slot d= .dummy)->SetTable.probe.go t Z h fuel p=some (.empty j m)->t.slot j= .empty/\∀d,m=some d->t.slot d= .dummy
 | 0,p,l,e=>by cases e
 | fuel+1,p,l,e=>by
  unfold SetTable.probe.go at e;have U:∀q:SetTable.Probe,(t.advance q).dummy=q.dummy:=λq=>by
   unfold SetTable.advance;split <;> rfl
  cases Y:t.slot p.j with
  | empty=>
   rw[Y] at e;obtain ⟨rfl,rfl⟩:=e;exact ⟨Y,l⟩
  | dummy=>
   rw[Y] at e;refine yQ fuel _ (λd hd=>?_) e;rw[U] at hd;cases hd;exact Y
  | live i=>
   rw[Y] at e
   dsimp only at e
   split at e
   . cases e
   . refine yQ fuel _ (λd hd=>?_) e;rw[U] at hd;exact l d hd
theorem JF{t:dy}{h:Int}{b:Bool}(e:t.freeSlot h=some (j,b)):∀i,t.slot j ≠ .live i:=by
 unfold SetTable.freeSlot at e;split at e
 . rename_i U Y Z;obtain ⟨rfl,_⟩:=e;obtain ⟨h1,h2⟩:=yQ _ _ (λd hd=>by cases hd) Z
   cases Y with
   | none=>intro i q;rw[show (none:Option Nat).getD U=U from rfl,h1] at q;cases q
   | some d=>intro i q;rw[show (some d).getD U=d from rfl,h2 d rfl] at q;cases q
 . cases e
theorem Uy{t:dy}(h:∀i,t.slot j ≠ .live i):t.place[d3 t.place j]?≠some j:=λe=>by
 have:=h (d3 t.place j);unfold SetTable.slot at this
 dsimp only at this
 rw[e] at this;simp at this
structure TabOk (led:Bool) (t:dy):Prop where
 up:gj t.place
 led:t.led=led
variable {led:Bool}
theorem TabOk.standIn{t:dy}(h:TabOk led t)(n:Nat):TabOk led (t.standIn n):=⟨Hx n,h.led⟩
theorem TabOk.orStandIn{t:dy}(h:TabOk led t)(n:Nat):TabOk led (t.orStandIn n):=by
 unfold dy.orStandIn;split
 . exact h
 . exact h.standIn n
theorem TabOk.layNew{t:dy}(h:TabOk led t)(es:Array (Int×a0))(hs:Int)(x:a0):TabOk led (layNew t es hs x).2.1:=by
 unfold PySem.layNew;split
 . rename_i j Y e;have U:=Uy (JF e);refine TabOk.orStandIn (t:=(t.put j).1) ⟨?_,h.led⟩ _;exact DW h.up U
 . exact h.standIn _
theorem Il(owner:Array (Option Nat))(n:Nat):(((c8 n).filterMap λj=>(owner.getD j none).map (j,·)).map (·.1)).Pairwise (· < ·):=by
 rw[tp];refine AB _ (λa e Z b Y i U=>?_) mI
 cases h1:owner.getD a none with
 | none=>rw[h1] at Y;cases Y
 | some x=>
  cases h2:owner.getD e none with
  | none=>rw[h2] at U;cases U
  | some y=>
   rw[h1] at Y;rw[h2] at U;simp only[Option.map_some,y0] at Y U;subst Y;subst U;exact Z
variable {mask:Nat}{hs:Array Int}
theorem JT{plain:Bool}{t:dy}(e:dy.laid mask i hi led plain hs=some (t,xs)):TabOk led t:=by
 unfold dy.laid at e
 cases U:gL mask hs with
 | none=>rw[U] at e;cases e
 | some Y=>
  rw[U] at e;simp only[bind,Option.bind,pure,y0,Prod.mk.injEq] at e;obtain ⟨rfl,_⟩:=e;refine ⟨?_,rfl⟩;exact Il Y _
theorem TabOk.relayAll{t:dy}(h:TabOk led t)(es:Array (Int×a0))(n:Nat):TabOk led (relayAll t es n).2.1:=by
 unfold PySem.relayAll;split
 . rename_i U o e
   dsimp only
   split
   . have:=JT e;rwa [h.led] at this
   . exact h.standIn _
 . exact h.standIn _
theorem uV{U:Type}:∀{l:List U}{i:Nat} (h:i<l.length),(l[i]::l.eraseIdx i).Perm l
 | a::l,0,_=>.refl _
 | a::l,i+1,h=>by
  simp only[ba] at h;rw[Ap];exact (BU.swap a _ _).trans ((uV (l:=l) (by lia)).cons a)
theorem Ks{Y:Type}(next:Nat->Nat):∀(fuel k:Nat) (left:List Y) (out:Array Y),left.length=fuel->(pickOrder.go next fuel k left out).toList.Perm (out.toList++left)
 | 0,k,left,out,h=>by
  have:=l8.mp h;subst this;rw[pickOrder.go,cy]
 | fuel+1,k,left,out,h=>by
  unfold pickOrder.go;have U:next k % left.length<left.length:=BN _ (by lia)
  rw[aI U];refine (Ks next fuel (k+1) (left.eraseIdx (next k % left.length)) _ (by rw[xA U];lia)).trans ?_;rw[Array.toList_push,da];exact List.Perm.append_left _ (uV U)
theorem wO{U:Type}(next:Nat->Nat)(xs:Array U):(pickOrder next xs).toList.Perm xs.toList:=by
 have:=Ks next xs.size 0 xs.toList #[] (by simp)
 rwa [j3] at this
theorem qO{Z:Type}[DecidableEq Z]:∀{l r:List Z},l.Nodup->(∀x∈l,x∈r)->l.length<=r.length
 | [],_,_,_=>f7 _
 | a::l,r,i,Y=>by
  obtain ⟨h1,h2⟩:=i0.mp i;have ha:=Y a a7;have:=qO h2 λx hx=>by
   have U:x≠a:=λe=>h1 (e ▸ hx);exact (List.mem_erase_of_ne U).mpr (Y x (a6 _ hx))
  rw[ze ha] at this;have:=List.length_pos_of_mem ha;rw[ba];lia
theorem Oh{l:B6}{M j:Nat}(U:l.Nodup)(Y:∀x∈l,x<M)(Z:M<=l.length)(hj:j<M):j∈l:=by
 by_cases h:j∈l
 . exact h
 . have:=qO (i0.mpr ⟨h,U⟩) λx hx=>by
    rcases bq.mp hx with rfl | hx
    . exact d6.mpr hj
    . exact d6.mpr (Y x hx)
   rw[ba,df] at this;lia
noncomputable def eV:Nat->Nat
 | 0=>0
 | n+1=>5*eV n+1
theorem MJ:∀n,5^n=4*eV n+1
 | 0=>rfl
 | n+1=>by rw[iE,MJ n];show _=4*(5*eV n+1)+1;lia
theorem yJ(a:Nat):∀b,eV (a+b)=5^b*eV a+eV b
 | 0=>by show eV a=1*eV a+0;lia
 | b+1=>by
  show 5*eV (a+b)+1=_;rw[yJ a b,iE];show _=_+(5*eV b+1);rw[vF,<- pz,oC 5 (5^b)];lia
theorem Hk(m:Nat):eV (m+m)=2*(eV m*(2*eV m+1)):=by
 rw[yJ,MJ,Nat.add_mul,vF,vF,y3 (eV m) 2,pz];lia
theorem RQ(m:Nat):eV (m+m+1) % 2=1:=by
 show (5*eV (m+m)+1) % 2=1;rw[Hk];lia
theorem Ax(k x:Nat):Nat.Coprime (2^k) (2*x+1):=by
 refine Nat.Coprime.pow_left k ?_;show Nat.gcd 2 (2*x+1)=1;rw[Nat.gcd_rec];have:(2*x+1) % 2=1:=by lia
 rw[this];rfl
theorem Gp:∀(k d:Nat),2^k ∣ eV d->2^k ∣ d
 | 0,d,_=>Nat.one_dvd d
 | k+1,d,h=>by
  have h2:=Nat.dvd_trans ⟨2^k,by rw[iE,oC]⟩ h;rcases Nat.mod_two_eq_zero_or_one d with e | e
  . obtain ⟨m,rfl⟩:∃m,d=m+m:=⟨d / 2,by lia⟩;rw[Hk,iE,oC (2^k) 2] at h;have Y:=Nat.dvd_of_mul_dvd_mul_left (by decide) h;have U:=Gp k m (tq (Ax k (eV m)) Y);obtain ⟨c,Z⟩:=U;exact ⟨c,by rw[iE,Nat.mul_right_comm,<- Z];lia⟩
  . obtain ⟨m,rfl⟩:∃m,d=m+m+1:=⟨d / 2,by lia⟩;have:=RQ m;lia
noncomputable def w5(M:Nat):Nat->Nat->Nat
 | 0,x=>x
 | n+1,x=>(5*w5 M n x+1) % M
theorem Ng(M x:Nat)(hx:x<M):∀n,w5 M n x=(5^n*x+eV n) % M
 | 0=>by show x=(1*x+0) % M;rw[Nat.one_mul,BQ,Nat.mod_eq_of_lt hx]
 | n+1=>by
  show (5*w5 M n x+1) % M=(5^(n+1)*x+(5*eV n+1)) % M;rw[Ng M x hx n,Nat.add_mod,Nat.mul_mod,Nat.mod_mod,<- Nat.mul_mod,<- Nat.add_mod];congr 1;rw[iE,vF,<- pz,oC 5 (5^n)];lia
theorem acy{x:Nat}(hx:x<i):∀n,w5 i n x<i
 | 0=>hx
 | n+1=>BN _ (by lia)
theorem Zk{k x a d:Nat}(hx:x<2^k)(hd:0<d)(Z:d<2^k):w5 (2^k) a x≠w5 (2^k) (a+d) x:=λe=>by
 rw[Ng _ _ hx,Ng _ _ hx] at e;have j:5^(a+d)*x+eV (a+d)=(5^a*x+eV a)+5^a*(eV d*(2*(2*x)+1)):=by
  rw[BO a d,yJ d a,Nat.pow_add,MJ d];generalize 5^a=p;generalize eV d=s;rw[vF s,Nat.add_mul,Nat.add_mul,Nat.mul_one,vF p,Nat.one_mul];have:p*(s*(2*(2*x)))=4*s*p*x:=by
   rw[show 2*(2*x)=4*x by lia,y3 s 4 x,y3 p 4,<- pz p s x,oC p s,pz 4 s p,pz 4 (s*p) x]
  rw[this];lia
 rw[j] at e;have U:2^k ∣ 5^a*(eV d*(2*(2*x)+1)):=by
  refine (Nat.dvd_iff_mod_eq_zero).mpr ?_;have:=Nat.sub_mod_eq_zero_of_mod_eq e.symm;rwa [Nat.add_sub_cancel_left] at this
 have Y:=by
  have:=Ax k (2*eV a);rwa [show 2*(2*eV a)+1=5^a by rw[MJ];lia] at this
 have h1:=Nat.Coprime.dvd_of_dvd_mul_left Y U;have h2:=tq (Ax k (2*x)) h1;have i:=Gp k d h2;have:=Nat.le_of_dvd hd i;lia
theorem Y8{k x:Nat}(hx:x<2^k)(hj:j<2^k):∃n,n<2^k/\w5 (2^k) n x=j:=by
 have Z:((c8 (2^k)).map λn=>w5 (2^k) n x).Nodup:=by
  refine tp.mpr (zh ?_ mI);intro a b ha U Y;have U:=d6.mp U;have:=Zk (a:=a) (d:=b - a) hx (by lia) (by lia);rwa [show a+(b - a)=b by lia] at this
 have:=Oh Z (λy hy=>by obtain ⟨n,_,rfl⟩:=bt.mp hy;exact acy hx n) (by rw[ai,df];exact ax _) hj;obtain ⟨n,h1,h2⟩:=bt.mp this;exact ⟨n,d6.mp h1,h2⟩
noncomputable def lpN(mask:Nat):Nat->Nat×Nat->Nat×Nat
 | 0,q=>q
 | n+1,q=>SetTable.leap mask (lpN mask n q).1 (lpN mask n q).2
theorem KJ(mask:Nat)(q:Nat×Nat):∀n,(lpN mask n q).2=q.2 / 32^n
 | 0=>by show q.2=q.2 / 1;rw[Nat.div_one]
 | n+1=>by
  show (lpN mask n q).2 / 32=_;rw[KJ mask q n,Nat.div_div_eq_div_mul,iE]
variable {q:Nat×Nat}
theorem KQ(U:q.2<2^64):∀n,(lpN mask (13+n) q).1=w5 (mask+1) n (lpN mask 13 q).1
 | 0=>rfl
 | n+1=>by
  show ((lpN mask (13+n) q).1*5+1+(lpN mask (13+n) q).2 / 32) % (mask+1)=(5*w5 (mask+1) n (lpN mask 13 q).1+1) % (mask+1);have Y:(lpN mask (13+n) q).2=0:=by
   rw[KJ];refine Nat.div_eq_of_lt (cK U ?_);rw[Nat.pow_add];have:0<32^n:=Nat.pow_pos (by decide)
   calc 2^64<=32^13*1:=by decide
    _<=32^13*32^n:=Nat.mul_le_mul_left _ this
  rw[KQ U n,Y];congr 1;lia
theorem T4{k:Nat}(U:mask+1=2^k)(Y:q.2<2^64)(hj:j<=mask):∃R,1<=R/\R<=13+mask/\(lpN mask R q).1=j:=by
 have hx:(lpN mask 13 q).1<mask+1:=BN _ (Nat.succ_pos _);obtain ⟨n,h1,h2⟩:=Y8 (j:=j) (by rw[<- U];exact hx) (by rw[<- U];lia);rw[<- U] at h1 h2;exact ⟨13+n,by lia,by lia,by rw[KQ Y];exact h2⟩
theorem Dj(mask:Nat)(q:Nat×Nat):∀R,lpN mask (R+1) q=lpN mask R (SetTable.leap mask q.1 q.2)
 | 0=>rfl
 | R+1=>by
  show SetTable.leap mask (lpN mask (R+1) q).1 (lpN mask (R+1) q).2=_;rw[Dj mask q R];rfl
variable {owner:Array (Option Nat)}
theorem Cz:∀(fuel i p:Nat),gL.free mask owner fuel i p=none->∀R,R<fuel->owner.getD (lpN mask R (i,p)).1 (some 0)≠none
 | 0,i,p,_,R,h=>by lia
 | fuel+1,i,p,e,R,h=>by
  unfold gL.free at e;split at e
  . cases e
  . rename_i U
    cases R with
    | zero=>
     have:=List.find?_eq_none.mp U 0 (d6.mpr (by unfold SetTable.runEnd;split <;> lia));intro q;rw[BQ] at this;rw[show (lpN mask 0 (i,p)).1=i from rfl] at q;rw[q] at this;exact this rfl
    | succ R=>
     rw[Dj];exact Cz fuel _ _ e R (by lia)
theorem Cp:∀(fuel i p:Nat),gL.free mask owner fuel i p=some j->owner.getD j (some 0)=none
 | 0,i,p,e=>by cases e
 | fuel+1,i,p,e=>by
  unfold gL.free at e;split at e
  . rename_i k U;cases e;have:=List.find?_some U;simpa using this
  . exact Cp fuel _ _ e
structure o8 (owner:Array (Option Nat)) (k M:Nat):Prop where
 size:owner.size=M
 has:∀v:Nat,v<k↔∃j:Nat,owner[j]?=some (some v)
 one:∀j j' v:Nat,owner[j]?=some (some v)->owner[j']?=some (some v)->j=j'
theorem o8.gap{k:Nat}(h:o8 owner k i)(hk:k<i):∃j:Nat,j<i/\owner[j]?=some none:=by
 by_cases q:∃j:Nat,j<i/\owner[j]?=some none
 . exact q
 . have all:∀j,j<i->∃v,owner[j]?=some (some v):=λj hj=>by
    have Z:j<owner.size:=by rw[h.size];exact hj
    have e:=fx Z
    cases m:owner[j] with
    | none=>exact absurd ⟨j,hj,by rw[e,m]⟩ q
    | some v=>exact ⟨v,by rw[e,m]⟩
   let f:Nat->Nat:=λj=>((owner[j]?).getD none).getD 0
   have Y:∀j,j<i->owner[j]?=some (some (f j)):=λj hj=>by
    obtain ⟨v,e⟩:=all j hj;show _=some (some (((owner[j]?).getD none).getD 0));rw[e];rfl
   have:=qO (l:=(c8 i).map f) (by
    refine tp.mpr (zh ?_ mI);intro a b ha U o e;have ha:=Y a (d6.mp ha);have U:=Y b (d6.mp U);rw[<- e] at U;have:=h.one _ _ _ ha U;lia) λx hx=>by
     obtain ⟨j,hj,rfl⟩:=bt.mp hx;exact d6.mpr ((h.has _).mpr ⟨j,Y j (d6.mp hj)⟩)
   rw[ai,df,df] at this;lia
theorem o8.put{k M:Nat}(h:o8 owner k M)(hj:owner[j]?=some none):o8 (owner.setIfInBounds j (some k)) (k+1) M:=by
 have Z:=(kH.mp hj).1;have U:∀i,(owner.setIfInBounds j (some k))[i]?=if j=i then some (some k) else owner[i]?:=λi=>by
  rw[Array.getElem?_setIfInBounds];split
  . first | rfl | (rw[if_pos (by lia)])
  . rfl
 refine ⟨by rw[y8];exact h.size,λv=>⟨λhv=>?_,λhv=>?_⟩,λa b v ha Y=>?_⟩
 . by_cases e:v=k
   . subst e;exact ⟨j,by rw[U,if_pos rfl]⟩
   . obtain ⟨i,hi⟩:=(h.has v).mp (by lia);refine ⟨i,?_⟩;rw[U,if_neg (λz=>by rw[<- z,hj] at hi;cases hi)];exact hi
 . obtain ⟨i,hi⟩:=hv;rw[U] at hi;split at hi
   . cases hi;lia
   . have:=(h.has v).mpr ⟨i,hi⟩;lia
 . rw[U] at ha Y;split at ha
   . rename_i l;split at Y
     . rename_i m;lia
     . cases ha;have:=(h.has k).mpr ⟨b,Y⟩;lia
   . split at Y
     . cases Y;have:=(h.has k).mpr ⟨a,ha⟩;lia
     . exact h.one _ _ _ ha Y
theorem Yq(h:Int):ly h<2^64:=by
 unfold ly;have:=Int.emod_lt_of_pos h (show 0<2^64 by decide);have:=AY h (show (2^64)≠0 by decide);lia
variable {p2:Nat}
theorem CG(Z:mask+1=2^p2):∀(hs:B4) (owner:Array (Option Nat)) (k:Nat),o8 owner k (mask+1)->k+hs.length<=mask+1 ->
 ∃U,hs.foldl (λCc h=>do
  let (owner,k) <- Cc
  let j <- gL.free mask owner (xB mask) (ly h % (mask+1)) (ly h)
  pure (owner.setIfInBounds j (some k),k+1)) (some (owner,k))=some (U,k+hs.length)/\o8 U (k+hs.length) (mask+1)
 | [],owner,k,h,_=>⟨owner,rfl,h⟩
 | x::hs,owner,k,h,s=>by
  rw[ba] at s;obtain ⟨j,hj,p⟩:=h.gap (by lia)
  cases Y:gL.free mask owner (xB mask) (ly x % (mask+1)) (ly x) with
  | none=>
   obtain ⟨R,u,y,r⟩:=T4 (q:=(ly x % (mask+1),ly x)) Z (Yq x) (j:=j) (by lia);have:=Cz _ _ _ Y R (by unfold xB;lia);rw[r,eJ,p] at this;exact absurd rfl this
  | some i=>
   have hi:=Cp _ _ _ Y;have m:owner[i]?=some none:=by
    rw[eJ] at hi
    cases e:owner[i]? with
    | none=>rw[e] at hi;cases hi
    | some v=>rw[e] at hi;rw[show v=none from hi]
   obtain ⟨U,l,o⟩:=CG Z hs _ _ (h.put m) (by lia);refine ⟨U,?_,by rw[ba,show k+(hs.length+1)=k+1+hs.length by lia];exact o⟩;rw[fS,ba,show k+(hs.length+1)=k+1+hs.length by lia,<- l];congr 1;show (gL.free mask owner (xB mask) (ly x % (mask+1)) (ly x) >>= λj=>pure (owner.setIfInBounds j (some k),k+1))=_;rw[Y];rfl
theorem Qj(i:mask+1=2^p2)(o:hs.size<=mask+1):∃Y,gL mask hs=some Y/\o8 Y hs.size (mask+1):=by
 have l:o8 (AZ (mask+1) none) 0 (mask+1):=⟨Array.size_replicate,λv=>⟨λh=>by lia,λU=>by
  obtain ⟨j,h⟩:=U;rw[rl] at h;split at h <;> cases h⟩,λj m v h _=>by
  rw[rl] at h;split at h <;> cases h⟩
 obtain ⟨Y,Z,e⟩:=CG i hs.toList _ 0 l (by rw[cx];lia);rw[nI,cx] at Z e;refine ⟨Y,?_,e⟩;rw[gL,<- Array.foldl_toList,Z];rfl
theorem yo:∀{l r:B6},l.Nodup->r.Nodup->(∀x,x∈l↔x∈r)->l.Perm r
 | [],r,_,_,h=>by
  cases r with
  | nil=>exact .refl _
  | cons a r=>exact absurd ((h a).mpr a7) (by simp)
 | a::l,r,Z,Y,h=>by
  obtain ⟨h1,h2⟩:=i0.mp Z;have ha:=(h a).mp a7;have p:=List.perm_cons_erase ha;refine (BU.cons a ?_).trans p.symm;refine yo h2 (Y.erase a) λx=>?_;constructor
  . intro hx;have U:x≠a:=λe=>h1 (e ▸ hx);exact (List.mem_erase_of_ne U).mpr ((h x).mp (a6 _ hx))
  . intro hx;have hx':=(h x).mpr (List.mem_of_mem_erase hx);rcases bq.mp hx' with e | hx'
    . subst e;exact absurd hx (List.Nodup.not_mem_erase Y)
    . exact hx'
theorem range_all{U:Type}:∀l:List U,(c8 l.length).filterMap (λi=>l[i]?)=l
 | []=>rfl
 | a::l=>by
  rw[ba,AU,ra];show a::_=_;congr 1;rw[List.filterMap_map];exact range_all l
structure aaB (mask:Nat) (led:Bool) (n:Nat) (t:dy) (o:Array Nat):Prop where
 mask:t.mask=mask
 nd:t.dummies=#[]
 size:t.place.size=n
 ord:o.toList.Perm (c8 n)
theorem Vt{finger moves:Nat}{plain:Bool}(p:mask+1=2^p2)(u:hs.size<=mask+1) :
 ∃t o,dy.laid mask finger moves led plain hs=some (t,o)/\aaB mask led hs.size t o/\TabOk led t:=by
 obtain ⟨Y,r,m⟩:=Qj p u;have e:dy.laid mask finger moves led plain hs=some (({ mask,place:=(((c8 (mask+1)).filterMap λj=>(Y.getD j none).map (j,·)).map (·.1)).toArray,dummies:=#[],finger,led,moves,plain }:dy),(((c8 (mask+1)).filterMap λj=>(Y.getD j none).map (j,·)).map (·.2)).toArray):=by
  rw[dy.laid,r];rfl
 have Z:∀j v,Y.getD j none=some v->Y[j]?=some (some v):=λj v h=>by
  rw[eJ] at h
  cases q:Y[j]? with
  | none=>rw[q] at h;cases h
  | some w=>rw[q] at h;rw[show w=some v from h]
 have pm:((((c8 (mask+1)).filterMap λj=>(Y.getD j none).map (j,·)).map (·.2))).Perm (c8 hs.size):=by
  refine yo ?_ List.nodup_range λv=>?_
  . refine tp.mpr (AB _ (λa B i b l D U=>?_) mI)
    cases h1:Y.getD a none with
    | none=>rw[h1] at l;cases l
    | some x=>
     cases h2:Y.getD B none with
     | none=>rw[h2] at U;cases U
     | some y=>
      rw[h1] at l;rw[h2] at U;simp only[Option.map_some,y0] at l U;subst l;subst U;intro q;subst q;have:=m.one _ _ _ (Z _ _ h1) (Z _ _ h2);lia
  . rw[d6,m.has];constructor
    . intro h;obtain ⟨⟨j,w⟩,h1,rfl⟩:=bt.mp h;obtain ⟨C,_,h2⟩:=eo.mp h1;obtain ⟨E,z,s⟩:=sM.mp h2;cases s;exact ⟨j,Z _ _ z⟩
    . rintro ⟨j,hj⟩;have i:=(kH.mp hj).1;rw[m.size] at i;refine bt.mpr ⟨(j,v),eo.mpr ⟨j,d6.mpr i,?_⟩,rfl⟩;rw[eJ,hj];rfl
 refine ⟨_,_,e,⟨rfl,rfl,?_,pm⟩,JT e⟩;have:=pm.length_eq;rw[df,ai] at this;rw[br,ai];exact this
theorem U0{U:Type}{es:Array U}(h:xs.toList.Perm (c8 es.size)):(xs.filterMap (es[·]?)).toList.Perm es.toList:=by
 rw[Array.toList_filterMap];refine (h.filterMap _).trans ?_;have:=range_all es.toList;rw[cx] at this;simp only[eL] at this;rw[this]
noncomputable def gC:a0->Int
 | .int k _=>k
 | _=>0
noncomputable def cN(w:kn):Bool:=!(w.params.followText "set-order")
noncomputable def bf(es:Array (Int×a0))(ep:Nat)(t:dy):Obj:={ cls:=.type "set",dict:=none,data:=.set es ep t,slots:=#[] }
structure dZ (P:fF) (w:kn) (es:Array (Int×a0)) (t:dy) (ks:B4):Prop where
 el:ElemsOf (rV P w) es.toList
 tab:TabOk (cN w) t
 fit:t.fits es.size=true
 pm:(es.toList.map λe=>gC e.2).Perm ks
def bL(P:fF)(w:kn)(h:Heap)(a:Addr)(ks:B4):Prop:=∃es ep t,h.get? a=some (bf es ep t)/\dZ P w es t ks
variable {es es':Array (Int×a0)}{ks:B4}{ep:Nat}
section
variable   {A:eK}
theorem bL.at(x:bL P w h p ks)(e:∀o,h.get? p=some o->h'.get? p=some o):bL P w h' p ks:=by
 obtain ⟨U,ep,t,g,r⟩:=x;exact ⟨U,ep,t,e _ g,r⟩
theorem bL.typeIs(x:bL P w s.heap p ks):s.TypeIs (.ref p) "set" := by
 obtain ⟨U,ep,t,g,r⟩:=x;exact ⟨_,g,rfl⟩
theorem dZ.size{t:dy}(r:dZ P w es t ks):es.size=ks.length:=by
 have:=r.pm.length_eq;rwa [ai,cx] at this
theorem dZ.shape{t:dy}(r:dZ P w es t ks){e:Int×a0}(Y:e∈es.toList):∃k tk,e=(rS k,.int k tk):=by
 obtain ⟨⟨k,h1,h2⟩,_⟩:=r.el e Y;obtain ⟨tk,U⟩:=x6 h1;exact ⟨k,tk,by rw[<- U];exact Prod.ext h2 rfl⟩
theorem dZ.mem{t:dy}(r:dZ P w es t ks){k:Int}:k∈ks↔∃e∈es.toList,(rV P w).is k e.2=true:=by
 rw[<- r.pm.mem_iff,bt];constructor
 . rintro ⟨e,U,rfl⟩;obtain ⟨Y,Z,rfl⟩:=r.shape U;exact ⟨_,U,xC _ _ _ _⟩
 . rintro ⟨e,U,h⟩;obtain ⟨Y,Z,rfl⟩:=r.shape U;refine ⟨_,U,?_⟩;exact ((rV P w).inj _ k Y h (xC _ _ _ _)).symm
theorem dZ.found{t:dy}(r:dZ P w es t ks)(k:Int):(es.toList.findIdx? λe=>(rV P w).is k e.2).isSome=decide (k∈ks):=by
 cases U:es.toList.findIdx? λe=>(rV P w).is k e.2 with
 | none=>
  refine (decide_eq_false λhk=>?_).symm;obtain ⟨e,Z,h⟩:=r.mem.mp hk;have:=List.findIdx?_eq_none_iff.mp U e Z;rw[h] at this;cases this
 | some j=>
  obtain ⟨hj,Y,_⟩:=sA.mp U;exact (decide_eq_true (r.mem.mpr ⟨_,i5 hj,Y⟩)).symm
theorem pD{t t':dy}(g:h.get? p=some (bf es ep t)):(h.update p (sf es' t')).get? p=some (bf es' (ep+1) t'):=by
 have:=ij (sf es' t') g (by rw[putSet_of es' t' (rfl)];rfl);rwa [putSet_of es' t' (show (bf es ep t).data=_ from rfl)] at this
theorem lE{n:Nat}(h:n<4000):n<=be:=c5 (fe h) (by decide)
theorem dZ.perm{t t':dy}(r:dZ P w es t ks)(U:es'.toList.Perm es.toList)(Z:TabOk (cN w) t')(Y:t'.fits es'.size=true):dZ P w es' t' ks:=
 ⟨r.el.perm U,Z,Y,(U.map _).trans r.pm⟩
theorem add_int{k:Int}{tk:Tok}{Q:Bool->a8->Prop}(x:bL P w s.heap p ks)(hb:ks.length+1<4000)
 (h:∀h',fv p s.heap h'->bL P w h' p (if k∈ks then ks else ks++[k])->Q (!decide (k∈ks)) { s with heap:=h' }):cf (bX P w) A (setAddHashed p (.int k tk) (rS k)) Q E s:=by
 obtain ⟨i,ep,t,g,r⟩:=x;have sz:=r.size;have fd:=r.found k;have key:(rV P w).is k (.int k tk)=true:=xC _ _ _ _;have Y:Value.scannable (.int k tk)=true:=rfl;have bs:=byScan_of Y (by unfold scanBound;lia) r.el;refine ft (ae (eI g rfl r.fit ?_))
 dsimp only
 rw[bs];refine ae (ae (ki (ae (wpAny_setScan_of key g rfl r.fit r.el ?_))))
 cases C:i.toList.findIdx? λe=>(rV P w).is k e.2 with
 | some j=>
  rw[C] at fd;have hk:=of_decide_eq_true fd.symm;refine ar (ar ?_);have:=h s.heap (fv.refl p s.heap) (by rw[if_pos hk];exact ⟨i,ep,t,g,r⟩);rwa [decide_eq_true hk] at this
 | none=>
  rw[C] at fd;have hk:=of_decide_eq_false fd.symm;rw[if_neg hk,decide_eq_false hk] at h
  dsimp only
  have H:∀(b:Bool) {s₁:a8}{R:Unit->a8->Prop},R () s₁->cf (bX P w) A (match b with | true=>rule "set.scan.the-table-gave-way" | false=>pure ()) R E s₁:=
   λb s₁ R q=>by cases b <;> first | exact ar q | exact ki q
  have pn:=layNew_perm t i (rS k) (.int k tk);have fn:=layNew_fits t i (rS k) (.int k tk);have D:=r.tab.layNew i (rS k) (.int k tk);generalize hL:layNew t i (rS k) (.int k tk)=L at pn fn D ⊢;obtain ⟨U,t1,I,gv⟩:=L;rw[Array.toList_push] at pn;have u:dZ P w U t1 (ks++[k]):=⟨(r.el.push key Y).perm pn,D,fn,((pn.map _).trans (by rw[ck];exact List.Perm.append_right _ r.pm))⟩;have o:=u.size;rw[aw] at o;simp only[ba,fT] at o;refine ae (H _ ?_);have go:cf (bX P w) A (storeSet p U t1 >>= λ_=>if (!I&&t1.tooFull)=true then
   (match (relayAll t1 U (dy.grown U.size)).2.2 with | true=>rule "set.scan.the-table-gave-way" | false=>pure ()) >>= λ_=>storeSet p (relayAll t1 U (dy.grown U.size)).1 (relayAll t1 U (dy.grown U.size)).2.1 >>= λ_=>pure (some true)
   else pure (some true)) (λr Z=>r=some true/\∃h',Z={ s with heap:=h' }/\fv p s.heap h'/\bL P w h' p (ks++[k])) E s:=by
   refine ae (nL g rfl ?_ (lE (by lia)));have v:=pD (es':=U) (t':=t1) g;have b1:=eD s.heap p (sf U t1);split
   . refine ae (H _ ?_);have pr:=relayAll_perm t1 U (dy.grown U.size);have O:=relayAll_fits t1 U (dy.grown U.size);have tr:=u.tab.relayAll U (dy.grown U.size);have y:=u.perm pr tr O;refine ae (nL v rfl ?_ (lE (by rw[y.size,aw];lia)));exact ar ⟨rfl,_,rfl,b1.trans (eD _ p _),_,_,_,pD v,y⟩
   . exact ar ⟨rfl,_,rfl,b1,_,_,_,v,u⟩
  have fin:∀{m:Sem (Option Bool)},cf (bX P w) A m (λr Z=>r=some true/\∃h',Z={ s with heap:=h' }/\fv p s.heap h'/\bL P w h' p (ks++[k])) E s ->
   cf (bX P w) A m (λr Z=>cf (bX P w) A (match r with | some added=>pure added | none=>setAddHashedIn p (.int k tk) (rS k) 99999) Q E Z) E s:=λJ=>
   eR J (λr Z l=>by obtain ⟨M,h',S,b,q⟩:=l;subst M S;exact ar (h h' b q)) λ_ _ z=>z
  refine fin ?_
  by_cases B:t1.plain=true
  . rw[if_pos B,hashByValue_scannable 8 Y];exact ae (ar (go))
  . rw[if_neg B];exact ae (ar (go))
end
noncomputable def jk(σ:B4)(v:Int):B4:=if v∈σ then σ else σ++[v]
noncomputable def ddl(ns:B4):B4:=ns.foldl jk []
theorem Vu(U:B4)(v:Int):U.length<=(jk U v).length:=by
 unfold jk;split
 . exact ax _
 . rw[aw];exact AA _ _
theorem Tc(ns:B4):∀σ:B4,σ.length<=(ns.foldl jk σ).length:=by
 induction ns with
 | nil=>exact λσ=>ax _
 | cons n r U=>exact λσ=>c5 (Vu σ n) (U _)
theorem VG(ns:B4)(v:Int):ddl (ns++[v])=jk (ddl ns) v:=by rw[ddl,kK];rfl
theorem LK(ns U:B4):(ddl ns).length<=(ddl (ns++U)).length:=by unfold ddl;rw[kK];exact Tc U _
theorem QK{k:Int}(ns:B4):∀σ:B4,k∈ns.foldl jk σ↔k∈σ\/k∈ns:=by
 induction ns with
 | nil=>intro σ;simp
 | cons n r U=>
  intro σ;rw[fS,U];unfold jk;split
  . rename_i h;constructor
    . rintro (q | q)
      . exact .inl q
      . exact .inr (a6 _ q)
    . rintro (q | q)
      . exact .inl q
      . rcases bq.mp q with rfl | q
        . exact .inl h
        . exact .inr q
  . rw[de,aS,bq,or_assoc]
theorem xq{k:Int}:k∈ddl ns↔k∈ns:=by rw[ddl,QK];simp
theorem Jy(ns:B4):∀σ:B4,σ.Nodup->(ns.foldl jk σ).Nodup:=by
 induction ns with
 | nil=>exact λσ h=>h
 | cons n r Y=>
  intro σ h;refine Y _ ?_;unfold jk;split
  . exact h
  . rename_i Z;refine eu.mpr ⟨h,by simp,λa ha b U e=>?_⟩;rw[aS] at U;exact Z (by rw[<- U,<- e];exact ha)
theorem qT(ns:B4):(ddl ns).Nodup:=Jy ns [] List.nodup_nil
theorem DK(ns:B4):(ddl ns).length<=ns.length:=by
 have key:∀(ns U:B4),(ns.foldl jk U).length<=U.length+ns.length:=λns=>by
  induction ns with
  | nil=>exact λU=>ax _
  | cons n r Y=>
   intro U;have h1:=Y (jk U n);have h2:(jk U n).length<=U.length+1:=by
    unfold jk;split
    . lia
    . rw[aw];exact ax _
   rw[fS,ba];lia
 have:=key ns [];rwa [fT,nI] at this
theorem Km:vE table "set.update.loop"= some Builtin.«set.update.loop» := u7 (by kernel_rfl)
theorem GZ:plainId "set.update.loop"= true:=by decide +kernel
section
variable   {A:eK}{R:Result->a8->Prop}{I:Addr}{fp wr:C3}{G:Array GenState->Array GenState->Prop}{n:Nat}{Pv:Nat->a0->Prop}{St:Nat->a8->Prop}
theorem S5(W:WalksS P w A.in1 I fp wr G n Pv St)(S:Addr)(q:S∉fp)(ns:B4)(M:ns.length=n)(hv:∀i v,i<n->Pv i v->∃t,v= .int (ns.getD i 0) t)(O:(ddl ns).length+1<4000) :
 ∀(k i:Nat) (s:a8),n - i=k->i<=n->St i s->bL P w s.heap S (ddl (ns.take i)) ->
  (∀s',Moved (S::wr) G s s'->bL P w s'.heap S (ddl ns)->R (.ok (.ret .none)) s') ->
  sC (bX P w) A (.builtin "set.update.loop" ⟨[.ref S,.ref I],[]⟩) R s:=by
 have up:∀b∈wr,b∈S::wr:=λb h=>a6 _ h;have sw:=λh=>q (W.sub _ h);intro k
 induction k with
 | zero=>
  intro i s hk hi st x j;obtain rfl:i=n:=by lia
  rw[eg (by lia)] at x;refine i3 Km ?_;rw[gc GZ _];exact ae (W.done s _ _ st λs' Z=>ar (j s' (Z.mono up) (x.at λo e=>Z.heap S o sw e)))
 | succ k C=>
  intro i s hk hi st x j;have U:i<n:=by lia
  refine i3 Km ?_;rw[gc GZ _];refine ae (W.item i s _ _ U st λv s' r m Z=>?_);obtain ⟨t,rfl⟩:=hv i v U r;have y:=x.at λo e=>Z.heap S o sw e;have D:ns.take (i+1)=ns.take i++[ns.getD i 0]:=by
   rw[kG,ay,aI (by lia)];rfl
  have u:=by
   have:=LK (ns.take i) (ns.drop i);rwa [eM] at this
  refine ae (ft (ft (ae (wpAny_pyHash_int ?_))));refine add_int y (by lia) λB p L=>?_;have E:bL P w B S (ddl (ns.take (i+1))):=by rw[D,VG];exact L
  refine ar ⟨kA GZ _,C (i+1) _ (by lia) U (W.frame _ s' _ _ m (ot _) λb Y o e=>?_) E λJ l H=>?_⟩
  . rw[p.2 b (λz:b=S=>q (by rw[<- z];exact Y))];exact e
  . refine j J (Moved.trans W.gtrans ((Z.mono up).then_heap (ot _) λb o Y e=>?_) l) H;rw[p.2 b (λz:b=S=>Y (by rw[z];exact a7))];exact e
end
section
variable   {A:eK}
theorem Ca:dZ P w #[] (.fresh 0 0 (cN w)) []:=⟨(λe h=>nomatch h),⟨BD.nil,rfl⟩,rfl,BU.nil⟩
theorem Jq(a:a0):checkBuiltinCall "set.__new__" ⟨[.type "set",a],[]⟩=pure ():=by kernel_rfl
theorem HQ(a:a0):checkTypeCall "set" ⟨[a],[]⟩=pure ():=by kernel_rfl
theorem RW(a:a0)(h:Q (.ref s.heap.objs.size) { s with heap:=s.heap.push (bf #[] 0 (.fresh 0 0 (cN w))) }) :
 sC (bX P w) A (.call (.builtin "set.__new__") ⟨[.type "set",a],[]⟩) (wants Q E) s:=by
 refine codeAny_of_tree (ae (fg (Jq a) (ar ⟨kA F.plain_set_new _,i3 F.entry_set_new ?_⟩)));rw[gc F.plain_set_new _];unfold Builtin.«set.__new__»
 unfold Builtin.Frozenset.newClass;have U:=wt;obtain ⟨Z,g,d,Y,os⟩:=s
 wp_walk
 refine va (ar ?_);simp only[newObj];exact ae (wpAny_alloc (ar (ar h)))
theorem Hy{self a:a0}{Q:Unit->a8->Prop}(hT:s.TypeIs self "set")(e:Q () s):cf M A (checkBuiltinCall "set.__init__" ⟨[self,a],[]⟩) Q E s:=by
 refine ae (ku hT wt ?_);unfold Bind.checkArgs;refine ae (printed_name (by decide) (ae (printed_star rfl hT λU=>?_)));have i:(Manifest.Receiver.self == Manifest.Receiver.none)=false:=by decide
 rw[show (if (Manifest.Receiver.self == Manifest.Receiver.none)=true then [self,a].length else [self,a].length - 1)=1 by simp[i]];simp only[ll];have Z:(na == na)=true:=by decide
 have j:(na == Manifest.ParamKind.posOrKw)=false:=by decide
 have Y:(na == Manifest.ParamKind.varPos)=false:=by decide
 rw[show Bind.check ⟨.positional, "set", "*",.self,[⟨"iterable",.posOnly,false⟩]⟩ "set" U 1 []=pure () by simp[Bind.check,Bind.checkCount,Bind.isPositional,Z,Y]];exact ar e
theorem intAt:∀{vs:B9}{ns:B4},oa vs ns->∀{i:Nat}{v:a0},vs[i]?=some v->∃t,v= .int (ns.getD i 0) t
 | _,_,.nil,i,v,h=>by simp at h
 | _,_,.cons n t r,0,v,h=>⟨t,by rw[<- Option.some.inj h];rfl⟩
 | _,_,.cons n t r,i+1,v,h=>intAt r (by simpa using h)
theorem xU:∀{vs:B9}{ns:B4},oa vs ns->vs.length=ns.length
 | _,_,.nil=>rfl
 | _,_,.cons n t r=>by rw[ba,ba,xU r]
structure pY (P:fF) (w:kn) (A:eK) (s:a8) (l:Addr) (T:String) (ns:B4):Prop where
 ty:s.TypeIs (.ref l) T
 n1:isSubtype (.type T) (.type "set")=pure false
 n2:isSubtype (.type T) (.type "frozenset")=pure false
 n3:(iN T == iN "dict")=false
 it:∀(s':a8) (Q:B3) (E:B3) (A':eK),A'.handled=none->(∀b o,s.heap.get? b=some o->s'.heap.get? b=some o) ->
  (∀(h':Heap) (fp wr:C3) (Pv:Nat->a0->Prop) (St:Nat->a8->Prop),(∀b o,s'.heap.get? b=some o->h'.get? b=some o)->(∀b∈fp,b=s'.heap.objs.size\/b<s.heap.objs.size)->(∀b∈wr,s'.heap.objs.size<=b) ->
   (∀A2:eK,A2.handled=none->WalksS P w A2 s'.heap.objs.size fp wr (λa b=>b=a) ns.length Pv St)->(∀i v,i<ns.length->Pv i v->∃t,v= .int (ns.getD i 0) t)->St 0 { s' with heap:=h' }->Q (.ref s'.heap.objs.size) { s' with heap:=h' }) ->
  cf (bX P w) A' (AH (.ref l)) Q E s'
theorem Ft(hh:A.handled=none)(x:pY P w A s l T ns)(hb:(ddl ns).length+1<4000)
 (h:∀(h':Heap) (tk:Nat),bL P w h' s.heap.objs.size (ddl ns)->(∀b o,s.heap.get? b=some o->h'.get? b=some o)->Q (.ref s.heap.objs.size) { s with heap:=h',toks:=tk }) :
 cf (bX P w) A (call (.type "set") [.ref l]) Q E s:=by
 obtain ⟨c,tl,I⟩:=oQ.mro;have q1:=oQ.made;have q2:=oQ.sub;refine AJ (codeAny_of_tree (ar ⟨Code.quiet_builtin _ (by decide +kernel),i3 F.entry_type_call ?_⟩));rw[Around.under_plain (weight_type_call_type "set" [.ref l] []) rfl];have q3:=oQ.notType;have q4:=oQ.canCreate;have q5:=HQ (.ref l)
 repeat any_goals first | wp_step | assumption
 refine qA (RW (.ref l) (E:=E) (Q:=λobj Z=>obj= .ref s.heap.objs.size/\Z={ s with heap:=s.heap.push (bf #[] 0 (.fresh 0 0 (cN w))) }) ⟨rfl,rfl⟩) λr Z C=>?_
 cases r with
 | error e=>exact C
 | ok fl=>
  cases fl with
  | ret obj=>
   obtain ⟨rfl,rfl⟩:=C;have H:(s.heap.push (bf #[] 0 (.fresh 0 0 (cN w)))).get? s.heap.objs.size=some (bf #[] 0 (.fresh 0 0 (cN w))):=bo _ rfl;have hT:Shared.TypeIs { s with heap:=s.heap.push (bf #[] 0 (.fresh 0 0 (cN w))) } (.ref s.heap.objs.size) "set" := ⟨_,H,rfl⟩;have q6:=oQ.init.lookup;have q7:=oQ.init.bind (.ref s.heap.objs.size)
   repeat any_goals first | wp_step | assumption
   refine qA (codeAny_call_builtin (R:=wants (λr Y=>r= .none/\∃h' tk,Y={ s with heap:=h',toks:=tk }/\bL P w h' s.heap.objs.size (ddl ns)/\(∀b o,s.heap.get? b=some o->h'.get? b=some o)) E) oQ.init.plain F.entry_set_init (Hy hT ?_)) λm Y U=>?_
   . have S:Shared.TypeIs { s with heap:=s.heap.push (bf #[] 0 (.fresh 0 0 (cN w))) } (.ref l) T:=by
      obtain ⟨o,L,hc⟩:=x.ty;exact ⟨o,av _ L,hc⟩
     have n1:=x.n1;have n2:=x.n2;have n3:=x.n3;unfold Builtin.«set.__init__» noKeywords
     unfold Builtin.Frozenset.updateFrom;generalize M:AH=PI
     wp_walk
     subst M;have hs3:A.in1.in1.in1.handled=none:=by simp[hh]
     refine x.it _ _ _ _ (by simp[hh]) (λb o e=>av _ e) λh' fp wr Pv St hk v B W hv st=>?_;have q:(s.heap.push (bf #[] 0 (.fresh 0 0 (cN w)))).objs.size=s.heap.objs.size+1:=jS ..
     refine ae (wpAny_runValue (S5 (W _ (by simp[hh])) s.heap.objs.size (λj=>?_) ns rfl hv hb ns.length 0 _ (by lia) (f7 _) st ⟨_,_,_,hk _ _ H,Ca⟩ λJ j y=>?_))
     . rcases v _ j with z | z
       . rw[q] at z;exact absurd z (cS (mP _))
       . exact absurd z (fo _)
     . obtain ⟨h2,g',d',u,D⟩:=J;obtain rfl:g'=s.gens:=j.gens;obtain rfl:d'=s.drawn:=j.drawn;obtain rfl:D=s.os:=j.os;refine ar (ar ⟨rfl,h2,u,rfl,y,λb o e=>?_⟩);have p:=bg e;refine j.heap b o (λz=>?_) (hk _ _ (av _ e));rcases bq.mp z with z | z
       . exact absurd z (cS p)
       . have:=B b z;rw[q] at this;exact absurd (cK (qc p) this) (fo _)
   . cases m with
     | error e=>exact U
     | ok i=>
      cases i with
      | ret r=>
       obtain ⟨rfl,h',tk,rfl,y,O⟩:=U
       repeat any_goals first | wp_step | assumption
       exact h _ _ y O
      | _=>exact U.elim
  | _=>exact C.elim
theorem pY.list(j:s.heap.IsList l items)(hi:oa items.toList ns):pY P w A s l "list" ns where
 ty:=j.typeIs
 n1:=by rw[iP];kernel_rfl
 n2:=by rw[iP];kernel_rfl
 n3:=by decide
 it:=λY Q E B hh hk x=>by
  have U:Y.heap.IsList l items:=by
   obtain ⟨o,Z,r⟩:=j;exact ⟨o,hk _ _ Z,r⟩
  have q:l<Y.heap.objs.size:=by obtain ⟨o,Z,r⟩:=U;exact bg Z
  have p:l<s.heap.objs.size:=by obtain ⟨o,Z,r⟩:=j;exact bg Z
  have y:ns.length=items.size:=by rw[<- xU hi,cx]
  refine sN U (x _ [Y.heap.objs.size,l] [Y.heap.objs.size] (λi v=>items[i]?=some v) (λi u=>u.heap.IsListIter Y.heap.objs.size l i/\u.heap.IsList l items) (λb o e=>av _ e) (λb m=>?_) (λb m=>?_) (λC h2=>?_) (λi v _ hv=>?_) ⟨⟨_,bo _ rfl,rfl,rfl⟩,U.push _⟩)
  . rcases bq.mp m with z | z
    . exact .inl z
    . exact .inr (by rw[aS.mp z];exact p)
  . rw[aS.mp m];exact ax _
  . rw[y];exact (Walks.list h2 _ l (cS q) items).toS
  . exact intAt hi (by rw[eL];exact hv)
theorem pY.tuple(j:s.heap.IsTuple l items)(hi:oa items.toList ns):pY P w A s l "tuple" ns where
 ty:=j.typeIs
 n1:=by rw[iP];kernel_rfl
 n2:=by rw[iP];kernel_rfl
 n3:=by decide
 it:=λY Q E B hh hk x=>by
  have U:Y.heap.IsTuple l items:=by
   obtain ⟨o,Z,r⟩:=j;exact ⟨o,hk _ _ Z,r⟩
  have q:l<Y.heap.objs.size:=by obtain ⟨o,Z,r⟩:=U;exact bg Z
  have p:l<s.heap.objs.size:=by obtain ⟨o,Z,r⟩:=j;exact bg Z
  have y:ns.length=items.size:=by rw[<- xU hi,cx]
  refine wpAny_pyIter_tuple U (x _ [Y.heap.objs.size,l] [Y.heap.objs.size] (λi v=>items[i]?=some v) (λi u=>u.heap.IsTupleIter Y.heap.objs.size l i/\u.heap.IsTuple l items) (λb o e=>av _ e) (λb m=>?_) (λb m=>?_) (λC h2=>?_) (λi v _ hv=>?_) ⟨⟨_,bo _ rfl,rfl,rfl⟩,U.push _⟩)
  . rcases bq.mp m with z | z
    . exact .inl z
    . exact .inr (by rw[aS.mp z];exact p)
  . rw[aS.mp m];exact ax _
  . rw[y];exact (Walks.tuple h2 _ l (cS q) items).toS
  . exact intAt hi (by rw[eL];exact hv)
end
theorem yg:Slot "set" "__iter__" "set.__iter__" :=
 .of (owner:= "set") (n:= "__iter__") (by rw[ma,ib];kernel_rfl) (by decide +kernel) (by decide +kernel) (by decide +kernel)
  (by first | exact .inl (by decide +kernel) | exact .inr (by decide +kernel)) (by rw[iP];kernel_rfl)
theorem Mj:vE table "set.__iter__"= some Builtin.«frozenset.__iter__» :=
 tf (id':= "frozenset.__iter__") (by kernel_rfl) (by first | rfl | decide +kernel) (by decide +kernel) (by kernel_rfl)
theorem Ma(a:a0):xh "set.__iter__" ⟨[a],[]⟩:=by
 rw[xh,vn (n:=['_','_','r','e','t','i','_','_']) (by kernel_rfl) F.owner_set];kernel_rfl
theorem Fq:Manifest.owners.lookup (String.ofList ['r','o','t','a','r','e','t','i','_','t','e','s'].reverse)=some Manifest.sig_set_iterator:=by kernel_rfl
theorem cM:Slot "set_iterator" "__next__" "set_iterator.__next__" :=
 .of (owner:= "set_iterator") (n:= "__next__") (by rw[ma,ib];kernel_rfl) (by decide +kernel) (by decide +kernel) (by decide +kernel)
  (by first | exact .inl (by decide +kernel) | exact .inr (by decide +kernel)) (by rw[iP];kernel_rfl)
theorem nu:vE table "set_iterator.__next__"= some Builtin.«set_iterator.__next__» := u7 (by kernel_rfl)
theorem ni(a:a0):xh "set_iterator.__next__" ⟨[a],[]⟩:=by
 rw[xh,vn (n:=['_','_','t','x','e','n','_','_']) (by kernel_rfl) Fq];kernel_rfl
theorem mG:Slot "set_iterator" "__iter__" "set_iterator.__iter__" :=
 .of (owner:= "set_iterator") (n:= "__iter__") (by rw[ma,ib];kernel_rfl) (by decide +kernel) (by decide +kernel) (by decide +kernel)
  (by first | exact .inl (by decide +kernel) | exact .inr (by decide +kernel)) (by rw[iP];kernel_rfl)
theorem yc:vE table "set_iterator.__iter__"= some Builtin.«dict_keyiterator.__iter__» :=
 tf (id':= "dict_keyiterator.__iter__") (by kernel_rfl) (by first | rfl | decide +kernel | (simp +decide [String.splitOnAux])) (by decide +kernel) (by kernel_rfl)
theorem yd(a:a0):xh "set_iterator.__iter__" ⟨[a],[]⟩:=by
 rw[xh,vn (n:=['_','_','r','e','t','i','_','_']) (by kernel_rfl) Fq];kernel_rfl
noncomputable def iZ(first:a0)(i S n ep:Nat):Obj:={ cls:=.type "set_iterator",dict:=none,data:=.fields #[first,iF (i:Nat),.ref S,iF (n:Nat),iF (ep:Nat)],slots:=#[] }
structure jX (s s':a8):Prop where
 heap:∀b o,s.heap.get? b=some o->s'.heap.get? b=some o
 gens:s'.gens=s.gens
 os:s'.os=s.os
theorem jX.trans{b c:a8}(x:jX s b)(y:jX b c):jX s c:=⟨λp o e=>y.heap p o (x.heap p o e),y.gens.trans x.gens,y.os.trans x.os⟩
variable {S:Addr}{I:Nat}{sl:Nat->Nat}{W:B9}
section
variable   {A:eK}
theorem Le{U:Source}{n:Nat}{Q:Nat->a8->Prop}(Y:n≠0)(h:∀i,i<n->Q i { s with drawn:=s.drawn.bump U }):cf M A (choose U n) Q E s:=λZ p _=>by
 show Sem.wp M Z (.choose U n .pure) _ _ p s;rw[Sem.wp_choose];exact ⟨Y,h _ (BN _ (xt Y))⟩
theorem yt{Y:Type}:∀(n:Nat) (xs:List Y) (s:a8) {Q:List Y->a8->Prop},xs.length=n->(∀ys s',ys.Perm xs->s'.heap=s.heap->s'.gens=s.gens->s'.os=s.os->s'.toks=s.toks->Q ys s')->cf M A (drawOrder n xs) Q E s
 | 0,xs,s,Q,U,h=>by
  have:=l8.mp U;subst this;exact ar (h [] s (.refl _) rfl rfl rfl rfl)
 | n+1,[],s,Q,U,h=>by cases U
 | n+1,x::xs,s,Q,U,h=>by
  unfold drawOrder;refine ae (Le (by rw[U];exact Nat.succ_ne_zero _) λi hi=>?_);rw[aI hi];exact ae (yt n _ _ (by rw[xA hi,U];rfl) λys s' j h1 h2 e Z=>ar (h _ s' ((j.cons _).trans (uV hi)) h1 h2 e Z))
theorem texts_any{Q:Bool->a8->Prop}(h:Q (M.w.params.followText "set-order") s):cf M A setsByText Q E s:=by
 exact ae (va (ar h))
noncomputable def placeAt(t:dy)(i:Nat):Nat:=match i with
 | 0=>0
 | i+1=>t.place.getD i 0+1
theorem Ij{t:dy}(h:gj t.place):∀{i:Nat},i<=t.place.size->d3 t.place (placeAt t i)=i
 | 0,_=>Js h
 | i+1,hi=>by
  have e:placeAt t (i+1)=t.place[i]'hi+1:=by
   show t.place.getD i 0+1=_;rw[eJ,fx (by lia)];rfl
  rw[e];exact Nb h (by lia)
structure Asks (P:fF) (w:kn) (S:Addr) (es:Array (Int×a0)) (ep:Nat) (t:dy) (sl:Nat->Nat) (W:B9):Prop where
 len:W.length=es.size
 item:∀(A:eK) (E:B3) (s:a8) (i:Nat) (v:a0) (Q:Option (a0×Nat)->a8->Prop),s.heap.get? S=some (bf es ep t)->W[i]?=some v->Q (some (v,sl (i+1))) s->cf (bX P w) A (setNext S (sl i) i ep) Q E s
 done:∀(A:eK) (E:B3) (s:a8) (Q:Option (a0×Nat)->a8->Prop),s.heap.get? S=some (bf es ep t)->Q none s->cf (bX P w) A (setNext S (sl es.size) es.size ep) Q E s
theorem Ot{t:dy}(Y:t.fits es.size=true)(U:w.params.followText "set-order"= true) :
 Asks P w S es ep t (λ_=>0) ((pickOrder (w.params.setOrder S ep) es).toList.map (·.2)):=by
 have Z:((pickOrder (w.params.setOrder S ep) es).toList.map (·.2)).length=es.size:=by
  rw[ai,(wO _ es).length_eq,cx]
 have key:∀(A:eK) (E:B3) (s:a8) (i:Nat) (Q:Option (a0×Nat)->a8->Prop),s.heap.get? S=some (bf es ep t) ->
  Q ((((pickOrder (w.params.setOrder S ep) es).toList.map (·.2))[i]?).map λv=>(v,0)) s->cf (bX P w) A (setNext S 0 i ep) Q E s:=λA E s i Q g h=>by
  refine ae (eI g rfl Y (ae (texts_any ?_)));rw[show (bX P w).w.params.followText "set-order"= true from U];simp only[bne_self_eq_false,if_false];refine ae (ae (eI g rfl Y ?_));refine ae (texts_any ?_);rw[show (bX P w).w.params.followText "set-order"= true from U];refine ae (va (ar (ar ?_)));rwa [a9,eL,Option.map_map] at h
 refine ⟨Z,λA E s i v Q g hv h=>key A E s i Q g (by rw[hv];exact h),λA E s Q g h=>key A E s _ Q g ?_⟩;rw[dr (by rw[Z];exact ax _)];exact h
theorem Mm{t:dy}(Z:t.fits es.size=true)(l:w.params.followText "set-order"= false)(m:TabOk (cN w) t)(hd:(!t.plain&&decide (es.size > 1))=false) :
 Asks P w S es ep t (placeAt t) (es.toList.map (·.2)):=by
 have p:=by
  simp only[ro,cp,beq_iff_eq] at Z;exact Z.1
 have U:t.led=true:=by rw[m.led];rw[cN,l];rfl
 have key:∀(A:eK) (E:B3) (s:a8) (i:Nat) (Q:Option (a0×Nat)->a8->Prop),s.heap.get? S=some (bf es ep t)->i<=es.size ->
  Q (match es[i]?,t.place[i]? with | some (_,x),some j=>some (x,j+1) | _,_=>none) s->cf (bX P w) A (setNext S (placeAt t i) i ep) Q E s:=λA E s i Q g hi h=>by
  refine ae (eI g rfl Z (ae (texts_any ?_)));rw[show (bX P w).w.params.followText "set-order"= false from l];show cf _ _ (if (!t.plain&&decide (es.size > 1))=true then _ else _) _ _ _;rw[hd];refine ae ?_;show cf _ _ (if (!t.led && !es.isEmpty)=true then _ else _) _ _ _;rw[U];refine ar ?_;rw[Ij m.up (by lia)];exact ar h
 refine ⟨by rw[ai,cx],λA E s i v Q g hv h=>?_,λA E s Q g h=>key A E s _ Q g (ax _) ?_⟩
 . rw[a9,eL] at hv
   cases Y:es[i]? with
   | none=>rw[Y] at hv;cases hv
   | some e=>
    rw[Y] at hv;cases hv;have hi:=(kH.mp Y).1;refine key A E s i Q g (by lia) ?_;rw[Y,fx (by lia)];have o:placeAt t (i+1)=t.place[i]'(by lia)+1:=by
     show t.place.getD i 0+1=_;rw[eJ,fx (by lia)];rfl
    rwa [o] at h
 . rw[AV (ax _)];exact h
theorem fM{n:Nat}{f:a0}(g:s.heap.get? I=some (iZ f i p2 n ep)):s.TypeIs (.ref I) "set_iterator" := ⟨_,g,rfl⟩
theorem Dl{f:a0}{n:Nat}{k:Nat}{x:a0}(g:h.get? p=some (iZ f i p2 n ep)):(h.update p (zd (·.setIfInBounds k x))).get? p=some { iZ f i p2 n ep with data:=.fields (#[f,iF (i:Nat),.ref p2,iF (n:Nat),iF (ep:Nat)].setIfInBounds k x) }:=
 ij _ g rfl
theorem next_item{t:dy}{v:a0}{Q:B8->a8->Prop}(g:s.heap.get? I=some (iZ (iF (sl i:Nat)) i p2 es.size ep))(gs:s.heap.get? p2=some (bf es ep t))(Z:t.fits es.size=true)
 (K:Asks P w p2 es ep t sl W) (hv:W[i]?=some v) (Y:∀h',h'.get? I=some (iZ (iF (sl (i+1):Nat)) (i+1) p2 es.size ep)->fv I s.heap h'->Q (some v) { s with heap:=h' }):cf (bX P w) A (AG (.ref I)) Q E s:=by
 refine ae (n4 (gE (fM g) cM (eT cM (fM g) nu ?_ (ni _))));refine ae (fg rfl (ae (xD g rfl (ae (kN gs rfl Z ?_)))));simp only[bne_self_eq_false,fh,ff];refine ae (K.item _ _ _ i v _ gs hv ?_);have U:=Dl (k:=0) (x:=iF (sl (i+1):Nat)) g;refine ae (lT g rfl (by simp) (ae (lT U rfl (by simp) ?_)));refine ar ⟨v,rfl,ar (Y _ ?_ ((eD ..).trans (eD ..)))⟩;have g2:=ij (zd (·.setIfInBounds 1 (iF (i+1)))) U rfl;refine g2.trans ?_;rfl
theorem OD{t:dy}{Q:B8->a8->Prop}(hh:A.handled=none)(g:s.heap.get? I=some (iZ (iF (sl es.size:Nat)) es.size i es.size ep))(gs:s.heap.get? i=some (bf es ep t))(Y:t.fits es.size=true)
 (K:Asks P w i es ep t sl W) (U:∀h',Heap.ExtBut I s.heap h'->Q none { s with heap:=h' }):cf (bX P w) A (AG (.ref I)) Q E s:=by
 refine ae (n4 (gE (fM g) cM (eT cM (fM g) nu ?_ (ni _))));refine ae (fg rfl (ae (xD g rfl (ae (kN gs rfl Y ?_)))));simp only[bne_self_eq_false,fh,ff];refine ae (K.done _ _ _ _ gs (ae (lT g rfl (by simp) ?_)));refine ae (ae (eS ?_ (by size_fits)));refine ae (fg (by first | rfl | (rfl)) (eS ?_ (by size_fits)));refine ae (wpAny_handled ?_)
 first | rw[hh] | rw[hh]
 refine ae (ar (wpAny_throw ?_));refine ae (ku ⟨_,bo _ rfl,rfl⟩ isSubtype_stop ?_);exact ar (U _ (((eD ..).extBut.push _).push _))
theorem Mt{t:dy}(hh:A.handled=none)(Z:p2≠I)(m:t.fits es.size=true)(K:Asks P w p2 es ep t sl W) :
 WalksS P w A I [I,p2] [I] (λa b=>b=a) es.size (λi v=>W[i]?=some v) (λi s=>s.heap.get? I=some (iZ (iF (sl i:Nat)) i p2 es.size ep)/\s.heap.get? p2=some (bf es ep t)) where
 sub:=λb Y=>by rw[aS.mp Y];exact a7
 grefl:=λ_=>rfl
 gtrans:=λ_ _ _ h1 h2=>h2.trans h1
 frame:=λi s l r st _ hk=>⟨hk I a7 _ st.1,hk p2 (by simp) _ st.2⟩
 item:=λi s Q E hi st U=>by
  have hv:W[i]?=some (W[i]'(by rw[K.len];exact hi)):=aI _;refine next_item st.1 st.2 m K hv λl p j=>U _ _ hv ⟨p,(j.2 p2 Z).trans st.2⟩ ⟨λb o Y e=>(j.2 b (λz=>Y (by simp[z]))).trans e,rfl,rfl,rfl,ax _⟩
 done:=λs Q E st U=>OD hh st.1 st.2 m K λl q=>U _ ⟨λb o Y e=>q b o (λz=>Y (by simp[z])) e,rfl,rfl,rfl,ax _⟩
 self:=λi s Q E st U=>qh (fM st.1) mG (eT mG (fM st.1) yc (by
  exact ar ⟨_,rfl, "set_iterator",_,fM st.1,cM.lookup,U⟩) (yd _))
noncomputable def fH(os:B6):Obj:={ cls:=.type "tuple",dict:=none,data:=.seq (os.map λ(i:Nat)=>iF (i:Nat)).toArray,slots:=#[] }
theorem Mg{t:dy}{os:B6}{e:Int×a0}{p:Nat}{Q:B8->a8->Prop}(g:s.heap.get? I=some (iZ (.ref hi) i p2 es.size ep))(gs:s.heap.get? p2=some (bf es ep t))(Y:s.heap.get? hi=some (fH os))(U:t.fits es.size=true)
 (l:os[i]?=some p) (j:es[p]?=some e) (Z:∀h',h'.get? I=some (iZ (.ref hi) (i+1) p2 es.size ep)->fv I s.heap h'->Q (some e.2) { s with heap:=h' }):cf (bX P w) A (AG (.ref I)) Q E s:=by
 refine ae (n4 (gE (fM g) cM (eT cM (fM g) nu ?_ (ni _))));refine ae (fg rfl (ae (xD g rfl (ae (kN gs rfl U ?_)))));simp only[bne_self_eq_false,fh,ff];refine ae (lS Y rfl ?_);have hx:((os.map λ(i:Nat)=>iF (i:Nat)).toArray)[i]?=some (iF (p:Nat)):=by
  rw[List.getElem?_toArray,a9,l];rfl
 dsimp only
 rw[hx];refine ae (ae (eI gs rfl U ?_));simp only[bne_self_eq_false,fh,ff];rw[j];refine ar (ae (lT g rfl (by simp) (ar ⟨e.2,rfl,ar (Z _ ?_ (eD ..))⟩)));have g2:=ij (zd (·.setIfInBounds 1 (iF (i+1)))) g rfl;exact g2.trans rfl
theorem K1{t:dy}{os:B6}{Q:B8->a8->Prop}(hh:A.handled=none)(g:s.heap.get? I=some (iZ (.ref hi) es.size p2 es.size ep))(gs:s.heap.get? p2=some (bf es ep t))(Y:s.heap.get? hi=some (fH os))(e:t.fits es.size=true)
 (j:os.length=es.size) (Z:∀h',Heap.ExtBut I s.heap h'->Q none { s with heap:=h' }):cf (bX P w) A (AG (.ref I)) Q E s:=by
 refine ae (n4 (gE (fM g) cM (eT cM (fM g) nu ?_ (ni _))));refine ae (fg rfl (ae (xD g rfl (ae (kN gs rfl e ?_)))));simp only[bne_self_eq_false,fh,ff];refine ae (lS Y rfl ?_);have hx:((os.map λ(i:Nat)=>iF (i:Nat)).toArray)[es.size]?=none:=by
  rw[List.getElem?_toArray,a9,dr (by lia)];rfl
 dsimp only
 rw[hx];have U:=Dl (k:=0) (x:=iF 0) g;refine ae (lT g rfl (by simp) (ae (lT U rfl (by simp) ?_)));refine ae (ae (eS ?_ (by size_fits)));refine ae (fg (by first | rfl | (rfl)) (eS ?_ (by size_fits)));refine ae (wpAny_handled ?_)
 first | rw[hh] | rw[hh]
 refine ae (ar (wpAny_throw ?_));refine ae (ku ⟨_,bo _ rfl,rfl⟩ isSubtype_stop ?_);exact ar (Z _ ((((eD ..).trans (eD ..)).extBut.push _).push _))
theorem Jx{t:dy}{os:B6}(hh:A.handled=none)(h1:p2≠I)(h2:j≠I)(r:t.fits es.size=true)(m:os.Perm (c8 es.size)) :
 WalksS P w A I [I,p2,j] [I] (λa b=>b=a) es.size (λi v=>(os.map λp=>(es.getD p (0,.none)).2)[i]?=some v) (λi s=>s.heap.get? I=some (iZ (.ref j) i p2 es.size ep)/\s.heap.get? p2=some (bf es ep t)/\s.heap.get? j=some (fH os)) where
 sub:=λb Y=>by rw[aS.mp Y];exact a7
 grefl:=λ_=>rfl
 gtrans:=λ_ _ _ h1 h2=>h2.trans h1
 frame:=λi s q C st _ hk=>⟨hk I a7 _ st.1,hk p2 (by simp) _ st.2.1,hk j (by simp) _ st.2.2⟩
 item:=λi s Q E hi st U=>by
  have B:os.length=es.size:=by rw[m.length_eq,df]
  have hv:os[i]?=some (os[i]'(by lia)):=aI _;have l:os[i]'(by lia)<es.size:=d6.mp (m.mem_iff.mp (i5 _));have u:=fx l;refine Mg st.1 st.2.1 st.2.2 r hv u λq x Z=>U _ _ ?_ ⟨x,(Z.2 p2 h1).trans st.2.1,(Z.2 j h2).trans st.2.2⟩ ⟨λb o Y e=>(Z.2 b (λz=>Y (by simp[z]))).trans e,rfl,rfl,rfl,ax _⟩;rw[a9,hv];show some (es.getD _ _).2=_;rw[eJ,u];rfl
 done:=λs Q E st U=>K1 hh st.1 st.2.1 st.2.2 r (by rw[m.length_eq,df]) λq y=>U _ ⟨λb o Y e=>y b o (λz=>Y (by simp[z])) e,rfl,rfl,rfl,ax _⟩
 self:=λi s Q E st U=>qh (fM st.1) mG (eT mG (fM st.1) yc (by
  exact ar ⟨_,rfl, "set_iterator",_,fM st.1,cM.lookup,U⟩) (yd _))
theorem LR{os:B6}(U:os.Perm (c8 es.size)):(os.map λp=>(es.getD p (0,.none)).2).Perm (es.toList.map (·.2)):=by
 refine (U.map _).trans (List.Perm.of_eq (sP λi=>?_));rw[a9,a9,eL (xs:=es)]
 by_cases h:i<es.size
 . rw[i7 h,fx h];show some (es.getD i _).2=_;rw[eJ,fx h];rfl
 . rw[dr (by rw[df];lia),AV (by lia)];rfl
structure ZD (P:fF) (w:kn) (s:a8) (S:Addr) (I:Addr) (es:Array (Int×a0)) (s':a8):Prop where
 grown:jX s s'
 new:s.heap.objs.size<=I
 walk:∃(fp:C3) (W:B9) (St:Nat->a8->Prop),W.Perm (es.toList.map (·.2))/\I∈fp/\(∀b∈fp,b=S\/s.heap.objs.size<=b)/\(∀A2:eK,A2.handled=none->WalksS P w A2 I fp [I] (λa b=>b=a) es.size (λi v=>W[i]?=some v) St)/\St 0 s'
theorem RX{t:dy}(gs:s.heap.get? S=some (bf es ep t))(r:dZ P w es t ks)(hz:es.size<=be)
 (O:∀I s',ZD P w s S I es s'->Q (.ref I) s'):cf (bX P w) A (AH (.ref S)) Q E s:=by
 have q:=bg gs;have hT:s.TypeIs (.ref S) "set" := ⟨_,gs,rfl⟩;refine qh hT yg (eT yg hT Mj ?_ (Ma _));refine ae (fg rfl (ae ?_));refine ae (kN gs rfl r.fit (ar (ae ?_)));refine ae (eI gs rfl r.fit (ae (texts_any (ar ?_))));have U:∀(l:Nat->Nat) (W:B9),l 0=0->Asks P w S es ep t l W->W.Perm (es.toList.map (·.2)) ->
  cf (bX P w) A.in1 (pure (iF 0) >>= λfirst=>setEpoch S >>= λe=>newFields "set_iterator" [first,iF 0,.ref S,iF (es.size:Nat),iF (e:Nat)] >>= λv=>ret v) (λfin s'=>∃v,fin= .done (.ret v)/\∃L r,s'.TypeIs v L/\AM (.type L) "__next__"= pure (some r)/\Q v s') E s:=λl W M K u=>by
  refine ae (ar (ae (nN gs rfl r.fit (ae (eS (ar ?_) (by size_fits))))));have Z:(s.heap.push (iZ (iF (l 0:Nat)) 0 S es.size ep)).get? s.heap.objs.size=some (iZ (iF (l 0:Nat)) 0 S es.size ep):=bo _ rfl;rw[M] at Z;refine ⟨_,rfl, "set_iterator",_,⟨_,Z,rfl⟩,cM.lookup,O _ _ ⟨⟨λb o e=>av _ e,rfl,rfl⟩,ax _,[s.heap.objs.size,S],W,_,u,by simp,λb H=>?_,λA2 h2=>Mt h2 (cS q) r.fit K,?_,av _ gs⟩⟩
  . rcases bq.mp H with z | z
    . exact .inr (by rw[z];exact ax _)
    . exact .inl (aS.mp z)
  . rw[M];exact Z
 have bnd:∀{α β J:Type}{m:Sem α}{f:α->Sem β}{k:β->Sem J}{R:J->a8->Prop}{s1:a8},cf (bX P w) A.in1 (m >>= λa=>f a >>= k) R E s1->cf (bX P w) A.in1 ((m >>= f) >>= k) R E s1:=λh=>by rw[bind_assoc];exact h
 by_cases C:w.params.followText "set-order"= true
 . rw[show (bX P w).w.params.followText "set-order"= true from C];simp only[Bool.not_true,Bool.false_and,fh,if_false];have:=U (λ_=>0) _ rfl (Ot r.fit C) ((wO _ es).map _);simpa only[pure_bind,bind_assoc] using this
 . have j:=by simpa using C
   rw[show (bX P w).w.params.followText "set-order"= false from j];show cf _ _ (if (!t.plain&&decide (es.size > 1))=true then _ else _) _ _ _
   by_cases hd:(!t.plain&&decide (es.size > 1))=true
   . rw[hd];refine ae (yt es.size _ _ (df ..) λos s1 u h1 h2 h3 h4=>ae ?_);have hl:os.length=es.size:=by rw[u.length_eq,df]
     refine eS ?_ ?_
     . have y:s1.heap.get? S=some (bf es ep t):=by rw[h1];exact gs
       have x:(s1.heap.push (fH os)).get? S=some (bf es ep t):=av _ y;have B:(s1.heap.push (fH os)).get? s1.heap.objs.size=some (fH os):=bo _ rfl;refine ae (nN (s:={ s1 with heap:=s1.heap.push (fH os) }) x rfl r.fit (ae (eS (ar ?_) (by size_fits))));have Z:((s1.heap.push (fH os)).push (iZ (.ref s1.heap.objs.size) 0 S es.size ep)).get? (s1.heap.push (fH os)).objs.size=some (iZ (.ref s1.heap.objs.size) 0 S es.size ep):=bo _ rfl;have Y:(s1.heap.push (fH os)).objs.size=s.heap.objs.size+1:=by rw[jS,h1]
       refine ⟨_,rfl, "set_iterator",_,⟨_,Z,rfl⟩,cM.lookup,O _ _ ⟨⟨λb o e=>?_,h2,h3⟩,?_,[(s1.heap.push (fH os)).objs.size,S,s1.heap.objs.size],_,_,LR u,by simp,λb H=>?_,λA2 D=>Jx D ?_ ?_ r.fit u,Z,av _ x,av _ B⟩⟩
       . refine av _ (av _ ?_);show s1.heap.get? b=some o;rw[h1];exact e
       . rw[Y];exact ot _
       . rcases bq.mp H with z | z
         . exact .inr (by rw[z,Y];exact ot _)
         . rcases bq.mp z with z | z
           . exact .inl z
           . exact .inr (by rw[aS.mp z,h1];exact ax _)
       . rw[Y];exact cS (qc q)
       . rw[Y,h1];exact cS (mP _)
     . show ((os.map λ(i:Nat)=>iF (i:Nat)).toArray).size<=be;rw[br,ai,hl];exact hz
   . have p:(!t.plain&&decide (es.size > 1))=false:=by simpa using hd
     rw[p];simp only[fh,if_false];have:=U (placeAt t) _ rfl (Mm r.fit j r.tab p) (.refl _);simpa only[pure_bind,bind_assoc] using this
theorem RN{Q:Bool->a8->Prop}(hT:s.TypeIs (.ref S) "set")(h:Q false s):cf (bX P w) A (Builtin.List.listLengthHint (.ref S)) Q E s:=by
 refine ae (pb hT F.slot_set_len.lookup ?_);generalize U : "set.__len__"= id0
 wp_delta
 rw[show splitId id0=some ("set", "__len__") by subst U;decide +kernel];subst U;refine ae (ku hT wt (nr (λz=>absurd z (by decide)) (λ_=>nr (λ_=>?_) (λz=>absurd (by decide +kernel) z))));exact ae (oB hT (ar h))
theorem HS{t:dy}(r:dZ P w es t ks)(U:W.Perm (es.toList.map (·.2))):oa W (W.map gC)/\(W.map gC).Perm ks:=by
 refine ⟨?_,(U.map gC).trans (by rw[eh];exact r.pm)⟩;have:∀v∈W,∃k tk,v= .int k tk:=λv hv=>by
  obtain ⟨e,Z,rfl⟩:=bt.mp (U.mem_iff.mp hv);obtain ⟨k,tk,rfl⟩:=r.shape Z;exact ⟨k,tk,rfl⟩
 clear U
 induction W with
 | nil=>exact .nil
 | cons v W Y=>
  obtain ⟨k,tk,rfl⟩:=this v a7;exact .cons k tk (Y λv hv=>this v (a6 _ hv))
theorem JD{Q:B9->a8->Prop}(hh:A.handled=none)(x:bL P w s.heap S ks)(hz:ks.length<4000)
 (hQ:∀vs ns s',jX s s'->oa vs ns->ns.Perm ks->Q vs s'):cf (bX P w) A (collect (.ref S)) Q E s:=by
 obtain ⟨y,ep,t,gs,r⟩:=x;have hn:y.size<=be:=lE (by rw[r.size];exact hz);have u:=bg gs;refine ae (wpAny_runValue (i3 F.entry_proto_collect ?_));rw[gc F.plain_proto_collect _];refine ae (eS (ar ⟨kA F.plain_list_iadd _,i3 F.entry_list_iadd ?_⟩));rw[gc F.plain_list_iadd _];show cf _ A.in1 (Builtin.List.listExtendWith (.ref s.heap.objs.size) (.ref S) (.ref s.heap.objs.size)) _ _ _;have l:(s.heap.push { cls:=.type "list",data:=.seq ([]:B9).toArray }).get? S=some (bf y ep t):=av _ gs;refine ae (oB ⟨_,l,rfl⟩ ?_);have c1:rq (.ref s.heap.objs.size) (.ref S)=false:=by simp[rq];exact ny u
 have c2:(iN "set" == iN "list")=false:=by decide
 have c3:(iN "set" == iN "tuple")=false:=by decide
 simp only[c1,c2,zi,if_false];refine ae (RX l r hn λI s2 it=>?_);obtain ⟨B,hI,fp,W,St,hp,hIf,D,walk,st⟩:=it;have M:=B.heap _ _ l;refine ae (ft (RN ⟨_,M,rfl⟩ ?_));have C:=B.heap _ _ (bo _ rfl);have j:s.heap.objs.size∉fp:=λz=>by
  rcases D _ z with e | e
  . exact absurd e (ny u)
  . rw[jS] at e;exact absurd e (Nat.not_succ_le_self _)
 have L:A.in1.handled=none:=by simp[hh]
 have go:∀(s3:a8) (c:Nat),St 0 s3->jX s s3->s3.heap.get? s.heap.objs.size=some { cls:=.type "list",dict:=none,data:=.seq #[] c,slots:=#[] } ->
  sC (bX P w) A (.builtin "list.extend.loop" ⟨[.ref s.heap.objs.size,.ref I,.ref s.heap.objs.size],[]⟩) (λr s'=>match r with | .ok (.ret v)=>cf (bX P w) A (match v with | .ref a=>load a >>= λo=>(match o.data with | .seq items _=>pure items.toList | _=>yv "internal:collect") | _=>yv "internal:collect") Q E s' | .ok _=>False | .error e=>E e s') s3:=λs3 c O m J=>by
  refine codeAny_extend_loopS (walk _ L) hn s.heap.objs.size j _ y.size 0 _ #[] c (by lia) (f7 _) O J (ItemsOf.nil _) λs' p c' H o' U=>ae (wpAny_load o' (ar ?_));have eW:p.toList=W:=sP λi=>by
   have hWl:W.length=y.size:=by rw[hp.length_eq,ai,cx]
   by_cases hi:i<y.size
   . have ha:p[i]?=some (p[i]'(by rw[U.1];exact hi)):=fx _;rw[eL,ha,U.2 i _ ha]
   . rw[dr (by rw[cx,U.1];lia),dr (by lia)]
  obtain ⟨i1,i2⟩:=HS r hp;refine hQ _ _ s' ⟨λb o e=>H.heap b o (λz=>?_) (m.heap b o e),H.gens.trans m.gens,H.os.trans m.os⟩ (by rw[eW];exact i1) i2;have Z:=bg e;rcases bq.mp z with z | z
  . exact absurd z (cS Z)
  . rw[aS.mp z] at Z;rw[jS] at hI;exact absurd (cK Z (yB hI)) (fo _)
 have Y:jX s s2:=⟨λb o e=>B.heap b o (av _ e),B.gens,B.os⟩;refine nr (λ_=>?_) (λ_=>ar ⟨kA F.plain_extend_loop _,go _ 0 st Y C⟩);refine ae (ki (ae (ae (pd C rfl ?_))));have R:=ij (mT (·.push a0.none)) C rfl;refine pd R rfl ?_;have J:=ij (mT (·.pop)) R rfl;have q:∀b o,b≠s.heap.objs.size->s2.heap.get? b=some o->((s2.heap.update s.heap.objs.size (mT (·.push a0.none))).update s.heap.objs.size (mT (·.pop))).get? b=some o:=
  λb o Z e=>(mB _ _ (mu Z)).trans ((mB _ _ (mu Z)).trans e)
 refine ar ⟨kA F.plain_extend_loop _,go _ _ ((walk A hh).frame 0 s2 _ s2.toks st (ax _) λb Z o e=>q b o (λz=>j (z ▸ Z)) e) ⟨λb o e=>q b o (cS (bg e)) (Y.heap b o e),Y.gens,Y.os⟩ J⟩
end
section
variable     {s':a8}
theorem Cs.grown(I:Cs X BY σ H s)(g:jX s s'):Cs X BY σ H s':=by
 have J:Cs X BY σ H { s with heap:=s'.heap,toks:=s'.toks }:=I.kept g.heap;exact ⟨J.ok,g.os.trans J.os,by rw[g.gens];exact J.bare,J.base,J.loc,J.cell,J.free,J.fY,J.pin,J.CH,J.len⟩
def PSt(X:Cx)(e:Expr)(t:St->Hp->(B4->Hp->Prop)->Prop):Prop:=
 ∀(BY:A6) (s:a8) (σ:St) (H:Hp) (Q:B4->Hp->Prop),Cs X BY σ H s->t σ H Q ->
  cf (bX X.prog X.w) X.A (eval e X.env) (λv s1=>∃S ks H1,v= .ref S/\bL X.prog X.w s1.heap S ks/\oK X BY H1 S/\Cs X BY σ H1 s1/\Q ks H1) X.xe s
variable  {ta:TA}{p:Pos}
def acY(K:aE)(ta:TA):St->Hp->(B4->Hp->Prop)->Prop:=λσ H Q=>ta σ H λvs H1=>∃q ns,vs=[.ref q]/\(SqL K H1 q (ns.map V.int)\/SqT K H1 q (ns.map V.int))/\(ddl ns).length+1<4000/\Q (ddl ns) H1
theorem boot_set:fq "set"= some (.type "set"):=by decide +kernel
theorem Bl(C:X.calm=true)(D:Gl X "set")(M:X.mg "set"= none)(ha:PA X [e] ta)(hs:dk [e] X.env=[(false,eval e X.env)]:=by rfl):PSt X (.Call (.Name "set" p) [e] [] pos) (acY X.K ta):=by
 intro U s z H Q I h;refine Call_ (kJ I D M boot_set (iq (thn (ha pos U s z H _ I h) λP s1 j=>?_) hs rfl));obtain ⟨R,J,Z,E,q1⟩:=j;obtain ⟨l,O,rfl,hq,B,q⟩:=q1;obtain ⟨u,rfl,L⟩:=vals1 E;cases L;have fin:∀(Y:Heap) (i:Nat),bL X.prog X.w Y s1.heap.objs.size (ddl O)->(∀b o,s1.heap.get? b=some o->Y.get? b=some o)->∃S y H2,gX s1.heap.objs.size= .ref S/\bL X.prog X.w Y S y/\oK X U H2 S/\Cs X U z H2 { s1 with heap:=Y,toks:=i }/\Q y H2:=λY i x k=>
  ⟨_,_,J,rfl,x,Z.p8 (ax _) (Z.CH.fresh (ax _)),Z.kept k,q⟩
 rcases hq with hq | hq
 . obtain ⟨v,m,r,hz⟩:=Z.list hq;exact Ft (Z.ok.hd C) (pY.list r.isList (by simpa using intsAre_of m)) B λY i x k=>fin Y i x k
 . obtain ⟨v,m,r,hz⟩:=Z.tuple hq;exact Ft (Z.ok.hd C) (pY.tuple (r) (by simpa using intsAre_of m)) B λY i x k=>fin Y i x k
def acK(t:St->Hp->(B4->Hp->Prop)->Prop):TE:=λσ H Q=>t σ H λks H1=>ks.length<3000/\∀l,H1 l=none->Q (.ref l) (CB H1 l (.lst ((Zq.srt ks).map V.int)))
theorem boot_sorted:fq "sorted"= some (.builtin "sorted"):=by decide +kernel
theorem Xh{Q:VK}(L:X.calm=true)(I:Cs X BY σ H s)(x:bL X.prog X.w s.heap S ks)(Y:ks.length<3000)(q:∀l,H l=none->Q (.ref l) (CB H l (.lst ((Zq.srt ks).map V.int)))) :
 cf (bX X.prog X.w) X.A (call (.builtin "sorted") [.ref S]) (λv s1=>∃y H1,Cs X BY σ H1 s1/\Ct y v/\Q y H1) X.xe s:=by
 refine (Calls.call_function_entry kind_sorted plain_sorted entry_sorted (args_sorted1 _) ?_);unfold Builtin.«sorted»;refine ae (ar (ae (JD (by simp[I.ok.hd L]) x (by lia) λZ M i D p u=>?_)));have B:Z.length=ks.length:=by rw[xU p,u.length_eq]
 have m:=I.grown D;have U:(i.heap.push (pV "list" Z.toArray 0)).get? i.heap.objs.size=some (pV "list" Z.toArray 0):=bo _ rfl;refine ae (y9 (ae (ft (eT slot_list_sort ⟨_,U,rfl⟩ entry_list_sort (Cj U p (fe (cK (show _<3000 by lia) (by decide))) λout E z C J=>⟨_,rfl,ar ⟨_,rfl,?_⟩⟩) (args_list_sort _)))) (by rw[B];exact fe (nz Y (by decide))));have e:=Zq.kj ((C.trans u).trans (Zq.dX ks).symm) J (Zq.gR ks);subst e;obtain ⟨c,j⟩:=sortedHeap_at U;refine ⟨.ref i.heap.objs.size,_,m.laid (λb o e=>?_) (ax _) ?_,rfl,q _ (m.CH.fresh (ax _))⟩
 . have r:=bg e;rw[sortedHeap_old (cS r) (by rw[size_push'];exact qc r)];exact av _ e
 . refine ⟨?_,out.toList,c,Zq.qw z,by simpa[pV] using j⟩;rw[ai,(Zq.dX ks).length_eq];exact fe (nz Y (by decide))
theorem Pa{t:St->Hp->(B4->Hp->Prop)->Prop}(r:X.calm=true)(i:Gl X "sorted")(l:X.mg "sorted"= none)(Y:PSt X e t)(hs:dk [e] X.env=[(false,eval e X.env)]:=by rfl):PE X (.Call (.Name "sorted" p) [e] [] pos) (acK t):=by
 intro U s m H Q I h;refine k6 (kJ I i l boot_sorted (ub ?_ hs rfl));rw[hs];refine kX (thn (Y U s m H _ I h) λv s1 ⟨S,y,u,j,x,_,o,Z,q⟩=>qa ?_);subst j;exact Xh r o x Z q
end
noncomputable def jo:af->Option B4
 | .list es=>intsOf es
 | .tuple es=>intsOf es
 | _=>none
noncomputable def j0:B5->Co af
 | [d]=>match jo d with
  | some ns=>gd ((ddl ns).length<3000) (.ok (.list ((srt (ddl ns)).map af.int)))
  | none=>.bad
 | _=>.bad
section
variable     {p p2 pos2:Pos}
theorem tX(h:jo d=some ns)(ha:aA A H)(Z:Pk K A H d v):∃q,v= .ref q/\(SqL K H q (ns.map V.int)\/SqT K H q (ns.map V.int)):=by
 cases d with
 | list e=>
  have Y:=h;have:=nR Y;subst this;obtain ⟨l,i,rfl,h1,q1⟩:=Z.list ha;have U:=q1.Lj;subst U;exact ⟨l,rfl,.inl h1⟩
 | tuple e=>
  have Y:=h;have:=nR Y;subst this;obtain ⟨l,i,rfl,h2,h1⟩:=Z.lJ (H:=H);have U:=h2.Lj;subst U;exact ⟨l,rfl,.inr (h1 H ha)⟩
 | _=>cases h
theorem wy(y:X.calm=true)(z:Gl X "sorted")(J:X.mg "sorted"= none)(s:Gl X "set")(j:X.mg "set"= none)(ha:QE X e (tP X.K O m))(hs:CO e=true:=by rfl) :
 QE X (.Call (.Name "sorted" p) [.Call (.Name "set" p2) [e] [] pos2] [] pos) (tF X.K O (eFn j0 [m])):=
 QE.imp (Pa y z J (Bl y s j (cC ha.h eO (bM hs)) (bM hs))) λR H Q Z=>by
  obtain ⟨A,B,M,d,r,em,k⟩:=Z;obtain ⟨S,Y,em⟩:=Co.aq em;obtain ⟨o,I,Y⟩:=Co.aq Y;obtain ⟨_,C,Y⟩:=Co.aq Y;cases C;cases Y;have em:(match jo o with | some i=>gd ((ddl i).length<3000) (.ok (.list ((srt (ddl i)).map af.int))) | none=>.bad)=Co.ok d:=em
  cases x:jo o with
  | none=>rw[x] at em;cases em
  | some i=>
   rw[x] at em;obtain ⟨hz,em⟩:=bZ em;cases em;refine ⟨A,B,M,o,r,I,λv D P U E=>?_⟩;obtain ⟨q,rfl,L⟩:=tX x U.ah E;refine ⟨q,i,rfl,L,by lia,hz,λl u=>k _ D _ (U.trans (aO.lay U.ah u)) ⟨l,_,rfl,U.hh.free u,bc,U.ah.free u,.inl ⟨_,_,rfl,rfl,au.ints⟩⟩⟩
end
variable {others:C3}{ko:B4}{nm:String}
section
variable   {A:eK}
theorem bL.setOf(x:bL P w h p ks)(Y:ks.length<4000):h.SetOf (rV P w) p (λk=>decide (k∈ks)) ks.length:=by
 obtain ⟨U,ep,t,g,r⟩:=x;exact ⟨_,U,ep,t,g,⟨rfl,rfl,rfl⟩,rfl,r.el,λk=>by rw[decide_eq_true_iff];exact r.mem,by rw[scanBound,r.size];lia,r.fit,r.size⟩
theorem Ae(h:Q (.ref s.heap.objs.size) { s with heap:=s.heap.push (bf #[] 0 (.fresh 0 0 (cN w))) }):cf (bX P w) A (newSet (.type "set")) Q E s:=by
 exact ae (texts_any (ae (wpAny_alloc (ar h))))
theorem Ib{t:dy}{Q:Array (Int×a0)->a8->Prop}(g:s.heap.get? p=some (bf es ep t))(r:dZ P w es t ks)
 (Z:∀W s',W.toList.Perm es.toList->s'.heap=s.heap->s'.gens=s.gens->s'.os=s.os->s'.toks=s.toks->Q W s'):cf (bX P w) A (setWalk p) Q E s:=by
 refine ae (eI g rfl r.fit (ae (texts_any ?_)))
 by_cases e:w.params.followText "set-order"= true
 . rw[show (bX P w).w.params.followText "set-order"= true from e];exact ae (va (ar (Z _ s (wO _ es) rfl rfl rfl rfl)))
 . have U:=by simpa using e
   have Y:t.led=true:=by rw[r.tab.led];rw[cN,U];rfl
   rw[show (bX P w).w.params.followText "set-order"= false from U];show cf _ _ (if (!t.plain&&decide (es.size > 1))=true then _ else _) _ _ _;refine nr (λ_=>?_) (λ_=>?_)
   . exact ae (yt es.size _ _ (by rw[cx]) λm s' l h1 h2 i j=>ar (Z _ s' l h1 h2 i j))
   . refine ae ?_;show cf _ _ (if (!t.led&&decide (es.size > 1))=true then _ else _) _ _ _;rw[Y];exact ar (ar (Z _ s (.refl _) rfl rfl rfl rfl))
theorem sS{o U:Type}{f:o->U->Sem (ForInStep U)}{Q:U->a8->Prop}:∀(l:List o) (I:Nat->U->a8->Prop) (b:U) (s:a8),I 0 b s ->
 (∀(i:Nat) (x:o) (b:U) (s:a8),l[i]?=some x->I i b s->cf M A (f x b) (λr s'=>∃Z,r= .yield Z/\I (i+1) Z s') E s)->(∀b s,I l.length b s->Q b s)->cf M A (forIn l b f) Q E s
 | [],I,b,s,m,_,j=>by
  rw[List.forIn_nil];exact ar (j b s m)
 | x::l,I,b,s,m,p,j=>by
  rw[kP];refine ae (eR (p 0 x b s rfl m) (λr s' Y=>?_) λ_ _ z=>z);obtain ⟨Z,e,h1⟩:=Y;subst e;exact sS l (λi=>I (i+1)) Z s' h1 (λi y b s hy hi=>p (i+1) y b s (by simpa using hy) hi) λb s h=>j b s (by rw[ba];exact h)
theorem Di{Q:Bool->a8->Prop}(h:∀a∈as,∃ks,bL P w s.heap a ks)(l:Q true s):cf (bX P w) A (setsQuiet as) Q E s:=by
 refine ae (sS as (λ_ b U=>b=(none,())/\U=s) _ _ ⟨rfl,rfl⟩ (λi a b U ha hi=>?_) λb U ⟨Y,Z⟩=>?_)
 . obtain ⟨rfl,rfl⟩:=hi;obtain ⟨ks,m,ep,t,g,r⟩:=h a (d4 ha);refine ae (kN g rfl r.fit (ae ?_));rw[<- xE];refine sS m.toList (λ_ b e=>b=(none,())/\e=U) _ _ ⟨rfl,rfl⟩ (λj x b e hx hj=>?_) λb e ⟨Y,Z⟩=>?_
   . obtain ⟨rfl,rfl⟩:=hj;obtain ⟨k,o,rfl⟩:=r.shape (d4 hx);exact ar ⟨_,rfl,rfl,rfl⟩
   . subst Y Z;exact ar ⟨_,rfl,rfl,rfl⟩
 . subst Y Z;exact ar l
theorem M7{f:Addr}{t:dy}{i:B4}{U:C5}{Q:Array (Int×a0)->a8->Prop}(g:s.heap.get? p=some (bf es ep t))(r:dZ P w es t ks)(u:∀b∈others,∃ks,bL P w s.heap b ks)
 (x:U=some f\/U=none) (j:bL P w s.heap f i) (B:i.length<4000)
 (e:∀W s',W.toList.Perm es.toList->fv f s.heap s'.heap->bL P w s'.heap f i->s'.gens=s.gens->s'.os=s.os->s'.toks=s.toks->Q W s'):cf (bX P w) A (setWalkUnseen p others U) Q E s:=by
 have l:∀{m:Array (Int×a0)->a8->Prop},(∀W s',W.toList.Perm es.toList->fv f s.heap s'.heap->bL P w s'.heap f i->s'.gens=s.gens->s'.os=s.os->s'.toks=s.toks->m W s')->cf (bX P w) A (setWalk p) m E s:=λv=>Ib g r λW s' I h1 h2 C y=>v W s' I (by rw[h1];exact fv.refl _ _) (by rw[h1];exact j) h2 C y;refine ae (eI g rfl r.fit (ae (texts_any ?_)));refine nr (λ_=>l e) (λ_=>ae (Di (λb H=>?_) ?_))
 . rcases bq.mp H with z | z
   . exact ⟨ks,by rw[z];exact ⟨es,ep,t,g,r⟩⟩
   . exact u b z
 refine ae (ki ?_);rcases x with rfl | rfl
 . obtain ⟨o,D,q,Z,Y⟩:=j;refine ae (eI Z rfl Y.fit (nr (λ_=>?_) (λ_=>ar (e _ s (.refl _) (fv.refl _ _) ⟨o,D,q,Z,Y⟩ rfl rfl rfl))));refine ae (nL Z rfl ?_ (lE (by rw[Y.size];exact B)));refine ar (e _ _ (.refl _) (eD ..) ⟨_,_,_,pD Z,Y.el,⟨Y.tab.up,?_⟩,Y.fit,Y.pm⟩ rfl rfl rfl);rw[Y.tab.led,r.tab.led,BF]
 . exact ar (e _ s (.refl _) (fv.refl _ _) j rfl rfl rfl)
theorem tL{Q:Bool->a8->Prop}(hT:s.TypeIs (.ref S) "set")(h:Q true s):cf M A (Builtin.Frozenset.isAnySet (.ref S)) Q E s:=by
 exact ae (ku hT wt (ar h))
theorem Hm(hT:s.TypeIs (.ref S) "set")(h:Q (.type "set") s):cf M A (Builtin.Frozenset.baseOf S) Q E s:=by
 exact ae (ku hT wt (ar h))
theorem mR{Q:Nat->a8->Prop}(x:bL P w s.heap S ks)(h:Q ks.length s):cf (bX P w) A (Builtin.Frozenset.sizeOf S) Q E s:=by
 obtain ⟨U,ep,t,g,r⟩:=x;exact ae (kN g rfl r.fit (ar (by rw[r.size];exact h)))
noncomputable def bR(ks ko:B4):B4:=ks.filter λk=>!decide (k∈ko)
theorem Vh(x:bL P w s.heap S ks)(I:bL P w s.heap p ko)(hn:ks.Nodup)(hb:ks.length<3000)(hbo:ko.length<3000)(hne:S≠p)(O:ks.length / 4<=ko.length)
 (hQ:∀s' kr,jX s s'->bL P w s'.heap s.heap.objs.size kr->kr.Perm (bR ks ko)->Q (.ref s.heap.objs.size) s'):cf (bX P w) A (md nm S (.ref p)) Q E s:=by
 unfold md
 dsimp only
 refine ae (tL I.typeIs (ae (fg rfl (ae (mR I (ae (mR x ?_)))))));rw[if_neg (by lia)];refine ae (Hm x.typeIs (ae (Ae (ae (fg rfl ?_)))));obtain ⟨es,ep,t,g,r⟩:=id x;have hS:=bg g;have hO:p<s.heap.objs.size:=by obtain ⟨_,_,_,go,_⟩:=id I;exact bg go
 have g1:(s.heap.push (bf #[] 0 (.fresh 0 0 (cN w)))).get? S=some (bf es ep t):=av _ g;have D:bL P w (s.heap.push (bf #[] 0 (.fresh 0 0 (cN w)))) p ko:=I.at λo e=>av _ e;have H:bL P w (s.heap.push (bf #[] 0 (.fresh 0 0 (cN w)))) s.heap.objs.size []:=⟨_,_,_,bo _ rfl,Ca⟩;refine ae (nN (s:={ s with heap:=_ }) g1 rfl r.fit (ae (ft (ae (M7 (s:={ s with heap:=_ }) g1 r (λb hb=>?_) (.inl rfl) H (by simp) λW s1 hp sb xr h2 h3 h4=>?_)))))
 . rcases bq.mp hb with z | z
   . exact ⟨ko,by rw[z];exact D⟩
   . exact ⟨[],by rw[aS.mp z];exact H⟩
 have hW:∀e∈W.toList,∃k tk,e=(rS k,.int k tk):=λe v=>r.shape (hp.mem_iff.mp v);have q:(W.toList.map λe=>gC e.2).Perm ks:=(hp.map _).trans r.pm;have M:(W.toList.map λe=>gC e.2).Nodup:=q.nodup_iff.mpr hn;have hWl:W.toList.length=ks.length:=by have:=q.length_eq;rw[ai] at this;exact this
 refine ae ?_;rw[<- xE];refine sS W.toList (λi _ Y=>fv s.heap.objs.size (s.heap.push (bf #[] 0 (.fresh 0 0 (cN w)))) Y.heap/\bL P w Y.heap s.heap.objs.size (bR ((W.toList.map λe=>gC e.2).take i) ko)/\Y.gens=s.gens/\Y.os=s.os) _ _ ⟨sb,xr,h2,h3⟩ (λi e b Y v hi=>?_) λb Y ⟨U,Z,q2,q3⟩=>?_
 . obtain ⟨U,Z,q2,q3⟩:=hi;obtain ⟨k,tk,rfl⟩:=hW e (d4 v);have J:bL P w Y.heap p ko:=D.at λo e=>(U.2 p (cS hO)).trans e;have g2:Y.heap.get? S=some (bf es ep t):=(U.2 S (cS hS)).trans g1;have u:i<W.toList.length:=(bE.mp v).1;have et:bR ((W.toList.map λe=>gC e.2).take (i+1)) ko=bR ((W.toList.map λe=>gC e.2).take i) ko++(if k∈ko then [] else [k]):=by
    rw[bR,kG,a9,v,sg];congr 1;show List.filter _ [k]=_
    by_cases hk:k∈ko
    . rw[if_pos hk,fI (by simp[hk])];rfl
    . rw[if_neg hk,iL (by simp[hk])];rfl
   have m:∀(s3:a8) {R:ForInStep PUnit->a8->Prop},s3.heap.get? S=some (bf es ep t)->R (.yield xy) s3->cf (bX P w) A (Builtin.Frozenset.unchanged nm S ep >>= λ_=>pure (.yield xy)) R E s3:=λs3 R g3 hR=>by
    unfold Builtin.Frozenset.unchanged;refine ae (ae (nN g3 rfl r.fit ?_));simp only[bne_self_eq_false,fh,if_false];exact ar (ar hR)
   refine ae (ft (ae (wpAny_setFind_of (knd:=rV P w) (k:=k) (xC ..) rfl (J.setOf (by lia)) λrr y=>ae (ar ?_))))
   by_cases hk:k∈ko
   . have:rr.isSome=true:=by rw[y];exact decide_eq_true hk
     rw[this];simp only[fh,if_false];refine ar (m Y g2 ⟨_,rfl,U,?_,q2,q3⟩);rw[et,if_pos hk,cy];exact Z
   . have:rr.isSome=false:=by rw[y];exact decide_eq_false hk
     rw[this];simp only[if_true];have C:k∉bR ((W.toList.map λe=>gC e.2).take i) ko:=λL=>by
      have L:=(gy.mp L).1;obtain ⟨j,hj,ej⟩:=dS.mp L;rw[c6,ai] at hj;have e1:(W.toList.map λe=>gC e.2)[i]'(by rw[ai];exact u)=k:=by
       have:=a9 (f:=λe:Int×a0=>gC e.2) (l:=W.toList) (i:=i);rw[v,aI (by rw[ai];exact u)] at this;exact Option.some.inj this
      rw[nK] at ej;have:=(g7.mp M) j i (by rw[ai];lia) (by rw[ai];exact u) (by lia);rw[ej,e1] at this;exact this rfl
     have hle:(bR ((W.toList.map λe=>gC e.2).take i) ko).length<=ks.length:=by
      refine c5 (kR _ _) ?_;rw[c6,ai,hWl];lia
     refine ae (add_int Z (by lia) λh' B x3=>ar ?_);rw[if_neg C] at x3;refine m _ ((B.2 S (cS hS)).trans g2) ⟨_,rfl,U.trans B,?_,q2,q3⟩;rw[et,if_neg hk];exact x3
 . refine ar (ar (hQ Y _ ⟨λb o e=>(U.2 b (cS (bg e))).trans (av _ e),q2,q3⟩ Z ?_));rw[eg (by rw[ai];exact ax _)];exact q.filter _
end
theorem Hs{n:Nat}:∀fuel size,n<size*2^fuel->n<kT n fuel size/\kT n fuel size<=max size (2*n)
 | 0,size,h=>by unfold kT;lia
 | fuel+1,size,h=>by
  unfold kT
  by_cases U:size<=n
  . rw[if_pos U];have:=Hs fuel (size*2) (by rw[iE] at h;rw[pz,oC 2];exact h);lia
  . rw[if_neg U];lia
theorem Rz{n:Nat}(h:n<100000):n<lj n/\lj n<=max 8 (2*n):=Hs 64 8 (by lia)
theorem Ai{n:Nat}:∀fuel k,∃Y,kT n fuel (2^k)=2^Y
 | 0,k=>⟨k,by rfl⟩
 | fuel+1,k=>by
  unfold kT
  by_cases U:2^k<=n
  . rw[if_pos U,<- iE];exact Ai fuel (k+1)
  . rw[if_neg U];exact ⟨k,rfl⟩
theorem Rj(n:Nat):∃k,lj n=2^k:=Ai 64 3
section
variable   {A:eK}
structure Kw (P:fF) (w:kn) (es:Array (Int×a0)) (t:dy) (ks:B4) (d m:Nat):Prop where
 rec_:dZ P w es t ks
 few:t.dummies.size<=d
 room:m<=t.mask
def pQ(P:fF)(w:kn)(h:Heap)(a:Addr)(ks:B4)(d m:Nat):Prop:=∃es ep t,h.get? a=some (bf es ep t)/\Kw P w es t ks d m
theorem pQ.setAt{m:Nat}(x:pQ P w h p ks i m):bL P w h p ks:=by
 obtain ⟨U,ep,t,g,r⟩:=x;exact ⟨U,ep,t,g,r.rec_⟩
theorem Rg(mask finger moves:Nat)(led plain:Bool):dy.laid mask finger moves led plain #[]=some ({ mask,place:=#[],dummies:=#[],finger,led,moves,plain },#[]):=by
 have h1:gL mask #[]=some (AZ (mask+1) none):=rfl;have hz:((c8 (mask+1)).filterMap λj=>((AZ (mask+1) (none:Option Nat)).getD j none).map (j,·))=[]:=by
  rw[List.filterMap_eq_nil_iff];intro j hj;rw[eJ,rl,if_pos (d6.mp hj)];rfl
 rw[dy.laid,h1];show some (_,_)=_;rw[hz];rfl
theorem RJ(x:bL P w s.heap S ks)(hn:ks.Nodup)(M:5<=ks.length)(O:ks.length<3000)
 (L:∀s',jX s s'->pQ P w s'.heap s.heap.objs.size ks 0 (2*ks.length)->s'.heap.objs.size=s.heap.objs.size+1->Q (.ref s.heap.objs.size) s'):cf (bX P w) A (Builtin.Frozenset.copyOf S) Q E s:=by
 have hT:=x.typeIs;obtain ⟨Y,ep,t,g,r⟩:=x;have H:=bg g;have sz:=r.size;refine ae (Hm hT (ae (Ae (ae (fg rfl (ae ?_))))));have J:(s.heap.push (bf #[] 0 (.fresh 0 0 (cN w)))).get? S=some (bf Y ep t):=av _ g;have m:(s.heap.push (bf #[] 0 (.fresh 0 0 (cN w)))).get? s.heap.objs.size=some (bf #[] 0 (.fresh 0 0 (cN w))):=bo _ rfl;rw[setMerge,beq_false_of_ne (ny H)];refine ae (eI J rfl r.fit ?_)
 dsimp only
 rw[show Y.isEmpty=false from by rw[Array.isEmpty_eq_false_iff];intro z;rw[z] at sz;simp at sz;lia];have I:=Rz (n:=Y.size*2) (by lia);refine ae (ae (eI m rfl rfl ?_));rw[show (dy.fresh 0 0 (cN w)).roomFor Y.size=some (Y.size*2) from by
  unfold SetTable.roomFor pE dy.fresh;simp only[br,fT,nI];rw[if_pos (by lia)]]
 unfold setRelay;refine ae (eI m rfl rfl ?_)
 dsimp only
 rw[if_neg (by
  have:be=be:=rfl;have h1:12000<=be:=by decide
  lia)]
 refine ae ?_;rw[show (dy.fresh 0 0 (cN w)).relaid (Array.map (λx=>x.fst) (#[]:Array (Int×a0))) (Y.size*2)=some ({ mask:=lj (Y.size*2) - 1,place:=#[],dummies:=#[],finger:=0,led:=cN w,moves:=(dy.fresh 0 0 (cN w)).movedTo (lj (Y.size*2) - 1),plain:=true },#[]) from by rw[Array.map_empty];exact Rg ..];generalize D:(dy.fresh 0 0 (cN w)).movedTo (lj (Y.size*2) - 1)=mv;refine ar (nL m rfl ?_ (f7 _));generalize R:lj (Y.size*2) - 1=mask;have g2:=pD (es':=#[]) (t':={ mask,place:=#[],dummies:=#[],finger:=0,led:=cN w,moves:=mv,plain:=true }) m;have j:ro { mask,place:=#[],dummies:=#[],finger:=0,led:=cN w,moves:=mv,plain:=true } 0=true:=by simp[ro,pE]
 refine ae (eI g2 rfl j ?_);have p:∀(U:Array (Int×a0)) (t2:dy) (b:Addr) (o:Obj),s.heap.get? b=some o->(((s.heap.push (bf #[] 0 (.fresh 0 0 (cN w)))).update s.heap.objs.size (sf #[] { mask,place:=#[],dummies:=#[],finger:=0,led:=cN w,moves:=mv,plain:=true })).update s.heap.objs.size (sf U t2)).get? b=some o:=λU t2 b o e=>
  (mB _ _ (ny (bg e))).trans ((mB _ _ (ny (bg e))).trans (av _ e))
 have hz2:∀(U:Array (Int×a0)) (t2:dy),(((s.heap.push (bf #[] 0 (.fresh 0 0 (cN w)))).update s.heap.objs.size (sf #[] { mask,place:=#[],dummies:=#[],finger:=0,led:=cN w,moves:=mv,plain:=true })).update s.heap.objs.size (sf U t2)).objs.size=s.heap.objs.size+1:=λU t2=>by
  rw[Heap.size_update,Heap.size_update,jS]
 have fin:∀(U:Array (Int×a0)) (t2:dy),Kw P w U t2 ks 0 (2*ks.length)->cf (bX P w) A (storeSet s.heap.objs.size U t2) (λa s'=>cf (bX P w) A (pure (gX s.heap.objs.size)) Q E s') E { s with heap:=(s.heap.push (bf #[] 0 (.fresh 0 0 (cN w)))).update s.heap.objs.size (sf #[] { mask,place:=#[],dummies:=#[],finger:=0,led:=cN w,moves:=mv,plain:=true }) }:=λU t2 y=>
  nL (s:={ s with heap:=_ }) g2 rfl (ar (L _ ⟨λb o e=>p U t2 b o e,rfl,rfl⟩ ⟨_,_,_,pD g2,y⟩ (hz2 U t2))) (lE (by rw[y.rec_.size];lia))
 by_cases Z:(mask == t.mask&&t.dummies.isEmpty)=true
 . rw[show zk { mask,place:=#[],dummies:=#[],finger:=0,led:=cN w,moves:=mv,plain:=true } t= .slotForSlot from by
    rw[zk,if_neg (by simp[pE]),if_pos Z]]
   dsimp only
   simp only[cp,beq_iff_eq] at Z;refine fin Y _ ⟨⟨r.el,⟨r.tab.up,?_⟩,r.fit,r.pm⟩,?_,?_⟩
   . show (cN w&&t.led)=_;rw[r.tab.led,BF]
   . have:t.dummies=#[]:=by simpa using Z.2
     show t.dummies.size<=0;rw[this];exact ax _
   . show 2*ks.length<=t.mask;lia
 . rw[show zk { mask,place:=#[],dummies:=#[],finger:=0,led:=cN w,moves:=mv,plain:=true } t= .clean from by
    rw[zk,if_neg (by simp[pE]),if_neg Z]]
   dsimp only
   obtain ⟨p2,u⟩:=Rj (Y.size*2);obtain ⟨t2,o,B,lk,tok⟩:=Vt (mask:=mask) (p2:=p2) (finger:=0) (moves:=mv) (led:=cN w&&t.led) (plain:=true&&t.plain) (by rw[<- u];lia) (hs:=Y.map (·.1)) (by rw[xw];lia);have q:=lk.mask;have i:=lk.nd;have C:t2.place.size=Y.size:=by rw[lk.size,xw]
   have v:(o.filterMap (Y[·]?)).toList.Perm Y.toList:=U0 (by have:=lk.ord;rw[xw] at this;exact this);refine ae ?_;rw[B];have l:(o.filterMap (Y[·]?)).size=Y.size:=by rw[<- cx,v.length_eq,cx]
   show cf _ _ (if ((o.filterMap (Y[·]?)).size != Y.size)=true then _ else _) _ _ _;rw[l];simp only[bne_self_eq_false,fh,if_false];refine ar (fin _ _ ⟨r.perm v ?_ ?_,by rw[i];exact ax _,by rw[q];lia⟩)
   . rw[r.tab.led,BF] at tok;exact tok
   . rw[l];simp only[ro,pE,i,cp,beq_iff_eq,decide_eq_true_eq,br,fT];lia
theorem toList_erase{U:Type}(xs:Array U)(i:Nat):(lh xs i).toList=xs.toList.take i++xs.toList.drop (i+1):=by
 unfold lh;simp[eg]
theorem z9{U:Type}{xs:Array U}(h:i<xs.size):(lh xs i).size+1=xs.size:=by
 rw[<- cx,toList_erase,aw,c6,hX,cx];lia
theorem Jl{U:Type}(xs:Array U)(p:Nat)(x:U):(tm xs p x).size=xs.size+1:=by
 have:=(SetTable.insertAt_perm xs p x).length_eq;rwa [cx,cx,Array.size_push] at this
theorem Iw{m:Nat}{k:Int}{tk:Tok}{Q:Bool->a8->Prop}(x:pQ P w s.heap p ks p2 m)(hn:ks.Nodup)(hb:ks.length<3000)
 (h:∀h',fv p s.heap h'->pQ P w h' p (bR ks [k]) (p2+1) m->∀b,Q b { s with heap:=h' }):cf (bX P w) A (setDiscardHashed p (.int k tk) (rS k)) Q E s:=by
 obtain ⟨U,ep,t,g,u⟩:=x;have r:=u.rec_;have sz:=r.size;have fd:=r.found k;have key:(rV P w).is k (.int k tk)=true:=xC _ _ _ _;have bs:byScan (.int k tk) U=true:=byScan_of rfl (by unfold scanBound;lia) r.el;refine ae ?_;unfold setFind;unfold setFindIn;refine ae (eI g rfl r.fit ?_)
 dsimp only
 rw[bs];refine ae (ki (ae (wpAny_setScan_of key g rfl r.fit r.el ?_)))
 cases D:U.toList.findIdx? λe=>(rV P w).is k e.2 with
 | none=>
  rw[D] at fd;have hk:=of_decide_eq_false fd.symm;refine ar (ar (h s.heap (fv.refl _ _) ?_ _));have e:bR ks [k]=ks:=mm.mpr λy hy=>by
   have:y≠k:=λz=>hk (z ▸ hy);simp[this]
  rw[e];exact ⟨U,ep,t,g,r,Nat.le_succ_of_le u.few,u.room⟩
 | some j=>
  obtain ⟨hj,C,_⟩:=sA.mp D;have v:=by simpa using hj
  refine ar ?_;rw[nI];refine ae (eI g rfl r.fit ?_)
  dsimp only
  have H:=z9 v;refine ae (nL g rfl ?_ (lE (by lia)));refine ae (wpAny_point (ar (h _ (eD ..) ⟨_,_,_,pD g,?_⟩ _)));have Z:t.place.size=U.size/\t.fill<=t.mask:=by
   have:=r.fit;simp only[ro,cp,beq_iff_eq,decide_eq_true_eq] at this;exact this
  have B:t.place[j]?=some (t.place[j]'(by lia)):=fx _;have J:t.drop j={ t with place:=lh t.place j,dummies:=tm t.dummies (d3 t.dummies (t.place[j]'(by lia))) (t.place[j]'(by lia)) }:=by
   rw[dy.drop,B]
  have pe:=z9 (xs:=t.place) (i:=j) (by lia);have di:=Jl t.dummies (d3 t.dummies (t.place[j]'(by lia))) (t.place[j]'(by lia));have o:(lh U j).toList.Sublist U.toList:=by
   rw[toList_erase];have S:U.toList.take j++U.toList.drop j=U.toList:=eM j _;exact (oP.append (oP.refl _) (wq U.toList (ot j))).trans (by rw[S];exact oP.refl _)
  have q:gC (U.toList[j]).2=k:=by
   obtain ⟨R,M,e⟩:=r.shape (i5 hj);rw[e] at C ⊢;exact ((rV P w).inj _ k R C (xC _ _ _ _)).symm
  rw[J];refine ⟨⟨λe I=>r.el e (o.subset I),⟨Ih r.tab.up j,r.tab.led⟩,?_,?_⟩,?_,u.room⟩
  . unfold pE at Z;simp only[ro,pE,cp,beq_iff_eq,decide_eq_true_eq];have e9:U.toList.length=U.size:=cx;refine ⟨?_,?_⟩
    . lia
    . have h1:=Z.2;have h2:=Z.1;exact decide_eq_true (show (lh t.place j).size+(tm t.dummies (d3 t.dummies (t.place[j]'(by lia))) (t.place[j]'(by lia))).size<=t.mask by lia)
  . have sp:U.toList.map (λe=>gC e.2)=(U.toList.take j).map (λe=>gC e.2)++k::(U.toList.drop (j+1)).map (λe=>gC e.2):=by
     rw[<- q,<- b9 (f:=λe:Int×a0=>gC e.2),<- ck,<- g6 hj,eM]
    have l:=r.pm.nodup_iff.mpr hn;have O:(bR ks [k]).Perm (bR (U.toList.map λe=>gC e.2) [k]):=(r.pm.symm.filter _);refine BU.trans ?_ O.symm;rw[toList_erase,ck,sp];unfold bR;rw[sp] at l;have Y:=eu.mp l;have L:=i0.mp Y.2.1;rw[sg,fI (by simp),mm.mpr λy hy=>?_,mm.mpr λy hy=>?_]
    . have:y≠k:=λz=>L.1 (z ▸ hy);simp[this]
    . have:y≠k:=λz=>Y.2.2 y hy k a7 z;simp[this]
  . rw[di];exact Nat.succ_le_succ u.few
theorem Ik{t:dy}{Q:Array (Int×a0)->a8->Prop}(g:s.heap.get? p=some (bf es ep t))(r:dZ P w es t ks)(Z:∀b∈others,∃ks,bL P w s.heap b ks)
 (U:∀W s',W.toList.Perm es.toList->s'.heap=s.heap->s'.gens=s.gens->s'.os=s.os->s'.toks=s.toks->Q W s'):cf (bX P w) A (setWalkUnseen p others none) Q E s:=by
 refine ae (eI g rfl r.fit (ae (texts_any (nr (λ_=>Ib g r U) (λ_=>?_)))));refine ae (Di (λb Y=>?_) ?_)
 . rcases bq.mp Y with z | z
   . exact ⟨ks,by rw[z];exact ⟨es,ep,t,g,r⟩⟩
   . exact Z b z
 exact ae (ki (ar (U _ s (.refl _) rfl rfl rfl rfl)))
theorem DN(U a b:B4):bR (bR U a) b=bR U (a++b):=by
 unfold bR;rw[List.filter_filter];refine List.filter_congr λk _=>?_
 by_cases h1:k∈a <;> by_cases h2:k∈b <;> simp[h2]
theorem zY(U a:B4):(bR U a).length<=U.length:=kR _ _
theorem Np{m:Nat}{Q:Unit->a8->Prop}(x:pQ P w s.heap p ks 0 m)(v:bL P w s.heap C ko)(M:ks.Nodup)(B:ks.length<3000)(hbo:ko.length<3000)(Z:p≠C)(h8:ko.length / 8<=ks.length)(hm:4*ko.length<=m)
 (R:∀s' ,fv p s.heap s'.heap->bL P w s'.heap p (bR ks ko)->s'.gens=s.gens->s'.os=s.os->Q () s'):cf (bX P w) A (sh nm p (.ref C)) Q E s:=by
 rw[sh,show ((gX C) == (gX p))=false from by
  rw[beq_eq_false_iff_ne];intro z;cases z;exact Z rfl]
 refine ae (tL v.typeIs (ae (fg rfl (ae (mR v (ae (mR x.setAt ?_)))))));rw[if_neg (by lia)];obtain ⟨es,ep,t,g,r⟩:=id v;refine ae (nN g rfl r.fit (ae (ft (ae (Ik g r (λb B=>⟨ks,by rw[aS.mp B];exact x.setAt⟩) λW s1 H h1 h2 h3 h4=>?_)))));have J:∀e∈W.toList,∃k D,e=(rS k,.int k D):=λe q=>r.shape (H.mem_iff.mp q);have l:=(H.map _).trans r.pm;have S:=by have:=l.length_eq;rwa [ai] at this
 refine ae ?_;rw[<- xE];refine sS W.toList (λi _ j=>fv p s.heap j.heap/\pQ P w j.heap p (bR ks ((W.toList.map λe=>gC e.2).take i)) i m/\j.gens=s.gens/\j.os=s.os) _ _ ⟨by rw[h1];exact fv.refl _ _,?_,h2,h3⟩ (λi e b j q hi=>?_) λb j ⟨Y,U,q2,q3⟩=>?_
 . rw[h1];have L:bR ks ((W.toList.map λe=>gC e.2).take 0)=ks:=mm.mpr λy _=>by simp
   rw[L];exact x
 . obtain ⟨Y,U,q2,q3⟩:=hi;obtain ⟨k,D,rfl⟩:=J e (d4 q);have g2:=(Y.2 C (mu Z)).trans g;refine ae (ft (Iw U (M.filter _) (iS (zY _ _) B) λh' o x3 bb=>?_));have g3:=(o.2 C (mu Z)).trans g2;refine ae (ae (nN g3 rfl r.fit ?_));simp only[bne_self_eq_false,fh,if_false];refine ar (ar ⟨_,rfl,Y.trans o,?_,q2,q3⟩);rw[kG,a9,q,<- DN];exact x3
 . refine ar ?_;rw[eg (by rw[ai];exact ax _)] at U;obtain ⟨e2,p2,t2,I,u⟩:=id U;refine ae (eI I rfl u.rec_.fit ?_)
   dsimp only
   have few:=u.few;have room:=u.room;rw[show t2.tooManyDummies=false from by
    exact decide_eq_false (by lia)]
   refine ar (R j Y ?_ q2 q3);have O:bR ks (W.toList.map λe=>gC e.2)=bR ks ko:=List.filter_congr λy _=>by
    rw[decide_eq_decide.mpr l.mem_iff]
   rw[<- O];exact U.setAt
theorem Ut(x:bL P w s.heap S ks)(Y:bL P w s.heap p ko)(l:ks.Nodup)(j:ks.length<3000)(i:ko.length<3000)(Z:ko.length<ks.length / 4)(u:5<=ks.length)
 (r:∀s',jX s s'->bL P w s'.heap s.heap.objs.size (bR ks ko)->Q (.ref s.heap.objs.size) s'):cf (bX P w) A (md nm S (.ref p)) Q E s:=by
 have m:p<s.heap.objs.size:=by obtain ⟨_,_,_,go,_⟩:=id Y;exact bg go
 unfold md
 dsimp only
 refine ae (tL Y.typeIs (ae (fg rfl (ae (mR Y (ae (mR x ?_)))))));rw[if_pos (by lia)];refine ae (ki (ae (RJ x l u j λs1 U v hz=>ae (fg rfl (ae (ft ?_))))));refine Np v (Y.at λo e=>U.heap _ _ e) l j i (ny m) (by lia) (by lia) λy q z q2 q3=>ar (r y ⟨λb o e=>(q.2 b (cS (bg e))).trans (U.heap b o e),q2.trans U.gens,q3.trans U.os⟩ z)
end
theorem Jt:vE table "set.__sub__"= some Builtin.«frozenset.__sub__» :=
 tf (id':= "frozenset.__sub__") (by kernel_rfl) (by first | rfl | decide +kernel) (by decide +kernel) (by kernel_rfl)
section
variable   {A:eK}
theorem Yp(x:bL P w s.heap S ks)(Z:bL P w s.heap p ko)(q:ks.Nodup)(o:ks.length<3000)(Y:ko.length<3000)(l:S≠p)(U:ks.length / 4<=ko.length\/5<=ks.length)
 (m:∀s' e,jX s s'->bL P w s'.heap s.heap.objs.size e->e.Perm (bR ks ko)->Q (.ref s.heap.objs.size) s'):cf (bX P w) A (f6 .Sub (.ref S) (.ref p)) Q E s:=by
 refine wpAny_binaryOp_same x.typeIs Z.typeIs F.fills_set_sub F.slot_set_sub (eT F.slot_set_sub x.typeIs Jt ?_ (F.args_set_sub_2 _ _));refine ae (fg rfl ?_);simp only[if_false];refine ae (ae (tL x.typeIs (tL Z.typeIs ?_)));refine ae (fg rfl (ae ?_))
 by_cases h:ks.length / 4<=ko.length
 . exact Vh x Z q o Y l h λs' e j i u=>ar ⟨_,rfl,(by intro z;cases z),m s' e j i u⟩
 . rcases U with r | h5
   . exact absurd r h
   . exact Ut x Z q o Y (by lia) h5 λs' j i=>ar ⟨_,rfl,(by intro z;cases z),m s' _ j i (.refl _)⟩
end
section
variable  {a b:Expr}
def abR(ta tb:St->Hp->(B4->Hp->Prop)->Prop):St->Hp->(B4->Hp->Prop)->Prop:=λσ H Q=>ta σ H λks H1=>tb σ H1 λko H2=>(ks.Nodup/\ks.length<3000/\ko.length<3000/\(ks.length / 4<=ko.length\/5<=ks.length))/\∀kr,kr.Perm (bR ks ko)->Q kr H2
theorem Yl{y p:St->Hp->(B4->Hp->Prop)->Prop}(ha:PSt X a y)(e:PSt X b p):PSt X (.BinOp a .Sub b pos) (abR y p):=by
 intro U s B H Q I h;refine wpAny_BinOp (thn (ha U s B H _ I h) λv s1 Z=>?_);obtain ⟨S,ks,J,e1,x,D,I1,q1⟩:=Z;subst e1;obtain ⟨Y,ep,t,g,r⟩:=x;have m:=I1.pinned (λb e=>by rw[aS.mp e];exact D) (λb e=>⟨bf Y ep t,by rw[aS.mp e];exact g,λv z=>by cases z⟩);have q:(S,bf Y ep t)∈tK [S] s1.heap:=lH (by simp) g;refine thn (e _ s1 B J _ m q1) λu s2 ⟨O,ko,P,M,xo,R,o,⟨L,c2,c3,E⟩,q2⟩=>?_;subst M;have g2:=(o.pin (S,bf Y ep t) (cc _ (cc _ q))).1;have j:=R.2.2.2.2.2 (S,bf Y ep t) (cc _ (cc _ q));have l:=o.pR;exact Yp ⟨Y,ep,t,g2,r⟩ xo L c2 c3 j E λs3 C gw xr i=>⟨_,C,P,rfl,xr,l.p8 (ax _) (l.CH.fresh (ax _)),l.grown gw,q2 C i⟩
end
noncomputable def jt:B5->Co af
 | [d,d']=>match jo d,jo d' with
  | some ns,some ms=>gd ((ddl ns).length<3000/\(ddl ms).length<3000/\((ddl ns).length / 4<=(ddl ms).length\/5<=(ddl ns).length)/\(bR (ddl ns) (ddl ms)).length<3000) (.ok (.list ((srt (bR (ddl ns) (ddl ms))).map af.int)))
  | _,_=>.bad
 | _=>.bad
section
variable    {e':Expr}{p p2 p3 pos2 ac4 adu:Pos}
theorem uq(J:X.calm=true)(R:Gl X "sorted")(hm:X.mg "sorted"= none)(s:Gl X "set")(i:X.mg "set"= none)(ha:QE X e (tP X.K O m))(hb:QE X e' (tP X.K O m'))(hs:CO e=true:=by rfl)(u:CO e'=true:=by rfl) :
 QE X (.Call (.Name "sorted" p) [.BinOp (.Call (.Name "set" p2) [e] [] pos2) .Sub (.Call (.Name "set" p3) [e'] [] ac4) adu] [] pos) (tF X.K O (eFn jt [m,m'])):=
 QE.imp (Pa J R hm (Yl (Bl J s i (cC ha.h eO (bM hs)) (bM hs)) (Bl J s i (cC hb.h eO (bM u)) (bM u)))) λσ H Q x=>by
  obtain ⟨A,B,M,d,r,em,k⟩:=x;obtain ⟨ds,o,em⟩:=Co.aq em;obtain ⟨E,S,o⟩:=Co.aq o;obtain ⟨ds2,j,o⟩:=Co.aq o;obtain ⟨D,e4,j⟩:=Co.aq j;obtain ⟨_,e5,j⟩:=Co.aq j;cases e5;cases j;cases o;have em:(match jo E,jo D with
   | some U,some Z=>gd ((ddl U).length<3000/\(ddl Z).length<3000/\((ddl U).length / 4<=(ddl Z).length\/5<=(ddl U).length)/\(bR (ddl U) (ddl Z)).length<3000) (.ok (.list ((srt (bR (ddl U) (ddl Z))).map af.int)))
   | _,_=>.bad)=Co.ok d:=em
  cases y:jo E with
  | none=>rw[y] at em;cases em
  | some U=>
   cases Y:jo D with
   | none=>rw[y,Y] at em;cases em
   | some Z=>
    rw[y,Y] at em;obtain ⟨⟨z1,z2,z3,z4⟩,em⟩:=bZ em;cases em;refine ⟨A,B,M,E,r,S,λv A1 H1 C p1=>?_⟩;obtain ⟨q,rfl,hq⟩:=tX y C.ah p1;refine ⟨q,U,rfl,hq,by lia,A1,B,M,D,r.grow C,e4,λv' A2 H2 g2 p2=>?_⟩;obtain ⟨q',rfl,I⟩:=tX Y g2.ah p2;have L:=C.trans g2;refine ⟨q',Z,rfl,I,by lia,⟨qT U,z1,z2,z3⟩,λkr P=>⟨by rw[P.length_eq];exact z4,λl z=>?_⟩⟩;have es:=kj ((dX kr).trans (P.trans (dX _).symm)) (gR _) (gR _);rw[es];exact k _ A2 _ (L.trans (aO.lay g2.ah z)) ⟨l,_,rfl,L.hh.free z,bc,g2.ah.free z,.inl ⟨_,_,rfl,rfl,au.ints⟩⟩
end
section
variable   {A:eK}
theorem Vd{b:Addr}{U:Array a0}{n:Nat}(e:s.heap.get? l=some { cls:=.type "list",dict:=none,data:=.seq items n,slots:=#[] })(Y:s.heap.get? b=some ob)(Z:ob.cls= .type "list")(hd:ob.data= .seq U i)(hz:items.size+U.size<=be)
 (h:Q .none { s with heap:=s.heap.update l (mT (· ++ U)) }):cf (bX P w) A (call (.builtin "list.extend") [.ref l,.ref b]) Q E s:=by
 refine eT pT ⟨_,e,rfl⟩ F.entry_list_extend ?_ (F.args_list_extend_2 _ _);refine ae (fg rfl ?_);unfold Builtin.List.listExtendWith;refine ae (oB ⟨_,Y,Z⟩ ?_);rw[show (rq (.ref l) (.ref b)||iN "list" == iN "list" || iN "list" == iN "tuple")=true by simp];unfold Builtin.List.listItems;refine ae (ae (lS Y hd (ar (ae (ae (lS e rfl (ar ?_)))))));rw[show (!items.isEmpty&&lx (items.size+U.size))=false by
  rw[show lx (items.size+U.size)=false from by exact decide_eq_false (by lia)];exact sQ _]
 refine ae (pd e rfl (ar ⟨_,rfl,h⟩) (by lia) (by rw[Array.size_append];lia))
end
section
variable     {a b:Expr}{p apos:Pos}
def T6(K:aE):V->C1->Hp->VK->Prop:=λx vs H Q=>∃l b xs zs,x= .ref l/\vs=[.ref b]/\H l=some (.lst xs)/\SqL K H b zs/\xs.length+zs.length<=be/\Q .non (CB H l (.lst (xs++zs)))
theorem Nk:MtM X "list.extend" (T6 X.K):=by
 rintro i s S H x R v O Q I B C ⟨l,b,J,P,rfl,rfl,j,y,hz,q⟩;cases B;obtain ⟨u,rfl,E⟩:=C.one;cases E;obtain ⟨z,D,n,r,L,e⟩:=I.Lg j;obtain ⟨m,Z,⟨M,n2,p,Y,_,U⟩,z2⟩:=I.list y;have o:=Z.length;refine Vd e p Y U (by rw[br,br];lia) (⟨.non,_,I.Lq j e (by simp) (r.append Z) ?_,rfl,q⟩);rw[aw];lia
theorem W5(i:Nat)(Q:QE X e (tE X.K O m))(hi:isO (fl O i)=true:=by rfl)(nm:Nm X i x:=by walk_at "nm")(Y:lp (.Name x p) "extend" X.env (eval (.Name x p) X.env)=eval (.Name x p) X.env:=by rfl)
 (l:((nS cpos (dk (e::[]) X.env)).all (λx=>!x.1)&&(Bn cpos (vv [] X.env)).all (λx=>x.1.isSome)
  && decide ((e::[]).length+([]:List sF).length+(if ([]:List sF).isEmpty then 0 else 1)<30))=true:=by rfl)
 (j:(apos.endLine == cpos.line)=true:=by rfl) (hs:dk (e::[]) X.env=(false,eval e X.env)::dk [] X.env:=by rfl) (U:(nS cpos (dk [] X.env)).any (·.1)=false:=by rfl)
 (C:i4 (.Call (.Attribute (.Name x p) "extend" apos) [e] [] cpos) none pos.line X.env=pure false:=by rfl) :
 QS X (.Expr (.Call (.Attribute (.Name x p) "extend" apos) [e] [] cpos) pos) (tS X.K rm Ol O O (vN i m)):=by
 refine QS.imp (rY (Er l7 pT y7 Nk (fD nm.1 nm.2 nm.3 nm.4) (cC Q.h eO hs) Y l j hs U) C) λD σ H s=>?_;obtain ⟨A,B,J,o,r,em,k⟩:=s;obtain ⟨d,R,em⟩:=Co.aq em
 cases u:gv J i with
 | none=>rw[u] at em;cases em
 | some dl=>
  rw[u] at em
  cases dl with
  | list ds=>
   cases d with
   | list es=>
    obtain ⟨⟨hc,y⟩,em⟩:=bZ em;cases em;obtain ⟨q,L,E,h1,I⟩:=uZ r hi u;refine ⟨.ref q,fC E,.inl ⟨rfl,L,SqL.of h1⟩,A,B,J,_,r,R,λv S H1 Z p1=>?_⟩;obtain ⟨q2,P,rfl,h5,M⟩:=Rp.list.mp p1;refine ⟨q,q2,L,P,rfl,rfl,Z.hh _ _ h1,h5.elim (λz=>.inl (aA.rd Z.ah z)) .inr,by rw[<- I.length,<- M.length];exact hc,?_⟩;exact k σ S _ ((r.grow Z).change hi y (by rw[u];simp) E (Z.hh _ _ h1) (.inl ⟨_,_,rfl,rfl,(au.mono Z.aa _ I).append M⟩)) Z.aa (Z.nB r.b)
   | _=>cases em
  | _=>cases em
end
noncomputable def fnN(n:Nat)(m:MS)(ds:B5):Co af:=(m (ds.map some++cE (n - ds.length) none)).bind λo=>match o with
 | .rt d=>.ok d
 | .nx _=>.ok .none
 | _=>.bad
section
variable     {base:Heap}
theorem WT{st:Stmt}{k:Nat}{fs:C0}{m:MS}(F:At K mg x st ps)(S:cO N ps (aK st))(y:fs.length=ps.length)(L:ps.length<=N.length)
 (r:∀i,i<fs.length->(fl O i= .CD/\fl fs i= .CD)\/fl O i= .CC)
 (hbody:∀(f:Addr) (U:a0) (A:eK) (CU:C7) (s:a8) (H:Hp) (E:XK),cA k (A.deeper (kQ x (aK st) s.heap.objs.size f U)) ->
  QSs (jx CX0 P w K mg base N x (aK st) f U A CU s H E).nox (bC st) (tS K .f Ol O O' m)) (hrm:rm= .f):Def P w K mg base (k+1) x ps (spF K fs rm (fnN N.length m)):=by
 subst hrm;refine F.ok S (λI H Q E h=>?_) (λf U A CU s H I Q E p h=>?_)
 . obtain ⟨A,z,d,_,h,_⟩:=h;rw[h.length.1,y]
 . obtain ⟨l,z,d,ha,h,em,q⟩:=h;obtain ⟨o,u,em⟩:=Co.aq em
   cases o with
   | rt M=>
    cases em;refine ⟨_,(hbody f U A CU s H E p).h,l,H,_,_,jJ ha h r (by lia),u,λv Y Z s1 J e nw B=>q v Y Z ⟨e,J,s1,nw⟩ B⟩
   | nx C=>
    cases em;refine ⟨_,(hbody f U A CU s H E p).h,l,H,_,_,jJ ha h r (by lia),u,λD Y Z j e nw=>q .non Y Z ⟨e,j.b,j.a,nw⟩ (show Rp K Y .none .non from Rp.none.mpr rfl)⟩
   | _=>cases em
end
section
variable     {p p2 pos2:Pos}
noncomputable def iK:B5->Co af
 | [.dict Cb]=>.ok (.int Cb.length)
 | _=>.bad
theorem aR.len:∀{Cb:B0}{u:A7},aR K A Cb u->Cb.length=u.length
 | [],u,h=>by rw[aR.nil.mp h];rfl
 | (k,d)::r,u,h=>by
  obtain ⟨key,v,U,rfl,_,_,h⟩:=aR.cons.mp h;rw[ba,ba,aR.len h]
theorem jw:eH X (.builtin "len") (rC X.K iK):=by
 rintro U s y H o B Q I r ⟨A,j,d,e,ha,p,k⟩
 match j,e with
 | [.dict Cb],e=>
  cases e;obtain ⟨v,q,rfl,Y,i⟩:=p.cons;obtain rfl:=i.nil;obtain ⟨l,u,rfl,h1,q1⟩:=Y.dict ha;obtain ⟨z,rfl,Z⟩:=vals1 r;cases Z;exact acC I h1 λt x m=>⟨.int Cb.length,H,m,⟨t,by rw[q1.len]⟩,k _ A H (aO.refl ha) (Rp.int.mpr rfl)⟩
end
theorem len0{U:Type}{P:List U->Prop}(h:P [])(us:List U)(e:us.length=0):P us:=by
 rw[l8.mp e];exact h
theorem abv{U:Type}{P:List U->Prop}(h:∀Y,P [Y])(us:List U)(e:us.length=1):P us:=by
 cases us with
 | nil=>cases e
 | cons a r=>exact len0 (P:=λr=>P (a::r)) (h a) r (Nat.succ.inj e)
theorem aaO{U:Type}{P:List U->Prop}(h:∀Z Y,P [Z,Y])(us:List U)(e:us.length=2):P us:=by
 cases us with
 | nil=>cases e
 | cons a r=>exact abv (P:=λr=>P (a::r)) (λb0=>h a b0) r (Nat.succ.inj e)
theorem ZF{U:Type}{P:List U->Prop}(h:∀i Z Y,P [i,Z,Y])(us:List U)(e:us.length=3):P us:=by
 cases us with
 | nil=>cases e
 | cons a r=>exact aaO (P:=λr=>P (a::r)) (λb0 b1=>h a b0 b1) r (Nat.succ.inj e)
theorem ade{U:Type}{P:List U->Prop}(h:∀i Z Y j,P [i,Z,Y,j])(us:List U)(e:us.length=4):P us:=by
 cases us with
 | nil=>cases e
 | cons a r=>exact ZF (P:=λr=>P (a::r)) (λb0 b1 b2=>h a b0 b1 b2) r (Nat.succ.inj e)
theorem ZR{st:Stmt}(h:∀(kV U pm:a0) (Z:C5) (Y ct:a0) (e:a0),kD (ey x x (b8 st) (bC st) (aK st) .none kV U pm Z Y ct) ⟨[e],[]⟩=pure (ps.zip [e]))(j:ps.length=1) :
 ∀(kV U pm:a0) (Z:C5) (Y ct:a0) (us:B9),us.length=ps.length->kD (ey x x (b8 st) (bC st) (aK st) .none kV U pm Z Y ct) ⟨us,[]⟩=pure (ps.zip us):=λkV U pm Z Y ct us i=>
 abv (P:=λus=>kD (ey x x (b8 st) (bC st) (aK st) .none kV U pm Z Y ct) ⟨us,[]⟩=pure (ps.zip us)) (h kV U pm Z Y ct) us (i.trans j)
theorem R7{st:Stmt}(h:∀(kV U pm:a0) (Z:C5) (Y ct:a0) (i e:a0),kD (ey x x (b8 st) (bC st) (aK st) .none kV U pm Z Y ct) ⟨[i,e],[]⟩=pure (ps.zip [i,e]))(l:ps.length=2) :
 ∀(kV U pm:a0) (Z:C5) (Y ct:a0) (us:B9),us.length=ps.length->kD (ey x x (b8 st) (bC st) (aK st) .none kV U pm Z Y ct) ⟨us,[]⟩=pure (ps.zip us):=λkV U pm Z Y ct us j=>
 aaO (P:=λus=>kD (ey x x (b8 st) (bC st) (aK st) .none kV U pm Z Y ct) ⟨us,[]⟩=pure (ps.zip us)) (h kV U pm Z Y ct) us (j.trans l)
theorem aa8{st:Stmt}(h:∀(kV U pm:a0) (Z:C5) (Y ct:a0) (j e i:a0),kD (ey x x (b8 st) (bC st) (aK st) .none kV U pm Z Y ct) ⟨[j,e,i],[]⟩=pure (ps.zip [j,e,i]))(m:ps.length=3) :
 ∀(kV U pm:a0) (Z:C5) (Y ct:a0) (us:B9),us.length=ps.length->kD (ey x x (b8 st) (bC st) (aK st) .none kV U pm Z Y ct) ⟨us,[]⟩=pure (ps.zip us):=λkV U pm Z Y ct us l=>
 ZF (P:=λus=>kD (ey x x (b8 st) (bC st) (aK st) .none kV U pm Z Y ct) ⟨us,[]⟩=pure (ps.zip us)) (h kV U pm Z Y ct) us (l.trans m)
theorem aaV{st:Stmt}(h:∀(kV U pm:a0) (Z:C5) (Y ct:a0) (j e i l:a0),kD (ey x x (b8 st) (bC st) (aK st) .none kV U pm Z Y ct) ⟨[j,e,i,l],[]⟩=pure (ps.zip [j,e,i,l]))(o:ps.length=4) :
 ∀(kV U pm:a0) (Z:C5) (Y ct:a0) (us:B9),us.length=ps.length->kD (ey x x (b8 st) (bC st) (aK st) .none kV U pm Z Y ct) ⟨us,[]⟩=pure (ps.zip us):=λkV U pm Z Y ct us m=>
 ade (P:=λus=>kD (ey x x (b8 st) (bC st) (aK st) .none kV U pm Z Y ct) ⟨us,[]⟩=pure (ps.zip us)) (h kV U pm Z Y ct) us (m.trans o)
def Fnd(K:aE)(x:Str)(st:Stmt):Prop:=∃(f:Addr) (oc:a0) (od an:C5) (sl:Array B8) (kV doc pm Cn ct:a0),kL K fb x=some (some (.ref f)) /\
 K.lookup f=some ⟨oc,od,.func (ey x x (b8 st) (bC st) (aK st) .none kV doc pm an Cn ct),sl⟩/\mS K Cn x=true/\kF K (.ref f)=true
theorem Fnd.mk{st:Stmt}{f:Addr}{e:a0}{i j:C5}{Z:Array B8}{kV Y pm U ct:a0}(a:kL K fb x=some (some (.ref f)))
 (l:K.lookup f=some ⟨e,i,.func (ey x x (b8 st) (bC st) (aK st) .none kV Y pm j U ct),Z⟩) (c:mS K U x=true) (k:kF K (.ref f)=true):Fnd K x st:=⟨_,_,_,_,_,_,_,_,_,_,a,l,c,k⟩
theorem Fnd.at{st:Stmt}(F:Fnd K x st)(X:K.In h)(G:h.Ns fb mg)
 (b:∀(kV U pm:a0) (Z:C5) (Y ct:a0) (us:B9),us.length=ps.length->kD (ey x x (b8 st) (bC st) (aK st) .none kV U pm Z Y ct) ⟨us,[]⟩=pure (ps.zip us):=by first | exact ZR (by intros;rfl) rfl | exact R7 (by intros;rfl) rfl | exact aa8 (by intros;rfl) rfl | exact aaV (by intros;rfl) rfl):At K mg x st ps:=by
 obtain ⟨f,i,j,Z,e,kV,U,pm,Y,ct,a,l,c,k⟩:=F;exact At.mk' (kB X G a) l c k b
theorem sck{P:B7}{sc:xa}(a:sc.kind= .function:=by rfl)(b:sc.isCoroutine=false:=by rfl)(c:sc.isGenerator=false:=by rfl)(d:N.Nodup:=by decide +kernel)(e:N.take P.length=P:=by rfl)
 (f:∀x∈P,sc.names.lookup x=some .local\/sc.names.lookup x=some .cell:=by decide +kernel) (g:∀y∈sc.names,y.2 ≠ .free:=by decide +kernel):cO N P sc:=⟨a,b,c,d,e,f,g⟩
section
variable      {s1 s2 mb:MS}{a b iter:Expr}{es:C2}{st:Stmt}{rest:C6}{p:Pos}{it:MI}{g:MG}{gs:List MG}{mc:ME}{is js:B6}{k n:Nat}   {fs:C0}{f:B5->Co af}
theorem aW(h1:QS X st (tS K rm Ol O O s1))(h2:QSs X rest (tS K rm Ol O O2 s2)):QSs X (st::rest) (tS K rm Ol O O2 (aG s1 s2)):=cz h1 h2
theorem jy(h1:QG X e (tG X.K O O is g))(h2:QGs X es (tGs X.K O O2 js gs))(hs:(kU (e::es) X.env).map (·.2)=Bi e X.env::(kU es X.env).map (·.2):=by rfl):QGs X (e::es) (tGs X.K O O2 (is++js) (g::gs)):=Tj h1 h2 hs
theorem iu(cl:B6)(hi:QI X tg iter (tI X.K O it))(U:QG X tg (tG X.K O O is g))(Y:QSs X body (tS X.K rm O O O mb))(i:ua (bX X.prog X.w) X.A X.env X.xe:=by exact mf)(e:X.calm=true:=by rfl)(Z:oW O O cl=true:=by decide)
 (hs:∀x,jv iter X.env x=pure x:=by intro _;rfl):QS X (.For tg iter body [] pos) (tS X.K rm Ol O O (dM it g cl mb)):=mD i e cl hi U Y Z hs
theorem VR(fuel:Nat)(cl:B6)(Z:QT X c (tT X.K O mc))(U:QSs X body (tS X.K rm O O O mb))(e:ua (bX X.prog X.w) X.A X.env X.xe:=by exact mf)(Y:oW O O cl=true:=by decide):QS X (.While c body [] pos) (tS X.K rm Ol O O (dO fuel mc cl mb)):=uE e fuel cl Z U Y
theorem aV(i:Nat)(Y:X.N.Nodup)(Z:QE X e (tE K O m))(hi:X.N[i]?=some x:=by rfl)(hx:Loc X.env.scope x:=by first | exact .inl rfl | exact .inr rfl)(l:i<O.length:=by exact of_decide_eq_true rfl)(hs:i4 e (some (.Name x pos')) pos.line X.env=pure false:=by rfl)
 (j:X.fn x=true\/X.env.scope.names.lookup x=some .local:=by walk_at "hf") (U:O.set i .CD=O2:=by rfl):QS X (.Assign [.Name x pos'] e pos) (tS K rm Ol O O2 (aN i m)):=abw i Y hi hx Z l hs j U
theorem jd(i:Nat)(Y:X.N.Nodup)(Z:QE X e (tF K O m))(hi:X.N[i]?=some x:=by rfl)(hx:Loc X.env.scope x:=by first | exact .inl rfl | exact .inr rfl)(l:i<O.length:=by exact of_decide_eq_true rfl)(hs:i4 e (some (.Name x pos')) pos.line X.env=pure false:=by rfl)
 (j:X.fn x=true\/X.env.scope.names.lookup x=some .local:=by walk_at "hf") (U:O.set i .own=O2:=by rfl):QS X (.Assign [.Name x pos'] e pos) (tS K rm Ol O O2 (aN i m)):=Xx i Y hi hx Z l hs j U
theorem eQ(ha:QE X a (tP X.K O m1))(U:QE X b (tP X.K O m2))(hs:sX b:=by exact λ_ _=>rfl):QE X (.Subscript a b pos) (tE X.K O (ak CF m1 m2)):=Wa ha U hs
theorem sI{i:Int}:QE X (.Constant (.int i) j pos) (tP K O (eC (.int i))):=sp km
theorem bj{i:Int}(U:QA X es (tAi K O ms)):QA X (.Constant (.int i) j pos::es) (tAi K O (eC (.int i)::ms)):=aF km U
theorem aC(i:Nat)(U:QA X es (tAr X.K O fs ms))(nm:Nm X i x:=by walk_at "nm")(hx:isX (fl O i)=false:=by rfl):QA X (.Name x p::es) (tAr X.K O (.CC::fs) (aj i::ms)):=aY (ao i nm hx) U
theorem sx(i:Nat){k:Int}(nm:Nm X i x:=by walk_at "nm")(hx:isX (fl O i)=false:=by rfl)(hs:sX (.Constant (.int k) j pos'):=by exact λ_ _=>rfl) :
 QE X (.Subscript (.Name x p) (.Constant (.int k) j pos') pos) (tE X.K O (ak CF (aj i) (eC (.int k)))):=Wa (ao i nm hx) (sp km) hs
theorem dg(i:Nat)(Y:X.N.Nodup)(hi:X.N[i]?=some x:=by rfl)(hx:Loc X.env.scope x:=by first | exact .inl rfl | exact .inr rfl)(e:i<O.length:=by exact of_decide_eq_true rfl)(Z:X.fn x=true\/X.env.scope.names.lookup x=some .local:=by walk_at "hf")(U:O.set i .CD=O2:=by rfl) :
 QG X (.Name x p) (tG X.K O O2 [i] (gN i)):=cV i Y hi hx e Z U
theorem cu{f:D0}(Y:OpR X (fR op) (rD K f))(ha:QE X a (tP K O m1))(U:QE X b (tP K O m2))(Z:pj op b=false:=by exact nU _):QT X (.Compare a [op] [b] pos) (tT K O (ak f m1 m2)):=my Y ha U Z
theorem bO(F:Def X.prog X.w X.K X.mg X.base k x ps (spF X.K fs .f f))(i:cA n X.A)(ha:QA X (e::es) (tAr X.K O fs ms))(hk:k<=n:=by decide)(Y:Gl X x:=by rfl)(U:nD x:=by decide)
 (Z:CO e=true:=by rfl) (hpl:dF es=true:=by rfl):QE X (.Call (.Name x p) (e::es) [] pos) (tE X.K O (aJ f ms)):=Xg F (i.mono hk) Y ha U Z hpl
theorem gZ(F:Def X.prog X.w X.K X.mg X.base k x ps (spF X.K fs .t f))(i:cA n X.A)(ha:QA X (e::es) (tAr X.K O fs ms))(hk:k<=n:=by decide)(Y:Gl X x:=by rfl)(U:nD x:=by decide)
 (Z:CO e=true:=by rfl) (hpl:dF es=true:=by rfl):QE X (.Call (.Name x p) (e::es) [] pos) (tF X.K O (aJ f ms)):=YH F (i.mono hk) Y ha U Z hpl
end
section
variable     {base:Heap}
theorem cB{k:Nat}{m:MS}(st:Stmt)(N:B7)(O:C0)(F:At K mg x st ps)
 (hbody:∀{f:Addr}{U:a0}{A:eK}{CU:C7}{s:a8}{H:Hp}{E:XK},N.Nodup->cA k (A.deeper (kQ x (aK st) s.heap.objs.size f U)) ->
  QSs (jx CX0 P w K mg base N x (aK st) f U A CU s H E).nox (bC st) (tS K rm [] O [] m)) (S:cO N ps (aK st):=by exact sck) (Z:Ol.length=ps.length:=by rfl) (j:ps.length<=N.length:=by decide)
 (Y:∀i,i<Ol.length->(fl O i= .CD/\fl Ol i= .CD)\/fl O i= .CC:=by decide):Def P w K mg base (k+1) x ps (spF K Ol rm (fnR N.length m)):=aaX F S Z j Y λ_ _ _ _ _ _ _ e=>hbody S.nd e
end
theorem aaZ(I:Zq.Cs X BY σ H s)(h1:s.heap.get? ea=some ob)(h2:H ea=none)(l:ea≠X.env.locals)(i:∀v,ob.data ≠ .cell v)(y:∀p∈X.pn++BY,p.1≠ea)(j:X.s₀.heap.get? ea=none):Zq.Cs X BY σ (CB H ea (.frz ob (.own 0))) s:=by
 have ne:∀b o,H b=some o->b≠ea:=λb o e z=>by rw[z,h2] at e;cases e
 refine ⟨I.ok,I.os,I.bare,⟨I.base.keep,I.base.slot,λb o e n hx=>?_,I.base.there,λb U e=>?_,λb o u e=>?_,λb m e=>?_⟩,I.loc,I.cell,?_,λx c e=>?_,λp Z=>?_,λb o e=>?_,I.len⟩
 . rw[aL (λz=>by rw[z,j] at e;cases e)];exact I.base.free b o e n hx
 . have:=I.base.tups b U e;rw[aL (ne b _ this)];exact this
 . have:=I.base.il b o u e;rw[aL (ne b _ this)];exact this
 . have:=I.base.gm b m e;rw[aL (ne b _ this)];exact this
 . rw[aL (mu l)];exact I.free
 . have r:c≠ea:=λz=>by
    obtain ⟨v,o,q1,q2⟩:=I.cell x c e;rw[z,h1] at q1;cases q1;exact i _ q2
   rw[aL r];exact I.fY x c e
 . obtain ⟨q1,q2,q3⟩:=I.pin p Z;exact ⟨q1,by rw[aL (y p Z)];exact q2,q3⟩
 . by_cases Y:b=ea
   . subst Y;rw[bc] at e;cases e;exact ⟨h1,_,h1⟩
   . rw[aL Y] at e;exact (I.CH b o e).stay (λc u _ q=>q) (λc q=>by rw[aL (ne c _ q)];exact q) λc U q=>by rw[aL (ne c _ q)];exact q
noncomputable abbrev Cx.inM(X:Cx)(ea:Addr):Cx:={ X with A:=X.A.mark (some (.ref ea)),calm:=false,xe:=λ_ _=>False }
theorem tH(I:Zq.Cs X BY σ H s):Zq.Cs (Cx.inM X ea) BY σ H s:=
 ⟨⟨I.ok.mod,I.ok.kind,I.ok.glob,I.ok.blt,I.ok.above,I.ok.inj,I.ok.has,I.ok.cab,(λz=>nomatch z),I.ok.frames,I.ok.stk,I.ok.exf,I.ok.bs,I.ok.bsz,I.ok.Ba,I.ok.HD,I.ok.oO,I.ok.frf,I.ok.tabs⟩,I.os,I.bare,I.base,I.loc,I.cell,I.free,I.fY,I.pin,I.CH,I.len⟩
theorem pA(ok:X.Ok)(I:Zq.Cs (Cx.inM X ea) BY σ H s):Zq.Cs X BY σ H s:=
 ⟨ok,I.os,I.bare,I.base,I.loc,I.cell,I.free,I.fY,I.pin,I.CH,I.len⟩
section
variable  {A:eK}
structure jj (K:aE) (C T:Addr):Prop where
 cls:(vi K T).isSome=true
 typ:PySem.W.typeIn K (.ref T)=some (.type "type")
 base:n9 K (.ref T) (.type "BaseException")=some true
 yes:n9 K (.ref C) (.ref T)=some true
theorem Dk{Q:Bool->a8->Prop}(X:K.In s.heap)(Z:s.heap.get? ea=some ob)(U:ob.cls= .ref C)(h:jj K C p)(q:Q true s) :
 cf M A (excMatches (.ref ea) (.ref p)) Q E s:=by
 have Y:vj M s.heap (isInstance (.ref p) (.type "tuple")) false:=(PySem.W.looks_typeIn X h.typ).andThen (i8 X (show n9 [] (.type "type") (.type "tuple")=some false by decide +kernel));refine ae (Y.at ?_)
 dsimp only;rw[if_neg (by decide)]
 refine ae (ar ?_);rw[kP];refine ae (ae (ae (ae ((pJ X h.cls).at ?_))));rw[if_pos rfl];refine (i8 X h.base).at ?_;rw[if_neg (by decide)];refine ar (ar ?_);refine ae ((yh Z U).at ?_);rw[kP];refine ae (ae (ae ((i8 X h.yes).at ?_)));rw[if_pos rfl];exact ar (ar (ar q))
end
theorem aQ.acQ(r:aQ K A B H O σ Γ)(hi:i < Γ.length)(U:i<O.length)(p:abd A C v):aQ K A B H (O.set i (.exc C)) (σ.set i (some v)) (Γ.set i (some d)):=by
 have m:i < σ.length:=by rw[<- r.len];exact hi
 refine ⟨r.a,r.b,by rw[fm,fm];exact r.len,λj=>?_,λj k Z h1 h2 Y l=>?_⟩
 . by_cases hj:i=j
   . subst hj;unfold fl gv sv;rw[bK U,bK hi,bK m];exact λo e=>⟨v,rfl,p⟩
   . unfold fl gv sv;rw[aM hj,aM hj,aM hj];exact r.slot j
 . have hj:i≠j:=λz=>by subst z;unfold fl at h1;rw[bK U] at h1;cases h1
   have hk:i≠k:=λz=>by subst z;unfold fl at h2;rw[bK U] at h2;cases h2
   unfold fl at h1 h2;unfold gv at Y l;rw[aM hj] at h1 Y;rw[aM hk] at h2 l;unfold sv;rw[aM hj,aM hk];exact r.sep j k Z h1 h2 Y l
noncomputable def gV(zf:B5->Co Str)(ms:List ME):MZ:=λΓ=>(evs ms Γ).bind zf
def rW(X:Cx)(cl:Str->Addr)(XE:Str->Hp->Prop):Prop:=∀(BY:A6) (σ:St) (H1 A1:Hp) (s1:a8) (er:a0) (s':a8) (c:Str),Zq.Cs X BY σ H1 s1 ->
 CXE X.prog X.w X.stack H1 s1 (λcv _ H'=>cv= .ref (cl c)/\∃A',aO A1 H1 A' H') er s'->(∀A' H',aO A1 H1 A' H'->XE c H')->X.xe er s'
theorem lZ{base:Heap}{f:Addr}{v:a0}{A:eK}{E:XK} :
 rW (jx (CXE P w) P w K mg base N x scope f v A CU s H E) cl (λc H1=>E (.ref (cl c)) none H1):=by
 intro BY σ H1 A1 s1 er s' c I hx hE;obtain ⟨ea,t,C,B,H',rfl,O,r,m,hB,l,un,hC,A',gr⟩:=hx;cases hC;have U:Un (frs CU) [] H H1 s.heap s1.heap:=I.base;have Q:∀b,b∈frs (kQ x scope s.heap.objs.size f v::CU)->b=s.heap.objs.size\/b∈frs CU:=λb D=>by
  have D:=D;obtain ⟨S,he,p⟩:=eo.mp D;rcases bq.mp he with rfl | he
  . left;exact (Option.some.inj p).symm
  . right;exact eo.mpr ⟨S,he,p⟩
 have old:∀b o,s.heap.get? b=some o->b∉frs CU->b∉frs (kQ x scope s.heap.objs.size f v::CU):=λb o e n z=>by
  rcases Q b z with q | q
  . subst q;exact absurd (bg e) (fo _)
  . exact n q
 have inB:=λb o Z n i=>hB b o (U.keep b o Z i n (by simp)) (old b o Z n) (U.free b o Z i (by simp));have hst:frs (jx (CXE P w) P w K mg base N x scope f v A CU s H E).stack=frs (kQ x scope s.heap.objs.size f v::CU):=rfl;refine wpAny_leaves_onW I.ok.frames rfl m λh'' Y up=>?_;have J:=l.kept λb u e=>Y.1 b u e;refine ⟨ea,t,cl c,B,H',rfl,O.trans I.os,r,Y,inB,l,⟨λb o Z i n _=>Y.1 _ _ (inB b o Z n i),λb o Z i D _=>?_,λb o Z i _=>?_,λb o Z _=>?_,λb xs e=>un.tups b xs (U.tups b xs e),λb o u e=>un.il b o u (U.il b o u e),λb ps e=>?_⟩,hE A' H' gr⟩
 . obtain ⟨sl,q⟩:=U.slot b o Z i D (by simp);have M:b∈frs (kQ x scope s.heap.objs.size f v::CU):=by
    obtain ⟨S,he,p⟩:=eo.mp (D);exact eo.mpr ⟨S,a6 _ he,p⟩
   obtain ⟨sl2,q2⟩:=un.slot b _ q (U.free b o Z i (by simp)) M (by simp);obtain ⟨y,j,hd⟩:=d7 m.2.2.1 M;rw[q2] at j;cases j;obtain ⟨L,R⟩:=up b _ q2 hd;exact ⟨L,R⟩
 . obtain ⟨y,q⟩:=U.there b o Z (by simp);exact un.free b y q (U.free b o Z i (by simp)) (by simp)
 . by_cases p:b∈frs (kQ x scope s.heap.objs.size f v::CU)
   . obtain ⟨y,j,hd⟩:=d7 m.2.2.1 p;obtain ⟨L,R⟩:=up b _ j hd;exact ⟨_,R⟩
   . obtain ⟨y,q⟩:=U.there b o Z (by simp)
     cases hH:H1 b with
     | none=>exact ⟨y,Y.1 _ _ (hB b y q p hH)⟩
     | some u=>exact vG J (gr.hh b u hH)
 . exact un.gm b _ (U.gm b ps e)
theorem KZ{k:Nat}{f:Str}{p:Pos}{c:Str}
 (I:Zq.Cs X BY σ H s) (F:DefX X.prog X.w X.K X.mg X.base k f ps (spZ X.K Ol cl zf)) (S:cA k X.A) (M:Gl X f) (ha:QA X (e::rest) (tAr X.K O Ol ms)) (R:rW X cl XE) (r:aQ X.K A B H O σ Γ) (e1:evs ms Γ = .ok ds) (L:zf ds= .ok c)
 (hE:∀A' H',aA A' H'->aA B H'->aA A A'->New A A' B->XE c H')
 (y:nD f:=by decide) (he:CO e=true:=by rfl) (hpl:dF rest=true:=by rfl) :
 cf (bX X.prog X.w) X.A (eval (.Call (.Name f p) (e::rest) [] pos) X.env) (λ_ _=>False) X.xe s:=by
 obtain ⟨fa,fd,F,hb,kp,Q⟩:=F.ex;refine k6 (jZ I M Q ?_ y);refine xc I.ok.mod.kin kp (eR (ha.h pos BY s σ H (λi Y=>∃U,aO A H U Y/\jL X.K U Y Ol ds i) I ⟨A,B,Γ,ds,r,e1,λi U Y g p=>⟨U,g,p⟩⟩) (λl s1 z=>?_) λJ C z=>z) (bM he) (ik hpl);obtain ⟨i,Y,m,D,U,x,E⟩:=z;refine ⟨m.kIn,?_⟩;have o:l.length=ps.length:=by
  rw[<- D.length];exact F.len i Y (λ_ _=>False) (λ_ _ _=>True) ⟨U,ds,c,x.ah,E,L,λ_ _ _=>trivial⟩
 refine AJ (qA (F.run X.A X.stack s1 Y ⟨l,[]⟩ l i (λ_ _=>False) (λP _ H'=>P= .ref (cl c)/\∃A',aO U Y A' H') S m.env0 (by have:=hb s1 l m.kIn (by rw[cy];exact o);rwa [cy] at this) D ⟨U,ds,c,x.ah,E,L,λA' H' g=>⟨rfl,A',g⟩⟩) λrr C Z=>?_)
 cases rr with
 | error J=>
  refine R BY σ Y U s1 J C c m Z λA' H' g=>?_;have j:=x.trans g;exact hE A' H' j.ah (r.b.trans j.hh) j.aa (j.nB r.b)
 | ok fl=>
  cases fl with
  | ret u=>obtain ⟨v,H',_,_,_,_,_,q⟩:=Z;exact q.elim
  | next=>exact Z.elim
  | brk=>exact Z.elim
  | cont=>exact Z.elim
section
variable  {k:Nat}{fn:Str}  {fs:C0}      {pf pc px pa:Pos}  {es:C2}
theorem V4(F:DefX X.prog X.w X.K X.mg X.base k fn ps (spZ X.K fs cl zf))(l:cA k X.A)(Z:Gl X fn)(ha:QA X (e::es) (tAr X.K O fs ms))(j:rW X cl XE)
 (U:nD fn:=by decide) (o:CO e=true:=by rfl) (hpl:dF es=true:=by rfl) (hs:i4 (.Call (.Name fn pf) (e::es) [] pc) none pa.line X.env=pure false:=by rfl) :
 QS X (.Expr (.Call (.Name fn pf) (e::es) [] pc) pa) (tZ X.K O XE (gV zf ms)):=⟨λY s q H D I h=>by
 obtain ⟨A,B,u,c,r,em,k⟩:=h;obtain ⟨x,i,m⟩:=Co.aq em;exact wpAny_Expr_any (eR (KZ I F l Z ha j r i m k U o hpl) (λv s1 z=>z.elim) λp s1 z=>z) I.quiet hs⟩
end
end Zq
namespace PySem
open Sem (wp)
end PySem
namespace Zq
open PySem PySem.Spec PyProof.Rows
noncomputable def ir(c:ME)(cl:B6)(b:MS)(zb:MZ):Nat->MZ
 | 0,_=>.bad
 | n+1,Γ=>(c Γ).bind λx=>match x with
  | .bool true=>(match b Γ with
   | .ok (.nx Γ2)=>ir c cl b zb n (clr cl Γ2)
   | _=>zb Γ)
  | _=>.bad
noncomputable def oh(fuel:Nat)(c:ME)(cl:B6)(b:MS)(zb:MZ):MZ:=λΓ=>ir c cl b zb fuel Γ
variable {X:Cx}{rm:Rm}{O:C0}{pos:Pos}
section
variable    {cl:B6}{mb:MS}{mc:ME}{zb:MZ}{c:Expr}{body:C6}  {XE:Str->Hp->Prop}
theorem Fy(hp:ua (bX X.prog X.w) X.A X.env X.xe)(fuel:Nat)(cl:B6){Oe:C0}(hc:QT X c (tT X.K O mc))(hb:QSs X body (tS X.K rm Oe O Oe mb))(hz:QSs X body (tZ X.K O XE zb))(hE:oW O Oe cl=true):QS X (.While c body [] pos) (tZ X.K O XE (oh fuel mc cl mb zb)):=by
 have C:PSs X body (λD m H=>tS X.K rm Oe O Oe mb D m H\/tZ X.K O XE zb D m H):=λi s m H D I h=>by
  rcases h with h | h
  . exact hb.h i s m H D I h
  . exact hz.h i s m H D I h
 refine QS.imp (GP hp hc.h C) λD m H ⟨A,B,S,o,r,em,k⟩=>⟨λn y P=>∃Z U,aQ X.K Z B P O y U/\aA A Z/\New A Z B/\ir mc cl mb zb n U= .ok o,⟨fuel,A,S,r,aA.refl _,λ_ h _=>h,em⟩,?_⟩;rintro n y P ⟨Z,U,z,sa,nw,Y⟩
 cases n with
 | zero=>cases Y
 | succ n=>
  obtain ⟨x,e3,Y⟩:=Co.aq Y
  cases x with
  | bool M=>
   refine ⟨Z,B,U,M,z,e3,λQ H3 g3=>?_⟩;have q:=sa.trans g3.aa;have v:=nw.trans (g3.nB z.b)
   cases M with
   | false=>cases Y
   | true=>
    refine uc ⟨λj u=>∃Z U,aQ X.K Z B u O j U/\aA A Z/\New A Z B/\ir mc cl mb zb n U= .ok o,λj u h=>⟨n,mP _,h⟩,?_⟩;have Y:(match mb U with
     | .ok (.nx U)=>ir mc cl mb zb n (clr cl U)
     | _=>zb U)=Co.ok o:=Y
    by_cases p:∃l,mb U= .ok (.nx l)
    . obtain ⟨l,p⟩:=p;rw[p] at Y;exact .inl ⟨Q,B,U,_,z.grow g3,p,λR J L r5 s5 n5=>⟨J,clr cl l,r5.iU hE,q.trans s5,v.trans n5,Y⟩⟩
    . have Y:zb U= .ok o:=by
       revert Y;split
       . rename_i E e;exact absurd ⟨E,e⟩ p
       . exact id
      exact .inr ⟨Q,B,U,o,z.grow g3,Y,λJ L q1 q2 q3 q4=>k J L q1 q2 (q.trans q3) (v.trans q4)⟩
  | _=>cases Y
end
variable {ps:B7}{cl:Str->Addr}
section
variable  {k:Nat}{fn:Str}  {fs:C0}  {zf:B5->Co Str}  {ms:List ME}{pf pc pa px:Pos}{e ix:Expr}{es:C2}{XE:Str->Hp->Prop}
theorem Ry(F:DefX X.prog X.w X.K X.mg X.base k fn ps (spZ X.K fs cl zf))(l:cA k X.A)(Z:Gl X fn)(ha:QA X (e::es) (tAr X.K O fs ms))(j:rW X cl XE)
 (U:nD fn:=by decide) (o:CO e=true:=by rfl) (hpl:dF es=true:=by rfl) :
 QS X (.Return (some (.Subscript (.Call (.Name fn pf) (e::es) [] pc) ix px)) pa) (tZ X.K O XE (gV zf ms)):=⟨λY s q H D I h=>by
 obtain ⟨A,B,u,c,r,em,k⟩:=h;obtain ⟨x,i,m⟩:=Co.aq em;exact wpAny_Return_some (Subscript_ (eR (KZ I F l Z ha j r i m k U o hpl) (λv s1 z=>z.elim) λp s1 z=>z))⟩
end
variable {P:fF}{w:kn}{K:aE}{mg:Str->B8}{a:Addr}
theorem Q6{mb:Str->B8}{CX:CXT}{k:Nat}{fa:Addr}{fd:oi}{x:Str}{sp:Sp}{s₁:a8}{C:B9}{ns:B4}
 (R:K.In s₁.heap) (J:s₁.heap.Ns fb mg) (Y:s₁.heap.Ns r6 mb) (hbb:∀x:Str,x ≠ "__name__" -> mb x=fq x) (E:s₁.heap.NoLimit) (hg:s₁.gens=#[]) (Q:∃p ob,mg "__builtins__"= some (.ref p)/\p≠r6/\s₁.heap.get? p=some ob/\ob.cls= .type "module" /\ ob.dict=some r6/\ob.data= .plain)
 (hT:∀T,TabAt K mg T->s₁.heap.get? T=some { cls:=.none,data:=.fields #[] }/\K.lookup T=none)
 (ha:s₁.heap.get? a=some { cls:=.type "list",data:=.seq C.toArray }) (hi:oa C ns) (hl:ns.length<=be) (hr:cA k BB)
 (F:∀base:Heap,K.In base->base.Ns fb mg->oM P w K mg base CX k fa fd [x] sp) (B:∀(s:a8) (u:a0),BindsTo s fd ⟨[u],[]⟩ [(x,u)])
 (O:∀H:Hp,SqL K H a (ns.map V.int)->sp [.ref a] H (λv _=>v= .bl true) λ_ _ _=>False)
 (S:∀H e s',CX [] H s₁ (λ_ _ _=>False) e s'->False) :
 sC (bX P w) BB (.call (.ref fa) ⟨[.ref a],[]⟩) (λr s'=>r= .ok (.ret (.bool true))/\OldK s₁.heap s'.heap/\s'.os=s₁.os/\wh s'.gens) s₁:=by
 have rv:=Cq hi;have I:=hi.length;have aT:∀T,TabAt K mg T->T≠a:=λT h z=>by
  have:=(hT T h).1;rw[z,ha] at this;cases this
 have j:∀H:Hp,(∀b,H b=none\/(∃o xs,H b=some (.frz o (.lst xs)))\/(H b=some (.tbl iz)/\TabAt K mg b))->(∀T,TabAt K mg T->H T=some (.tbl iz))->SqL K H a (ns.map V.int)->HOk P w H s₁.heap->(∀b,H b≠none->b=a\/TabAt K mg b)->(H a≠none->K.lookup a=none) ->
  sC (bX P w) BB (.call (.ref fa) ⟨[.ref a],[]⟩) (λr s'=>r= .ok (.ret (.bool true))/\OldK s₁.heap s'.heap/\s'.os=s₁.os/\wh s'.gens) s₁:=by
  intro H hO hTT hS CH hA hK;have U:∀{b:Addr}{o:Obj},s₁.heap.get? b=some o->H b=none->(vI s₁.heap H).get? b=some o:=λe n=>Uj e n;have noA:∀{b:Addr}{o:Obj}{M:Array DictEntry}{ep:Nat},s₁.heap.get? b=some o->o.data= .dict M ep->H b=none:=λ{b o M ep} e d=>by
   cases q:H b with
   | none=>rfl
   | some u=>
    rcases hA b (by rw[q];simp) with e' | e'
    . subst e';rw[ha] at e;cases e;have d':=d;cases d'
    . rw[(hT b e').1] at e;cases e;have d':=d;cases d'
  have Z:∀{b:Addr}{m:Str->B8},s₁.heap.Ns b m->(vI s₁.heap H).Ns b m:=λ{b m} ⟨o,M,ep,e,d,r⟩=>⟨o,M,ep,U e (noA e d),d,r⟩;have D:=λb o e=>U (R b o e) (by
   cases q:H b with
   | none=>rfl
   | some u=>
    rcases hA b (by rw[q];simp) with e' | e'
    . subst e';rw[hK (by rw[q];simp)] at e;cases e
    . rw[(hT b e').2] at e;cases e)
  have hM:Mod K mg (vI s₁.heap H):=⟨D,Z J,⟨mb,Z Y,hbb⟩,let ⟨mc,h1,h2⟩:=E;⟨mc,Z h1,h2⟩,by
   obtain ⟨p,ob,b1,b2,b3,b4,b5⟩:=Q;refine ⟨p,ob,b1,b2,U b3 ?_,b4,b5⟩
   cases q:H p with
   | none=>rfl
   | some u=>
    rcases hA p (by rw[q];simp) with e' | e'
    . rw[e',ha] at b3;cases b3;have b4:=b4;injection b4 with z;exact absurd z (by decide)
    . rw[(hT p e').1] at b3;cases b3;cases b4⟩
  have e0:M8 P w K mg (vI s₁.heap H) BB [] s₁ H:=⟨rfl,hM,λb o e=>Xr e,Nat.le_of_eq (Od _ _),trivial,λb Y=>absurd (show b∈([]:C3) from Y) (by simp),CH,.of_eq hg,hTT⟩;refine qA ((F _ D (Z J)).run BB [] s₁ H ⟨[.ref a],[]⟩ [.ref a] [.ref a] _ _ hr e0 (B s₁ (.ref a)) (.cons rfl .nil) (O H hS)) λr s' h=>?_
  cases r with
  | error e=>exact (S H e s' h).elim
  | ok fl=>
   cases fl with
   | next=>exact l9 h
   | brk=>exact l9 h
   | cont=>exact l9 h
   | ret u=>
    obtain ⟨v,H',os,bare,un,l,r',q⟩:=h;have q':=q;subst q';obtain rfl:u=a0.bool true:=r';have tabs:∀b,H b=some (.tbl iz)->∃L,s'.heap.get? b=some { cls:=.none,data:=.fields L }:=λb z=>by
     obtain ⟨L,e,_⟩:=l b _ (un.gm b _ z);exact ⟨L,e⟩
    refine ⟨rfl,⟨λb o e=>?_,λb o e=>un.there b o e (by simp)⟩,os,bare⟩
    cases q:H b with
    | none=>exact .inl (un.keep b o e q (by intro z;exact absurd (show b∈([]:C3) from z) (by simp)) (by simp))
    | some u=>
     rcases hO b with z | ⟨ob,xs,z⟩ | ⟨z,zt⟩
     . rw[q] at z;cases z
     . have z2:=un.il b ob _ z;obtain ⟨e1,_⟩:=CH b _ z;obtain ⟨e2,_⟩:=l b _ z2;rw[e] at e1;cases e1;exact .inl e2
     . obtain ⟨L,e2⟩:=tabs b z;have e3:=(hT b zt).1;rw[e] at e3;cases e3;obtain ⟨f,o,fd',c,t1,t2,t3,t4,t5⟩:=zt;obtain ⟨oc,vc,_,_,_,_,_,_,_,c1,c2,c3,c4,_⟩:=PySem.W.codeHd_of_K R t5;exact .inr (.inl ⟨⟨c,oc,vc,c1,c2,c3,c4⟩,rfl,#[],L,rfl,by rw[Array.empty_append];exact e2⟩)
 have y:∀T,TabAt K mg T->∀H:Hp,fZ P w H s₁.heap T (.tbl iz):=λT h H=>⟨#[],(hT T h).1,trivial,λpos cv z=>nomatch z⟩;have dec:∀T,Decidable (TabAt K mg T):=λT=>Classical.propDecidable _
 cases hk:K.lookup a with
 | some o=>
  have e:=R a o hk;rw[ha] at e;cases e;refine j (λb=>if TabAt K mg b then some (.tbl iz) else none) (λb=>?_) (λT h=>if_pos h) (.inr ⟨_,C.toArray,_,hk,rfl,rfl,rfl,by rw[br,I];exact hl,by simpa using rv⟩) (λb u z=>?_) (λb z=>?_) λz=>?_
  . by_cases h:TabAt K mg b
    . exact .inr (.inr ⟨if_pos h,h⟩)
    . exact .inl (if_neg h)
  . by_cases h:TabAt K mg b
    . have i:=(if_pos h).symm.trans z;cases i;exact y b h _
    . have i:=(if_neg h).symm.trans z;cases i
  . by_cases h:TabAt K mg b
    . exact .inr h
    . exact absurd (if_neg h) z
  . exact absurd (if_neg λh=>aT a h rfl) z
 | none=>
  refine j (λb=>if b=a then some (.frz { cls:=.type "list",data:=.seq C.toArray } (.lst (ns.map V.int))) else if TabAt K mg b then some (.tbl iz) else none) (λb=>?_) (λT h=>(if_neg (aT T h)).trans (if_pos h)) (.inl (.inr ⟨{ cls:=.type "list",data:=.seq C.toArray },if_pos rfl⟩)) (λb u z=>?_) (λb z=>?_) λ_=>hk
  . by_cases Y:b=a
    . exact .inr (.inl ⟨_,_,if_pos Y⟩)
    . by_cases h:TabAt K mg b
      . exact .inr (.inr ⟨(if_neg Y).trans (if_pos h),h⟩)
      . exact .inl ((if_neg Y).trans (if_neg h))
  . by_cases Y:b=a
    . have i:=(if_pos Y).symm.trans z;cases i;subst Y;exact ⟨ha,by rw[ai];exact hl,C,_,rv,ha⟩
    . by_cases h:TabAt K mg b
      . have i:=((if_neg Y).trans (if_pos h)).symm.trans z;cases i;exact y b h _
      . have i:=((if_neg Y).trans (if_neg h)).symm.trans z;cases i
  . by_cases Y:b=a
    . exact .inl Y
    . by_cases h:TabAt K mg b
      . exact .inr h
      . exact absurd ((if_neg Y).trans (if_neg h)) z
variable {c:Addr}
theorem Ni{P Q:Addr}(h:hV K c P=true)(g:hV K c Q=true):P=Q:=by
 unfold hV at h g;split at h
 . rename_i Z _ hk;rw[hk] at g;simp only[cp] at h g;have h1:=h.1.1.1.1.1;have U:=g.1.1.1.1.1;split at h1
   . rename_i Y e;rw[e] at U;exact (beq_iff_eq.mp h1).symm.trans (beq_iff_eq.mp U)
   . cases h1
 . cases h
noncomputable def nO(K:aE)(f P:Addr):Bool:=(match K.lookup f with
 | some ⟨_,_,.func fd,_⟩=>(match fd.code with
  | .ref c=>hV K c P
  | _=>false)
 | _=>false)&&(K.lookup P).isNone
theorem Xv{f:Addr}(Y:mg "ways"= some (.ref f))(h:nO K f a=true):∀T,TabAt K mg T->T=a/\K.lookup T=none:=by
 rintro T ⟨l,o,fd,c,t1,t2,t3,Z,U⟩;rw[Y] at t1;cases t1;unfold nO at h;rw[cp] at h;obtain ⟨h1,h2⟩:=h;rw[t2] at h1;obtain ⟨m,p,i,j⟩:=o;have t3:=t3;subst t3;have h1:(match fd.code with
  | .ref c=>hV K c a
  | _=>false)=true:=h1
 rw[Z] at h1;have e:=Ni U h1;subst e;exact ⟨rfl,by simpa using h2⟩
variable {T:Addr}{x:Str}
theorem Tu{l:vx}{n k:Nat}{q:fF}{I:(Str->B8)->Heap->Prop}{d:DefRec}{K:Params->aE}{as:C3}{e:∀P,as=(K P).map (·.1)}{CX:kn->CXT}{sp:kn->Sp}
 (R:l.most=some n) (z:n<=be) (r:d.params.defaults=[]) (Q:cA k BB)
 (F:∀(w:kn) (mg:Str->B8) (m:Addr) (h:Heap),(K w.params).In h->h.Ns fb mg->mg d.name=some (.ref m) ->
  ∃fd:oi,(∀(s:a8) (u:a0),BindsTo s fd ⟨[u],[]⟩ [(x,u)])/\(∃f,mg "ways"= some (.ref f)/\nO (K w.params) f T=true) /\
   ∀base:Heap,(K w.params).In base->base.Ns fb mg->oM l.prog w (K w.params) mg base (CX w) k m fd [x] (sp w))
 (p:∀(w:kn) (H:Hp) (a:Addr) (ns:B4),ns.length<=n->SqL (K w.params) H a (ns.map V.int)->sp w [.ref a] H (λv _=>v= .bl true) λ_ _ _=>False)
 (B:∀(w:kn) (H:Hp) (s:a8) (e:a0) (s':a8),CX w [] H s (λ_ _ _=>False) e s'->False) :
 PySem.W.WalkO q ps I (PySem.W.kmHook K as e [T]).says l.row.toRowW d [] (λf vs=>PySem.call f vs):=by
 refine Att.Jj R r λw s₀ j mg mb m o pm cd E a vs ns G Y ho hd L y i Z U D=>?_;have C:=PySem.W.km_in_of Y;obtain ⟨fd,hb,⟨f,M,O⟩,S⟩:=F w mg m _ C G.T.g y;refine Q6 C G.T.g G.T.b G.T.builtins G.T.nolimit D G.T.bmain (λP h=>?_) i Z (c5 U z) Q S hb (λH hS=>p w H a ns U hS) λH e s'=>B w H j e s';obtain ⟨e1,J⟩:=Xv M O P h;subst e1;exact ⟨PySem.W.km_tabs_of Y P (by simp),J⟩
def Kept(h h':Heap):Prop:=∀b o,h.get? b=some o->h'.get? b=some o
theorem Kept.trans{a b c:Heap}(x:Kept a b)(y:Kept b c):Kept a c:=λp o e=>y p o (x p o e)
variable {h:Heap}
theorem Kept.push(o:Obj):Kept h (h.push o):=λ_ _ e=>av _ e
def Tells(s:a8)(h:Heap)(n:Int)(x:a0)(s':a8):Prop:=∃h2 tk2 t,x= .int n t/\s'={ s with heap:=h2,toks:=tk2 }/\Kept h h2
variable {E Q:B3}{s:a8}{ep:Nat}{d:Addr}
section
variable {prog:fF}  {A:eK}   {hA:Heap}{K:Type} [DecidableEq K] {knd:KeyKind prog w K}{Cb:List (K×a0)}  {q I S:Addr}{R:Result->a8->Prop}
def zM(knd:KeyKind prog w K)(Cb:List (K×a0))(i:Nat)(v:a0):Prop:=∃k x,Cb[i]?=some (k,x)/\knd.is k v=true
def Mf(kf:Nat->Int)(i j:Nat):Prop:=∀l,l<j->kf i<=kf l/\(l<i->kf i<kf l)
theorem R1(U:Nat->Int)(hh:A.handled=none)(hm:hA.DictAt knd d Cb ep)(hI:hA.get? I=none)(hS:hA.get? S=none)(u:S≠I)
 (L:∀i key,zM knd Cb i key->∀h tk,Kept hA h->cf (bX prog w) A.in1 (call (.ref q) [key]) (Tells s h (U i)) (λ_ _=>False) { s with heap:=h,toks:=tk })
 (hR:∀i v h' Y,i<Cb.length->zM knd Cb i v->Mf U i Cb.length->Kept hA h'->R (.ok (.ret v)) { s with heap:=h',toks:=Y }) :
 ∀(r j i:Nat) (h:Heap) (tk:Nat) (B:a0) (tb:Tok) (c:Nat),Cb.length - j=r->j<=Cb.length->Kept hA h->h.get? S=some (pV "list" #[B,.int (U i) tb] c)->h.IsKeyIter I d j Cb.length ep ->
  zM knd Cb i B->i<j->Mf U i j->sC (bX prog w) A (.builtin "min.loop" ⟨[.ref I,.ref q,.ref S],[]⟩) R { s with heap:=h,toks:=tk }:=by
 have nm:(toString "min" ++ toString ".loop" : String) = "min.loop" := by decide
 have hd:hA.get? d≠none:=by
  obtain ⟨o,es,ho,_⟩:=hm;rw[ho];simp
 have dI:d≠I:=λz=>hd (z ▸ hI);have W:=Walks.dictKeys (knd:=knd) (A:=A.in1) hh I d dI Cb ep;have Z:∀{h h':Heap}{b:Addr},Kept hA h->hA.get? b=none->(∀a o,a≠b->h.get? a=some o->h'.get? a=some o)->Kept hA h':=λk n x a o e=>x a o (λz=>by rw[z,n] at e;cases e) (k a o e);have C:∀{h:Heap},Kept hA h->h.DictAt knd d Cb ep:=λk=>hm.at' λo e=>k d o e;have m:∀{h:Heap} (f:Array a0->Array a0) (a:Addr) (o:Obj),a≠S->h.get? a=some o->(h.update S (mT f)).get? a=some o:=λf a o ne e=>((eD ..).2 a ne).trans e;intro r
 induction r with
 | zero=>
  intro j i h tk B tb c hr hj kp M it hv hij O;have hjn:j=Cb.length:=by lia
  subst hjn;refine i3 tw ?_;rw[gc i6 _];refine ae (lS M rfl ?_);refine ae (oo (W.done _ _ _ ⟨it,C kp⟩ λh' Y Q=>?_));have H:∀a o,a≠I->h.get? a=some o->h'.get? a=some o:=λa o ne e=>Q a o (by simpa using ne) e;show cf _ _ (updateSeq S (λ_=>#[]) >>= _) _ _ _;refine ae (pd (H S _ u M) rfl (ae (BA (ar ?_))));exact hR i B _ _ hij hv O (Z (Z kp hI H) hS (m _))
 | succ r ih=>
  intro j i h tk B tb c hr hj kp M it hv hij O;refine i3 tw ?_;rw[gc i6 _];show cf _ _ (seqItems? (.ref S) >>= _) _ _ _;refine ae (lS M rfl ?_);show cf _ _ (tryCatch (AG (.ref I)) _ >>= _) _ _ _;refine ae (oo (W.item j _ _ _ (by lia) ⟨it,C kp⟩ λv h' Y hP st Q=>?_));have H:∀a o,a≠I->h.get? a=some o->h'.get? a=some o:=λa o ne e=>Q a o (by simpa using ne) e;have E:=Z kp hI H;show cf _ _ (tryCatch (holding [v] (call (.ref q) [v])) _ >>= _) _ _ _;refine ae (oo (ft (eR (L j v hP h' Y E) (λx s2 he=>?_) λ_ _ z=>z.elim)));obtain ⟨h2,tk2,t2,rfl,rfl,k2⟩:=he;have D:=E.trans k2;have p:=k2 S _ (H S _ u M);have J:h2.IsKeyIter I d (j+1) Cb.length ep:=st.1.at λo e=>k2 _ _ e;show cf _ _ (tryCatch (holding [v,.int (U j) t2] (richCompare .Lt (.int (U j) t2) (.int (U i) tb) >>= _)) _ >>= _) _ _ _;refine ae (oo (ft (ae (CmpOf.ints_lt (prog:=prog) (w:=w) (A:=A.in1) (P:=λi v=>∃t,v= .int (U i) t) U (λ_ _ y=>y) j i _ _ _ _ _ ⟨t2,rfl⟩ ⟨tb,rfl⟩ ?_))));refine ae (ft (kC (ae (BA (ar ?_)))))
  by_cases lt:U j<U i
  . simp only[lt,decide_true,if_true];refine ae (pd p rfl (ae (BA ?_)));rw[nm];refine ar ⟨kA i6 _,ih (j+1) j _ _ v t2 _ (by lia) (by lia) (Z D hS (m _)) (get?_update_seq p λ_=>#[v,.int (U j) t2]) (J.at λo e=>m _ _ _ (mu u) e) hP (mP _) λl hl=>?_⟩
    by_cases e:l=j
    . subst e;exact ⟨ia _,λz=>absurd z (fo _)⟩
    . have:=(O l (by lia)).1;exact ⟨by lia,λ_=>by lia⟩
  . simp only[lt,decide_false,fh,if_false];refine ae (BA ?_);rw[nm];refine ar ⟨kA i6 _,ih (j+1) i _ _ B tb c (by lia) (by lia) D p J hv (by lia) λl hl=>?_⟩
    by_cases e:l=j
    . subst e;exact ⟨by lia,λz=>by lia⟩
    . exact O l (by lia)
theorem Vc(a v:a0):xh "min" ⟨[a],[(Str.ofString "key",v)]⟩:=by kernel_rfl
theorem Sw(C:Nat->Int)(hh:A.handled=none)(M:(d == ke)=false)(B:s.heap.DictAt knd d Cb ep)(R:0<Cb.length)
 (Y:∀i key,zM knd Cb i key->∀h tk,Kept s.heap h->cf (bX prog w) A.in1 (call (.ref q) [key]) (Tells s h (C i)) (λ_ _=>False) { s with heap:=h,toks:=tk })
 (hQ:∀i v h' j,i<Cb.length->zM knd Cb i v->Mf C i Cb.length->Kept s.heap h'->Q v { s with heap:=h',toks:=j }) :
 cf (bX prog w) A (call (.builtin "min") [.ref d] [(Str.ofString "key",.ref q)]) Q E s:=by
 have nm:(toString "min" ++ toString ".loop" : String) = "min.loop" := by decide
 refine kmk_tree PySem.F.kind_min PySem.F.plain_min PySem.F.entry_min (Vc _ _) (ae (fg (rfl) (ae (ar (ae (wpAny_pyIter_dict M B ?_))))));refine ae (y9 ?_ (f7 _));rw[nm];generalize m:({ cls:=.type "dict_keyiterator",data:=.fields #[.ref d,.int 0 0,.int Cb.length 0,.int ep 0] }:Obj)=oI;have gI:(s.heap.push oI).get? s.heap.objs.size=some oI:=bo _ (by rw[<- m];rfl);have O:(s.heap.push oI).objs.size=s.heap.objs.size+1:=by rw[jS]
 have kp:Kept s.heap ((s.heap.push oI).push (pV "list" #[] 0)):=(Kept.push _).trans (Kept.push _);have Z:((s.heap.push oI).push (pV "list" #[] 0)).IsKeyIter s.heap.objs.size d 0 Cb.length ep:=⟨oI,Kept.push _ _ _ gI,by rw[<- m],by rw[<- m];rfl⟩;have H:((s.heap.push oI).push (pV "list" #[] 0)).get? (s.heap.push oI).objs.size=some (pV "list" #[] 0):=bo _ rfl;have D:s.heap.get? s.heap.objs.size=none:=vr (ax _);have L:s.heap.get? (s.heap.push oI).objs.size=none:=vr (by rw[O];lia);have U:(s.heap.push oI).objs.size≠s.heap.objs.size:=by rw[O];lia
 generalize (s.heap.push oI).objs.size=S at H L U;generalize s.heap.objs.size=I at Z D U;generalize (s.heap.push oI).push (pV "list" #[] 0)=h at kp Z H;refine ar ⟨kA i6 _,?_⟩;have hd:s.heap.get? d≠none:=by
  obtain ⟨o,es,ho,_⟩:=B;rw[ho];simp
 have dI:d≠I:=λz=>hd (z ▸ D);have W:=Walks.dictKeys (knd:=knd) (A:=A.in1) hh I d dI Cb ep;have p:∀{h h':Heap}{b:Addr},Kept s.heap h->s.heap.get? b=none->(∀a o,a≠b->h.get? a=some o->h'.get? a=some o)->Kept s.heap h':=λk n x a o e=>x a o (λz=>by rw[z,n] at e;cases e) (k a o e);have y:∀{h:Heap} (f:Array a0->Array a0) (a:Addr) (o:Obj),a≠S->h.get? a=some o->(h.update S (mT f)).get? a=some o:=λf a o ne e=>((eD ..).2 a ne).trans e;refine i3 tw ?_;rw[gc i6 _];refine ae (lS H rfl (ae (oo (W.item 0 _ _ _ R ⟨Z,B.at' λo e=>kp d o e⟩ λv h' j hP st k'=>?_))));have P:=λa o ne e=>k' a o (by simpa using ne) e;have r:=p kp D P;refine ae (oo (ft (eR (Y 0 v hP h' j r) (λx s2 he=>?_) λ_ _ z=>z.elim)));obtain ⟨h2,tk2,t2,rfl,rfl,J⟩:=he;have u:=J S _ (P S _ U H);refine ae (pd u rfl ?_);rw[nm];refine ar ⟨kA i6 _,R1 C hh B D L U Y hQ _ 1 0 _ _ v t2 _ rfl R (p (r.trans J) L (y _)) (get?_update_seq u λ_=>#[v,.int (C 0) t2]) ((st.1.at λo e=>J _ _ e).at λo e=>y _ _ _ (mu U) e) hP (by decide) λl hl=>?_⟩;have e:l=0:=by lia
 subst e;exact ⟨ia _,λz=>absurd z (fo _)⟩
end
variable {p p1 p2:Pos}{j:Nat}{Cf:Array a0}{params:Arguments}{scope:xa}{clos:B2}
section
open PySem.W
section
variable {prog:fF}  {A:eK}
theorem Hj:Ue (.Name x p):=λ_ _=>rfl
theorem Jv{i:Int}:Ue (.Constant (.int i) j p):=λ_ _=>rfl
theorem RL{env:Env}{y:Str}{r:Pos}{m:Str->B8}{key:a0}{f:Key->B8}{k:Key}{n:Int}{t:Tok}
 (hk:env.scope.kind= .function) (hx:env.kindOf x=some .local) (hy:env.kindOf y=some .free) (o:env.cells.lookup y=some c) (v:s.heap.Ns env.locals m) (q:m x=some key) (U:s.heap.IsCell c (some (.ref d)))
 (hd:s.heap.MapOf (bu prog w) d f) (Y:(bu prog w).is k key=true) (hv:f k=some (.ref a)) (l:w9 s.heap a Cf) (h0:Cf[0]?=some (.int n t)) (u:Cf.size<=be)
 (Z:nD x) (i:nD y) (e:(y == ("__classdict__" : Str))=false) (h:∀tk,Q (.int n t) { s with toks:=tk }) :
 cf (bX prog w) A (eval (.Subscript (.Subscript (.Name y p1) (.Name x p2) pos) (.Constant (.int 0) j p) r) env) Q E s:=by
 refine KR PySem.F.slot_tuple_getitem.lookup Jv (KR x5.lookup Hj ?_);refine AF (wpAny_loadName_free hk hy o U ?_ e) i;refine AF (wpAny_loadName_local hk hx v q ?_) Z;refine ⟨hd.typeIs,wpAny_getItem_of Y hd hv (wpAny_Constant_int ?_)⟩;have z:=tR;refine ⟨l.typeIs,getItem_tuple l (by decide) (by decide) ?_ h0 (h _)⟩;have:=(kH.mp h0).1;unfold seqIndex?;simp[this]
structure VP (h:Heap) (qual:Str) (params:Arguments) (body:Expr) (scope:xa) (clos:B2) (pm ctv:a0) (q c':Addr):Prop where
 adp:h.get? q=some (BC "<lambda>" qual params body scope clos pm c' ctv)
 code:h.CodeRec (.ref c') qual
theorem Gx{U:Heap}{Y:a0}{q:Str}(k:Kept h U)(x:h.CodeRec Y q):U.CodeRec Y q:=by
 obtain ⟨c,i,l,Z,e,j,hd,m⟩:=x;exact ⟨c,i,l,Z,e,k _ _ j,hd,m⟩
theorem Ny{U:Heap}(k:Kept h U)(x:w9 h a Cf):w9 U a Cf:=by
 obtain ⟨o,e,r⟩:=x;exact ⟨o,k _ _ e,r⟩
theorem Sq{l:Heap}{tk:Nat}{U:Str}{pm m:a0}{P:Addr}{y:Str}{Q:Pos}{key:a0}{R:List (Key×a0)}{k:Key}{n:Int}{t:Tok}
 (L:VP l U params (.Subscript (.Subscript (.Name y p1) (.Name x p2) pos) (.Constant (.int 0) j p) Q) scope clos pm m T P) (kp:Kept l h) (Y:A.depth<recursionLimit) (v:l.NoLimit)
 (Z:kD (kla_fn "<lambda>" U params (.Subscript (.Subscript (.Name y p1) (.Name x p2) pos) (.Constant (.int 0) j p) Q) scope clos pm (.ref P) m) ⟨[key],[]⟩=pure [(x,key)])
 (E:scope.isCoroutine=false) (u:scope.isGenerator=false) (hk:scope.kind= .function) (I:∀z∈scope.names,z.2 ≠ .cell) (hx:scope.names.lookup x=some .local) (hy:scope.names.lookup y=some .free) (hc:clos.lookup y=some c)
 (i:l.IsCell c (some (.ref d))) (hd:l.DictOf (bu prog w) d R) (q:(bu prog w).is k key=true) (hv:yb R k=some (.ref a)) (ht:w9 l a Cf) (h0:Cf[0]?=some (.int n t)) (J:Cf.size<=be)
 (C:nD x) (O:nD y) (D:(y == ("__classdict__" : Str))=false) :
 cf (bX prog w) A (call (.ref T) [key]) (Tells s h n) (λ_ _=>False) { s with heap:=h,toks:=tk }:=by
 refine AJ (kla_callFunE Y (kp _ _ L.adp) rfl E u rfl (Gx kp L.code) ?_);rw[Z];refine ar (wpAny_newFunctionEnv I (λz hz=>by rw[aS.mp hz];exact hx) (λh1 H M=>?_) hk);have S:=λb o e=>M.extBut b o (cS (bg e)) (av _ e);have B:=kp.trans S;refine ⟨v.keeps B,kla_codeExpr ?_⟩;refine RL (d:=d) hk hx hy hc H (by simp) ?_ ?_ q hv (Ny B ht) h0 J C O D λtk'=>⟨_,_,t,rfl,rfl,S⟩
 . obtain ⟨o,e,r⟩:=i;exact ⟨o,B _ _ e,r⟩
 . obtain ⟨o,es,ep,e,r⟩:=hd;exact Heap.DictOf.mapOf ⟨o,es,ep,B _ _ e,r⟩
end
end
variable {BY:A6}{σ:St}{H:Hp}{cd:Addr}
section
open PySem.W
theorem Ou{a b c U:a0}:∀(l:B9),TriplesOk l->zD pos (l++[a,b,c])=some U->zD pos l=some U\/U=c:=by
 intro l
 fun_induction TriplesOk l with
 | case1=>
  intro _ h;right;rw[j3] at h;unfold zD at h;split at h
  . rename_i e;cases e;split at h
    . exact (Option.some.inj h).symm
    . cases h
  . cases h
 | case2 line u m v o i j=>
  intro Y h;rw[k9,k9,k9] at h;unfold zD at h ⊢;split at h
  . rename_i Z;rw[if_pos Z];exact .inl h
  . rename_i Z;rw[if_neg Z];exact j Y h
 | case3=>intro Y;exact Y.elim
theorem T7{P:Addr}{U:Expr}(I:Cs X BY σ H s)(Z:X.env.code= .ref cd)(hhd:hV X.K cd P=true)(hT:TabAt X.K X.mg P)
 (hq:X.env.qual ++ "<lambda>"= iz) (D:AN scope X.env=pure clos) (m:defaultsOf params X.env=([],[]))
 (h:∀q c' Y H' s',Cs X BY σ H' s'->(H'=H\/(H c'=none/\H'=CB H c' (.own P)))->VP s'.heap iz params U scope clos ((X.mg "__name__").getD .none) Y q c'->(∀b o,b≠P->s.heap.get? b=some o->s'.heap.get? b=some o)->Q (.ref q) s') :
 cf (bX X.prog X.w) X.A (eval (.Lambda params U scope pos) X.env) Q E s:=by
 refine kla_eval m ?_;rw[hq];have v:=I.base.gm _ _ (I.ok.tabs P hT);obtain ⟨M,hP,S,r⟩:=I.CH P _ v;have C:=codeHd_of_K I.kIn hhd;have R:=I.mod.glob.keeps I.bk;obtain ⟨bm,ob,b1,b2,b3,b4,b5,b6⟩:=I.mod.bmain;have b3:=I.bk _ _ b3;have bP:bm≠P:=λz=>by rw[z,hP] at b3;cases b3;cases b4
 have gP:fb≠P:=λz=>by
  obtain ⟨o,es,ep,e,hd,_⟩:=R;rw[z,hP] at e;cases e;cases hd
 have bG:bm≠fb:=λz=>by
  obtain ⟨o,es,ep,e,hd,_⟩:=R;rw[<- z,b3] at e;cases e;rw[b6] at hd;cases hd
 have hb:s.heap.BuiltinsAt X.mg P:=⟨bm,ob,b1,b2,bG,bP,b3,b4,b5,b6⟩
 cases hf:zD pos M.toList with
 | some cv=>
  obtain ⟨c',oc,O,t,rfl,hown,ho,hd,i⟩:=r pos cv hf;refine kla_makeFunctionHit D I.ok.glob R Z C hP S hf hb λY j tk hk hsz=>?_;have keep:∀b o,s.heap.get? b=some o->(j.push (BC "<lambda>" iz params U scope clos ((X.mg "__name__").getD .none) c' Y)).get? b=some o:=λb o e=>av _ (hk b o e);exact h _ c' Y H _ (I.un (Un.kept keep) (I.CH.kept keep)) (.inl rfl) ⟨bo _ rfl,⟨c',oc,O,t,rfl,keep _ _ ho,hd,i⟩⟩ λb o _ e=>keep b o e
 | none=>
  refine kla_makeFunction D I.ok.glob R Z C hP S hf gP hb λc' Y j tk hx hge hlt x htb=>?_;have L:=I.CH.fresh hge;have nP:∀{b:Addr},H b=none->b≠P:=λn z=>by rw[z,v] at n;cases n
  have B:∀{b:Addr}{o:HO},H b=some o->b≠c':=λe z=>by rw[z,L] at e;cases e
  have old:∀b o,b≠P->s.heap.get? b=some o->(j.push (BC "<lambda>" iz params U scope clos ((X.mg "__name__").getD .none) c' Y)).get? b=some o:=λb o ne e=>av _ (hx b o ne e);have y:(j.push (BC "<lambda>" iz params U scope clos ((X.mg "__name__").getD .none) c' Y)).get? P=some (tabObj (M++#[iF pos.line,iF pos.col,.ref c'])):=av _ htb;obtain ⟨c2,oc,O,t,ec,ho,hd,i⟩:=x;cases ec;have l:(j.push (BC "<lambda>" iz params U scope clos ((X.mg "__name__").getD .none) c' Y)).get? c'=some oc:=av _ ho;have un:Un X.fs [] H (CB H c' (.own P)) s.heap (j.push (BC "<lambda>" iz params U scope clos ((X.mg "__name__").getD .none) c' Y)):=by
   refine ⟨λb o e n _ _=>old b o (nP n) e,λb o e n _ _=>⟨o.slots,old b o (nP n) e⟩,λb o e n _=>?_,λb o e _=>?_,λb xs e=>?_,λb o u e=>?_,λb q e=>?_⟩
   . rw[aL (cS (cK (bg e) hge))];exact n
   . by_cases z:b=P
     . rw[z];exact ⟨_,y⟩
     . exact ⟨o,old b o z e⟩
   . rw[aL (B e)];exact e
   . rw[aL (B e)];exact e
   . rw[aL (B e)];exact e
  have CH:HOk X.prog X.w (CB H c' (.own P)) (j.push (BC "<lambda>" iz params U scope clos ((X.mg "__name__").getD .none) c' Y)):=λb o e=>by
   by_cases z:b=c'
   . subst z;rw[bc] at e;cases e;exact ⟨oc,l⟩
   . rw[aL z] at e;have p:∀b2 a,H b2=some (.own a)->CB H c' (.own P) b2=some (.own a):=λb2 a q=>by rw[aL (B q)];exact q
     by_cases zP:b=P
     . subst zP;rw[v] at e;cases e;have el:(M++#[iF pos.line,iF pos.col,gX c']).toList=M.toList++[iF pos.line,iF pos.col,.ref c']:=by simp
       refine ⟨_,y,by rw[el];exact TriplesOk_snoc _ _ _ _ S,λJ cv hv=>?_⟩;rw[el] at hv;rcases Ou _ S hv with hv | hv
       . obtain ⟨c3,ob3,vs3,t3,e1,e2,e3,e4,e5⟩:=r J cv hv;exact ⟨c3,ob3,vs3,t3,e1,p _ _ e2,old _ _ (λz=>by rw[z,v] at e2;cases e2) e3,e4,e5⟩
       . exact ⟨c',oc,O,t,hv,bc,l,hd,i⟩
     . refine (I.CH b o e).stay (λb2 u hb2 q=>old b2 u ?_ q) (λb2 q=>p b2 b q) λb2 xs q=>by rw[aL (B q)];exact q
       rcases hb2 with rfl | hb2
       . exact zP
       . exact λz=>by rw[z,v] at hb2;cases hb2
  exact h _ c' Y _ _ (I.un un CH) (.inr ⟨L,rfl⟩) ⟨bo _ rfl,⟨c',oc,O,t,rfl,l,hd,i⟩⟩ old
end
variable {i:Nat}
section
open PySem.W
theorem Ak{U:Type}[DecidableEq U]:∀{vs:List (U×a0)}{i:Nat}{k:U}{x:a0},(vs.map (·.1)).Nodup->vs[i]?=some (k,x)->yb vs k=some x
 | [],i,k,x,_,e=>by simp at e
 | (k0,j)::vs,i,k,x,Z,e=>by
  unfold yb;rw[b9,i0] at Z
  match i with
  | 0=>
   have e:=Option.some.inj e;cases e;rw[List.find?_cons_of_pos (by simp)];rfl
  | i+1=>
   have e:=by simpa using e
   have Y:k0≠k:=λz=>Z.1 (by
    rw[z];exact bt.mpr ⟨_,d4 e,rfl⟩)
   rw[List.find?_cons_of_neg (by simpa using Y)];exact Ak Z.2 e
theorem Paired.getL{Y U:Type}{F:Y->U->Prop}:∀{l₁:List Y}{l₂:List U}{i:Nat}{b:U},oy F l₁ l₂->l₂[i]?=some b->∃a,l₁[i]?=some a/\F a b
 | _,_,i,b,.nil,e=>by simp at e
 | _,_,0,b,.cons r t,e=>by cases (Option.some.inj e);exact ⟨_,rfl,r⟩
 | _,_,i+1,b,.cons r t,e=>Paired.getL (i:=i) t (by simpa using e)
def ado(K:aE)(i:Nat):TE:=λσ H Q=>∃(d:Addr) (Cb:A7) (cs:Nat->Int),σ[i]?=some (some (.ref d))/\H d=some (.dK Cb)/\0<Cb.length/\(∀l k v,Cb[l]?=some (k,v)->∃a xs,v= .ref a/\SqT K H a (.int (cs l)::xs)) /\
 ∀l k v H',Cb[l]?=some (k,v)->Mf cs l Cb.length->aA H H'->Q (kV k) H'
theorem Jd{y:Str}{env:Env}(hs:scope.names=[(x,.local),(y,.free)])(U:env.cells.lookup y=some c):AN scope env=pure [(y,c)]:=by
 rw[AN,hs];simp[cellOf,U]
theorem Eu{k:Key}{u:a0}(h:(bu P w).is k u=true):Ct (kV k) u:=by
 cases k with
 | inl i=>exact x6 h
 | inr x=>exact Value.isStrOf_shape h
theorem Rk{k:Nat}{y:Str}{q1 q2 q3 q4 q5 kp:Pos}
 (hN:X.N[i]?=some y) (hv:X.env.kindOf y=some .cell) (hr:cA k X.A) (Z:X.env.code= .ref cd) (hhd:hV X.K cd T=true) (hT:TabAt X.K X.mg T) (hq:X.env.qual ++ "<lambda>"= iz)
 (hg:Gl X "min") (hm:X.mg "min"= none) (hs:scope.names=[(x,.local),(y,.free)]) (hco:scope.isCoroutine=false) (R:scope.isGenerator=false) (hk:scope.kind= .function) (S:defaultsOf params X.env=([],[]))
 (E:∀(pm cv ctv key:a0) (clos:B2) (body:Expr),kD (kla_fn "<lambda>" iz params body scope clos pm cv ctv) ⟨[key],[]⟩=pure [(x,key)]) (hxy:(y == x)=false)
 (hdx:nD x) (hdy:nD y) (hcy:(y == ("__classdict__" : Str))=false) :
 PE X (.Call (.Name "min" p) [.Name y p1] [⟨some "key",.Lambda params (.Subscript (.Subscript (.Name y q1) (.Name x q2) q3) (.Constant (.int 0) j q4) q5) scope p2,kp⟩] pos) (ado X.K i):=by
 rintro BY s σ H Q I ⟨d,Cb,cs,hσ,hd,hn,D,hQ⟩;have Y:Vis X.env.scope y:=.inr (.inl hv);refine k6 (kJ I hg hm rfl (callWith_kw ?_));have hpa:PA X [.Name y p1] _:=cC (fD hN Y hdy hcy) eO;refine thn (hpa pos BY s σ H (λvs H1=>vs=[.ref d]/\H1=H) I ⟨.ref d,hσ,rfl,rfl⟩) λus s1 Tz=>?_;obtain ⟨vs,H1,I1,rv,hvs,hH1⟩:=Tz;subst hvs;subst hH1;obtain ⟨u,J,rfl,ru,rn⟩:∃u J,us=u::J/\u=gX d/\J=[]:=by
  cases rv with
  | cons r t=>cases t;exact ⟨_,_,rfl,r,rfl⟩
 subst ru;subst rn;obtain ⟨c,hc⟩:=I1.ok.has y (.inl hv);refine kws_cons (T7 I1 Z hhd hT hq (Jd hs hc) S λq c' ctv H' s' O hH' L hkeep=>kws_nil ?_);have sH:aA H1 H':=by
  rcases hH' with rfl | ⟨z,rfl⟩
  . exact aA.refl _
  . exact λb o e=>by rw[aL (λy=>by rw[y,z] at e;cases e)];exact e
 have hd':=sH _ _ hd;obtain ⟨zl,hsm,vs,C,dd⟩:=O.CH d _ hd';obtain ⟨od,es,ep,e1,e2,e3,e4,e5,e6⟩:=id dd;have hat:s'.heap.DictAt (bu X.prog X.w) d vs ep:=⟨od,es,e1,e2,e3,e4,e5,e6⟩;have hl:=C.length;have M:s'.heap.IsCell c (some (.ref d)):=by
  obtain ⟨m,hn',P⟩:=O.loc;obtain ⟨u,ru,l⟩:=P i y (.ref d) hN hσ Y;obtain rfl:u=gX d:=ru;rcases l with ⟨l1,_⟩ | ⟨_,c2,l2,l3⟩
  . rw[hv] at l1;cases l1
  . rw[hc] at l2;cases l2;exact l3
 refine Sw cs hr.hd hsm hat (by lia) (λl key U h tk kp=>?_) λl v h' tk' hlt U hb kp=>?_
 . obtain ⟨k,x',hx,B⟩:=U;obtain ⟨⟨k2,v2⟩,g1,g2,g3⟩:=Paired.getL C hx;have g2:=g2;subst g2;obtain ⟨a,xs,ev,hq2⟩:=D l k2 v2 g1;have ev:=ev;subst ev;obtain rfl:x'=gX a:=g3;obtain ⟨Cf,rr,ht,hz⟩:=O.tuple (sH.lJ hq2);obtain ⟨t,its',rfl⟩:∃t its',Cf=a0.int (cs l) t::its':=by
    cases rr with
    | cons r t=>obtain ⟨t',rfl⟩:=r;exact ⟨_,_,rfl⟩
   have hz2:=rr.length;refine Sq (t:=t) L kp (by have:=hr.dp;show X.A.depth<_;lia) O.nolimit (E _ _ _ _ _ _) hco R hk ?_ ?_ ?_ (by simp) M dd B (Ak e6 hx) ht (by simp) (by rw[br,<- hz2];exact hz) hdx hdy hcy
   . intro z hz;rw[hs] at hz;rcases bq.mp hz with rfl | hz
     . intro z;cases z
     . rw[aS.mp hz];intro z;cases z
   . rw[hs];simp
   . rw[hs];rw[ya,hxy];simp[ya]
 . obtain ⟨k,x',hx,B⟩:=U;obtain ⟨⟨k2,v2⟩,g1,g2,g3⟩:=Paired.getL C hx;have g2:=g2;subst g2;rw[<- hl] at hb;exact ⟨kV k2,H',O.un (Un.kept kp) (O.CH.kept kp),Eu B,hQ l k2 v2 H' g1 hb sH⟩
end
noncomputable def dD:af->C4
 | .tuple (.int c::_)=>some c
 | _=>none
noncomputable def jf(k:af)(c:Int):B0->Co af
 | []=>.ok k
 | (k',d)::r=>match dD d with
  | some c'=>if c'<c then jf k' c' r else jf k c r
  | none=>.bad
noncomputable def jT:B0->Co af
 | []=>.bad
 | (k,d)::r=>match dD d with
  | some c=>jf k c r
  | none=>.bad
noncomputable def pg(i:Nat):ME:=λΓ=>match gv Γ i with
 | some (.dict Cb)=>jT Cb
 | _=>.bad
theorem uz:∀{r:B0}{k:af}{c:Int}{k2:af},jf k c r= .ok k2->(∀q∈r,(dD q.2).isSome=true) /\
 ((k2=k/\∀(l:Nat) (q:af×af) (Y:Int),r[l]?=some q->dD q.2=some Y->c<=Y)\/∃(l:Nat) (q:af×af) (Y:Int),r[l]?=some q/\dD q.2=some Y/\k2=q.1/\Y<c/\∀(l2:Nat) (q2:af×af) (i:Int),r[l2]?=some q2->dD q2.2=some i->Y<=i/\(l2<l->Y<i))
 | [],k,c,k2,h=>by
  cases h;exact ⟨λ_ q=>(nomatch q),.inl ⟨rfl,λl q Y e=>by simp at e⟩⟩
 | (k',d)::r,k,c,k2,h=>by
  unfold jf at h
  cases j:dD d with
  | none=>rw[j] at h;cases h
  | some Y=>
   rw[j] at h;have h:(if Y<c then jf k' Y r else jf k c r)= .ok k2:=h
   by_cases lt:Y<c
   . rw[if_pos lt] at h;obtain ⟨h1,h2⟩:=uz h;refine ⟨λq hq=>?_,.inr ?_⟩
     . rcases bq.mp hq with rfl | hq
       . rw[j];rfl
       . exact h1 q hq
     . rcases h2 with ⟨rfl,h2⟩ | ⟨l,q,p,o,s,m,e4,u⟩
       . refine ⟨0,(k2,d),Y,rfl,j,rfl,lt,λl2 q2 i Z U=>?_⟩
         match l2 with
         | 0=>
          cases (Option.some.inj Z);have U:=U;rw[j] at U;cases U;exact ⟨ia _,λz=>absurd z (fo _)⟩
         | l2+1=>exact ⟨h2 l2 q2 i (by simpa using Z) U,λz=>absurd z (mi _)⟩
       . refine ⟨l+1,q,p,by simpa using o,s,m,Int.lt_trans e4 lt,λl2 q2 i Z U=>?_⟩
         match l2 with
         | 0=>
          cases (Option.some.inj Z);have U:=U;rw[j] at U;cases U;exact ⟨fy e4,λ_=>e4⟩
         | l2+1=>
          have:=u l2 q2 i (by simpa using Z) U;exact ⟨this.1,λz=>this.2 (by lia)⟩
   . rw[if_neg lt] at h;obtain ⟨h1,h2⟩:=uz h;refine ⟨λq hq=>?_,?_⟩
     . rcases bq.mp hq with rfl | hq
       . rw[j];rfl
       . exact h1 q hq
     . rcases h2 with ⟨rfl,h2⟩ | ⟨l,q,p,o,s,m,e4,u⟩
       . refine .inl ⟨rfl,λl2 q2 i Z U=>?_⟩
         match l2 with
         | 0=>
          cases (Option.some.inj Z);have U:=U;rw[j] at U;cases U;lia
         | l2+1=>exact h2 l2 q2 i (by simpa using Z) U
       . refine .inr ⟨l+1,q,p,by simpa using o,s,m,e4,λl2 q2 i Z U=>?_⟩
         match l2 with
         | 0=>
          cases (Option.some.inj Z);have U:=U;rw[j] at U;cases U;exact ⟨by lia,λ_=>by lia⟩
         | l2+1=>
          have:=u l2 q2 i (by simpa using Z) U;exact ⟨this.1,λz=>this.2 (by lia)⟩
variable {Cb:B0}
theorem za{k:af}(h:jT Cb= .ok k):(∀q∈Cb,(dD q.2).isSome=true)/\∃(l:Nat) (q:af×af) (c:Int),Cb[l]?=some q/\dD q.2=some c/\k=q.1/\∀(l2:Nat) (q2:af×af) (Y:Int),Cb[l2]?=some q2->dD q2.2=some Y->c<=Y/\(l2<l->c<Y):=by
 match Cb,h with
 | (k0,d)::r,h=>
  have h:(match dD d with
   | some c=>jf k0 c r
   | none=>.bad)= .ok k:=h
  cases Z:dD d with
  | none=>rw[Z] at h;cases h
  | some c=>
   rw[Z] at h;obtain ⟨h1,h2⟩:=uz h;refine ⟨λq hq=>?_,?_⟩
   . rcases bq.mp hq with rfl | hq
     . rw[Z];rfl
     . exact h1 q hq
   . rcases h2 with ⟨rfl,h2⟩ | ⟨l,q,m,j,o,i,e4,p⟩
     . refine ⟨0,(k,d),c,rfl,Z,rfl,λl2 q2 Y e U=>?_⟩
       match l2 with
       | 0=>
        cases (Option.some.inj e);have U:=U;rw[Z] at U;cases U;exact ⟨ia _,λz=>absurd z (fo _)⟩
       | l2+1=>exact ⟨h2 l2 q2 Y (by simpa using e) U,λz=>absurd z (mi _)⟩
     . refine ⟨l+1,q,m,by simpa using j,o,i,λl2 q2 Y e U=>?_⟩
       match l2 with
       | 0=>
        cases (Option.some.inj e);have U:=U;rw[Z] at U;cases U;exact ⟨fy e4,λ_=>e4⟩
       | l2+1=>
        have:=p l2 q2 Y (by simpa using e) U;exact ⟨this.1,λz=>this.2 (by lia)⟩
variable {A:Hp}
theorem uK:∀{Cb:B0}{u:A7}{l:Nat}{key:Key}{v:V},aR K A Cb u->u[l]?=some (key,v)->∃k d,Cb[l]?=some (k,d)/\bJ k=some key/\Rp K A d v
 | [],u,l,key,v,h,e=>by rw[aR.nil.mp h] at e;simp at e
 | (k,d)::r,u,l,key,v,h,e=>by
  obtain ⟨U,o,p,rfl,h1,h2,m⟩:=aR.cons.mp h
  match l with
  | 0=>cases (Option.some.inj e);exact ⟨k,d,rfl,h1,h2⟩
  | l+1=>
   obtain ⟨i,Y,Z,j⟩:=uK m (by simpa using e);exact ⟨i,Y,by simpa using Z,j⟩
theorem SN{d:af}{v:V}{c:Int}(h:Rp K A d v)(U:dD d=some c):∃a xs,v= .ref a/\SqT K A a (.int c::xs):=by
 unfold dD at U;split at U
 . cases U;obtain ⟨a,Z,rfl,h1,h2⟩:=Rp.tuple.mp h;obtain ⟨v,r,rfl,Y,_⟩:=au.cons.mp h2;rw[Rp.int.mp Y] at h1;exact ⟨a,r,rfl,h1⟩
 . cases U
theorem wV{k:Nat}{y:Str}{q1 q2 q3 q4 q5 kp:Pos}(i:Nat)(hi:isO (fl O i)=true)
 (hN:X.N[i]?=some y) (hv:X.env.kindOf y=some .cell) (hr:cA k X.A) (m:X.env.code= .ref cd) (R:hV X.K cd T=true) (hT:TabAt X.K X.mg T) (hq:X.env.qual ++ "<lambda>"= iz)
 (hg:Gl X "min") (hm:X.mg "min"= none) (hs:scope.names=[(x,.local),(y,.free)]) (hco:scope.isCoroutine=false) (C:scope.isGenerator=false) (hk:scope.kind= .function) (I:defaultsOf params X.env=([],[]))
 (s:∀(pm cv ctv key:a0) (clos:B2) (body:Expr),kD (PySem.W.kla_fn "<lambda>" iz params body scope clos pm cv ctv) ⟨[key],[]⟩=pure [(x,key)]) (P:(y == x)=false:=by decide)
 (hdx:nD x:=by decide) (S:nD y:=by decide) (hcy:(y == ("__classdict__" : Str))=false:=by decide) :
 QE X (.Call (.Name "min" p) [.Name y p1] [⟨some "key",.Lambda params (.Subscript (.Subscript (.Name y q1) (.Name x q2) q3) (.Constant (.int 0) j q4) q5) scope p2,kp⟩] pos) (tE X.K O (pg i)):=
 QE.imp (Rk hN hv hr m R hT hq hg hm hs hco C hk I s P hdx S hcy) λσ H Q J=>by
  obtain ⟨A,B,Γ,d,r,em,kk⟩:=J;unfold pg at em
  cases o:gv Γ i with
  | none=>rw[o] at em;cases em
  | some dl=>
   rw[o] at em
   cases dl with
   | dict U=>
    have em:=em;obtain ⟨q,u,e1,h1,h2⟩:=uw r hi o;obtain ⟨E,l0,w0,c0,L,f2,f3,f4⟩:=za em;have D:=h2.len;have Z:∀l key v,u[l]?=some (key,v)->∃(w:af×af) (c:Int),U[l]?=some w/\dD w.2=some c/\bJ w.1=some key/\Rp X.K A w.2 v:=λl key v e=>by
     obtain ⟨k1,d1,Y,g2,g3⟩:=uK h2 e;obtain ⟨c,hc⟩:=eP.mp (E _ (d4 Y));exact ⟨(k1,d1),c,Y,hc,g2,g3⟩
    refine ⟨q,u,λl=>((U[l]?).bind λw=>dD w.2).getD 0,fC e1,h1,?_,λl key v e=>?_,λl key v H' e hb sH=>?_⟩
    . rw[<- D];exact iS (f7 _) (bE.mp L).1
    . obtain ⟨w,c,Y,g2,g3,g4⟩:=Z l key v e;obtain ⟨a,xs,rfl,hq⟩:=SN g4 g2;refine ⟨a,xs,rfl,r.a.lJ ?_⟩;show SqT X.K A a (.int (((U[l]?).bind λw=>dD w.2).getD 0)::xs);rw[Y];show SqT X.K A a (.int ((dD w.2).getD 0)::xs);rw[g2];exact hq
    . obtain ⟨w,c,Y,g2,g3,g4⟩:=Z l key v e;have hl:=(bE.mp Y).1;have hl0:=(bE.mp L).1;have cl:((U[l]?).bind λw=>dD w.2).getD 0=c:=by rw[Y];show (dD w.2).getD 0=c;rw[g2];rfl
      have M:((U[l0]?).bind λw=>dD w.2).getD 0=c0:=by rw[L];show (dD w0.2).getD 0=c0;rw[f2];rfl
      have b1:=hb l0 (by lia);have b1:((U[l]?).bind λw=>dD w.2).getD 0<=((U[l0]?).bind λw=>dD w.2).getD 0/\(l0<l->((U[l]?).bind λw=>dD w.2).getD 0<((U[l0]?).bind λw=>dD w.2).getD 0):=b1;rw[cl,M] at b1;have b2:=f4 l w c Y g2;have el:l=l0:=by
       rcases yY l l0 with z | z | z
       . have:=b2.2 z;lia
       . exact z
       . have:=b1.2 z;lia
      subst el;rw[L] at Y;cases Y;refine kk _ A H' ⟨aA.refl _,sH,r.a.trans sH,λ_ h _=>h⟩ ?_;rw[f3]
      cases hw:w0.1 with
      | int n=>rw[hw] at g3;cases g3;exact Rp.int.mpr rfl
      | str z=>rw[hw] at g3;cases g3;exact Rp.str.mpr rfl
      | _=>rw[hw] at g3;cases g3
   | _=>cases em
noncomputable def rM(i:Nat)(f:B5->Co af)(ms:List ME):MS:=λΓ=>(evs ms Γ).bind λds=>(f ds).bind λr=>match Lz r with
 | some (_,dm)=>.ok (.nx (Γ.set i (some dm)))
 | none=>.bad
variable {Ol O':C0}
section
variable     {f:B5->Co af}{ms:List ME}{m:ME}{e:Expr}
theorem wM(i:Nat)(z:QE X e (tM K O i f ms))(hs:i4 e none pos.line X.env=pure false:=by rfl):QS X (.Expr e pos) (tS K rm Ol O O (rM i f ms)):=QS.imp (rY z.h hs) λD C H U=>by
 obtain ⟨A,B,s,o,r,em,k⟩:=U;obtain ⟨u,Z,em⟩:=Co.aq em;obtain ⟨t,Y,em⟩:=Co.aq em
 cases h:Lz t with
 | none=>rw[h] at em;cases em
 | some q=>
  obtain ⟨d,l⟩:=q;rw[h] at em;cases em;rw[Wq h] at Y;exact ⟨A,B,s,u,d,l,r,Z,Y,λv m y j x nw p=>k _ m y j x nw⟩
end
noncomputable def aaC(n j:Nat)(m:MS)(ds:B5):Co af:=(m (ds.map some++cE (n - ds.length) none)).bind λo=>match o with
 | .rt d=>.ok d
 | .nx Γ=>match gv Γ j with
  | some dm=>.ok (.tuple [.none,dm])
  | none=>.bad
 | _=>.bad
variable {N:B7}
section
variable     {base:Heap}
theorem Sv{st:Stmt}{k:Nat}{fs:C0}{O O':Addr->C0}{m:MS}(F:At K mg x st ps)(S:cO N ps (aK st))(hf:fs.length=ps.length)(hn:ps.length<=N.length)
 (C:∀p,fl (O p) j= .fix p) (hO:∀p i,i<fs.length->i≠j->(fl (O p) i= .CD/\fl fs i= .CD)\/fl (O p) i= .CC) (D:∀p,fl (O' p) j= .fix p)
 (hbody:∀(p:Addr) (f:Addr) (Y:a0) (A:eK) (CU:C7) (s:a8) (H:Hp) (E:XK),cA k (A.deeper (kQ x (aK st) s.heap.objs.size f Y)) ->
  QSs (jx CX0 P w K mg base N x (aK st) f Y A CU s H E).nox (bC st) (tS K (.m p) Ol (O p) (O' p) m)):Def P w K mg base (k+1) x ps (spM K fs j (aaC N.length j m)):=by
 refine F.ok S (λvs H Q E h=>?_) (λf Y A CU s H vs Q E hr h=>?_)
 . obtain ⟨_,_,_,_,_,_,_,_,_,h,_⟩:=h;rw[h,hf]
 . obtain ⟨A',B,ds,d,e,p,o,ha,hb,hv,hd,hj,hp,ap,bp,Z,U,em,q⟩:=h;obtain ⟨out,e1,em⟩:=Co.aq em
   cases out with
   | rt d'=>
    cases em;refine ⟨_,(hbody p f Y A CU s H E hr).h,A',rem H p,_,_,zj ha hb hv hd hj hp ap bp Z U (C p) (hO p) (by lia),e1,λv I M s1 s2 R nw rv=>?_⟩;obtain ⟨d1,L,o1,ed,r1,y,r3,r4⟩:=rv;cases ed;refine q v I M o1 R s1 (λb u l hu=>s2 b u (by rw[sU l];exact hu)) (λb q1 q2=>?_) r3 y r4 r1
    by_cases z:b=p
    . subst z;exact r3
    . exact nw b q1 (by rw[sU z];exact q2)
   | nx r=>
    cases J:gv r j with
    | none=>
     have em:(match gv r j with | some e=>Co.ok (af.tuple [.none,e]) | none=>.bad)= .ok (af.tuple [d,e]):=em;rw[J] at em;cases em
    | some L=>
     have em:(match gv r j with | some e=>Co.ok (af.tuple [.none,e]) | none=>.bad)= .ok (.tuple [d,e]):=em;rw[J] at em;cases em;refine ⟨_,(hbody p f Y A CU s H E hr).h,A',rem H p,_,_,zj ha hb hv hd hj hp ap bp Z U (C p) (hO p) (by lia),e1,λσ2 I M y R nw=>?_⟩;obtain ⟨v',ev,sl⟩:=y.slot j e J;rw[D p] at sl;obtain ⟨rfl,p',o',e',h1,h2,_,h4⟩:=sl;cases e';refine q .non I M o' R y.a (λb u l hu=>y.b b u (by rw[sU l];exact hu)) (λb q1 q2=>?_) h2 h1 h4 (Rp.none.mpr rfl)
     by_cases z:b=p
     . subst z;exact h2
     . exact nw b q1 (by rw[sU z];exact q2)
   | _=>cases em
end
noncomputable def nF(key:Key)(Cb:B0):B0:=Cb.filter λkv=>!decide (bJ kv.1=some key)
theorem Dn{key:Key}:∀{Cb:B0}{u:A7},aR K A Cb u->aR K A (nF key Cb) (rA u key)
 | [],u,h=>by rw[aR.nil] at h;subst h;exact aR.nil.mpr rfl
 | (k,d)::r,u,h=>by
  obtain ⟨U,v,j,rfl,hk,hd,i⟩:=aR.cons.mp h;have Z:=Dn (key:=key) i;unfold nF rA at Z ⊢
  by_cases e:bJ k=some key
  . have Y:=(lA hk).mp e;rw[fI (by simp[e]),fI (by simp[Y])];exact Z
  . have Y:¬ U=key:=λz=>e ((lA hk).mpr z);rw[iL (by simp[e]),iL (by simp[Y])];exact aR.cons.mpr ⟨U,v,_,rfl,hk,hd,Z⟩
noncomputable def jY(i j t:Nat):MS:=λΓ=>match gv Γ t,gv Γ i,gv Γ j with
 | some kd,some (.dict fs),some (.dict ws)=>(match bJ kd with
  | some key=>(match cD key ws with
   | some d=>gd (fs.length<be/\i < Γ.length/\j < Γ.length) (.ok (.nx ((Γ.set j (some (.dict (nF key ws)))).set i (some (.dict (iW kd key d fs))))))
   | none=>.bad)
  | none=>.bad)
 | _,_,_=>.bad
variable {tpos apos cpos:Pos}
theorem qL(i j t:Nat){y z:Str}{M:Pos}(hu:X.A.units+66<qE)(hij:i≠j)(hti:t≠i)(htj:t≠j)(hi:isO (fl O i)=true:=by rfl)(hj:isO (fl O j)=true:=by rfl)(ht:fl O t= .CD:=by rfl)
 (P:X.N[i]?=some x:=by rfl) (hNy:X.N[j]?=some y:=by rfl) (I:X.N[t]?=some z:=by rfl)
 (hvx:Vis X.env.scope x:=by first | exact kx rfl | exact xl (kx rfl) | exact xl (xl rfl)) (hvy:Vis X.env.scope y:=by first | exact kx rfl | exact xl (kx rfl) | exact xl (xl rfl)) (s:Vis X.env.scope z:=by first | exact kx rfl | exact xl (kx rfl) | exact xl (xl rfl))
 (R:nD x:=by decide) (hcx:(x == ("__classdict__" : Str))=false:=by decide) (hdy:nD y:=by decide) (hcy:(y == ("__classdict__" : Str))=false:=by decide) (l:nD z:=by decide) (E:(z == ("__classdict__" : Str))=false:=by decide)
 (hm:M1 X (.Name y p2) "pop" apos (.Name z M) cpos:=by exact ⟨rfl,rfl,rfl,rfl⟩)
 (hs:i4 (.Call (.Attribute (.Name y p2) "pop" apos) [.Name z M] [] cpos) (some (.Subscript (.Name x p) (.Name z p1) tpos)) pos.line X.env=pure false:=by rfl) :
 QS X (.Assign [.Subscript (.Name x p) (.Name z p1) tpos] (.Call (.Attribute (.Name y p2) "pop" apos) [.Name z M] [] cpos) pos) (tS X.K rm Ol O O (jY i j t)):=by
 refine QS.imp (J5 (by lia) (fD P hvx R hcx) (fD I s l E) (UL (fD hNy hvy hdy hcy) (fD I s l E) hm) hs) λD σ H C=>?_;obtain ⟨A,B,U,o,r,em,k⟩:=C;unfold jY at em
 cases e:gv U t with
 | none=>rw[e] at em;cases em
 | some u=>
  cases L:gv U i with
  | none=>rw[e,L] at em;cases em
  | some di=>
   cases J:gv U j with
   | none=>rw[e,L,J] at em;cases di <;> cases em
   | some dj=>
    rw[e,L,J] at em
    cases di with
    | dict fs=>
     cases dj with
     | dict Z=>
      have em:(match bJ u with
       | some key=>(match cD key Z with
        | some d=>gd (fs.length<be/\i<U.length/\j<U.length) (Co.ok (Out.nx ((U.set j (some (.dict (nF key Z)))).set i (some (.dict (iW u key d fs))))))
        | none=>.bad)
       | none=>.bad)= .ok o:=em
      cases hk:bJ u with
      | none=>rw[hk] at em;cases em
      | some key=>
       rw[hk] at em;have em:(match cD key Z with
        | some d=>gd (fs.length<be/\i<U.length/\j<U.length) (Co.ok (Out.nx ((U.set j (some (.dict (nF key Z)))).set i (some (.dict (iW u key d fs))))))
        | none=>.bad)= .ok o:=em
       cases hl:cD key Z with
       | none=>rw[hl] at em;cases em
       | some d=>
        rw[hl] at em;obtain ⟨⟨hz,hli,Q⟩,em⟩:=bZ em;cases em;obtain ⟨vt,et,st⟩:=r.slot t u e;rw[ht] at st;have vk:=Rp.key st hk;obtain ⟨qj,S,ej,Y,rj⟩:=uw r hj J;obtain ⟨v,lv,rv⟩:=(rj.look).1 d hl;have r1:=r.change (o':=.dK (rA S key)) hj Q (by rw[J];simp) ej Y (.inr ⟨_,_,rfl,rfl,Dn rj⟩);have m:gv (U.set j (some (.dict (nF key Z)))) i=some (.dict fs):=by
         have:=L;unfold gv at this ⊢;rw[aM (mu hij)];exact this
        obtain ⟨qi,ui,ei,q,ri⟩:=uw r1 hi m;refine ⟨.ref qj,fC ej,qj,rfl,.inl ⟨S,.inl Y⟩,vt,fC et,S,key,v,Y,vk,lv,.ref qi,fC ei,vt,fC et,qi,_,rfl,by rw[vk];exact vO.k q (by rw[<- ri.length];exact hz),?_⟩;exact k σ A _ (r1.change hi (by rw[fm];exact hli) (by rw[m];simp) ei q (.inr ⟨_,_,rfl,rfl,aR.put hk rv ri⟩)) (aA.refl _) (λ_ h _=>h)
     | _=>cases em
    | _=>cases em
variable {u:A7}{o:Obj}
theorem Cs.adi(I:Cs X BY σ H s)(h:H d=some (.dK u)):∃o,Cs X BY σ (CB H d (.frz o (.dK u))) s:=by
 have hd:=I.CH d _ h;obtain ⟨z,C,J,p,o,E,ep,r,D⟩:=id hd;have ne:∀{b:Addr},H b=none->b≠d:=λl y=>by rw[y,h] at l;cases l
 have nd:∀{b:Addr}{x:HO},H b=some x->x ≠ .dK u->b≠d:=λZ hx y=>by rw[y,h] at Z;exact hx (Option.some.inj Z).symm
 refine ⟨o,⟨I.ok,I.os,I.bare,⟨I.base.keep,I.base.slot,λb U q n hx=>?_,I.base.there,λb Y q=>?_,λb U v q=>?_,λb B q=>?_⟩,I.loc,I.cell,?_,λx c q=>?_,λq m=>?_,λb U q=>?_,I.len⟩⟩
 . have:=I.base.free b U q n hx;rw[aL (ne this)];exact this
 . have:=I.base.tups b Y q;rw[aL (nd this (by intro z;cases z))];exact this
 . have:=I.base.il b U v q;rw[aL (nd this (by intro z;cases z))];exact this
 . have:=I.base.gm b B q;rw[aL (nd this (by intro z;cases z))];exact this
 . rw[aL (ne I.free)];exact I.free
 . rw[aL (ne (I.fY x c q))];exact I.fY x c q
 . obtain ⟨q1,q2,q3⟩:=I.pin q m;exact ⟨q1,by rw[aL (ne q2)];exact q2,q3⟩
 . have i:∀c a,H c=some (.own a)->CB H d (.frz o (.dK u)) c=some (.own a):=λc a q=>by rw[aL (nd q (by intro z;cases z))];exact q
   have j:∀c Y,H c=some (.tup Y)->CB H d (.frz o (.dK u)) c=some (.tup Y):=λc Y q=>by rw[aL (nd q (by intro z;cases z))];exact q
   by_cases Z:b=d
   . subst Z;rw[bc] at q;cases q;exact ⟨r,hd.stay (λ_ _ _ e=>e) (λc q=>i c _ q) j⟩
   . rw[aL Z] at q;exact (I.CH b U q).stay (λ_ _ _ e=>e) (λc q=>i c _ q) j
theorem Cs.aai(I:Cs X BY σ H s)(h:H d=some (.frz o (.dK u)))(i:∀o u,X.H₀ d≠some (.frz o u)):Cs X BY σ (CB H d (.dK u)) s:=by
 have ne:∀{b:Addr},H b=none->b≠d:=λm y=>by rw[y,h] at m;cases m
 have nd:∀{b:Addr}{x:HO},H b=some x->x ≠ .frz o (.dK u)->b≠d:=λZ hx y=>by rw[y,h] at Z;exact hx (Option.some.inj Z).symm
 refine ⟨I.ok,I.os,I.bare,⟨I.base.keep,I.base.slot,λb U q n hx=>?_,I.base.there,λb Y q=>?_,λb U r q=>?_,λb v q=>?_⟩,I.loc,I.cell,?_,λx c q=>?_,λq p=>?_,λb U q=>?_,I.len⟩
 . have:=I.base.free b U q n hx;rw[aL (ne this)];exact this
 . have:=I.base.tups b Y q;rw[aL (nd this (by intro z;cases z))];exact this
 . have:=I.base.il b U r q;rw[aL (λz=>by rw[z] at q;exact i _ _ q)];exact this
 . have:=I.base.gm b v q;rw[aL (nd this (by intro z;cases z))];exact this
 . rw[aL (ne I.free)];exact I.free
 . rw[aL (ne (I.fY x c q))];exact I.fY x c q
 . obtain ⟨q1,q2,q3⟩:=I.pin q p;exact ⟨q1,by rw[aL (ne q2)];exact q2,q3⟩
 . have j:∀c a,H c=some (.own a)->CB H d (.dK u) c=some (.own a):=λc a q=>by rw[aL (nd q (by intro z;cases z))];exact q
   have l:∀c Y,H c=some (.tup Y)->CB H d (.dK u) c=some (.tup Y):=λc Y q=>by rw[aL (nd q (by intro z;cases z))];exact q
   by_cases Z:b=d
   . subst Z;rw[bc] at q;cases q;exact (I.CH b _ h).2.stay (λ_ _ _ e=>e) (λc q=>j c _ q) l
   . rw[aL Z] at q;exact (I.CH b U q).stay (λ_ _ _ e=>e) (λc q=>j c _ q) l
noncomputable def Itk(d:Addr)(o:Obj)(u:A7):It:=⟨λi H=>H d=some (.frz o (.dK u))/\i<u.length,λi H x H'=>H'=H/\∃k v,u[i]?=some (k,v)/\x=kV k,λi H=>H d=some (.frz o (.dK u))/\u.length<=i⟩
variable {es:Array DictEntry}
theorem oU(I:Cs X BY σ H s)(h:H d=some (.frz o (.dK u)))(i:o.data= .dict es ep) :
 (d == ke)=false/\∃vs,KV u vs/\s.heap.DictAt (bu X.prog X.w) d vs ep:=by
 obtain ⟨j,z,U,vs,Y,q,m,p,e,l,Z,e4⟩:=I.CH d _ h;rw[j] at e;cases e;rw[i] at Z;cases Z;exact ⟨U,vs,Y,o,es,j,l,i,e4⟩
variable {tg:Expr}{it:Addr}
theorem O3(S:o.data= .dict es ep):Turn P w K tg (Itk d o u) [it] it (λi h=>h.IsKeyIter it d i u.length ep) where
 mem:=by simp
 obj:=λi h st b Z=>by
  have e:=by simpa using Z
  subst e;obtain ⟨o,e,c,d⟩:=st;exact ⟨o,e,λv z=>by rw[d] at z;cases z⟩
 keep:=λi h h' st k=>st.at λo e=>k it (by simp) o e
 item:=by
  intro X hP L C hc i j s σ H E I p st y;subst hP L C;obtain ⟨hd,hi⟩:=y;obtain ⟨O,M,U,Y⟩:=oU I hd S;have r:=U.length;obtain ⟨⟨k,x⟩,hx⟩:∃q,M[i]?=some q:=⟨M[i],aI (by lia)⟩;obtain ⟨⟨k2,v2⟩,g1,g2,g3⟩:=Paired.getL U hx;have g2:=g2;subst g2;obtain ⟨R,B,f2,D,Q,J⟩:=p it (by simp);rw[r] at st;refine wpAny_pyNext_dict_item st Y hx λkey h' l m sb=>?_;have I1:=I.turned (t':=s.toks) (λb o Z e=>(sb.2 b Z).trans e) R B D Q J;obtain ⟨o2,e,c,dd⟩:=id m;exact ⟨key,rfl,uW e c dd (by decide) ⟨kV k2,H,I1,Eu l,⟨rfl,k2,v2,g1,rfl⟩,by rw[r];exact m,λb Z=>(p b Z).1⟩⟩
 done:=by
  intro X hP L C hc i j s σ H E I p st y;subst hP L C;obtain ⟨hd,hi⟩:=y;obtain ⟨O,M,U,Y⟩:=oU I hd S;have r:=U.length;obtain ⟨R,B,f2,D,Q,J⟩:=p it (by simp);rw[r] at st;exact wpAny_pyNext_dict_end (I.ok.hd hc) st Y (by simp;lia) λh' eb=>⟨rfl,I.turned (λb o Z e=>eb b o Z e) R B D Q J⟩
 self:=λ_ _ _ _ _ st h=>wpAny_pyIter_keyiter st h
def acg(te:TE):TI:=λσ H R=>te σ H λx H1=>∃d o u,x= .ref d/\H1 d=some (.frz o (.dK u))/\R (Itk d o u) H1
theorem Xk{l:Expr}{p:TE}(i:PE X l p):PI X tg l (acg p):=by
 intro U s M H R I h;refine thn (i U s M H _ I h) λv s1 Y=>?_;obtain ⟨x,B,Z,C,d,o,u,ex,hd,E⟩:=Y;subst ex;obtain rfl:v=gX d:=C;obtain ⟨q,z,m,L,j,P,J,ep,y,D,r,e4⟩:=Z.CH d _ hd;rw[q] at y;cases y;have i:=j.length;refine wpAny_pyIter_dict m ⟨o,J,q,D,r,e4⟩ ?_;have kp:∀b ob,s1.heap.get? b=some ob->(s1.heap.push { cls:=.type "dict_keyiterator",data:=.fields #[.ref d,.int 0 0,.int L.length 0,.int ep 0] }).get? b=some ob:=λb ob e=>av _ e;refine ⟨s1.heap.objs.size,[s1.heap.objs.size],_,Itk d o u,B,rfl,Z.un (Un.kept kp) (Z.CH.kept kp),O3 r,⟨_,bo _ rfl,rfl,by rw[i];rfl⟩,λb O=>?_,E⟩;rw[aS.mp O];exact Z.p8 (ax _) (Z.CH.fresh (ax _))
noncomputable def sw(d:Addr)(y:HO)(F:Hp):Hp:=λb=>if b=d then (F b).map λ_=>y else F b
variable {y:HO}{F:Hp}
theorem jA{b:Addr}(h:b≠d):sw d y F b=F b:=if_neg h
variable {z:HO}
theorem q8(h:F d=some z):sw d y F d=some y:=by rw[sw,if_pos rfl,h];rfl
theorem fK{b:Addr}:sw d y F b=none↔F b=none:=by
 unfold sw;split
 . exact Option.map_eq_none_iff
 . exact Iff.rfl
theorem QM(h:F d=some z):sw d y F=CB F d y:=by
 funext b;unfold sw CB;split
 . rename_i e;subst e;rw[h];rfl
 . rfl
theorem Av(s:aA A H):aA (sw d y A) (sw d y H):=λb o e=>by
 by_cases U:b=d
 . subst U
   cases q:A b with
   | none=>rw[fK.mpr q] at e;cases e
   | some z=>rw[q8 q] at e;cases e;exact q8 (s _ _ q)
 . rw[jA U] at e ⊢;exact s _ _ e
def IsU(u:A7)(z:HO):Prop:=z= .dK u\/∃o,z= .frz o (.dK u)
theorem IsU.rd{U:A7}(h:A d=some z)(i:IsU u z)(r:Rd A d (.dK U)):U=u:=by
 rcases i with rfl | ⟨o,rfl⟩ <;> rcases r with r | ⟨Y,r⟩ <;> rw[h] at r <;> cases r <;> rfl
theorem IsU.of(h:A d=some z)(i:IsU u z):Rd A d (.dK u):=by
 rcases i with rfl | ⟨o,rfl⟩
 . exact .inl h
 . exact .inr ⟨o,h⟩
variable {B A':Hp}{Γ:Ev}
def AtU(F:Hp)(d:Addr)(u:A7):Prop:=∀z,F d=some z->IsU u z
theorem Ph{xs:C1}(h:AtU F d u)(r:SqL K F a xs):SqL K (sw d y F) a xs:=by
 rcases r with (e | ⟨o,e⟩) | k
 . exact .inl (.inl (by rw[jA (λq=>by subst q;rcases h _ e with z | ⟨_,z⟩ <;> cases z)];exact e))
 . exact .inl (.inr ⟨o,by rw[jA (λq=>by subst q;rcases h _ e with z | ⟨_,z⟩ <;> cases z)];exact e⟩)
 . exact .inr k
theorem Fx{xs:C1}(h:AtU F d u)(r:SqT K F a xs):SqT K (sw d y F) a xs:=by
 rcases r with (e | ⟨o,e⟩) | k
 . exact .inl (.inl (by rw[jA (λq=>by subst q;rcases h _ e with z | ⟨_,z⟩ <;> cases z)];exact e))
 . exact .inl (.inr ⟨o,by rw[jA (λq=>by subst q;rcases h _ e with z | ⟨_,z⟩ <;> cases z)];exact e⟩)
 . exact .inr k
theorem O9{w:A7}(h:AtU F d u)(hy:IsU u y)(r:Rd F a (.dK w)):Rd (sw d y F) a (.dK w):=by
 by_cases q:a=d
 . subst q;obtain ⟨z,e⟩:∃z,F a=some z:=by rcases r with e | ⟨o,e⟩ <;> exact ⟨_,e⟩
   rw[IsU.rd e (h _ e) r];exact hy.of (q8 e)
 . rcases r with e | ⟨o,e⟩
   . exact .inl (by rw[jA q];exact e)
   . exact .inr ⟨o,by rw[jA q];exact e⟩
mutual
theorem xW(h:AtU A d u)(hy:IsU u y):∀(x:af) {v:V},Rp K A x v->Rp K (sw d y A) x v
 | .none,v,r=>by rw[Rp] at r ⊢;exact r
 | .bool _,v,r=>by rw[Rp] at r ⊢;exact r
 | .int _,v,r=>by rw[Rp] at r ⊢;exact r
 | .str _,v,r=>by rw[Rp] at r ⊢;exact r
 | .list ds,v,r=>by
  rw[Rp] at r ⊢;obtain ⟨a,vs,h1,h2,h3⟩:=r;exact ⟨a,vs,h1,Ph h h2,qb h hy ds h3⟩
 | .tuple ds,v,r=>by
  rw[Rp] at r ⊢;obtain ⟨a,vs,h1,h2,h3⟩:=r;exact ⟨a,vs,h1,Fx h h2,qb h hy ds h3⟩
 | .dict Cb,v,r=>by
  rw[Rp] at r ⊢;obtain ⟨a,w,h1,h2,h3⟩:=r;exact ⟨a,w,h1,O9 h hy h2,xg h hy Cb h3⟩
theorem qb(h:AtU A d u)(hy:IsU u y):∀(ds:B5) {vs:C1},au K A ds vs->au K (sw d y A) ds vs
 | [],vs,r=>by rw[au] at r ⊢;exact r
 | x::ds,vs,r=>by
  rw[au] at r ⊢;obtain ⟨v,t,h1,h2,h3⟩:=r;exact ⟨v,t,h1,xW h hy x h2,qb h hy ds h3⟩
theorem xg(h:AtU A d u)(hy:IsU u y):∀(Cb:B0) {w:A7},aR K A Cb w->aR K (sw d y A) Cb w
 | [],w,r=>by rw[aR] at r ⊢;exact r
 | (k,x)::t,w,r=>by
  rw[aR] at r ⊢;obtain ⟨key,v,w',h1,h2,h3,h4⟩:=r;exact ⟨key,v,w',h1,h2,xW h hy x h3,xg h hy t h4⟩
end
theorem abY{x:af}{v:V}(e:AtU A d u)(j:AtU B d u)(hy:IsU u y)(p:Pk K A B x v):Pk K (sw d y A) (sw d y B) x v:=by
 rcases p with p | ⟨p,l,i,Y,Z,h1,h2⟩ | ⟨p,w,U,Y,Z,h1,h2⟩
 . exact .inl (xW e hy x p)
 . exact .inr (.inl ⟨p,l,i,Y,Z,Ph j h1,qb e hy i h2⟩)
 . exact .inr (.inr ⟨p,w,U,Y,Z,O9 j hy h1,xg e hy U h2⟩)
theorem J6{x:af}{o:HO}(i:AtU A d u)(hy:IsU u y)(h:g8 K A x o):g8 K (sw d y A) x o:=by
 rcases h with ⟨e,j,Y,Z,h⟩ | ⟨U,w,Y,Z,h⟩
 . exact .inl ⟨e,j,Y,Z,qb i hy e h⟩
 . exact .inr ⟨U,w,Y,Z,xg i hy U h⟩
theorem aaA{xs:List (lK×Addr×a0)}(U:AtU A d u)(hy:IsU u y)(h:RpN K A Cb xs):RpN K (sw d y A) Cb xs:=by
 obtain ⟨Y,h1,h2⟩:=h;exact ⟨Y,h1.keeps λb Z q=>Fx U q,Paired.uh h2 λ_ _ z=>⟨z.1,xW U hy _ z.2⟩⟩
theorem Zj{xs:List (B4×Addr×a0)}(U:AtU A d u)(hy:IsU u y)(h:RpT K A Cb xs):RpT K (sw d y A) Cb xs:=
 Paired.uh h λ_ _ z=>⟨z.1,Fx U z.2.1,z.2.2.imp λv q=>⟨q.1,xW U hy _ q.2⟩⟩
theorem AtU.sub(s:aA A H)(h:AtU H d u):AtU A d u:=λz e=>h z (s _ _ e)
theorem aQ.sw(r:aQ K A B H O σ Γ)(D:AtU H d u)(hd:A d≠none\/B d≠none)(hy:IsU u y):aQ K (sw d y A) (sw d y B) (sw d y H) O σ Γ:=by
 have Z:=D.sub r.a;have I:=D.sub r.b;have nd:∀{p:Addr},A p=none->B p=none->p≠d:=λa b z=>by
  subst z;rcases hd with q | q
  . exact q a
  . exact q b
 refine ⟨Av r.a,Av r.b,r.len,λi x e=>?_,r.sep⟩;obtain ⟨v,J,q⟩:=r.slot i x e;refine ⟨v,J,?_⟩
 cases j:fl O i with
 | CD=>rw[j] at q;exact xW Z hy x q
 | CC=>rw[j] at q;exact abY Z I hy q
 | own=>
  rw[j] at q;obtain ⟨p,o,rfl,h1,h2,U,Y⟩:=q;exact ⟨p,o,rfl,by rw[jA (nd h2 U)];exact h1,fK.mpr h2,fK.mpr U,J6 Z hy Y⟩
 | fix M=>
  rw[j] at q;obtain ⟨q0,p,o,rfl,h1,h2,U,Y⟩:=q;exact ⟨q0,p,o,rfl,by rw[jA (nd h2 U)];exact h1,fK.mpr h2,fK.mpr U,J6 Z hy Y⟩
 | kit=>
  rw[j] at q;obtain ⟨p,m,l,h1,h2,U,Y⟩:=q;exact ⟨p,m,l,h1,h2,by rw[jA (λz=>by subst z;rcases Z _ U with z | ⟨_,z⟩ <;> cases z)];exact U,Zj Z hy Y⟩
 | exc C=>
  rw[j] at q;obtain ⟨p,E,h1,h2,U⟩:=q;exact ⟨p,E,h1,by rw[jA (λz=>by subst z;rcases Z _ h2 with z | ⟨_,z⟩ <;> cases z)];exact h2,U⟩
 | nst b=>
  rw[j] at q;intro z;obtain ⟨p,m,l,h1,h2,U,Y,s,L⟩:=q z;exact ⟨p,m,l,h1,h2,by rw[jA (nd Y s)];exact U,fK.mpr Y,fK.mpr s,aaA Z hy L⟩
theorem Kz(h:∀x,F d=some x->x=z):sw d z (sw d y F)=F:=by
 funext b
 by_cases q:b=d
 . subst q
   cases e:F b with
   | none=>exact fK.mpr (fK.mpr e)
   | some x=>rw[q8 (q8 e),h x e]
 . rw[jA q,jA q]
theorem abb(h:New (sw d y A) A' (sw d y B)):New A (sw d z A') B:=λp h1 h2=>fK.mpr (h p (fK.mpr h1) (λe=>h2 (fK.mp e)))
theorem TY(h:aA (sw d y A) A')(hz:∀x,A d=some x->x=z):aA A (sw d z A'):=by
 have:=Av (d:=d) (y:=z) h;rwa [Kz hz] at this
def Uz(σ:St)(H:Hp)(i:Nat):Prop:=∃d o u,sv σ i=some (.ref d)/\H d=some (.frz o (.dK u))
noncomputable def itK(i:Nat):MI:=λΓ=>match gv Γ i with
 | some (.dict Cb)=>.ok (Cb.map (·.1))
 | _=>.bad
def aa3(K:aE)(O:C0)(i:Nat)(it:MI):TI:=λσ H R=>Uz σ H i/\tIc K O it σ H R
def tSz(K:aE)(rm:Rm)(Ol O O':C0)(i:Nat)(m:MS):TS:=λD σ H=>Uz σ H i/\tS K rm Ol O O' m D σ H
noncomputable def isR:Fl->Bool
 | .CD=>true
 | .CC=>true
 | _=>false
theorem wA(r:aQ K A B H O σ Γ)(hi:isR (fl O i)=true)(x:gv Γ i=some (.dict Cb)) :
 ∃d u z,sv σ i=some (.ref d)/\H d=some z/\IsU u z/\(A d≠none\/B d≠none)/\aR K A Cb u:=by
 obtain ⟨v,m,q⟩:=r.slot i _ x;have go:∀{F:Hp}{d:Addr}{u:A7},aA F H->Rd F d (.dK u)->F d≠none/\∃z,H d=some z/\IsU u z:=λs rd=>by
  rcases rd with e | ⟨o,e⟩
  . exact ⟨by rw[e];simp,_,s _ _ e,.inl rfl⟩
  . exact ⟨by rw[e];simp,_,s _ _ e,.inr ⟨o,rfl⟩⟩
 have p:Pk K A B (.dict Cb) v:=by
  cases Z:fl O i with
  | CD=>rw[Z] at q;exact .inl q
  | CC=>rwa [Z] at q
  | _=>rw[Z] at hi;cases hi
 rcases p with p | ⟨p,y,C,j,U,h1,h2⟩ | ⟨p,w,l,j,U,h1,h2⟩
 . obtain ⟨d,u,rfl,h1,h2⟩:=Rp.dict.mp p;obtain ⟨n,z,e,Y⟩:=go r.a h1;exact ⟨d,u,z,m,e,Y,.inl n,h2⟩
 . cases U
 . cases U;subst j;obtain ⟨n,z,e,Y⟩:=go r.b h1;exact ⟨p,w,z,m,e,Y,.inr n,h2⟩
variable {xs:B5}
theorem Ra(h:itK i Γ = .ok xs):∃Cb,gv Γ i=some (.dict Cb)/\xs=Cb.map (·.1):=by
 unfold itK at h
 cases e:gv Γ i with
 | none=>rw[e] at h;cases h
 | some d=>
  rw[e] at h
  cases d with
  | dict Cb=>cases h;exact ⟨Cb,rfl,rfl⟩
  | _=>cases h
theorem EY{k:af}{key:Key}(h:bJ k=some key):Rp K A k (kV key):=by
 cases k with
 | int i=>cases h;exact Rp.int.mpr rfl
 | str x=>cases h;exact Rp.str.mpr rfl
 | _=>cases h
variable {O1:C0}
section
variable  {Ob:C0}  {is:B6}{it:MI}{g:MG}{mc me:ME}{elt iter:Expr}{ifs:C2}  {nt:Nat}
theorem Wz(i:Nat)(hi:isR (fl O i)=true:=by rfl)(nm:Nm X i x:=by walk_at "nm"):QI X tg (.Name x pos) (aa3 X.K O i (itK i)):=
 QI.imp (Xk (fD nm.1 nm.2 nm.3 nm.4)) λσ H R Y=>by
  obtain ⟨⟨d,o,u,q,Z⟩,A,B,Γ,P,r,em,k⟩:=Y;obtain ⟨E,y,rfl⟩:=Ra em;obtain ⟨d',s,z,e,l,C,f4,m⟩:=wA r hi y;rw[q] at e;cases e;rw[Z] at l;cases l;have D:s=u:=by
   rcases C with z | ⟨S,z⟩ <;> cases z;rfl
  subst D;have Q:=m.len;refine ⟨.ref d,fC q,d,o,s,rfl,Z,k _ A H (aO.refl r.a) ⟨λn j s1 U p=>⟨U _ _ Z,by rw[ai] at p;lia⟩,λj s1 U=>⟨U _ _ Z,by rw[ai];lia⟩,λn I j v H3 sa U s3 p hy=>?_⟩⟩;obtain ⟨rfl,key,w,J,rfl⟩:=hy;obtain ⟨M,d1,L,g2,g3⟩:=uK m J;exact ⟨I,M,by rw[a9,L];rfl,aO.refl U,EY g2⟩
theorem Wh{st:Stmt}{m:MS}(i:Nat)(hi:isR (fl O i)=true)(hm:∀Γ o,m Γ = .ok o->(∃Cb,gv Γ i=some (.dict Cb))/\∃Γ',o= .nx Γ')(h:QS X st (tSz X.K rm Ol O O' i m)):QS X st (tS X.K rm Ol O O' m):=by
 refine ⟨λZ s Q H D I ⟨A,B,Γ,x,r,em,k⟩=>?_⟩;obtain ⟨⟨Cb,S⟩,Γ',rfl⟩:=hm Γ x em;obtain ⟨d,u,z,L,Y,f3,E,f5⟩:=wA r hi S;rcases f3 with rfl | ⟨o,rfl⟩
 . obtain ⟨o,R⟩:=I.adi Y;have hH:AtU H d u:=λz e=>by rw[Y] at e;cases e;exact .inl rfl
   have r1:=r.sw hH E (.inr ⟨o,rfl⟩);rw[<- QM Y] at R;have eA:∀z,A d=some z->z= .dK u:=λz e=>by have:=r.a _ _ e;rw[Y] at this;cases this;rfl
   have eB:∀z,B d=some z->z= .dK u:=λz e=>by have:=r.b _ _ e;rw[Y] at this;cases this;rfl
   have C:sw d (.frz o (.dK u)) A d≠none\/sw d (.frz o (.dK u)) B d≠none:=by
    rcases E with q | q
    . exact .inl λz=>q (fK.mp z)
    . exact .inr λz=>q (fK.mp z)
   refine thn (h.h Z s Q _ ⟨λU p=>∃j,aQ X.K j (sw d (.frz o (.dK u)) B) p O' U Γ'/\aA (sw d (.frz o (.dK u)) A) j/\New (sw d (.frz o (.dK u)) A) j (sw d (.frz o (.dK u)) B),λ_ _=>False,λ_ _=>False,λ_ _=>False⟩ R ⟨⟨d,o,u,L,q8 Y⟩,_,_,Γ,_,r1,em,λU j p l y nw=>⟨j,l,y,nw⟩⟩) λfl s1 q=>?_
   cases fl with
   | next=>
    obtain ⟨U,p,I2,j,l,y,nw⟩:=q;have J:p d=some (.frz o (.dK u)):=by
     rcases E with q | q
     . cases e:A d with
       | none=>exact absurd e q
       | some z=>exact l.a _ _ (y _ _ (q8 e))
     . cases e:B d with
       | none=>exact absurd e q
       | some z=>exact l.b _ _ (q8 e)
    have hU:AtU p d u:=λz e=>by rw[J] at e;cases e;exact .inr ⟨o,rfl⟩
    have P:=I2.aai J λo' u' q=>by have:=I.base.il _ _ _ q;rw[Y] at this;cases this
    rw[<- QM J] at P;have M:=l.sw hU (by
     rcases C with q | q
     . left;intro z
       cases e:sw d (.frz o (.dK u)) A d with
       | none=>exact q e
       | some x=>rw[y _ _ e] at z;cases z
     . exact .inr q) (.inl rfl)
    rw[Kz eB] at M;exact ⟨U,_,P,k U _ _ M (TY y eA) (abb nw)⟩
   | ret v=>
    obtain ⟨_,_,_,_,_,z⟩:=q;exact l9 z
   | brk=>obtain ⟨_,_,_,z⟩:=q;exact l9 z
   | cont=>obtain ⟨_,_,_,z⟩:=q;exact l9 z
 . exact h.h Z s Q H D I ⟨⟨d,o,u,L,Y⟩,A,B,Γ,_,r,em,k⟩
theorem Uq(q i:Nat){O2:C0}(Z:B7)(ix:B6){y:Str}(m:isR (fl O q)=true)(I:X.N.Nodup)(B:X.N[i]?=some y)(hy:Loc X.env.scope y)(S:gK X scope ix=true)(hc:X.calm=true)(v:Ob=lW Z.length ix O)(l:nt=Z.length)(u:∀j∈is,j<Z.length)(hi:QI X tg iter (aa3 X.K O q (itK q)))
 (E:∀cl C U Y fp,QG (X.comp scope Z ix cl C U Y fp) tg (tG X.K Ob O1 is g)) (P:∀cl C U Y fp,vZ (X.comp scope Z ix cl C U Y fp) ifs (tT X.K O1 mc)) (Q:∀cl C U Y fp,QE (X.comp scope Z ix cl C U Y fp) elt (tE X.K O1 me))
 (M:i<O.length:=by exact of_decide_eq_true rfl) (s:i4 (.ListComp elt [⟨tg,iter,ifs,0⟩] scope pos) (some (.Name y p)) p1.line X.env=pure true:=by rfl)
 (L:X.fn y=true\/X.env.scope.names.lookup y=some .local:=by walk_at "hf")
 (hs:∀x,jv iter X.env x=pure x:=by intro _;rfl) (R:O.set i .own=O2:=by rfl):QS X (.Assign [.Name y p] (.ListComp elt [⟨tg,iter,ifs,0⟩] scope pos) p1) (tS X.K rm Ol O O2 (aN i (bU (itK q) g mc me nt ix))):=
 Wh q m (λΓ o h=>by
  obtain ⟨x,e1,h⟩:=Co.aq h;obtain ⟨xs,J,_⟩:=Co.aq e1;obtain ⟨r,e,_⟩:=Ra J;obtain ⟨_,h⟩:=bZ h;cases h;exact ⟨⟨r,e⟩,_,rfl⟩) (R ▸ QS.imp (J7 I B hy S hc hi.h (λcl C U Y fp=>(E cl C U Y fp).h) (λcl C U Y fp=>(P cl C U Y fp).h) (λcl C U Y fp=>(Q cl C U Y fp).h) s L hs) λD σ H h=>⟨h.1,wQ (λσ' H' Q' z=>yM v l u z) M h.2⟩)
end
section
variable     {base:Heap}
theorem Yv{st:Stmt}{k:Nat}{fs:C0}{m:MS}(F:At K mg "ways" st ps)(hT:TabAt K mg T)(S:cO N ps (aK st))(p:fs.length=ps.length)(hn:ps.length<=N.length)
 (C:∀i,i<fs.length->(fl O i= .CD/\fl fs i= .CD)\/fl O i= .CC)
 (hbody:∀(f cd:Addr) (A:eK) (CU:C7) (s:a8) (H:Hp) (E:XK),hV K cd T=true->cA k (A.deeper (kQ "ways" (aK st) s.heap.objs.size f (.ref cd))) ->
  QSs (jx CX0 P w K mg base N "ways" (aK st) f (.ref cd) A CU s H E).nox (bC st) (tS K rm Ol O O' m)):Def P w K mg base (k+1) "ways" ps (spF K fs rm (fnR N.length m)):=by
 obtain ⟨f,fd,F,b,Z⟩:=F.ex;refine ⟨f,fd,?_,b,F.kp,Z⟩;obtain ⟨oc,od,kV,j,pm,an,J,ct,B,rfl,lk,U⟩:=F.ex;obtain ⟨f',o,D,c,t1,t2,t3,Y,e⟩:=hT;rw[Z] at t1;cases t1;rw[lk] at t2;cases t2;have t3:=t3;cases t3;have Y:=Y;subst Y;refine Et lk U S (λL H Q E h=>?_) λA CU s H L Q E x h=>?_
 . obtain ⟨A,u,d,_,h,_⟩:=h;rw[h.length.1,p]
 . obtain ⟨r,u,d,ha,h,em,q⟩:=h;obtain ⟨o,I,em⟩:=Co.aq em
   cases o with
   | rt d'=>
    cases em;exact ⟨_,(hbody f c A CU s H E e x).h.nox,r,H,_,_,jJ ha h C (by lia),I,λv z l s1 M R nw y=>q v z l ⟨R,M,s1,nw⟩ y⟩
   | _=>cases em
theorem R6{f:Addr}(Y:mg "ways"= some (.ref f))(h:nO K f T=true):TabAt K mg T:=by
 unfold nO at h;rw[cp] at h;have h:=h.1;split at h
 . rename_i i j fd Z e;split at h
   . rename_i c U;exact ⟨f,_,fd,c,Y,e,rfl,U,h⟩
   . cases h
 . cases h
end
noncomputable def Lf:B5->Co af
 | [.dict Cb]=>gd (Cb.length<=be) (.ok (.list (Cb.map (·.1))))
 | _=>.bad
theorem Kl:∀{Cb:B0}{u:A7},aR K A Cb u->au K A (Cb.map (·.1)) (u.map λq=>kV q.1)
 | [],u,h=>by rw[aR.nil.mp h];exact au.nil.mpr rfl
 | (k,d)::r,u,h=>by
  obtain ⟨key,v,Y,rfl,h1,h2,U⟩:=aR.cons.mp h;exact au.cons.mpr ⟨_,_,rfl,EY h1,Kl U⟩
theorem CW{P:fF}{w:kn}:∀{u:A7}{vs:List (Key×a0)}{Cc:B9},KV u vs->Cc.length=vs.length->(∀(j:Nat) (v:a0),Cc[j]?=some v->∃(k:Key) (x:a0),vs[j]?=some (k,x)/\(bu P w).is k v=true)->CA (u.map λq=>kV q.1) Cc
 | [],_,[],_,_,_=>.nil
 | [],_,a::Cc,.nil,U,_=>by simp at U
 | q::u,_,[],.cons r t,U,_=>by simp at U
 | q::u,vs,a::Cc,h,U,hv=>by
  cases h with
  | @cons _ q2 _ l r t=>
   obtain ⟨k,x,Y,i⟩:=hv 0 a rfl;have Y:=Option.some.inj Y;subst Y;refine .cons ?_ (CW (P:=P) (w:=w) t (by simpa using U) λj v e=>?_)
   . show Ct (kV q.1) a;rw[r.1];exact Eu i
   . obtain ⟨o,m,Z,e4⟩:=hv (j+1) v (by simpa using e);exact ⟨o,m,by simpa using Z,e4⟩
theorem LQ(E:X.calm=true):eH X (.type "list") (λxs H Q=>∃p u,xs=[.ref p]/\Rd H p (.dK u)/\∀l,H l=none->Q (.ref l) (CB H l (.lst (u.map λq=>kV q.1)))):=by
 rintro m s S H xs M Q I r ⟨p,u,rfl,C,q⟩;obtain ⟨z,rfl,y⟩:=vals1 r;cases y;obtain ⟨hz,Y,R,x,B⟩:=m9 I.CH C;obtain ⟨ep,Z⟩:=B.dictAt;have L:=x.length;refine PySem.W.kdl_call (PySem.W.kdl_dict Y) (I.ok.hd E) Z (by lia) λP O i c hk J U=>?_;have o:=I.CH.fresh (ax s.heap.objs.size);have D:=CW x (by rw[cx];exact U.1) λj v e=>U.2 j v (by rw[<- eL];exact e);refine ⟨.ref s.heap.objs.size,_,I.un (Un.laid hk (ax _) o) (I.CH.laid hk (ax _) ?_),rfl,q _ o⟩;exact ⟨by rw[ai];lia,i.toList,c,D,by rw[Array.toArray_toList];exact J⟩
theorem U7(x:X.calm=true):eH X (.type "list") (rCF X.K Lf):=by
 rintro U s j H y o Q I r ⟨A,m,d,e,ha,p,k⟩
 match m,e with
 | [.dict Cb],e=>
  obtain ⟨hz,e⟩:=bZ e;cases e;obtain ⟨v,z,rfl,Z,i⟩:=p.cons;obtain rfl:=i.nil;obtain ⟨l,u,rfl,h1,q1⟩:=Z.dict ha;exact LQ x U s j H _ o Q I r ⟨l,u,rfl,h1,λq Y=>k _ A _ (aO.lay ha Y) ⟨q,_,rfl,Y,bc,ha.free Y,.inl ⟨_,_,rfl,rfl,Kl q1⟩⟩⟩
theorem Ku:vE table "dict.update.loop"= some Builtin.«dict.update.loop» := u7 (by kernel_rfl)
theorem z7:plainId "dict.update.loop"= true:=by decide +kernel
theorem XJ:AM (.type "list") "keys"= pure none:=by rw[ma,ib];kernel_rfl
section
variable   {A:eK}
theorem Wn{k:Nat}{Q:B8->a8->Prop}(hx:s.heap.get? a=some o)(i:o.cls= .type "list")(U:o.data= .seq Cf k)(hd:o.dict=none)(m:A.handled=none)
 (h:∀h' tk e,Heap.NewExcOf s.heap h' e "AttributeError" -> Q none { s with heap:=h',toks:=tk }):cf (bX P w) A (getAttr? (.ref a) "keys") Q E s:=by
 obtain ⟨c,j,p,l⟩:=o;simp only at i U hd;subst i U hd;obtain ⟨q,g,d,tk,os⟩:=s;have hT:∀Y,(⟨q,g,d,Y,os⟩:a8).TypeIs (.ref a) "list" := λ_=>⟨_,hx,rfl⟩;have r:=sub_AttributeError;have u:=oq.lookup;have B:=oq.bind (.ref a);have x:=am_list_getattr_none
 repeat (any_goals (first | assumption | exact hT _ | ((with_reducible show cf _ _ (call (Value.builtin "list.__getattribute__") _ _) _ _ _);refine uj oq (hT _) am_entry_list_getattribute (PySem.F.args_list_getattribute_2 _ _) (meets_getattribute_miss_list a Cf k l "keys" _ XJ (by decide +kernel) (by size_fits)) ⟨hx,m,λh' Y e Z=>?_⟩) | wp_step))
 obtain ⟨z,v,y⟩:=Z.there;unfold getattributeRaised
 repeat (any_goals (first | assumption | wp_step))
 exact h _ _ _ Z.of
end
section
variable   {A:eK}{R:Result->a8->Prop}{I:Addr}{fp wr:C3}{G:Array GenState->Array GenState->Prop}{n:Nat}{Pv:Nat->a0->Prop}{St:Nat->a8->Prop}
theorem Qz(W:WalksS P w A.in1 I fp wr G n Pv St)(S:Addr)(H:S∉fp)(ps:List (Key×a0))(hn:ps.length=n)(h0:Heap)
 (hv:∀i v,i<n->Pv i v->∃(a:Addr) (k:Key) (key u:a0),v= .ref a/\a∉S::wr/\h0.IsTuple a #[key,u]/\(bu P w).is k key=true/\ps[i]?=some (k,u)) (hb:ps.length<=be) :
 ∀(k i:Nat) (s:a8),n - i=k->i<=n->St i s->(∀b o,b∉S::wr->h0.get? b=some o->s.heap.get? b=some o)->s.heap.DictOf (bu P w) S (merged [] (ps.take i)) ->
  (∀s',Moved (S::wr) G s s'->s'.heap.DictOf (bu P w) S (merged [] ps)->R (.ok (.ret .none)) s') ->
  sC (bX P w) A (.builtin "dict.update.loop" ⟨[.ref S,.ref I,iF (i:Nat),.none],[]⟩) R s:=by
 have up:∀b∈wr,b∈S::wr:=λb h=>a6 _ h;have sw:=λh=>H (W.sub _ h);have keep:∀{s s':a8}{vs:List (Key×a0)},Moved wr G s s'->s.heap.DictOf (bu P w) S vs->s'.heap.DictOf (bu P w) S vs:=λY x=>by
  obtain ⟨o,es,ep,q,r⟩:=x;exact ⟨o,es,ep,Y.heap S o sw q,r⟩
 intro k
 induction k with
 | zero=>
  intro i s hk hi st D x p;obtain rfl:i=n:=by lia
  rw[eg (by lia)] at x;refine i3 Ku ?_;rw[gc z7 _];exact ae (W.done s _ _ st λs' Y=>ae (ar (ar (p s' (Y.mono up) (keep Y x)))))
 | succ k ih=>
  intro i s hk hi st D x p;have Z:i<n:=by lia
  refine i3 Ku ?_;rw[gc z7 _];refine ae (W.item i s _ _ Z st λv s' L C Y=>?_);obtain ⟨a,ky,key,u,rfl,ha,Q,j,hp⟩:=hv i v Z L;have M:=keep Y x;have E:=λb o U e=>Y.heap b o (λz=>U (up b z)) (D b o U e);obtain ⟨o,q,hc,hd⟩:=Q;have l:=E a o ha q;refine ae (ft (ae (oo (ae (oB ⟨o,l,hc⟩ ?_)))));rw[show (iN "tuple" == iN "list" || iN "tuple" == iN "tuple")=true by decide];obtain ⟨m,hd⟩:=hd;refine ae (lS l hd (ar ?_));have O:(merged [] (ps.take i)).length<=be:=c5 (merged_length_le _ _) (by rw[fT,c6];lia);refine ft (wpAny_dictSet_pairs j M λh' J B=>?_);rw[<- merged_take_succ [] ps i (ky,u) hp] at J;refine ar ⟨kA z7 _,ih (i+1) _ (by lia) Z (W.frame _ s' _ _ C (ot _) λb U o e=>?_) (λb o U e=>?_) J λs2 y x4=>?_⟩
  . rw[B.2 b (λz:b=S=>H (by rw[<- z];exact U))];exact e
  . rw[B.2 b (λz:b=S=>U (by rw[z];exact a7))];exact E b o U e
  . refine p s2 (Moved.trans W.gtrans ((Y.mono up).then_heap (ot _) λb o U e=>?_) y) x4;rw[B.2 b (λz:b=S=>U (by rw[z];exact a7))];exact e
end
section
variable   {A:eK}
theorem Mh{items:Array a0}{ps:List (Key×a0)}(hh:A.handled=none)(H:s.heap.IsList c items)(C:∀o,s.heap.get? c=some o->o.dict=none)(hn:ps.length=items.size)
 (hv:∀(i:Nat) (v:a0),items[i]?=some v->∃(a:Addr) (k:Key) (key u:a0),v= .ref a/\s.heap.IsTuple a #[key,u]/\(bu P w).is k key=true/\ps[i]?=some (k,u)) (hb:ps.length<=be)
 (h:∀(h':Heap) (tk:Nat),h'.DictOf (bu P w) s.heap.objs.size (merged [] ps)->(∀b o,s.heap.get? b=some o->h'.get? b=some o)->Q (.ref s.heap.objs.size) { s with heap:=h',toks:=tk }) :
 cf (bX P w) A (call (.type "dict") [.ref c]) Q E s:=by
 refine callType_codes (Q₁:=λobj Z=>obj= .ref s.heap.objs.size/\Z={ s with heap:=s.heap.push { cls:=.type "dict",data:=.dict #[] } }) PySem.F.kt_called_dict (PySem.F.kt_typeCall_dict_1 _) PySem.F.entry_dict_init (kt_code_dict_new _ ⟨rfl,rfl⟩) ?_;rintro obj Z ⟨rfl,rfl⟩;have U:(s.heap.push { cls:=.type "dict",data:=.dict #[] }).DictOf (bu P w) s.heap.objs.size []:=Heap.DictOf.new s.heap;refine ⟨U.typeIs,PySem.F.args_dict_init_2 _ _,?_⟩;have L:c<s.heap.objs.size:=by obtain ⟨o,Y,r⟩:=H;exact bg Y
 refine ae (ae (wpAny_notOrdered_dict U.typeIs ?_));refine ar ?_;show cf _ _ (Builtin.Dict.updateFrom "dict.__init__" s.heap.objs.size (.ref c) [] .none) _ _ _;have J:(s.heap.push { cls:=.type "dict",data:=.dict #[] }).IsList c items:=H.push _;refine ae (oB J.typeIs ?_);rw[if_pos (by decide)];obtain ⟨o,Y,R,m,hd⟩:=H;refine ae (Wn (av _ Y) R hd (C o Y) (by simp[hh]) λh1 tk1 e nx=>?_);have l:h1.IsList c items:=⟨o,nx.keeps _ _ (av _ Y),R,m,hd⟩;have x:=bg (nx.keeps _ _ (av _ Y));rw[if_pos (show (none:B8).isNone=true from rfl)];refine ae (ki (ae (sN l ?_)));have g0:=nx.keeps _ _ (bo _ rfl);have j:=bg g0;refine ar ⟨kA z7 _,Qz (Walks.list (by simp[hh]) h1.objs.size c (cS x) items).toS s.heap.objs.size (λz=>?_) ps hn s.heap (λi v hi pv=>?_) hb items.size 0 _ (by lia) (f7 _) ⟨⟨_,bo _ rfl,rfl,rfl⟩,l.push _⟩ (λb M hb' B=>?_) ?_ λs' y x'=>?_⟩
 . rcases bq.mp z with z | z
   . exact absurd z (cS j)
   . exact absurd (aS.mp z) (ny L)
 . obtain ⟨a,k,key,u,rfl,O,hk,hp⟩:=hv i v pv;have p:a<s.heap.objs.size:=by obtain ⟨o,Y,r⟩:=O;exact bg Y
   refine ⟨a,k,key,u,rfl,λz=>?_,O,hk,hp⟩;rcases bq.mp z with z | z
   . exact absurd z (cS p)
   . exact absurd (aS.mp z) (cS (nz p j))
 . exact av _ (nx.keeps _ _ (av _ B))
 . obtain ⟨S,es,ep,h2,r⟩:=U;exact ⟨S,es,ep,av _ (nx.keeps _ _ h2),r⟩
 . obtain ⟨h2,g',d',D,I⟩:=s';obtain rfl:g'=s.gens:=y.gens;obtain rfl:d'=s.drawn:=y.drawn;obtain rfl:I=s.os:=y.os;refine ⟨rfl,h h2 D x' λb M B=>?_⟩;have q:=bg B;refine y.heap b M (λz=>?_) (av _ (nx.keeps _ _ (av _ B)));rcases bq.mp z with z | z
   . exact absurd z (cS q)
   . exact absurd (aS.mp z) (cS (nz q j))
end
def Gu(K:aE)(H:Hp)(y:V)(q:Key×V):Prop:=∃a,y= .ref a/\SqT K H a [kV q.1,q.2]
theorem Gg(I:Cs X BY σ H s):∀{ys:C1}{u:A7}{Cf:B9},oy (Gu X.K H) ys u->CA ys Cf ->
 ∃ps:List (Key×a0),KV u ps/\ps.length=Cf.length/\∀(i:Nat) (v:a0),Cf[i]?=some v->∃(a:Addr) (k:Key) (key w:a0),v= .ref a/\s.heap.IsTuple a #[key,w]/\(bu X.prog X.w).is k key=true/\ps[i]?=some (k,w)
 | [],_,_,.nil,.nil=>⟨[],.nil,rfl,λi v e=>by simp at e⟩
 | y::ys,_,_,.cons (b:=q) h t,.cons hv r=>by
  obtain ⟨ps,h1,h2,p⟩:=Gg I t r;obtain ⟨a,rfl,m⟩:=h;cases hv;obtain ⟨U,Z,o,_⟩:=I.tuple m
  cases Z with
  | @cons _ key _ _ Y j=>
   cases j with
   | @cons _ w _ _ l r4=>
    cases r4;refine ⟨(q.1,w)::ps,.cons ⟨rfl,l⟩ h1,by rw[ba,ba,h2],λi v e=>?_⟩
    cases i with
    | zero=>
     have e:=Option.some.inj e;subst e;exact ⟨a,q.1,key,w,rfl,o,uI Y,rfl⟩
    | succ i=>exact p i v (by simpa using e)
theorem M5(S:X.calm=true):eH X (.type "dict") (λxs H Q=>∃(p:Addr) (ys:C1) (u:A7),xs=[.ref p]/\SqL X.K H p ys/\oy (Gu X.K H) ys u/\∀l,H l=none->Q (.ref l) (CB H l (.dK (vL [] u)))):=by
 rintro Z s σ H xs us Q I r ⟨p,ys,u,rfl,E,O,q⟩;obtain ⟨z,rfl,D⟩:=vals1 r;cases D;obtain ⟨M,U,Y,hz⟩:=I.list E;obtain ⟨ps,x,P,B⟩:=Gg I O U;have j:=U.length;have J:=Y.isList;refine Mh (I.ok.hd S) J (λo C=>?_) (by rw[br,P]) (λi v e=>B i v (by simpa using e)) (by lia) λh' tk L hk=>?_
 . obtain ⟨o',n,y,_,hd,_⟩:=Y;rw[C] at y;cases y;exact hd
 . have m:=I.CH.fresh (ax s.heap.objs.size);have R:=KV.merge x .nil;refine ⟨.ref s.heap.objs.size,_,I.un (Un.laid hk (ax _) m) (I.CH.laid hk (ax _) (Fg ?_ (beq_eq_false_iff_ne.mpr (mu (cS I.big))) R L)),rfl,q _ m⟩;have:=u0 u [];rw[fT] at this;have h2:=x.length;lia
noncomputable def t7:B5->Option (List (af×Key×af))
 | []=>some []
 | .tuple [k,d]::r=>match bJ k,t7 r with
  | some key,some ps=>some ((k,key,d)::ps)
  | _,_=>none
 | _=>none
noncomputable def vU(Cb:B0)(ps:List (af×Key×af)):B0:=ps.foldl (λCc q=>iW q.1 q.2.1 q.2.2 Cc) Cb
noncomputable def Nr:B5->Co af
 | [.list es]=>match t7 es with
  | some ps=>.ok (.dict (vU [] ps))
  | none=>.bad
 | _=>.bad
theorem Pz(ha:aA A H):∀{es:B5}{vs:C1}{ps:List (af×Key×af)},au K A es vs->t7 es=some ps ->
 ∃u:A7,oy (Gu K H) vs u/\∀{Cb:B0}{Z:A7},aR K A Cb Z->aR K A (vU Cb ps) (vL Z u)
 | [],vs,ps,h,e=>by
  cases e;rw[au.nil.mp h];exact ⟨[],.nil,λh=>h⟩
 | d::r,vs,ps,h,e=>by
  obtain ⟨v,o,rfl,h1,h2⟩:=au.cons.mp h;unfold t7 at e;split at e
  . rename_i U;cases U
  . rename_i k z x U;cases U;split at e
    . rename_i key l hk p;cases e;obtain ⟨u,Y,i⟩:=Pz ha h2 p;obtain ⟨a,y,rfl,q1,q2⟩:=Rp.tuple.mp h1;obtain ⟨B,m,rfl,q3,q4⟩:=au.cons.mp q2;obtain ⟨j,s,rfl,q5,q⟩:=au.cons.mp q4;rw[au.nil.mp q,q3.key hk] at q1;exact ⟨(key,j)::u,.cons ⟨a,rfl,ha.lJ q1⟩ Y,λ{Cb Z} h=>i (h.put hk q5)⟩
    . cases e
  . cases e
theorem Td(D:X.calm=true):eH X (.type "dict") (rCF X.K Nr):=by
 rintro U s x H E B Q I r ⟨A,z,d,e,ha,p,k⟩
 match z,e with
 | [.list es],e=>
  have e:(match t7 es with
   | some i=>Co.ok (af.dict (vU [] i))
   | none=>.bad)= .ok d:=e
  cases Z:t7 es with
  | none=>rw[Z] at e;cases e
  | some i=>
   rw[Z] at e;cases e;obtain ⟨v,J,rfl,j,m⟩:=p.cons;obtain rfl:=m.nil;obtain ⟨l,o,rfl,h1,q1⟩:=j.list ha;obtain ⟨u,y,C⟩:=Pz ha q1 Z;exact M5 D U s x H _ B Q I r ⟨l,o,u,rfl,h1,y,λq Y=>k _ A _ (aO.lay ha Y) ⟨q,_,rfl,Y,bc,ha.free Y,.inr ⟨_,_,rfl,rfl,C (aR.nil.mpr rfl)⟩⟩⟩
noncomputable def V2(mo mk:ME):ME:=λΓ=>(mo Γ).bind λx=>(mk Γ).bind λkd=>match x with
 | .dict Cb=>(match bJ kd with
  | some key=>.ok ((cD key Cb).getD .none)
  | none=>.bad)
 | _=>.bad
section
variable   {mo mk mx:ME}{o e f:Expr}
theorem Vj{key:Key}{z:af}{y:V}(h:aR K A Cb u)(hz:Rp K A z y):Rp K A ((cD key Cb).getD z) ((jc u key).getD y):=by
 obtain ⟨h1,h2⟩:=h.look
 cases U:cD key Cb with
 | none=>rw[h2 U];exact hz
 | some d=>
  obtain ⟨v,e,p⟩:=h1 d U;rw[e];exact p
theorem W4(hu:X.A.units+66<qE)(z:QE X o (tP X.K O mo))(E:QE X e (tE X.K O mk))(C:M1 X o "get" apos e cpos:=by exact ⟨rfl,rfl,rfl,rfl⟩):QE X (.Call (.Attribute o "get" apos) [e] [] cpos) (tE X.K O (V2 mo mk)):=
 QE.imp (Vl (by lia) z.h E.h C) λL H Q U=>by
  obtain ⟨A,B,m,d,r,em,k⟩:=U;obtain ⟨i,q,em⟩:=Co.aq em;obtain ⟨j,x,em⟩:=Co.aq em;refine ⟨A,B,m,i,r,q,λv p I Y s=>?_⟩
  cases i with
  | dict Z=>
   have em:=em
   cases hk:bJ j with
   | none=>rw[hk] at em;cases em
   | some key=>
    rw[hk] at em;cases em;obtain ⟨l,u,rfl,h1,h2⟩:=s.dict Y.ah;refine ⟨l,rfl,.inl ⟨u,h1⟩,p,B,m,j,r.grow Y,x,λy M J g2 D=>?_⟩;rw[D.key hk];exact ⟨jc u key,.inl ⟨u,key,aA.rd g2.hh h1,rfl,rfl⟩,k _ _ _ (Y.trans g2) (Vj (h2.mono g2.aa Z) (Rp.none.mpr rfl))⟩
  | _=>cases em
end
def NX(m:MS):Prop:=∀Γ o,m Γ = .ok o->∃Γ',o= .nx Γ'
theorem abE{c:ME}{a b:MS}(ha:NX a)(Y:NX b):NX (sIf c a b):=λU o h=>by
 obtain ⟨x,Z,h⟩:=Co.aq h
 cases x with
 | bool t=>cases t with
  | true=>exact ha U o h
  | false=>exact Y U o h
 | _=>cases h
theorem abp{m U:ME}:NX (o9 i m U):=λZ o h=>by
 obtain ⟨d,_,h⟩:=Co.aq h;obtain ⟨Y,_,h⟩:=Co.aq h;split at h
 . split at h
   . obtain ⟨_,h⟩:=bZ h;cases h;exact ⟨_,rfl⟩
   . cases h
 . cases h
theorem JQ{g:MG}{cl:B6}{b:MS}(Y:NX b):∀{xs:B5}{Γ:Ev}{o:Out},forR g cl b xs Γ = .ok o->∃Γ',o= .nx Γ'
 | [],Γ,o,h=>by cases h;exact ⟨_,rfl⟩
 | x::xs,Γ,o,h=>by
  rw[forR] at h;obtain ⟨U,_,h⟩:=Co.aq h;obtain ⟨e,Z,h⟩:=Co.aq h;obtain ⟨Γ',rfl⟩:=Y U e Z;exact JQ Y h
def tIK(K:aE)(O:C0)(i:Nat)(it:MI):TI:=λσ H R=>Uz σ H i/\tI K O it σ H R
noncomputable def Itd(d:Addr)(o:Obj)(u:A7):It:=
 ⟨λi H=>H d=some (.frz o (.dK u))/\i<u.length,λi H x H'=>∃p k v,H p=none/\x= .ref p/\H'=CB H p (.tup [kV k,v])/\u[i]?=some (k,v),λi H=>H d=some (.frz o (.dK u))/\u.length<=i⟩
theorem YX:vE table "dict_itemiterator.__iter__"= some Builtin.«dict_keyiterator.__iter__» := tf (id':= "dict_keyiterator.__iter__") (by kernel_rfl) rfl (by decide +kernel) (by kernel_rfl)
theorem M9{A:eK}{n:Nat}{ok U:a0}(hit:IsItemIter s.heap it d i n ep ok U)(h:Q (.ref it) s):cf (bX P w) A (AH (.ref it)) Q E s:=by
 have hT:s.TypeIs (.ref it) "dict_itemiterator" := ⟨_,hit,rfl⟩;refine qh hT rL (eT rL hT YX ?_ (PySem.F.args_dict_itemiterator_iter_1 _));exact ar ⟨_,rfl, "dict_itemiterator",_,hT,PySem.F.slot_dict_itemiterator_next.lookup,h⟩
variable {elts:C2}
theorem K7{x1}(ho:o.data= .dict es ep) :
 Turn P w K (.Tuple elts x1 tpos) (Itd d o u) [it] it (λi h=>∃ok Z,IsItemIter h it d i u.length ep ok Z) where
 mem:=by simp
 obj:=λi h st b y=>by
  have e:b=it:=by simpa using y
  subst e;obtain ⟨ok,Z,e⟩:=st;exact ⟨_,e,λv z=>by cases z⟩
 keep:=λi h O st k=>by
  obtain ⟨ok,Z,e⟩:=st;exact ⟨ok,Z,k it (by simp) _ e⟩
 item:=by
  intro X hP Q L B i l s σ H E I C st J;subst hP Q L;obtain ⟨ok,Z,st⟩:=st;obtain ⟨hd,hi⟩:=J;obtain ⟨hsm,R,U,Y⟩:=oU I hd ho;have D:=U.length;obtain ⟨⟨k,x⟩,hx⟩:∃q,R[i]?=some q:=⟨R[i],aI (by lia)⟩;obtain ⟨⟨k2,v2⟩,g1,g2,g3⟩:=Paired.getL U hx;have g2:k2=k:=g2;subst g2;have fz:=C it (by simp);rw[D] at st;refine wpAny_pyNext_items_item st Y hx λkey O m st' hN hsz hk=>?_;refine ⟨_,rfl,?_⟩;refine wpAny_letOwnedTupleGo_items (s:={ s with heap:=O }) st' λh2 hz2 j=>?_;have p:H s.heap.objs.size=none:=I.CH.fresh (ax _);have r:s.heap.objs.size≠it:=ny (bg st);have M:h2.get? s.heap.objs.size=some { cls:=.type "tuple",data:=.seq #[key,x] }:=j.extBut _ _ r hN;have k3:∀c ob,s.heap.get? c=some ob->c∉[it]->h2.get? c=some ob:=λc ob q B=>j.extBut c ob (λe=>B (by simp[e])) (hk c ob (λe=>B (by simp[e])) q);have I2:=I.Ws (tk:=s.toks) C k3 M rfl rfl (Eu m) g3;refine ⟨.ref s.heap.objs.size,_,I2,rfl,⟨_,k2,v2,p,rfl,rfl,g1⟩,⟨key,x,by rw[D];exact hz2⟩,λb y=>?_⟩;have S:b=it:=by simpa using y
  subst S;rw[aL (mu r)];exact fz.1
 done:=by
  intro X hP Q L B i l s σ H E I C st J;subst hP Q L;obtain ⟨ok,Z,st⟩:=st;obtain ⟨hd,hi⟩:=J;obtain ⟨hsm,R,U,Y⟩:=oU I hd ho;have D:=U.length;obtain ⟨f0,f1,f2,f3,f4,f5⟩:=C it (by simp);rw[D] at st;exact wpAny_pyNext_items_end (I.ok.hd B) st Y (by simp;lia) λO eb=>⟨rfl,I.turned (t':=s.toks) (λb o y e=>eb b o y e) f0 f1 f3 f4 f5⟩
 self:=λ_ _ _ _ _ st h=>by
  obtain ⟨ok,Z,st⟩:=st;exact M9 st h
def Z2(te:TE):TI:=λσ H R=>te σ H λx H1=>∃d o u,x= .ref d/\H1 d=some (.frz o (.dK u))/\R (Itd d o u) H1
theorem RD{D:TE}{x1}(P:PE X tg D)(U:lp tg "items" X.env (eval tg X.env)=eval tg X.env:=by rfl)(Y:(apos.endLine == cpos.line)=true:=by rfl):PI X (.Tuple elts x1 tpos) (.Call (.Attribute tg "items" apos) [] [] cpos) (Z2 D):=by
 intro i s S H R I h;refine wpAny_Call_method0_late U Y (thn (P i s S H _ I h) λv s1 l=>?_);obtain ⟨x,L,Z,M,d,o,u,ex,hd,O⟩:=l;subst ex;obtain rfl:v=gX d:=M;obtain ⟨t1,t2,_⟩:=Hn Z (.inl ⟨u,.inr ⟨o,hd⟩⟩);obtain ⟨q,z,B,vs,r,o',J,ep,E,C,y,e4⟩:=Z.CH d _ hd;rw[q] at E;cases E;have j:=r.length;have Q:s1.heap.DictOf (bu X.prog X.w) d vs:=⟨o,J,ep,q,C,y,e4⟩;refine ⟨"dict", "dict.items",sm,AC,PySem.F.type_dict_items,t1,t2,mw rfl (PySem.evalArgs_none (AO AC t1 PySem.F.entry_dict_items (PySem.F.args_dict_items_1 _) (meets_dict_items (bu X.prog X.w) d B) ⟨⟨vs,Q⟩,?_⟩))⟩;have p:(s1.heap.push { cls:=.type "dict_items",data:=.fields #[.ref d] }).DictAt (bu X.prog X.w) d vs ep:=⟨o,J,av _ q,C,y,e4⟩;refine wpAny_pyIter_items ⟨_,bo _ rfl,rfl,rfl⟩ p ?_;have kp:∀b ob,s1.heap.get? b=some ob->((s1.heap.push { cls:=.type "dict_items",data:=.fields #[.ref d] }).push { cls:=.type "dict_itemiterator",data:=.fields #[.none,.bool false,.ref d,.int 0 0,.int vs.length 0,.int ep 0,.none,.none] }).get? b=some ob:=λb ob e=>av _ (av _ e);have m:s1.heap.objs.size<=(s1.heap.push { cls:=.type "dict_items",data:=.fields #[.ref d] }).objs.size:=by rw[jS];lia
 refine ⟨_,[(s1.heap.push { cls:=.type "dict_items",data:=.fields #[.ref d] }).objs.size],_,Itd d o u,L,rfl,Z.un (Un.kept kp) (Z.CH.kept kp),K7 y,⟨.none,.none,by rw[j];exact bo _ rfl⟩,λb hb=>?_,O⟩;rw[aS.mp hb];exact Z.p8 m (Z.CH.fresh m)
noncomputable def itI(i:Nat):MI:=λΓ=>match gv Γ i with
 | some (.dict Cb)=>.ok (Cb.map λq=>af.tuple [q.1,q.2])
 | _=>.bad
theorem Pb(h:itI i Γ = .ok xs):∃Cb,gv Γ i=some (.dict Cb)/\xs=Cb.map λq=>af.tuple [q.1,q.2]:=by
 unfold itI at h
 cases e:gv Γ i with
 | none=>rw[e] at h;cases h
 | some d=>
  rw[e] at h
  cases d with
  | dict Cb=>cases h;exact ⟨Cb,rfl,rfl⟩
  | _=>cases h
section
variable    {is:B6}{g:MG}{cl:B6}{mb:MS}{iter:Expr}{body:C6}
theorem Vk(i:Nat){x1}(hi:isR (fl O i)=true:=by rfl)(nm:Nm X i x:=by walk_at "nm")(Y:lp (.Name x pos) "items" X.env (eval (.Name x pos) X.env)=eval (.Name x pos) X.env:=by rfl)(Z:(apos.endLine == cpos.line)=true:=by rfl) :
 QI X (.Tuple elts x1 tpos) (.Call (.Attribute (.Name x pos) "items" apos) [] [] cpos) (tIK X.K O i (itI i)):=
 QI.imp (RD (fD nm.1 nm.2 nm.3 nm.4) Y Z) λσ H R l=>by
  obtain ⟨⟨d,o,u,I,m⟩,A,B,Γ,xs,r,em,k⟩:=l;obtain ⟨S,M,rfl⟩:=Pb em;obtain ⟨d',s,z,y,C,P,f4,D⟩:=wA r hi M;rw[I] at y;cases y;rw[m] at C;cases C;have Q:s=u:=by
   rcases P with z | ⟨o',z⟩ <;> cases z;rfl
  subst Q;have hl:=D.len;have st:∀U,aA A U->aA B U->U d=some (.frz o (.dK s)):=λU s1 j=>by
   rcases f4 with q | q
   . cases e:A d with
     | none=>exact absurd e q
     | some z=>have:=r.a _ _ e;rw[m] at this;cases this;exact s1 _ _ e
   . cases e:B d with
     | none=>exact absurd e q
     | some z=>have:=r.b _ _ e;rw[m] at this;cases this;exact j _ _ e
  refine ⟨.ref d,fC I,d,o,s,rfl,m,k _ A H (aO.refl r.a) ⟨λn U s1 j E=>⟨st U s1 j,by rw[ai] at E;lia⟩,λU s1 j=>⟨st U s1 j,by rw[ai];lia⟩,λn A2 U v H3 sa j s3 E hy=>?_⟩⟩;obtain ⟨p,key,w,hp,rfl,rfl,e3⟩:=hy;obtain ⟨k1,J,g1,g2,g3⟩:=uK D e3;have L:=aO.new (o:=.tup [kV key,w]) j hp;exact ⟨_,.tuple [k1,J],by rw[a9,g1];rfl,L,Rp.tuple.mpr ⟨p,_,rfl,SqT.of bc,au.cons.mpr ⟨_,_,rfl,EY g2,au.one (Rp.mono (sa.trans L.aa) J g3)⟩⟩⟩
theorem Wt(i:Nat)(hri:isR (fl O i)=true)(hnx:NX mb)(hp:ua (bX X.prog X.w) X.A X.env X.xe)(hc:X.calm=true)(cl:B6){Oe:C0}(hi:QI X tg iter (tIK X.K O i (itI i)))(hg:QG X tg (tG X.K O O is g))(hb:QSs X body (tS X.K rm Oe O Oe mb))(hE:oW O Oe cl=true)
 (hs:∀x,jv iter X.env x=pure x:=by intro _;rfl):QS X (.For tg iter body [] pos) (tS X.K rm Ol O O (dM (itI i) g cl mb)):=by
 refine Wh i hri (λΓ o h=>?_) ?_
 . obtain ⟨Z,e1,h⟩:=Co.aq h;obtain ⟨Cb,e,_⟩:=Pb e1;exact ⟨⟨Cb,e⟩,JQ hnx h⟩
 . skip
   refine QS.imp (QH hp hc hi.h hg.h hb.h hs) λD σ H ⟨fz,A,B,Γ,o,r,em,k⟩=>⟨fz,?_⟩;obtain ⟨Z,e1,em⟩:=Co.aq em;refine ⟨A,B,Γ,Z,r,e1,λJ A1 H1 g1 hj=>?_⟩;refine ⟨λi n I R=>n=Z.length - i/\i<=Z.length/\∃P z,aQ X.K P B R O I z/\aA A P/\New A P B/\aA A1 P/\forR g cl mb (Z.drop i) z= .ok o,⟨Z.length,rfl,f7 _,A1,Γ,r.grow g1,g1.aa,g1.nB r.b,aA.refl _,em⟩,?_⟩;rintro i n I R ⟨rfl,hi',P,z,s,sa,nw,l,m⟩
   by_cases Y:i<Z.length
   . refine .inr ⟨hj.go i R (l.trans s.a) s.b Y,λE H''=>i+1<=Z.length/\∃q U,aQ X.K q B H'' O E U/\aA A q/\New A q B/\aA A1 q/\forR g cl mb (Z.drop (i+1)) U= .ok o,?_,λx H3 y=>?_⟩
     . rintro E H'' ⟨h1,q,U,h2⟩;exact ⟨Z.length - (i+1),by lia,rfl,h1,q,U,h2⟩
     . obtain ⟨q,d,ed,g3,p3⟩:=hj.yld i P R x H3 l s.a s.b Y y;have hd:Z.drop i=d::Z.drop (i+1):=by
        rw[g6 Y];rw[aI Y] at ed;cases ed;rfl
       rw[hd] at m;obtain ⟨U,e3,m⟩:=Co.aq m;obtain ⟨o3,e4,m⟩:=Co.aq m;have j:=sa.trans g3.aa;have p:=nw.trans (g3.nB s.b);refine ⟨q,B,z,d,U,s.grow g3,p3,e3,λσ4 r4 _=>⟨q,B,U,o3,r4,e4,?_⟩⟩;have sb:∀{D':Ends},nj X.K rm Ol O A B D' o->nj X.K rm Ol O q B D' o:=λh=>h.sub j p
       cases o3 with
       | nx C=>exact λQ M H5 S u L=>⟨Y,M,clr cl C,S.iU hE,j.trans u,p.trans L,l.trans (g3.aa.trans u),m⟩
       | ct C=>exact λQ M H5 S u L=>⟨Y,M,clr cl C,S.iU hE,j.trans u,p.trans L,l.trans (g3.aa.trans u),m⟩
       | bk C=>
        cases m;exact λQ M H5 S u L=>k Q M H5 (S.iU hE) (j.trans u) (p.trans L)
       | rt d'=>
        cases m;exact λv M H5 q1 q2 u L rv=>k v M H5 q1 q2 (j.trans u) (p.trans L) rv
   . have e:i=Z.length:=by lia
     subst e;rw[uk] at m;cases m;exact .inl ⟨hj.stop R (l.trans s.a) s.b,k I P R s sa nw⟩
end
noncomputable def clL:B2->Str->Addr
 | [],_=>0
 | (n,a)::l,c=>if c=n then a else clL l c
variable {l:B2}
theorem oE{n:Str}:clL ((n,a)::l) n=a:=if_pos rfl
variable {C:Addr}
theorem kI{n c:Str}(h:c≠n)(t:clL l c=C):clL ((n,a)::l) c=C:=(if_neg h).trans t
noncomputable def hsL:List (Str×MS)->Str->MS
 | [],_=>jP
 | (n,a)::l,c=>if c=n then a else hsL l c
structure XV (X:Cx) (O:C0) (cl:Str->Addr) (e:Expr) (z:MZ):Prop where
 h:∀(BY:A6) (s:a8) (σ:St) (H A B:Hp) (Γ:Ev) (c:Str) (Ex:B3),Zq.Cs X BY σ H s->aQ X.K A B H O σ Γ->z Γ = .ok c ->
  (∀er s' s1 H1 A1,Zq.Cs X BY σ H1 s1->aO A H A1 H1->CXE X.prog X.w X.stack H1 s1 (λcv _ H'=>cv= .ref (cl c)/\∃A',aO A1 H1 A' H') er s'->Ex er s') ->
  cf (bX X.prog X.w) X.A (eval e X.env) (λ_ _=>False) Ex s
structure XZ (X:Cx) (O:C0) (cl:Str->Addr) (st:Stmt) (z:MZ):Prop where
 h:∀(BY:A6) (s:a8) (σ:St) (H A B:Hp) (Γ:Ev) (c:Str) (Ex:B3),Zq.Cs X BY σ H s->aQ X.K A B H O σ Γ->z Γ = .ok c ->
  (∀er s' s1 H1 A1,Zq.Cs X BY σ H1 s1->aO A H A1 H1->CXE X.prog X.w X.stack H1 s1 (λcv _ H'=>cv= .ref (cl c)/\∃A',aO A1 H1 A' H') er s'->Ex er s') ->
  cf (bX X.prog X.w) X.A (exec st X.env) (λ_ _=>False) Ex s
section
variable  {k:Nat}{fn:Str}  {fs:C0}{zf:B5->Co Str}   {ms:List ME}{pf pc px pa:Pos}{e:Expr}{es:C2}  {z:MZ}
theorem Bs(Y:∀m s',¬ X.xe m s')(F:DefX X.prog X.w X.K X.mg X.base k fn ps (spZ X.K fs cl zf))(o:cA k X.A)(j:Gl X fn)(ha:QA X (e::es) (tAr X.K O fs ms))
 (U:nD fn:=by decide) (p:CO e=true:=by rfl) (hpl:dF es=true:=by rfl):XV X O cl (.Call (.Name fn pf) (e::es) [] pc) (gV zf ms):=⟨λi s q H A B v c x I r Z k=>by
 obtain ⟨u,l,Z⟩:=Co.aq Z;exact abW I F o j ha Y r l Z k U p hpl⟩
theorem Y5{t:Str}{j x1}(h:XV X O cl e z)(m:CO e=true:=by rfl):XV X O cl (.Tuple [.Constant (.str t) j p1,e] x1 pos) z:=⟨λU s Y H A B Z c l I r i k=>by
 refine wd ?_;rw[bM rfl];refine kX (Calls.Constant_str (k:=j) (pos:=p1) ?_);rw[bM m];exact kX (eR (h.h U _ Y H A B Z c l (I.tok _) r i k) (λ_ _ z=>z.elim) λ_ _ z=>z)⟩
theorem GX(h:XV X O cl e z)(hs:i4 e (some (.Name x px)) pa.line X.env=pure false:=by rfl):XZ X O cl (.Assign [.Name x px] e pa) z:=⟨λU s Y H A B Z c j I r i k=>
 x8 (eR (h.h U s Y H A B Z c j I r i k) (λv s1 z=>z.elim) λl s1 z=>z) hs⟩
end
structure jN (K:aE) (C T:Addr):Prop where
 cls:(vi K T).isSome=true
 typ:PySem.W.typeIn K (.ref T)=some (.type "type")
 base:n9 K (.ref T) (.type "BaseException")=some true
 no:n9 K (.ref C) (.ref T)=some false
section
variable {M:Model}{A:eK}
theorem Qe{Q:Bool->a8->Prop}(X:K.In s.heap)(Z:s.heap.get? a=some o)(U:o.cls= .ref C)(h:jN K C T)(q:Q false s) :
 cf M A (excMatches (.ref a) (.ref T)) Q E s:=by
 have Y:vj M s.heap (isInstance (.ref T) (.type "tuple")) false:=(PySem.W.looks_typeIn X h.typ).andThen (i8 X (show n9 [] (.type "type") (.type "tuple")=some false by decide +kernel));refine ae (Y.at ?_)
 dsimp only;rw[if_neg (by decide)]
 refine ae (ar ?_);rw[kP];refine ae (ae (ae (ae ((pJ X h.cls).at ?_))));rw[if_pos rfl];refine (i8 X h.base).at ?_;rw[if_neg (by decide)];refine ar (ar ?_);refine ae ((yh Z U).at ?_);rw[kP];refine ae (ae (ae ((i8 X h.no).at ?_)));rw[if_neg (by decide)];exact ar (ar (ar q))
end
theorem aQ.drop(r:aQ K A B H O σ Γ)(p:O.set i .CD=O1):aQ K A B H O1 (σ.set i none) (Γ.set i none):=by
 subst p;have m:gv (Γ.set i none) i=none:=by
  rw[gv,ay]
  by_cases hi:i < Γ.length
  . rw[hF hi];rfl
  . rw[dr (by rw[fm];lia)];rfl
 refine ⟨r.a,r.b,by rw[fm,fm];exact r.len,λj d e=>?_,λj l Z h1 h2 U Y=>?_⟩
 . have hj:i≠j:=λz=>by rw[<- z,m] at e;cases e
   unfold fl sv;unfold gv at e;rw[aM hj] at e;rw[aM hj,aM hj];exact r.slot j d e
 . have hj:i≠j:=λz=>U (z ▸ m);have o:i≠l:=λz=>Y (z ▸ m);unfold fl at h1 h2;unfold gv at U Y;rw[aM hj] at h1 U;rw[aM o] at h2 Y;unfold sv;rw[aM hj,aM o];exact r.sep j l Z h1 h2 U Y
noncomputable def sAs(ie:Nat)(m:MS):MS:=λΓ=>gd (ie < Γ.length) ((m (Γ.set ie (some (.str "exc")))).bind λo=>match o with
 | .nx Γ'=>.ok (.nx (Γ'.set ie none))
 | .rt d=>.ok (.rt d)
 | _=>.bad)
inductive Hnd (X:Cx) (rm:Rm) (Ol O O1:C0) (C:Addr):List mM->MS->Prop
 | ab8 {names:C2}{cs:C3}{x1}{tpos pos:Pos}{nm:Option Str}{body:C6}{hs:List mM}{m:MS} (CN:lq X names cs) (hcs:cs.length<=be) (hno:∀c∈cs,xn X.K C c) (t:Hnd X rm Ol O O1 C hs m):Hnd X rm Ol O O1 C (.ExceptHandler (some (.Tuple names x1 tpos)) nm body pos::hs) m
 | skip {T:Str}{TA:Addr}{np pos:Pos}{nm:Option Str}{body:C6}{hs:List mM}{m:MS} (hg:Gl X T) (hm:X.mg T=some (.ref TA)) (hd:nD T) (hno:jN X.K C TA) (t:Hnd X rm Ol O O1 C hs m):Hnd X rm Ol O O1 C (.ExceptHandler (some (.Name T np)) nm body pos::hs) m
 | hit {T:Str}{TA:Addr}{np pos:Pos}{b0:Stmt}{body:C6}{hs:List mM}{m:MS} (hg:Gl X T) (hm:X.mg T=some (.ref TA)) (hd:nD T) (hC:jj X.K C TA) (hb:∀ea,QSs (Cx.inM X ea) (b0::body) (tS X.K rm Ol O O1 m)):Hnd X rm Ol O O1 C (.ExceptHandler (some (.Name T np)) none (b0::body) pos::hs) m
 | aca (ie:Nat) {T en:Str}{TA:Addr}{np pos:Pos}{b0:Stmt}{body:C6}{hs:List mM}{m:MS}{Ox:C0} (hg:Gl X T) (hm:X.mg T=some (.ref TA)) (hd:nD T) (hC:jj X.K C TA) (hie:X.N[ie]?=some en) (hle:X.env.scope.names.lookup en=some .local) (hi:ie<O.length) (hb:∀ea,QSs (Cx.inM X ea) (b0::body) (tS X.K rm Ol (O.set ie (.exc C)) Ox m)) (hO:Ox.set ie .CD=O1):Hnd X rm Ol O O1 C (.ExceptHandler (some (.Name T np)) (some en) (b0::body) pos::hs) (sAs ie m)
variable {hs:List mM}
theorem BL{D:Ends}{o:Out}{P:Heap->Prop}(ok:X.Ok)(hN:X.N.Nodup)
 (Z:∀(h:Heap) (tk:Nat),P h->Zq.Cs X BY σ H { s with heap:=h,toks:=tk })
 (R:∀(h:Heap) (tk:Nat) (ob:Obj),P h->h.get? T=some ob->Zq.Cs X BY σ (CB H T (.frz ob (.own 0))) { s with heap:=h,toks:=tk })
 (exc:∀h,P h->∃ob,h.get? T=some ob/\ob.cls= .ref C)
 (keep:∀h h',P h->(∀b o,h.get? b=some o->h'.get? b=some o)->P h')
 (again:∀(h:Heap) (tk:Nat) {M:Model}{A:eK}{E:B3}{Q:Unit->a8->Prop},P h->(∀h',P h'->Q () { s with heap:=h',toks:=tk })->cf M A (setFlight (.ref T) none) Q E { s with heap:=h,toks:=tk })
 (hea:H T=none) (r:aQ X.K A' B H O σ Γ) (k:nj X.K rm Ol O1 A' B D o) :
 ∀{hs:List mM}{m:MS},Hnd X rm Ol O O1 C hs m->∀(h:Heap) (tk:Nat),P h->m Γ = .ok o->cf (bX X.prog X.w) X.A (handleBy (.ref T) X.env hs) (SP X BY D) X.xe { s with heap:=h,toks:=tk }
 | _,_,.ab8 (cs:=cs) CN hcs hno t,h,tk,p,em=>by
  obtain ⟨ob,j,i⟩:=exc h p;have S:Zq.Cs (Cx.inM X T) BY σ H { s with heap:=h,toks:=tk }:=tH (Z h tk p);have CN':∀{es:C2}{cs:C3},lq X es cs->lq (Cx.inM X T) es cs:=λ{es cs} c=>by
   induction c with
   | nil=>exact .nil
   | cons hg hm hd t ih=>exact .cons hg hm hd ih
  refine rf (p9 (wd (Af S (CN' CN) ⟨by rw[ai];exact hcs,?_⟩))) (by intro z;cases z);have kp:∀b o,h.get? b=some o->(h.push { cls:=.type "tuple",data:=.seq (cs.map gX).toArray }).get? b=some o:=λb o e=>av _ e;have p6:=keep _ _ p kp;exact Iz (Z _ tk p6).kIn (kp _ _ j) i (bo _ rfl) rfl rfl hno (BL ok hN Z R exc keep again hea r k t _ tk p6 em)
 | _,_,.skip hg hm hd hno t,h,tk,p,em=>by
  obtain ⟨ob,j,i⟩:=exc h p;have S:Zq.Cs (Cx.inM X T) BY σ H { s with heap:=h,toks:=tk }:=tH (Z h tk p);refine rf (p9 (jZ S hg hm ?_ hd)) (by intro z;cases z);exact Qe S.kIn j i hno (BL ok hN Z R exc keep again hea r k t h tk p em)
 | _,_,.hit hg hm hd hC hb,h,tk,p,em=>by
  obtain ⟨ob,j,i⟩:=exc h p;have S:Zq.Cs (Cx.inM X T) BY σ H { s with heap:=h,toks:=tk }:=tH (Z h tk p);refine rf (p9 (jZ S hg hm ?_ hd)) (by intro z;cases z);refine Dk S.kIn j i hC (codeAny_handlers_suite (again h tk p λh7 p7=>?_));have Im7:Zq.Cs (Cx.inM X T) BY σ H { s with heap:=h7,toks:=tk }:=tH (Z h7 tk p7);refine eR ((hb T).h BY _ σ H D Im7 ⟨A',B,Γ,o,r,em,k⟩) (λf s9 z=>?_) λ_ _ z=>z.elim
  cases f with
  | next=>obtain ⟨U,Y,l,q⟩:=z;exact ⟨U,Y,pA ok l,q⟩
  | ret u=>obtain ⟨v,U,Y,l,q⟩:=z;exact ⟨v,U,Y,pA ok l,q⟩
  | brk=>obtain ⟨U,Y,l,q⟩:=z;exact ⟨U,Y,pA ok l,q⟩
  | cont=>obtain ⟨U,Y,l,q⟩:=z;exact ⟨U,Y,pA ok l,q⟩
 | _,_,.aca (en:=en) (pos:=pos) (Ox:=Ox) ie hg hm hd hC hie I hi hb hO,h,tk,p,em=>by
  obtain ⟨ob,j,i⟩:=exc h p;have S:Zq.Cs (Cx.inM X T) BY σ H { s with heap:=h,toks:=tk }:=tH (Z h tk p);refine rf (p9 (jZ S hg hm ?_ hd)) (by intro z;cases z);refine Dk S.kIn j i hC (codeAny_handlers_suite_as (again h tk p λh7 p7=>?_));obtain ⟨J,adb,ZS⟩:=exc h7 p7;have Im7:Zq.Cs (Cx.inM X T) BY σ (CB H T (.frz J (.own 0))) { s with heap:=h7,toks:=tk }:=tH (R h7 tk J p7 adb);refine uO (X:=Cx.inM X T) (v:=.ref T) Im7 hN hie (.inl I) rfl (λs8 I8=>?_) (.inr I);obtain ⟨hil,em⟩:=bZ em;obtain ⟨o1,e1,em⟩:=Co.aq em;have gg:aO A' H (CB A' T (.frz J (.own 0))) (CB H T (.frz J (.own 0))):=aO.new r.a hea;have r2:=(r.grow gg).acQ (d:=.str "exc") hil hi ⟨T,J,rfl,bc,ZS⟩;have unb:∀(U:St) (Y:Hp) (s9:a8) (Q:Unit->a8->Prop),Zq.Cs X BY U Y s9->(∀x,Zq.Cs X BY (U.set ie none) Y x->Q () x)->cf (bX X.prog X.w) X.A (do bindName X.env en .none;unbindBehindTheSuite X.env en pos) Q X.xe s9:=λU Y s9 Q l q=>by
   have hlen:ie<U.length:=by rw[l.len];exact (bE.mp hie).1
   refine ae (bindName_ (uO (v:=.non) l hN hie (.inl I) rfl (λs10 I10=>?_) (.inr I)));refine wpAny_onRaise (X6 I10 hN hie I (by rw[hF hlen]) λx y=>?_);rw[List.set_set] at y;exact q x y
  refine eR ((hb T).h BY s8 _ _ { nx:=λU Y=>∃A9 L,o1= .nx L/\aQ X.K A9 B Y Ox U L/\aA A' A9/\New A' A9 B,rt:=λv Y=>∃d,o1= .rt d/\D.rt v Y } I8 ⟨_,B,_,o1,r2,e1,?_⟩) (λf s9 z=>?_) λ_ _ z=>z.elim
  . cases o1 with
    | nx L=>exact λU A9 Y r9 sa nw=>⟨A9,L,rfl,r9,gg.aa.trans sa,(gg.nB r.b).trans nw⟩
    | rt d=>
     cases em;exact λv A9 Y s1 s2 sa nw rv=>⟨d,rfl,k v A9 Y s1 s2 (gg.aa.trans sa) ((gg.nB r.b).trans nw) rv⟩
    | bk _=>cases em
    | ct _=>cases em
  . cases f with
    | next=>
     obtain ⟨U,Y,l,A9,L,rfl,r9,sa,nw⟩:=z;cases em;exact unb U Y s9 _ (pA ok l) λx y=>⟨_,Y,y,k _ A9 Y (r9.drop hO) sa nw⟩
    | ret u=>
     obtain ⟨v,U,Y,l,rv,d,rfl,q⟩:=z;exact unb U Y s9 _ (pA ok l) λx y=>⟨v,_,Y,y,rv,q⟩
    | brk=>obtain ⟨_,_,_,q⟩:=z;exact q.elim
    | cont=>obtain ⟨_,_,_,q⟩:=z;exact q.elim
theorem abC{er:a0}{s':a8}{D:Ends}{o:Out}{m:MS}(Z:X.stack=X.env::X.CU)(hfm:X.env.frame=some X.env.locals)(hex:X.ex=[])(hN:X.N.Nodup)(I:Zq.Cs X BY σ H s)
 (h:CXE X.prog X.w X.stack H s (λcv _ H'=>cv= .ref C/\∃A',aO F H A' H') er s') (r:aQ X.K F B H O σ Γ) (k:nj X.K rm Ol O1 F B D o) (hh:Hnd X rm Ol O O1 C hs m) (em:m Γ = .ok o) :
 cf (bX X.prog X.w) X.A (noteFrame er X.env) (λ_ s₂=>cf (bX X.prog X.w) X.A (setFlight er none) (λ_ R=>cf (bX X.prog X.w) X.A (handleBy er X.env hs) (SP X BY D) X.xe R) X.xe s₂) X.xe s':=by
 obtain ⟨ea,t,C',Bh,H',rfl,os,bare,Y,inB,x,un,hC',A',gr⟩:=h;cases hC';rw[Z] at Y;have hfr:∀b∈frs X.stack,∃o,s'.heap.get? b=some o/\∀vs,o.data ≠ .fields vs:=λb i=>d7 Y.2.2.1 (by rwa [Z] at i);have inv:∀(h:Heap) (J:Nat),sT Bh (X.env::X.CU) ea (.ref C) (.ref t) h->s'.heap.UpToSlots h->Zq.Cs X BY σ H' { s' with heap:=h,toks:=J }:=λh5 J U up=>by
  have E:=x.kept λb u e=>U.1 b u e;refine I.call' os ⟨λb o e hn i _=>U.1 _ _ (inB b o e i hn),λb o e hn i _=>?_,un.free,λb o e i=>?_,un.tups,un.il,un.gm⟩ E bare λb z=>absurd z (by simp)
  . obtain ⟨sl,q⟩:=un.slot b o e hn i (by simp);obtain ⟨o',j,hd⟩:=hfr b i;rw[q] at j;cases j;obtain ⟨sl',q'⟩:=up b _ q hd;exact ⟨sl',q'⟩
  . by_cases hf:b∈frs X.stack
    . obtain ⟨o',j,hd⟩:=hfr b hf;obtain ⟨sl',q'⟩:=up b _ j hd;exact ⟨_,q'⟩
    . cases hH:H b with
      | none=>exact ⟨o,U.1 _ _ (inB b o e hf hH)⟩
      | some u=>exact vG E (gr.hh b u hH)
 have l:H' ea=none:=by
  cases q:H' ea with
  | none=>rfl
  | some u=>
   obtain ⟨o,z⟩:=vG x q;rw[Y.2.1] at z;cases z
 have adq:H ea=none:=by
  cases q:H ea with
  | none=>rfl
  | some u=>rw[gr.hh ea u q] at l;cases l
 have L:∀h,sT Bh (X.env::X.CU) ea (.ref C) (.ref t) h->∃Q,h.get? ea=some Q/\Q.cls= .ref C/\(∃vs,Q.data= .fields vs)/\∀b∈frs X.stack,ea≠b:=λh5 U=>by
  obtain ⟨f1,f2,f3,oe,vs,T,oT,ts,e1,e2,e3,_⟩:=U;refine ⟨oe,e1,e2.1,⟨vs,e3⟩,λb i z=>?_⟩;subst z;obtain ⟨o,ho,hd⟩:=d7 f3 (by rwa [Z] at i);rw[e1] at ho;cases ho;exact hd vs e3
 have nfr:∀b∈frs X.stack,ea≠b:=by
  obtain ⟨_,_,_,_,q⟩:=L _ Y;exact q
 have old:s.heap.get? ea=none:=by
  cases q:s.heap.get? ea with
  | none=>rfl
  | some o=>
   have:=inB ea o q (λz=>nfr ea z rfl) adq;rw[Y.2.1] at this;cases this
 have S:X.s₀.heap.get? ea=none:=by
  cases q:X.s₀.heap.get? ea with
  | none=>rfl
  | some o=>
   obtain ⟨o',z⟩:=I.base.there ea o q (by rw[hex];simp);rw[old] at z;cases z
 have hloc:=nfr _ (by rw[Z];exact eo.mpr ⟨_,a7,hfm⟩);have hpin:∀p∈X.pn++BY,p.1≠ea:=λp hp z=>by
  have:=(I.pin p hp).1;rw[z,old] at this;cases this
 refine wpAny_looks_onW (by rw[I.ok.frames,Z]) hfm Y λh4 M up4=>wpAny_landsW M λh5 U up5=>?_;have r':=r.grow gr;exact BL (P:=λh=>sT Bh (X.env::X.CU) ea (.ref C) (.ref t) h/\s'.heap.UpToSlots h) I.ok hN (λh J p=>inv h J p.1 p.2)
  (λh J Q p e=>by
   obtain ⟨ob7,y,ZS,⟨vs7,adl⟩,_⟩:=L h p.1;rw[e] at y;cases y;exact aaZ (inv h J p.1 p.2) e l hloc (λv z=>by rw[adl] at z;cases z) hpin S)
  (λh p=>by obtain ⟨Q,e1,e2,_⟩:=L h p.1;exact ⟨Q,e1,e2⟩)
  (λh h' p kp=>⟨Oi p.1 kp,p.2.trans (Heap.UpToSlots.of_keeps kp)⟩)
  (λh J _ _ _ _ p q=>lands_againW p.1 λh7 adt up7=>q h7 ⟨adt,p.2.trans up7⟩)
  l r' (k.sub gr.aa (gr.nB r.b)) hh h5 s'.toks ⟨U,up4.trans up5⟩ em
theorem wI{Z:XK}{U:Str}{j}(m:X.calm=true)(e:Gl X x)(l:X.mg x=some (.ref C))(i:rH X.K C)(hx:xJ X C (λH1=>Z (.ref C) none H1))(Y:cl x=C)(hd:nD x:=by decide) :
 QS X (.Raise (some (.Call (.Name x p) [.Constant (.str U) j p2] [] cpos)) none pos) (tZ K O (λc H1=>Z (.ref (cl c)) none H1) (su x)):=
 Sy m e l i (by rw[Y];exact hx) hd
noncomputable def qK(m1:MS)(z:MZ)(hs:Str->MS):MS:=λΓ=>match m1 Γ with
 | .ok o=>.ok o
 | _=>(z Γ).bind λc=>hs c Γ
inductive Bt (X:Cx) (rm:Rm) (Ol O O1:C0) (hs:List mM):B2->List (Str×MS)->Prop
 | nil {la:B2}:Bt X rm Ol O O1 hs la []
 | cons {c:Str}{C:Addr}{m:MS}{la:B2}{lm:List (Str×MS)} (hc:clL la c=C) (h:Hnd X rm Ol O O1 C hs m) (t:Bt X rm Ol O O1 hs la lm):Bt X rm Ol O O1 hs la ((c,m)::lm)
variable {la:B2}
section
variable    {m1:MS}{z:MZ}{st:Stmt}
theorem Bt.at{c:Str}:∀{lm:List (Str×MS)},Bt X rm Ol O O1 hs la lm->hsL lm c=jP\/Hnd X rm Ol O O1 (clL la c) hs (hsL lm c)
 | _,.nil=>.inl rfl
 | _,.cons (c:=U) (m:=m) (lm:=lm) Y h t=>by
  by_cases e:c=U
  . subst e;right;show Hnd X rm Ol O O1 (clL la c) hs (if c=c then m else hsL lm c);rw[if_pos rfl,Y];exact h
  . show (if c=U then m else hsL lm c)=jP\/Hnd X rm Ol O O1 (clL la c) hs (if c=U then m else hsL lm c);rw[if_neg e];exact t.at
theorem Bm{h0:mM}{lm:List (Str×MS)}(q:∀j s',¬ X.xe j s')(m:X.stack=X.env::X.CU)(l:X.env.frame=some X.env.locals)(u:X.ex=[])(y:X.N.Nodup)
 (C:QS X st (tS X.K rm Ol O O1 m1)) (hz:XZ X O (clL la) st z) (hh:Bt X rm Ol O O1 (h0::hs) la lm):QS X (.Try [st] (h0::hs) [] [] pos) (tS X.K rm Ol O O1 (qK m1 z (hsL lm))):=by
 refine ⟨λY s x H D I h=>?_⟩;obtain ⟨A,B,U,o,r,em,k⟩:=h;have em:(match m1 U with | .ok o=>.ok o | _=>(z U).bind λc=>hsL lm c U)=Co.ok o:=em
 by_cases Z:∃i,m1 U= .ok i
 . obtain ⟨i,Z⟩:=Z;rw[Z] at em;cases em;refine wpAny_Try_except (eR (J9 C.h Y s x H D I ⟨A,B,U,_,r,Z,k⟩) (λfl s1 z=>?_) λj s1 z=>absurd z (q j s1))
   cases fl with
   | next=>exact rX z
   | ret v=>exact z
   | brk=>exact z
   | cont=>exact z
 . have em:(z U).bind (λc=>hsL lm c U)= .ok o:=by
    revert em;split
    . rename_i i e;exact absurd ⟨i,e⟩ Z
    . exact id
   obtain ⟨c,J,em⟩:=Co.aq em;rcases hh.at with hb | hb
   . rw[hb] at em;cases em
   . exact wpAny_Try_except (zI (eR (hz.h Y s x H A B U c _ I r J λj s' s1 L M E p hx=>abC m l u y E hx (r.grow p) (k.sub p.aa (p.nB r.b)) hb em) (λ_ _ z=>z.elim) λ_ _ z=>z))
end
noncomputable def Fz(a b:af):Co af:=gd (a.canLay0=true/\b.canLay0=true/\min a.depth b.depth<=64) (.ok (.bool (!fw a b)))
theorem Zo(hu:X.A.units+64<qE):OpR X (fR .NotEq) (rD X.K Fz):=by
 rintro Z s q H x y v u Q I l p ⟨A,Y,U,d,e,ha,j,m,k⟩;obtain ⟨⟨h1,h2,r⟩,e⟩:=bZ e;cases e;obtain ⟨as,i⟩:=Is.reads I Y (Pk.isL ha h1 j) l;obtain ⟨bs,o⟩:=Is.reads I U (Pk.isL ha h2 m) p;exact SeqAt.compareNe_reads i o h1 h2 (by lia) ⟨.bl (!fw Y U),H,I,rfl,k _ A H (aO.refl ha) (Rp.bool.mpr rfl)⟩
section
variable  {k:Nat}{fn:Str}  {fs:C0}  {zf:B5->Co Str}  {ms:List ME}{pf pc pos' pa:Pos}{e:Expr}{es:C2}{XE:Str->Hp->Prop}
theorem Rv(F:DefX X.prog X.w X.K X.mg X.base k fn ps (spZ X.K fs cl zf))(l:cA k X.A)(Z:Gl X fn)(ha:QA X (e::es) (tAr X.K O fs ms))(j:rW X cl XE)
 (U:nD fn:=by decide) (o:CO e=true:=by rfl) (hpl:dF es=true:=by rfl) (hs:i4 (.Call (.Name fn pf) (e::es) [] pc) (some (.Name x pos')) pa.line X.env=pure false:=by rfl) :
 QS X (.Assign [.Name x pos'] (.Call (.Name fn pf) (e::es) [] pc) pa) (tZ X.K O XE (gV zf ms)):=⟨λY s q H D I h=>by
 obtain ⟨A,B,u,c,r,em,k⟩:=h;obtain ⟨y,i,m⟩:=Co.aq em;exact x8 (eR (KZ I F l Z ha j r i m k U o hpl) (λv s1 z=>z.elim) λp s1 z=>z) hs⟩
end
section
variable     {base:Heap}
theorem Uh{st:Stmt}{k:Nat}{fs:C0}{z:MZ}(F:At K mg "ways" st ps)(hT:TabAt K mg T)(S:cO N ps (aK st))(p:fs.length=ps.length)(hn:ps.length<=N.length)
 (B:∀i,i<fs.length->(fl O i= .CD/\fl fs i= .CD)\/fl O i= .CC)
 (hbody:∀(f cd:Addr) (A:eK) (CU:C7) (s:a8) (H:Hp) (E:XK),hV K cd T=true->cA k (A.deeper (kQ "ways" (aK st) s.heap.objs.size f (.ref cd))) ->
  QSs (jx (CXE P w) P w K mg base N "ways" (aK st) f (.ref cd) A CU s H E) (bC st) (tZ K O (λc H1=>E (.ref (cl c)) none H1) z)):DefX P w K mg base (k+1) "ways" ps (spZ K fs cl (fnZ N.length z)):=by
 obtain ⟨f,fd,F,b,Z⟩:=F.ex;refine ⟨f,fd,?_,b,F.kp,Z⟩;obtain ⟨M,R,kV,l,pm,L,D,ct,y,rfl,lk,U⟩:=F.ex;obtain ⟨J,o,C,c,t1,t2,t3,Y,j⟩:=hT;rw[Z] at t1;cases t1;rw[lk] at t2;cases t2;have t3:=t3;cases t3;have Y:=Y;subst Y;refine Et lk U S (λI H Q E h=>?_) λA CU s H I Q E v h=>?_
 . obtain ⟨A,u,c,_,h,_⟩:=h;rw[h.length.1,p]
 . obtain ⟨r,u,e,ha,h,em,q⟩:=h;exact ⟨_,(hbody f c A CU s H E j v).h,r,H,_,e,jJ ha h B (by lia),em,λx m q1 q2 q3 q4=>q x m ⟨q3,q2,q1,q4⟩⟩
end
def ZL(K:aE):V->C1->Hp->VK->Prop:=λx vs H Q=>∃l ns k,x= .ref l/\vs=[.int k]/\SqL K H l (List.map V.int ns)/\k∈ns/\Q (.int (ns.idxOf k:Nat)) H
theorem VF:MtM X "list.index" (ZL X.K):=by
 rintro e s R H x P v O Q I B J ⟨l,i,k,rfl,rfl,D,hk,q⟩;cases B;obtain ⟨u,rfl,t,rfl⟩:=J.one;obtain ⟨U,r,p,hz⟩:=I.list D;have hi:=intsAre_of r;have Y:=hi.length;have hj:=zo.mpr hk;obtain ⟨⟨cls,E,j,z⟩,Z,o,n,hd⟩:=p.isList;simp only at o hd;subst o hd;have M:U.length<=be:=by rw[Y];rwa [ai] at hz
 have L:i.idxOf k<U.toArray.size:=by rw[br];lia
 have hit:=(isInt_at k hi _ (by lia) hj).trans (beq_iff_eq.mpr (List.getElem_idxOf hj));have no:=λm C lt=>(isInt_at k hi m C (by lia)).trans (ne_of_lt_idxOf lt (by lia));exact uj AD ⟨_,Z,rfl⟩ PySem.F.entry_list_index (PySem.F.args_list_index_2 _ _) (SeqAt.list_indexAt l U.toArray n E z (.int k t) (isInt k) (i.idxOf k) L (by rw[PySem.sizeLine_eq] at M;lia) hit no) ⟨Z,λy hy=>(eq_isInt k t hi y (by simpa using hy)).at _ _,⟨.int _,H,I.tok _,⟨_,rfl⟩,q⟩⟩
noncomputable def Hr:af->af->Co af
 | .list ds,.int k=>match intsOf ds with
  | some ns=>gd (k∈ns) (.ok (.int (ns.idxOf k:Nat)))
  | none=>.bad
 | _,_=>.bad
section
variable   {m m':ME}{a b:Expr}
theorem S9(ha:QE X a (tE X.K O m))(M:QE X b (tE X.K O m'))(Y:lp a "index" X.env (eval a X.env)=eval a X.env:=by rfl)
 (e:((nS cpos (dk (b::[]) X.env)).all (λx=>!x.1)&&(Bn cpos (vv [] X.env)).all (λx=>x.1.isSome)
  && decide ((b::[]).length+([]:List sF).length+(if ([]:List sF).isEmpty then 0 else 1)<30))=true:=by rfl)
 (Z:(apos.endLine == cpos.line)=true:=by rfl) (hs:dk (b::[]) X.env=(false,eval b X.env)::dk [] X.env:=by rfl) (U:(nS cpos (dk [] X.env)).any (·.1)=false:=by rfl) :
 QE X (.Call (.Attribute a "index" apos) [b] [] cpos) (tE X.K O (ak Hr m m')):=
 QE.imp (Er l7 AD PySem.F.type_list_index VF ha.h (cC M.h eO hs) Y e Z hs U) λσ H Q i=>by
  obtain ⟨A,B,s,d,r,em,k⟩:=i;obtain ⟨J,C,em⟩:=Co.aq em;obtain ⟨D,u,em⟩:=Co.aq em
  cases J with
  | list p=>
   cases D with
   | int n=>
    have em:(match intsOf p with | some l=>gd (n∈l) (Co.ok (af.int (l.idxOf n:Nat))) | none=>.bad)= .ok d:=em
    cases o:intsOf p with
    | none=>rw[o] at em;cases em
    | some l=>
     rw[o] at em;obtain ⟨hk,em⟩:=bZ em;cases em;obtain rfl:=nR o;refine ⟨A,B,s,_,r,C,λv E P j I=>?_⟩;obtain ⟨q,S,rfl,h1,h2⟩:=Rp.list.mp I;obtain rfl:=h2.Tv;refine ⟨.inl ⟨rfl,_,j.ah.seq h1⟩,E,B,s,_,r.grow j,u,λR z y g2 L=>?_⟩;rw[Rp.int.mp L];exact ⟨q,l,n,rfl,rfl,g2.hh.seq (j.ah.seq h1),hk,k _ z y (j.trans g2) (Rp.int.mpr rfl)⟩
   | _=>cases em
  | _=>cases em
end
noncomputable def eZ(xs:B4):Int:=xs.foldr (λf n=>2*n+f) 0
theorem iR(x:Int)(xs:B4):eZ (x::xs)=2*eZ xs+x:=rfl
theorem rO:∀{xs:B4},(∀x∈xs,0<=x)->0<=eZ xs
 | [],_=>ia 0
 | x::xs,h=>by
  have h1:=h x (by simp);have h2:=rO λy hy=>h y (a6 _ hy);rw[iR];lia
theorem Qi(xs:B4)(y:Int):eZ (xs++[y])=eZ xs+2^xs.length*y:=by
 induction xs with
 | nil=>simp[eZ]
 | cons x xs U=>
  rw[k9,iR,U,iR,ba,qB];have:(2:Int)^xs.length*2*y=2*(2^xs.length*y):=by rw[BS (2^xs.length) 2,BG]
  rw[this];lia
theorem Tp(xs:B4):xs.reverse.foldl (λn f=>2*n+f) 0=eZ xs:=by
 rw[List.foldl_reverse];rfl
noncomputable def bw(b p:Int):Int:=b / 2^p.toNat % 2
theorem fL(b p:Int):bw b p=0\/bw b p=1:=by unfold bw;lia
theorem Ji(b p:Int):0<=bw b p:=by unfold bw;lia
theorem YB(b p:Int):bw b p<=1:=by unfold bw;lia
noncomputable def lX(k r:Nat):B4:=(c8 k).map λj=>((r / 2^j % 2:Nat):Int)
theorem DQ(k r:Nat):(lX k r).length=k:=by simp[lX]
theorem Im(k r:Nat):lX (k+1) r=lX k r++[((r / 2^k % 2:Nat):Int)]:=by
 rw[lX,r0,ck];rfl
theorem IW(k r:Nat):eZ (lX k r)=((r % 2^k:Nat):Int):=by
 induction k with
 | zero=>simp[lX,eZ,Nat.mod_one]
 | succ k U=>
  rw[Im,Qi,U,DQ,iE,Nat.mod_mul];have e:((2:Int)^k)=(((2^k:Nat)):Int):=by simp
  rw[e,<- Int.natCast_mul];lia
theorem Ay{k r:Nat}(h:r<2^k):eZ (lX k r)=(r:Int):=by
 rw[IW,Nat.mod_eq_of_lt h]
def je(xs:B4):Prop:=∀x∈xs,x=0\/x=1
theorem je.nn{xs:B4}(h:je xs):∀x∈xs,0<=x:=λx hx=>by rcases h x hx with z | z <;> lia
theorem je.tail{x:Int}{xs:B4}(h:je (x::xs)):je xs:=λy hy=>h y (a6 _ hy)
theorem je.map{U:Type}{l:List U}{f:U->Int}(h:∀a∈l,f a=0\/f a=1):je (l.map f):=λx hx=>by
 obtain ⟨a,ha,rfl⟩:=bt.mp hx;exact h a ha
theorem BX:∀{xs:B4},je xs->eZ xs<2^xs.length
 | [],_=>by decide
 | x::xs,h=>by
  have h1:=BX h.tail;have h2:=h x (by simp);rw[iR,ba,qB];lia
theorem n6(b:Int):bw b 0=b % 2:=by unfold bw;simp
theorem nQ(b:Int)(n:Nat):bw b ((n+1:Nat):Int)=bw (b / 2) (n:Nat):=by
 unfold bw;rw[ff,ff,BO,Int.pow_add,Int.UW ,<- Int.ediv_ediv_of_nonneg (by decide)]
where
 Int.UW:(2:Int)^1=2:=by decide
theorem Gs:∀{xs:B4}{r:Nat}{x:Int},je xs->xs[r]?=some x->bw (eZ xs) (r:Nat)=x
 | [],r,x,_,h=>by simp at h
 | y::xs,0,x,h,e=>by
  have h2:=h y (by simp);have Y:=by simpa using e
  rw[iR];show bw (2*eZ xs+y) 0=x;rw[n6];lia
 | y::xs,r+1,x,h,e=>by
  have h2:=h y (by simp);rw[iR,nQ];have U:(2*eZ xs+y) / 2=eZ xs:=by lia
  rw[U];exact Gs h.tail (by simpa using e)
noncomputable def tab(m:Nat)(f:Nat->Int):Int:=eZ ((c8 m).map f)
variable {m:Nat}
theorem Rq{f:Nat->Int}(h:∀r,f r=0\/f r=1):je ((c8 m).map f):=je.map λa _=>h a
theorem uo{f:Nat->Int}(h:∀r,f r=0\/f r=1):0<=tab m f:=rO (Rq h).nn
theorem FJ{f:Nat->Int}(h:∀r,f r=0\/f r=1):tab m f<2^m:=by
 have:=BX (Rq (m:=m) h);rwa [ai,df] at this
theorem lF{f g:Nat->Int}(e:∀r,r<m->f r=g r):tab m f=tab m g:=by
 unfold tab;congr 1;exact ja λr U=>e r (d6.mp U)
noncomputable def fJ(n j:Nat):Int:=tab (2^n) λr=>bw (r:Nat) (j:Nat)
noncomputable def dW(b:Int)(ts:B4)(n:Nat):Int:=tab (2^n) λr=>bw b (eZ (ts.map λt=>bw t (r:Nat)))
theorem vA(n j:Nat):0<=fJ n j:=uo λ_=>fL _ _
theorem Ho(n j:Nat):fJ n j<2^2^n:=FJ λ_=>fL _ _
theorem T5(r j:Nat):bw (r:Nat) (j:Nat)=((r / 2^j % 2:Nat):Int):=by
 rw[bw,ff];simp
noncomputable def dH:B5->Co af:=fnR 3 (aG (aN 1 (eC (.int 1)))
 (aG (dM (lL (aj 0)) (gN 2) [2] (aN 1 (ak yr (eC (.int 2)) (aj 1))))
 (bD (aj 1))))
noncomputable def kO:B5->Co af:=fnR 3 (aG (aN 1 (eC (.int 2)))
 (aG (dM (lL (aj 0)) (gN 2) [2] (aN 1 (ak yr (aj 1) (aj 1))))
 (bD (aj 1))))
noncomputable def mC:B5->Co af:=fnR 1 (bD (ak qG (aJ kO [(aj 0)]) (eC (.int 1))))
noncomputable def Ad:B5->Co af:=fnR 2 (bD (ak uY (ak Fd (aj 0) (aj 1)) (eC (.int 1))))
noncomputable def nA:B5->Co af:=fnR 3 (aG (aN 1 (eC (.int 0)))
 (aG (dM (itV (aj 0)) (gN 2) [2] (aN 1 (ak cj (ak yr (eC (.int 2)) (aj 1)) (aj 2))))
 (bD (aj 1))))
noncomputable def kY:B5->Co af:=fnR 2 (bD (aJ nA [(bU (lL (aJ dH [(aj 0)])) (gN 0) (eC (.bool true)) (aJ Ad [(aj 0),(aj 1)]) 1 [1])]))
noncomputable def cP:B5->Co af:=fnR 1 (bD (bU (lL (aj 0)) (gN 0) (eC (.bool true)) (aJ kY [(aj 1),(aj 0)]) 1 [0]))
noncomputable def ou:B5->Co af:=fnR 5 (aG (aN 3 (bU (lL (aJ dH [(ak CF (aj 0) (eC (.int 0)))])) (gN 0) (eC (.bool true)) (ak yr (aj 1) (aJ Ad [(ak CF (aj 2) (eC (.int 1))),(aj 0)])) 1 [2,0]))
 (aG (dM (itL (aj 1)) (gN 4) [4] (aN 3 (bU (Um (eC (.int 0)) (eFn cQ [(aj 3)]) (eC (.int 2))) (gN 0) (eC (.bool true)) (ak orD (ak uY (ak CF (aj 1) (aj 0)) (eUn aa4 (aj 2))) (ak uY (ak CF (aj 1) (ak cj (aj 0) (eC (.int 1)))) (aj 2))) 1 [3,4])))
 (bD (ak CF (aj 3) (eC (.int 0))))))
noncomputable def uC:B5->Co af:=fnR 3 (bD (aJ ou [(aj 0),(aj 1),(aJ mC [(aj 2)])]))
noncomputable def lR:B5->Co af:=fnR 2 (bD (bF [(aj 0),(eFn jM [(eFn j0 [(aj 1)])])]))
noncomputable def jg:B5->Co af:=fnR 3 (bD (aJ ou [(aj 0),(aj 1),(ak qG (aJ dH [(aj 2)]) (eC (.int 1)))]))
noncomputable def wZ:B5->Co af:=fnR 4 (aG (aN 2 (eC (.int 1)))
 (aG (dM (lL (aj 1)) (gN 3) [3] (aN 2 (ak yr (aj 0) (aj 2))))
 (bD (aj 2))))
noncomputable def gq:B5->Co af:=fnR 2 (bD (eFn Ar [(bU (itL (aj 1)) (gN 0) (eC (.bool true)) (aJ wZ [(aj 1),(ak CF (aj 0) (eC (.int 0)))]) 1 [0])]))
noncomputable def lQ:B5->Co af:=fnR 6 (aG (aN 1 (bI [(bI [])]))
 (aG (dM (itL (aj 0)) (gN 2) [2,3,4,5] (aG (aN 3 (bI []))
 (aG (dM (itL (aj 1)) (gN 4) [4,5] (dM (itL (aj 2)) (gN 5) [5] (lY 3 (ak cj (aj 4) (bI [(aj 5)])))))
 (aN 1 (aj 3)))))
 (bD (aj 1))))
noncomputable def jl:B5->Co af:=fnR 5 (aG (aN 3 (bI []))
 (aG (dM (lL (aj 2)) (gN 4) [4] (vN 3 (aJ lQ [(ak cj (ak cj (ak wj (bI [(aj 0)]) (aj 4)) (bI [(aj 1)])) (ak wj (bI [(ak cj (aj 0) (aj 1))]) (ak qG (ak qG (aj 2) (aj 4)) (eC (.int 1)))))])))
 (bD (aj 3))))
noncomputable def gB:B5->Co af:=fnR 7 (aG (aN 4 (bI []))
 (aG (dM (itL (aj 0)) (gN 5) [5,6] (dM (itL (aJ jl [(aj 1),(aj 2),(ak CF (aj 5) (eC (.int 0)))])) (gN 6) [6] (lY 4 (aJ jg [(aj 5),(aj 6),(aj 3)]))))
 (bD (aj 4))))
noncomputable def bx:B5->Co af:=fnN 2 (sIf (eOr (ak gtD (aj 0) (eC (.int 128))) (ak gtD (aJ gq [(aj 0),(aj 1)]) (eC (.int 20000)))) jP cR)
noncomputable def ig:B5->Co af:=fnR 7 (aG (aN 2 (ak CF (aj 0) (eC (.int 0))))
 (aG (aN 3 (bU (itL (aj 1)) (gN 0) (ak eqD (ak CF (aj 0) (eC (.int 0))) (eC (.int 0))) (aJ jg [(aj 0),(bI []),(aj 1)]) 1 [2]))
 (aG (aN 4 (bI []))
 (aG (aN 5 (eFn j0 [(ak cj (eFn uF [(ak CF (aj 0) (eC (.int 1)))]) (aj 3))]))
 (aG (dO 1000000 (ak gtD (eFn cQ [(aj 5)]) (eC (.int 0))) [6] (aG (sEx (aJ bx [(ak cj (eFn cQ [(aj 4)]) (eFn cQ [(aj 5)])),(aj 1)]))
 (aG (aN 6 (aJ gB [(aj 1),(aj 4),(aj 5),(aj 2)]))
 (aG (aN 4 (ak cj (aj 4) (aj 5)))
 (aN 5 (eFn jt [(aj 6),(aj 4)]))))))
 (bD (aJ lR [(aj 2),(aj 4)])))))))
noncomputable def jq:B5->Co af:=aaC 3 0 (sIf (eOr (ak gk (aj 1) (aj 0)) (ak ltD (ak CF (aj 2) (eC (.int 0))) (ak CF (ak ixY (aj 0) (aj 1)) (eC (.int 0))))) (o9 0 (aj 1) (aj 2)) cR)
noncomputable def iM:B5->Co af:=fnR 5 (aG (aN 2 (rK []))
 (aG (dM (itL (aJ cP [(aj 1)])) (gN 3) [3] (rM 2 jq [(aj 2),(aj 3),(bF [(eC (.int 0)),(eC .none),(bF [])])]))
 (aG (dM (itL (aj 0)) (gN 4) [4] (sIf (ak eqD (ak CF (aj 4) (eC (.int 0))) (eC (.int 0))) (rM 2 jq [(aj 2),(aJ uC [(aj 4),(bI []),(aj 1)]),(bF [(eC (.int 1)),(aj 4),(bF [])])]) cR))
 (bD (aj 2)))))
noncomputable def f9:B5->Co af:=fnR 9 (aG (aN 4 (bU (itK 0) (gN 0) (ak neD (aj 0) (aj 1)) (aj 0) 1 [1]))
 (aG (aN 5 (bI []))
 (aG (dM (itL (aJ jl [(aj 4),(bI [(aj 1)]),(ak CF (aj 2) (eC (.int 0)))])) (gN 6) [6,7,8] (aG (aN 7 (aJ uC [(aj 2),(aj 6),(aj 3)]))
 (sIf (ak gk (aj 7) (aj 0)) (aG (aN 8 (ak cj (eC (.int 1)) (eFn Ar [(bU (itL (aj 6)) (gN 0) (eC (.bool true)) (ak CF (ak ixY (aj 1) (aj 0)) (eC (.int 0))) 1 [0])])))
 (lY 5 (bF [(aj 7),(bF [(aj 8),(aj 2),(eFn jM [(aj 6)])])]))) cR)))
 (bD (aj 5)))))
noncomputable def cX:B5->Co af:=fnR 8 (aG (aN 2 (rK []))
 (aG (aN 3 (aJ iM [(aj 0),(aj 1)]))
 (aG (dO 1000000 (ak gtD (eFn iK [(aj 3)]) (eC (.int 0))) [4,5,6,7] (aG (aN 4 (pg 3))
 (aG (jY 2 3 4)
 (aG (sEx (aJ bx [(eFn iK [(aj 2)]),(aj 0)]))
 (dM (itL (aj 0)) (gN 5) [5,6,7] (dM (itL (aJ f9 [(aj 2),(aj 4),(aj 5),(aj 1)])) (gT [(gN 6),(gN 7)]) [6,7] (rM 3 jq [(aj 3),(aj 6),(aj 7)])))))))
 (bD (aj 2)))))
noncomputable def lV:B5->Co af:=fnR 5 (aG (aN 2 (rK []))
 (aG (dM (itI 0) (gT [(gN 3),(gN 4)]) [3,4] (sIf (ak rF (ak CF (aj 4) (eC (.int 1))) (eC .none)) (o9 2 (aj 3) (eFn iK [(aj 2)])) (o9 2 (aj 3) (bF [(ak CF (aj 4) (eC (.int 1))),(eFn jM [(bU (itL (ak CF (aj 4) (eC (.int 2)))) (gN 0) (eC (.bool true)) (ak ixY (aj 1) (aj 0)) 1 [2])])]))))
 (bD (ak ixY (aj 2) (aj 1)))))
noncomputable def du:B5->Co af:=fnR 2 (bD (ak CF (aJ ig [(bF [(aJ dH [(aj 1)]),(eFn jM [(aJ cP [(aj 1)])])]),(aj 0)]) (eC (.int 1))))
noncomputable def mQ:B5->Co af:=fnR 3 (aG (aN 2 (aJ cX [(aj 0),(aj 1)]))
 (bD (bU (itL (eFn Az [(aj 2)])) (gN 0) (eC (.bool true)) (bF [(aj 0),(ak CF (ak ixY (aj 1) (aj 0)) (eC (.int 0)))]) 1 [2])))
noncomputable def lN:B5->Co af:=fnR 5 (aG (dM (itL (aJ lQ [(ak wj (bI [(eFn Lf [(aj 2)])]) (ak CF (aj 0) (eC (.int 0))))])) (gN 3) [3,4] (aG (aN 4 (aJ uC [(aj 0),(aj 3),(aj 1)]))
 (sIf (eOr (ak gk (aj 4) (aj 2)) (ak gtD (ak ixY (aj 2) (aj 4)) (ak cj (eC (.int 1)) (eFn Ar [(bU (itL (aj 3)) (gN 0) (eC (.bool true)) (ak ixY (aj 1) (aj 0)) 1 [2])])))) (bD (eC (.bool false))) cR)))
 (bD (eC (.bool true))))
noncomputable def jV:B5->Co af:=fnR 4 (aG (aN 3 (eFn Nr [(aj 2)]))
 (aG (sIf (ak ltD (eFn iK [(aj 3)]) (eFn cQ [(aj 2)])) (bD (eC (.bool false))) cR)
 (aG (sIf (uT (eFn Nz [(bU (itL (aJ cP [(aj 1)])) (gN 0) (eC (.bool true)) (ak eqD (V2 (aj 1) (aj 0)) (eC (.int 0))) 1 [3])])) (bD (eC (.bool false))) cR)
 (bD (eFn Nz [(bU (itL (aj 0)) (gN 0) (eC (.bool true)) (aJ lN [(aj 0),(aj 1),(aj 2)]) 1 [1,3])])))))
noncomputable def dh:B5->Co af:=fnR 3 (aG (aN 2 (aJ cX [(aj 0),(ak CF (aj 1) (eC (.int 0)))]))
 (aG (sIf (ak gk (ak CF (aj 1) (eC (.int 1))) (aj 2)) jP cR)
 (aG (sIf (ak gtD (ak CF (ak ixY (aj 2) (ak CF (aj 1) (eC (.int 1)))) (eC (.int 0))) (eC (.int 300))) jP cR)
 (bD (aJ lV [(aj 2),(ak CF (aj 1) (eC (.int 1)))])))))
end Zq
theorem Zq.sizeLine_eq:be=16777216:=by decide
namespace Zq
open PySem PySem.Spec PyProof.Rows
variable {o:Option af}{Γ:Ev}
theorem WK:gv (o::Γ) 0=o:=rfl
variable {i:Nat}
theorem Xl:gv (o::Γ) (i+1)=gv Γ i:=rfl
variable {d:af}
theorem O6:aj 0 (some d::Γ)= .ok d:=rfl
theorem Qm:aj (i+1) (o::Γ)=aj i Γ:=rfl
theorem Oo:eC d Γ = .ok d:=rfl
theorem uL{f:D0}{a b:ME}:ak f a b Γ=(a Γ).bind λx=>(b Γ).bind λy=>f x y:=rfl
theorem Yi{f:D1}{a:ME}:eUn f a Γ=(a Γ).bind f:=rfl
variable {ms:List ME}
theorem Xz{f:B5->Co af}:eFn f ms Γ=(evs ms Γ).bind f:=rfl
theorem gb{f:B5->Co af}:aJ f ms Γ=(evs ms Γ).bind f:=rfl
theorem Yc:evs [] Γ = .ok []:=rfl
variable {m:ME}
theorem R9:evs (m::ms) Γ=(m Γ).bind λd=>(evs ms Γ).bind λds=>.ok (d::ds):=rfl
theorem Vf:bF ms Γ=(evs ms Γ).bind λds=>.ok (.tuple ds):=rfl
theorem R8:bI ms Γ=(evs ms Γ).bind λds=>.ok (.list ds):=rfl
theorem Sh{T:String}:vR T m Γ=(m Γ).bind λd=>.ok (.bool (uP T d)):=rfl
noncomputable def bT(x:af)(a b:Co af):Co af:=match x with
 | .bool true=>a
 | .bool false=>b
 | _=>.bad
noncomputable def bS(x:af)(a b:Co Out):Co Out:=match x with
 | .bool true=>a
 | .bool false=>b
 | _=>.bad
theorem sG{a b:Co af}:bT (.bool true) a b=a:=rfl
theorem U4{a b:Co af}:bT (.bool false) a b=b:=rfl
theorem Xw{a b:Co Out}:bS (.bool true) a b=a:=rfl
theorem S8{a b:Co Out}:bS (.bool false) a b=b:=rfl
theorem Z5{c:Bool}{a b:Co Out}:bS (.bool c) a b=if c=true then a else b:=by cases c <;> rfl
theorem Hv{b:ME}:mY m b Γ=(m Γ).bind λx=>bT x (b Γ) (.ok (.bool false)):=by
 rfl
theorem Xc{a b:ME}:eOr a b Γ=(a Γ).bind λx=>bT x (.ok (.bool true)) (b Γ):=by
 unfold eOr;congr 1;funext x;cases x <;> first | rfl | (rename_i b;cases b <;> rfl)
noncomputable def Zf:af->Co af
 | .bool t=>.ok (.bool (!t))
 | _=>.bad
theorem Ux{t:Bool}:Zf (.bool t)= .ok (.bool (!t)):=rfl
theorem Uk:uT m Γ=(m Γ).bind Zf:=rfl
theorem W2{lo hi:MO}:eSl m lo hi Γ=(m Γ).bind λd=>(lo Γ).bind λl=>(hi Γ).bind λh=>slD d l h:=rfl
theorem N5:nH Γ = .ok none:=rfl
noncomputable def Zw:af->Co C4
 | .int i=>.ok (some i)
 | _=>.bad
theorem Ss{i:Int}:Zw (.int i)= .ok (some i):=rfl
theorem N7:nG m Γ=(m Γ).bind Zw:=rfl
noncomputable def VD(b:MS):Out->Co Out
 | .nx Γ'=>b Γ'
 | .rt d=>.ok (.rt d)
 | .bk Γ'=>.ok (.bk Γ')
 | .ct Γ'=>.ok (.ct Γ')
theorem gh{b:MS}:VD b (.nx Γ)=b Γ:=rfl
theorem Yw{b:MS}:VD b (.rt d)= .ok (.rt d):=rfl
theorem bW{a b:MS}:aG a b Γ=(a Γ).bind (VD b):=by
 rfl
theorem WM{U:Type}{r:Co U}:gd True r=r:=rfl
theorem uJ:aN i m Γ=(m Γ).bind λd=>gd (i < Γ.length) (.ok (.nx (Γ.set i (some d)))):=rfl
variable {c:ME}
theorem xm{a b:MS}:sIf c a b Γ=(c Γ).bind λx=>bS x (a Γ) (b Γ):=by
 rfl
theorem yP:bD m Γ=(m Γ).bind λd=>.ok (.rt d):=rfl
theorem Va:cR Γ = .ok (.nx Γ):=rfl
variable {g:MG}
theorem RM:K3 g m Γ=(m Γ).bind λd=>(g d Γ).bind λΓ'=>.ok (.nx Γ'):=rfl
variable {it:MI}{cl:B6}
theorem S7{b:MS}:dM it g cl b Γ=(it Γ).bind λxs=>forR g cl b xs Γ:=rfl
noncomputable def fin:Out->Co af
 | .rt d=>.ok d
 | _=>.bad
theorem abu:fin (.rt d)= .ok d:=rfl
variable {ds:B5}
theorem BW{n:Nat}{m:MS}:fnR n m ds=(m (ds.map some++cE (n - ds.length) none)).bind fin:=by
 rfl
noncomputable def ZM:Out->Co af
 | .rt d=>.ok d
 | .nx _=>.ok .none
 | _=>.bad
theorem WD:ZM (.nx Γ)= .ok .none:=rfl
theorem XN{n:Nat}{m:MS}:fnN n m ds=(m (ds.map some++cE (n - ds.length) none)).bind ZM:=by
 rfl
noncomputable def Y4(Γ:Ev)(i:Nat)(d:af):Option af->Co Out
 | some (.list ds)=>gd (ds.length<be/\i < Γ.length) (.ok (.nx (Γ.set i (some (.list (ds++[d]))))))
 | _=>.bad
theorem Sd:Y4 Γ i d (some (.list ds))=gd (ds.length<be/\i < Γ.length) (.ok (.nx (Γ.set i (some (.list (ds++[d])))))):=rfl
theorem SJ:lY i m Γ=(m Γ).bind λd=>Y4 Γ i d (gv Γ i):=by
 rfl
theorem An:gN i d Γ=gd (i < Γ.length) (.ok (Γ.set i (some d))):=rfl
theorem aaf{gs:List MG}:gT gs (.tuple ds) Γ=gTs gs ds Γ:=rfl
theorem Wu:gTs [] [] Γ = .ok Γ:=rfl
theorem SM{gs:List MG}:gTs (g::gs) (d::ds) Γ=(g d Γ).bind λΓ'=>gTs gs ds Γ':=rfl
noncomputable def Ln:af->Co B5
 | .list ds=>.ok ds
 | .tuple ds=>.ok ds
 | _=>.bad
theorem Rr:Ln (.list ds)= .ok ds:=rfl
theorem KD:itL m Γ=(m Γ).bind Ln:=by
 rfl
noncomputable def upN(n:Nat):B5:=(c8 n).map λi=>af.int (i:Nat)
noncomputable def Nj:af->Co B5
 | .int j=>gd (-(2^62)<=j/\j<2^62) (.ok (upN j.toNat))
 | _=>.bad
theorem R5{j:Int}:Nj (.int j)=gd (-(2^62)<=j/\j<2^62) (.ok (upN j.toNat)):=rfl
theorem iV{n:Nat}(h:n<2^62):Nj (.int (n:Nat))= .ok (upN n):=by
 rw[R5,bH (by lia),ff]
theorem Vv:lL m Γ=(m Γ).bind Nj:=by
 unfold lL;congr 1;funext d
 cases d with
 | int j=>show gd _ _=gd _ _;congr 2;unfold upN;simp only[Int.zero_add]
 | _=>rfl
noncomputable def aaU:af->Co B5
 | .list ds=>.ok ds.reverse
 | _=>.bad
theorem Vs:aaU (.list ds)= .ok ds.reverse:=rfl
theorem XH:itV m Γ=(m Γ).bind aaU:=by
 rfl
theorem YS:clr [] Γ=Γ:=rfl
theorem Vy:clr (i::cl) Γ=clr cl (Γ.set i none):=rfl
variable {a b:Int}
theorem Tr:cj (.int a) (.int b)= .ok (.int (a+b)):=rfl
theorem Vw:qG (.int a) (.int b)= .ok (.int (a - b)):=rfl
theorem Vg:yr (.int a) (.int b)=gd (uf a b) (.ok (.int (a*b))):=rfl
theorem O8:zJ (.int a) (.int b)=gd (Bj a b) (.ok (.int (a / b))):=rfl
theorem RV:qF (.int a) (.int b)=gd (0<b) (.ok (.int (a % b))):=rfl
theorem UG:Fd (.int a) (.int b)=gd (0<=b) (.ok (.int (a / 2^b.toNat))):=rfl
theorem R0:uY (.int a) (.int b)= .ok (.int (fE a b)):=rfl
theorem WL:orD (.int a) (.int b)= .ok (.int (jI a b)):=rfl
theorem Xf:ltD (.int a) (.int b)= .ok (.bool (decide (a<b))):=rfl
theorem WN:leD (.int a) (.int b)= .ok (.bool (decide (a<=b))):=rfl
theorem Wx:gtD (.int a) (.int b)= .ok (.bool (decide (b<a))):=rfl
theorem o4:ee (.int a)=true:=by rw[ee,ew,af.depth];rfl
theorem KY:eqD (.int a) (.int b)= .ok (.bool (decide (a=b))):=by
 rw[eqD,bH ⟨o4,o4⟩,fw];congr 2
theorem Xp:neD (.int a) (.int b)= .ok (.bool (!decide (a=b))):=by
 rw[neD,bH ⟨o4,o4⟩,fw];congr 2
mutual
noncomputable def plain:af->Bool
 | .int _=>true
 | .none=>true
 | .list ds=>gQ ds
 | .tuple ds=>gQ ds
 | .bool _=>false
 | .str _=>false
 | .dict _=>false
noncomputable def gQ:B5->Bool
 | []=>true
 | d::ds=>plain d&&gQ ds
end
mutual
theorem Dt:∀(d:af),plain d=true->d.canLay0=true
 | .int _,_=>by rw[ew]
 | .none,_=>by rw[ew]
 | .list ds,h=>by rw[ew];exact uA ds (by rwa [plain] at h)
 | .tuple ds,h=>by rw[ew];exact uA ds (by rwa [plain] at h)
 | .bool _,h=>by rw[plain] at h;cases h
 | .str _,h=>by rw[plain] at h;cases h
 | .dict _,h=>by rw[plain] at h;cases h
theorem uA:∀(ds:B5),gQ ds=true->dc ds=true
 | [],_=>by rw[dc]
 | d::ds,h=>by
  rw[gQ,cp] at h;rw[dc,Dt d h.1,uA ds h.2];rfl
end
mutual
theorem qN:∀(d e:af),plain d=true->plain e=true->(fw d e=true↔d=e)
 | .int a,.int b,_,_=>by rw[fw];simp
 | .none,.none,_,_=>by rw[fw];simp
 | .list ds,.list es,h,g=>by
  rw[plain] at h g;rw[fw,ud ds es h g];exact ⟨λz=>by rw[z],λz=>by cases z;rfl⟩
 | .tuple ds,.tuple es,h,g=>by
  rw[plain] at h g;rw[fw,ud ds es h g];exact ⟨λz=>by rw[z],λz=>by cases z;rfl⟩
 | .int _,.none,_,_ | .int _,.list _,_,_ | .int _,.tuple _,_,_ | .none,.int _,_,_ | .none,.list _,_,_ | .none,.tuple _,_,_
 | .list _,.int _,_,_ | .list _,.none,_,_ | .list _,.tuple _,_,_ | .tuple _,.int _,_,_ | .tuple _,.none,_,_ | .tuple _,.list _,_,_=>by
  rw[fw];exact ⟨(λz=>nomatch z),(λz=>nomatch z)⟩
 | .bool _,_,h,_=>by rw[plain] at h;cases h
 | .str _,_,h,_=>by rw[plain] at h;cases h
 | .dict _,_,h,_=>by rw[plain] at h;cases h
 | _,.bool _,_,h=>by rw[plain] at h;cases h
 | _,.str _,_,h=>by rw[plain] at h;cases h
 | _,.dict _,_,h=>by rw[plain] at h;cases h
theorem ud:∀(ds es:B5),gQ ds=true->gQ es=true->(pS ds es=true↔ds=es)
 | [],[],_,_=>by rw[pS];simp
 | [],_::_,_,_=>by rw[pS];simp
 | _::_,[],_,_=>by rw[pS];simp
 | d::ds,e::es,h,g=>by
  rw[gQ,cp] at h g;rw[pS,cp,qN d e h.1 g.1,ud ds es h.2 g.2];simp
end
theorem gO(h:plain d=true)(hd:d.depth<=64):ee d=true:=by
 rw[ee,Dt d h,decide_eq_true hd];rfl
theorem wK{b:af}(ha:plain d=true)(U:plain b=true)(Y:d.depth<=64)(Z:b.depth<=64):(eqD d b= .ok (.bool true)↔d=b)/\(eqD d b= .ok (.bool false)↔d≠b)/\(neD d b= .ok (.bool true)↔d≠b)/\(neD d b= .ok (.bool false)↔d=b):=by
 unfold eqD neD;rw[bH ⟨gO ha Y,gO U Z⟩,bH ⟨gO ha Y,gO U Z⟩];have h:=qN d b ha U
 cases q:fw d b with
 | true=>have e:=h.mp q;simp[e]
 | false=>
  have e:d≠b:=λz=>by rw[h.mpr z] at q;cases q
  simp[e]
theorem rQ:∀ns:B4,gQ (ns.map af.int)=true
 | []=>by rw[ll,gQ]
 | n::ns=>by rw[b9,gQ,plain,rQ ns];rfl
theorem zN(ns:B4):plain (.list (ns.map af.int))=true:=by rw[plain];exact rQ ns
theorem Jz(ns:B4):plain (.tuple (ns.map af.int))=true:=by rw[plain];exact rQ ns
theorem qW(ns:B4):(af.list (ns.map af.int)).depth<=64:=by rw[af.depth,uM];decide
theorem yw(ns:B4):(af.tuple (ns.map af.int)).depth<=64:=by rw[af.depth,uM];decide
theorem Jf{a b:B4}(h:a.map af.int=b.map af.int):a=b:=by
 have:=ji a;rw[h,ji] at this;exact (Option.some.inj this).symm
theorem Ql{a b:B4}:neD (.list (a.map af.int)) (.list (b.map af.int))= .ok (.bool (!decide (a=b))):=by
 have h:=wK (zN a) (zN b) (qW a) (qW b)
 by_cases e:a=b
 . subst e;rw[h.2.2.2.mpr rfl];simp
 . rw[h.2.2.1.mpr λz=>e (Jf (af.list.inj z))];simp[e]
noncomputable def iU(cl:B6):Out->Co Out
 | .nx Γ=>.ok (.nx (clr cl Γ))
 | .ct Γ=>.ok (.nx (clr cl Γ))
 | .bk Γ=>.ok (.bk (clr cl Γ))
 | .rt d=>.ok (.rt d)
theorem YM:iU cl (.nx Γ)= .ok (.nx (clr cl Γ)):=rfl
def Goes(r:Co Out)(P:Ev->Prop):Prop:=∃Γ,r= .ok (.nx Γ)/\P Γ
variable {x:af}{xs:B5}
theorem Kp{b:MS}{Γ':Ev}(h:((g x Γ).bind b).bind (iU cl)= .ok (.nx Γ')):forR g cl b (x::xs) Γ=forR g cl b xs Γ':=by
 obtain ⟨o,h1,h2⟩:=Co.aq h;obtain ⟨U,Y,Z⟩:=Co.aq h1;rw[forR,Y,Co.aP,Z,Co.aP];cases o <;> cases h2 <;> rfl
theorem Ie{b:MS}(I:Nat->Ev->Prop):∀{xs:B5}{Γ:Ev},I 0 Γ ->
 (∀i x Γ,xs[i]?=some x->I i Γ->Goes (((g x Γ).bind b).bind (iU cl)) (I (i+1)))->∃Γ',forR g cl b xs Γ = .ok (.nx Γ')/\I xs.length Γ':=by
 intro xs
 induction xs generalizing I with
 | nil=>intro Γ U _;exact ⟨Γ,rfl,U⟩
 | cons x xs j=>
  intro Γ U Y;obtain ⟨l,e,h2⟩:=Y 0 x Γ rfl U;obtain ⟨Γ',Z,m⟩:=j (λi=>I (i+1)) h2 λi y Γ hy h=>Y (i+1) y Γ (by simpa using hy) h;refine ⟨Γ',?_,m⟩;rw[Kp e];exact Z
theorem JX{b:MS}(S:Nat->Ev)(h0:Γ=S 0)
 (h:∀i x,xs[i]?=some x->((g x (S i)).bind b).bind (iU cl)= .ok (.nx (S (i+1)))):forR g cl b xs Γ = .ok (.nx (S xs.length)):=by
 obtain ⟨Z,e,U⟩:=Ie (λi Γ=>Γ=S i) h0 λi x Γ hx Y=>by
  subst Y;exact ⟨_,h i x hx,rfl⟩
 rw[e,U]
theorem cJ{U:Type}{b:MS}{f:Out->Co U}{r:Co U}(S:Nat->Ev)(h0:Γ=S 0)
 (h:∀i x,xs[i]?=some x->((g x (S i)).bind b).bind (iU cl)= .ok (.nx (S (i+1)))) (k:f (.nx (S xs.length))=r):(forR g cl b xs Γ).bind f=r:=by
 rw[JX S h0 h];exact k
theorem Co.bind_assoc{Y U Z:Type}{r:Co Y}{f:Y->Co U}{g:U->Co Z}:(r.bind f).bind g=r.bind λa=>(f a).bind g:=by cases r <;> rfl
variable {e:ME}
theorem Cu(F:af->af):∀{xs:B5},(∀x∈xs,(g x Γ).bind e= .ok (F x))->qY g (eC (.bool true)) e Γ xs= .ok (xs.map F)
 | [],_=>rfl
 | x::xs,h=>by
  obtain ⟨U,Y,Z⟩:=Co.aq (h x a7);rw[qY,Y,Co.aP,Oo,Co.aP,Z,Co.aP,Cu F λy hy=>h y (a6 _ hy)];rfl
variable {nt:Nat}{ix:B6}
theorem Dq(F:af->af)(hi:it Γ = .ok xs)(hz:xs.length<be)(h:∀x∈xs,(g x (jn nt ix Γ)).bind e= .ok (F x)) :
 bU it g (eC (.bool true)) e nt ix Γ = .ok (.list (xs.map F)):=by
 rw[bU,hi,Co.aP,bH hz,Cu F h];rfl
theorem wu{n:Nat}(F:Nat->af)(hi:it Γ = .ok (upN n))(hz:n<be)(h:∀i,i<n->(g (.int (i:Nat)) (jn nt ix Γ)).bind e= .ok (F i)) :
 bU it g (eC (.bool true)) e nt ix Γ = .ok (.list ((c8 n).map F)):=by
 have U:(upN n).map (λd=>match d with | .int i=>F i.toNat | _=>.none)=(c8 n).map F:=by
  rw[upN,eh];refine ja λi _=>?_;show F ((i:Nat):Int).toNat=F i;rw[ff]
 rw[<- U];refine Dq _ hi (by rw[upN,ai,df];exact hz) λx hx=>?_;obtain ⟨i,hi,rfl⟩:=bt.mp hx;show _=Co.ok (F ((i:Nat):Int).toNat);rw[ff];exact h i (d6.mp hi)
variable {ns:B4}
theorem oV(F:Int->af)(hi:it Γ = .ok (ns.map af.int))(hz:ns.length<be)(h:∀x∈ns,(g (.int x) (jn nt ix Γ)).bind e= .ok (F x)) :
 bU it g (eC (.bool true)) e nt ix Γ = .ok (.list (ns.map F)):=by
 have U:(ns.map af.int).map (λd=>match d with | .int i=>F i | _=>.none)=ns.map F:=by
  rw[eh];rfl
 rw[<- U];refine Dq _ hi (by rw[ai];exact hz) λx hx=>?_;obtain ⟨i,hi,rfl⟩:=bt.mp hx;exact h i hi
theorem mX{n:Nat}(h:(upN n)[i]?=some x):i<n/\x= .int (i:Nat):=by
 unfold upN at h;rw[a9] at h;rcases iA i n with hi | hi
 . rw[i7 hi] at h;exact ⟨hi,(Option.some.inj h).symm⟩
 . rw[dr (by rw[df];exact hi)] at h;cases h
theorem iY(n:Nat):(upN n).length=n:=by rw[upN,ai,df]
theorem ints_get(h:(ns.map af.int)[i]?=some x):∃v,x= .int v/\ns[i]?=some v:=by
 rw[a9] at h
 cases e:ns[i]? with
 | none=>rw[e] at h;cases h
 | some v=>rw[e] at h;exact ⟨v,(Option.some.inj h).symm,rfl⟩
theorem NP:jn nt ix Γ=cE nt none++ix.map (gv Γ):=rfl
theorem dB(h:ds[i]?=some d):CF (.list ds) (.int (i:Nat))= .ok d:=by
 show (match Zq.atI ds (i:Nat) with | some d=>Co.ok d | none=>.bad)=_;rw[Zq.Kq h]
theorem Cd(h:ds[i]?=some d):CF (.tuple ds) (.int (i:Nat))= .ok d:=by
 show (match Zq.atI ds (i:Nat) with | some d=>Co.ok d | none=>.bad)=_;rw[Zq.Kq h]
theorem Ce:cQ [.list ds]= .ok (.int ds.length):=rfl
theorem MF:cQ [.tuple ds]= .ok (.int ds.length):=rfl
theorem JC:jM [.list ds]= .ok (.tuple ds):=rfl
theorem Qq{b:Bool}:Fj (.bool b)= .ok (.bool b):=rfl
theorem Jr{i:Int}:uP "int" (.int i)=true:=rfl
theorem Ed:uP "int" (.tuple ds)=false:=rfl
theorem Eb{i:Int}:uP "tuple" (.int i)=false:=rfl
theorem Aa:uP "tuple" (.tuple ds)=true:=rfl
theorem Ml{f g:D0}{b:ME}:qm f g m b c Γ=(m Γ).bind λx=>(b Γ).bind λy=>(f x y).bind λt=>bT t ((c Γ).bind λz=>g y z) (.ok (.bool false)):=by
 rfl
theorem Wo(xs:B5)(j:Nat):cutD xs none (some ((j:Nat):Int))=xs.take j:=by
 rw[cutD,HT.Gy,HT.JV,xk,Nat.sub_zero];rcases Nat.le_total j xs.length with h | h
 . rw[wa h]
 . rw[Nat.min_eq_right h,eg (ax _),eg h]
theorem Yn(xs:B5)(j:Nat):cutD xs (some ((j:Nat):Int)) none=xs.drop j:=by
 rw[cutD,HT.Gy,HT.JV];rcases Nat.le_total j xs.length with h | h
 . rw[wa h,eg (by rw[hX];exact ax _)]
 . rw[Nat.min_eq_right h,oD (ax _),oD h,List.take_nil]
theorem aa0{j:Nat}:slD (.list ds) none (some ((j:Nat):Int))= .ok (.list (ds.take j)):=by
 show Co.ok (af.list (cutD ds none (some ((j:Nat):Int))))=_;rw[Wo]
theorem PB{j:Nat}:slD (.list ds) (some ((j:Nat):Int)) none= .ok (.list (ds.drop j)):=by
 show Co.ok (af.list (cutD ds (some ((j:Nat):Int)) none))=_;rw[Yn]
theorem Dz{b:B5}(h:ds.length+b.length<=be):cj (.list ds) (.list b)= .ok (.list (ds++b)):=bH h
theorem Oq{b:B5}(h:ds.length+b.length<=be):Fo (.list ds) (.list b)= .ok (.list (ds++b)):=bH h
theorem Cy{Y:Type}(U:Y->af)(p:Y->Bool)(F:Y->af):∀{xs:List Y},(∀a∈xs,(g (U a) Γ).bind c= .ok (.bool (p a)))->(∀a∈xs,p a=true->(g (U a) Γ).bind e= .ok (F a))->qY g c e Γ (xs.map U)= .ok ((xs.filter p).map F)
 | [],_,_=>rfl
 | x::xs,h,l=>by
  obtain ⟨o,j,q⟩:=Co.aq (h x a7);rw[b9,qY,j,Co.aP,q,Co.aP];have m:=Cy U p F (λy hy=>h y (a6 _ hy)) (λy hy=>l y (a6 _ hy))
  cases Z:p x with
  | true=>
   have i:=l x a7 Z;rw[j,Co.aP] at i;rw[i,Co.aP,m,iL Z];rfl
  | false=>
   rw[m,fI (by rw[Z];exact iO)]
theorem o7{Y:Type}{xs:List Y}(U:Y->af)(p:Y->Bool)(F:Y->af)(hi:it Γ = .ok (xs.map U))(hz:xs.length<be)
 (h:∀a∈xs,(g (U a) (jn nt ix Γ)).bind c= .ok (.bool (p a))) (Z:∀a∈xs,p a=true->(g (U a) (jn nt ix Γ)).bind e= .ok (F a)):bU it g c e nt ix Γ = .ok (.list ((xs.filter p).map F)):=by
 rw[bU,hi,Co.aP,bH (by rw[ai];exact hz),Cy U p F h Z];rfl
theorem lr{Y:Type}{xs:List Y}(U:Y->af)(F:Y->af)(hi:it Γ = .ok (xs.map U))(hz:xs.length<be)
 (h:∀a∈xs,(g (U a) (jn nt ix Γ)).bind e= .ok (F a)):bU it g (eC (.bool true)) e nt ix Γ = .ok (.list (xs.map F)):=by
 rw[o7 U (λ_=>true) F hi hz (λa ha=>?_) λa ha _=>h a ha,mm.mpr λ_ _=>rfl];obtain ⟨Z,i,j⟩:=Co.aq (h a ha);rw[i];rfl
theorem iB{Y:Type}{U:Y->af}{xs:List Y}(h:(xs.map U)[i]?=some x):∃a,xs[i]?=some a/\x=U a:=by
 rw[a9] at h
 cases e:xs[i]? with
 | none=>rw[e] at h;cases h
 | some v=>rw[e] at h;exact ⟨v,rfl,(Option.some.inj h).symm⟩
def Gives{α:Type}(r:Co α)(P:α->Prop):Prop:=∃a,r= .ok a/\P a
theorem Uc{Y:Type}{a:Y}{P:Y->Prop}:Gives (.ok a) P↔P a:=⟨λU=>by obtain ⟨b,e,h⟩:=U;cases e;exact h,λh=>⟨a,rfl,h⟩⟩
theorem zO{Y:Type}{b:MS}{f:Out->Co Y}{P:Y->Prop}(I:Nat->Ev->Prop)(h0:I 0 Γ)
 (h:∀i x Γ,xs[i]?=some x->I i Γ->Goes (((g x Γ).bind b).bind (iU cl)) (I (i+1))) (k:∀Γ,I xs.length Γ->Gives (f (.nx Γ)) P):Gives ((forR g cl b xs Γ).bind f) P:=by
 obtain ⟨U,e,Z⟩:=Ie I h0 h;rw[e];exact k U Z
theorem aak{a:af}:CF (.tuple (a::ds)) (.int 0)= .ok a:=Cd rfl
theorem abg{b:af}:CF (.tuple (d::b::ds)) (.int 1)= .ok b:=Cd rfl
noncomputable def dG(n:Nat)(b:Int):af:=.tuple [.int (n:Nat),.int b]
noncomputable def dL(ns:B4):af:=.list (ns.map af.int)
theorem ix0{n:Nat}:CF (dG n b) (.int 0)= .ok (.int (n:Nat)):=rfl
theorem ix1{n:Nat}:CF (dG n b) (.int 1)= .ok (.int b):=rfl
theorem Yx:cQ [dL ns]= .ok (.int ns.length):=by rw[dL,Ce,ai]
theorem W7:Ln (dL ns)= .ok (ns.map af.int):=rfl
theorem Zv{b:B4}:neD (dL ns) (dL b)= .ok (.bool (!decide (ns=b))):=Ql
theorem ur{n:Nat}:plain (dG n b)=true:=Jz [n,b]
theorem SQ{n:Nat}:(dG n b).depth<=64:=yw [n,b]
theorem Ab{Z:Type}{b:MS}(U:Z->af)(p:Z->Bool):∀{xs:List Z},(∀a∈xs,((g (U a) Γ).bind b).bind (iU cl)=if p a=true then .ok (.rt d) else .ok (.nx Γ)) ->
 forR g cl b (xs.map U) Γ=if xs.any p=true then .ok (.rt d) else .ok (.nx Γ)
 | [],_=>rfl
 | x::xs,h=>by
  have h1:=h x a7;have j:=Ab U p λy hy=>h y (a6 _ hy);rw[b9]
  cases Y:p x with
  | true=>
   rw[if_pos Y] at h1;obtain ⟨o,h2,i⟩:=Co.aq h1;obtain ⟨e,m,l⟩:=Co.aq h2;rw[j1,Y,Bool.true_or,if_pos rfl,forR,m,Co.aP,l,Co.aP];cases o <;> cases i;rfl
  | false=>
   rw[if_neg (by rw[Y];exact iO)] at h1;rw[Kp h1,j,j1,Y,y6]
end Zq
set_option hygiene false in
local macro_rules | `(tactic| ext)=>`(tactic| simp (config:={ decide:=true,implicitDefEqProofs:=false }) only[Zq.BW,Zq.XN,Zq.bW,Zq.gh,Zq.Yw,Zq.WM,Zq.Vs,Zq.uJ,Zq.xm,Zq.yP,Zq.Va,Zq.RM,Zq.S7,Zq.SJ,Zq.Sd,Zq.WK,Zq.Xl,Zq.O6,Zq.Qm,Zq.Oo,Zq.uL,Zq.Yi,Zq.Xz,Zq.gb,Zq.Yc,Zq.R9,Zq.Vf,Zq.R8,Zq.Sh,Zq.Hv,Zq.Xc,Zq.Uk,Zq.Ml,Zq.aa0,Zq.PB,Zq.Jr,Zq.Ed,Zq.Eb,Zq.Aa,Zq.Ux,Zq.W2,Zq.N5,Zq.N7,Zq.Ss,Zq.KD,Zq.Vv,Zq.XH,Zq.Rr,Zq.An,Zq.aaf,Zq.Wu,Zq.SM,Zq.YS,Zq.YM,Zq.Uc,Zq.Vy,Zq.NP,Zq.Co.aP,Zq.Co.bind_assoc,Zq.abu,Zq.WD,Zq.sG,Zq.U4,Zq.Xw,Zq.S8,Zq.Tr,Zq.Vw,Zq.Vg,Zq.O8,Zq.RV,Zq.UG,Zq.R0,Zq.WL,Zq.Xf,Zq.WN,Zq.Wx,Zq.KY,Zq.Xp,Zq.aak,Zq.abg,Zq.ix0,Zq.ix1,Zq.Yx,Zq.W7,Zq.Zv,Zq.Ce,Zq.MF,Zq.JC,Zq.Qq,decide_false,decide_true,if_true,if_false,Bool.not_true,Bool.not_false,and_true,true_and,b9,ll,ba,fT,ai,df,gu,List.replicate_zero,k9,j3,List.set_cons_zero,List.set_cons_succ,Nat.reduceSub,Nat.reduceAdd,nI])
set_option hygiene false in
local macro_rules | `(tactic| walk_at "gd")=>`(tactic| (rw[Zq.bH (by first | omega (config:={}) | (unfold Zq.uf;omega (config:={})) | (unfold Zq.Bj;omega (config:={})) | (unfold Zq.Uv;omega (config:={})) | (simp (config:={ decide:=true }) only[Zq.sizeLine_eq,aw,ai,df,c6,hX,ba,fT];omega (config:={})))]))
set_option hygiene false in
local macro_rules | `(tactic| walk_at "go")=>`(tactic| (repeat (first | ext | walk_at "gd")))
namespace Zq
open PySem PySem.Spec PyProof.Rows
theorem V0{a p:Int}(U:0<=p):Ad [.int a,.int p]= .ok (.int (bw a p)):=by
 unfold Ad;ext;rw[bH U];ext;rw[tz];rfl
variable {xs:B4}
theorem Je:nA [dL xs]= .ok (.int (eZ xs)):=by
 unfold nA dL;ext;refine cJ (λi=>[some (.list (xs.map af.int)),some (.int ((xs.reverse.take i).foldl (λn f=>2*n+f) 0)),none]) rfl (λi x hx=>?_) ?_
 rotate_left
 . ext;rw[fN,ai,<- fN,e8,Tp]
 . rw[<- List.map_reverse] at hx;obtain ⟨v,rfl,hv⟩:=ints_get hx;ext;rw[bH (.inl ⟨by decide,by decide⟩)];ext;rw[kG,hv,kK];rfl
theorem nJ{n:Nat}(U:n<=100):dH [.int (n:Nat)]= .ok (.int (2^n)):=by
 unfold dH;ext;rw[iV (by lia)];ext;refine cJ (λi=>[some (.int n),some (.int (2^i)),none]) rfl (λi x hx=>?_) ?_
 . obtain ⟨_,rfl⟩:=mX hx;ext;rw[bH (.inl ⟨by decide,by decide⟩)];ext;rw[show (2:Int)*2^i=2^(i+1) by rw[qB,BS]]
 . rw[iY];ext
theorem Eg{n:Nat}(Y:n<=4):kO [.int (n:Nat)]= .ok (.int (2^2^n)):=by
 unfold kO;ext;rw[iV (by lia)];ext;refine cJ (λi=>[some (.int n),some (.int (2^2^i)),none]) rfl (λi x hx=>?_) ?_
 . obtain ⟨hi,rfl⟩:=mX hx;ext;have U:(2:Int)^2^i<=65536/\0<(2:Int)^2^i:=by
    have:i=0\/i=1\/i=2\/i=3:=by lia
    rcases this with rfl | rfl | rfl | rfl <;> decide
   rw[bH (.inl ⟨by lia,by lia⟩)];ext;rw[show (2:Int)^2^i*2^2^i=2^2^(i+1) by rw[<- Int.pow_add,iE];congr 1;lia]
 . rw[iY];ext
theorem Gk{n:Nat}(U:n<=4):mC [.int (n:Nat)]= .ok (.int (2^2^n - 1)):=by
 unfold mC;ext;rw[Eg U];ext
theorem qU{n:Nat}(h:n<=4):2^n<=16:=by
 have:n=0\/n=1\/n=2\/n=3\/n=4:=by lia
 rcases this with rfl | rfl | rfl | rfl | rfl <;> decide
theorem Gh{n:Nat}(h:n<=4):Nj (.int (2^n))= .ok (upN (2^n)):=by
 have e:((2:Int)^n)=(((2^n:Nat)):Int):=by simp
 have:=qU h;rw[e,iV (by lia)]
theorem Hh{n:Nat}(h:n<=4):2^n<be:=by
 have:=qU h;exact iS this (by decide)
theorem CS{n:Nat}(h:n<=100000):n<be:=iS h (by decide)
theorem xT{n:Nat}{f:Nat->Int}:(c8 n).map (λi=>af.int (f i))=((c8 n).map f).map af.int:=by rw[eh];rfl
theorem DP{n j:Nat}(U:n<=4):kY [.int (n:Nat),.int (j:Nat)]= .ok (.int (fJ n j)):=by
 unfold kY;ext;rw[wu (λi=>.int (bw i j)) ?_ (Hh U) λi _=>?_]
 . ext;rw[xT];exact (congrArg (λr=>r.bind λd=>Co.ok d) (Je)).trans rfl
 . ext;rw[nJ (by lia)];ext;exact Gh U
 . ext;rw[V0 (by lia)]
theorem mU{n:Nat}(U:n<=4):cP [.int (n:Nat)]= .ok (dL ((c8 n).map λj=>fJ n j)):=by
 unfold cP;ext;rw[wu (n:=n) (λj=>.int (fJ n j)) ?_ (CS (by lia)) λi _=>?_]
 . ext;rw[xT];rfl
 . ext;exact iV (by lia)
 . ext;rw[DP U]
theorem j9(x y:Int):fE x y / 2=fE (x / 2) (y / 2)/\fE x y % 2=(x % 2)*(y % 2):=by
 have h:=PySem.W.kbt_halves x y;have hx:x % 2=0\/x % 2=1:=by lia
 have hy:y % 2=0\/y % 2=1:=by lia
 rcases hx with hx | hx <;> rcases hy with hy | hy <;> simp only[hy] at h ⊢ <;> (try simp at h) <;> lia
theorem nC(x:Int):gz x / 2=gz (x / 2)/\gz x % 2=1 - x % 2:=by
 unfold gz;lia
theorem ue(x y:Int):jI x y / 2=jI (x / 2) (y / 2)/\jI x y % 2=1 - (1 - x % 2)*(1 - y % 2):=by
 unfold jI;obtain ⟨Z,U⟩:=nC (fE (gz x) (gz y));obtain ⟨b1,b2⟩:=j9 (gz x) (gz y);obtain ⟨i,Y⟩:=nC x;obtain ⟨j,e⟩:=nC y;rw[Z,U,b1,b2,i,Y,j,e];exact ⟨rfl,rfl⟩
noncomputable def vX(x y t:Int):Int:=jI (fE x (gz t)) (fE y t)
theorem Nu(x y t:Int):vX x y t / 2=vX (x / 2) (y / 2) (t / 2)/\vX x y t % 2=if t % 2=1 then y % 2 else x % 2:=by
 unfold vX;obtain ⟨Z,U⟩:=ue (fE x (gz t)) (fE y t);obtain ⟨b1,b2⟩:=j9 x (gz t);obtain ⟨i,Y⟩:=j9 y t;obtain ⟨j,e⟩:=nC t;rw[Z,U,b1,b2,i,Y,j,e];refine ⟨rfl,?_⟩;have ht:t % 2=0\/t % 2=1:=by lia
 rcases ht with ht | ht <;> rw[ht] <;> simp <;> lia
theorem vK(x:Int):fE 0 x=0:=by
 have:=PySem.W.kbt_mask' x 0;simpa using this
variable {W:Nat}
theorem jb{f:Nat->Int}:tab (W+1) f=2*tab W (λr=>f (r+1))+f 0:=by
 rw[tab,AU,b9,iR,eh];rfl
theorem J4{f g:Nat->Int}(t:Int)(Y:∀r,f r=0\/f r=1)(U:∀r,g r=0\/g r=1):∀W:Nat,vX (tab W f) (tab W g) t=tab W λr=>if bw t (r:Nat)=1 then g r else f r
 | 0=>by
  show vX 0 0 t=0;rw[vX,vK,vK];rfl
 | W+1=>by
  have Z:=J4 (f:=λr=>f (r+1)) (g:=λr=>g (r+1)) (t / 2) (λr=>Y (r+1)) (λr=>U (r+1)) W;rw[jb,jb,jb];have j:=Y 0;have i:=U 0;obtain ⟨h1,h2⟩:=Nu (2*tab W (λr=>f (r+1))+f 0) (2*tab W (λr=>g (r+1))+g 0) t;rw[show (2*tab W (λr=>f (r+1))+f 0) / 2=tab W (λr=>f (r+1)) by lia,show (2*tab W (λr=>g (r+1))+g 0) / 2=tab W (λr=>g (r+1)) by lia,Z] at h1;rw[show (2*tab W (λr=>f (r+1))+f 0) % 2=f 0 by lia,show (2*tab W (λr=>g (r+1))+g 0) % 2=g 0 by lia] at h2;have e:(λr:Nat=>if bw t ((r+1:Nat):Int)=1 then g (r+1) else f (r+1))=λr:Nat=>if bw (t / 2) (r:Nat)=1 then g (r+1) else f (r+1):=by
   funext r;rw[nQ]
  rw[e,show bw t ((0:Nat):Int)=t % 2 from n6 t];lia
theorem q9(c:Int):∀W:Nat,tab W (λ_=>c)=(2^W - 1)*c
 | 0=>by simp[tab,eZ]
 | W+1=>by
  rw[jb,q9 c W,qB];have:(2^W*2 - 1)*c=2*((2^W - 1)*c)+c:=by
   rw[Int.sub_mul,Int.sub_mul,Int.mul_sub,BG,Int.mul_left_comm (2^W) 2 c];lia
  rw[this]
theorem mq{x:Int}(h0:0<=x)(h1:x<4000):Builtin.Range.rangeFitsLong x=true:=by
 rw[Builtin.Range.rangeFitsLong,decide_eq_true (show -(2^63)<=x by lia),decide_eq_true (show x<2^63 by lia)];rfl
theorem T9{n:Nat}(h:n<1000):GK (.int 0) (.int ((2*n:Nat):Int)) (.int 2)= .ok ((c8 n).map λ(k:Nat)=>af.int (((2*k:Nat)):Int)):=by
 have e:dt 0 ((2*n:Nat):Int) 2=(n:Nat):=by
  rw[dt,if_pos (by decide)];split <;> lia
 have U:i9 0 ((2*n:Nat):Int) 2=true:=by
  rw[i9,e,mq (by decide) (by decide),mq (by lia) (by lia),mq (by decide) (by decide),mq (by lia) (by lia),if_pos (by decide),mq (by lia) (by lia),Bool.or_true];rfl
 have Y:GK (.int 0) (.int ((2*n:Nat):Int)) (.int 2)=gd ((2:Int)≠0/\(2:Int).natAbs<1073741824/\i9 0 ((2*n:Nat):Int) 2=true/\0<=dt 0 ((2*n:Nat):Int) 2) (.ok ((c8 (dt 0 ((2*n:Nat):Int) 2).toNat).map λk=>af.int (0+(k:Nat)*2))):=rfl;have Z:(2:Int)≠0/\(2:Int).natAbs<1073741824/\i9 0 ((2*n:Nat):Int) 2=true/\0<=dt 0 ((2*n:Nat):Int) 2:=⟨by lia,by lia,U,by rw[e];lia⟩;refine Y.trans ((bH Z).trans ?_);rw[e,ff];refine congrArg Co.ok (ja λk _=>congrArg af.int ?_);lia
noncomputable def Fe(W N:Nat)(F:Int->Nat->Int):B4:=(c8 N).map λp=>tab W (F (p:Nat))
variable {p:Nat}
theorem Bk{N:Nat}{F:Int->Nat->Int}(h:p<N):((Fe W N F).map af.int)[p]?=some (.int (tab W (F (p:Nat)))):=by
 rw[Fe,eh,a9,i7 h];rfl
noncomputable def Ew(t:Int)(F:Int->Nat->Int):Int->Nat->Int:=λp r=>F (2*p+bw t (r:Nat)) r
noncomputable def j4:B4->(Int->Nat->Int)->Int->Nat->Int
 | [],F=>F
 | t::ts,F=>j4 ts (Ew t F)
theorem HB:∀{ts:B4}{F:Int->Nat->Int},(∀p r,F p r=0\/F p r=1)->∀p r,j4 ts F p r=0\/j4 ts F p r=1
 | [],F,h=>h
 | t::ts,F,h=>HB (ts:=ts) λp r=>h _ r
theorem zF:∀{ts:B4}{t:Int}{F:Int->Nat->Int},j4 (ts++[t]) F=Ew t (j4 ts F)
 | [],t,F=>rfl
 | u::ts,t,F=>zF (ts:=ts)
theorem FT:∀{ts:B4}{F:Int->Nat->Int}{p:Int}{r:Nat},j4 ts F p r=F (2^ts.length*p+eZ (ts.map λt=>bw t (r:Nat))) r
 | [],F,p,r=>by show F p r=F (2^0*p+0) r;simp
 | t::ts,F,p,r=>by
  show j4 ts (Ew t F) p r=_;rw[FT];rw[Ew,b9,iR,ba,qB];congr 1;rw[BS (2^ts.length) 2,BG];lia
variable {m:Nat}{b:Int}{ts:B4}
theorem Cm(Z:ts.length=m)(Y:m<=4):ou [dG m b,dL ts,.int (2^W - 1)]= .ok (.int (tab W λr=>bw b (eZ (ts.map λt=>bw t (r:Nat))))):=by
 have q:=λi=>by have:=qU (n:=m - i) (by lia);lia
 unfold ou;ext;rw[wu (λp=>.int (tab W λ_=>bw b p)) ?_ (Hh Y) λi _=>?_]
 rotate_left
 . ext;rw[nJ (by lia)];ext;exact Gh Y
 . ext;rw[V0 (by lia)];ext;have l:uf (2^W - 1) (bw b (i:Nat)):=.inr ⟨by have:=Ji b i;lia,by have:=YB b i;lia⟩;rw[bH l,q9]
 ext;rw[xT];refine cJ (λi=>[some (dG m b),some (dL ts),some (.int (2^W - 1)),some (dL (Fe W (2^(m - i)) (j4 (ts.take i) λp r=>bw b p))),none]) rfl (λi x hx=>?_) ?_
 rotate_left
 . rw[ai,Z,tJ,<- Z,e8];unfold dL;ext;rw[show (af.int 0)= .int ((0:Nat):Int) from rfl,dB (Bk (by decide))];ext;congr 2;refine lF λr o=>?_;rw[FT];congr 1;simp
 . obtain ⟨t,rfl,e⟩:=ints_get hx;have hi:=(bE.mp e).1;have j:2^(m - i)=2*2^(m - (i+1)):=by rw[show m - i=(m - (i+1))+1 by lia,iE];lia
   have u:=q (i+1);have U:∀p r,j4 (ts.take i) (λp r=>bw b p) p r=0\/j4 (ts.take i) (λp r=>bw b p) p r=1:=HB λp r=>fL b p;ext;rw[lr (xs:=c8 (2^(m - (i+1)))) (λk=>.int ((2*k:Nat):Int)) (λk=>.int (tab W (j4 (ts.take (i+1)) (λp r=>bw b p) k))) ?_ (CS (by rw[df];lia)) λk hk=>?_]
   . ext;rw[xT];rfl
   . unfold Um;ext;rw[show (Fe W (2^(m - i)) (j4 (ts.take i) λp r=>bw b p)).length=2*2^(m - (i+1)) by rw[Fe,ai,df,j]];exact T9 (by lia)
   . have s:=d6.mp hk;unfold dL;ext;rw[dB (Bk (by lia)),show ((2*k:Nat):Int)+1=((2*k+1:Nat):Int) by lia,dB (Bk (by lia))];ext;show Co.ok (af.int (vX (tab W _) (tab W _) t))=_;rw[J4 t (U _) (U _)];congr 2;refine lF λr o=>?_;rw[kG,e];show _=j4 (ts.take i++[t]) _ _ _;rw[zF];rcases fL t r with h | h <;> rw[h]
     . rw[if_neg (by decide)];congr 1 <;> lia
     . rw[if_pos rfl];congr 1 <;> lia
theorem M3{n:Nat}(Y:ts.length=m)(U:m<=4)(Z:n<=4):uC [dG m b,dL ts,.int (n:Nat)]= .ok (.int (dW b ts n)):=by
 unfold uC;ext;rw[Gk Z];ext;rw[Cm Y U];rfl
theorem Bp(a:Int){m:Int}(h:0<m):∃n:Nat,a % m=(n:Nat)/\(n:Int)<m:=
 ⟨(a % m).toNat,by have:=AY a (show m≠0 by lia);lia,by have:=Int.emod_lt_of_pos a h;have:=AY a (show m≠0 by lia);lia⟩
theorem snoc_ind{Z:Type}{P:List Z->Prop}(h0:P [])(h:∀l a,P l->P (l++[a]))(l:List Z):P l:=by
 have:∀k:Nat,∀l:List Z,l.length=k->P l:=by
  intro k
  induction k with
  | zero=>intro l U;rw[l8.mp U];exact h0
  | succ k e=>
   intro l U;have Y:l≠[]:=λz=>by rw[z] at U;cases U
   rw[<- List.dropLast_concat_getLast Y];exact h _ _ (e _ (by rw[List.length_dropLast,U];rfl))
 exact this _ l rfl
theorem Yd{k:Nat}(h:k<ts.length):CF (dL ts) (.int (k:Nat))= .ok (.int (ts.getD k 0)):=by
 refine dB ?_;rw[a9,ay,aI h];rfl
theorem vq:Ar [.list (xs.map af.int)]= .ok (.int xs.sum):=by
 show (match intsOf (xs.map af.int) with | some ns=>Co.ok (af.int ns.sum) | none=>.bad)=_;rw[ji]
theorem yp{k:Nat}:∀{ds:B5},(∀d∈ds,d.depth<=k)->fA ds<=k
 | [],_=>by rw[fA];exact f7 _
 | d::ds,h=>by
  rw[fA];exact Nat.max_le.mpr ⟨h d a7,yp λe U=>h e (a6 _ U)⟩
variable {ds:B5}
theorem Cv{k:Nat}(h:∀d∈ds,d.depth<=k):(af.tuple ds).depth<=k+1:=by
 rw[af.depth];have:=yp h;lia
theorem Cw(h:∀d∈ds,plain d=true):gQ ds=true:=by
 induction ds with
 | nil=>rw[gQ]
 | cons d ds U=>rw[gQ,h d a7,U λe Y=>h e (a6 _ Y)];rfl
theorem Dy(h:∀d∈ds,plain d=true):plain (.tuple ds)=true:=by rw[Zq.plain];exact Cw h
theorem jR{i:Int}:plain (.int i)=true:=by rw[Zq.plain]
theorem sZ{i:Int}:(af.int i).depth<=0:=by rw[af.depth];exact ax _
theorem QJ{n:Nat}:(dG n b).depth<=1:=Cv λd hd=>by
 rcases bq.mp hd with rfl | hd
 . exact sZ
 . rw[aS.mp hd];exact sZ
theorem yX{U:Type}{xs:List U}{f:U->Bool}:Nz [.list (xs.map λa=>af.bool (f a))]= .ok (.bool (xs.all f)):=by
 show (match boolsOf (xs.map λa=>af.bool (f a)) with | some bs=>Co.ok (af.bool (bs.all id)) | none=>.bad)=_;rw[show xs.map (λa=>af.bool (f a))=(xs.map f).map af.bool by rw[eh];rfl,Jo];show Co.ok (af.bool ((xs.map f).all id))=_;rw[List.all_map];rfl
noncomputable def jO(b:Int)(ts:B4)(w:Nat):Int:=tab w λc=>bw b (eZ (ts.map λt=>bw t (c:Nat)))
theorem rR{w:Nat}:0<=jO b ts w:=uo λ_=>fL _ _
theorem Bw{w:Nat}:jO b ts w<2^w:=FJ λ_=>fL _ _
theorem zK(Z:ts.length=m)(U:m<=4)(Y:W<=100):jg [dG m b,dL ts,.int (W:Nat)]= .ok (.int (jO b ts W)):=by
 unfold jg;ext;rw[nJ Y];ext;rw[Cm Z U];rfl
variable {i:Nat}
theorem take_snoc{U:Type}{l:List U}{x:U}(h:l[i]?=some x):l.take (i+1)=l.take i++[x]:=by
 rw[List.take_succ,h];rfl
noncomputable def dT(m:Nat)(b:Int)(ds:B5):af:=.tuple [dG m b,.tuple ds]
noncomputable def mk(ks:B4):B0:=ks.map λk=>(af.int k,af.bool true)
noncomputable def dR(rs:B4):af:=.tuple (rs.map af.int)
theorem Lp(rs:B4):(rs.map af.int).all ee=true:=by
 rw[hZ];intro d hd;obtain ⟨x,_,rfl⟩:=bt.mp hd;exact gO jR (c5 sZ (by decide))
theorem Th{x:Int}(rs:B4):inB (.int x) (rs.map af.int)=decide (x∈rs):=by
 unfold inB;have e:∀y:Int,fw (.int y) (.int x)=decide (y=x):=λy=>vT.mpr ((qN _ _ jR jR).trans ⟨λz=>decide_eq_true (af.int.inj z),λz=>congrArg af.int (of_decide_eq_true z)⟩)
 induction rs with
 | nil=>rfl
 | cons r rs U=>
  rw[b9,j1,U,e]
  by_cases h:r=x
  . subst h;rw[decide_eq_true rfl,decide_eq_true a7];rfl
  . rw[decide_eq_false h,y6];have:(x∈r::rs)↔x∈rs:=⟨λz=>(bq.mp z).resolve_left (λe=>h e.symm),a6 _⟩;exact decide_eq_decide.mpr this.symm
theorem Uo{x:Int}:gk (.int x) (dR xs)= .ok (.bool (!decide (x∈xs))):=by
 show gd (ee (.int x)=true/\(xs.map af.int).all ee=true) (Co.ok (af.bool (!inB (.int x) (xs.map af.int))))=_;rw[bH ⟨gO jR (c5 sZ (by decide)),Lp xs⟩,Th]
noncomputable def jB(rs:B4)(ls:List B4):List B4:=ls.flatMap λc=>rs.map λr=>c++[r]
noncomputable def qC(rs:B4):Nat->List B4
 | 0=>[[]]
 | m+1=>jB rs (qC rs m)
theorem qP:∀ls:List B4,(jB xs ls).length=ls.length*xs.length
 | []=>by show 0=0*_;lia
 | c::ls=>by
  show ((xs.map λr=>c++[r])++jB xs ls).length=_;rw[aw,ai,qP ls,ba,wo];lia
theorem Fv:∀m,(qC xs m).length=xs.length^m
 | 0=>rfl
 | m+1=>by show (jB xs (qC xs m)).length=_;rw[qP,Fv m,iE]
variable {ls:List B4}{c:B4}
theorem Nx:jB xs (ls++[c])=jB xs ls++xs.map λr=>c++[r]:=by
 unfold jB;rw[mn];show _++((xs.map λr=>c++[r])++[])=_;rw[cy]
theorem acN{r:Int}(h:c.length<=100):cj (dL c) (.list [.int r])= .ok (dL (c++[r])):=by
 unfold dL;rw[Dz (fe (CS (by rw[ai,d5];lia))),ck];rfl
variable {a:B5}
theorem Yr{k:Int}(h : -(2^63)<=k/\k<2^63/\a.length*k.toNat<=be):wj (.list a) (.int k)= .ok (.list (cE k.toNat a).flatten):=bH h
variable {x:af}
theorem rep1{n:Nat}(Y:n<=100):wj (.list [x]) (.int (n:Nat))= .ok (.list (cE n x)):=by
 rw[Yr ⟨by lia,by lia,by rw[ff,d5,Nat.one_mul];exact fe (CS (by lia))⟩,ff];congr 2;clear Y
 induction n with
 | zero=>rfl
 | succ n U=>rw[gu,l6,U,gu];rfl
noncomputable def dw(cs:List B4):List B4:=cs.foldl (λls rs=>jB rs ls) [[]]
theorem o6(cs:List B4)(rs:B4):dw (cs++[rs])=jB rs (dw cs):=by rw[dw,kK];rfl
theorem N6:c∈jB xs ls↔∃d∈ls,∃r∈xs,c=d++[r]:=by
 rw[jB,h9];constructor
 . rintro ⟨d,hd,h⟩;obtain ⟨r,U,rfl⟩:=bt.mp h;exact ⟨d,hd,r,U,rfl⟩
 . rintro ⟨d,hd,r,U,rfl⟩;exact ⟨d,hd,bt.mpr ⟨r,U,rfl⟩⟩
variable {cs:List B4}
theorem nT:c∈dw cs↔c.length=cs.length/\∀i,i<cs.length->c.getD i 0∈cs.getD i []:=by
 induction cs using snoc_ind generalizing c with
 | h0=>
  constructor
  . intro h;rw[aS.mp h];exact ⟨rfl,λi hi=>absurd hi (mi _)⟩
  . rintro ⟨h,_⟩;rw[l8.mp h];exact aS.mpr rfl
 | h cs m Y=>
  rw[o6,N6];constructor
  . rintro ⟨d,hd,r,j,rfl⟩;obtain ⟨h1,h2⟩:=Y.mp hd;refine ⟨by rw[aw,aw,h1];rfl,λi hi=>?_⟩;rw[aw] at hi;have hi:i<cs.length+1:=hi;rcases iA i cs.length with q | q
    . have:=h2 i q;rw[ay,ay] at this ⊢;rw[dA (l₁:=d) (by lia),dA q];exact this
    . have e:i=cs.length:=by lia
      subst e;rw[ay,ay,c9 (l₁:=d) (by lia),c9 (ax _),h1,tJ];exact j
  . rintro ⟨h1,h2⟩;rw[aw] at h1;have h1:c.length=cs.length+1:=h1;have U:cs.length<c.length:=by lia
    refine ⟨c.take cs.length,Y.mpr ⟨by rw[c6];lia,λi hi=>?_⟩,c.getD cs.length 0,?_,?_⟩
    . have:=h2 i (by rw[aw];exact qc hi);rw[ay,ay] at this ⊢;rw[dA hi] at this;rw[List.getElem?_take,if_pos hi];exact this
    . have:=h2 cs.length (by rw[aw];exact mP _);rwa [ay (l:=cs++[m]),c9 (ax _),tJ] at this
    . rw[ay,aI U];show c=c.take cs.length++[c[cs.length]];have Z:c.take (cs.length+1)=c.take cs.length++[c[cs.length]]:=by rw[kG,aI U];rfl
      rw[<- Z,eg (by lia)]
theorem La(h:c∈dw cs):c.length=cs.length:=(nT.mp h).1
variable {B:Nat}
theorem Dv:∀{cs:List B4},(∀rs∈cs,rs.length<=B)->(dw cs).length<=B^cs.length:=λ{cs}=>by
 induction cs using snoc_ind with
 | h0=>exact λ_=>ax _
 | h cs rs Y=>
  intro U;rw[o6,qP,aw];show _<=B^(cs.length+1);rw[iE];exact Nat.mul_le_mul (Y λr Z=>U r (dQ _ Z)) (U rs (by simp))
theorem rz(rs:B4):∀m,qC rs m=dw (cE m rs)
 | 0=>rfl
 | m+1=>by
  rw[List.replicate_succ',o6,<- rz rs m];rfl
theorem yV{rs:B4}:c∈qC rs m↔c.length=m/\∀x∈c,x∈rs:=by
 rw[rz,nT,cn];constructor
 . rintro ⟨h1,h2⟩;refine ⟨h1,λx hx=>?_⟩;obtain ⟨i,hi,rfl⟩:=dS.mp hx;have:=h2 i (by lia);rwa [ay,ay,aI hi,l4 (by lia)] at this
 . rintro ⟨h1,h2⟩;refine ⟨h1,λi hi=>?_⟩;rw[ay,ay,aI (l:=c) (by lia),l4 hi];exact h2 _ (i5 _)
theorem WQ{n:Nat}(Y:n<=100000)(U:m<=4):wZ [.int (n:Nat),.int (m:Nat)]= .ok (.int ((n^m:Nat):Int)):=by
 unfold wZ;ext;rw[iV (by lia)];ext;refine cJ (λi=>[some (.int n),some (.int m),some (.int ((n^i:Nat):Int)),none]) rfl (λi x hx=>?_) ?_
 . obtain ⟨hi,rfl⟩:=mX hx;have e:((n^(i+1):Nat):Int)=(n:Nat)*((n^i:Nat):Int):=by rw[iE,oC,Int.natCast_mul]
   rw[e];generalize n^i=q;walk_at "go"
 . rw[iY];ext
noncomputable abbrev CI(g:Nat×Int):af:=dG g.1 g.2
variable {Γ:Ev}
theorem J2{m:ME}{es:B5}(Y:m Γ = .ok (.list es))(U:gv Γ i=some (.list ds))(Z:ds.length+es.length<=be)(hi:i < Γ.length):vN i m Γ = .ok (.nx (Γ.set i (some (.list (ds++es))))):=by
 rw[vN,Y];show (match gv Γ i,af.list es with
  | some (.list ds),.list es=>gd (ds.length+es.length<=be/\i < Γ.length) (.ok (Out.nx (Γ.set i (some (.list (ds++es))))))
  | _,_=>Co.bad)=_
 rw[U];exact bH ⟨Z,hi⟩
noncomputable def fu(old fresh:B4)(n p:Nat):List B4:=cE p old++[fresh]++cE (n - p - 1) (old++fresh)
noncomputable def fQ(old fresh:B4)(n:Nat):List B4:=(c8 n).flatMap λp=>dw (fu old fresh n p)
variable {old:B4}
theorem gU{n:Nat}(h:p<n):(fu old xs n p).length=n:=by
 rw[fu,aw,aw,cn,cn,d5];lia
theorem wC{fresh:B4}{n:Nat}(h:p<n)(hi:i<n):(fu old fresh n p).getD i []=if i<p then old else if i=p then fresh else old++fresh:=by
 rw[fu,ay];rcases yY i p with q | q | q
 . rw[if_pos q,da,dA (by rw[cn];exact q),l4 q];rfl
 . subst q;rw[if_neg (fo _),if_pos rfl,da,c9 (by rw[cn];exact ax _),cn,tJ];rfl
 . rw[if_neg (by lia),if_neg (by lia),c9 (by rw[aw,cn,d5];lia),aw,cn,d5,l4 (by lia)];rfl
theorem iG{fresh:B4}{n:Nat}(h:c∈fQ old fresh n):c.length=n/\∀x∈c,x∈old++fresh:=by
 obtain ⟨p,U,h⟩:=h9.mp h;have U:=d6.mp U;obtain ⟨h1,h2⟩:=nT.mp h;rw[gU U] at h1 h2;refine ⟨h1,λx hx=>?_⟩;obtain ⟨i,hi,rfl⟩:=dS.mp hx;have:=h2 i (by lia);rw[wC U (by lia),ay,aI hi] at this;have this:=this;split at this
 . exact dQ _ this
 . split at this
   . exact cc _ this
   . exact this
theorem zg{fresh:B4}{n:Nat}(l:c.length=n)(j:∀x∈c,x∈old++fresh)(hx:∃x∈c,x∉old):c∈fQ old fresh n:=by
 have Z:c.findIdx (λx=>!decide (x∈old))<c.length:=List.findIdx_lt_length.mpr (by
  obtain ⟨x,h1,h2⟩:=hx;exact ⟨x,h1,by rw[decide_eq_false h2];rfl⟩)
 have e:=List.findIdx_getElem (w:=Z);refine h9.mpr ⟨c.findIdx (λx=>!decide (x∈old)),d6.mpr (by lia),nT.mpr ⟨by rw[gU (by lia),l],λi hi=>?_⟩⟩;rw[gU (by lia)] at hi;rw[wC (by lia) hi,ay,aI (by lia)];have U:=j _ (i5 (show i<c.length by lia));split
 . rename_i q;have:=List.not_of_lt_findIdx q;simp only[Bool.not_eq_false'] at this;exact of_decide_eq_true this
 . split
   . rename_i q;subst q;have Y:c[c.findIdx (λx=>!decide (x∈old))]∉old:=by
      intro z;rw[decide_eq_true z] at e;cases e
     exact (de.mp U).resolve_left Y
   . exact U
theorem jh{b:B5}(h:a.length+b.length<=1000):cj (.list a) (.list b)= .ok (.list (a++b)):=Dz (fe (CS (by lia)))
noncomputable def iy(gs:A8)(old fresh:B4)(w:Nat):B4:=gs.flatMap λg=>(fQ old fresh g.1).map λc=>jO g.2 c w
noncomputable def oG(n:Nat)(gs:A8):Nat:=(gs.map λg=>n^g.1).sum
variable {gs:A8}
theorem v7{n:Nat}(j:n<=100000)(Z:gs.length<=100)(Y:∀g∈gs,g.1<=4):gq [.int (n:Nat),.list (gs.map CI)]= .ok (.int (oG n gs:Nat)):=by
 unfold gq;ext;rw[lr (xs:=gs) CI (λg=>.int ((n^g.1:Nat):Int)) ?_ (CS (by lia)) λg h=>?_]
 . ext;rw[show gs.map (λg=>af.int ((n^g.1:Nat):Int))=(gs.map λg=>((n^g.1:Nat):Int)).map af.int by rw[eh];rfl];have:∀U:B4,Ar [.list (U.map af.int)]= .ok (.int U.sum):=λU=>vq;rw[this];ext;unfold oG;congr 2
   induction gs with
   | nil=>rfl
   | cons g gs e=>
    rw[b9,gS,b9,gS,wb,e (by rw[ba] at Z;lia) λq i=>Y q (a6 _ i)]
 . ext
 . ext;rw[WQ j (Y g h)]
theorem xZ{n:Nat}(e:n<=128)(U:gs.length<=100)(Y:∀g∈gs,g.1<=4)(Z:oG n gs<=20000):bx [.int (n:Nat),.list (gs.map CI)]= .ok .none:=by
 unfold bx;ext;rw[decide_eq_false (by lia)];ext;rw[v7 (by lia) U Y];ext;rw[decide_eq_false (by lia)];ext
variable {ns:B4}
theorem Dh(h:(ddl ns).length<3000):j0 [dL ns]= .ok (dL (srt (ddl ns))):=by
 show (match intsOf (ns.map af.int) with
  | some ns=>gd ((ddl ns).length<3000) (Co.ok (af.list ((srt (ddl ns)).map af.int)))
  | none=>.bad)=_
 rw[ji];exact bH h
theorem Jw(h1:(ddl ns).length<3000)(h2:(ddl xs).length<3000)(U:(ddl ns).length / 4<=(ddl xs).length\/5<=(ddl ns).length)(Y:(bR (ddl ns) (ddl xs)).length<3000):jt [dL ns,dL xs]= .ok (dL (srt (bR (ddl ns) (ddl xs)))):=by
 show (match intsOf (ns.map af.int),intsOf (xs.map af.int) with
  | some ns,some xs=>gd ((ddl ns).length<3000/\(ddl xs).length<3000/\((ddl ns).length / 4<=(ddl xs).length\/5<=(ddl ns).length)/\(bR (ddl ns) (ddl xs)).length<3000) (Co.ok (af.list ((srt (bR (ddl ns) (ddl xs))).map af.int)))
  | _,_=>.bad)=_
 rw[ji,ji];exact bH ⟨h1,h2,U,Y⟩
theorem Mu(h:(ddl ns).length<3000):lR [x,dL ns]= .ok (.tuple [x,dR (srt (ddl ns))]):=by
 unfold lR;ext;rw[Dh h];ext;rfl
def X7(gs:A8)(w:Nat)(Z:Int->Prop):Prop:=∀g∈gs,∀c:B4,c.length=g.1->(∀x∈c,Z x)->Z (jO g.2 c w)
def Reach(gs:A8)(w:Nat)(rs:B4)(x:Int):Prop:=∀Z:Int->Prop,(∀r∈rs,Z r)->X7 gs w Z->Z x
theorem Reach.row{r:Int}(h:r∈xs):Reach gs W xs r:=λZ h1 _=>h1 r h
variable {g:Nat×Int}
theorem Reach.step(U:g∈gs)(Y:c.length=g.1)(h:∀x∈c,Reach gs W xs x):Reach gs W xs (jO g.2 c W):=λZ h1 h2=>h2 g U c Y λx hx=>h x hx Z h1 h2
theorem uN:∀{N:Nat}{l:B4},l.Nodup->(∀x∈l,0<=x/\x<N)->l.length<=N
 | 0,l,Y,U=>by
  cases l with
  | nil=>exact ax _
  | cons x l=>have:=U x a7;lia
 | N+1,l,Y,U=>by
  have h1:(l.erase (N:Int)).length<=N:=uN (Y.erase _) λx hx=>by
   have hx:=(Y.mem_erase_iff).mp hx;have:=U x hx.2;have e:=hx.1;lia
  by_cases Z:(N:Int)∈l
  . rw[ze Z] at h1;lia
  . rw[List.erase_of_not_mem Z] at h1;lia
variable {l:B4}
theorem yK(h:l.Nodup):ddl l=l:=by
 have key:∀(l U:B4),(U++l).Nodup->l.foldl jk U=U++l:=λl=>by
  induction l with
  | nil=>intro U _;rw[cy];rfl
  | cons x l Y=>
   intro U h;have hx:=λz=>(eu.mp h).2.2 x z x a7 rfl;rw[fS,show jk U x=U++[x] from if_neg hx,Y (U++[x]) (by rw[da];exact h),da];rfl
 exact key l [] (by simpa using h)
theorem gf{x:Int}:x∈srt l↔x∈l:=(dX l).mem_iff
theorem TX{b:B4}(ha:xs.Nodup)(U:b.Nodup)(h:∀x,x∈xs↔x∈b):srt xs=srt b:=
 kj (((dX xs).trans ((List.perm_ext_iff_of_nodup ha U).mpr h)).trans (dX b).symm) (gR xs) (gR b)
variable {d:af}
theorem Q8{m:ME}(h:m Γ = .ok d):sEx m Γ = .ok (.nx Γ):=by rw[sEx,h];rfl
theorem aaK{n:Nat}(h:∀g∈gs,n^g.1<=B):oG n gs<=gs.length*B:=by
 unfold oG
 induction gs with
 | nil=>simp
 | cons g gs U=>
  rw[b9,gS,ba,wo];have h1:=h g a7;have h2:=U λq Y=>h q (a6 _ Y);lia
theorem UT{n:Nat}(h:n^m<=B)(Y:1<=B)(hi:i<=m):n^i<=B:=by
 by_cases U:n=0
 . subst U;exact c5 (by cases i with | zero=>exact ax _ | succ i=>rw[Nat.zero_pow (Nat.succ_pos i)];exact f7 _) Y
 . exact c5 (iX (xt U) hi) h
theorem ye{U:B4->af}(s:∀rs,Ln (U rs)= .ok (rs.map af.int))(o:∀rs∈cs,rs.length<=256)(u:cs.length<=4)(m:∀i,i<cs.length->(dw (cs.take i)).length<=20000):lQ [.list (cs.map U)]= .ok (.list ((dw cs).map dL)):=by
 unfold lQ;ext;refine cJ (λi=>[some (.list (cs.map U)),some (.list ((dw (cs.take i)).map dL)),none,none,none,none]) rfl (λi x hx=>?_) ?_
 . obtain ⟨rs,Y,rfl⟩:=iB hx;have hi:=(bE.mp Y).1;have Z:=o rs (d4 Y);have p:=m i hi;ext;refine cJ (λj=>[some (.list (cs.map U)),some (.list ((dw (cs.take i)).map dL)),some (U rs),some (.list ((jB rs ((dw (cs.take i)).take j)).map dL)),none,none]) rfl (λj x hx=>?_) ?_
   . obtain ⟨c,e,rfl⟩:=iB hx;have q:=La (d4 e);rw[c6] at q;have v:(jB rs ((dw (cs.take i)).take j)).length<=5200000:=by
      rw[qP,c6];exact c5 (Nat.mul_le_mul (c5 (z5 _ _) p) Z) (by decide)
     ext;rw[s];ext;refine cJ (λk=>[some (.list (cs.map U)),some (.list ((dw (cs.take i)).map dL)),some (U rs),some (.list ((jB rs ((dw (cs.take i)).take j)++(rs.take k).map λr=>c++[r]).map dL)),some (dL c),none]) ?_ (λk x hx=>?_) ?_
     . rw[xi,ll,cy]
     . obtain ⟨r,l,rfl⟩:=iB hx;have hk:=(bE.mp l).1;ext;rw[acN (by lia)];ext;rw[bH (iS (show _<=5300000 by rw[aw,ai,c6];lia) (by decide))];ext;rw[take_snoc l,ck (f:=λr=>c++[r]),<- da,ck (l₂:=List.map (λr=>c++[r]) [r])];rfl
     . rw[ai,e8];ext;rw[take_snoc e,Nx]
   . rw[ai,e8];ext;rw[take_snoc Y,o6]
 . rw[ai,e8];ext
theorem qI{n:Nat}(h:ts∈fu old xs n p):ts.length<=old.length+xs.length:=by
 rcases de.mp h with h | h
 . rcases de.mp h with h | h
   . rw[(xI.mp h).2];lia
   . rw[aS.mp h];lia
 . rw[(xI.mp h).2,aw];exact ax _
theorem Og(U:∀rs∈cs,rs.length<=B)(Y:B^cs.length<=20000)(hi:i<=cs.length):(dw (cs.take i)).length<=20000:=by
 have:=Dv (cs:=cs.take i) (λrs h=>U rs (nE h));rw[c6,wa hi] at this;exact c5 this (UT Y (by decide) hi)
theorem Gm(U:∀rs∈cs,rs.length<=B)(Y:B^cs.length<=20000):(dw cs).length<=20000:=c5 (Dv U) Y
theorem places_len{n:Nat}(Y:(old.length+xs.length)^n<=20000):∀k,k<=n->(((c8 k).flatMap λp=>dw (fu old xs n p))).length<=k*20000:=λk=>by
 induction k with
 | zero=>intro _;simp
 | succ k U=>
  intro hk;rw[r0,mn,aw,wo];have h1:=U (by lia);have h2:(dw (fu old xs n k)).length<=20000:=Gm (λZ h=>qI h) (by rw[gU (by lia)];exact Y);have e:([k].flatMap λp=>dw (fu old xs n p)).length=(dw (fu old xs n k)).length:=by simp
  rw[e];lia
theorem tD{n:Nat}(m:old.length+xs.length<=128)(l:n<=4)(U:(old.length+xs.length)^n<=20000):jl [dL old,dL xs,.int (n:Nat)]= .ok (.list ((fQ old xs n).map dL)):=by
 unfold jl;ext;rw[iV (by lia)];ext;refine cJ (λi=>[some (dL old),some (dL xs),some (.int n),some (.list (((c8 i).flatMap λp=>dw (fu old xs n p)).map dL)),none]) rfl (λi x hx=>?_) ?_
 . obtain ⟨hi,rfl⟩:=mX hx;have e:(n:Int) - (i:Nat) - 1=((n - i - 1:Nat):Int):=by lia
   have Z:evs [ak cj (ak cj (ak wj (bI [aj 0]) (aj 4)) (bI [aj 1])) (ak wj (bI [ak cj (aj 0) (aj 1)]) (ak qG (ak qG (aj 2) (aj 4)) (eC (.int 1))))] [some (dL old),some (dL xs),some (.int (n:Nat)),some (.list (((c8 i).flatMap λp=>dw (fu old xs n p)).map dL)),some (.int (i:Nat))]= .ok [.list ((fu old xs n i).map dL)]:=by
    ext;rw[e,rep1 (by lia)];ext;rw[jh (by rw[cn];show i+1<=1000;lia)];ext;rw[show cj (dL old) (dL xs)= .ok (dL (old++xs)) by unfold dL;rw[jh (by rw[ai,ai];lia),ck]];ext;rw[rep1 (by lia)];ext;rw[jh (by rw[aw,cn,cn];show i+1+_<=1000;lia)];rw[fu,ck,ck,xS,xS];rfl
   have o:=places_len U i (by lia);have q:=Gm (λY h=>qI h) (by rw[gU hi];exact U);rw[An];ext;rw[J2 (es:=(dw (fu old xs n i)).map dL) ?_ rfl ?_ (of_decide_eq_true rfl)]
   . ext;rw[r0,mn,ck];simp
   . rw[gb,Z,Co.aP];exact ye (λY=>rfl) (λY h=>c5 (qI h) (by lia)) (by rw[gU hi];exact l) (λj hj=>Og (λY h=>qI h) (by rw[gU hi];exact U) (fe hj))
   . rw[ai,ai];exact c5 (show _<=400000 by lia) (by decide)
 . rw[iY];ext;rfl
theorem PK{w K:Nat}(Y:∀g∈gs,(fQ old xs g.1).length<=K)(i:Nat):(iy (gs.take i) old xs w).length<=i*K:=by
 induction i with
 | zero=>simp[iy]
 | succ i Z=>
  rw[kG];unfold iy at Z ⊢;rw[mn,aw,wo]
  cases h:gs[i]? with
  | none=>
   show _+0<=_;lia
  | some U=>
   have:=Y U (d4 h);show _+((fQ old xs U.1).map (λc=>jO U.2 c w)++[]).length<=_;rw[cy,ai];lia
theorem Eh{w:Nat}(q:old.length+xs.length<=128)(r:gs.length<=8)(U:∀g∈gs,g.1<=4/\(old.length+xs.length)^g.1<=20000)(o:w<=100) :
 gB [.list (gs.map CI),dL old,dL xs,.int (w:Nat)]= .ok (dL (iy gs old xs w)):=by
 have Z:∀g∈gs,(fQ old xs g.1).length<=80000:=λg h=>by
  have h1:=places_len (U g h).2 g.1 (ax _);have h2:=(U g h).1;show (((c8 g.1).flatMap λp=>dw (fu old xs g.1 p))).length<=_;lia
 unfold gB;ext;refine cJ (λi=>[some (.list (gs.map CI)),some (dL old),some (dL xs),some (.int w),some (dL (iy (gs.take i) old xs w)),none,none]) rfl (λi x hx=>?_) ?_
 . obtain ⟨g,l,rfl⟩:=iB hx;have Y:=d4 l;have hz:=Z g Y;have s:=PK (w:=w) Z i;have hi:=(bE.mp l).1;ext;rw[tD q (U g Y).1 (U g Y).2];ext;refine cJ (λj=>[some (.list (gs.map CI)),some (dL old),some (dL xs),some (.int w),some (dL (iy (gs.take i) old xs w++((fQ old xs g.1).take j).map λc=>jO g.2 c w)),some (dG g.1 g.2),none]) ?_ (λj x hx=>?_) ?_
   . rw[xi,ll,cy]
   . obtain ⟨c,e,rfl⟩:=iB hx;have m:=(iG (d4 e)).1;have hj:=(bE.mp e).1;ext;rw[zK m (U g Y).1 o];unfold dL;ext;rw[bH (iS (show _<=800000 by rw[aw,ai,c6];lia) (by decide))];ext;rw[take_snoc e,ck (f:=λc=>jO g.2 c w),<- da,ck (l₂:=List.map (λc=>jO g.2 c w) [c])];rfl
   . rw[ai,e8];ext;rw[take_snoc l];unfold iy;rw[mn];simp
 . rw[ai,e8];ext
def bN(n:Nat)(gs:A8):Prop:=128<n\/20000<oG n gs
theorem OJ{n:Nat}(h:n<=W)(gs:A8):oG n gs<=oG W gs:=by
 unfold oG
 induction gs with
 | nil=>exact ax _
 | cons g gs U=>
  rw[b9,gS,b9,gS];exact Nat.add_le_add (we h _) U
theorem bN.mono{n:Nat}(h:bN n gs)(U:n<=W):bN W gs:=by
 rcases h with h | h
 . exact .inl (by lia)
 . exact .inr (cK h (OJ U gs))
theorem HW{n:Nat}(h:g∈gs):n^g.1<=oG n gs:=by
 unfold oG
 induction gs with
 | nil=>cases h
 | cons q gs U=>
  rw[b9,gS];rcases bq.mp h with rfl | h
  . lia
  . have:=U h;lia
noncomputable def gtC:ME:=eOr (ak gtD (aj 0) (eC (.int 128))) (ak gtD (aJ gq [(aj 0),(aj 1)]) (eC (.int 20000)))
theorem JP{n:Nat}(h:bN n gs)(U:gs.length<=100)(Y:∀g∈gs,g.1<=4):gtC [some (.int (n:Nat)),some (.list (gs.map CI))]= .ok (.bool true):=by
 unfold gtC;ext
 by_cases Z:128<n
 . rw[decide_eq_true (show (128:Int)<n by lia)];ext
 . rw[decide_eq_false (show ¬ (128:Int)<n by lia)];ext;rw[v7 (by lia) U Y];ext;rcases h with h | h
   . exact absurd h Z
   . rw[decide_eq_true (show (20000:Int)<(oG n gs:Nat) by lia)]
theorem ZG{c:ME}(h:c Γ = .ok (.bool true)):sIf c jP cR Γ = .bad:=by
 rw[xm,h];rfl
theorem yj{n:Nat}(h:bN n gs)(U:gs.length<=100)(Y:∀g∈gs,g.1<=4):bx [.int (n:Nat),.list (gs.map CI)]= .bad:=by
 show Co.bind (sIf gtC jP cR [some (.int (n:Nat)),some (.list (gs.map CI))]) _=_;rw[ZG (JP h U Y)];rfl
structure ql (gs:A8) (w:Nat) (rs old fresh:B4):Prop where
 nd:(old++fresh).Nodup
 bd:∀x∈old++fresh,0<=x/\x<2^w
 re:∀x∈old++fresh,Reach gs w rs x
 rw:∀r∈rs,r∈old++fresh
 cl:∀g∈gs,∀c:B4,c.length=g.1->(∀x∈c,x∈old)->jO g.2 c w∈old++fresh
noncomputable def qM(gs:A8)(w:Nat)(old fresh:B4):B4:=srt (bR (ddl (iy gs old fresh w)) (ddl (old++fresh)))
theorem ql.step{w:Nat}{fresh:B4}(h:ql gs w xs old fresh):ql gs w xs (old++fresh) (qM gs w old fresh):=by
 obtain ⟨y,v,q,j,i⟩:=h;have U:∀x,x∈qM gs w old fresh↔x∈iy gs old fresh w/\x∉old++fresh:=λx=>by
  rw[qM,gf];rw[bR,gy,xq];simp[xq]
 have Z:∀x∈iy gs old fresh w,Reach gs w xs x/\0<=x/\x<2^w:=λx hx=>by
  obtain ⟨g,h1,hx⟩:=h9.mp hx;obtain ⟨c,h2,rfl⟩:=bt.mp hx;obtain ⟨m,s⟩:=iG h2;exact ⟨Reach.step h1 m λx hx=>q x (s x hx),rR,Bw⟩
 refine ⟨?_,?_,?_,?_,?_⟩
 . refine eu.mpr ⟨y,(dX _).nodup_iff.mpr ((qT _).filter _),λa ha b o e=>?_⟩;exact ((U b).mp o).2 (e ▸ ha)
 . intro x hx;rcases de.mp hx with h | h
   . exact v x h
   . exact (Z x ((U x).mp h).1).2
 . intro x hx;rcases de.mp hx with h | h
   . exact q x h
   . exact (Z x ((U x).mp h).1).1
 . intro r h;exact dQ _ (j r h)
 . intro g h1 c h2 m
   by_cases Y:∀x∈c,x∈old
   . exact dQ _ (i g h1 c h2 Y)
   . have hx:∃x∈c,x∉old:=ng λz=>Y λx hx=>ng λu=>z ⟨x,hx,u⟩;have l:jO g.2 c w∈iy gs old fresh w:=h9.mpr ⟨g,h1,bt.mpr ⟨c,zg h2 m hx,rfl⟩⟩
     by_cases p:jO g.2 c w∈old++fresh
     . exact dQ _ p
     . exact cc _ ((U _).mpr ⟨l,p⟩)
def Hu(gs:A8)(w:Nat)(rs:B4):Prop:=∀l:B4,l.Nodup->(∀x∈l,Reach gs w rs x)->l.length<=300
theorem ql.len(h:ql gs W xs old ts)(U:Hu gs W xs):old.length+ts.length<=300:=by
 have:=U _ h.nd h.re;rwa [aw] at this
theorem Zy{rs:B4}(Z:W<=8)(U:∀r∈rs,0<=r/\r<2^W):Hu gs W rs:=λl Y e=>by
 have i:2^W<=2^8:=iX (by decide) Z;have:=uN Y λx hx=>by
  rw[show ((2^W:Nat):Int)=2^W by simp];exact e x hx (λx=>0<=x/\x<2^W) U λg _ c _ _=>⟨rR,Bw⟩
 lia
theorem ql.whole(h:ql gs W xs old [])(x:Int):x∈old↔Reach gs W xs x:=by
 have e:old++[]=old:=cy _;obtain ⟨j,i,Z,U,Y⟩:=h;rw[e] at j i Z U Y;exact ⟨Z x,λz=>z (λx=>x∈old) U Y⟩
noncomputable def cCn:ME:=ak gtD (eFn cQ [(aj 5)]) (eC (.int 0))
noncomputable def cRf:MS:=sEx (aJ bx [(ak cj (eFn cQ [(aj 4)]) (eFn cQ [(aj 5)])),(aj 1)])
noncomputable def cBd:MS:=aG cRf (aG (aN 6 (aJ gB [(aj 1),(aj 4),(aj 5),(aj 2)])) (aG (aN 4 (ak cj (aj 4) (aj 5))) (aN 5 (eFn jt [(aj 6),(aj 4)]))))
noncomputable def cG(d:af)(gs:A8)(w:Nat)(c:af)(old fresh:B4):Ev:=[some d,some (.list (gs.map CI)),some (.int (w:Nat)),some c,some (dL old),some (dL fresh),none]
section
variable  {w:Nat}{rs fresh:B4}{c:af}
theorem Lr:evs [(ak cj (eFn cQ [(aj 4)]) (eFn cQ [(aj 5)])),(aj 1)] (cG d gs w c old fresh)= .ok [.int ((old.length+fresh.length:Nat):Int),.list (gs.map CI)]:=by
 unfold cG;ext;rw[show (old.length:Int)+(fresh.length:Int)=((old.length+fresh.length:Nat):Int) by lia]
theorem Xi(hz:fresh≠[]):cCn (cG d gs w c old fresh)= .ok (.bool true):=by
 unfold cCn cG;ext;rw[decide_eq_true (show (0:Int)<((fresh.length:Nat):Int) by have:=og.mpr hz;lia)]
theorem aaY:cCn (cG d gs w c old [])= .ok (.bool false):=by
 unfold cCn cG;ext
theorem Pq(h:bN (old.length+fresh.length) gs)(Y:gs.length<=8)(U:∀g∈gs,g.1<=4):cRf (cG d gs w c old fresh)= .bad:=by
 unfold cRf sEx;rw[gb,Lr,Co.aP,yj h (by lia) U];rfl
theorem Zn(h:bN (old.length+fresh.length) gs)(U:gs.length<=8)(Y:∀g∈gs,g.1<=4):cBd (cG d gs w c old fresh)= .bad:=by
 rw[cBd,bW,Pq h U Y];rfl
theorem abq(Y:ql gs w rs old fresh)(hz:fresh≠[])(j:Hu gs w rs)(s:w<=100)(m:gs.length<=8)(Z:∀g∈gs,g.1<=4)(e:¬ bN (old.length+fresh.length) gs) :
 ∃Γ',cBd (cG d gs w c old fresh)= .ok (.nx Γ')/\clr [6] Γ'=cG d gs w c (old++fresh) (qM gs w old fresh):=by
 have i:=Y.len j;have h1:=hY λz=>e (.inl z);have h2:=hY λz=>e (.inr z);have o:(ddl (iy gs old fresh w)).length<=300:=j _ (qT _) λx hx=>by
  obtain ⟨g,U,hx⟩:=h9.mp (xq.mp hx);obtain ⟨c,v,rfl⟩:=bt.mp hx;obtain ⟨u,p⟩:=iG v;exact Reach.step U u λx hx=>Y.re x (p x hx)
 have l:=og.mpr hz;have r:cRf (cG d gs w c old fresh)= .ok (.nx (cG d gs w c old fresh)):=by
  refine Q8 (d:=.none) ?_;rw[gb,Lr,Co.aP,xZ h1 (by lia) Z h2]
 refine ⟨[some d,some (.list (gs.map CI)),some (.int w),some c,some (dL (old++fresh)),some (dL (qM gs w old fresh)),some (dL (iy gs old fresh w))],?_,rfl⟩;rw[cBd,bW,r];unfold cG;ext;rw[Eh h1 m (λg h=>⟨Z g h,c5 (HW h) h2⟩) (by lia)];ext;rw[show cj (dL old) (dL fresh)= .ok (dL (old++fresh)) by unfold dL;rw[jh (by rw[ai,ai];lia),ck]];ext;have q:(ddl (old++fresh)).length=old.length+fresh.length:=by rw[yK Y.nd,aw]
 rw[Jw (by lia) (by lia) (by lia) (iS (zY _ _) (by lia))];ext;rfl
theorem JL(m:Hu gs w rs)(Z:w<=100)(i:gs.length<=8)(j:∀g∈gs,g.1<=4):∀(n k:Nat) (old fresh:B4),ql gs w rs old fresh->(old=[]\/¬ bN old.length gs)->k+old.length=300->k<n ->
 (∃L,whR cCn [6] cBd n (cG d gs w c old fresh)= .ok (.nx (cG d gs w c L []))/\ql gs w rs L []/\(L=[]\/¬ bN L.length gs)) \/
 (whR cCn [6] cBd n (cG d gs w c old fresh)= .bad/\(∀(zb:MZ) (T:Str),(∀old fresh,bN (old.length+fresh.length) gs->zb (cG d gs w c old fresh)= .ok T)->ir cCn [6] cBd zb n (cG d gs w c old fresh)= .ok T)/\∃l:B4,l.Nodup/\(∀x∈l,Reach gs w rs x)/\bN l.length gs)
 | 0,k,old,fresh,_,_,_,h=>absurd h (mi _)
 | n+1,k,old,fresh,U,v,hk,y=>by
  by_cases hz:fresh=[]
  . subst hz;left;refine ⟨old,?_,U,v⟩;rw[whR,aaY];rfl
  . have hy:=Xi (d:=d) (gs:=gs) (w:=w) (c:=c) (old:=old) hz;have s:=og.mpr hz
    by_cases e:bN (old.length+fresh.length) gs
    . right;have r:=Zn (d:=d) (w:=w) (c:=c) e i j;refine ⟨?_,λzb T h=>?_,old++fresh,U.nd,U.re,by rw[aw];exact e⟩
      . rw[whR,hy,Co.aP,r];rfl
      . rw[ir,hy,Co.aP];show (match cBd (cG d gs w c old fresh) with
         | .ok (.nx Γ2)=>ir cCn [6] cBd zb n (clr [6] Γ2)
         | _=>zb (cG d gs w c old fresh))=_
        rw[r];exact h old fresh e
    . obtain ⟨Y,p,o⟩:=abq U hz m Z i j e;have q:=U.len m;have u:whR cCn [6] cBd (n+1) (cG d gs w c old fresh)=whR cCn [6] cBd n (cG d gs w c (old++fresh) (qM gs w old fresh)):=by
       rw[whR,hy,Co.aP,p,Co.aP];show whR cCn [6] cBd n (clr [6] Y)=_;rw[o]
      have z:∀zb:MZ,ir cCn [6] cBd zb (n+1) (cG d gs w c old fresh)=ir cCn [6] cBd zb n (cG d gs w c (old++fresh) (qM gs w old fresh)):=λzb=>by
       rw[ir,hy,Co.aP];show (match cBd (cG d gs w c old fresh) with
        | .ok (.nx Γ2)=>ir cCn [6] cBd zb n (clr [6] Γ2)
        | _=>zb (cG d gs w c old fresh))=_
       rw[p];show ir cCn [6] cBd zb n (clr [6] Y)=_;rw[o]
      rw[u];simp only[z];exact JL m Z i j n (k - fresh.length) (old++fresh) (qM gs w old fresh) U.step (.inr (by rw[aw];exact e)) (by rw[aw];lia) (by lia)
end
noncomputable def fX(gs:A8)(w:Nat):B4:=(gs.filter λg=>decide (g.1=0)).map λg=>jO g.2 [] w
noncomputable def m7(gs:A8)(w:Nat)(rs:B4):B4:=srt (ddl (rs++fX gs w))
section
variable  {w:Nat}{rs:B4}
theorem acj(o:gs.length<=8)(i:∀r∈rs,0<=r/\r<2^w):ql gs w rs [] (m7 gs w rs):=by
 have U:∀x∈fX gs w,Reach gs w rs x/\0<=x/\x<2^w:=λx hx=>by
  obtain ⟨g,h1,rfl⟩:=bt.mp hx;obtain ⟨h1,h2⟩:=gy.mp h1;exact ⟨Reach.step h1 (of_decide_eq_true h2).symm (λx hx=>nomatch hx),rR,Bw⟩
 have Y:∀x,x∈[]++m7 gs w rs↔x∈rs++fX gs w:=λx=>by
  rw[j3];rw[m7,gf,xq]
 refine ⟨?_,λx hx=>?_,λx hx=>?_,λr l=>(Y r).mpr (dQ _ l),λg Z c j m=>?_⟩
 . rw[j3];exact (dX _).nodup_iff.mpr (qT _)
 . exact (de.mp ((Y x).mp hx)).elim (i x) λh=>(U x h).2
 . exact (de.mp ((Y x).mp hx)).elim (λh=>Reach.row h) λh=>(U x h).1
 . have e:=vb.mpr λx hx=>nomatch m x hx
   subst e;exact (Y _).mpr (cc _ (bt.mpr ⟨g,gy.mpr ⟨Z,decide_eq_true j.symm⟩,rfl⟩))
theorem ce1:aN 2 (ak CF (aj 0) (eC (.int 0))) [some (.tuple [.int (w:Nat),dR xs]),some x,none,none,none,none,none]= .ok (.nx [some (.tuple [.int (w:Nat),dR xs]),some x,some (.int (w:Nat)),none,none,none,none]):=by
 ext
theorem ce2(Y:gs.length<=8)(Z:w<=100):aN 3 (bU (itL (aj 1)) (gN 0) (ak eqD (ak CF (aj 0) (eC (.int 0))) (eC (.int 0))) (aJ jg [(aj 0),(bI []),(aj 1)]) 1 [2]) [some x,some (.list (gs.map CI)),some (.int (w:Nat)),none,none,none,none]= .ok (.nx [some x,some (.list (gs.map CI)),some (.int (w:Nat)),some (dL (fX gs w)),none,none,none]):=by
 ext;rw[o7 (xs:=gs) CI (λg=>decide (g.1=0)) (λg=>.int (jO g.2 [] w)) ?_ (CS (by lia)) (λg h=>?_) λg h U=>?_]
 rotate_left
 . ext
 . ext;congr 2;exact decide_eq_decide.mpr (by lia)
 . ext;have:=of_decide_eq_true U;rw[show (af.list [])=dL [] from rfl,zK (by rw[this];rfl) (by lia) (by lia)]
 ext;rw[show (gs.filter λg=>decide (g.1=0)).map (λg=>af.int (jO g.2 [] w))=(fX gs w).map af.int by rw[fX,eh];rfl];rfl
theorem ce3{y u:af}:aN 4 (bI []) [some x,some y,some d,some u,none,none,none]= .ok (.nx [some x,some y,some d,some u,some (dL []),none,none]):=by
 ext;rfl
theorem ce4{y:af}(U:gs.length<=8)(Y:xs.length<=300):aN 5 (eFn j0 [(ak cj (eFn uF [(ak CF (aj 0) (eC (.int 1)))]) (aj 3))]) [some (.tuple [.int (w:Nat),dR xs]),some y,some (.int (w:Nat)),some (dL (fX gs w)),some (dL []),none,none]= .ok (.nx [some (.tuple [.int (w:Nat),dR xs]),some y,some (.int (w:Nat)),some (dL (fX gs w)),some (dL []),some (dL (m7 gs w xs)),none]):=by
 have e:(fX gs w).length<=8:=by rw[fX,ai];exact c5 (kR _ _) U
 have Z:(ddl (xs++fX gs w)).length<3000:=iS (DK _) (by rw[aw];lia);ext;rw[show uF [dR xs]= .ok (dL xs) from rfl];ext;rw[show cj (dL xs) (dL (fX gs w))= .ok (dL (xs++fX gs w)) by unfold dL;rw[jh (by rw[ai,ai];lia),ck]];ext;rw[Dh Z];ext;rfl
theorem FN(o:Hu gs w rs)(Z:w<=100)(e:gs.length<=8)(q:∀g∈gs,g.1<=4)(i:∀r∈rs,0<=r/\r<2^w)(j:rs.length<=300) :
 (∃L:B4,ig [.tuple [.int (w:Nat),dR rs],.list (gs.map CI)]= .ok (.tuple [.int (w:Nat),dR (srt L)])/\L.Nodup/\(∀x,x∈L↔Reach gs w rs x)/\L.length<=300/\(L=[]\/¬ bN L.length gs)) \/
 (ig [.tuple [.int (w:Nat),dR rs],.list (gs.map CI)]= .bad/\dO 1000000 cCn [6] cBd (cG (.tuple [.int (w:Nat),dR rs]) gs w (dL (fX gs w)) [] (m7 gs w rs))= .bad/\(∀(zb:MZ) (T:Str),(∀old fresh,bN (old.length+fresh.length) gs->zb (cG (.tuple [.int (w:Nat),dR rs]) gs w (dL (fX gs w)) old fresh)= .ok T)->oh 1000000 cCn [6] cBd zb (cG (.tuple [.int (w:Nat),dR rs]) gs w (dL (fX gs w)) [] (m7 gs w rs))= .ok T) /\
  ∃l:B4,l.Nodup/\(∀x∈l,Reach gs w rs x)/\bN l.length gs):=by
 have p:ig [.tuple [.int (w:Nat),dR rs],.list (gs.map CI)]=Co.bind (aG (dO 1000000 cCn [6] cBd) (bD (aJ lR [(aj 2),(aj 4)])) (cG (.tuple [.int (w:Nat),dR rs]) gs w (dL (fX gs w)) [] (m7 gs w rs))) fin:=by
  show Co.bind (aG _ _ [some (.tuple [.int (w:Nat),dR rs]),some (.list (gs.map CI)),none,none,none,none,none]) fin=_;rw[bW,ce1,Co.aP,gh,bW,ce2 e Z,Co.aP,gh,bW,ce3,Co.aP,gh,bW,ce4 e j,Co.aP,gh];rfl
 have s:=JL (d:=.tuple [.int (w:Nat),dR rs]) (c:=dL (fX gs w)) o Z e q 1000000 300 [] (m7 gs w rs) (acj e i) (.inl rfl) rfl (by decide);rcases s with ⟨L,h1,h2,m⟩ | ⟨h1,h2,m⟩
 . left;have h1:dO 1000000 cCn [6] cBd (cG (.tuple [.int (w:Nat),dR rs]) gs w (dL (fX gs w)) [] (m7 gs w rs))=_:=h1;have U:=by have:=h2.nd;rwa [cy] at this
   have Y:=by have:=h2.len o;simpa using this
   refine ⟨L,?_,U,h2.whole,Y,m⟩;rw[p,bW,h1];unfold cG;ext;rw[Mu (by rw[yK U];lia),yK U];ext
 . right;have h1:dO 1000000 cCn [6] cBd (cG (.tuple [.int (w:Nat),dR rs]) gs w (dL (fX gs w)) [] (m7 gs w rs))= .bad:=h1;refine ⟨?_,h1,h2,m⟩;rw[p,bW,h1];rfl
theorem IK(i:w<=8)(Y:gs.length<=8)(Z:∀g∈gs,g.1<=4)(U:∀r∈rs,0<=r/\r<2^w)(e:rs.length<=100) :
 (∃L:B4,ig [.tuple [.int (w:Nat),dR rs],.list (gs.map CI)]= .ok (.tuple [.int (w:Nat),dR (srt L)])/\L.Nodup/\(∀x,x∈L↔Reach gs w rs x)/\L.length<=300/\(L=[]\/¬ bN L.length gs)) \/
 (ig [.tuple [.int (w:Nat),dR rs],.list (gs.map CI)]= .bad/\dO 1000000 cCn [6] cBd (cG (.tuple [.int (w:Nat),dR rs]) gs w (dL (fX gs w)) [] (m7 gs w rs))= .bad/\(∀(zb:MZ) (T:Str),(∀old fresh,bN (old.length+fresh.length) gs->zb (cG (.tuple [.int (w:Nat),dR rs]) gs w (dL (fX gs w)) old fresh)= .ok T)->oh 1000000 cCn [6] cBd zb (cG (.tuple [.int (w:Nat),dR rs]) gs w (dL (fX gs w)) [] (m7 gs w rs))= .ok T) /\
  ∃l:B4,l.Nodup/\(∀x∈l,Reach gs w rs x)/\bN l.length gs):=FN (Zy i U) (by lia) Y Z U (by lia)
end
structure Way where
 c:Nat
 g:Option (Nat×Int)
 ts:B4
abbrev A0:=List (Int×Way)
noncomputable def gD:Option (Nat×Int)->af
 | none=>.none
 | some g=>CI g
noncomputable def wD(w:Way):af:=.tuple [.int (w.c:Nat),gD w.g,dR w.ts]
noncomputable def CM(ws:A0):B0:=ws.map λq=>(af.int q.1,wD q.2)
noncomputable def lk(t:Int):A0->Option Way
 | []=>none
 | (k,w)::r=>if k=t then some w else lk t r
theorem NK{t:Int}:∀ws:A0,cD (.inl t) (CM ws)=(lk t ws).map wD
 | []=>rfl
 | (k,w)::r=>by
  show (if bJ (.int k)=some (.inl t) then some (wD w) else cD (.inl t) (CM r))=_;unfold lk
  by_cases h:k=t
  . subst h;rw[if_pos (show bJ (.int k)=some (.inl k) from rfl),if_pos rfl];rfl
  . rw[if_neg (show ¬ bJ (.int k)=some (.inl t) from λz=>h (l5.inj (Option.some.inj z))),if_neg h];exact NK r
variable {w:Way}
theorem zW{t:Int}:∀{ws:A0},lk t ws=some w->(t,w)∈ws
 | (k,U)::r,h=>by
  unfold lk at h
  by_cases e:k=t
  . rw[if_pos e] at h;cases h;subst e;exact a7
  . rw[if_neg e] at h;exact a6 _ (zW h)
theorem gG{t:Int}:∀{ws:A0},(lk t ws).isSome=true↔t∈ws.map (·.1)
 | []=>by simp[lk]
 | (k,U)::r=>by
  unfold lk
  by_cases e:k=t
  . rw[if_pos e];simp[e]
  . rw[if_neg e,gG];simp[mu e]
variable {ws:A0}
theorem xx{t:Int}:lk t ws=none↔t∉ws.map (·.1):=by
 rw[<- gG];cases lk t ws <;> simp
theorem oZ{t:Int}:∀{ws:A0},(ws.map (·.1)).Nodup->(t,w)∈ws->lk t ws=some w
 | (k,Y)::r,U,h=>by
  unfold lk;rw[b9,i0] at U;rcases bq.mp h with e | h
  . cases e;rw[if_pos rfl]
  . rw[if_neg (λz=>U.1 (by rw[z];exact bt.mpr ⟨_,h,rfl⟩))];exact oZ U.2 h
noncomputable def wH(t:Int)(w:Way)(ws:A0):A0:=ws.map λq=>if q.1=t then (q.1,w) else q
noncomputable def gF(t:Int)(w:Way)(ws:A0):A0:=if (lk t ws).isSome=true then wH t w ws else ws++[(t,w)]
theorem Pr{t:Int}:∀ws:A0,qz (.inl t) (CM ws)=(lk t ws).isSome
 | []=>rfl
 | (k,w)::r=>by
  show (if bJ (.int k)=some (.inl t) then true else qz (.inl t) (CM r))=_;unfold lk
  by_cases h:k=t
  . subst h;rw[if_pos (show bJ (.int k)=some (.inl k) from rfl),if_pos rfl];rfl
  . rw[if_neg (show ¬ bJ (.int k)=some (.inl t) from λz=>h (l5.inj (Option.some.inj z))),if_neg h];exact Pr r
theorem QD{t:Int}:∀ws:A0,vo (.inl t) (wD w) (CM ws)=CM (wH t w ws)
 | []=>rfl
 | (k,U)::r=>by
  show (if bJ (.int k)=some (.inl t) then (af.int k,wD w) else (.int k,wD U))::vo (.inl t) (wD w) (CM r)=_;rw[QD r];show _=(af.int (if k=t then (k,w) else (k,U)).1,wD (if k=t then (k,w) else (k,U)).2)::CM (wH t w r)
  by_cases h:k=t
  . subst h;rw[if_pos (show bJ (.int k)=some (.inl k) from rfl),if_pos rfl]
  . rw[if_neg (show ¬ bJ (.int k)=some (.inl t) from λz=>h (l5.inj (Option.some.inj z))),if_neg h]
theorem V7{t:Int}:iW (.int t) (.inl t) (wD w) (CM ws)=CM (gF t w ws):=by
 unfold iW gF;rw[Pr];split
 . exact QD ws
 . unfold CM;rw[ck];rfl
noncomputable def cg(ws:A0)(q:Int×Way):A0:=match lk q.1 ws with
 | none=>gF q.1 q.2 ws
 | some w0=>if q.2.c<w0.c then gF q.1 q.2 ws else ws
theorem xP:(CM ws).length=ws.length:=by rw[CM,ai]
theorem V6{U Y:ME}{t:Int}(h2:Y Γ = .ok (wD w))(h1:U Γ = .ok (.int t))(Z:gv Γ i=some (.dict (CM ws)))(e:ws.length<=100000)(hi:i < Γ.length):o9 i U Y Γ = .ok (.nx (Γ.set i (some (.dict (CM (gF t w ws)))))):=by
 rw[o9,h2,Co.aP,h1,Co.aP,Z];show gd ((CM ws).length<be/\i < Γ.length) (Co.ok (Out.nx (Γ.set i (some (.dict (iW (.int t) (.inl t) (wD w) (CM ws)))))))=_;rw[bH ⟨by rw[xP];exact CS e,hi⟩,V7]
theorem xM{t:Int}(h:lk t ws=some w):ixY (.dict (CM ws)) (.int t)= .ok (wD w):=by
 show (match cD (.inl t) (CM ws) with
  | some d=>Co.ok d
  | none=>.bad)=_
 rw[NK,h];rfl
theorem mV{t:Int}:gk (.int t) (.dict (CM ws))= .ok (.bool (!(lk t ws).isSome)):=by
 show Co.ok (af.bool (!(cD (.inl t) (CM ws)).isSome))=_;rw[NK,sL]
theorem tV:CF (wD w) (.int 0)= .ok (.int (w.c:Nat)):=rfl
theorem Yo{t:Int}(Y:ws.length<=100000):jq [.dict (CM ws),.int t,wD w]= .ok (.tuple [.none,.dict (CM (cg ws (t,w)))]):=by
 show Co.bind (sIf _ _ _ [some (.dict (CM ws)),some (.int t),some (wD w)]) _=_;ext;rw[mV];ext;unfold cg
 cases h:lk t ws with
 | none=>
  ext;rw[show (!(none:Option Way).isSome)=true from rfl];ext;rw[V6 rfl rfl rfl Y (of_decide_eq_true rfl)];rfl
 | some U=>
  rw[show (!(some U:Option Way).isSome)=false from rfl];ext;rw[tV,xM h];ext;rw[tV];ext
  by_cases lt:w.c<U.c
  . rw[if_pos lt,decide_eq_true (show (w.c:Int)<(U.c:Int) by lia)];ext;rw[V6 rfl rfl rfl Y (of_decide_eq_true rfl)];rfl
  . rw[if_neg lt,decide_eq_false (show ¬ (w.c:Int)<(U.c:Int) by lia)];ext
variable {ms:List ME}
theorem yS{t:Int}(h:evs ms Γ = .ok [.dict (CM ws),.int t,wD w])(U:ws.length<=100000):rM i jq ms Γ = .ok (.nx (Γ.set i (some (.dict (CM (cg ws (t,w))))))):=by
 rw[rM,h,Co.aP,Yo U];rfl
variable {q:Int×Way}
theorem TJ:(cg ws q).length<=ws.length+1:=by
 have U:(gF q.1 q.2 ws).length<=ws.length+1:=by
  unfold gF wH;split
  . rw[ai];lia
  . rw[aw];exact ax _
 unfold cg;split
 . exact U
 . split
   . exact U
   . lia
noncomputable def bz(n:Nat):B4:=(c8 n).map λj=>fJ n j
noncomputable def eU:Way:=⟨0,none,[]⟩
noncomputable def uQ(n:Nat):A0:=((bz n).map λt=>(t,eU)).foldl cg []
noncomputable def oN(gs:A8)(n:Nat):A0:=(gs.filter λg=>decide (g.1=0)).map λg=>(dW g.2 [] n,⟨1,some g,[]⟩)
noncomputable def lM(gs:A8)(n:Nat):A0:=(oN gs n).foldl cg (uQ n)
theorem t6:∀{qs ws:A0},(qs.foldl cg ws).length<=ws.length+qs.length
 | [],ws=>ax _
 | q::qs,ws=>by
  rw[fS,ba];have h1:=t6 (qs:=qs) (ws:=cg ws q);have h2:=TJ (ws:=ws) (q:=q);lia
theorem vV{n:Nat}(j:n<=4)(q:gs.length<=100):iM [.list (gs.map CI),.int (n:Nat)]= .ok (.dict (CM (lM gs n))):=by
 unfold iM;ext;rw[show rK [] [some (.list (gs.map CI)),some (.int (n:Nat)),none,none,none]= .ok (.dict (CM [])) from rfl];ext;rw[mU j];ext;have r:(bz n).length=n:=by rw[bz,ai,df]
 refine cJ (xs:=(bz n).map af.int) (λi=>[some (.list (gs.map CI)),some (.int n),some (.dict (CM ((((bz n).take i).map λt=>(t,eU)).foldl cg []))),none,none]) rfl (λi x hx=>?_) ?_
 . obtain ⟨t,l,rfl⟩:=iB hx;have hi:=(bE.mp l).1;have U:=t6 (qs:=((bz n).take i).map λt=>(t,eU)) (ws:=[]);rw[ai,c6,fT] at U;rw[An];show Co.bind (Co.bind (Co.ok ([some (.list (gs.map CI)),some (.int (n:Nat)),some (.dict (CM ((((bz n).take i).map λt=>(t,eU)).foldl cg []))),some (.int t),none]:Ev)) _) _=_;rw[Co.aP,yS (w:=eU) rfl (by lia),take_snoc l,ck,kK];rfl
 . rw[ai,e8];ext;refine cJ (λi=>[some (.list (gs.map CI)),some (.int n),some (.dict (CM ((oN (gs.take i) n).foldl cg (uQ n)))),none,none]) rfl (λi x hx=>?_) ?_
   . obtain ⟨g,e,rfl⟩:=iB hx;have hi:=(bE.mp e).1;have Y:=t6 (qs:=(bz n).map λt=>(t,eU)) (ws:=[]);rw[ai,fT] at Y;have Z:(uQ n).length<=n:=by show (((bz n).map λt=>(t,eU)).foldl cg []).length<=n;lia
     have m:(oN (gs.take i) n).length<=i:=by
      rw[oN,ai];exact c5 (kR _ _) (by rw[c6];exact Nat.min_le_left _ _)
     have U:=t6 (qs:=oN (gs.take i) n) (ws:=uQ n);have p:oN (gs.take (i+1)) n=oN (gs.take i) n++if g.1=0 then [(dW g.2 [] n,⟨1,some g,[]⟩)] else []:=by
      rw[oN,take_snoc e,sg,ck];congr 1
      by_cases h:g.1=0
      . rw[iL (by simpa using h),if_pos h];rfl
      . rw[fI (by simpa using h),if_neg h];rfl
     rw[p,kK];generalize (oN (gs.take i) n).foldl cg (uQ n)=ws at U ⊢;rw[An];show Co.bind (Co.bind (Co.ok ([some (.list (gs.map CI)),some (.int (n:Nat)),some (.dict (CM ws)),none,some (dG g.1 g.2)]:Ev)) _) _=_;rw[Co.aP];ext
     by_cases h:g.1=0
     . rw[decide_eq_true (show (g.1:Int)=0 by lia),if_pos h];ext;have o:evs [(aj 2),(aJ uC [(aj 4),(bI []),(aj 1)]),(bF [(eC (.int 1)),(aj 4),(bF [])])] [some (.list (gs.map CI)),some (.int (n:Nat)),some (.dict (CM ws)),none,some (dG g.1 g.2)]= .ok [.dict (CM ws),.int (dW g.2 [] n),wD ⟨1,some g,[]⟩]:=by
        ext;rw[show af.list []=dL [] from rfl,M3 (by rw[h];rfl) (by lia) j];ext;rfl
       rw[yS o (by lia)];rfl
     . rw[decide_eq_false (show ¬ (g.1:Int)=0 by lia),if_neg h];ext;rfl
   . rw[ai,e8];ext;rfl
noncomputable def aD(ws:A0):B4:=ws.map (·.1)
noncomputable def bQ(fs:A0)(t:Int):Nat:=((lk t fs).map (·.c)).getD 0
noncomputable def jC(fs:A0)(c:B4):Nat:=(c.map λp=>bQ fs p).sum
noncomputable def jK(fs:A0)(t:Int):B4:=(aD fs).filter λk=>!decide (k=t)
noncomputable def oX(fs:A0)(g:Nat×Int)(n:Nat)(c:B4):Option (Int×Way):=if (lk (dW g.2 c n) fs).isSome=true then none else some (dW g.2 c n,⟨1+jC fs c,some g,c⟩)
noncomputable def ug(fs:A0)(t:Int)(g:Nat×Int)(n:Nat):A0:=(fQ (jK fs t) [t] g.1).filterMap (oX fs g n)
noncomputable def qD(q:Int×Way):af:=.tuple [.int q.1,wD q.2]
theorem uD:∀ns:B6,(ns.map λk=>((k:Nat):Int)).sum=((ns.sum:Nat):Int)
 | []=>rfl
 | k::ns=>by rw[b9,gS,uD ns,gS,wb]
theorem Ti{t:Int}{a b:af}{q:List (Option af)}(U:ws.length<=128):bU (itK 0) (gN 0) (ak neD (aj 0) (aj 1)) (aj 0) 1 [1] (some (.dict (CM ws))::some (.int t)::q)= .ok (dL (jK ws t)):=by
 rw[o7 (xs:=aD ws) af.int (λk=>!decide (k=t)) af.int ?_ (CS (by rw[aD,ai];lia)) (λk hk=>?_) λk hk h=>?_]
 . rfl
 . show Co.ok ((CM ws).map (·.1))=_;unfold CM aD;rw[eh,eh];rfl
 . ext
 . ext
theorem abx{U Y:Type}{f:U->Option Y}{a:U}:List.filterMap f [a]=(f a).toList:=by cases h:f a <;> simp[h]
theorem Jk{fs:A0}{t:Int}{n:Nat}(s:fs.length<=128)(o:g.1<=4)(u:n<=4)(r:(jK fs t).length+1<=fs.length)(z:fs.length^g.1<=20000)(v:t∈aD fs) :
 f9 [.dict (CM fs),.int t,dG g.1 g.2,.int (n:Nat)]= .ok (.list ((ug fs t g n).map qD)):=by
 have Y:((jK fs t).length+[t].length)^g.1<=20000:=c5 (we r _) z;have y:(fQ (jK fs t) [t] g.1).length<=80000:=by
  have:=places_len Y g.1 (ax _);show ((c8 g.1).flatMap λp=>dw (fu (jK fs t) [t] g.1 p)).length<=_;lia
 unfold f9;ext;rw[Ti (a:=.none) (b:=.none) s];ext;rw[show af.list [.int t]=dL [t] from rfl,tD (by show (jK fs t).length+1<=128;lia) o Y];ext;refine cJ (λi=>[some (.dict (CM fs)),some (.int t),some (dG g.1 g.2),some (.int n),some (dL (jK fs t)),some (.list ((((fQ (jK fs t) [t] g.1).take i).filterMap (oX fs g n)).map qD)),none,none,none]) rfl (λi x hx=>?_) ?_
 . obtain ⟨c,e,rfl⟩:=iB hx;have hi:=(bE.mp e).1;obtain ⟨l,j⟩:=iG (d4 e);have m:=λp U=>by
    have:p∈aD fs:=by
     rcases de.mp (j p U) with h | h
     . exact (gy.mp h).1
     . rw[aS.mp h];exact v
    exact eP.mp (gG.mpr this)
   ext;rw[M3 l o u];ext;rw[mV,take_snoc e,List.filterMap_append];ext;rw[abx];have Z:(((fQ (jK fs t) [t] g.1).take i).filterMap (oX fs g n)).length<=80000:=c5 (List.length_filterMap_le _ _) (by rw[c6];lia);generalize ((fQ (jK fs t) [t] g.1).take i).filterMap (oX fs g n)=L at Z ⊢;unfold oX
   by_cases h:(lk (dW g.2 c n) fs).isSome=true
   . rw[if_pos h,h];ext;rw[show (none:Option (Int×Way)).toList=[] from rfl,cy]
   . rw[if_neg h,tN.mpr h];ext;rw[lr (xs:=c) af.int (λp=>.int ((bQ fs p:Nat):Int)) ?_ (CS (by lia)) λp U=>?_]
     rotate_left
     . ext
     . obtain ⟨w,q⟩:=m p U;ext;rw[xM q];ext;rw[tV];rw[bQ,q];rfl
     ext;rw[show c.map (λp=>af.int ((bQ fs p:Nat):Int))=((c.map λp=>bQ fs p).map λk=>((k:Nat):Int)).map af.int by rw[eh,eh];rfl,vq,uD];ext;rw[show jM [dL c]= .ok (dR c) from rfl];ext;rw[bH (iS Z (by decide))];ext;rw[ck,show (1:Int)+(((c.map λp=>bQ fs p).sum:Nat):Int)=((1+jC fs c:Nat):Int) by rw[wb];rfl];rfl
 . rw[ai,e8];ext;rfl
theorem Qy{t:Int}:aD (wH t w ws)=aD ws:=by
 unfold aD wH;rw[eh];refine ja λq _=>?_;show (if q.1=t then (q.1,w) else q).1=q.1;split <;> rfl
theorem Pj{t:Int}(h:(aD ws).Nodup):(aD (gF t w ws)).Nodup:=by
 unfold gF;split
 . rw[Qy];exact h
 . rename_i Y;rw[aD,ck];refine eu.mpr ⟨h,by simp,λa ha b U e=>?_⟩;have:=by simpa using U
   subst this;subst e;exact Y (gG.mpr ha)
theorem T8{t:Int}(h:q∈gF t w ws):(q∈ws/\q.1≠t)\/q=(t,w):=by
 unfold gF at h;split at h
 . obtain ⟨r,U,e⟩:=bt.mp h
   by_cases z:r.1=t
   . rw[if_pos z] at e;subst e;exact .inr (by rw[z])
   . rw[if_neg z] at e;subst e;exact .inl ⟨U,z⟩
 . rename_i Y;rcases de.mp h with h | h
   . refine .inl ⟨h,λz=>Y (gG.mpr ?_)⟩;exact bt.mpr ⟨q,h,z⟩
   . exact .inr (aS.mp h)
theorem HY{t:Int}:(t,w)∈gF t w ws:=by
 unfold gF;split
 . rename_i h;obtain ⟨U,Y⟩:=eP.mp h;exact bt.mpr ⟨(t,U),zW Y,by rw[if_pos rfl]⟩
 . exact cc _ (aS.mpr rfl)
theorem Vz{t:Int}(h:q∈ws)(U:q.1≠t):q∈gF t w ws:=by
 unfold gF;split
 . exact bt.mpr ⟨q,h,by rw[if_neg U]⟩
 . exact dQ _ h
structure xF (ws:A0) (qs:A0) (ws':A0):Prop where
 nd:(aD ws').Nodup
 mem:∀q∈ws',q∈ws\/q∈qs
 old:∀q∈ws,∃w',(q.1,w')∈ws'/\w'.c<=q.2.c
 new:∀q∈qs,∃w',(q.1,w')∈ws'/\w'.c<=q.2.c
theorem abk(h:(aD ws).Nodup):xF ws [q] (cg ws q):=by
 obtain ⟨t,w⟩:=q;have put:(∀Y,(t,Y)∈ws->w.c<=Y.c)->xF ws [(t,w)] (gF t w ws):=λi=>by
  refine ⟨Pj h,λr U=>?_,λr U=>?_,λr U=>?_⟩
  . rcases T8 U with z | z
    . exact .inl z.1
    . exact .inr (aS.mpr z)
  . by_cases z:r.1=t
    . refine ⟨w,by rw[z];exact HY,i r.2 ?_⟩;rw[<- z];exact U
    . exact ⟨r.2,Vz U z,ax _⟩
  . rw[aS.mp U];exact ⟨w,HY,ax _⟩
 unfold cg
 cases e:lk t ws with
 | none=>exact put λY Z=>absurd (bt.mpr ⟨_,Z,rfl⟩) (xx.mp e)
 | some Y=>
  show xF ws [(t,w)] (if w.c<Y.c then gF t w ws else ws)
  by_cases lt:w.c<Y.c
  . rw[if_pos lt];refine put λj h1=>?_;have:=oZ h h1;rw[e] at this;cases this;lia
  . rw[if_neg lt];refine ⟨h,λr U=>.inl U,λr U=>⟨r.2,U,ax _⟩,λr U=>?_⟩;rw[aS.mp U];exact ⟨Y,zW e,hY lt⟩
theorem mZ:∀{qs ws:A0},(aD ws).Nodup->xF ws qs (qs.foldl cg ws)
 | [],ws,h=>⟨h,λr hr=>.inl hr,λr hr=>⟨r.2,hr,ax _⟩,λr hr=>nomatch hr⟩
 | q::qs,ws,h=>by
  have a:=abk (q:=q) h;have b:=mZ (qs:=qs) a.nd;rw[fS];refine ⟨b.nd,λr hr=>?_,λr hr=>?_,λr hr=>?_⟩
  . rcases b.mem r hr with z | z
    . rcases a.mem r z with y | y
      . exact .inl y
      . exact .inr (by rw[aS.mp y];exact a7)
    . exact .inr (a6 _ z)
  . obtain ⟨e,h1,Y⟩:=a.old r hr;obtain ⟨Z,h2,U⟩:=b.old _ h1;exact ⟨Z,h2,c5 U Y⟩
  . rcases bq.mp hr with rfl | hr
    . obtain ⟨e,h1,Y⟩:=a.new _ (aS.mpr rfl);obtain ⟨Z,h2,U⟩:=b.old _ h1;exact ⟨Z,h2,c5 U Y⟩
    . exact b.new r hr
def VW(gs:A8)(n:Nat)(fs:A0)(q:Int×Way):Prop:=
 (q.2=eU/\q.1∈bz n)\/∃g∈gs,q.2.g=some g/\q.2.ts.length=g.1/\(∀p∈q.2.ts,p∈aD fs)/\dW g.2 q.2.ts n=q.1/\q.2.c=1+jC fs q.2.ts
theorem Qx{fs:A0}{t:Int}(h:t∈aD fs):lk t (fs++ws)=lk t fs:=by
 induction fs with
 | nil=>cases h
 | cons q fs U=>
  obtain ⟨k,w⟩:=q;show lk t ((k,w)::(fs++ws))=_;unfold lk
  by_cases e:k=t
  . rw[if_pos e,if_pos e]
  . rw[if_neg e,if_neg e];refine U ?_;rcases bq.mp h with z | z
    . exact absurd z.symm e
    . exact z
theorem wL{gs:A0}(h:∀p∈c,p∈aD ws):jC (ws++gs) c=jC ws c:=by
 unfold jC;congr 1;refine ja λp U=>?_;unfold bQ;rw[Qx (h p U)]
theorem VW.app{n:Nat}{hs:A0}(h:VW gs n ws q):VW gs n (ws++hs) q:=by
 rcases h with h | ⟨g,h1,h2,Y,U,Z,e⟩
 . exact .inl h
 . exact .inr ⟨g,h1,h2,Y,λp i=>by rw[aD,ck];exact dQ _ (U p i),Z,by rw[wL U];exact e⟩
structure dq (gs:A8) (n:Nat) (fs ws:A0):Prop where
 nd:(aD fs++aD ws).Nodup
 bd:∀t∈aD fs++aD ws,0<=t/\t<2^2^n
 vf:∀(i:Nat) (q:Int×Way),fs[i]?=some q->VW gs n (fs.take i) q
 vw:∀q∈ws,VW gs n fs q
 inp:∀t∈bz n,∃w,(t,w)∈fs++ws/\w.c=0
 cl:∀g∈gs,∀c:B4,c.length=g.1->(∀p∈c,p∈aD fs)->∃w,(dW g.2 c n,w)∈fs++ws/\w.c<=1+jC fs c
 mo:∀q∈fs,∀r∈ws,q.2.c<=r.2.c
theorem Xj{n:Nat}:∀t∈bz n,0<=t/\t<2^2^n:=λt U=>by
 obtain ⟨j,_,rfl⟩:=bt.mp U;exact ⟨vA _ _,Ho _ _⟩
theorem JW{n:Nat}:0<=dW b ts n/\dW b ts n<2^2^n:=⟨uo λ_=>fL _ _,FJ λ_=>fL _ _⟩
theorem VW.bd{n:Nat}(h:VW gs n ws q):0<=q.1/\q.1<2^2^n:=by
 rcases h with ⟨_,h⟩ | ⟨g,_,_,_,_,h,_⟩
 . exact Xj _ h
 . rw[<- h];exact JW
theorem Qo{n:Nat}:dq gs n [] (lM gs n):=by
 have a:xF [] ((bz n).map λt=>(t,eU)) (uQ n):=mZ List.nodup_nil;have b:xF (uQ n) (oN gs n) (lM gs n):=mZ a.nd;have m:∀q∈lM gs n,VW gs n [] q:=λq Y=>by
  rcases b.mem q Y with h | h
  . rcases a.mem q h with h | h
    . cases h
    . obtain ⟨t,Z,rfl⟩:=bt.mp h;exact .inl ⟨rfl,Z⟩
  . obtain ⟨g,U,rfl⟩:=bt.mp h;obtain ⟨U,u⟩:=gy.mp U;exact .inr ⟨g,U,rfl,(of_decide_eq_true u).symm,(λp y=>nomatch y),rfl,rfl⟩
 refine ⟨b.nd,λt Z=>?_,λi q e=>by simp at e,m,λt Z=>?_,λg U c s v=>?_,λq Y=>nomatch Y⟩
 . obtain ⟨q,Y,rfl⟩:=bt.mp (Z);exact (m q Y).bd
 . obtain ⟨o,h1,j⟩:=a.new (t,eU) (bt.mpr ⟨t,Z,rfl⟩);obtain ⟨r,h2,l⟩:=b.old _ h1;have j:o.c<=0:=j;have l:r.c<=o.c:=l;exact ⟨r,h2,by lia⟩
 . have e:=vb.mpr λx hx=>nomatch v x hx
   subst e;obtain ⟨w,h1,j⟩:=b.new (dW g.2 [] n,⟨1,some g,[]⟩) (bt.mpr ⟨g,gy.mpr ⟨U,decide_eq_true s.symm⟩,rfl⟩);exact ⟨w,h1,j⟩
theorem Pu{fresh:B4}{n:Nat}(h:c∈fQ old fresh n):∃x∈c,x∈fresh:=by
 obtain ⟨p,U,h⟩:=h9.mp h;have U:=d6.mp U;obtain ⟨h1,h2⟩:=nT.mp h;rw[gU U] at h1 h2;have Y:=h2 p U;rw[wC U U,if_neg (fo _),if_pos rfl] at Y;refine ⟨_,?_,Y⟩;rw[ay,aI (by lia)];exact i5 _
noncomputable def fW(gs:A8)(fs:A0)(t:Int)(n:Nat):A0:=gs.flatMap λg=>ug fs t g n
theorem Ao{fs:A0}{t:Int}:∀{c:B4},t∈c->bQ fs t<=jC fs c
 | a::c,h=>by
  rw[jC,b9,gS];rcases bq.mp h with rfl | h
  . lia
  . have:=Ao (fs:=fs) h;unfold jC at this;lia
theorem dq.step{n:Nat}{fs:A0}{t:Int}(I:dq gs n fs ws)(h:(t,w)∈ws)(D:∀q∈ws,w.c<=q.2.c) :
 dq gs n (fs++[(t,w)]) ((fW gs (fs++[(t,w)]) t n).foldl cg (ws.filter λq=>!decide (q.1=t))):=by
 obtain ⟨nd,bd,vf,vw,inp,cl,mo⟩:=I;have ndf:=(eu.mp nd).1;have u:=(eu.mp nd).2.1;have M:=(eu.mp nd).2.2;have P:t∈aD ws:=bt.mpr ⟨_,h,rfl⟩;have S:=λz=>M t z t P rfl;have Q:aD (fs++[(t,w)])=aD fs++[t]:=by rw[aD,ck];rfl
 have L:(aD (fs++[(t,w)])).Nodup:=by
  rw[Q];exact eu.mpr ⟨ndf,by simp,λa ha b R e=>by rw[aS] at R;subst R;subst e;exact S ha⟩
 have m:∀q,q∈ws.filter (λq=>!decide (q.1=t))↔q∈ws/\q.1≠t:=λq=>by simp
 have H:(aD (ws.filter λq=>!decide (q.1=t))).Nodup:=by
  exact List.Sublist.nodup (oP.map _ (List.filter_sublist)) u
 have O:=mZ (qs:=fW gs (fs++[(t,w)]) t n) H;have cw:bQ (fs++[(t,w)]) t=w.c:=by
  rw[bQ,oZ L (cc _ (aS.mpr rfl))];rfl
 have j:∀q∈fW gs (fs++[(t,w)]) t n,∃g∈gs,∃c∈fQ (jK (fs++[(t,w)]) t) [t] g.1,q=(dW g.2 c n,⟨1+jC (fs++[(t,w)]) c,some g,c⟩)/\dW g.2 c n∉aD (fs++[(t,w)]):=λq U=>by
  obtain ⟨g,C,U⟩:=h9.mp U;obtain ⟨c,Z,e⟩:=eo.mp U;unfold oX at e;split at e
  . cases e
  . rename_i hs;cases e;exact ⟨g,C,c,Z,rfl,λz=>hs (gG.mpr z)⟩
 have hck:∀{g:Nat×Int}{c:B4},c∈fQ (jK (fs++[(t,w)]) t) [t] g.1->∀p∈c,p∈aD (fs++[(t,w)]):=λZ p hp=>by
  rcases de.mp ((iG Z).2 p hp) with z | z
  . exact (gy.mp z).1
  . rw[aS.mp z,Q];exact cc _ (aS.mpr rfl)
 have J:∀q∈fW gs (fs++[(t,w)]) t n,VW gs n (fs++[(t,w)]) q:=λq U=>by
  obtain ⟨g,C,c,Z,rfl,_⟩:=j q U;exact .inr ⟨g,C,rfl,(iG Z).1,hck Z,rfl,rfl⟩
 have s:∀q∈(fW gs (fs++[(t,w)]) t n).foldl cg (ws.filter λq=>!decide (q.1=t)),VW gs n (fs++[(t,w)]) q:=λq U=>by
  rcases O.mem q U with z | z
  . exact (vw q ((m q).mp z).1).app
  . exact J q z
 have mv:∀{v:Int}{l:Way}{k:Nat},(v,l)∈fs++ws->l.c<=k->∃o,(v,o)∈(fs++[(t,w)])++(fW gs (fs++[(t,w)]) t n).foldl cg (ws.filter λq=>!decide (q.1=t))/\o.c<=k:=λ{v l k} hv hk=>by
  rcases de.mp hv with z | z
  . exact ⟨l,dQ _ (dQ _ z),hk⟩
  . by_cases e:v=t
    . subst e;have:=oZ u z;rw[oZ u h] at this;cases this;exact ⟨w,dQ _ (cc _ (aS.mpr rfl)),hk⟩
    . obtain ⟨o,h2,c2⟩:=O.old (v,l) ((m _).mpr ⟨z,e⟩);exact ⟨o,cc _ h2,c5 c2 hk⟩
 refine ⟨?_,λx hx=>?_,λi q e=>?_,s,λx hx=>?_,λg C c hl Z=>?_,λq U r hr=>?_⟩
 . refine eu.mpr ⟨L,O.nd,λa ha b R e=>?_⟩;subst e;obtain ⟨q,U,rfl⟩:=bt.mp R;rcases O.mem q U with z | z
   . obtain ⟨z1,z2⟩:=(m q).mp z;rw[Q] at ha;rcases de.mp ha with y | y
     . exact M _ y _ (bt.mpr ⟨q,z1,rfl⟩) rfl
     . exact z2 (aS.mp y)
   . obtain ⟨g,_,c,_,rfl,hn⟩:=j q z;exact hn ha
 . rcases de.mp hx with z | z
   . rw[Q] at z;rcases de.mp z with y | y
     . exact bd x (dQ _ y)
     . rw[aS.mp y];exact bd t (cc _ P)
   . obtain ⟨q,U,rfl⟩:=bt.mp z;exact (s q U).bd
 . rcases iA i fs.length with hi | hi
   . rw[dA hi] at e;rw[ox (fe hi)];exact vf i q e
   . have E:=(bE.mp e).1;rw[aw] at E;have hie:i=fs.length:=by
      have:i<fs.length+1:=E;lia
     subst hie;rw[c9 (ax _),tJ] at e;have e:=Option.some.inj e;subst e;rw[ox (ax _),e8];exact vw _ h
 . obtain ⟨l,h1,h2⟩:=inp x hx;obtain ⟨o,h3,h4⟩:=mv (k:=0) h1 (by lia);exact ⟨o,h3,by lia⟩
 . by_cases Y:∀p∈c,p∈aD fs
   . obtain ⟨l,h1,h2⟩:=cl g C c hl Y;rw[wL Y];exact mv h1 h2
   . have hx:∃x∈c,x∉aD fs:=ng λz=>Y λx hx=>ng λz'=>z ⟨x,hx,z'⟩;obtain ⟨x,hx,hxn⟩:=hx;have B:x=t:=by
      have:=Z x hx;rw[Q] at this;rcases de.mp this with y | y
      . exact absurd y hxn
      . exact aS.mp y
     subst B;have hct:w.c<=jC (fs++[(x,w)]) c:=by rw[<- cw];exact Ao hx
     have hno:x∉jK (fs++[(x,w)]) x:=λz=>by
      have:=(gy.mp z).2;simp at this
     have hcf:=zg hl (λp hp=>by
      by_cases e:p=x
      . exact cc _ (aS.mpr e)
      . exact dQ _ (gy.mpr ⟨Z p hp,by simp[e]⟩)) ⟨x,hx,hno⟩
     by_cases hv:(lk (dW g.2 c n) (fs++[(x,w)])).isSome=true
     . obtain ⟨l,hw'⟩:=eP.mp hv;have hm:=zW hw';refine ⟨l,dQ _ hm,?_⟩;rcases de.mp hm with z | z
       . have:=mo _ z _ h;have:l.c<=w.c:=this;lia
       . have:=aS.mp z;cases this;lia
     . obtain ⟨o,h2,c2⟩:=O.new (dW g.2 c n,⟨1+jC (fs++[(x,w)]) c,some g,c⟩) (h9.mpr ⟨g,C,eo.mpr ⟨c,hcf,by rw[oX,if_neg hv]⟩⟩);exact ⟨o,cc _ h2,c2⟩
 . have hq':q.2.c<=w.c:=by
    rcases de.mp U with z | z
    . exact mo q z _ h
    . rw[aS.mp z];exact ax _
   rcases O.mem r hr with z | z
   . exact c5 hq' (D r ((m r).mp z).1)
   . obtain ⟨g,_,c,Z,rfl,_⟩:=j r z;obtain ⟨x,hx,B⟩:=Pu Z;rw[aS.mp B] at hx;have:=Ao (fs:=fs++[(t,w)]) hx;rw[cw] at this;show q.2.c<=1+jC (fs++[(t,w)]) c;lia
theorem BP:∀{ws:A0}{t:Int}{c:Int},∃t',jf (.int t) c (CM ws)= .ok (.int t')
 | [],t,c=>⟨t,rfl⟩
 | (k,w)::r,t,c=>by
  show ∃t',(if ((w.c:Nat):Int)<c then jf (.int k) (w.c:Nat) (CM r) else jf (.int t) c (CM r))= .ok (.int t')
  by_cases h:(w.c:Int)<c
  . rw[if_pos h];exact BP
  . rw[if_neg h];exact BP
theorem ab2(h:ws≠[]):∃t w,jT (CM ws)= .ok (.int t)/\(t,w)∈ws/\∀q∈ws,w.c<=q.2.c:=by
 cases ws with
 | nil=>exact absurd rfl h
 | cons q r=>
  obtain ⟨k,w⟩:=q;obtain ⟨t,m⟩:∃i,jT (CM ((k,w)::r))= .ok (.int i):=by
   exact BP
  obtain ⟨_,l,q,c,Z,e,p,e4⟩:=za m;unfold CM at Z;rw[a9] at Z;obtain ⟨⟨i,j⟩,u,Y⟩:=sM.mp Z;subst Y;cases p;have e:some ((j.c:Nat):Int)=some c:=e;cases e;refine ⟨i,j,m,d4 u,λq s=>?_⟩;obtain ⟨o,U,Y⟩:=dS.mp s;have v:(CM ((k,w)::r))[o]?=some (af.int q.1,wD q.2):=by
   rw[CM,a9,aI U,Y];rfl
  have:=(e4 o _ (q.2.c:Int) v rfl).1;lia
theorem Rc{t:Int}:∀{ws:A0},nF (.inl t) (CM ws)=CM (ws.filter λq=>!decide (q.1=t))
 | []=>rfl
 | (k,w)::r=>by
  have U:=Rc (t:=t) (ws:=r);unfold nF at U;unfold nF;show ((af.int k,wD w)::CM r).filter _=_
  by_cases e:k=t
  . subst e;rw[fI (by simp[bJ]),fI (by simp)];exact U
  . rw[iL (by simp[bJ,e]),iL (by simp[e]),U];rfl
theorem XS{n:Nat}{qs:A0}(Y:n<=4)(h:(aD ws).Nodup)(h1:∀q∈ws,0<=q.1/\q.1<2^2^n)(h2:∀q∈qs,0<=q.1/\q.1<2^2^n):(qs.foldl cg ws).length<=65536:=by
 have O:=mZ (qs:=qs) h;have Z:2^2^n<=2^2^4:=iX (by decide) (iX (by decide) Y);have:=uN O.nd λx hx=>by
  rw[show ((2^2^n:Nat):Int)=2^2^n by simp];obtain ⟨q,U,rfl⟩:=bt.mp hx;rcases O.mem q U with z | z
  . exact h1 q z
  . exact h2 q z
 unfold aD at this;rw[ai] at this;lia
noncomputable def wCn:ME:=ak gtD (eFn iK [(aj 3)]) (eC (.int 0))
noncomputable def wRf:MS:=sEx (aJ bx [(eFn iK [(aj 2)]),(aj 0)])
noncomputable def wFr:MS:=dM (itL (aj 0)) (gN 5) [5,6,7] (dM (itL (aJ f9 [(aj 2),(aj 4),(aj 5),(aj 1)])) (gT [(gN 6),(gN 7)]) [6,7] (rM 3 jq [(aj 3),(aj 6),(aj 7)]))
noncomputable def wBd:MS:=aG (aN 4 (pg 3)) (aG (jY 2 3 4) (aG wRf wFr))
noncomputable def wG(gs:A8)(n:Nat)(fs ws:A0):Ev:=[some (.list (gs.map CI)),some (.int (n:Nat)),some (.dict (CM fs)),some (.dict (CM ws)),none,none,none,none]
noncomputable def wG2(gs:A8)(n:Nat)(fs ws:A0)(t:Int):Ev:=[some (.list (gs.map CI)),some (.int (n:Nat)),some (.dict (CM fs)),some (.dict (CM ws)),some (.int t),none,none,none]
section
variable  {n:Nat}{fs:A0}
theorem Xd(hz:ws≠[]):wCn (wG gs n fs ws)= .ok (.bool true):=by
 unfold wCn wG;ext;rw[show iK [.dict (CM ws)]= .ok (.int ((CM ws).length:Nat)) from rfl,xP];ext;rw[decide_eq_true (show (0:Int)<((ws.length:Nat):Int) by have:=og.mpr hz;lia)]
theorem Zc:wCn (wG gs n fs [])= .ok (.bool false):=by
 unfold wCn wG;ext;rfl
theorem yD{t:Int}:evs [(eFn iK [(aj 2)]),(aj 0)] (wG2 gs n fs ws t)= .ok [.int (fs.length:Nat),.list (gs.map CI)]:=by
 unfold wG2;ext;rw[show iK [.dict (CM fs)]= .ok (.int ((CM fs).length:Nat)) from rfl,xP];ext
theorem Ua{t:Int}(Z:jT (CM ws)= .ok (.int t))(I:dq gs n fs ws)(h:(t,w)∈ws)(e:fs.length<=100000):∃Γ,aN 4 (pg 3) (wG gs n fs ws)= .ok (.nx Γ)/\jY 2 3 4 Γ = .ok (.nx (wG2 gs n (fs++[(t,w)]) (ws.filter λq=>!decide (q.1=t)) t)):=by
 have U:=(eu.mp I.nd).2.1;have Y:=λz=>(eu.mp I.nd).2.2 t z t (bt.mpr ⟨_,h,rfl⟩) rfl;refine ⟨[some (.list (gs.map CI)),some (.int n),some (.dict (CM fs)),some (.dict (CM ws)),some (.int t),none,none,none],?_,?_⟩
 . rw[uJ];show Co.bind (jT (CM ws)) _=_;rw[Z];rfl
 . show (match cD (.inl t) (CM ws) with
    | some d=>gd ((CM fs).length<be/\2<8/\3<8) (Co.ok (Out.nx [some (.list (gs.map CI)),some (.int n),some (.dict (iW (.int t) (.inl t) d (CM fs))),some (.dict (nF (.inl t) (CM ws))),some (.int t),none,none,none]))
    | none=>.bad)=_
   rw[NK,oZ U h];show gd ((CM fs).length<be/\2<8/\3<8) _=_;rw[bH ⟨by rw[xP];exact CS e,by decide,by decide⟩,V7,Rc];rw[gF,xx.mpr Y];rfl
theorem Pg{t:Int}(h:bN fs.length gs)(Y:gs.length<=8)(U:∀g∈gs,g.1<=4):wRf (wG2 gs n fs ws t)= .bad:=by
 unfold wRf sEx;rw[gb,yD,Co.aP,yj h (by lia) U];rfl
theorem aa2{t:Int}(h:¬ bN fs.length gs)(Y:gs.length<=8)(U:∀g∈gs,g.1<=4):wRf (wG2 gs n fs ws t)= .ok (.nx (wG2 gs n fs ws t)):=by
 have h1:=hY λz=>h (.inl z);have h2:=hY λz=>h (.inr z);refine Q8 (d:=.none) ?_;rw[gb,yD,Co.aP,xZ h1 (by lia) U h2]
theorem Z0{t:Int}(r:n<=4)(E:gs.length<=8)(v:∀g∈gs,g.1<=4)(h:¬ bN fs.length gs)(u:(jK fs t).length+1<=fs.length)(B:t∈aD fs)(hd:(aD ws).Nodup)(C:∀q∈ws,0<=q.1/\q.1<2^2^n) :
 wFr (wG2 gs n fs ws t)= .ok (.nx (wG2 gs n fs ((fW gs fs t n).foldl cg ws) t)):=by
 have h1:=hY λz=>h (.inl z);have h2:=hY λz=>h (.inr z);have l:∀g:Nat×Int,∀q∈ug fs t g n,0<=q.1/\q.1<2^2^n:=λg q l=>by
  obtain ⟨c,_,e⟩:=eo.mp l;unfold oX at e;split at e
  . cases e
  . cases e;exact JW
 have m:∀gs:A8,∀q∈fW gs fs t n,0<=q.1/\q.1<2^2^n:=λgs q U=>by
  obtain ⟨g,_,h⟩:=h9.mp U;exact l g q h
 unfold wFr wG2;ext;have step:∀(i:Nat) (x:af),(gs.map CI)[i]?=some x->((gN 5 x (wG2 gs n fs ((fW (gs.take i) fs t n).foldl cg ws) t)).bind (dM (itL (aJ f9 [(aj 2),(aj 4),(aj 5),(aj 1)])) (gT [(gN 6),(gN 7)]) [6,7] (rM 3 jq [(aj 3),(aj 6),(aj 7)]))).bind (iU [5,6,7])= .ok (.nx (wG2 gs n fs ((fW (gs.take (i+1)) fs t n).foldl cg ws) t)):=λi x hx=>by
  obtain ⟨g,p,rfl⟩:=iB hx;have Y:=d4 p;unfold wG2;ext;rw[Jk h1 (v g Y) r u (c5 (HW Y) h2) B];ext;have O:=mZ (qs:=fW (gs.take i) fs t n) hd;have Z:∀q∈(fW (gs.take i) fs t n).foldl cg ws,0<=q.1/\q.1<2^2^n:=λq U=>by
   rcases O.mem q U with z | z
   . exact C q z
   . exact m _ q z
  have D:fW (gs.take (i+1)) fs t n=fW (gs.take i) fs t n++ug fs t g n:=by
   unfold fW;rw[take_snoc p,mn];simp
  rw[D,kK];have o:=O.nd;generalize (fW (gs.take i) fs t n).foldl cg ws=ws1 at Z o ⊢;refine cJ (λj=>[some (.list (gs.map CI)),some (.int n),some (.dict (CM fs)),some (.dict (CM (((ug fs t g n).take j).foldl cg ws1))),some (.int t),some (dG g.1 g.2),none,none]) rfl (λj x hx=>?_) ?_
  . obtain ⟨q,s,rfl⟩:=iB hx;have y:=XS (qs:=(ug fs t g n).take j) r o Z (λq U=>l g q (nE U));rw[take_snoc s,kK];generalize ((ug fs t g n).take j).foldl cg ws1=ws2 at y ⊢;show Co.bind (Co.bind (Co.ok ([some (.list (gs.map CI)),some (.int (n:Nat)),some (.dict (CM fs)),some (.dict (CM ws2)),some (.int t),some (dG g.1 g.2),some (.int q.1),some (wD q.2)]:Ev)) _) _=_;rw[Co.aP,yS rfl (by lia)];rfl
  . rw[ai,e8];rfl
 have e:=JX (λi=>wG2 gs n fs ((fW (gs.take i) fs t n).foldl cg ws) t) rfl step;rwa [ai,e8] at e
theorem X4{t:Int}:(jK (ws++[(t,w)]) t).length+1<=(ws++[(t,w)]).length:=by
 unfold jK aD;rw[ck,sg,aw,aw];have h1:=kR (λk=>!decide (k=t)) (ws.map (·.1));rw[ai] at h1;have h2:(([(t,w)]:A0).map (·.1)).filter (λk=>!decide (k=t))=[]:=by simp
 rw[h2];simp only[fT,d5];lia
theorem dq.len(I:dq gs n fs ws)(U:n<=4):fs.length+ws.length<=65536:=by
 have Y:2^2^n<=2^2^4:=iX (by decide) (iX (by decide) U);have:=uN I.nd λx hx=>by
  rw[show ((2^2^n:Nat):Int)=2^2^n by simp];exact I.bd x hx
 unfold aD at this;rw[aw,ai,ai] at this;lia
theorem aaF{t:Int}(I:dq gs n fs ws)(j:n<=4)(Z:gs.length<=8)(i:∀g∈gs,g.1<=4)(hk:jT (CM ws)= .ok (.int t))(h:(t,w)∈ws)(o:¬ bN (fs.length+1) gs) :
 ∃Γ',wBd (wG gs n fs ws)= .ok (.nx Γ')/\clr [4,5,6,7] Γ'=wG gs n (fs++[(t,w)]) ((fW gs (fs++[(t,w)]) t n).foldl cg (ws.filter λq=>!decide (q.1=t))):=by
 have e:=I.len j;obtain ⟨r,l,m⟩:=Ua hk I h (by lia);have U:¬ bN (fs++[(t,w)]).length gs:=by rw[aw];exact o
 have Y:=(eu.mp I.nd).2.1;refine ⟨wG2 gs n (fs++[(t,w)]) ((fW gs (fs++[(t,w)]) t n).foldl cg (ws.filter λq=>!decide (q.1=t))) t,?_,rfl⟩;rw[wBd,bW,l,Co.aP,gh,bW,m,Co.aP,gh,bW,aa2 U Z i,Co.aP,gh];refine Z0 j Z i U X4 ?_ ?_ ?_
 . rw[aD,ck];exact cc _ (aS.mpr rfl)
 . exact List.Sublist.nodup (oP.map _ (List.filter_sublist)) Y
 . exact λq p=>(I.vw q (gy.mp p).1).bd
theorem ZP{t:Int}(I:dq gs n fs ws)(m:n<=4)(Z:gs.length<=8)(l:∀g∈gs,g.1<=4)(hk:jT (CM ws)= .ok (.int t))(h:(t,w)∈ws)(j:bN (fs.length+1) gs):wBd (wG gs n fs ws)= .bad:=by
 have Y:=I.len m;obtain ⟨o,e,i⟩:=Ua hk I h (by lia);have U:bN (fs++[(t,w)]).length gs:=by rw[aw];exact j
 rw[wBd,bW,e,Co.aP,gh,bW,i,Co.aP,gh,bW,Pg U Z l];rfl
theorem Oa(J:A0->A0->Prop)(x:∀fs ws t w,J fs ws->dq gs n fs ws->jT (CM ws)= .ok (.int t)->(t,w)∈ws->J (fs++[(t,w)]) ((fW gs (fs++[(t,w)]) t n).foldl cg (ws.filter λq=>!decide (q.1=t))))(i:n<=4)(l:gs.length<=8)(p:∀g∈gs,g.1<=4):∀(m k:Nat) (fs ws:A0),J fs ws->dq gs n fs ws->(fs=[]\/¬ bN fs.length gs)->k+fs.length=65536->k<m ->
 (∃L,whR wCn [4,5,6,7] wBd m (wG gs n fs ws)= .ok (.nx (wG gs n L []))/\dq gs n L []/\J L []/\(L=[]\/¬ bN L.length gs)) \/
 (whR wCn [4,5,6,7] wBd m (wG gs n fs ws)= .bad/\(∀(zb:MZ) (T:Str),(∀fs ws t w,dq gs n fs ws->jT (CM ws)= .ok (.int t)->(t,w)∈ws->bN (fs.length+1) gs->zb (wG gs n fs ws)= .ok T)->ir wCn [4,5,6,7] wBd zb m (wG gs n fs ws)= .ok T)/\∃fs ws,dq gs n fs ws/\bN fs.length gs)
 | 0,k,fs,ws,_,_,_,_,h=>absurd h (mi _)
 | m+1,k,fs,ws,j,I,C,hk,D=>by
  by_cases hz:ws=[]
  . subst hz;left;refine ⟨fs,?_,I,j,C⟩;rw[whR,Zc];rfl
  . have hy:=Xd (gs:=gs) (n:=n) (fs:=fs) hz;have z:=og.mpr hz;have v:=I.len i;obtain ⟨t,w,e,h,Z⟩:=ab2 hz;have r:=I.step h Z;have s:=x fs ws t w j I e h
    by_cases Y:bN (fs.length+1) gs
    . right;have y:=ZP I i l p e h Y;refine ⟨?_,λzb T E=>?_,_,_,r,by rw[aw];exact Y⟩
      . rw[whR,hy,Co.aP,y];rfl
      . rw[ir,hy,Co.aP];show (match wBd (wG gs n fs ws) with
         | .ok (.nx Γ2)=>ir wCn [4,5,6,7] wBd zb m (clr [4,5,6,7] Γ2)
         | _=>zb (wG gs n fs ws))=_
        rw[y];exact E fs ws t w I e h Y
    . obtain ⟨U,u,o⟩:=aaF I i l p e h Y;generalize (fW gs (fs++[(t,w)]) t n).foldl cg (ws.filter λq=>!decide (q.1=t))=ws' at r s o;have B:whR wCn [4,5,6,7] wBd (m+1) (wG gs n fs ws)=whR wCn [4,5,6,7] wBd m (wG gs n (fs++[(t,w)]) ws'):=by
       rw[whR,hy,Co.aP,u,Co.aP];show whR wCn [4,5,6,7] wBd m (clr [4,5,6,7] U)=_;rw[o]
      have H:∀zb:MZ,ir wCn [4,5,6,7] wBd zb (m+1) (wG gs n fs ws)=ir wCn [4,5,6,7] wBd zb m (wG gs n (fs++[(t,w)]) ws'):=λzb=>by
       rw[ir,hy,Co.aP];show (match wBd (wG gs n fs ws) with
        | .ok (.nx Γ2)=>ir wCn [4,5,6,7] wBd zb m (clr [4,5,6,7] Γ2)
        | _=>zb (wG gs n fs ws))=_
       rw[u];show ir wCn [4,5,6,7] wBd zb m (clr [4,5,6,7] U)=_;rw[o]
      rw[B];simp only[H];exact Oa J x i l p m (k - 1) (fs++[(t,w)]) ws' s r (.inr (by rw[aw];exact Y)) (by rw[aw];show k - 1+(fs.length+1)=_;lia) (by lia)
theorem Ld(J:A0->A0->Prop)(j:∀fs ws t w,J fs ws->dq gs n fs ws->jT (CM ws)= .ok (.int t)->(t,w)∈ws->J (fs++[(t,w)]) ((fW gs (fs++[(t,w)]) t n).foldl cg (ws.filter λq=>!decide (q.1=t))))(h0:J [] (lM gs n))(Z:n<=4)(e:gs.length<=8)(i:∀g∈gs,g.1<=4) :
 (∃L,cX [.list (gs.map CI),.int (n:Nat)]= .ok (.dict (CM L))/\dq gs n L []/\J L []/\(L=[]\/¬ bN L.length gs)) \/
 (cX [.list (gs.map CI),.int (n:Nat)]= .bad/\dO 1000000 wCn [4,5,6,7] wBd (wG gs n [] (lM gs n))= .bad/\(∀(zb:MZ) (T:Str),(∀fs ws t w,dq gs n fs ws->jT (CM ws)= .ok (.int t)->(t,w)∈ws->bN (fs.length+1) gs->zb (wG gs n fs ws)= .ok T)->oh 1000000 wCn [4,5,6,7] wBd zb (wG gs n [] (lM gs n))= .ok T)/\∃fs ws,dq gs n fs ws/\bN fs.length gs):=by
 have Y:cX [.list (gs.map CI),.int (n:Nat)]=Co.bind (aG (dO 1000000 wCn [4,5,6,7] wBd) (bD (aj 2)) (wG gs n [] (lM gs n))) fin:=by
  unfold cX;show Co.bind (aG (aN 2 (rK [])) _ [some (.list (gs.map CI)),some (.int (n:Nat)),none,none,none,none,none,none]) fin=_;rw[bW,show aN 2 (rK []) [some (.list (gs.map CI)),some (.int (n:Nat)),none,none,none,none,none,none]= .ok (.nx [some (.list (gs.map CI)),some (.int (n:Nat)),some (.dict (CM [])),none,none,none,none,none]) from rfl,Co.aP,gh,bW,show aN 3 (aJ iM [(aj 0),(aj 1)]) [some (.list (gs.map CI)),some (.int n),some (.dict (CM [])),none,none,none,none,none]= .ok (.nx (wG gs n [] (lM gs n))) by
   rw[uJ,gb,show evs [(aj 0),(aj 1)] [some (.list (gs.map CI)),some (.int (n:Nat)),some (.dict (CM [])),none,none,none,none,none]= .ok [.list (gs.map CI),.int (n:Nat)] from rfl,Co.aP,vV Z (by lia)];rfl,Co.aP,gh]
  rfl
 rcases Oa J j Z e i 1000000 65536 [] (lM gs n) h0 Qo (.inl rfl) rfl (by decide) with ⟨L,h1,h2,U⟩ | ⟨h1,h2,U⟩
 . left;have h1:dO 1000000 wCn [4,5,6,7] wBd (wG gs n [] (lM gs n))=_:=h1;refine ⟨L,?_,h2,U⟩;rw[Y,bW,h1,Co.aP,gh];rfl
 . right;have h1:dO 1000000 wCn [4,5,6,7] wBd (wG gs n [] (lM gs n))= .bad:=h1;refine ⟨?_,h1,h2,U⟩;rw[Y,bW,h1];rfl
end
structure zG (gs:A8) (n:Nat) (ts:B4) (f:Int->Nat):Prop where
 nd:ts.Nodup
 so:ts.Pairwise (· <= ·)
 bd:∀t∈ts,0<=t/\t<2^2^n
 inp:∀t∈bz n,t∈ts
 zer:∀t∈ts,(f t=0↔t∈bz n)
 cl:∀g∈gs,∀c:B4,c.length=g.1->(∀p∈c,p∈ts)->dW g.2 c n∈ts/\f (dW g.2 c n)<=1+(c.map f).sum
 ju:∀t∈ts,0<f t->∃g∈gs,∃c:B4,c.length=g.1/\(∀p∈c,p∈ts)/\dW g.2 c n=t/\f t=1+(c.map f).sum
variable {L:A0}
theorem pZ{t:Int}(h:(aD L).Nodup)(U:(t,w)∈L):bQ L t=w.c:=by
 rw[bQ,oZ h U];rfl
theorem dq.whole{n:Nat}(I:dq gs n L []):zG gs n (srt (aD L)) (bQ L):=by
 obtain ⟨nd,bd,vf,vw,inp,cl,mo⟩:=I;rw[show aD L++aD []=aD L from cy _] at nd bd;rw[cy] at inp cl;have hk:∀{t w},(t,w)∈L->t∈srt (aD L):=λh=>gf.mpr (bt.mpr ⟨_,h,rfl⟩);have hv:∀t∈aD L,∃w,(t,w)∈L/\VW gs n L (t,w):=λt U=>by
  obtain ⟨⟨u,w⟩,j,rfl⟩:=bt.mp U;obtain ⟨i,hi,e⟩:=dS.mp j;have h1:=vf i (u,w) (by rw[aI hi,e]);have h2:=h1.app (hs:=L.drop i);rw[eM] at h2;exact ⟨w,j,h2⟩
 refine ⟨(dX _).nodup_iff.mpr nd,gR _,λt U=>bd t (gf.mp U),λt U=>?_,λt U=>?_,λg l c o v=>?_,λt U Y=>?_⟩
 . obtain ⟨w,h1,_⟩:=inp t U;exact hk h1
 . constructor
   . intro Y;obtain ⟨w,h1,h2⟩:=hv t (gf.mp U);rw[pZ nd h1] at Y;rcases h2 with ⟨_,h⟩ | ⟨g,_,_,_,_,_,h⟩
     . exact h
     . have h:w.c=_:=h;lia
   . intro h;obtain ⟨w,h1,h2⟩:=inp t h;rw[pZ nd h1];exact h2
 . obtain ⟨w,h1,h2⟩:=cl g l c o λp Z=>gf.mp (v p Z);refine ⟨hk h1,?_⟩;rw[pZ nd h1];exact h2
 . obtain ⟨w,h1,h2⟩:=hv t (gf.mp U);have e:=pZ nd h1;rcases h2 with ⟨h,_⟩ | ⟨g,r,x,m,k4,q,s⟩
   . have h:w=eU:=h;rw[e,h] at Y;exact absurd Y (fo 0)
   . refine ⟨g,r,w.ts,m,λp Z=>gf.mpr (k4 p Z),q,?_⟩;rw[e];exact s
noncomputable def oF(f:Int->Nat)(t:Int):af:=.tuple [.int t,.int (f t:Nat)]
theorem JN:∀ws:A0,m8 (CM ws)=some (aD ws)
 | []=>rfl
 | (k,w)::r=>by
  show (m8 (CM r)).map (k :: ·)=_;rw[JN r];rfl
theorem NT(h:ws.length<3000):Az [.dict (CM ws)]= .ok (dL (srt (aD ws))):=by
 show (match m8 (CM ws) with
  | some U=>gd (U.length<3000) (Co.ok (af.list ((srt U).map af.int)))
  | none=>.bad)=_
 rw[JN];exact bH (by rw[aD,ai];exact h)
theorem YK{n:Nat}(h:cX [.list (gs.map CI),.int (n:Nat)]= .ok (.dict (CM L)))(I:dq gs n L [])(Z:L.length<=300):mQ [.list (gs.map CI),.int (n:Nat)]= .ok (.list ((srt (aD L)).map (oF (bQ L)))):=by
 have nd:=by have:=I.nd;rwa [show aD L++aD []=aD L from cy _] at this
 unfold mQ;ext;rw[h];ext;rw[oV (ns:=srt (aD L)) (oF (bQ L)) ?_ (CS (by rw[(dX _).length_eq];rw[aD,ai];lia)) λt Y=>?_]
 . ext
 . ext;rw[NT (by lia)];ext
   try rfl
 . ext;obtain ⟨w,U⟩:=eP.mp (gG.mpr (gf.mp Y));rw[xM U];ext;rw[tV];ext;unfold oF bQ;rw[U];rfl
noncomputable def tY(r:Int×Int):af:=.tuple [.int r.1,.int r.2]
noncomputable def kZ(rs:B1):af:=.list (rs.map tY)
noncomputable def bV(rs:B1):B4:=rs.map (·.1)
noncomputable def kvR(rs:B1):B0:=rs.map λr=>(af.int r.1,af.int r.2)
noncomputable def lkR(t:Int):B1->C4
 | []=>none
 | (k,x)::r=>if k=t then some x else lkR t r
theorem En{t:Int}:∀rs:B1,cD (.inl t) (kvR rs)=(lkR t rs).map af.int
 | []=>rfl
 | (k,x)::r=>by
  show (if bJ (.int k)=some (.inl t) then some (af.int x) else cD (.inl t) (kvR r))=_;unfold lkR
  by_cases h:k=t
  . subst h;rw[if_pos (show bJ (.int k)=some (.inl k) from rfl),if_pos rfl];rfl
  . rw[if_neg (show ¬ bJ (.int k)=some (.inl t) from λz=>h (l5.inj (Option.some.inj z))),if_neg h];exact En r
theorem qe{t:Int}:∀{rs:B1},(lkR t rs).isSome=true↔t∈bV rs
 | []=>by simp[lkR,bV]
 | (k,x)::r=>by
  unfold lkR
  by_cases e:k=t
  . rw[if_pos e];simp[bV,e]
  . rw[if_neg e,qe];simp[bV,mu e]
variable {rs:B1}
theorem VM{t:Int}{x:Int}(h:lkR t rs=some x):ixY (.dict (kvR rs)) (.int t)= .ok (.int x):=by
 show (match cD (.inl t) (kvR rs) with
  | some d=>Co.ok d
  | none=>.bad)=_
 rw[En,h];rfl
theorem X8{t:Int}:gk (.int t) (.dict (kvR rs))= .ok (.bool (!(lkR t rs).isSome)):=by
 show Co.ok (af.bool (!(cD (.inl t) (kvR rs)).isSome))=_;rw[En,sL]
theorem JS:(kvR rs).length=rs.length:=by rw[kvR,ai]
theorem Oz{t:Int}:∀rs:B1,qz (.inl t) (kvR rs)=(lkR t rs).isSome
 | []=>rfl
 | (k,x)::r=>by
  show (if bJ (.int k)=some (.inl t) then true else qz (.inl t) (kvR r))=_;unfold lkR
  by_cases h:k=t
  . subst h;rw[if_pos (show bJ (.int k)=some (.inl k) from rfl),if_pos rfl];rfl
  . rw[if_neg (show ¬ bJ (.int k)=some (.inl t) from λz=>h (l5.inj (Option.some.inj z))),if_neg h];exact Oz r
noncomputable def yz(t x:Int)(rs:B1):B1:=rs.map λq=>if q.1=t then (q.1,x) else q
theorem Qh{t x:Int}:∀rs:B1,vo (.inl t) (.int x) (kvR rs)=kvR (yz t x rs)
 | []=>rfl
 | (k,y)::r=>by
  show (if bJ (.int k)=some (.inl t) then (af.int k,af.int x) else (.int k,.int y))::vo (.inl t) (.int x) (kvR r)=_;rw[Qh r];show _=(af.int (if k=t then (k,x) else (k,y)).1,af.int (if k=t then (k,x) else (k,y)).2)::kvR (yz t x r)
  by_cases h:k=t
  . subst h;rw[if_pos (show bJ (.int k)=some (.inl k) from rfl),if_pos rfl]
  . rw[if_neg (show ¬ bJ (.int k)=some (.inl t) from λz=>h (l5.inj (Option.some.inj z))),if_neg h]
noncomputable def jG(rs:B1)(r:Int×Int):B1:=if (lkR r.1 rs).isSome=true then yz r.1 r.2 rs else rs++[r]
variable {r:Int×Int}
theorem abS:iW (.int r.1) (.inl r.1) (.int r.2) (kvR rs)=kvR (jG rs r):=by
 unfold iW jG;rw[Oz];split
 . exact Qh rs
 . unfold kvR;rw[ck];rfl
theorem Ov{t x:Int}:bV (yz t x rs)=bV rs:=by
 unfold bV yz;rw[eh];refine ja λq _=>?_;show (if q.1=t then (q.1,x) else q).1=q.1;split <;> rfl
theorem Dc{b:B1}:bV (rs++b)=bV rs++bV b:=by unfold bV;rw[ck]
theorem QC(h:(bV rs).Nodup):(bV (jG rs r)).Nodup:=by
 unfold jG;split
 . rw[Ov];exact h
 . rename_i Y;rw[Dc];refine eu.mpr ⟨h,by simp[bV],λa ha b U e=>?_⟩;have U:=by simpa[bV] using U
   subst U;subst e;exact Y (qe.mpr ha)
theorem Gb:∀{rs Cc:B1},(bV (Cc++rs)).Nodup->rs.foldl jG Cc=Cc++rs
 | [],Cc,_=>by rw[cy];rfl
 | r::rs,Cc,h=>by
  have U:=λz=>by
   rw[Dc] at h;exact (eu.mp h).2.2 r.1 z r.1 (by simp[bV]) rfl
  rw[fS,show jG Cc r=Cc++[r] from if_neg (λz=>U (qe.mp z)),Gb (by rw[da];exact h),da];rfl
theorem U3:(jG rs r).length<=rs.length+1:=by
 unfold jG yz;split
 . rw[ai];lia
 . rw[aw];exact ax _
theorem merge_le:∀{rs Cc:B1},(rs.foldl jG Cc).length<=Cc.length+rs.length
 | [],Cc=>ax _
 | r::rs,Cc=>by
  have h1:=merge_le (rs:=rs) (Cc:=jG Cc r);have h2:=U3 (rs:=Cc) (r:=r);rw[fS,ba];lia
theorem merge_lt:∀{rs Cc:B1},(bV Cc).Nodup->¬ (bV (Cc++rs)).Nodup->(rs.foldl jG Cc).length<Cc.length+rs.length
 | [],Cc,h,U=>absurd (by rw[cy];exact h) U
 | r::rs,Cc,h,U=>by
  rw[fS,ba]
  by_cases hi:(lkR r.1 Cc).isSome=true
  . have h1:=merge_le (rs:=rs) (Cc:=jG Cc r);have h2:(jG Cc r).length=Cc.length:=by
     unfold jG yz;rw[if_pos hi,ai]
    lia
  . have e:jG Cc r=Cc++[r]:=if_neg hi;have h1:=merge_lt (Cc:=Cc++[r]) (by rw[<- e];exact QC h) (by rw[da];exact U);rw[e];rw[aw,d5] at h1;lia
theorem V8:∀rs:B1,t7 (rs.map tY)=some (rs.map λr=>(af.int r.1,l5 r.1,af.int r.2))
 | []=>rfl
 | r::rs=>by
  rw[b9,b9];unfold tY;rw[t7];have U:=V8 rs;unfold tY at U;rw[U];rfl
theorem Hi:∀{rs Cc:B1},vU (kvR Cc) (rs.map λr=>(af.int r.1,l5 r.1,af.int r.2))=kvR (rs.foldl jG Cc)
 | [],Cc=>rfl
 | r::rs,Cc=>by
  rw[b9,fS,<- Hi,<- abS];rfl
theorem abo:Nr [kZ rs]= .ok (.dict (kvR (rs.foldl jG []))):=by
 show (match t7 (rs.map tY) with
  | some U=>Co.ok (af.dict (vU [] U))
  | none=>.bad)=_
 rw[V8,<- Hi];rfl
noncomputable def vC(rs:B1)(c:B4):Int:=(c.map λp=>(lkR p rs).getD 0).sum
noncomputable def rP(rs:B1)(n:Nat)(g:Nat×Int)(c:B4):Bool:=match lkR (dW g.2 c n) rs with
 | none=>true
 | some x=>decide (1+vC rs c<x)
noncomputable def pL(gs:A8)(n:Nat)(rs:B1):Bool:=decide (bV rs).Nodup&&(bz n).all (λt=>decide (lkR t rs=some 0))&&gs.all λg=>!(qC (bV rs) g.1).any (rP rs n g)
theorem WW(U:rs.length<=100000):Lf [.dict (kvR rs)]= .ok (dL (bV rs)):=by
 show gd ((kvR rs).length<=be) (Co.ok (af.list ((kvR rs).map (·.1))))=_;rw[bH (by rw[JS];exact fe (CS U))];unfold kvR bV dL;rw[eh,eh];rfl
theorem Cr{n:Nat}(h:lkR (dW g.2 c n) rs=none):rP rs n g c=true:=by rw[rP,h]
theorem vy{n:Nat}{x:Int}(h:lkR (dW g.2 c n) rs=some x):rP rs n g c=decide (1+vC rs c<x):=by rw[rP,h]
theorem Fb{n:Nat}(l:rs.length<=256)(Y:∀i,i<g.1->rs.length^i<=20000)(e:g.1<=4)(m:n<=4):lN [dG g.1 g.2,.int (n:Nat),.dict (kvR rs)]= .ok (.bool (!(qC (bV rs) g.1).any (rP rs n g))):=by
 have hk:(bV rs).length=rs.length:=by rw[bV,ai]
 unfold lN;ext;rw[WW (by lia)];ext;rw[rep1 (by lia)];ext;rw[show cE g.1 (dL (bV rs))=(cE g.1 (bV rs)).map dL by rw[xS],ye (λ_=>rfl) (λq j=>by rw[(xI.mp j).2,hk];exact l) (by rw[cn];exact e) (λi hi=>by rw[cn] at hi;rw[List.take_replicate,wa (by lia),<- rz,Fv,hk];exact Y i hi),<- rz];ext;rw[Ab dL (rP rs n g) λc o=>?_]
 . by_cases h:(qC (bV rs) g.1).any (rP rs n g)=true
   . rw[if_pos h,h];rfl
   . rw[if_neg h,tN.mpr h];rfl
 . obtain ⟨U,Z⟩:=yV.mp o;ext;rw[M3 U e m];ext;rw[X8]
   cases hx:lkR (dW g.2 c n) rs with
   | none=>
    rw[if_pos (Cr hx)];ext;rfl
   | some x=>
    rw[vy hx];ext;rw[VM hx];ext;rw[oV (ns:=c) (λp=>.int ((lkR p rs).getD 0)) ?_ (CS (by lia)) λp Y=>?_]
    rotate_left
    . ext
    . ext;obtain ⟨y,hy⟩:=eP.mp (qe.mpr (Z p Y));rw[VM hy,hy];rfl
    ext;rw[show c.map (λp=>af.int ((lkR p rs).getD 0))=(c.map λp=>(lkR p rs).getD 0).map af.int by rw[eh];rfl,vq];ext;show ((bT (af.bool !(some x).isSome) (Co.ok (af.bool true)) (Co.ok (af.bool (decide (1+vC rs c<x))))).bind _)=_;generalize decide (1+vC rs c<x)=b;cases b <;> rfl
theorem aco{o:C4}:eqD ((o.map af.int).getD .none) (.int 0)= .ok (.bool (decide (o=some 0))):=by
 cases o with
 | none=>exact (wK (by decide) jR (by decide) (c5 sZ (by decide))).2.1.mpr (λz=>nomatch z)
 | some x=>
  show eqD (.int x) (.int 0)=_;rw[KY];congr 2;exact decide_eq_decide.mpr ⟨λh=>by rw[h],λh=>Option.some.inj h⟩
theorem Ur{n:Nat}(hk:(bV rs).Nodup->rs.length<=256/\∀g∈gs,∀i,i<g.1->rs.length^i<=20000)(o:rs.length<=1000)(m:gs.length<=100)(l:∀g∈gs,g.1<=4)(q:n<=4):jV [.list (gs.map CI),.int (n:Nat),kZ rs]= .ok (.bool (pL gs n rs)):=by
 unfold jV pL;ext;rw[abo];ext;rw[show ∀Y,iK [.dict Y]= .ok (.int (Y.length:Nat)) from λ_=>rfl,JS];ext;rw[show cQ [kZ rs]= .ok (.int (rs.length:Nat)) by unfold kZ;ext];ext
 by_cases hd:(bV rs).Nodup
 . have e:=Gb (Cc:=[]) hd;rw[j3] at e;rw[e,decide_eq_true hd,decide_eq_false (by lia)];ext;obtain ⟨Z,j⟩:=hk hd;rw[oV (ns:=bz n) (λt=>.bool (decide (lkR t rs=some 0))) ?_ (CS (by rw[bz,ai,df];lia)) λt p=>?_]
   rotate_left
   . ext;rw[mU (by lia)];ext;rfl
   . ext;show eqD ((cD (.inl t) (kvR rs)).getD .none) (.int 0)=_;rw[En,aco]
   ext;rw[yX];ext
   cases hi:(bz n).all (λt=>decide (lkR t rs=some 0)) with
   | false=>
    ext;rfl
   | true=>
    ext;rw[lr (xs:=gs) CI (λg=>.bool (!(qC (bV rs) g.1).any (rP rs n g))) ?_ (CS (by lia)) λg U=>?_]
    rotate_left
    . ext
    . ext;rw[Fb Z (j g U) (l g U) (by lia)]
    ext;rw[yX];ext;rfl
 . have h1:=merge_lt (Cc:=[]) (by simp[bV]) hd;rw[fT,nI] at h1;rw[decide_eq_false hd,decide_eq_true (by lia)];ext;rfl
theorem Rt{n:Nat}{f:Int->Nat}(W:zG gs n ts f):pL gs n (ts.map λt=>(t,((f t:Nat):Int)))=true:=by
 have hk:bV (ts.map λt=>(t,((f t:Nat):Int)))=ts:=by rw[bV,eh];exact wx ts
 have U:∀(Y:B4) (t:Int),t∈Y->lkR t (Y.map λt=>(t,((f t:Nat):Int)))=some ((f t:Nat):Int):=λY t=>by
  induction Y with
  | nil=>intro h;cases h
  | cons u Y m=>
   intro h;rw[b9];unfold lkR
   by_cases e:u=t
   . rw[if_pos e,e]
   . rw[if_neg e];exact m ((bq.mp h).resolve_left λz=>e z.symm)
 rw[pL,hk,decide_eq_true W.nd,Bool.true_and,cp];refine ⟨hZ.mpr λt Z=>?_,hZ.mpr λg i=>?_⟩
 . have h1:=W.inp t Z;rw[U ts t h1,(W.zer t h1).mpr Z];decide
 . rw[qf,List.any_eq_false];intro c q;obtain ⟨h1,h2⟩:=yV.mp q;obtain ⟨o,r⟩:=W.cl g i c h1 h2;rw[vy (U ts _ o)];have l:vC (ts.map λt=>(t,((f t:Nat):Int))) c=(((c.map f).sum:Nat):Int):=by
    rw[vC,<- uD,eh];congr 1;refine ja λp j=>?_;rw[U ts p (h2 p j)];rfl
   rw[l];simp only[decide_eq_true_eq];lia
noncomputable def inW(ts:B4):A0:=ts.map λt=>(t,eU)
structure mj (n:Nat) (fs ws:A0):Prop where
 few:fs.length<n->fs=inW ((bz n).take fs.length)/\∃rest,ws=inW ((bz n).drop fs.length)++rest/\∀q∈rest,1<=q.2.c
 all:n<=fs.length->fs.take n=inW (bz n)
theorem QF{t:Int}:∀{ts:B4},t∈ts->lk t (inW ts)=some eU
 | k::ts,h=>by
  show (if k=t then some eU else lk t (inW ts))=_
  by_cases e:k=t
  . rw[if_pos e]
  . rw[if_neg e];exact QF ((bq.mp h).resolve_left λz=>e z.symm)
theorem uy:aD (inW ts)=ts:=by unfold aD inW;rw[eh];exact wx ts
theorem Bg{t:Int}:∀{a b:A0},t∉aD a->lk t (a++b)=lk t b
 | [],b,_=>rfl
 | (k,w)::a,b,h=>by
  show (if k=t then some w else lk t (a++b))=_;rw[if_neg (λz=>h (by rw[<- z];exact a7)),Bg λz=>h (a6 _ z)]
variable {rest:A0}
theorem Y6(Z:∀r∈rest,1<=r.2.c)(j:1<=q.2.c):∃U,cg (inW ts++rest) q=inW ts++U/\∀r∈U,1<=r.2.c:=by
 by_cases i:q.1∈ts
 . refine ⟨rest,?_,Z⟩;rw[cg,Qx (by rw[uy];exact i),QF i];show (if q.2.c<eU.c then gF q.1 q.2 (inW ts++rest) else inW ts++rest)=_;rw[if_neg (show ¬ q.2.c<eU.c from mi _)]
 . have Y:q.1∉aD (inW ts):=by rw[uy];exact i
   have e:∃U,gF q.1 q.2 (inW ts++rest)=inW ts++U/\∀r∈U,1<=r.2.c:=by
    rw[gF,Bg Y];split
    . refine ⟨wH q.1 q.2 rest,?_,λr h=>?_⟩
      . rw[wH,ck];congr 1;refine (ja λr h=>?_).trans (List.map_id _);rw[if_neg (λz=>Y (bt.mpr ⟨r,h,z⟩))];rfl
      . obtain ⟨p,e,rfl⟩:=bt.mp h;split
        . exact j
        . exact Z p e
    . refine ⟨rest++[(q.1,q.2)],by rw[da],λr h=>?_⟩;rcases de.mp h with z | z
      . exact Z r z
      . rw[aS.mp z];exact j
   rw[cg,Bg Y];split
   . exact e
   . split
     . exact e
     . exact ⟨rest,rfl,Z⟩
theorem Bo:∀{qs rest:A0},(∀r∈rest,1<=r.2.c)->(∀q∈qs,1<=q.2.c)->∃U,qs.foldl cg (inW ts++rest)=inW ts++U/\∀r∈U,1<=r.2.c
 | [],rest,Y,_=>⟨rest,rfl,Y⟩
 | q::qs,rest,Y,Z=>by
  obtain ⟨j,e,h1⟩:=Y6 Y (Z q a7);rw[fS,e];exact Bo h1 λp i=>Z p (a6 _ i)
theorem Fw:∀{ts us:B4},(us++ts).Nodup->(ts.map λt=>(t,eU)).foldl cg (inW us)=inW (us++ts)
 | [],us,_=>by rw[cy];rfl
 | t::ts,us,h=>by
  have U:=λz=>(eu.mp h).2.2 t z t a7 rfl;have hk:t∉aD (inW us):=by rw[uy];exact U
  rw[b9,fS,show cg (inW us) (t,eU)=inW (us++[t]) by
   rw[cg,xx.mpr hk];rw[gF,xx.mpr hk];unfold inW;rw[ck];rfl,Fw (by rw[da];exact h),da]
  rfl
theorem IV{n:Nat}(Y:(bz n).Nodup):mj n [] (lM gs n):=by
 have e:uQ n=inW (bz n):=by
  show ((bz n).map λt=>(t,eU)).foldl cg (inW [])=_;rw[Fw (by rw[j3];exact Y),j3]
 obtain ⟨rest,U,h1⟩:=Bo (qs:=oN gs n) (rest:=[]) (λr h=>nomatch h) λq Z=>by
  obtain ⟨g,_,rfl⟩:=bt.mp Z;exact ax _
 rw[cy] at U;refine ⟨λ_=>⟨rfl,rest,?_,h1⟩,λh=>?_⟩
 . show (oN gs n).foldl cg (uQ n)=_;rw[e,U];rfl
 . have h:=Nat.le_zero.mp h;subst h;rfl
theorem jH{n:Nat}:(bz n).length=n:=by rw[bz,ai,df]
theorem YW{t:Int}(h:t∉ts)(U:t∉aD rest):(inW (t::ts)++rest).filter (λq=>!decide (q.1=t))=inW ts++rest:=by
 show ((t,eU)::(inW ts++rest)).filter _=_;rw[fI (by simp)];refine mm.mpr λq Y=>?_;rcases de.mp Y with z | z
 . obtain ⟨u,hu,rfl⟩:=bt.mp z;simp only[qf,decide_eq_false_iff_not];exact λz=>h (z ▸ hu)
 . simp only[qf,decide_eq_false_iff_not];exact λe=>U (bt.mpr ⟨q,z,e⟩)
theorem zz{k:af}:∀{r:A0},jf k 0 (CM r)= .ok k
 | []=>rfl
 | (u,w)::r=>by
  show (if ((w.c:Nat):Int)<0 then jf (.int u) (w.c:Nat) (CM r) else jf k 0 (CM r))=_;rw[if_neg (by lia)];exact zz
theorem mj.step{n:Nat}{t:Int}(F:mj n L ws)(I:dq gs n L ws)(hk:jT (CM ws)= .ok (.int t))(h:(t,w)∈ws)(E:(bz n).Nodup) :
 mj n (L++[(t,w)]) ((fW gs (L++[(t,w)]) t n).foldl cg (ws.filter λq=>!decide (q.1=t))):=by
 have p:(L++[(t,w)]).length=L.length+1:=by rw[aw];rfl
 by_cases U:L.length<n
 . obtain ⟨y,rest,l,D⟩:=F.few U;obtain ⟨b,r⟩:∃b,(bz n)[L.length]?=some b:=⟨_,aI (by rw[jH];exact U)⟩;have C:(bz n).drop L.length=b::(bz n).drop (L.length+1):=by
    rw[g6 (by rw[jH];exact U)];rw[aI (by rw[jH];exact U)] at r;rw[Option.some.inj r]
   rw[C] at l;have Y:=(eu.mp I.nd).2.1;have i:ws=(b,eU)::(inW ((bz n).drop (L.length+1))++rest):=l;have s:=by
    rw[i] at hk;have hk:jf (.int b) 0 (CM (inW ((bz n).drop (L.length+1))++rest))= .ok (.int t):=hk;rw[zz] at hk;exact (af.int.inj (Co.ok.inj hk)).symm
   subst s;have B:=by
    have h1:=oZ Y h;have h2:=oZ Y (show (t,eU)∈ws by rw[i];exact a7);rw[h1] at h2;exact Option.some.inj h2
   subst B;have j:t∉(bz n).drop (L.length+1)/\t∉aD rest:=by
    rw[i] at Y;have h1:(t::(aD (inW ((bz n).drop (L.length+1)))++aD rest)).Nodup:=by
     have:aD ((t,eU)::(inW ((bz n).drop (L.length+1))++rest))=t::(aD (inW ((bz n).drop (L.length+1)))++aD rest):=by
      unfold aD;rw[b9,ck]
     rwa [this] at Y
    rw[uy] at h1;have h2:=(i0.mp h1).1;exact ⟨λz=>h2 (dQ _ z),λz=>h2 (cc _ z)⟩
   have x:ws.filter (λq=>!decide (q.1=t))=inW ((bz n).drop (L.length+1))++rest:=by
    rw[l];exact YW j.1 j.2
   have u:L++[(t,eU)]=inW ((bz n).take (L.length+1)):=by
    have h1:=take_snoc r;rw[h1];rw[inW,ck];show L++_=inW ((bz n).take L.length)++_;rw[<- y];rfl
   obtain ⟨Z,v,o⟩:=Bo (qs:=fW gs (L++[(t,eU)]) t n) D λq m=>by
    obtain ⟨g,_,m⟩:=h9.mp m;obtain ⟨c,_,e⟩:=eo.mp m;unfold oX at e;split at e
    . cases e
    . cases e;exact AA _ _
   rw[x,v];refine ⟨λ_=>⟨by rw[p];exact u,Z,by rw[p],o⟩,λhge=>?_⟩;rw[p] at hge;have e4:n=L.length+1:=by lia
   rw[u,<- e4,eg (by rw[inW,ai,c6];lia),eg (by rw[jH];exact ax _)]
 . have hge:=hY U;refine ⟨λz=>absurd z (by lia),λ_=>?_⟩;rw[ox hge];exact F.all hge
noncomputable def kvD(D:List (Int×af)):B0:=D.map λq=>(af.int q.1,q.2)
noncomputable def lkD(t:Int):List (Int×af)->Option af
 | []=>none
 | (k,x)::r=>if k=t then some x else lkD t r
theorem VV{t:Int}:∀D:List (Int×af),cD (.inl t) (kvD D)=lkD t D
 | []=>rfl
 | (k,x)::r=>by
  show (if bJ (.int k)=some (.inl t) then some x else cD (.inl t) (kvD r))=_;unfold lkD
  by_cases h:k=t
  . subst h;rw[if_pos (show bJ (.int k)=some (.inl k) from rfl),if_pos rfl]
  . rw[if_neg (show ¬ bJ (.int k)=some (.inl t) from λz=>h (l5.inj (Option.some.inj z))),if_neg h];exact VV r
theorem Br{t:Int}:∀{D:List (Int×af)},lkD t D=some x->(t,x)∈D
 | (k,y)::r,h=>by
  unfold lkD at h
  by_cases e:k=t
  . rw[if_pos e] at h;cases h;subst e;exact a7
  . rw[if_neg e] at h;exact a6 _ (Br h)
theorem G6{t:Int}:∀{D:List (Int×af)},t∈D.map (·.1)->∃x,lkD t D=some x
 | (k,y)::r,h=>by
  unfold lkD
  by_cases e:k=t
  . exact ⟨y,by rw[if_pos e]⟩
  . rw[if_neg e];exact G6 ((bq.mp h).resolve_left λz=>e z.symm)
variable {D:List (Int×af)}
theorem VH{t:Int}(h:lkD t D=some x):ixY (.dict (kvD D)) (.int t)= .ok x:=by
 show (match cD (.inl t) (kvD D) with
  | some d=>Co.ok d
  | none=>.bad)=_
 rw[VV,h]
theorem QB{t:Int}:∀{D:List (Int×af)},t∉D.map (·.1)->qz (.inl t) (kvD D)=false
 | [],_=>rfl
 | (k,x)::r,h=>by
  show (if bJ (.int k)=some (.inl t) then true else qz (.inl t) (kvD r))=_;rw[if_neg (λz=>h (by rw[<- l5.inj (Option.some.inj z)];exact a7))];exact QB λz=>h (a6 _ z)
theorem V5{Y U:ME}{t:Int}(h2:U Γ = .ok x)(h1:Y Γ = .ok (.int t))(Z:gv Γ i=some (.dict (kvD D)))(j:t∉D.map (·.1))(e:D.length<=100000)(hi:i < Γ.length):o9 i Y U Γ = .ok (.nx (Γ.set i (some (.dict (kvD (D++[(t,x)])))))):=by
 rw[o9,h2,Co.aP,h1,Co.aP,Z];show gd ((kvD D).length<be/\i < Γ.length) (Co.ok (Out.nx (Γ.set i (some (.dict (iW (.int t) (.inl t) x (kvD D)))))))=_;rw[bH ⟨by rw[kvD,ai];exact CS e,hi⟩];rw[iW,QB j];unfold kvD;rw[ck];rfl
section
variable  {n:Nat}
theorem PN(F:mj n L []):L.take n=inW (bz n)/\n<=L.length:=by
 have h:=hY λz=>by
  obtain ⟨_,U,e,_⟩:=F.few z;have h1:=congrArg List.length e;rw[fT,aw] at h1;unfold inW at h1;rw[ai,hX,jH] at h1;lia
 exact ⟨F.all h,h⟩
theorem ab5(I:dq gs n L [])(F:mj n L [])(m:L[i]?=some q)(l:q.1∈bz n):i<n/\q.1=fJ n i:=by
 obtain ⟨e,o⟩:=PN F;have nd:=by have:=I.nd;rwa [show aD L++aD []=aD L from cy _] at this
 obtain ⟨j,hj,Z⟩:=dS.mp l;rw[jH] at hj;have h1:(L.take n)[j]?=some (q.1,eU):=by
  rw[e];rw[inW,a9,aI (by rw[jH];exact hj),Z];rfl
 rw[nV hj] at h1;have h2:(aD L)[j]?=(aD L)[i]?:=by
  rw[aD,a9,a9,h1,m];rfl
 have U:=(List.getElem?_inj (by rw[aD,ai];lia) nd).mp h2;subst U;refine ⟨hj,?_⟩;have Y:(bz n)[j]?=some (fJ n j):=by rw[bz,a9,i7 hj];rfl
 rw[aI (by rw[jH];exact hj),Z] at Y;exact Option.some.inj Y
theorem Jm(T0:Nat->Int->Nat->af->Prop)(hup:∀{k t c d},T0 k t c d->T0 (k+1) t c d)(s:∀{k i},i<n->T0 k (fJ n i) 0 (.int (i:Nat)))
 (C:∀{k g}{ps:List (Int×Nat×af)},g∈gs->ps.length=g.1->(∀p∈ps,T0 k p.1 p.2.1 p.2.2)->T0 (k+1) (dW g.2 (ps.map (·.1)) n) (1+(ps.map (·.2.1)).sum) (dT g.1 g.2 (ps.map (·.2.2))))
 (I:dq gs n L []) (F:mj n L []) (hg:∀g∈gs,g.1<=4) (hL:L.length<=1000) {t:Int} (ht:t∈aD L):∃d,lV [.dict (CM L),.int t]= .ok d/\T0 L.length t (bQ L t) d:=by
 have nd:=by have:=I.nd;rwa [show aD L++aD []=aD L from cy _] at this
 suffices hG:Gives (lV [.dict (CM L),.int t]) λd=>T0 L.length t (bQ L t) d by
  obtain ⟨d,e,h⟩:=hG;exact ⟨d,e,h⟩
 unfold lV;ext;rw[show ∀m,rK [] m= .ok (.dict (kvD [])) from λ_=>rfl];ext;rw[show itI 0 [some (.dict (CM L)),some (.int t),some (.dict (kvD [])),none,none]= .ok (L.map λq=>af.tuple [.int q.1,wD q.2]) by
  show Co.ok ((CM L).map (λq=>af.tuple [q.1,q.2]))=_;rw[CM,eh];rfl,Co.aP]
 refine zO (λi m=>∃D:List (Int×af),m=[some (.dict (CM L)),some (.int t),some (.dict (kvD D)),none,none]/\D.map (·.1)=aD (L.take i)/\∀q∈D,T0 i q.1 (bQ L q.1) q.2) ⟨[],rfl,rfl,λq l=>nomatch l⟩ (λi x m hx P=>?_) λm P=>?_
 . obtain ⟨D,rfl,hk,o⟩:=P;obtain ⟨⟨u,w⟩,j,rfl⟩:=iB hx;have hi:=(bE.mp j).1;have M:D.length=i:=by
    have:=congrArg List.length hk;unfold aD at this;rw[ai,ai,c6] at this;lia
   have y:aD (L.take (i+1))=aD (L.take i)++[u]:=by
    rw[take_snoc j];rw[aD,ck];rfl
   have hsub:∀p,p∈aD (L.take i)->p∈aD L:=λp U=>by
    obtain ⟨q,h1,rfl⟩:=bt.mp U;exact bt.mpr ⟨q,nE h1,rfl⟩
   have r:u∉D.map (·.1):=λz=>by
    rw[hk] at z;have h1:(aD L).take (i+1)=aD (L.take i)++[u]:=by
     rw[<- y];unfold aD;rw[zv]
    have h2:(aD (L.take i)++[u]).Nodup:=by rw[<- h1];exact nd.sublist (List.take_sublist _ _)
    exact (eu.mp h2).2.2 u z u (aS.mpr rfl) rfl
   have v:=pZ nd (d4 j);have add:∀d,T0 (i+1) u (bQ L u) d->∃Y,(D++[(u,d)])=Y/\Y.map (·.1)=aD (L.take (i+1))/\∀q∈Y,T0 (i+1) q.1 (bQ L q.1) q.2:=λd hd=>⟨_,rfl,by rw[ck,hk,y];rfl,λq l=>by
    rcases de.mp l with z | z
    . exact hup (o q z)
    . rw[aS.mp z];exact hd⟩
   show Goes (Co.bind (Co.bind (Co.ok ([some (.dict (CM L)),some (.int t),some (.dict (kvD D)),some (.int u),some (wD w)]:Ev)) _) _) _;rw[Co.aP];rcases I.vf i (u,w) j with ⟨hw,hb⟩ | ⟨g,h1,h2,H,E,S,h6⟩
   . have hw:=hw;subst hw;obtain ⟨O,hu⟩:=ab5 I F j hb;have hu:u=fJ n i:=hu;obtain ⟨Y,R,J,Q⟩:=add (.int i) (by rw[v,hu];exact s O);unfold wD eU gD;ext;rw[show rF .none .none= .ok (.bool true) from rfl];ext;rw[V5 ?_ rfl rfl r (by lia) (of_decide_eq_true rfl)]
     . exact ⟨_,rfl,Y,by rw[<- R];rfl,J,Q⟩
     . ext;show Co.ok (af.int ((kvD D).length:Nat))=_;rw[kvD,ai,M]
   . have h2:=h2;have H:=H;have E:=E;have S:dW g.2 w.ts n=u:=S;have h6:=h6;have g1:=hg g h1;have hch:∀p∈w.ts,∃d,lkD p D=some d/\T0 i p (bQ L p) d:=λp U=>by
      obtain ⟨d,e⟩:=G6 (by rw[hk];exact E p U);exact ⟨d,e,o _ (Br e)⟩
     have hps:∃T:Int->af,∀p∈w.ts,lkD p D=some (T p)/\T0 i p (bQ L p) (T p):=⟨λp=>((lkD p D).getD .none),λp U=>by
      obtain ⟨d,e,h⟩:=hch p U;have e':(lkD p D).getD .none=d:=by rw[e];rfl
      show lkD p D=some ((lkD p D).getD .none)/\T0 i p (bQ L p) ((lkD p D).getD .none);rw[e'];exact ⟨e,h⟩⟩
     obtain ⟨T,hT⟩:=hps;have Z:=by
      have:=C (ps:=w.ts.map λp=>(p,bQ L p,T p)) h1 (by rw[ai];exact H) (λq l=>by
       obtain ⟨p,U,rfl⟩:=bt.mp l;exact (hT p U).2)
      rw[eh,eh,eh] at this;have e0:w.ts.map ((λx:Int×Nat×af=>x.1)∘λp=>(p,bQ L p,T p))=w.ts:=wx w.ts;rw[e0] at this;exact this
     have ec:w.c=1+(w.ts.map λp=>bQ L p).sum:=by
      rw[h6];have:=wL (gs:=L.drop i) E;rw[eM] at this;rw[<- this];rfl
     obtain ⟨Y,R,J,Q⟩:=add (dT g.1 g.2 (w.ts.map T)) (by rw[v,ec,<- S];exact Z);obtain ⟨wc,wg,B⟩:=w;have h2:wg=some g:=h2;subst h2;ext;rw[show CF (wD ⟨wc,some g,B⟩) (.int 1)= .ok (CI g) from rfl];ext;rw[show rF (CI g) .none= .ok (.bool false) from rfl];ext;rw[V5 (t:=u) (x:=dT g.1 g.2 (B.map T)) (D:=D) ?_ rfl rfl r (by lia) (of_decide_eq_true rfl)]
     . exact ⟨_,rfl,Y,by rw[<- R];rfl,J,Q⟩
     . ext;rw[show CF (wD ⟨wc,some g,B⟩) (.int 1)= .ok (CI g) from rfl];ext;rw[oV (ns:=B) T ?_ (CS (by have:B.length=g.1:=H;lia)) λp U=>?_]
       . ext;rfl
       . ext;rfl
       . ext;exact VH (hT p U).1
 . obtain ⟨D,rfl,hk,o⟩:=P;rw[ai,e8] at hk;rw[ai] at o;ext;obtain ⟨d,e⟩:=G6 (D:=D) (by rw[hk];exact ht);rw[VH e];exact ⟨d,rfl,o _ (Br e)⟩
end
inductive MkT (gs:A8) (n:Nat):Int->Nat->af->Prop
 | inp {i:Nat} (hi:i<n):MkT gs n (fJ n i) 0 (.int (i:Nat))
 | node {g:Nat×Int}{ps:List (Int×Nat×af)} (hg:g∈gs) (hl:ps.length=g.1) (hp:∀p∈ps,MkT gs n p.1 p.2.1 p.2.2):MkT gs n (dW g.2 (ps.map (·.1)) n) (1+(ps.map (·.2.1)).sum) (dT g.1 g.2 (ps.map (·.2.2)))
section
variable  {n:Nat}
theorem Lw(h:cX [.list (gs.map CI),.int (n:Nat)]= .ok (.dict (CM L)))(I:dq gs n L [])(F:mj n L [])(Z:∀g∈gs,g.1<=4)(i:L.length<=1000){t:Int}(Y:t∈aD L)(l:bQ L t<=300) :
 ∃d,dh [.list (gs.map CI),.tuple [.int (n:Nat),.int t]]= .ok d/\MkT gs n t (bQ L t) d:=by
 obtain ⟨d,e,hd⟩:=Jm (λ_ t c d=>MkT gs n t c d) id MkT.inp MkT.node I F Z i Y;obtain ⟨w,U⟩:=eP.mp (gG.mpr (Y));have j:bQ L t=w.c:=by rw[bQ,U];rfl
 refine ⟨d,?_,hd⟩;unfold dh;ext;rw[h];ext;rw[mV,U];ext;rw[show (!(some w:Option Way).isSome)=false from rfl];ext;rw[xM U];ext;rw[tV];ext;rw[decide_eq_false (by lia)];ext;rw[e];ext
theorem Ii(h:cX [.list (gs.map CI),.int (n:Nat)]= .ok (.dict (CM L))){t:Int}(Y:t∉aD L) :
 dh [.list (gs.map CI),.tuple [.int (n:Nat),.int t]]= .bad:=by
 have U:lk t L=none:=by
  cases e:lk t L with
  | none=>rfl
  | some w=>exact absurd (gG.mp (by rw[e];rfl)) Y
 unfold dh;ext;rw[h];ext;rw[mV,U];ext;rw[show (!(none:Option Way).isSome)=true from rfl];ext;rfl
theorem Io(h:cX [.list (gs.map CI),.int (n:Nat)]= .ok (.dict (CM L))){t:Int}(Y:t∈aD L)(e:300<bQ L t) :
 dh [.list (gs.map CI),.tuple [.int (n:Nat),.int t]]= .bad:=by
 obtain ⟨w,U⟩:=eP.mp (gG.mpr (Y));have Z:bQ L t=w.c:=by rw[bQ,U];rfl
 unfold dh;ext;rw[h];ext;rw[mV,U];ext;rw[show (!(some w:Option Way).isSome)=false from rfl];ext;rw[xM U];ext;rw[tV];ext;rw[decide_eq_true (by lia)];ext;rfl
end
def MkS(gs:A8)(n:Nat)(t s:Int):Prop:=∀P:Int->Int->Prop,(∀b∈bz n,P b 0)->(∀g∈gs,∀c:B1,c.length=g.1->(∀q∈c,P q.1 q.2)->P (dW g.2 (c.map (·.1)) n) (1+(c.map (·.2)).sum))->P t s
theorem MkS.inp{n:Nat}(h:b∈bz n):MkS gs n b 0:=λP U _=>U b h
theorem MkS.node{gs:A8}{n:Nat}{g:Nat×Int}{c:B1}(U:g∈gs)(i:c.length=g.1)(Z:∀q∈c,MkS gs n q.1 q.2):MkS gs n (dW g.2 (c.map (·.1)) n) (1+(c.map (·.2)).sum):=λP Y h1=>h1 g U c i λq e=>Z q e P Y h1
theorem Qa{n:Nat}(h:pL gs n rs=true):(bV rs).Nodup/\(∀b∈bz n,lkR b rs=some 0)/\∀g∈gs,∀c∈qC (bV rs) g.1,rP rs n g c=false:=by
 unfold pL at h;rw[cp,cp] at h;obtain ⟨⟨h1,h2⟩,Y⟩:=h;refine ⟨of_decide_eq_true h1,λb Z=>of_decide_eq_true (hZ.mp h2 b Z),λg U c e=>?_⟩;have:=hZ.mp Y g U;rw[qf,List.any_eq_false] at this;exact tN.mpr (this c e)
theorem Uw{n:Nat}{t s:Int}(h:pL gs n rs=true)(o:MkS gs n t s):∃x,lkR t rs=some x/\x<=s:=by
 obtain ⟨h1,h2,v⟩:=Qa h;refine o (λt s=>∃x,lkR t rs=some x/\x<=s) (λb U=>⟨0,h2 b U,ia _⟩) λg j c u i=>?_;have Y:c.map (·.1)∈qC (bV rs) g.1:=yV.mpr ⟨by rw[ai];exact u,λp e=>by
  obtain ⟨q,r,rfl⟩:=bt.mp e;obtain ⟨x,hx,_⟩:=i q r;exact qe.mp (by rw[hx];rfl)⟩
 have U:=v g j _ Y
 cases hx:lkR (dW g.2 (c.map (·.1)) n) rs with
 | none=>rw[Cr hx] at U;cases U
 | some x=>
  rw[vy hx] at U;have Z:=of_decide_eq_false U;have m:∀d:B1,(∀q∈d,∃x,lkR q.1 rs=some x/\x<=q.2)->vC rs (d.map (·.1))<=(d.map (·.2)).sum:=λd=>by
   induction d with
   | nil=>intro _;exact ia _
   | cons q d l=>
    intro hd;obtain ⟨y,hy,Z⟩:=hd q a7;have h1:=l λp e=>hd p (a6 _ e);unfold vC at h1 ⊢;rw[b9,b9,gS,b9,gS,hy];show y+_<=_;lia
  have:=m c i;exact ⟨x,rfl,by lia⟩
theorem Am{n:Nat}{f:Int->Nat}(W:zG gs n ts f):∀(k:Nat) (t:Int),t∈ts->f t<=k->MkS gs n t ((f t:Nat):Int)
 | 0,t,U,hk=>by
  have:=Nat.le_zero.mp hk;rw[this];exact MkS.inp ((W.zer t U).mp this)
 | k+1,t,U,hk=>by
  by_cases e:f t=0
  . rw[e];exact MkS.inp ((W.zer t U).mp e)
  . obtain ⟨g,i,c,h1,h2,o,m⟩:=W.ju t U (by lia);have Z:=λp Y=>by
     have:∀d:B4,p∈d->f p<=(d.map f).sum:=λd=>by
      induction d with
      | nil=>intro h;cases h
      | cons q d j=>
       intro h;rw[b9,gS];rcases bq.mp h with rfl | h
       . lia
       . have:=j h;lia
     exact this c Y
    have:=MkS.node (c:=c.map λp=>(p,((f p:Nat):Int))) i (by rw[ai];exact h1) λq l=>by
     obtain ⟨p,Y,rfl⟩:=bt.mp l;exact Am W k p (h2 p Y) (by have:=Z p Y;lia)
    rw[eh,eh] at this;have r:c.map ((λx:Int×Int=>x.1)∘λp=>(p,((f p:Nat):Int)))=c:=wx c;rw[r,o] at this;rw[m,wb,<- uD,eh];exact this
theorem Bc{f:Nat->Int}(t:Int)(U:∀r,f r=0\/f r=1):∀W:Nat,fE (tab W f) t=tab W λr=>if bw t (r:Nat)=1 then f r else 0
 | 0=>by show fE 0 t=0;exact vK t
 | W+1=>by
  have Y:=Bc (f:=λr=>f (r+1)) (t / 2) (λr=>U (r+1)) W;rw[jb,jb];have Z:=U 0;obtain ⟨h1,h2⟩:=j9 (2*tab W (λr=>f (r+1))+f 0) t;rw[show (2*tab W (λr=>f (r+1))+f 0) / 2=tab W (λr=>f (r+1)) by lia,Y] at h1;rw[show (2*tab W (λr=>f (r+1))+f 0) % 2=f 0 by lia] at h2;have e:(λr:Nat=>if bw t ((r+1:Nat):Int)=1 then f (r+1) else 0)=λr:Nat=>if bw (t / 2) (r:Nat)=1 then f (r+1) else 0:=by
   funext r;rw[nQ]
  rw[e,show bw t ((0:Nat):Int)=t % 2 from n6 t];have ht:t % 2=0\/t % 2=1:=by lia
  rcases ht with ht | ht <;> rw[ht] at h2 ⊢
  . rw[if_neg (by decide)];lia
  . rw[if_pos rfl];lia
theorem QZ{f g:Nat->Int}(Y:∀r,f r=0\/f r=1)(U:∀r,g r=0\/g r=1):∀W:Nat,jI (tab W f) (tab W g)=tab W λr=>1 - (1 - f r)*(1 - g r)
 | 0=>by show jI 0 0=0;unfold jI gz;decide +kernel
 | W+1=>by
  have Z:=QZ (f:=λr=>f (r+1)) (g:=λr=>g (r+1)) (λr=>Y (r+1)) (λr=>U (r+1)) W;rw[jb,jb,jb];have i:=Y 0;have e:=U 0;obtain ⟨h1,h2⟩:=ue (2*tab W (λr=>f (r+1))+f 0) (2*tab W (λr=>g (r+1))+g 0);rw[show (2*tab W (λr=>f (r+1))+f 0) / 2=tab W (λr=>f (r+1)) by lia,show (2*tab W (λr=>g (r+1))+g 0) / 2=tab W (λr=>g (r+1)) by lia,Z] at h1;rw[show (2*tab W (λr=>f (r+1))+f 0) % 2=f 0 by lia,show (2*tab W (λr=>g (r+1))+g 0) % 2=g 0 by lia] at h2;lia
theorem JH(x y:Int):lI x y / 2=lI (x / 2) (y / 2)/\lI x y % 2=(x % 2+y % 2) % 2:=by
 unfold lI;obtain ⟨Y,U⟩:=ue x y;obtain ⟨b1,b2⟩:=j9 x y;have hx:x % 2=0\/x % 2=1:=by lia
 have hy:y % 2=0\/y % 2=1:=by lia
 rcases hx with hx | hx <;> rcases hy with hy | hy <;> rw[hx,hy] at U b2 <;> rw[hx,hy] <;> simp at U b2 <;> lia
theorem Kf:∀(W r:Nat) (t:Int),r<W->bw (lI (2^W - 1) t) (r:Nat)=1 - bw t (r:Nat)
 | 0,r,t,h=>absurd h (mi _)
 | W+1,r,t,h=>by
  obtain ⟨h1,h2⟩:=JH (2^(W+1) - 1) t;have e:((2:Int)^(W+1) - 1) / 2=2^W - 1:=by rw[qB];lia
  have U:((2:Int)^(W+1) - 1) % 2=1:=by rw[qB];lia
  rw[e] at h1;rw[U] at h2
  cases r with
  | zero=>rw[show ((0:Nat):Int)=0 from rfl,n6,n6,h2];lia
  | succ r=>rw[nQ,nQ,h1];exact Kf W r (t / 2) (by lia)
noncomputable def b01(b:Bool):Int:=if b=true then 1 else 0
theorem zA(b:Bool):b01 b=0\/b01 b=1:=by cases b;exact .inl rfl;exact .inr rfl
noncomputable def j6(ts:B4)(ρ r:Nat):Nat->Bool
 | 0=>true
 | k+1=>j6 ts ρ r k&&decide (bw (ts.getD k 0) (r:Nat)=bw (ρ:Nat) (k:Nat))
variable {ρ:Nat}
theorem Ey{r:Nat}:∀{k:Nat},j6 ts ρ r k=true↔∀j,j<k->bw (ts.getD j 0) (r:Nat)=bw (ρ:Nat) (j:Nat)
 | 0=>⟨λ_ j h=>absurd h (mi _),λ_=>rfl⟩
 | k+1=>by
  rw[j6,cp,Ey,decide_eq_true_eq];constructor
  . rintro ⟨h1,h2⟩ j hj;rcases Nat.lt_succ_iff_lt_or_eq.mp hj with h | h
    . exact h1 j h
    . rw[h];exact h2
  . exact λh=>⟨λj hj=>h j (by lia),h k (by lia)⟩
theorem Kd{r:Nat}(Z:ts.length=m)(U:ρ < 2^m):j6 ts ρ r m=decide ((ρ:Int)=eZ (ts.map λt=>bw t (r:Nat))):=by
 have Y:je (ts.map λt=>bw t (r:Nat)):=je.map λa _=>fL _ _;rw[vT,Ey,decide_eq_true_eq];constructor
 . intro h;rw[<- Ay U];congr 1;unfold lX;refine sP λj=>?_;rw[a9,a9]
   by_cases hj:j<m
   . rw[i7 hj,aI (by lia)];have:=h j hj;rw[ay,aI (by lia),T5] at this;exact congrArg some this.symm
   . rw[dr (by rw[df];lia),dr (by lia)];rfl
 . intro h j hj;rw[h,Gs Y ?_];rw[a9,ay,aI (by lia)];rfl
noncomputable def j5(ts:B4)(b:Int)(m r i:Nat):Bool:=(c8 i).any λρ=>j6 ts ρ r m&&decide (bw b (ρ:Nat)=1)
theorem Xa{r:Nat}(i:ts.length=m):b01 (j5 ts b m r (2^m))=bw b (eZ (ts.map λt=>bw t (r:Nat))):=by
 have Y:je (ts.map λt=>bw t (r:Nat)):=je.map λa _=>fL _ _;have j:0<=eZ (ts.map λt=>bw t (r:Nat)):=rO Y.nn;have h1:=BX Y;rw[ai,i] at h1;obtain ⟨ρ,U⟩:∃ρ:Nat,eZ (ts.map λt=>bw t (r:Nat))=ρ:=⟨_,(Int.toNat_of_nonneg j).symm⟩;rw[U] at h1 ⊢;have Z:ρ < 2^m:=by
  have:((2^m:Nat):Int)=2^m:=by simp
  lia
 unfold j5 b01;rcases fL b (ρ:Nat) with hb | hb
 . rw[hb,if_neg];rw[List.any_eq_true];rintro ⟨x,hx,h⟩;rw[Kd i (d6.mp hx),cp,decide_eq_true_eq,decide_eq_true_eq,U] at h;have e:x=ρ:=by have:=h.1;lia
   rw[e,hb] at h;exact absurd h.2 (by decide)
 . rw[hb,if_pos];rw[List.any_eq_true];exact ⟨ρ,d6.mpr Z,by rw[Kd i Z,U,decide_eq_true rfl,hb];rfl⟩
theorem Sx{k:Nat}(h:bw (ρ:Nat) (k:Nat)=1):fE (tab W λr=>b01 (j6 ts ρ r k)) (ts.getD k 0)=tab W λr=>b01 (j6 ts ρ r (k+1)):=by
 rw[Bc _ λr=>zA _];refine lF λr Y=>?_;show _=b01 (j6 ts ρ r k&&decide (bw (ts.getD k 0) (r:Nat)=bw (ρ:Nat) (k:Nat)));rw[h]
 by_cases U:bw (ts.getD k 0) r=1
 . rw[if_pos U,decide_eq_true U,BH]
 . rw[if_neg U,decide_eq_false U,sQ];rfl
theorem Rw{k:Nat}(h:bw (ρ:Nat) (k:Nat)=0):fE (tab W λr=>b01 (j6 ts ρ r k)) (lI (2^W - 1) (ts.getD k 0))=tab W λr=>b01 (j6 ts ρ r (k+1)):=by
 rw[Bc _ λr=>zA _];refine lF λr U=>?_;show _=b01 (j6 ts ρ r k&&decide (bw (ts.getD k 0) (r:Nat)=bw (ρ:Nat) (k:Nat)));rw[h,Kf W r _ U];rcases fL (ts.getD k 0) r with hb | hb
 . rw[hb,if_pos (by decide),decide_eq_true rfl,BH]
 . rw[hb,if_neg (by decide),decide_eq_false (by decide),sQ];rfl
theorem Ww(h:bw b (i:Nat)=1):jI (tab W λr=>b01 (j5 ts b m r i)) (tab W λr=>b01 (j6 ts i r m))=tab W λr=>b01 (j5 ts b m r (i+1)):=by
 rw[QZ (λr=>zA _) λr=>zA _];refine lF λr U=>?_;have e:j5 ts b m r (i+1)=(j5 ts b m r i||j6 ts i r m):=by
  unfold j5;rw[r0,List.any_append,j1,List.any_nil,zi,decide_eq_true h,BH]
 rw[e];cases j5 ts b m r i <;> cases j6 ts i r m <;> rfl
theorem Vp{r:Nat}(h:bw b (i:Nat)=0):j5 ts b m r (i+1)=j5 ts b m r i:=by
 unfold j5;rw[r0,List.any_append,j1,List.any_nil,zi,decide_eq_false (by rw[h];decide),sQ,zi]
noncomputable def dC:B5->Co Str:=fnZ 2 (cF (sIf (eOr (ak gtD (aj 0) (eC (.int 128))) (ak gtD (aJ gq [(aj 0),(aj 1)]) (eC (.int 20000)))) jP cR) (zIf (eOr (ak gtD (aj 0) (eC (.int 128))) (ak gtD (aJ gq [(aj 0),(aj 1)]) (eC (.int 20000)))) (cF jP (su "TooMany") zNo) zNo) zNo)
noncomputable def yR:B5->Co Str:=fnZ 7 (cF (aN 2 (ak CF (aj 0) (eC (.int 0)))) zNo (cF (aN 3 (bU (itL (aj 1)) (gN 0) (ak eqD (ak CF (aj 0) (eC (.int 0))) (eC (.int 0))) (aJ jg [(aj 0),(bI []),(aj 1)]) 1 [2])) zNo (cF (aN 4 (bI [])) zNo (cF (aN 5 (eFn j0 [(ak cj (eFn uF [(ak CF (aj 0) (eC (.int 1)))]) (aj 3))])) zNo (cF (dO 1000000 (ak gtD (eFn cQ [(aj 5)]) (eC (.int 0))) [6] (aG (sEx (aJ bx [(ak cj (eFn cQ [(aj 4)]) (eFn cQ [(aj 5)])),(aj 1)]))
 (aG (aN 6 (aJ gB [(aj 1),(aj 4),(aj 5),(aj 2)]))
 (aG (aN 4 (ak cj (aj 4) (aj 5)))
 (aN 5 (eFn jt [(aj 6),(aj 4)])))))) (oh 1000000 (ak gtD (eFn cQ [(aj 5)]) (eC (.int 0))) [6] (aG (sEx (aJ bx [(ak cj (eFn cQ [(aj 4)]) (eFn cQ [(aj 5)])),(aj 1)]))
 (aG (aN 6 (aJ gB [(aj 1),(aj 4),(aj 5),(aj 2)]))
 (aG (aN 4 (ak cj (aj 4) (aj 5)))
 (aN 5 (eFn jt [(aj 6),(aj 4)]))))) (cF (sEx (aJ bx [(ak cj (eFn cQ [(aj 4)]) (eFn cQ [(aj 5)])),(aj 1)])) (gV dC [(ak cj (eFn cQ [(aj 4)]) (eFn cQ [(aj 5)])),(aj 1)]) zNo)) zNo)))))
noncomputable def nM:B5->Co Str:=fnZ 8 (cF (aN 2 (rK [])) zNo (cF (aN 3 (aJ iM [(aj 0),(aj 1)])) zNo (cF (dO 1000000 (ak gtD (eFn iK [(aj 3)]) (eC (.int 0))) [4,5,6,7] (aG (aN 4 (pg 3))
 (aG (jY 2 3 4)
 (aG (sEx (aJ bx [(eFn iK [(aj 2)]),(aj 0)]))
 (dM (itL (aj 0)) (gN 5) [5,6,7] (dM (itL (aJ f9 [(aj 2),(aj 4),(aj 5),(aj 1)])) (gT [(gN 6),(gN 7)]) [6,7] (rM 3 jq [(aj 3),(aj 6),(aj 7)]))))))) (oh 1000000 (ak gtD (eFn iK [(aj 3)]) (eC (.int 0))) [4,5,6,7] (aG (aN 4 (pg 3))
 (aG (jY 2 3 4)
 (aG (sEx (aJ bx [(eFn iK [(aj 2)]),(aj 0)]))
 (dM (itL (aj 0)) (gN 5) [5,6,7] (dM (itL (aJ f9 [(aj 2),(aj 4),(aj 5),(aj 1)])) (gT [(gN 6),(gN 7)]) [6,7] (rM 3 jq [(aj 3),(aj 6),(aj 7)])))))) (cF (aN 4 (pg 3)) zNo (cF (jY 2 3 4) zNo (cF (sEx (aJ bx [(eFn iK [(aj 2)]),(aj 0)])) (gV dC [(eFn iK [(aj 2)]),(aj 0)]) zNo)))) zNo)))
noncomputable def wW:B5->Co Str:=fnZ 3 (cF (aN 2 (aJ cX [(aj 0),(aj 1)])) (gV nM [(aj 0),(aj 1)]) zNo)
noncomputable def fj:B5->Co Str:=fnZ 3 (cF (aN 2 (aJ cX [(aj 0),(ak CF (aj 1) (eC (.int 0)))])) (gV nM [(aj 0),(ak CF (aj 1) (eC (.int 0)))]) (cF (sIf (ak gk (ak CF (aj 1) (eC (.int 1))) (aj 2)) jP cR) (zIf (ak gk (ak CF (aj 1) (eC (.int 1))) (aj 2)) (cF jP (su "NotMade") zNo) zNo) (cF (sIf (ak gtD (ak CF (ak ixY (aj 2) (ak CF (aj 1) (eC (.int 1)))) (eC (.int 0))) (eC (.int 300))) jP cR) (zIf (ak gtD (ak CF (ak ixY (aj 2) (ak CF (aj 1) (eC (.int 1)))) (eC (.int 0))) (eC (.int 300))) (cF jP (su "TooBig") zNo) zNo) zNo)))
noncomputable def gH:B5->Co Str:=fnZ 2 (cF (bD (ak CF (aJ ig [(bF [(aJ dH [(aj 1)]),(eFn jM [(aJ cP [(aj 1)])])]),(aj 0)]) (eC (.int 1)))) (gV yR [(bF [(aJ dH [(aj 1)]),(eFn jM [(aJ cP [(aj 1)])])]),(aj 0)]) zNo)
noncomputable def b7:B5->Co af:=fnR 2 (aG (sIf (ak ltD (aj 1) (eFn cQ [(aj 0)])) (bD (ak CF (aj 0) (aj 1))) cR)
 (bD (eC (.int 0))))
noncomputable def nW:B5->Co af:=fnR 6 (aG (aN 1 (aJ b7 [(aj 0),(eC (.int 0))]))
 (aG (aN 2 (bI [(bI [(bF [(eC (.int 2)),(eC (.int 8))]),(bF [(eC (.int 2)),(eC (.int 14))]),(bF [(eC (.int 0)),(eC (.int 0))]),(bF [(eC (.int 3)),(eC (.int 232))]),(bF [(eC (.int 0)),(eC (.int 1))]),(bF [(eC (.int 2)),(eC (.int 8))])]),(bI [(bF [(eC (.int 2)),(eC (.int 6))]),(bF [(eC (.int 1)),(eC (.int 1))]),(bF [(eC (.int 0)),(eC (.int 1))]),(bF [(eC (.int 2)),(eC (.int 9))]),(bF [(eC (.int 3)),(eC (.int 150))]),(bF [(eC (.int 0)),(eC (.int 0))])])]))
 (aG (lY 2 (bI [(bF [(eC (.int 2)),(eC (.int 7))]),(bF [(eC (.int 2)),(eC (.int 1))]),(bF [(eC (.int 0)),(eC (.int 0))]),(bF [(eC (.int 1)),(eC (.int 1))]),(bF [(eC (.int 3)),(eC (.int 202))]),(bF [(eC (.int 2)),(eC (.int 13))])]))
 (aG (aN 3 (bI []))
 (aG (dM (lL (ak qF (ak zJ (aj 1) (eC (.int 3))) (eC (.int 4)))) (gN 4) [4,5] (aG (aN 5 (ak CF (ak CF (aj 2) (ak qF (aj 1) (eC (.int 3)))) (ak qF (aJ b7 [(aj 0),(ak cj (eC (.int 1)) (aj 4))]) (eC (.int 6)))))
 (aG (sIf (mY (ak eqD (ak CF (aj 5) (eC (.int 0))) (eC (.int 3))) (ak neD (bU (itL (aj 3)) (gN 0) (ak gtD (ak CF (aj 0) (eC (.int 0))) (eC (.int 1))) (aj 0) 1 []) (bI []))) (aN 5 (bF [(eC (.int 0)),(eC (.int 0))])) cR)
 (aG (sIf (mY (ak eqD (ak CF (aj 5) (eC (.int 0))) (eC (.int 2))) (ak neD (bU (itL (aj 3)) (gN 0) (ak eqD (ak CF (aj 0) (eC (.int 0))) (eC (.int 3))) (aj 0) 1 []) (bI []))) (aN 5 (bF [(eC (.int 0)),(eC (.int 0))])) cR)
 (lY 3 (aj 5))))))
 (bD (aj 3)))))))
noncomputable def lG:B5->Co af:=fnR 7 (aG (aN 3 (eC (.int 0)))
 (aG (dM (lL (ak CF (bI [(eC (.int 1)),(eC (.int 2)),(eC (.int 4)),(eC (.int 8))]) (ak CF (aj 0) (eC (.int 0))))) (gN 4) [4,5,6] (aG (aN 5 (aj 2))
 (aG (dM (lL (ak CF (aj 0) (eC (.int 0)))) (gN 6) [6] (sIf (ak eqD (ak uY (ak Fd (aj 4) (aj 6)) (eC (.int 1))) (eC (.int 1))) (aN 5 (ak uY (aj 5) (ak CF (aj 1) (aj 6)))) (aN 5 (ak uY (aj 5) (ak RG (aj 2) (ak CF (aj 1) (aj 6)))))))
 (sIf (ak eqD (ak uY (ak Fd (ak CF (aj 0) (eC (.int 1))) (aj 4)) (eC (.int 1))) (eC (.int 1))) (aN 3 (ak orD (aj 3) (aj 5))) cR))))
 (bD (aj 3))))
noncomputable def jU:B5->Co af:=fnR 10 (aG (aN 3 (ak CF (bI [(bI []),(bI [(eC (.int 2))]),(bI [(eC (.int 10)),(eC (.int 12))]),(bI [(eC (.int 170)),(eC (.int 204)),(eC (.int 240))])]) (aj 1)))
 (aG (aN 4 (eC (.int 0)))
 (aG (aN 5 (bI []))
 (aG (aN 6 (bI [(bF [(aj 2),(eC (.bool false))])]))
 (aG (dO 1000000 (ak Fz (aj 6) (bI [])) [7,8,9] (aG (xR 6 (gT [(gN 7),(gN 8)]))
 (sIf (vR "int" (aj 7)) (aG (sIf (uT (qm leD ltD (eC (.int 0)) (aj 7) (aj 1))) (bD (eC .none)) cR)
 (lY 5 (ak CF (aj 3) (aj 7)))) (sIf (eUn Fj (aj 8)) (aG (aN 9 (ak qG (eFn cQ [(aj 5)]) (ak CF (ak CF (aj 7) (eC (.int 0))) (eC (.int 0)))))
 (aN 5 (ak Fo (eSl (aj 5) nH (nG (aj 9))) (bI [(aJ lG [(ak CF (aj 7) (eC (.int 0))),(eSl (aj 5) (nG (aj 9)) nH),(ak CF (bI [(eC (.int 1)),(eC (.int 3)),(eC (.int 15)),(eC (.int 255))]) (aj 1))])])))) (aG (sIf (eOr (uT (vR "tuple" (aj 7))) (eOr (ak gk (ak CF (aj 7) (eC (.int 0))) (aj 0)) (eOr (ak neD (eFn cQ [(ak CF (aj 7) (eC (.int 1)))]) (ak CF (ak CF (aj 7) (eC (.int 0))) (eC (.int 0)))) (ak gtD (aj 4) (eC (.int 300)))))) (bD (eC .none)) cR)
 (aG (aN 4 (ak cj (aj 4) (eC (.int 1))))
 (aG (lY 6 (bF [(aj 7),(eC (.bool true))]))
 (vN 6 (bU (Ls (ak CF (aj 7) (eC (.int 1)))) (gN 0) (eC (.bool true)) (bF [(aj 0),(eC (.bool false))]) 1 [])))))))))
 (bD (bF [(ak CF (aj 5) (eC (.int 0))),(aj 4)])))))))
noncomputable def iC:B5->Co af:=fnR 3 (aG (aN 2 (eC .none))
 (aG (qK (aN 2 (aJ du [(aj 0),(aj 1)])) (gV gH [(aj 0),(aj 1)]) (hsL [("TooMany",(aN 2 (eC .none)))]))
 (bD (aj 2))))
noncomputable def jr:B5->Co af:=fnR 3 (aG (aN 2 (eC .none))
 (aG (qK (aN 2 (aJ mQ [(aj 0),(aj 1)])) (gV wW [(aj 0),(aj 1)]) (hsL [("TooMany",(aN 2 (eC .none)))]))
 (bD (aj 2))))
noncomputable def eE:B5->Co af:=fnR 3 (aG (aN 2 (bF [(eC (.str "none")),(eC .none)]))
 (aG (qK (aN 2 (bF [(eC (.str "told")),(aJ dh [(aj 0),(aj 1)])])) (gV fj [(aj 0),(aj 1)]) (hsL [("NotMade",(aN 2 (bF [(eC (.str "none")),(eC .none)]))),("TooBig",(aN 2 (bF [(eC (.str "big")),(eC .none)]))),("TooMany",(aN 2 (bF [(eC (.str "many")),(eC .none)])))]))
 (bD (aj 2))))
noncomputable def fc:B5->Co af:=fnR 8 (aG (aN 4 (ak qF (aj 3) (eFn cQ [(aj 2)])))
 (aG (K3 (gT [(gN 5),(gN 6)]) (ak CF (aj 2) (aj 4)))
 (aG (aN 7 (ak CF (bI [(bI []),(bI [(bF [(aj 5),(ak cj (aj 6) (eC (.int 1)))])])]) (ak qF (ak zJ (aj 3) (eC (.int 64))) (eC (.int 2)))))
 (bD (aJ jV [(aj 0),(aj 1),(ak cj (ak cj (eSl (aj 2) nH (nG (aj 4))) (aj 7)) (eSl (aj 2) (nG (ak cj (aj 4) (eC (.int 1)))) nH))])))))
noncomputable def uH:B5->Co af:=fnR 9 (aG (aN 1 (aJ nW [(aj 0)]))
 (aG (aN 2 (ak CF (bI [(eC (.int 3)),(eC (.int 0)),(eC (.int 3)),(eC (.int 3))]) (ak qF (aJ b7 [(aj 0),(eC (.int 4))]) (eC (.int 4)))))
 (aG (aN 3 (bF [(aj 2),(ak qF (ak zJ (aJ b7 [(aj 0),(eC (.int 4))]) (eC (.int 4))) (ak CF (bI [(eC (.int 2)),(eC (.int 0)),(eC (.int 0)),(eC (.int 256))]) (aj 2)))]))
 (aG (aN 4 (aJ iC [(aj 1),(aj 2)]))
 (aG (aN 5 (aJ jr [(aj 1),(aj 2)]))
 (aG (K3 (gT [(gN 6),(gN 7)]) (aJ eE [(aj 1),(aj 3)]))
 (aG (sIf (ak rF (aj 4) (eC .none)) (bD (mY (ak rF (aj 5) (eC .none)) (ak eqD (aj 6) (eC (.str "many"))))) cR)
 (aG (sIf (eOr (ak rF (aj 5) (eC .none)) (ak neD (bU (itL (aj 5)) (gN 0) (eC (.bool true)) (ak CF (aj 0) (eC (.int 0))) 1 []) (eFn uF [(aj 4)]))) (bD (eC (.bool false))) cR)
 (aG (sIf (mY (ak ltD (eFn cQ [(aj 5)]) (eC (.int 60))) (ak uG (aJ jV [(aj 1),(aj 2),(aj 5)]) (eC (.bool true)))) (bD (eC (.bool false))) cR)
 (aG (sIf (mY (qm ltD ltD (eC (.int 0)) (eFn cQ [(aj 5)]) (eC (.int 60))) (ak uG (aJ fc [(aj 1),(aj 2),(aj 5),(aJ b7 [(aj 0),(eC (.int 5))])]) (eC (.bool false)))) (bD (eC (.bool false))) cR)
 (aG (sIf (ak uG (aJ jV [(bI [(bF [(eC (.int 2)),(eC (.int 8))])]),(eC (.int 3)),(bI [(bF [(eC (.int 170)),(eC (.int 0))]),(bF [(eC (.int 204)),(eC (.int 0))]),(bF [(eC (.int 240)),(eC (.int 0))])])]) (eC (.bool false))) (bD (eC (.bool false))) cR)
 (aG (sIf (ak gk (ak CF (aj 3) (eC (.int 1))) (aj 4)) (bD (ak eqD (aj 6) (eC (.str "none")))) cR)
 (aG (aN 8 (ak CF (ak CF (aj 5) (ak Hr (bU (itL (aj 5)) (gN 0) (eC (.bool true)) (ak CF (aj 0) (eC (.int 0))) 1 []) (ak CF (aj 3) (eC (.int 1))))) (eC (.int 1))))
 (aG (sIf (ak gtD (aj 8) (eC (.int 300))) (bD (ak eqD (aj 6) (eC (.str "big")))) cR)
 (bD (mY (ak eqD (aj 6) (eC (.str "told"))) (ak eqD (aJ jU [(aj 1),(aj 2),(aj 7)]) (bF [(ak CF (aj 3) (eC (.int 1))),(aj 8)]))))))))))))))))))
noncomputable def cell(ns:B4)(k:Nat):Int:=ns.getD k 0
theorem z6{k:Nat}:b7 [dL ns,.int (k:Nat)]= .ok (.int (cell ns k)):=by
 unfold b7 dL;ext;rw[Z5]
 by_cases h:k<ns.length
 . rw[if_pos (by simp;lia),dB (by rw[a9,aI h];rfl)];ext;rw[cell,ay,aI h];rfl
 . rw[if_neg (by simp;lia)];ext;rw[cell,ay,dr (by lia)];rfl
variable {m1:MS}{z1 z2:MZ}
theorem iH{Γ':Ev}(h:m1 Γ = .ok (.nx Γ')):cF m1 z1 z2 Γ=z2 Γ':=by rw[cF,h]
theorem lz(h:m1 Γ = .bad):cF m1 z1 z2 Γ=z1 Γ:=by rw[cF,h]
theorem ach{c:ME}(h:c Γ = .ok (.bool true)):zIf c z1 z2 Γ=z1 Γ:=by rw[zIf,h];rfl
theorem acq{c:ME}{b:MS}(h:c Γ = .ok (.bool true)):sIf c m1 b Γ=m1 Γ:=by rw[xm,h];rfl
theorem HF{c:ME}{x:Str}(h:c Γ = .ok (.bool true)):cF (sIf c jP cR) (zIf c (cF jP (su x) zNo) zNo) z1 Γ = .ok x:=by
 rw[lz (acq h),ach h];rfl
theorem gW{U:B5->Co Str}{T:Str}(h:evs ms Γ = .ok ds)(hz:U ds= .ok T):gV U ms Γ = .ok T:=by
 rw[gV,h,Co.aP,hz]
theorem XQ{f:B5->Co af}(h:evs ms Γ = .ok ds)(U:f ds= .bad):aJ f ms Γ = .bad:=by
 rw[gb,h,Co.aP,U]
variable {h:Nat×Int}
theorem abn:fw (CI g) (CI h)=decide (g=h):=by
 refine vT.mpr ((qN _ _ ur ur).trans ⟨λz=>decide_eq_true ?_,λz=>by rw[of_decide_eq_true z]⟩);have z:=z;injection z with z;injection z with U z2;injection z2 with z2 _;injection U with U;injection z2 with z2;exact Prod.ext (Int.ofNat.inj U) z2
theorem CK:ee (CI g)=true:=gO ur SQ
theorem abj(gs:A8):inB (CI h) (gs.map CI)=decide (h∈gs):=by
 unfold inB
 induction gs with
 | nil=>rfl
 | cons g gs U=>
  rw[b9,j1,U,abn]
  by_cases e:g=h
  . subst e;rw[decide_eq_true rfl,decide_eq_true a7];rfl
  . rw[decide_eq_false e,y6];exact decide_eq_decide.mpr ⟨a6 _,λz=>(bq.mp z).resolve_left λq=>e q.symm⟩
theorem abm(gs:A8):(gs.map CI).all ee=true:=by
 rw[hZ];intro d hd;obtain ⟨x,_,rfl⟩:=bt.mp hd;exact CK
theorem Ui:gk (CI h) (.list (gs.map CI))= .ok (.bool (!decide (h∈gs))):=by
 show gd (ee (CI h)=true/\(gs.map CI).all ee=true) (Co.ok (af.bool (!inB (CI h) (gs.map CI))))=_;rw[bH ⟨CK,abm gs⟩,abj]
theorem Ia(gs:A8):plain (.list (gs.map CI))=true:=by
 rw[Zq.plain];exact Cw λd hd=>by obtain ⟨g,_,rfl⟩:=bt.mp hd;exact ur
theorem Su{k:Nat}(h:∀d∈ds,d.depth<=k)(hk:k<=8):(af.list ds).depth<=64:=by
 have h1:=Cv h;have h2:(af.tuple ds).depth=fA ds+1:=by rw[af.depth]
 have U:(af.list ds).depth=fA ds+1:=by rw[af.depth]
 lia
theorem GQ(gs:A8):(af.list (gs.map CI)).depth<=64:=Su (λd hd=>by obtain ⟨g,_,rfl⟩:=bt.mp hd;exact QJ) (by decide)
def YN(r:Co af):Prop:=∃t,r= .ok (.bool t)
theorem ZQ{a b:ME}(h1:YN (a Γ))(h2:YN (b Γ)):YN (mY a b Γ):=by
 obtain ⟨t,U⟩:=h1;rw[Hv,U,Co.aP]
 cases t with
 | true=>exact h2
 | false=>exact ⟨false,rfl⟩
variable {P:Ev->Prop}
theorem YG{c:ME}{b:MS}(Y:YN (c Γ))(ha:Goes (m1 Γ) P)(U:Goes (b Γ) P):Goes (sIf c m1 b Γ) P:=by
 obtain ⟨t,e⟩:=Y;rw[xm,e,Co.aP]
 cases t with
 | true=>exact ha
 | false=>exact U
theorem yH{b:MS}{Q:Ev->Prop}(h:Goes (m1 Γ) P)(k:∀Γ',P Γ'->Goes (b Γ') Q):Goes (aG m1 b Γ) Q:=by
 obtain ⟨Γ',e,p⟩:=h;rw[bW,e];exact k Γ' p
theorem ab7(U:m<=3):CF (.list [.int 1,.int 2,.int 4,.int 8]) (.int (m:Nat))= .ok (.int ((2^m:Nat):Int)):=by
 rcases (by lia:m=0\/m=1\/m=2\/m=3) with rfl | rfl | rfl | rfl <;> exact dB rfl
theorem acn(Z:m<=3)(Y:ts.length=m):lG [dG m b,dL ts,.int (2^W - 1)]= .ok (.int (jO b ts W)):=by
 have U:2^m<=16:=qU (by lia);unfold lG;ext;rw[ab7 Z];ext;rw[iV (by lia)];ext;refine cJ (λi=>[some (dG m b),some (dL ts),some (.int (2^W - 1)),some (.int (tab W λr=>b01 (j5 ts b m r i))),none,none,none]) ?_ (λi x hx=>?_) ?_
 . rw[show (λr=>b01 (j5 ts b m r 0))=λ_=>(0:Int) from rfl,q9,Int.mul_zero]
 . obtain ⟨hi,rfl⟩:=mX hx;ext;rw[iV (show m<2^62 by lia)];ext;refine cJ (λk=>[some (dG m b),some (dL ts),some (.int (2^W - 1)),some (.int (tab W λr=>b01 (j5 ts b m r i))),some (.int i),some (.int (tab W λr=>b01 (j6 ts i r k))),none]) ?_ (λk x hx=>?_) ?_
   . rw[show (λr=>b01 (j6 ts i r 0))=λ_=>(1:Int) from rfl,q9,Int.mul_one]
   . obtain ⟨hk,rfl⟩:=mX hx;walk_at "go";rw[tz,show ((i:Nat):Int) / 2^((k:Nat):Int).toNat % 2=bw (i:Nat) (k:Nat) from rfl,Yd (by lia)];rcases fL i k with h | h
     . rw[h];ext;rw[show RG (.int (2^W - 1)) (.int (ts.getD k 0))= .ok (.int (lI (2^W - 1) (ts.getD k 0))) from rfl];ext;rw[Rw h]
     . rw[h];ext;rw[Sx h]
   . rw[iY];walk_at "go";rw[tz,show b / 2^((i:Nat):Int).toNat % 2=bw b (i:Nat) from rfl];rcases fL b i with h | h
     . rw[h];ext;rw[show (λr=>b01 (j5 ts b m r (i+1)))=λr=>b01 (j5 ts b m r i) from funext λr=>by rw[Vp h]]
     . rw[h];ext;rw[Ww h]
 . rw[iY];ext;congr 2;exact lF λr _=>Xa Y
theorem HR{n:Nat}(h:bN n gs)(Y:gs.length<=8)(U:∀g∈gs,g.1<=4):dC [.int (n:Nat),.list (gs.map CI)]= .ok "TooMany" := by
 exact HF (JP h (by lia) U)
theorem Dd{n:Nat}(s:n<=3)(U:gs.length<=8)(Z:∀g∈gs,g.1<=4) :
 (∃L:B4,du [.list (gs.map CI),.int (n:Nat)]= .ok (dR (srt L))/\L.Nodup/\(∀x,x∈L↔Reach gs (2^n) ((c8 n).map λj=>fJ n j) x)/\L.length<=300/\(L=[]\/¬ bN L.length gs)) \/
 (du [.list (gs.map CI),.int (n:Nat)]= .bad/\gH [.list (gs.map CI),.int (n:Nat)]= .ok "TooMany" /\ ∃l:B4,l.Nodup/\(∀x∈l,Reach gs (2^n) ((c8 n).map λj=>fJ n j) x)/\bN l.length gs):=by
 have v:2^n<=2^3:=iX (by decide) s;have Y:∀r∈(c8 n).map λj=>fJ n j,0<=r/\r<2^2^n:=λr q=>by
  obtain ⟨j,_,rfl⟩:=bt.mp q;exact ⟨vA n j,Ho n j⟩
 have e:evs [(bF [(aJ dH [(aj 1)]),(eFn jM [(aJ cP [(aj 1)])])]),(aj 0)] [some (.list (gs.map CI)),some (.int (n:Nat))]= .ok [.tuple [.int ((2^n:Nat):Int),dR ((c8 n).map λj=>fJ n j)],.list (gs.map CI)]:=by
  ext;rw[nJ (by lia),mU (by lia)];ext;rw[Int.natCast_pow];rfl
 rcases IK (by lia) U Z Y (by rw[ai,df];lia) with ⟨L,h1,h2⟩ | ⟨h1,h2,u,p⟩
 . left;refine ⟨L,?_,h2⟩;rw[du,BW];show Co.bind (bD (ak CF (aJ ig _) (eC (.int 1))) [some (.list (gs.map CI)),some (.int (n:Nat))]) fin=_;rw[yP,uL,gb,e,Co.aP,h1];ext
 . right;have o:=XQ e h1;have i:bD (ak CF (aJ ig [(bF [(aJ dH [(aj 1)]),(eFn jM [(aJ cP [(aj 1)])])]),(aj 0)]) (eC (.int 1))) [some (.list (gs.map CI)),some (.int (n:Nat))]= .bad:=by
    rw[yP,uL,o];rfl
   refine ⟨?_,?_,p⟩
   . rw[du,BW];show Co.bind (bD _ [some (.list (gs.map CI)),some (.int (n:Nat))]) fin=_;rw[i];rfl
   . unfold gH fnZ;show cF _ _ _ [some (.list (gs.map CI)),some (.int (n:Nat))]=_;rw[lz i];refine gW e ?_;unfold yR fnZ;show cF _ _ _ [some (.tuple [.int ((2^n:Nat):Int),dR ((c8 n).map λj=>fJ n j)]),some (.list (gs.map CI)),none,none,none,none,none]=_;rw[iH ce1,iH (ce2 U (by lia)),iH ce3,iH (ce4 U (by rw[ai,df];lia))];show cF (dO 1000000 cCn [6] cBd) (oh 1000000 cCn [6] cBd (cF cRf (gV dC [(ak cj (eFn cQ [(aj 4)]) (eFn cQ [(aj 5)])),(aj 1)]) zNo)) zNo (cG _ gs (2^n) (dL (fX gs (2^n))) [] (m7 gs (2^n) _))=_;rw[lz h2];refine u _ _ λold fresh m=>?_;rw[lz (Pq m U Z)];exact gW Lr (HR m U Z)
theorem BK{c:ME}{cl:B6}{b:MS}{f:Nat}{Γ2 Γ':Ev}(Z:c Γ = .ok (.bool true))(Y:b Γ = .ok (.nx Γ2))(U:clr cl Γ2=Γ'):whR c cl b (f+1) Γ=whR c cl b f Γ':=by
 rw[whR,Z,Y];show whR c cl b f (clr cl Γ2)=_;rw[U]
theorem aah{c:ME}{cl:B6}{b:MS}{f:Nat}(U:c Γ = .ok (.bool false)):whR c cl b (f+1) Γ = .ok (.nx Γ):=by
 rw[whR,U];rfl
theorem yF{g:MG}(U:gv Γ i=some (.list (ds++[d])))(hi:i < Γ.length):xR i g Γ=(g d (Γ.set i (some (.list ds)))).bind λΓ'=>.ok (.nx Γ'):=by
 rw[xR,U];show (match (ds++[d])[(ds++[d]).length - 1]? with
  | some Y=>gd (i < Γ.length) ((g Y (Γ.set i (some (.list ((ds++[d]).take ((ds++[d]).length - 1)))))).bind λΓ'=>Co.ok (Out.nx Γ'))
  | none=>.bad)=_
 have e:(ds++[d]).length - 1=ds.length:=by rw[aw,d5];lia
 rw[e,c9 (ax _),tJ,List.take_left];exact bH hi
variable {hs:Str->MS}
theorem yG{o:Out}(h:m1 Γ = .ok o):qK m1 z1 hs Γ = .ok o:=by rw[qK,h]
theorem pG{c:Str}(h:m1 Γ = .bad)(hz:z1 Γ = .ok c):qK m1 z1 hs Γ=hs c Γ:=by rw[qK,h,hz];rfl
theorem zQ{a:Str}(h:(ee (.str a)&&fw (.str a) (.str a))=true):eqD (.str a) (.str a)= .ok (.bool true):=by
 rw[cp] at h;rw[eqD,bH ⟨h.1,h.1⟩,h.2]
section
variable  {n:Nat}  {t:Int}
theorem aa1(h:cX [.list (gs.map CI),.int (n:Nat)]= .ok (.dict (CM L)))(Y:t∉aD L):fj [.list (gs.map CI),.tuple [.int (n:Nat),.int t]]= .ok "NotMade" := by
 have U:lk t L=none:=by
  cases e:lk t L with
  | none=>rfl
  | some w=>exact absurd (gG.mp (by rw[e];rfl)) Y
 unfold fj;show cF _ _ _ [some (.list (gs.map CI)),some (.tuple [.int (n:Nat),.int t]),none]=_;rw[iH (Γ':=[some (.list (gs.map CI)),some (.tuple [.int (n:Nat),.int t]),some (.dict (CM L))]) (by ext;rw[h];ext)];exact HF (by ext;rw[mV,U];rfl)
theorem ab4(h:cX [.list (gs.map CI),.int (n:Nat)]= .ok (.dict (CM L)))(Y:t∈aD L)(e:300<bQ L t):fj [.list (gs.map CI),.tuple [.int (n:Nat),.int t]]= .ok "TooBig" := by
 obtain ⟨w,U⟩:=eP.mp (gG.mpr (Y));have Z:bQ L t=w.c:=by rw[bQ,U];rfl
 unfold fj;show cF _ _ _ [some (.list (gs.map CI)),some (.tuple [.int (n:Nat),.int t]),none]=_;rw[iH (Γ':=[some (.list (gs.map CI)),some (.tuple [.int (n:Nat),.int t]),some (.dict (CM L))]) (by ext;rw[h];ext),iH (by ext;rw[mV,U];ext;rfl)];refine HF ?_;ext;rw[xM U];ext;rw[tV];ext;rw[decide_eq_true (by lia)]
end
theorem w_or{n:Nat}(i:n<=4)(Y:gs.length<=8)(Z:∀g∈gs,g.1<=4)(nd:(bz n).Nodup) :
 (∃L,cX [.list (gs.map CI),.int (n:Nat)]= .ok (.dict (CM L))/\dq gs n L []/\mj n L []/\(L=[]\/¬ bN L.length gs)) \/
 (cX [.list (gs.map CI),.int (n:Nat)]= .bad/\nM [.list (gs.map CI),.int (n:Nat)]= .ok "TooMany" /\ ∃fs ws,dq gs n fs ws/\bN fs.length gs):=by
 rcases Ld (mj n) (λfs ws t w j I e h=>j.step I e h nd) (IV nd) i Y Z with h | ⟨h1,h2,r,q⟩
 . exact .inl h
 . refine .inr ⟨h1,?_,q⟩;unfold nM fnZ;rw[iH (Γ':=[some (.list (gs.map CI)),some (.int (n:Nat)),some (.dict (CM [])),none,none,none,none,none]) rfl,iH (by
    rw[uJ,gb,show evs [(aj 0),(aj 1)] [some (.list (gs.map CI)),some (.int (n:Nat)),some (.dict (CM [])),none,none,none,none,none]= .ok [.list (gs.map CI),.int (n:Nat)] from rfl,Co.aP,vV i (by lia)];rfl)]
   show cF (dO 1000000 wCn [4,5,6,7] wBd) (oh 1000000 wCn [4,5,6,7] wBd (cF (aN 4 (pg 3)) zNo (cF (jY 2 3 4) zNo (cF (sEx (aJ bx [(eFn iK [(aj 2)]),(aj 0)])) (gV dC [(eFn iK [(aj 2)]),(aj 0)]) zNo)))) zNo (wG gs n [] (lM gs n))=_;rw[lz h2];refine r _ _ λfs ws t w I e h p=>?_;have l:=I.len i;obtain ⟨s,m,o⟩:=Ua e I h (by lia);have U:bN (fs++[(t,w)]).length gs:=by rw[aw];exact p
   rw[iH m,iH o];show cF wRf (gV dC [(eFn iK [(aj 2)]),(aj 0)]) zNo _=_;rw[lz (Pg U Y Z)];exact gW yD (HR U Y Z)
structure GOk (g:Nat×Int):Prop where
 m3:g.1<=3
 b0:0<=g.2
 b1:g.2<2^2^g.1
noncomputable def uv:List A8:=[[(2,8),(2,14),(0,0),(3,232),(0,1),(2,8)],[(2,6),(1,1),(0,1),(2,9),(3,150),(0,0)],[(2,7),(2,1),(0,0),(1,1),(3,202),(2,13)]]
theorem RK:∀gs∈uv,gs.length=6/\∀g∈gs,g.1<=3/\0<=g.2/\g.2<2^2^g.1:=by decide +kernel
theorem Xm(hs:A8):∃b,neD (.list (hs.map CI)) (.list [])= .ok (.bool b):=by
 rw[neD,bH ⟨gO (Ia hs) (GQ hs),gO (Ia []) (GQ [])⟩];exact ⟨_,rfl⟩
theorem abO(ns:B4):∃gs:A8,nW [dL ns]= .ok (.list (gs.map CI))/\gs.length<=3/\∀g∈gs,GOk g:=by
 suffices z:Gives (nW [dL ns]) λd=>∃gs:A8,d= .list (gs.map CI)/\gs.length<=3/\∀g∈gs,GOk g by
  obtain ⟨d,e,gs,rfl,h⟩:=z;exact ⟨gs,e,h⟩
 obtain ⟨q,I,Q⟩:=Bp (cell ns 0 / 3) (m:=4) (by decide);obtain ⟨p,ep,R⟩:=Bp (cell ns 0) (m:=3) (by decide);have j:=by show p<3;lia
 have J:=RK uv[p] (i5 j);unfold nW;ext;rw[show b7 [dL ns,.int 0]= .ok (.int (cell ns 0)) from z6];walk_at "go";generalize l:af.list (_::_::_::[])=D;have l:D= .list (uv.map λgs=>af.list (gs.map CI)):=l.symm.trans rfl;subst l;rw[I,iV (by lia)];ext;generalize l:af.list (uv.map λgs=>af.list (gs.map CI))=D;refine zO (λi Y=>∃gs:A8,Y=[some (dL ns),some (.int (cell ns 0)),some D,some (.list (gs.map CI)),none,none]/\gs.length=i/\∀g∈gs,GOk g) ⟨[],rfl,rfl,λg U=>nomatch U⟩ (λi x Y hx s=>?_) λY s=>?_
 . obtain ⟨gs,rfl,r,Z⟩:=s;obtain ⟨hi,rfl⟩:=mX hx;obtain ⟨u,L,hu⟩:=Bp (cell ns (1+i)) (m:=6) (by decide);have o:u<uv[p].length:=by lia
   have C:=J.2 uv[p][u] (i5 o);have B:GOk (0,0):=⟨by decide,by decide,by decide⟩
   suffices z:Goes (aG (aN 5 (ak CF (ak CF (aj 2) (ak qF (aj 1) (eC (.int 3)))) (ak qF (aJ b7 [(aj 0),(ak cj (eC (.int 1)) (aj 4))]) (eC (.int 6)))))
   (aG (sIf (mY (ak eqD (ak CF (aj 5) (eC (.int 0))) (eC (.int 3))) (ak neD (bU (itL (aj 3)) (gN 0) (ak gtD (ak CF (aj 0) (eC (.int 0))) (eC (.int 1))) (aj 0) 1 []) (bI []))) (aN 5 (bF [(eC (.int 0)),(eC (.int 0))])) cR)
   (aG (sIf (mY (ak eqD (ak CF (aj 5) (eC (.int 0))) (eC (.int 2))) (ak neD (bU (itL (aj 3)) (gN 0) (ak eqD (ak CF (aj 0) (eC (.int 0))) (eC (.int 3))) (aj 0) 1 []) (bI []))) (aN 5 (bF [(eC (.int 0)),(eC (.int 0))])) cR)
   (lY 3 (aj 5)))) [some (dL ns),some (.int (cell ns 0)),some D,some (.list (gs.map CI)),some (.int i),none]) λY=>∃g,GOk g/\Y=[some (dL ns),some (.int (cell ns 0)),some D,some (.list ((gs++[g]).map CI)),some (.int i),some (CI g)] by
    obtain ⟨Y,e,g,U,rfl⟩:=z;rw[show gN 4 (.int (i:Nat)) [some (dL ns),some (.int (cell ns 0)),some D,some (.list (gs.map CI)),none,none]= .ok [some (dL ns),some (.int (cell ns 0)),some D,some (.list (gs.map CI)),some (.int (i:Nat)),none] from rfl,Co.aP,e];refine ⟨_,rfl,gs++[g],rfl,by rw[aw,d5,r],λM v=>?_⟩;rcases de.mp v with z | z
    . exact Z M z
    . rw[aS.mp z];exact U
   have E:∀(c:ME) (f:Nat×Int->Bool) (y:Option af),(∀g:Nat×Int,c [some (CI g)]= .ok (.bool (f g)))->∃b,ak neD (bU (itL (aj 3)) (gN 0) c (aj 0) 1 []) (bI []) [some (dL ns),some (.int (cell ns 0)),some D,some (.list (gs.map CI)),some (.int (i:Nat)),y]= .ok (.bool b):=λc f y H=>by
    obtain ⟨b,O⟩:=Xm (gs.filter f);refine ⟨b,?_⟩;rw[uL,o7 CI f CI rfl (CS (by lia)) (λg _=>?_) λg _ _=>?_]
    . exact O
    . exact H g
    . rfl
   refine yH (P:=λY=>∃g,GOk g/\Y=[some (dL ns),some (.int (cell ns 0)),some D,some (.list (gs.map CI)),some (.int (i:Nat)),some (CI g)]) ⟨_,?_,uv[p][u],⟨C.1,C.2.1,C.2.2⟩,rfl⟩ ?_
   . ext;rw[ep,<- l,dB (by rw[a9,aI j];rfl)];ext;rw[show 1+i=((1+i:Nat):Int) by lia,z6];ext;rw[L,dB (by rw[a9,aI o];rfl)];ext
   . rintro _ ⟨g,U,rfl⟩;have two:∀(k:Int) (c:ME) (f:Nat×Int->Bool),(∀g:Nat×Int,c [some (CI g)]= .ok (.bool (f g)))->∀g:Nat×Int,GOk g->Goes (sIf (mY (ak eqD (ak CF (aj 5) (eC (.int 0))) (eC (.int k))) (ak neD (bU (itL (aj 3)) (gN 0) c (aj 0) 1 []) (bI []))) (aN 5 (bF [(eC (.int 0)),(eC (.int 0))])) cR [some (dL ns),some (.int (cell ns 0)),some D,some (.list (gs.map CI)),some (.int (i:Nat)),some (CI g)]) λY=>∃g,GOk g/\Y=[some (dL ns),some (.int (cell ns 0)),some D,some (.list (gs.map CI)),some (.int (i:Nat)),some (CI g)]:=λk c f H g U=>by
      refine YG (ZQ ⟨decide ((g.1:Int)=k),?_⟩ (E c f _ H)) ⟨_,rfl,(0,0),B,rfl⟩ ⟨_,rfl,g,U,rfl⟩;ext
     refine yH (two 3 _ (λg=>decide ((1:Int)<g.1)) (λg=>by ext) g U) ?_;rintro _ ⟨g,U,rfl⟩;refine yH (two 2 _ (λg=>decide ((g.1:Int)=3)) (λg=>by ext) g U) ?_;rintro _ ⟨g,U,rfl⟩;refine ⟨_,?_,g,U,rfl⟩;ext;rw[bH (CS (by lia)),ck];rfl
 . obtain ⟨gs,rfl,r,Z⟩:=s;rw[iY] at r;ext;exact ⟨gs,rfl,by lia,Z⟩
theorem abr{n:Nat}(U:n<=3):(bz n).Nodup/\(bz n).length<=3:=by
 rcases (by lia:n=0\/n=1\/n=2\/n=3) with rfl | rfl | rfl | rfl <;> decide +kernel
theorem dq.reach{n:Nat}(I:dq gs n L ws):∀i,i<=L.length->∀t∈aD (L.take i),Reach gs (2^n) (bz n) t
 | 0,_,t,U=>nomatch U
 | i+1,hi,t,U=>by
  have Y:=aI hi;rw[take_snoc Y] at U;unfold aD at U;rw[ck] at U;rcases de.mp U with z | z
  . exact dq.reach I i (by lia) t z
  . have e:=by simpa using z
    rcases I.vf i L[i] Y with ⟨_,h⟩ | ⟨g,Z,_,j,m,l,_⟩
    . rw[e];exact Reach.row h
    . rw[e,<- l];exact Reach.step Z j λx hx=>dq.reach I i (by lia) x (m x hx)
theorem zu{n:Nat}(I:dq gs n L []):∀t,t∈aD L↔Reach gs (2^n) (bz n) t:=λt=>by
 constructor
 . exact λh=>dq.reach I L.length (ax _) t (by rw[e8];exact h)
 . intro h;refine h (λx=>x∈aD L) (λr e=>?_) λg Y c Z i=>?_
   . obtain ⟨w,U,_⟩:=I.inp r e;rw[cy] at U;exact bt.mpr ⟨_,U,rfl⟩
   . obtain ⟨w,U,_⟩:=I.cl g Y c Z i;rw[cy] at U;exact bt.mpr ⟨_,U,rfl⟩
theorem Q4(U:gs.length<=8):¬ bN 0 gs:=λh=>by
 rcases h with z | z
 . lia
 . have:=aaK (gs:=gs) λg _=>by cases g.1 with
    | zero=>exact ax _
    | succ k=>rw[Nat.zero_pow (by lia)];lia
   lia
theorem sub_len{r:B4}(h:l.Nodup)(hs:∀x∈l,x∈r):l.length<=r.length:=qO h hs
inductive Tg (gs:A8) (n:Nat):Prop
 | many (h1:cX [.list (gs.map CI),.int (n:Nat)]= .bad) (h2:nM [.list (gs.map CI),.int (n:Nat)]= .ok "TooMany") (h3:du [.list (gs.map CI),.int (n:Nat)]= .bad) (h4:gH [.list (gs.map CI),.int (n:Nat)]= .ok "TooMany"):Tg gs n
 | told (L:A0) (h1:cX [.list (gs.map CI),.int (n:Nat)]= .ok (.dict (CM L))) (I:dq gs n L []) (F:mj n L []) (hG:¬ bN L.length gs) (h2:du [.list (gs.map CI),.int (n:Nat)]= .ok (dR (srt (aD L)))):Tg gs n
theorem both{n:Nat}(o:n<=3)(Z:gs.length<=8)(m:∀g∈gs,g.1<=4):Tg gs n:=by
 have s:bz n=(c8 n).map λj=>fJ n j:=rfl;rcases w_or (by lia) Z m (abr o).1 with ⟨L,h1,I,F,hG⟩ | ⟨h1,h2,fs,r,I,hG⟩
 . have nd:=by have:=I.nd;rwa [show aD L++aD []=aD L from cy _] at this
   have hk:(aD L).length=L.length:=by rw[aD,ai]
   have p:¬ bN L.length gs:=by
    rcases hG with rfl | hG
    . exact Q4 Z
    . exact hG
   rcases Dd o Z m with ⟨q,Y,U,e,k4,k5⟩ | ⟨_,_,l,Y,U,e⟩
   . refine .told L h1 I F p ?_;rw[Y,TX U nd λx=>(e x).trans (zu I x).symm]
   . exact absurd (e.mono (by have:=sub_len Y λx hx=>(zu I x).mpr (U x hx);lia)) p
 . rcases Dd o Z m with ⟨q,Y,U,e,k4,k5⟩ | ⟨Y,U,_⟩
   . have nd:=(eu.mp I.nd).1;have hk:(aD fs).length=fs.length:=by rw[aD,ai]
     have:=sub_len nd λx hx=>(e x).mpr (dq.reach I fs.length (ax _) x (by rw[e8];exact hx));have i:bN q.length gs:=hG.mono (by lia);rcases k5 with rfl | k5
     . exact absurd i (Q4 Z)
     . exact absurd i k5
   . exact .many h1 h2 Y U
theorem Ip{n:Nat}(h1:du [.list (gs.map CI),.int (n:Nat)]= .bad)(h2:gH [.list (gs.map CI),.int (n:Nat)]= .ok "TooMany"):iC [.list (gs.map CI),.int (n:Nat)]= .ok .none:=by
 unfold iC;ext;rw[pG (by ext;rw[h1];rfl) (gW rfl h2)];rfl
theorem TF{n:Nat}(h:du [.list (gs.map CI),.int (n:Nat)]= .ok d):iC [.list (gs.map CI),.int (n:Nat)]= .ok d:=by
 unfold iC;ext;rw[yG (o:=.nx [some (.list (gs.map CI)),some (.int (n:Nat)),some d]) (by ext;rw[h];ext)];ext
theorem K9{n:Nat}(h1:cX [.list (gs.map CI),.int (n:Nat)]= .bad)(h2:nM [.list (gs.map CI),.int (n:Nat)]= .ok "TooMany"):jr [.list (gs.map CI),.int (n:Nat)]= .ok .none:=by
 have U:mQ [.list (gs.map CI),.int (n:Nat)]= .bad:=by
  unfold mQ;ext;rw[h1];rfl
 have Y:wW [.list (gs.map CI),.int (n:Nat)]= .ok "TooMany" := by
  unfold wW fnZ;rw[lz (by ext;rw[h1];rfl)];exact gW rfl h2
 unfold jr;ext;rw[pG (by ext;rw[U];rfl) (gW rfl Y)];rfl
theorem Yb{n:Nat}(h:mQ [.list (gs.map CI),.int (n:Nat)]= .ok d):jr [.list (gs.map CI),.int (n:Nat)]= .ok d:=by
 unfold jr;ext;rw[yG (o:=.nx [some (.list (gs.map CI)),some (.int (n:Nat)),some d]) (by ext;rw[h];ext)];ext
section
variable  {n:Nat}  {t:Int}
theorem JB(h1:cX [.list (gs.map CI),.int (n:Nat)]= .bad)(h2:nM [.list (gs.map CI),.int (n:Nat)]= .ok "TooMany"):eE [.list (gs.map CI),.tuple [.int (n:Nat),.int t]]= .ok (.tuple [.str "many",.none]):=by
 have U:dh [.list (gs.map CI),.tuple [.int (n:Nat),.int t]]= .bad:=by
  unfold dh;ext;rw[h1];rfl
 have Y:fj [.list (gs.map CI),.tuple [.int (n:Nat),.int t]]= .ok "TooMany" := by
  unfold fj fnZ;rw[lz (by ext;rw[h1];rfl)];exact gW rfl h2
 unfold eE;ext;rw[pG (by ext;rw[U];rfl) (gW rfl Y)];rfl
theorem JG(h:cX [.list (gs.map CI),.int (n:Nat)]= .ok (.dict (CM L)))(U:t∉aD L):eE [.list (gs.map CI),.tuple [.int (n:Nat),.int t]]= .ok (.tuple [.str "none",.none]):=by
 unfold eE;ext;rw[pG (by ext;rw[Ii h U];rfl) (gW rfl (aa1 h U))];rfl
theorem LC(h:cX [.list (gs.map CI),.int (n:Nat)]= .ok (.dict (CM L)))(Y:t∈aD L)(U:300<bQ L t):eE [.list (gs.map CI),.tuple [.int (n:Nat),.int t]]= .ok (.tuple [.str "big",.none]):=by
 unfold eE;ext;rw[pG (by ext;rw[Io h Y U];rfl) (gW rfl (ab4 h Y U))];rfl
theorem Z6(h:dh [.list (gs.map CI),.tuple [.int (n:Nat),.int t]]= .ok d):eE [.list (gs.map CI),.tuple [.int (n:Nat),.int t]]= .ok (.tuple [.str "told",d]):=by
 unfold eE;ext;rw[yG (o:=.nx [some (.list (gs.map CI)),some (.tuple [.int (n:Nat),.int t]),some (.tuple [.str "told",d])]) (by ext;rw[h];ext)];ext
end
theorem Zm{n:Nat}(U:n<=3):CF (.list [.list [],.list [.int 2],.list [.int 10,.int 12],.list [.int 170,.int 204,.int 240]]) (.int (n:Nat))= .ok (dL (bz n)):=by
 rcases (by lia:n=0\/n=1\/n=2\/n=3) with rfl | rfl | rfl | rfl
 . rw[show bz 0=[] from rfl];exact dB rfl
 . rw[show bz 1=[2] by decide +kernel];exact dB rfl
 . rw[show bz 2=[10,12] by decide +kernel];exact dB rfl
 . rw[show bz 3=[170,204,240] by decide +kernel];exact dB rfl
theorem W3{n:Nat}(U:n<=3):CF (.list [.int 1,.int 3,.int 15,.int 255]) (.int (n:Nat))= .ok (.int (2^2^n - 1)):=by
 rcases (by lia:n=0\/n=1\/n=2\/n=3) with rfl | rfl | rfl | rfl <;> exact dB rfl
noncomputable def lC:ME:=ak Fz (aj 6) (bI [])
noncomputable def lB:MS:=(aG (xR 6 (gT [(gN 7),(gN 8)]))
 (sIf (vR "int" (aj 7)) (aG (sIf (uT (qm leD ltD (eC (.int 0)) (aj 7) (aj 1))) (bD (eC .none)) cR)
 (lY 5 (ak CF (aj 3) (aj 7)))) (sIf (eUn Fj (aj 8)) (aG (aN 9 (ak qG (eFn cQ [(aj 5)]) (ak CF (ak CF (aj 7) (eC (.int 0))) (eC (.int 0)))))
 (aN 5 (ak Fo (eSl (aj 5) nH (nG (aj 9))) (bI [(aJ lG [(ak CF (aj 7) (eC (.int 0))),(eSl (aj 5) (nG (aj 9)) nH),(ak CF (bI [(eC (.int 1)),(eC (.int 3)),(eC (.int 15)),(eC (.int 255))]) (aj 1))])])))) (aG (sIf (eOr (uT (vR "tuple" (aj 7))) (eOr (ak gk (ak CF (aj 7) (eC (.int 0))) (aj 0)) (eOr (ak neD (eFn cQ [(ak CF (aj 7) (eC (.int 1)))]) (ak CF (ak CF (aj 7) (eC (.int 0))) (eC (.int 0)))) (ak gtD (aj 4) (eC (.int 300)))))) (bD (eC .none)) cR)
 (aG (aN 4 (ak cj (aj 4) (eC (.int 1))))
 (aG (lY 6 (bF [(aj 7),(eC (.bool true))]))
 (vN 6 (bU (Ls (ak CF (aj 7) (eC (.int 1)))) (gN 0) (eC (.bool true)) (bF [(aj 0),(eC (.bool false))]) 1 []))))))))
variable {J:B5}{s z:Nat}
section
variable  {n:Nat}{d0:af}
noncomputable def stR(gs:A8)(n:Nat)(d0:af)(z:Nat)(V:B4)(J:B5):Ev:=[some (.list (gs.map CI)),some (.int (n:Nat)),some d0,some (dL (bz n)),some (.int (z:Nat)),some (dL V),some (.list J),none,none,none]
noncomputable def itm(b:Bool)(d:af):af:=.tuple [d,.bool b]
def pW(Γ Γ':Ev)(j:Nat):Prop:=∀f,whR lC [7,8,9] lB (f+j) Γ=whR lC [7,8,9] lB f Γ'
theorem pW.trans{b c:Ev}{j:Nat}(h:pW Γ b i)(k:pW b c j):pW Γ c (i+j):=λf=>by
 rw[show f+(i+j)=(f+j)+i by lia,h,k]
def Lay(J:B5):Prop:=dc J=true
theorem Lay.app{b:B5}(h:Lay a)(Y:Lay b):Lay (a++b):=by
 unfold Lay at *
 induction a with
 | nil=>exact Y
 | cons x a U=>
  rw[dc,cp] at h;rw[k9,dc,h.1,U h.2];rfl
theorem Lay.of(h:∀d∈J,d.canLay0=true):Lay J:=by
 unfold Lay
 induction J with
 | nil=>rw[dc]
 | cons x a U=>rw[dc,h x a7,U λd hd=>h d (a6 _ hd)];rfl
theorem JM{t:Int}(h:MkT gs n t s d):d.canLay0=true:=by
 induction h with
 | inp hi=>rw[ew]
 | node Z e U Y=>
  unfold dT dG;rw[ew,dc,ew,dc,ew,dc,ew,dc,dc,ew,dc];have:=Lay.of (λd hd=>by
   obtain ⟨p,U,rfl⟩:=bt.mp hd;exact Y p U)
  rw[this];rfl
theorem sO{b:Bool}(h:d.canLay0=true):(itm b d).canLay0=true:=by
 rw[itm,ew,dc,h,dc,ew,dc];rfl
theorem Ky(h:Lay J):lC (stR gs n d0 z xs J)= .ok (.bool (decide (J≠[]))):=by
 unfold lC stR;ext;rw[Fz,bH ⟨by rw[ew];exact h,by rw[ew,dc],c5 (z5 _ _) (by rw[af.depth,fA];decide)⟩]
 cases J with
 | nil=>rw[fw,pS];rfl
 | cons x J=>rw[fw,pS];rfl
theorem cond_true(h:Lay J)(hx:x.canLay0=true):lC (stR gs n d0 z xs (J++[x]))= .ok (.bool true):=by
 rw[Ky (h.app (Lay.of λd hd=>by rw[aS.mp hd];exact hx)),decide_eq_true (by intro q;exact absurd (congrArg List.length q) (by rw[aw,d5];exact Nat.succ_ne_zero _))]
theorem Vb(hi:i<n)(Y:xs.length<=10000)(U:Lay J):pW (stR gs n d0 z xs (J++[itm false (.int (i:Nat))])) (stR gs n d0 z (xs++[fJ n i]) J) 1:=λf=>by
 refine BK (Γ2:=[some (.list (gs.map CI)),some (.int (n:Nat)),some d0,some (dL (bz n)),some (.int (z:Nat)),some (dL (xs++[fJ n i])),some (.list J),some (.int (i:Nat)),some (.bool false),none]) (cond_true U (sO (by rw[ew]))) ?_ rfl;rw[lB,bW,yF rfl (of_decide_eq_true rfl)];unfold stR itm;ext;rw[decide_eq_true (by lia),sG,decide_eq_true (by lia)];ext;rw[show CF (dL (bz n)) (.int (i:Nat))= .ok (.int (fJ n i)) from dB (by rw[bz,a9,a9,i7 hi];rfl)];ext;unfold dL;ext;rw[bH (CS (by lia)),ck];rfl
theorem Tt{V:B4}(e:n<=3)(Z:g.1<=3)(hx:xs.length=g.1)(i:V.length<=10000)(Y:Lay J)(hd:(dT g.1 g.2 ds).canLay0=true) :
 pW (stR gs n d0 z (V++xs) (J++[itm true (dT g.1 g.2 ds)])) (stR gs n d0 z (V++[dW g.2 xs n]) J) 1:=λf=>by
 refine BK (Γ2:=[some (.list (gs.map CI)),some (.int (n:Nat)),some d0,some (dL (bz n)),some (.int (z:Nat)),some (dL (V++[dW g.2 xs n])),some (.list J),some (dT g.1 g.2 ds),some (.bool true),some (.int (V.length:Nat))]) (cond_true Y (sO hd)) ?_ rfl;rw[lB,bW,yF rfl (of_decide_eq_true rfl)];unfold stR itm dT;ext;have U:(((V++xs).length:Nat):Int) - (g.1:Nat)=((V.length:Nat):Int):=by rw[aw,hx];lia
 rw[U];unfold dL;ext;rw[<- BI,List.drop_left,show af.list (xs.map af.int)=dL xs from rfl,W3 e,Co.aP,acn Z hx];ext;rw[<- zv,List.take_left,Oq (fe (CS (by rw[ai,d5];lia)))];ext;rw[ck];rfl
theorem Ub{V:B4}(U:g∈gs)(i:g.1<=4)(l:ds.length=g.1)(hz:z<=300)(Y:J.length<=10000)(Z:Lay J)(hd:(dT g.1 g.2 ds).canLay0=true) :
 pW (stR gs n d0 z V (J++[itm false (dT g.1 g.2 ds)])) (stR gs n d0 (z+1) V (J++[itm true (dT g.1 g.2 ds)]++ds.reverse.map (itm false))) 1:=λf=>by
 refine BK (Γ2:=[some (.list (gs.map CI)),some (.int (n:Nat)),some d0,some (dL (bz n)),some (.int ((z+1:Nat):Int)),some (dL V),some (.list (J++[itm true (dT g.1 g.2 ds)]++ds.reverse.map (itm false))),some (dT g.1 g.2 ds),some (.bool false),none]) (cond_true Z (sO hd)) ?_ rfl;rw[lB,bW,yF rfl (of_decide_eq_true rfl)];unfold stR itm dT;ext;rw[show dG g.1 g.2=CI g from rfl,Ui,decide_eq_true U];ext;rw[show CI g=dG g.1 g.2 from rfl,decide_eq_true (show (ds.length:Int)=g.1 by lia)];ext;rw[decide_eq_false (show ¬ (300:Int)<z by lia)];ext;rw[bH (CS (by lia))];ext;rw[J2 (es:=ds.reverse.map λe=>af.tuple [e,.bool false]) ?_ rfl (fe (CS (by rw[aw,ai,fN,d5];lia))) (of_decide_eq_true rfl)]
 . ext;rfl
 . rw[lr (xs:=ds.reverse) (λe=>e) (λe=>af.tuple [e,.bool false]) ?_ (CS (by rw[fN];lia)) λe j=>?_]
   . show (Co.bind _ _)=_;ext;rw[wx]
   . ext
theorem CP{B:Nat}:∀(ps:List (Int×Nat×af)) (z:Nat) (V:B4) (J:B5),(∀p∈ps,MkT gs n p.1 p.2.1 p.2.2) ->
 (∀p∈ps,∀(z:Nat) (V:B4) (J:B5),z+p.2.1<=300->V.length+5*p.2.1<=5000->J.length+5*p.2.1<=5000->Lay J->∃j,j<=1+6*p.2.1/\pW (stR gs n d0 z V (J++[itm false p.2.2])) (stR gs n d0 (z+p.2.1) (V++[p.1]) J) j) ->
 z+(ps.map (·.2.1)).sum<=300->V.length+ps.length+5*(ps.map (·.2.1)).sum<=5000->J.length+ps.length+5*(ps.map (·.2.1)).sum<=5000->Lay J ->
 ∃j,j<=ps.length+6*(ps.map (·.2.1)).sum/\pW (stR gs n d0 z V (J++(ps.map (·.2.2)).reverse.map (itm false))) (stR gs n d0 (z+(ps.map (·.2.1)).sum) (V++ps.map (·.1)) J) j
 | [],z,V,J,_,_,_,_,_,_=>⟨0,f7 _,λf=>by
  show whR _ _ _ f (stR gs n d0 z V (J++[]))=whR _ _ _ f (stR gs n d0 z (V++[]) J);rw[cy,cy]⟩
 | p::ps,z,V,J,hk,i,hz,s,Z,l=>by
  rw[b9,gS,ba] at s Z;rw[b9,gS] at hz;have U:=λq Y=>hk q (a6 _ Y);obtain ⟨u,b1,o⟩:=i p a7 z V (J++(ps.map (·.2.2)).reverse.map (itm false)) (by lia) (by lia) (by rw[aw,ai,fN,ai];lia) (l.app (Lay.of λd hd=>by
   obtain ⟨e,v,rfl⟩:=bt.mp hd;obtain ⟨q,Y,rfl⟩:=bt.mp (List.mem_reverse.mp v);exact sO (JM (U q Y))))
  obtain ⟨m,b2,r⟩:=CP (B:=B) ps (z+p.2.1) (V++[p.1]) J U (λq Y=>i q (a6 _ Y)) (by lia) (by rw[aw,d5];lia) (by lia) l;refine ⟨u+m,by rw[ba,b9,gS];lia,?_⟩;have:=o.trans r;show pW (stR gs n d0 z V (J++((p.2.2::ps.map (·.2.2)).reverse.map (itm false)))) (stR gs n d0 (z+(p.2.1+(ps.map (·.2.1)).sum)) (V++(p.1::ps.map (·.1))) J) _;rw[yi,ck,<- da,<- Nat.add_assoc];rwa [da V] at this
theorem Qn(v:n<=3)(p:∀g∈gs,g.1<=3){t:Int}(h:MkT gs n t s d):∀(z:Nat) (V:B4) (J:B5),z+s<=300->V.length+5*s<=5000->J.length+5*s<=5000->Lay J->∃j,j<=1+6*s/\pW (stR gs n d0 z V (J++[itm false d])) (stR gs n d0 (z+s) (V++[t]) J) j:=by
 induction h with
 | inp hi=>exact λz V J h1 h2 u Y=>⟨1,ax _,Vb hi (by lia) Y⟩
 | @node g Z e i l o=>
  intro z V J h1 h2 u Y;have U:=JM (MkT.node e i l);have g4:=p g e;obtain ⟨j,b,r⟩:=CP (B:=0) Z (z+1) V (J++[itm true (dT g.1 g.2 (Z.map (·.2.2)))]) l o (by lia) (by lia) (by rw[aw,d5];lia) (Y.app (Lay.of λd hd=>by rw[aS.mp hd];exact sO U));have q:=Ub (d0:=d0) (n:=n) (z:=z) (V:=V) e (by lia) (by rw[ai];exact i) (by lia) (by lia) Y U;have m:=Tt (d0:=d0) (gs:=gs) (z:=z+1+(Z.map (·.2.1)).sum) (V:=V) (xs:=Z.map (·.1)) v g4 (by rw[ai];exact i) (by lia) Y U;refine ⟨1+j+1,by lia,?_⟩;rw[<- Nat.add_assoc];exact (q.trans r).trans m
theorem Nq(U:n<=3)(Z:∀g∈gs,g.1<=3){t:Int}(h:MkT gs n t s d)(hs:s<=300):jU [.list (gs.map CI),.int (n:Nat),d]= .ok (.tuple [.int t,.int (s:Nat)]):=by
 obtain ⟨j,i,Y⟩:=Qn U Z h 0 [] [] (by lia) (by show 0+_<=_;lia) (by show 0+_<=_;lia) (by rw[Lay,dc]);have e:dO 1000000 lC [7,8,9] lB (stR gs n d 0 [] [itm false d])= .ok (.nx (stR gs n d s [t] [])):=by
  rw[show 1000000=(1000000 - j - 1+1)+j by lia];have:=Y (1000000 - j - 1+1);rw[nI] at this;exact this.trans (aah (Ky (by rw[Lay,dc])))
 rw[jU,show (dO 1000000 (ak Fz (aj 6) (bI [])) [7,8,9] (aG (xR 6 (gT [(gN 7),(gN 8)]))
  (sIf (vR "int" (aj 7)) (aG (sIf (uT (qm leD ltD (eC (.int 0)) (aj 7) (aj 1))) (bD (eC .none)) cR)
  (lY 5 (ak CF (aj 3) (aj 7)))) (sIf (eUn Fj (aj 8)) (aG (aN 9 (ak qG (eFn cQ [(aj 5)]) (ak CF (ak CF (aj 7) (eC (.int 0))) (eC (.int 0)))))
  (aN 5 (ak Fo (eSl (aj 5) nH (nG (aj 9))) (bI [(aJ lG [(ak CF (aj 7) (eC (.int 0))),(eSl (aj 5) (nG (aj 9)) nH),(ak CF (bI [(eC (.int 1)),(eC (.int 3)),(eC (.int 15)),(eC (.int 255))]) (aj 1))])])))) (aG (sIf (eOr (uT (vR "tuple" (aj 7))) (eOr (ak gk (ak CF (aj 7) (eC (.int 0))) (aj 0)) (eOr (ak neD (eFn cQ [(ak CF (aj 7) (eC (.int 1)))]) (ak CF (ak CF (aj 7) (eC (.int 0))) (eC (.int 0)))) (ak gtD (aj 4) (eC (.int 300)))))) (bD (eC .none)) cR)
  (aG (aN 4 (ak cj (aj 4) (eC (.int 1))))
  (aG (lY 6 (bF [(aj 7),(eC (.bool true))]))
  (vN 6 (bU (Ls (ak CF (aj 7) (eC (.int 1)))) (gN 0) (eC (.bool true)) (bF [(aj 0),(eC (.bool false))]) 1 [])))))))))=dO 1000000 lC [7,8,9] lB from rfl]
 ext;rw[Zm U];ext;rw[show [some (af.list (gs.map CI)),some (af.int (n:Nat)),some d,some (dL (bz n)),some (af.int 0),some (af.list []),some (af.list [af.tuple [d,af.bool false]]),none,none,none]=stR gs n d 0 [] [itm false d] from rfl,e];unfold stR;ext;rw[show CF (dL [t]) (.int 0)= .ok (.int t) from rfl];ext
end
noncomputable def eG(ts:B4)(f:Int->Nat):B1:=ts.map λt=>(t,((f t:Nat):Int))
theorem Kc{f:Int->Nat}:af.list (ts.map (oF f))=kZ (eG ts f):=by
 unfold kZ eG;rw[eh];rfl
theorem V1{t x:Int}:∀{rs:B1},lkR t rs=some x->(t,x)∈rs
 | [],h=>nomatch h
 | (k,y)::rs,h=>by
  unfold lkR at h
  by_cases e:k=t
  . rw[if_pos e] at h;cases h;rw[e];exact a7
  . rw[if_neg e] at h;exact a6 _ (V1 h)
theorem RP{k:Nat}(hk:k<=60)(hi:i<=2):k^i<=20000:=c5 (we hk i) (c5 (iX (by decide) hi) (by decide))
theorem yL{n:Nat}(e:rs.length<=60)(Z:gs.length<=100)(Y:∀g∈gs,g.1<=3)(j:n<=4):jV [.list (gs.map CI),.int (n:Nat),kZ rs]= .ok (.bool (pL gs n rs)):=
 Ur (λ_=>⟨by lia,λg U i hi=>RP e (by have:=Y g U;lia)⟩) (by lia) Z (λg z=>c5 (Y g z) (by decide)) j
theorem aau{n:Nat}{f:Int->Nat}(W:zG gs n ts f){a:Nat}(ha:a<ts.length)(Z:∀p∈rs,((f ts[a]:Nat):Int)<p.2):pL gs n ((eG ts f).take a++rs++(eG ts f).drop (a+1))=false:=by
 refine tN.mpr λh=>?_;obtain ⟨x,hx,i⟩:=Uw h (Am W (f ts[a]) ts[a] (i5 ha) (ax _));have inj:∀{j:Nat} (hj:j<ts.length),ts[j]=ts[a]->j=a:=λhj e=>(List.getElem_inj W.nd).mp e;rcases de.mp (V1 hx) with z | z
 . rcases de.mp z with z | z
   . unfold eG at z;rw[<- zv] at z;obtain ⟨u,hu,e⟩:=bt.mp z;obtain ⟨j,hj,U⟩:=dS.mp hu;rw[c6] at hj;rw[nK] at U;have Y:=congrArg Prod.fst e;have:=inj (by lia) (U.trans Y);lia
   . have:=Z _ z;have h2:=this;lia
 . unfold eG at z;rw[<- BI] at z;obtain ⟨u,hu,e⟩:=bt.mp z;obtain ⟨j,hj,U⟩:=dS.mp hu;rw[hX] at hj;rw[tj] at U;have Y:=congrArg Prod.fst e;have:=inj (by lia) (U.trans Y);lia
theorem U6{n:Nat}{f:Int->Nat}(W:zG gs n ts f)(c:Int)(h0:0<ts.length)(y:ts.length<60)(i:gs.length<=100)(j:∀g∈gs,g.1<=3)(l:n<=4):fc [.list (gs.map CI),.int (n:Nat),kZ (eG ts f),.int c]= .ok (.bool false):=by
 have s:(eG ts f).length=ts.length:=by rw[eG,ai]
 obtain ⟨a,u,ha⟩:=Bp c (m:=((ts.length:Nat):Int)) (by lia);have Y:a<ts.length:=by lia
 obtain ⟨b,o,v⟩:=Bp (c / 64) (m:=2) (by decide);have x:(eG ts f).take a++[]++(eG ts f).drop (a+1)=(eG ts f).take a++(eG ts f).drop (a+1):=by rw[cy]
 have lt:((eG ts f).take a).length<=60:=by rw[c6];lia
 have ld:((eG ts f).take a).length+((eG ts f).drop (a+1)).length+1<=60:=by rw[c6,hX];lia
 unfold fc kZ;ext;rw[s,bH (by lia)];ext;rw[u,dB (d:=tY (ts[a],((f ts[a]:Nat):Int))) (by rw[eG,eh,a9,aI Y];rfl)];unfold tY;walk_at "go";obtain ⟨U,em,q,Z⟩:∃U:B1,CF (.list [.list [],.list [.tuple [.int ts[a],.int (((f ts[a]:Nat):Int)+1)]]]) (.int (c / 64 % 2))= .ok (kZ U)/\U.length<=1/\∀p∈U,((f ts[a]:Nat):Int)<p.2:=by
  rw[o];rcases (by lia:b=0\/b=1) with rfl | rfl
  . exact ⟨[],rfl,by decide,λp e=>nomatch e⟩
  . exact ⟨[(ts[a],((f ts[a]:Nat):Int)+1)],rfl,ax _,λp e=>by rw[aS.mp e];lia⟩
 rw[em,Co.aP,show (λr:Int×Int=>af.tuple [.int r.1,.int r.2])=tY from rfl,<- zv];rw[kZ,jh (by rw[ai,ai];lia)];ext;rw[show (a:Int)+1=((a+1:Nat):Int) by lia,PB,Co.aP,<- BI,<- ck,jh (by rw[ai,ai,aw];lia),<- ck];ext;rw[show af.list (((eG ts f).take a++U++(eG ts f).drop (a+1)).map tY)=kZ ((eG ts f).take a++U++(eG ts f).drop (a+1)) from rfl,yL (by rw[aw,aw];lia) i j l,aau W Y Z];rfl
theorem acr(c:Int):∃n:Nat,(n=0\/n=3)/\CF (.list [.int 3,.int 0,.int 3,.int 3]) (.int (c % 4))= .ok (.int (n:Nat)):=by
 obtain ⟨k,U,hk⟩:=Bp c (m:=4) (by decide);rw[U];rcases (by lia:k=0\/k=1\/k=2\/k=3) with rfl | rfl | rfl | rfl
 . exact ⟨3,.inr rfl,rfl⟩
 . exact ⟨0,.inl rfl,rfl⟩
 . exact ⟨3,.inr rfl,rfl⟩
 . exact ⟨3,.inr rfl,rfl⟩
theorem acw:jV [.list [.tuple [.int 2,.int 8]],.int 3,.list [.tuple [.int 170,.int 0],.tuple [.int 204,.int 0],.tuple [.int 240,.int 0]]]= .ok (.bool false):=by
 have:=yL (rs:=[(170,0),(204,0),(240,0)]) (n:=3) (gs:=[(2,8)]) (by decide) (by decide) (by decide) (by decide);rwa [show pL [(2,8)] 3 [(170,0),(204,0),(240,0)]=false by decide +kernel] at this
theorem main(ns:B4)(h:ns.length<=63):uH [.list (ns.map af.int)]= .ok (.bool true):=by
 show uH [dL ns]=_;obtain ⟨Z,S,hl,q⟩:=abO ns;obtain ⟨n,R,J⟩:=acr (cell ns 4);have Y:=λg z=>(q g z).m3;have B:=both (n:=n) (by lia) (by lia) λg z=>c5 (Y g z) (by decide);have r:∃M:Nat,0<M/\CF (.list [.int 2,.int 0,.int 0,.int 256]) (.int (n:Nat))= .ok (.int (M:Nat)):=by
  rcases R with rfl | rfl
  . exact ⟨2,by decide,rfl⟩
  . exact ⟨256,by decide,rfl⟩
 obtain ⟨M,hM,O⟩:=r;unfold uH;ext;rw[S];ext;rw[show b7 [dL ns,.int 4]= .ok (.int (cell ns 4)) from z6];ext;rw[J];walk_at "go";rw[O];ext;rw[bH (by lia)];ext;generalize cell ns 4 / 4 % M=t
 cases B with
 | many h1 h2 h3 y=>
  rw[Ip h3 y];ext;rw[K9 h1 h2];ext;rw[JB h1 h2];ext;rw[show rF .none .none= .ok (.bool true) from rfl];ext;rw[zQ (by decide +kernel)];rfl
 | told L h1 I F hG h2=>
  have hL:=hY λz=>hG (.inl z);have ep:=YK h1 I (by lia);have W:=I.whole;have s:∀t,t∈srt (aD L)↔t∈aD L:=λt=>gf;have P:(srt (aD L)).length<=128:=by rw[(dX _).length_eq];rw[aD,ai];exact hL
  have p:∀g∈Z,g.1<=4:=λg z=>c5 (Y g z) (by decide);obtain ⟨w,o,v,E⟩:∃(w:Str) (o:af),eE [.list (Z.map CI),.tuple [.int n,.int t]]= .ok (.tuple [.str w,o])/\((t∉srt (aD L)/\w = "none")\/(t∈srt (aD L)/\300<bQ L t/\w = "big")\/(t∈srt (aD L)/\bQ L t<=300/\w = "told" /\ MkT Z n t (bQ L t) o)):=by
   by_cases U:t∈aD L
   . by_cases l:300<bQ L t
     . exact ⟨_,_,LC h1 U l,.inr (.inl ⟨gf.mpr U,l,rfl⟩)⟩
     . obtain ⟨d,e,hd⟩:=Lw h1 I F p (by lia) U (by lia);exact ⟨_,_,Z6 e,.inr (.inr ⟨gf.mpr U,by lia,rfl,hd⟩)⟩
   . exact ⟨_,_,JG h1 U,.inl ⟨λz=>U (gf.mp z),rfl⟩⟩
  rw[TF h2];ext;rw[Yb ep];ext;rw[v];generalize srt (aD L)=ts at *
  generalize bQ L=f at *
  ext;rw[show rF (dR ts) .none= .ok (.bool false) from rfl];ext;rw[show rF (.list (ts.map (oF f))) .none= .ok (.bool false) from rfl];ext;have j:∀m:Ev,gv m 5=some (.list (ts.map (oF f)))->bU (itL (aj 5)) (gN 0) (eC (.bool true)) (ak CF (aj 0) (eC (.int 0))) 1 [] m= .ok (dL ts):=λm C=>by
   rw[lr (xs:=ts) (oF f) af.int ?_ (CS (by lia)) λt _=>?_]
   . rfl
   . rw[KD,show aj 5 m= .ok (.list (ts.map (oF f))) by rw[aj,C]];rfl
   . rfl
  rw[j _ rfl];ext;rw[show uF [dR ts]= .ok (dL ts) from rfl];ext;have Q:bT (.bool (decide (((ts.length:Nat):Int)<60))) ((jV [.list (Z.map CI),.int (n:Nat),.list (ts.map (oF f))]).bind λx=>uG x (.bool true)) (.ok (.bool false))= .ok (.bool false):=by
   by_cases u:ts.length<60
   . rw[decide_eq_true (show (ts.length:Int)<60 by lia),sG,Kc,yL (by rw[eG,ai];lia) (by lia) Y (by lia),show pL Z n (eG ts f)=true from Rt W];rfl
   . rw[decide_eq_false (show ¬ ((ts.length:Nat):Int)<60 by lia)];rfl
  rw[Q];ext;have D:((bT (.bool (decide ((0:Int)<(ts.length:Nat)))) (Co.ok (af.bool (decide (((ts.length:Nat):Int)<60)))) (Co.ok (af.bool false))).bind λa=>bT a ((b7 [dL ns,.int 5]).bind λa=>(fc [.list (Z.map CI),.int (n:Nat),.list (ts.map (oF f)),a]).bind λx=>uG x (.bool false)) (Co.ok (af.bool false)))= .ok (.bool false):=by
   by_cases H:0<ts.length
   . rw[decide_eq_true (show (0:Int)<(ts.length:Nat) by lia),sG,Co.aP]
     by_cases u:ts.length<60
     . rw[decide_eq_true (show ((ts.length:Nat):Int)<60 by lia),sG,show b7 [dL ns,.int 5]= .ok (.int (cell ns 5)) from z6 (k:=5),Co.aP,Kc,U6 W (cell ns 5) H u (by lia) Y (by lia)];rfl
     . rw[decide_eq_false (show ¬ ((ts.length:Nat):Int)<60 by lia)];rfl
   . rw[decide_eq_false (show ¬ (0:Int)<(ts.length:Nat) by lia)];rfl
  rw[<- Co.bind_assoc,D];ext;rw[acw];ext;rw[show uG (.bool false) (.bool false)= .ok (.bool false) from rfl];ext;rw[Uo];rcases E with ⟨U,rfl⟩ | ⟨U,l,rfl⟩ | ⟨U,l,rfl,hd⟩
  . rw[decide_eq_false U];ext;rw[zQ (a:= "none") (by decide +kernel)];rfl
  all_goals rw[decide_eq_true U]
  all_goals ext
  all_goals rw[j _ rfl]
  all_goals ext
  all_goals rw[show Hr (dL ts) (.int t)= .ok (.int (ts.idxOf t:Nat)) by
   show (match intsOf (ts.map af.int) with | some ns=>gd (t∈ns) (Co.ok (af.int (ns.idxOf t:Nat))) | none=>.bad)=_;rw[ji];exact bH U]
  all_goals ext
  all_goals rw[dB (i:=ts.idxOf t) (d:=oF f t) (by rw[a9,aI (zo.mpr U),List.getElem_idxOf];rfl)]
  all_goals unfold oF
  all_goals ext
  . rw[decide_eq_true (show (300:Int)<(f t:Nat) by lia)];ext;rw[zQ (a:= "big") (by decide +kernel)];rfl
  . rw[decide_eq_false (show ¬ (300:Int)<(f t:Nat) by lia)];ext;rw[zQ (a:= "told") (by decide +kernel)];ext;rw[Nq (by lia) Y hd l];ext;rw[show eqD (.tuple [.int t,.int (f t:Nat)]) (.tuple [.int t,.int (f t:Nat)])= .ok (.bool true) from (wK (Dy λd hd=>by
     rcases bq.mp hd with rfl | hd
     . exact jR
     . rw[aS.mp hd];exact jR) (Dy λd hd=>by
     rcases bq.mp hd with rfl | hd
     . exact jR
     . rw[aS.mp hd];exact jR) (by rw[af.depth,fA,fA,fA,af.depth,af.depth];decide) (by rw[af.depth,fA,fA,fA,af.depth,af.depth];decide)).1.mpr rfl]
    rfl
noncomputable def top(i:Nat):Stmt:=PySem.Challenge.pw_gatekin_k54_papers_refused.main.body.getD i (.Pass ⟨0,0,0,0⟩)
noncomputable abbrev dE(x:Str)(n:Nat):Str×Nat:=(x,n)
noncomputable def defs:List (Str×Nat):=[dE "row_count" 6,dE "table_limit" 7,dE "full_table" 8,dE "bit" 9,dE "number_of" 10,dE "input_table" 11,dE "input_tables" 12,dE "put_all" 13,dE "put" 14,dE "gathered" 18,dE "put_rows" 19,dE "power" 20,dE "list_count" 21,dE "lists_of" 22,dE "fresh_lists" 23,dE "given_rows" 24,dE "refuse_too_many" 25,dE "closed" 26,dE "offer" 29,dE "first_ways" 30,dE "ways_from" 31,dE "way_tree" 33,dE "paper" 35,dE "gate_holds" 36,dE "holds" 37,dE "least_tree" 38,dE "tables_made" 40,dE "_law_cell_at" 42,dE "_law_set" 43,dE "_law_put" 44,dE "_law_reckoned" 45,dE "_law_tables" 46,dE "_law_paper" 47,dE "_law_tree" 48,dE "_law_spoilt_holds" 49]
noncomputable def Ud:B7:=["all", "dict", "int", "isinstance", "len", "list", "min", "range", "reversed", "set", "sorted", "sum", "tuple"]
inductive yC (K:aE):List (Str×Nat)->Prop
 | nil:yC K []
 | cons {x:Str}{i:Nat}{l:List (Str×Nat)} (a:Fnd K x (top i)) (t:yC K l):yC K ((x,i)::l)
variable {K:aE}
theorem yC.get{x:Str}{l:List (Str×Nat)}(h:yC K l)(m:(x,i)∈l):Fnd K x (top i):=by
 induction h with
 | nil=>cases m
 | cons a t U=>
  cases m with
  | head=>exact a
  | tail _ m=>exact U m
inductive yI (K:aE):B7->Prop
 | nil:yI K []
 | cons {x:Str}{l:B7} (a:kL K fb x=some none) (t:yI K l):yI K (x::l)
theorem yI.get{x:Str}{l:B7}(h:yI K l)(m:x∈l):kL K fb x=some none:=by
 induction h with
 | nil=>cases m
 | cons a t U=>
  cases m with
  | head=>exact a
  | tail _ m=>exact U m
structure Ctx (K:aE) (mg:Str->B8) where
 h:Heap
 X:K.In h
 G:h.Ns fb mg
 F:yC K defs
 N:yI K Ud
 W:At K mg "ways" (top 32) ["gates", "inputs"]
 nY:a0
 jQ:mg "MOST_CLOSED_ROWS"= some nY
 jF:Ct (.int 128) nY
 v9:a0
 qx:mg "MOST_LISTS"= some v9
 pI:Ct (.int 20000) v9
 cZ:Addr
 De:mg "NotMade"= some (.ref cZ)
 dY:Addr
 yE:mg "TooBig"= some (.ref dY)
 cW:Addr
 lD:mg "TooMany"= some (.ref cW)
 Mz:rH K cW
 T:Addr
 hT:TabAt K mg T
 vJ:a0
 pK:mg "MOST_GATES"= some vJ
 pU:Ct (.int 300) vJ
 Mw:rH K cZ
 O5:rH K dY
 cY:jj K cW cW
 fP:jN K cZ dY
 eY:jN K cZ cW
 fU:jN K dY cW
 fB:jj K cZ cZ
 gn:jj K dY dY
variable {mg:Str->B8}
theorem Ctx.n{x:Str}(C:Ctx K mg)(m:x∈Ud:=by decide +kernel):mg x=none:=PySem.W.mg_none_of C.X C.G (C.N.get m)
theorem Ctx.f{x:Str}{n:Nat}{ps:B7}(C:Ctx K mg)(m:(x,n)∈defs:=by decide +kernel)
 (b:∀(kV U pm:a0) (Z:C5) (Y ct:a0) (us:B9),us.length=ps.length->kD (ey x x (b8 (top n)) (bC (top n)) (aK (top n)) .none kV U pm Z Y ct) ⟨us,[]⟩=pure (ps.zip us):=by first | exact ZR (by intros;rfl) rfl | exact R7 (by intros;rfl) rfl | exact aa8 (by intros;rfl) rfl | exact aaV (by intros;rfl) rfl):At K mg x (top n) ps:=(C.F.get m).at C.X C.G b
theorem gY{X:Cx}{O O1:C0}{U:Str->Hp->Prop}{st:Stmt}{rest:C6}(h1:QS X st (tS K .f [] O O1 m1))(Z:QS X st (tZ K O U z1))(Y:QSs X rest (tZ K O1 U z2)):QSs X (st::rest) (tZ K O U (cF m1 z1 z2)):=Xo h1 Z Y
section
variable {P:fF}{w:kn}   {base:Heap}
theorem Pn:fq "all"= some (.builtin "all"):=by decide +kernel
theorem W9:fq "dict"= some (.type "dict"):=by decide +kernel
theorem aaq:fq "int"= some (.type "int"):=by decide +kernel
theorem bY:fq "len"= some (.builtin "len"):=by decide +kernel
theorem xN:fq "list"= some (.type "list"):=by decide +kernel
theorem Q3:fq "sorted"= some (.builtin "sorted"):=by decide +kernel
theorem Hq:fq "sum"= some (.builtin "sum"):=by decide +kernel
theorem lg:fq "tuple"= some (.type "tuple"):=by decide +kernel
theorem iJ(C:Ctx K mg):Def P w K mg base 1 "row_count" ["inputs"] (spF K [.CC] .f dH):=
 cB (top 6) ["inputs", "count", "j"] [.CC,.CD,.CD] C.f λnd U=>
 (aW (aV 1 nd km)
  (aW (iu [2] (jE rfl C.n (ao 0)) (dg 2 nd) (aB (aV 1 nd (aX wJ sI (ao 1)))))
  (aB (bB (aU 1)))))
theorem Bq(C:Ctx K mg):Def P w K mg base 1 "table_limit" ["inputs"] (spF K [.CC] .f kO):=
 cB (top 7) ["inputs", "limit", "j"] [.CC,.CD,.CD] C.f λnd U=>
 (aW (aV 1 nd km)
  (aW (iu [2] (jE rfl C.n (ao 0)) (dg 2 nd) (aB (aV 1 nd (aX wJ (ao 1) (ao 1)))))
  (aB (bB (aU 1)))))
theorem Ea(C:Ctx K mg):Def P w K mg base 2 "full_table" ["inputs"] (spF K [.CC] .f mC):=
 cB (top 8) ["inputs"] [.CC] C.f λnd U=>
 (aB (bB (aX wN (sp (bO (Bq C) U (aC 0 az))) sI)))
theorem PL(C:Ctx K mg):Def P w K mg base 1 "bit" ["number", "place"] (spF K [.CC,.CC] .f Ad):=
 cB (top 9) ["number", "place"] [.CC,.CC] C.f λnd U=>
 (aB (bB (aX qp (sp (aX Ig (ao 0) (ao 1))) sI)))
theorem G8(C:Ctx K mg):Def P w K mg base 1 "number_of" ["figures"] (spF K [.CC] .f nA):=
 cB (top 10) ["figures", "number", "figure"] [.CC,.CD,.CD] C.f λnd U=>
 (aW (aV 1 nd km)
  (aW (iu [2] (aaI rfl C.n (kh 0)) (dg 2 nd) (aB (aV 1 nd (aX cU (sp (aX wJ sI (ao 1))) (ao 2)))))
  (aB (bB (aU 1)))))
theorem Be(C:Ctx K mg):Def P w K mg base 2 "input_table" ["inputs", "j"] (spF K [.CC,.CC] .f kY):=
 cB (top 11) ["inputs", "j"] [.CC,.CC] C.f λnd U=>
 (aB (bB (bO (G8 C) U (aY (sfp (eN ["row"] [1] rfl rfl rfl rfl (by decide) (v5 rfl C.n (sp (bO (iJ C) U (aC 0 az)))) (λ_ _ _ _ _=>(cV 0 (show ip (["row", "j"]:B7) by decide +kernel) rfl (kx rfl))) (λ_ _ _ _ _=>eF) (λ_ _ _ _ _=>(bO (PL C) U (aC 0 (aC 1 az)))))) az))))
theorem gJ(C:Ctx K mg):Def P w K mg base 3 "input_tables" ["inputs"] (spF K [.CC] .t cP):=
 cB (top 12) ["inputs"] [.CC] C.f λnd U=>
 (aB (Kh (eN ["j"] [0] rfl rfl rfl rfl (by decide) (v5 rfl C.n (ao 0)) (λ_ _ _ _ _=>(cV 0 (show ip (["j", "inputs"]:B7) by decide +kernel) rfl (kx rfl))) (λ_ _ _ _ _=>eF) (λ_ _ _ _ _=>(bO (Be C) U (aC 1 (aC 0 az)))))))
theorem zr(C:Ctx K mg):Def P w K mg base 2 "put_all" ["gate", "numbers", "full"] (spF K [.CC,.CC,.CC] .f ou):=
 cB (top 13) ["gate", "numbers", "full", "given", "number"] [.CC,.CC,.CC,.CD,.CD] C.f λnd U=>
 (aW (aV 3 nd (sfe (eN ["place"] [2,0] rfl rfl rfl rfl (by decide) (v5 rfl C.n (sp (bO (iJ C) U (aY (sp (sx 0)) az)))) (λ_ _ _ _ _=>(cV 0 (show ip (["place", "full", "gate"]:B7) by decide +kernel) rfl (kx rfl))) (λ_ _ _ _ _=>eF) (λ_ _ _ _ _=>(aX wJ (ao 1) (sp (bO (PL C) U (aY (sp (sx 2)) (aC 0 az)))))))))
  (aW (iu [4] (fO (kh 1)) (dg 4 nd) (aB (aV 3 nd (sfe (eN ["k"] [3,4] rfl rfl rfl rfl (by decide) (Qp rfl C.n sI (sp (aZ dN rfl C.n bY (aC 3 az))) sI) (λ_ _ _ _ _=>(cV 0 (show ip (["k", "given", "number"]:B7) by decide +kernel) rfl (kx rfl))) (λ_ _ _ _ _=>eF) (λ_ _ _ _ _=>(aX VL (sp (aX qp (sp (eQ (ao 1) (ao 0))) (sp (aa6 (ao 2))))) (sp (aX qp (sp (eQ (ao 1) (sp (aX cU (ao 0) sI)))) (ao 2))))))))))
  (aB (bB (sx 3)))))
theorem HJ(C:Ctx K mg):Def P w K mg base 3 "put" ["gate", "tables", "inputs"] (spF K [.CC,.CC,.CC] .f uC):=
 cB (top 14) ["gate", "tables", "inputs"] [.CC,.CC,.CC] C.f λnd U=>
 (aB (bB (bO (zr C) U (aC 0 (aC 1 (aY (sp (bO (Ea C) U (aC 2 az))) az))))))
theorem Jg(C:Ctx K mg):Def P w K mg base 1 "gathered" ["width", "rows"] (spF K [.CD,.CC] .f lR):=
 cB (top 18) ["width", "rows"] [.CD,.CC] C.f λnd U=>
 (aB (bB (bh (aF (aU 0) (aF (lu mW rfl C.n lg (aY (sfp (wy rfl rfl C.n rfl C.n (ao 1))) az)) aH)))))
theorem rG(C:Ctx K mg):Def P w K mg base 3 "put_rows" ["gate", "rows", "width"] (spF K [.CC,.CC,.CC] .f jg):=
 cB (top 19) ["gate", "rows", "width"] [.CC,.CC,.CC] C.f λnd U=>
 (aB (bB (bO (zr C) U (aC 0 (aC 1 (aY (sp (aX wN (sp (bO (iJ C) U (aC 2 az))) sI)) az))))))
theorem R4(C:Ctx K mg):Def P w K mg base 1 "power" ["base", "exponent"] (spF K [.CC,.CC] .f wZ):=
 cB (top 20) ["base", "exponent", "product", "j"] [.CC,.CC,.CD,.CD] C.f λnd U=>
 (aW (aV 2 nd km)
  (aW (iu [3] (jE rfl C.n (ao 1)) (dg 3 nd) (aB (aV 2 nd (aX wJ (ao 0) (ao 2)))))
  (aB (bB (aU 2)))))
theorem oH(C:Ctx K mg):Def P w K mg base 2 "list_count" ["count", "gates"] (spF K [.CC,.CC] .f gq):=
 cB (top 21) ["count", "gates"] [.CC,.CC] C.f λnd U=>
 (aB (bB (aZ (Hw rfl) rfl C.n Hq (aY (sfp (eN ["gate"] [0] rfl rfl rfl rfl (by decide) (iI (ao 1)) (λ_ _ _ _ _=>(cV 0 (show ip (["gate", "count"]:B7) by decide +kernel) rfl (kx rfl))) (λ_ _ _ _ _=>eF) (λ_ _ _ _ _=>(bO (R4 C) U (aC 1 (aY (sp (sx 0)) az)))))) az))))
theorem yl(C:Ctx K mg):Def P w K mg base 1 "lists_of" ["choices"] (spF K [.CC] .f lQ):=
 cB (top 22) ["choices", "lists", "rows", "longer", "chosen", "row"] [.CC,.CD,.CD,.own,.CD,.CD] C.f λnd U=>
 (cz (aV 1 nd (sfe (bA (aF (sfe (bA aH)) aH))))
  (cz (mD mf rfl [2,3,4,5] (Oe:=[.CC,.CD,.CD,.CD,.CD,.CD]) (fO (kh 0)) (dg 2 nd) (cz (jd 3 nd (bA aH))
  (cz (mD mf rfl [4,5] (Oe:=[.CC,.CD,.CD,.own,.CD,.CD]) (fO (kh 1)) (dg 4 nd) (aB (mD mf rfl [5] (Oe:=[.CC,.CD,.CD,.own,.CD,.CD]) (fO (kh 2)) (dg 5 nd) (aB (qt 3 (aX cU (ao 4) (sfp (bA (aF (aU 5) aH)))))) (by decide))) (by decide))
  (aB (Oj 3 (O2:=[.CC,.CD,.CD,.CD,.CD,.CD]) (aV 1 nd (aU 3)))))) (by decide))
  (aB (bB (aU 1)))))
theorem sV(C:Ctx K mg):Def P w K mg base 2 "fresh_lists" ["old", "fresh", "length"] (spF K [.CD,.CD,.CC] .t jl):=
 cB (top 23) ["old", "fresh", "length", "lists", "place"] [.CD,.CD,.CC,.own,.CD] C.f λnd U=>
 (aW (jd 3 nd (bA aH))
  (aW (iu [4] (jE rfl C.n (ao 2)) (dg 4 nd) (aB (W5 3 (bO (yl C) U (aY (sp (aX cU (sp (aX cU (sfp (Ff (bA (aF (aU 0) aH)) (ao 4))) (sfp (bA (aF (aU 1) aH))))) (sfp (Ff (bA (aF (aX cU (ao 0) (ao 1)) aH)) (sp (aX wN (sp (aX wN (ao 2) (ao 4))) sI)))))) az)))))
  (aB (pF 3))))
theorem oR(C:Ctx K mg):Def P w K mg base 4 "given_rows" ["gates", "old", "fresh", "width"] (spF K [.CC,.CD,.CD,.CC] .t gB):=
 cB (top 24) ["gates", "old", "fresh", "width", "rows", "gate", "chosen"] [.CC,.CD,.CD,.CC,.own,.CD,.CD] C.f λnd U=>
 (aW (jd 4 nd (bA aH))
  (aW (iu [5,6] (fO (kh 0)) (dg 5 nd) (aB (iu [6] (fO (sq (sfe (gZ (sV C) U (d9 (aU 1) (d9 (aU 2) (aY (sp (sx 5)) az))))))) (dg 6 nd) (aB (qt 4 (bO (rG C) U (aC 5 (aC 6 (aC 3 az)))))))))
  (aB (pF 4))))
theorem nZ:cO ["count", "gates"] ["count", "gates"] (aK (top 25)):=sck
theorem mK(C:Ctx K mg):DefX P w K mg base 3 "refuse_too_many" ["count", "gates"] (spZ K [.CC,.CC] (clL [("NotMade",C.cZ),("TooBig",C.dY),("TooMany",C.cW)]) dC):=
 sY (N:=["count", "gates"]) (fs:=[.CC,.CC]) (O:=[.CC,.CC]) (C.f (n:=25)) nZ rfl (by decide) (by decide) λf Y A CU s H E U=>
 (gY (cT (lO (oY (cu fV (ao 0) (sp (jW rfl C.jQ C.jF (λ_=>Rp.int.mpr rfl)))) (qd (cu fV (sp (bO (oH C) U (aC 0 (aC 1 az)))) (sp (jW rfl C.qx C.pI (λ_=>Rp.int.mpr rfl))))))) (aB mF) cL) (MN (lO (oY (cu fV (ao 0) (sp (jW rfl C.jQ C.jF (λ_=>Rp.int.mpr rfl)))) (qd (cu fV (sp (bO (oH C) U (aC 0 (aC 1 az)))) (sp (jW rfl C.qx C.pI (λ_=>Rp.int.mpr rfl))))))) (gY (O1:=[]) mF (wI rfl rfl C.lD C.Mz uB (kI (by decide +kernel) (kI (by decide +kernel) oE))) gM) gM) gM)
theorem cI(C:Ctx K mg):Def P w K mg base 3 "refuse_too_many" ["count", "gates"] (spF K [.CC,.CC] .f bx):=
 WT (N:=["count", "gates"]) (fs:=[.CC,.CC]) (O:=[.CC,.CC]) (O':=[.CC,.CC]) (Ol:=[]) (rm:=.f) (C.f (n:=25)) nZ rfl (by decide) (by decide) (hrm:=rfl) (hbody:=λf U A CU s H E Y=>
 (aB (cT (lO (oY (cu fV (ao 0) (sp (jW rfl C.jQ C.jF (λ_=>Rp.int.mpr rfl)))) (qd (cu fV (sp (bO (oH C) Y (aC 0 (aC 1 az)))) (sp (jW rfl C.qx C.pI (λ_=>Rp.int.mpr rfl))))))) (aB mF) cL)))
theorem fG:cO ["relation", "gates", "width", "constants", "old", "fresh", "given"] ["relation", "gates"] (aK (top 26)):=sck
theorem Mr(C:Ctx K mg):DefX P w K mg base 5 "closed" ["relation", "gates"] (spZ K [.CC,.CC] (clL [("NotMade",C.cZ),("TooBig",C.dY),("TooMany",C.cW)]) yR):=
 sY (N:=["relation", "gates", "width", "constants", "old", "fresh", "given"]) (fs:=[.CC,.CC]) (O:=[.CC,.CC,.CD,.CD,.CD,.CD,.CD]) (C.f (n:=26)) fG rfl (by decide) (by decide) λf Y A CU s H E U=>
 (gY (aV 2 fG.nd (sx 0)) qZ (gY (JR 3 ["gate"] [2] fG.nd rfl (kx rfl) rfl rfl rfl rfl (by decide) (iI (ao 1)) (λ_ _ _ _ _=>(cV 0 (show ip (["gate", "width"]:B7) by decide +kernel) rfl (kx rfl))) (λ_ _ _ _ _=>(pO (cu (jz U.units) (sp (sx 0)) sI))) (λ_ _ _ _ _=>(bO (rG C) U (aC 0 (aY (sfp (bA aH)) (aC 1 az)))))) qZ (gY (aV 4 fG.nd (sfe (bA aH))) qZ (gY (aV 5 fG.nd (sfe (wy rfl rfl C.n rfl C.n (sp (aX cU (sfp (n8 By rfl C.n xN (aY (sp (sx 0)) az))) (ao 3)))))) qZ (gY (uE kM 1000000 [6] (Oe:=[.CC,.CC,.CD,.own,.CD,.CD,.CD]) (cu fV (sp (aZ dN rfl C.n bY (aC 5 az))) sI) (cz (rB (sp (bO (cI C) U (aY (sp (aX cU (sp (aZ dN rfl C.n bY (aC 4 az))) (sp (aZ dN rfl C.n bY (aC 5 az))))) (aC 1 az)))))
  (cz (aV 6 fG.nd (sfe (gZ (oR C) U (aC 1 (d9 (aU 4) (d9 (aU 5) (aC 2 az)))))))
  (cz (aV 4 fG.nd (aX cU (ao 4) (ao 5)))
  (aB (aV 5 fG.nd (sfe (uq rfl rfl C.n rfl C.n (ao 6) (ao 4)))))))) (by decide)) (Fy (rm:=.f) kM 1000000 [6] (Oe:=[.CC,.CC,.CD,.own,.CD,.CD,.CD]) (cu fV (sp (aZ dN rfl C.n bY (aC 5 az))) sI) (cz (rB (sp (bO (cI C) U (aY (sp (aX cU (sp (aZ dN rfl C.n bY (aC 4 az))) (sp (aZ dN rfl C.n bY (aC 5 az))))) (aC 1 az)))))
  (cz (aV 6 fG.nd (sfe (gZ (oR C) U (aC 1 (d9 (aU 4) (d9 (aU 5) (aC 2 az)))))))
  (cz (aV 4 fG.nd (aX cU (ao 4) (ao 5)))
  (aB (aV 5 fG.nd (sfe (uq rfl rfl C.n rfl C.n (ao 6) (ao 4)))))))) (gY (rB (sp (bO (cI C) U (aY (sp (aX cU (sp (aZ dN rfl C.n bY (aC 4 az))) (sp (aZ dN rfl C.n bY (aC 5 az))))) (aC 1 az))))) (V4 (mK C) (U.mono (by decide)) rfl (aY (sp (aX cU (sp (aZ dN rfl C.n bY (aC 4 az))) (sp (aZ dN rfl C.n bY (aC 5 az))))) (aC 1 az)) lZ) gM) (by decide)) gM)))))
theorem Dm(C:Ctx K mg):Def P w K mg base 5 "closed" ["relation", "gates"] (spF K [.CC,.CC] .f ig):=
 cB (top 26) ["relation", "gates", "width", "constants", "old", "fresh", "given"] [.CC,.CC,.CD,.CD,.CD,.CD,.CD] C.f λnd U=>
 (cz (aV 2 nd (sx 0))
  (cz (JR 3 ["gate"] [2] nd rfl (kx rfl) rfl rfl rfl rfl (by decide) (iI (ao 1)) (λ_ _ _ _ _=>(cV 0 (show ip (["gate", "width"]:B7) by decide +kernel) rfl (kx rfl))) (λ_ _ _ _ _=>(pO (cu (jz U.units) (sp (sx 0)) sI))) (λ_ _ _ _ _=>(bO (rG C) U (aC 0 (aY (sfp (bA aH)) (aC 1 az))))))
  (cz (aV 4 nd (sfe (bA aH)))
  (cz (aV 5 nd (sfe (wy rfl rfl C.n rfl C.n (sp (aX cU (sfp (n8 By rfl C.n xN (aY (sp (sx 0)) az))) (ao 3))))))
  (cz (uE mf 1000000 [6] (Oe:=[.CC,.CC,.CD,.own,.CD,.CD,.CD]) (cu fV (sp (aZ dN rfl C.n bY (aC 5 az))) sI) (cz (rB (sp (bO (cI C) U (aY (sp (aX cU (sp (aZ dN rfl C.n bY (aC 4 az))) (sp (aZ dN rfl C.n bY (aC 5 az))))) (aC 1 az)))))
  (cz (aV 6 nd (sfe (gZ (oR C) U (aC 1 (d9 (aU 4) (d9 (aU 5) (aC 2 az)))))))
  (cz (aV 4 nd (aX cU (ao 4) (ao 5)))
  (aB (aV 5 nd (sfe (uq rfl rfl C.n rfl C.n (ao 6) (ao 4)))))))) (by decide))
  (aB (bB (bO (Jg C) U (d9 (aU 2) (aC 4 az))))))))))
theorem R3:cO ["waiting", "table", "way"] ["waiting", "table", "way"] (aK (top 29)):=sck
theorem pN(C:Ctx K mg):Def P w K mg base 1 "offer" ["waiting", "table", "way"] (spM K [.CC,.CD,.CD] 0 jq):=
 Sv (N:=["waiting", "table", "way"]) (fs:=[.CC,.CD,.CD]) (O:=λp=>[.fix p,.CD,.CD]) (O':=λp=>[.fix p,.CD,.CD]) (Ol:=[]) (j:=0) (C.f (n:=29)) R3 rfl (by decide) (λ_=>rfl) (λp=>of_decide_eq_true rfl) (λ_=>rfl) λp f Y A CU s H E U=>
 (aB (cT (lO (oY (my (iT U.cH) (ao 1) (ao 0) rfl) (qd (cu t8 (sp (sx 2)) (sp (eQ (sp (kE U.cH (ao 0) (ao 1) (λ_ _=>rfl))) sI)))))) (aB (BV 0 U.cH (aU 1) (aU 2))) cL))
theorem vh(C:Ctx K mg):Def P w K mg base 4 "first_ways" ["gates", "inputs"] (spF K [.CC,.CC] .t iM):=
 cB (top 30) ["gates", "inputs", "waiting", "table", "gate"] [.CC,.CC,.own,.CD,.CD] C.f λnd U=>
 (aW (jd 2 nd xj)
  (aW (iu [3] (fO (sq (sfe (gZ (gJ C) U (aC 1 az))))) (dg 3 nd) (aB (wM 2 (rZ 2 (pN C) (U.mono (by decide)) rfl (vp 2 (j7 (aU 3) (j7 (bh (bj (aF gA (aF (bh aH) aH)))) vz))) rfl rfl rfl (by decide)))))
  (aW (iu [4] (fO (kh 0)) (dg 4 nd) (aB (cT (cu (jz U.units) (sp (sx 4)) sI) (aB (wM 2 (rZ 2 (pN C) (U.mono (by decide)) rfl (vp 2 (j7 (bO (HJ C) U (aC 4 (aY (sfp (bA aH)) (aC 1 az)))) (j7 (bh (bj (aF (aU 4) (aF (bh aH) aH)))) vz))) rfl rfl rfl (by decide)))) cL)))
  (aB (pF 2)))))
theorem pM(C:Ctx K mg):Def P w K mg base 4 "ways_from" ["found", "table", "gate", "inputs"] (spF K [.CC,.CD,.CD,.CC] .t f9):=
 cB (top 31) ["found", "table", "gate", "inputs", "old", "told", "chosen", "given", "cost"] [.CC,.CD,.CD,.CC,.CD,.own,.CD,.CD,.CD] C.f λnd U=>
 (cz (Uq 0 4 ["known"] [1] rfl nd rfl (kx rfl) rfl rfl rfl rfl (by decide) (Wz 0) (λ_ _ _ _ _=>(cV 0 (show ip (["known", "table"]:B7) by decide +kernel) rfl (kx rfl))) (λ_ _ _ _ _=>(pO (cu (zc U.units) (ao 0) (ao 1)))) (λ_ _ _ _ _=>(aU 0)))
  (cz (jd 5 nd (bA aH))
  (cz (Oj 4 (O2:=[.CC,.CD,.CD,.CC,.CD,.own,.CD,.CD,.CD]) (mD mf rfl [6,7,8] (Oe:=[.CC,.CD,.CD,.CC,.CD,.own,.CD,.CD,.CD]) (fO (sq (sfe (gZ (sV C) U (d9 (aU 4) (d9 (sfe (bA (aF (aU 1) aH))) (aY (sp (sx 2)) az))))))) (dg 6 nd) (cz (aV 7 nd (bO (HJ C) U (aC 2 (aC 6 (aC 3 az)))))
  (aB (cT (my (iT U.cH) (ao 7) (ao 0) rfl) (cz (aV 8 nd (aX cU sI (sp (aZ (Hw rfl) rfl C.n Hq (aY (sfp (eN ["part"] [0] rfl rfl rfl rfl (by decide) (iI (ao 6)) (λ_ _ _ _ _=>(cV 0 (show ip (["part", "found"]:B7) by decide +kernel) rfl (kx rfl))) (λ_ _ _ _ _=>eF) (λ_ _ _ _ _=>(eQ (sp (kE U.cH (ao 1) (ao 0) (λ_ _=>rfl))) sI)))) az)))))
  (aB (qt 5 (bh (aF (aU 7) (aF (bh (aF (aU 8) (aF (aU 2) (aF (lu mW rfl C.n lg (aC 6 az)) aH)))) aH)))))) cL))) (by decide)))
  (aB (pF 5)))))
theorem dz:cO ["gates", "inputs", "found", "waiting", "table", "gate", "given", "way"] ["gates", "inputs"] (aK (top 32)):=sck
theorem G7(C:Ctx K mg):DefX P w K mg base 5 "ways" ["gates", "inputs"] (spZ K [.CC,.CC] (clL [("NotMade",C.cZ),("TooBig",C.dY),("TooMany",C.cW)]) nM):=
 Uh (N:=["gates", "inputs", "found", "waiting", "table", "gate", "given", "way"]) (fs:=[.CC,.CC]) (O:=[.CC,.CC,.own,.own,.CD,.CD,.CD,.CD]) C.W C.hT dz rfl (by decide) (by decide) λf Z A CU s H E Y U=>
 (gY (jd 2 dz.nd xj) qZ (gY (jd 3 dz.nd (gZ (vh C) U (aC 0 (aC 1 az)))) qZ (gY (uE kM 1000000 [4,5,6,7] (Oe:=[.CC,.CC,.own,.own,.CD,.CD,.CD,.CD]) (cu fV (sp (aZ jw rfl C.n bY (aC 3 az))) sI) (aW (aV 4 dz.nd (wV 3 rfl rfl rfl U rfl Y C.hT rfl rfl C.n rfl rfl rfl rfl rfl (λ_ _ _ _ _ _=>rfl)))
  (aW (qL 2 3 4 U.cH (by decide) (by decide) (by decide))
  (aW (rB (sp (bO (cI C) U (aY (sp (aZ jw rfl C.n bY (aC 2 az))) (aC 0 az)))))
  (aB (mD kM rfl [5,6,7] (Oe:=[.CC,.CC,.own,.own,.CD,.CD,.CD,.CD]) (fO (kh 0)) (dg 5 dz.nd) (aB (mD kM rfl [6,7] (Oe:=[.CC,.CC,.own,.own,.CD,.CD,.CD,.CD]) (fO (sq (sfe (gZ (pM C) U (aC 2 (d9 (aU 4) (d9 (aU 5) (aC 1 az)))))))) (qy rfl (jy (dg 6 dz.nd) (jy (dg 7 dz.nd) mO))) (aB (wM 3 (rZ 3 (pN C) (U.mono (by decide)) rfl (vp 3 (j7 (aU 6) (j7 (aU 7) vz))) rfl rfl rfl (by decide)))) (by decide))) (by decide)))))) (by decide)) (Fy (rm:=.f) kM 1000000 [4,5,6,7] (Oe:=[.CC,.CC,.own,.own,.CD,.CD,.CD,.CD]) (cu fV (sp (aZ jw rfl C.n bY (aC 3 az))) sI) (aW (aV 4 dz.nd (wV 3 rfl rfl rfl U rfl Y C.hT rfl rfl C.n rfl rfl rfl rfl rfl (λ_ _ _ _ _ _=>rfl)))
  (aW (qL 2 3 4 U.cH (by decide) (by decide) (by decide))
  (aW (rB (sp (bO (cI C) U (aY (sp (aZ jw rfl C.n bY (aC 2 az))) (aC 0 az)))))
  (aB (mD kM rfl [5,6,7] (Oe:=[.CC,.CC,.own,.own,.CD,.CD,.CD,.CD]) (fO (kh 0)) (dg 5 dz.nd) (aB (mD kM rfl [6,7] (Oe:=[.CC,.CC,.own,.own,.CD,.CD,.CD,.CD]) (fO (sq (sfe (gZ (pM C) U (aC 2 (d9 (aU 4) (d9 (aU 5) (aC 1 az)))))))) (qy rfl (jy (dg 6 dz.nd) (jy (dg 7 dz.nd) mO))) (aB (wM 3 (rZ 3 (pN C) (U.mono (by decide)) rfl (vp 3 (j7 (aU 6) (j7 (aU 7) vz))) rfl rfl rfl (by decide)))) (by decide))) (by decide)))))) (gY (aV 4 dz.nd (wV 3 rfl rfl rfl U rfl Y C.hT rfl rfl C.n rfl rfl rfl rfl rfl (λ_ _ _ _ _ _=>rfl))) qZ (gY (qL 2 3 4 U.cH (by decide) (by decide) (by decide)) qZ (gY (rB (sp (bO (cI C) U (aY (sp (aZ jw rfl C.n bY (aC 2 az))) (aC 0 az))))) (V4 (mK C) (U.mono (by decide)) rfl (aY (sp (aZ jw rfl C.n bY (aC 2 az))) (aC 0 az)) lZ) gM))) (by decide)) gM)))
theorem xQ(C:Ctx K mg):Def P w K mg base 5 "ways" ["gates", "inputs"] (spF K [.CC,.CC] .t cX):=
 Yv (N:=["gates", "inputs", "found", "waiting", "table", "gate", "given", "way"]) (fs:=[.CC,.CC]) (O:=[.CC,.CC,.own,.own,.CD,.CD,.CD,.CD]) (O':=[]) (Ol:=[]) (rm:=.t) C.W C.hT dz rfl (by decide) (by decide) λf Z A CU s H E Y U=>
 (aW (jd 2 dz.nd xj)
  (aW (jd 3 dz.nd (gZ (vh C) U (aC 0 (aC 1 az))))
  (aW (VR 1000000 [4,5,6,7] (cu fV (sp (aZ jw rfl C.n bY (aC 3 az))) sI) (aW (aV 4 dz.nd (wV 3 rfl rfl rfl U rfl Y C.hT rfl rfl C.n rfl rfl rfl rfl rfl (λ_ _ _ _ _ _=>rfl)))
  (aW (qL 2 3 4 U.cH (by decide) (by decide) (by decide))
  (aW (rB (sp (bO (cI C) U (aY (sp (aZ jw rfl C.n bY (aC 2 az))) (aC 0 az)))))
  (aB (iu [5,6,7] (fO (kh 0)) (dg 5 dz.nd) (aB (iu [6,7] (fO (sq (sfe (gZ (pM C) U (aC 2 (d9 (aU 4) (d9 (aU 5) (aC 1 az)))))))) (qy rfl (jy (dg 6 dz.nd) (jy (dg 7 dz.nd) mO))) (aB (wM 3 (rZ 3 (pN C) (U.mono (by decide)) rfl (vp 3 (j7 (aU 6) (j7 (aU 7) vz))) rfl rfl rfl (by decide))))))))))))
  (aB (pF 2)))))
theorem Iv(C:Ctx K mg):Def P w K mg base 1 "way_tree" ["found", "table"] (spF K [.CC,.CC] .f lV):=
 cB (top 33) ["found", "table", "trees", "known", "way"] [.CC,.CC,.own,.CD,.CD] C.f λnd U=>
 (aW (jd 2 nd xj)
  (aW (Wt 0 rfl (by repeat first | exact adF | exact adG | exact adE | exact abp | apply adD | apply abE) mf rfl [3,4] (Oe:=[.CC,.CC,.own,.CD,.CD]) (Vk 0) (qy rfl (jy (dg 3 nd) (jy (dg 4 nd) mO))) (aB (cT (cu zq (sp (sx 4)) (sp gA)) (aB (BV 2 U.cH (aU 3) (aZ jw rfl C.n bY (aC 2 az)))) (aB (BV 2 U.cH (aU 3) (bh (aF (sx 4) (aF (lu mW rfl C.n lg (aY (sfp (eN ["part"] [2] rfl rfl rfl rfl (by decide) (iI (sp (sx 4))) (λ_ _ _ _ _=>(cV 0 (show ip (["part", "trees"]:B7) by decide +kernel) rfl (kx rfl))) (λ_ _ _ _ _=>eF) (λ_ _ _ _ _=>(kE U.cH (ao 1) (ao 0) (λ_ _=>rfl))))) az)) aH))))))) (by decide))
  (aB (bB (kE U.cH (ao 2) (ao 1) (λ_ _=>rfl))))))
theorem Hl:cO ["gates", "inputs", "found"] ["gates", "inputs"] (aK (top 35)):=sck
theorem Q5(C:Ctx K mg):DefX P w K mg base 6 "paper" ["gates", "inputs"] (spZ K [.CC,.CC] (clL [("NotMade",C.cZ),("TooBig",C.dY),("TooMany",C.cW)]) wW):=
 sY (N:=["gates", "inputs", "found"]) (fs:=[.CC,.CC]) (O:=[.CC,.CC,.CD]) (C.f (n:=35)) Hl rfl (by decide) (by decide) λf Y A CU s H E U=>
 (gY (aV 2 Hl.nd (sfe (gZ (xQ C) U (aC 0 (aC 1 az))))) (Rv (G7 C) (U.mono (by decide)) rfl (aC 0 (aC 1 az)) lZ) gM)
theorem U9(C:Ctx K mg):Def P w K mg base 6 "paper" ["gates", "inputs"] (spF K [.CC,.CC] .t mQ):=
 cB (top 35) ["gates", "inputs", "found"] [.CC,.CC,.CD] C.f λnd U=>
 (aW (aV 2 nd (sfe (gZ (xQ C) U (aC 0 (aC 1 az)))))
  (aB (Kh (eN ["table"] [2] rfl rfl rfl rfl (by decide) (iI (sfp (Vq (K5 rfl) rfl C.n Q3 (aC 2 az)))) (λ_ _ _ _ _=>(cV 0 (show ip (["table", "found"]:B7) by decide +kernel) rfl (kx rfl))) (λ_ _ _ _ _=>eF) (λ_ _ _ _ _=>(bh (aF (aU 0) (aF (eQ (sp (kE U.cH (ao 1) (ao 0) (λ_ _=>rfl))) sI) aH))))))))
theorem Ec(C:Ctx K mg):Def P w K mg base 4 "gate_holds" ["gate", "inputs", "costs"] (spF K [.CC,.CC,.CC] .f lN):=
 cB (top 36) ["gate", "inputs", "costs", "chosen", "given"] [.CC,.CC,.CC,.CD,.CD] C.f λnd U=>
 (aW (iu [3,4] (fO (sq (bO (yl C) U (aY (sfp (Ff (bA (aF (sfe (n8 (U7 rfl) rfl C.n xN (aC 2 az))) aH)) (sp (sx 0)))) az)))) (dg 3 nd) (aW (aV 4 nd (bO (HJ C) U (aC 0 (aC 3 (aC 1 az)))))
  (aB (cT (lO (oY (my (iT U.cH) (ao 4) (ao 2) rfl) (qd (cu fV (sp (kE U.cH (ao 2) (ao 4) (λ_ _=>rfl))) (sp (aX cU sI (sp (aZ (Hw rfl) rfl C.n Hq (aY (sfp (eN ["table"] [2] rfl rfl rfl rfl (by decide) (iI (ao 3)) (λ_ _ _ _ _=>(cV 0 (show ip (["table", "costs"]:B7) by decide +kernel) rfl (kx rfl))) (λ_ _ _ _ _=>eF) (λ_ _ _ _ _=>(kE U.cH (ao 1) (ao 0) (λ_ _=>rfl))))) az))))))))) (aB (bB jD)) cL))))
  (aB (bB jD)))
theorem yO(C:Ctx K mg):Def P w K mg base 5 "holds" ["gates", "inputs", "rows"] (spF K [.CC,.CC,.CC] .f jV):=
 cB (top 37) ["gates", "inputs", "rows", "costs"] [.CC,.CC,.CC,.CD] C.f λnd U=>
 (aW (aV 3 nd (sfe (n8 (Td rfl) rfl C.n W9 (aC 2 az))))
  (aW (cT (cu t8 (sp (aZ jw rfl C.n bY (aC 3 az))) (sp (aZ dN rfl C.n bY (aC 2 az)))) (aB (bB jD)) cL)
  (aW (cT (Gn (Gv (aZ (Py rfl) rfl C.n Pn (aY (sfp (eN ["table"] [3] rfl rfl rfl rfl (by decide) (iI (sfp (gZ (gJ C) U (aC 1 az)))) (λ_ _ _ _ _=>(cV 0 (show ip (["table", "costs"]:B7) by decide +kernel) rfl (kx rfl))) (λ_ _ _ _ _=>eF) (λ_ _ _ _ _=>(qu (jz U.units) (sp (W4 U.cH (ao 1) (aU 0))) sI (nU _))))) az)))) (aB (bB jD)) cL)
  (aB (bB (aZ (Py rfl) rfl C.n Pn (aY (sfp (eN ["gate"] [1,3] rfl rfl rfl rfl (by decide) (iI (ao 0)) (λ_ _ _ _ _=>(cV 0 (show ip (["gate", "inputs", "costs"]:B7) by decide +kernel) rfl (kx rfl))) (λ_ _ _ _ _=>eF) (λ_ _ _ _ _=>(bO (Ec C) U (aC 0 (aC 1 (aC 2 az))))))) az)))))))
theorem vd:cO ["gates", "wish", "found"] ["gates", "wish"] (aK (top 38)):=sck
theorem BJ(C:Ctx K mg):DefX P w K mg base 6 "least_tree" ["gates", "wish"] (spZ K [.CC,.CC] (clL [("NotMade",C.cZ),("TooBig",C.dY),("TooMany",C.cW)]) fj):=
 sY (N:=["gates", "wish", "found"]) (fs:=[.CC,.CC]) (O:=[.CC,.CC,.CD]) (C.f (n:=38)) vd rfl (by decide) (by decide) λf Y A CU s H E U=>
 (gY (aV 2 vd.nd (sfe (gZ (xQ C) U (aC 0 (aY (sp (sx 1)) az))))) (Rv (G7 C) (U.mono (by decide)) rfl (aC 0 (aY (sp (sx 1)) az)) lZ) (gY (cT (my (iT U.cH) (sp (sx 1)) (ao 2) rfl) (aB mF) cL) (MN (my (iT U.cH) (sp (sx 1)) (ao 2) rfl) (gY (O1:=[]) mF (wI rfl rfl C.De C.Mw uB oE) gM) gM) (gY (cT (cu fV (sp (eQ (sp (kE U.cH (ao 2) (sp (sx 1)) (λ_ _=>rfl))) sI)) (sp (jW rfl C.pK C.pU (λ_=>Rp.int.mpr rfl)))) (aB mF) cL) (MN (cu fV (sp (eQ (sp (kE U.cH (ao 2) (sp (sx 1)) (λ_ _=>rfl))) sI)) (sp (jW rfl C.pK C.pU (λ_=>Rp.int.mpr rfl)))) (gY (O1:=[]) mF (wI rfl rfl C.yE C.O5 uB (kI (by decide +kernel) oE)) gM) gM) gM)))
theorem DX(C:Ctx K mg):Def P w K mg base 6 "least_tree" ["gates", "wish"] (spF K [.CC,.CC] .f dh):=
 cB (top 38) ["gates", "wish", "found"] [.CC,.CC,.CD] C.f λnd U=>
 (aW (aV 2 nd (sfe (gZ (xQ C) U (aC 0 (aY (sp (sx 1)) az)))))
  (aW (cT (my (iT U.cH) (sp (sx 1)) (ao 2) rfl) (aB mF) cL)
  (aW (cT (cu fV (sp (eQ (sp (kE U.cH (ao 2) (sp (sx 1)) (λ_ _=>rfl))) sI)) (sp (jW rfl C.pK C.pU (λ_=>Rp.int.mpr rfl)))) (aB mF) cL)
  (aB (bB (bO (Iv C) U (aC 2 (aY (sp (sx 1)) az))))))))
theorem Bb:cO ["gates", "inputs"] ["gates", "inputs"] (aK (top 40)):=sck
theorem zX(C:Ctx K mg):DefX P w K mg base 6 "tables_made" ["gates", "inputs"] (spZ K [.CC,.CC] (clL [("NotMade",C.cZ),("TooBig",C.dY),("TooMany",C.cW)]) gH):=
 sY (N:=["gates", "inputs"]) (fs:=[.CC,.CC]) (O:=[.CC,.CC]) (C.f (n:=40)) Bb rfl (by decide) (by decide) λf Y A CU s H E U=>
 (gY (O1:=[]) (bB (eQ (sp (bO (Dm C) U (aY (sp (bh (aF (bO (iJ C) U (aC 1 az)) (aF (lu mW rfl C.n lg (aY (sfp (gZ (gJ C) U (aC 1 az))) az)) aH)))) (aC 0 az)))) sI)) (Ry (Mr C) (U.mono (by decide)) rfl (aY (sp (bh (aF (bO (iJ C) U (aC 1 az)) (aF (lu mW rfl C.n lg (aY (sfp (gZ (gJ C) U (aC 1 az))) az)) aH)))) (aC 0 az)) lZ) gM)
theorem Bx(C:Ctx K mg):Def P w K mg base 6 "tables_made" ["gates", "inputs"] (spF K [.CC,.CC] .f du):=
 cB (top 40) ["gates", "inputs"] [.CC,.CC] C.f λnd U=>
 (aB (bB (eQ (sp (bO (Dm C) U (aY (sp (bh (aF (bO (iJ C) U (aC 1 az)) (aF (lu mW rfl C.n lg (aY (sfp (gZ (gJ C) U (aC 1 az))) az)) aH)))) (aC 0 az)))) sI)))
theorem iw(C:Ctx K mg):Def P w K mg base 1 "_law_cell_at" ["_law_script", "_law_k"] (spF K [.CC,.CC] .f b7):=
 cB (top 42) ["_law_script", "_law_k"] [.CC,.CC] C.f λnd U=>
 (aW (cT (cu t8 (ao 1) (sp (aZ dN rfl C.n bY (aC 0 az)))) (aB (bB (eQ (ao 0) (ao 1)))) cL)
  (aB (bB km)))
theorem Nh(C:Ctx K mg):Def P w K mg base 2 "_law_set" ["_law_script"] (spF K [.CC] .t nW):=
 cB (top 43) ["_law_script", "_law_first", "_law_menus", "_law_found", "_law_k", "_law_gate"] [.CC,.CD,.own,.own,.CD,.CD] C.f λnd U=>
 (aW (aV 1 nd (bO (iw C) U (aC 0 (aY sI az))))
  (aW (jd 2 nd (bA (aF (sfe (bA (aF (bh (bj (bj aH))) (aF (bh (bj (bj aH))) (aF (bh (bj (bj aH))) (aF (bh (bj (bj aH))) (aF (bh (bj (bj aH))) (aF (bh (bj (bj aH))) aH)))))))) (aF (sfe (bA (aF (bh (bj (bj aH))) (aF (bh (bj (bj aH))) (aF (bh (bj (bj aH))) (aF (bh (bj (bj aH))) (aF (bh (bj (bj aH))) (aF (bh (bj (bj aH))) aH)))))))) aH))))
  (aW (qt 2 (sfe (bA (aF (bh (bj (bj aH))) (aF (bh (bj (bj aH))) (aF (bh (bj (bj aH))) (aF (bh (bj (bj aH))) (aF (bh (bj (bj aH))) (aF (bh (bj (bj aH))) aH)))))))))
  (aW (jd 3 nd (bA aH))
  (aW (iu [4,5] (jE rfl C.n (sp (aX qH (sp (aX Bd (ao 1) sI)) sI))) (dg 4 nd) (aW (aV 5 nd (eQ (sp (eQ (ao 2) (sp (aX qH (ao 1) sI)))) (sp (aX qH (sp (bO (iw C) U (aC 0 (aY (sp (aX cU sI (ao 4))) az)))) sI))))
  (aW (cT (lO (z8 (cu (jz U.units) (sp (sx 5)) sI) (xO (cu (zc U.units) (sfp (eN ["_law_one"] [] rfl rfl rfl rfl (by decide) (iI (ao 3)) (λ_ _ _ _ _=>(cV 0 (show ip (["_law_one"]:B7) by decide +kernel) rfl (kx rfl))) (λ_ _ _ _ _=>(pO (cu fV (sp (sx 0)) sI))) (λ_ _ _ _ _=>(aU 0)))) (sfp (bA aH)))))) (aB (aV 5 nd (bh (bj (bj aH))))) cL)
  (aW (cT (lO (z8 (cu (jz U.units) (sp (sx 5)) sI) (xO (cu (zc U.units) (sfp (eN ["_law_one"] [] rfl rfl rfl rfl (by decide) (iI (ao 3)) (λ_ _ _ _ _=>(cV 0 (show ip (["_law_one"]:B7) by decide +kernel) rfl (kx rfl))) (λ_ _ _ _ _=>(pO (cu (jz U.units) (sp (sx 0)) sI))) (λ_ _ _ _ _=>(aU 0)))) (sfp (bA aH)))))) (aB (aV 5 nd (bh (bj (bj aH))))) cL)
  (aB (qt 3 (aU 5)))))))
  (aB (pF 3)))))))
theorem Lx(C:Ctx K mg):Def P w K mg base 1 "_law_put" ["_law_gate", "_law_tables_here", "_law_full"] (spF K [.CC,.CC,.CD] .f lG):=
 cB (top 44) ["_law_gate", "_law_tables_here", "_law_full", "_law_found", "_law_row", "_law_part", "_law_k"] [.CC,.CC,.CD,.CD,.CD,.CD,.CD] C.f λnd U=>
 (aW (aV 3 nd km)
  (aW (iu [4,5,6] (jE rfl C.n (sp (eQ (sfp (bA (bj (bj (bj (bj aH)))))) (sp (sx 0))))) (dg 4 nd) (aW (aV 5 nd (aU 2))
  (aW (iu [6] (jE rfl C.n (sp (sx 0))) (dg 6 nd) (aB (cT (cu (jz U.units) (sp (aX qp (sp (aX Ig (ao 4) (ao 6))) sI)) sI) (aB (aV 5 nd (aX qp (ao 5) (sp (eQ (ao 1) (ao 6)))))) (aB (aV 5 nd (aX qp (ao 5) (sp (aX aaz (ao 2) (sp (eQ (ao 1) (ao 6)))))))))))
  (aB (cT (cu (jz U.units) (sp (aX qp (sp (aX Ig (sp (sx 0)) (ao 4))) sI)) sI) (aB (aV 3 nd (aX VL (ao 3) (ao 5)))) cL)))))
  (aB (bB (aU 3)))))
theorem Aj(C:Ctx K mg):Def P w K mg base 2 "_law_reckoned" ["_law_gates", "_law_inputs", "_law_tree_here"] (spF K [.CC,.CC,.CD] .f jU):=
 cB (top 45) ["_law_gates", "_law_inputs", "_law_tree_here", "_law_starts", "_law_size", "_law_values", "_law_jobs", "_law_one", "_law_is_ready", "_law_cut"] [.CC,.CC,.CD,.CD,.CD,.own,.own,.CD,.CD,.CD] C.f λnd U=>
 (aW (aV 3 nd (eQ (sfp (bA (aF (sfe (bA aH)) (aF (sfe (bA (bj aH))) (aF (sfe (bA (bj (bj aH)))) (aF (sfe (bA (bj (bj (bj aH))))) aH)))))) (ao 1)))
  (aW (aV 4 nd km)
  (aW (jd 5 nd (bA aH))
  (aW (jd 6 nd (bA (aF (bh (aF (aU 2) (aF jD aH))) aH)))
  (aW (VR 1000000 [7,8,9] (cu (Zo U.units) (ao 6) (sfp (bA aH))) (aW (Wy 6 (qy rfl (jy (dg 7 nd) (jy (dg 8 nd) mO))))
  (aB (cT (Gv (Rh Ye rfl C.n (ao 7) (Wk rfl C.n aaq))) (aW (cT (Gn (FP acf t8 sI (ao 7) (ao 1))) (aB (bB gA)) cL)
  (aB (qt 5 (eQ (ao 3) (ao 7))))) (aB (cT (abh (ao 8)) (aW (aV 9 nd (aX wN (sp (aZ dN rfl C.n bY (aC 5 az))) (sp (eQ (sp (sx 7)) sI))))
  (aB (jd 5 nd (YZ aay (sp (Em (ao 5) xH (xV (ao 9)))) (sfp (bA (aF (bO (Lx C) U (aY (sp (sx 7)) (aY (sp (Em (ao 5) (xV (ao 9)) xH)) (d9 (eQ (sfp (bA (bj (bj (bj (bj aH)))))) (ao 1)) az)))) aH))))))) (aW (cT (lO (oY (Gn (Gv (Rh O4 rfl C.n (ao 7) (Wk rfl C.n lg)))) (oY (my (iT U.cH) (sp (sx 7)) (ao 0) rfl) (oY (cu (zc U.units) (sp (aZ dN rfl C.n bY (aY (sp (sx 7)) az))) (sp (eQ (sp (sx 7)) sI))) (qd (cu fV (ao 4) sI)))))) (aB (bB gA)) cL)
  (aW (aV 4 nd (aX cU (ao 4) sI))
  (aW (qt 6 (bh (aF (aU 7) (aF jD aH))))
  (aB (aaL 6 (eN ["_law_part"] [] rfl rfl rfl rfl (by decide) (aaW rfl C.n (sp (sx 7))) (λ_ _ _ _ _=>(cV 0 (show ip (["_law_part"]:B7) by decide +kernel) rfl (kx rfl))) (λ_ _ _ _ _=>eF) (λ_ _ _ _ _=>(bh (aF (aU 0) (aF jD aH))))))))))))))))
  (aB (bB (bh (aF (sx 5) (aF (aU 4) aH))))))))))
theorem Ej(C:Ctx K mg):Def P w K mg base 7 "_law_tables" ["_law_gates", "_law_inputs"] (spF K [.CC,.CC] .f iC):=
 cB (top 46) ["_law_gates", "_law_inputs", "_law_found"] [.CC,.CC,.CD] C.f λnd U=>
 (aW (aV 2 nd gA)
  (aW (Bm (la:=[("NotMade",C.cZ),("TooBig",C.dY),("TooMany",C.cW)]) (λ_ _ h=>h) rfl rfl rfl nd (aV 2 nd (bO (Bx C) U (aC 0 (aC 1 az)))) (GX (Bs (λ_ _ h=>h) (zX C) (U.mono (by decide)) rfl (aC 0 (aC 1 az))))
  (.cons (c:= "TooMany") (kI (by decide +kernel) (kI (by decide +kernel) oE)) (.hit rfl C.lD (by decide) C.cY (λ_=>(aB (aV 2 nd gA))))
  .nil))
  (aB (bB (aU 2)))))
theorem Hg(C:Ctx K mg):Def P w K mg base 7 "_law_paper" ["_law_gates", "_law_inputs"] (spF K [.CC,.CC] .f jr):=
 cB (top 47) ["_law_gates", "_law_inputs", "_law_found"] [.CC,.CC,.CD] C.f λnd U=>
 (aW (aV 2 nd gA)
  (aW (Bm (la:=[("NotMade",C.cZ),("TooBig",C.dY),("TooMany",C.cW)]) (λ_ _ h=>h) rfl rfl rfl nd (aV 2 nd (sfe (gZ (U9 C) U (aC 0 (aC 1 az))))) (GX (Bs (λ_ _ h=>h) (Q5 C) (U.mono (by decide)) rfl (aC 0 (aC 1 az))))
  (.cons (c:= "TooMany") (kI (by decide +kernel) (kI (by decide +kernel) oE)) (.hit rfl C.lD (by decide) C.cY (λ_=>(aB (aV 2 nd gA))))
  .nil))
  (aB (bB (aU 2)))))
theorem Jp(C:Ctx K mg):Def P w K mg base 7 "_law_tree" ["_law_gates", "_law_wish"] (spF K [.CC,.CC] .f eE):=
 cB (top 48) ["_law_gates", "_law_wish", "_law_found"] [.CC,.CC,.CD] C.f λnd U=>
 (aW (aV 2 nd (bh (aF mH (aF gA aH))))
  (aW (Bm (la:=[("NotMade",C.cZ),("TooBig",C.dY),("TooMany",C.cW)]) (λ_ _ h=>h) rfl rfl rfl nd (aV 2 nd (bh (aF mH (aF (bO (DX C) U (aC 0 (aC 1 az))) aH)))) (GX (Y5 (Bs (λ_ _ h=>h) (BJ C) (U.mono (by decide)) rfl (aC 0 (aC 1 az)))))
  (.cons (c:= "NotMade") oE (.skip rfl C.lD (by decide) C.eY (.skip rfl C.yE (by decide) C.fP (.hit rfl C.De (by decide) C.fB (λ_=>(aB (aV 2 nd (bh (aF mH (aF gA aH)))))))))
  (.cons (c:= "TooBig") (kI (by decide +kernel) oE) (.skip rfl C.lD (by decide) C.fU (.hit rfl C.yE (by decide) C.gn (λ_=>(aB (aV 2 nd (bh (aF mH (aF gA aH))))))))
  (.cons (c:= "TooMany") (kI (by decide +kernel) (kI (by decide +kernel) oE)) (.hit rfl C.lD (by decide) C.cY (λ_=>(aB (aV 2 nd (bh (aF mH (aF gA aH)))))))
  .nil))))
  (aB (bB (aU 2)))))
theorem vm(C:Ctx K mg):Def P w K mg base 6 "_law_spoilt_holds" ["_law_gates", "_law_inputs", "_law_rows", "_law_cell"] (spF K [.CC,.CC,.CC,.CC] .f fc):=
 cB (top 49) ["_law_gates", "_law_inputs", "_law_rows", "_law_cell", "_law_at", "_law_table", "_law_cost", "_law_more"] [.CC,.CC,.CC,.CC,.CD,.CD,.CD,.CD] C.f λnd U=>
 (aW (aV 4 nd (aX qH (ao 3) (sp (aZ dN rfl C.n bY (aC 2 az)))))
  (aW (Qv (eQ (ao 2) (ao 4)) (qy rfl (jy (dg 5 nd) (jy (dg 6 nd) mO))))
  (aW (aV 7 nd (eQ (sfp (bA (aF (sfe (bA aH)) (aF (sfe (bA (aF (bh (aF (aU 5) (aF (aX cU (ao 6) sI) aH))) aH))) aH)))) (sp (aX qH (sp (aX Bd (ao 3) sI)) sI))))
  (aB (bB (bO (yO C) U (aC 0 (aC 1 (aY (sp (aX cU (sp (aX cU (sp (Em (ao 2) xH (xV (ao 4)))) (ao 7))) (sp (Em (ao 2) (xV (sp (aX cU (ao 4) sI))) xH)))) az)))))))))
theorem lU:cO ["_law_script", "_law_gates", "_law_inputs", "_law_wish", "_law_tables_here", "_law_rows", "_law_word", "_law_tree_here", "_law_cost"] ["_law_script"] (aK (top 50)):=sck
theorem abz(C:Ctx K mg){Y:Addr}{fd:oi}(F:Fun K "law" "law" (top 50) Y fd):oM P w K mg base CX0 8 Y fd ["_law_script"] (spF K [.CC] .f uH):=
 YT (N:=["_law_script", "_law_gates", "_law_inputs", "_law_wish", "_law_tables_here", "_law_rows", "_law_word", "_law_tree_here", "_law_cost"]) (fs:=[.CC]) (O:=[.CC,.CD,.CD,.CD,.CD,.CD,.CD,.CD,.CD]) (O':=[]) (Ol:=[]) (rm:=.f) F lU rfl (by decide) (by decide) λf Z A CU s H E U=>
 (aW (aV 1 lU.nd (sfe (gZ (Nh C) U (aC 0 az))))
  (aW (aV 2 lU.nd (eQ (sfp (bA (bj (bj (bj (bj aH)))))) (sp (aX qH (sp (bO (iw C) U (aC 0 (aY sI az)))) sI))))
  (aW (aV 3 lU.nd (bh (aF (aU 2) (aF (aX qH (sp (aX Bd (sp (bO (iw C) U (aC 0 (aY sI az)))) sI)) (sp (eQ (sfp (bA (bj (bj (bj (bj aH)))))) (ao 2)))) aH))))
  (aW (aV 4 lU.nd (bO (Ej C) U (aC 1 (aC 2 az))))
  (aW (aV 5 lU.nd (bO (Hg C) U (aC 1 (aC 2 az))))
  (aW (Qv (bO (Jp C) U (aC 1 (aC 3 az))) (qy rfl (jy (dg 6 lU.nd) (jy (dg 7 lU.nd) mO))))
  (aW (cT (cu zq (ao 4) (sp gA)) (aB (bB (Q0 (qu zq (ao 5) (sp gA) (nU _)) (Qu (qu (jz U.units) (ao 6) (sp mH) (nU _)))))) cL)
  (aW (cT (lO (oY (cu zq (ao 5) (sp gA)) (qd (cu (zc U.units) (sfp (eN ["_law_row"] [] rfl rfl rfl rfl (by decide) (iI (ao 5)) (λ_ _ _ _ _=>(cV 0 (show ip (["_law_row"]:B7) by decide +kernel) rfl (kx rfl))) (λ_ _ _ _ _=>eF) (λ_ _ _ _ _=>(sx 0)))) (sfp (n8 By rfl C.n xN (aC 4 az))))))) (aB (bB jD)) cL)
  (aW (cT (lO (z8 (cu t8 (sp (aZ dN rfl C.n bY (aC 5 az))) sI) (xO (cu Bf (sp (bO (yO C) U (aC 1 (aC 2 (aC 5 az))))) (sp jD))))) (aB (bB jD)) cL)
  (aW (cT (lO (z8 (FP t8 t8 sI (sp (aZ dN rfl C.n bY (aC 5 az))) sI) (xO (cu Bf (sp (bO (vm C) U (aC 1 (aC 2 (aC 5 (aY (sp (bO (iw C) U (aC 0 (aY sI az)))) az)))))) (sp jD))))) (aB (bB jD)) cL)
  (aW (cT (cu Bf (sp (bO (yO C) U (aY (sfp (bA (aF (bh (bj (bj aH))) aH))) (aY sI (aY (sfp (bA (aF (bh (bj (bj aH))) (aF (bh (bj (bj aH))) (aF (bh (bj (bj aH))) aH))))) az))))) (sp jD)) (aB (bB jD)) cL)
  (aW (cT (my (iT U.cH) (sp (sx 3)) (ao 4) rfl) (aB (bB (qu (jz U.units) (ao 6) (sp mH) (nU _)))) cL)
  (aW (aV 8 lU.nd (eQ (sp (eQ (ao 5) (sp (S9 (sfe (eN ["_law_row"] [] rfl rfl rfl rfl (by decide) (iI (ao 5)) (λ_ _ _ _ _=>(cV 0 (show ip (["_law_row"]:B7) by decide +kernel) rfl (kx rfl))) (λ_ _ _ _ _=>eF) (λ_ _ _ _ _=>(sx 0)))) (sx 3))))) sI))
  (aW (cT (cu fV (ao 8) sI) (aB (bB (qu (jz U.units) (ao 6) (sp mH) (nU _)))) cL)
  (aB (bB (Q0 (qu (jz U.units) (ao 6) (sp mH) (nU _)) (Qu (qu (jz U.units) (sp (bO (Aj C) U (aC 1 (aC 2 (d9 (aU 7) az))))) (sp (bh (aF (sx 3) (aF (aU 8) aH)))) (nU _))))))))))))))))))))
end
theorem all_mk{l:vx}{w:kn}{h:Heap}{fa:Addr}
 (X:K.In h)
 (G:h.Ns fb mg)
 (hfa:mg "law"= some (.ref fa))
 {D:Addr}
 {ady acW:C5}
 {R:Array B8}
 {Q adv acF ac5 H adf:a0}
 {O:Addr}
 {acD M:C5}
 {ac0:Array B8}
 {S L E I C J:a0}
 {j:Tok}
 {q:Tok}
 {p:Tok}
 {Y:Addr}
 {Z:Addr}
 {U:Addr}
 {T:Addr}
 (F:yC K defs) (N:yI K Ud)
 (P:kL K fb "ways"= some (some (.ref D)))
 (l21:K.lookup D=some ⟨Q,ady,.func (ey "ways" "ways" (b8 (top 32)) (bC (top 32)) (aK (top 32)) .none adv acF ac5 acW H adf),R⟩)
 (c21:mS K H "ways"= true)
 (k21:kF K (.ref D)=true)
 (a36:kL K fb "law"= some (some (.ref O)))
 (l36:K.lookup O=some ⟨S,acD,.func (ey "law" "law" (b8 (top 50)) (bC (top 50)) (aK (top 50)) .none L E I M C J),ac0⟩)
 (c36:mS K C "law"= true)
 (k36:kF K (.ref O)=true)
 (i:kL K fb "MOST_CLOSED_ROWS"= some (some (.int 128 j)))
 (o:kL K fb "MOST_GATES"= some (some (.int 300 q)))
 (m:kL K fb "MOST_LISTS"= some (some (.int 20000 p)))
 (x:kL K fb "NotMade"= some (some (.ref Y)))
 (z:kL K fb "TooBig"= some (some (.ref Z)))
 (y:kL K fb "TooMany"= some (some (.ref U)))
 (r:rH K Y)
 (B:rH K Z)
 (u:rH K U)
 (fP:jN K Y Z)
 (eY:jN K Y U)
 (fU:jN K Z U)
 (fB:jj K Y Y)
 (gn:jj K Z Z)
 (cY:jj K U U)
 (yT:nO K D T=true) :
 ∃fd:oi,(∀(s:a8) (v:a0),BindsTo s fd ⟨[v],[]⟩ [("_law_script",v)])/\(∃f,mg "ways"= some (.ref f)/\nO K f T=true)/\∀base:Heap,K.In base->base.Ns fb mg->oM l.prog w K mg base CX0 8 fa fd ["_law_script"] (spF K [.CC] .f uH):=by
 have e:=hfa.symm.trans (kB X G a36);cases e;refine ⟨ey "law" "law" (b8 (top 50)) (bC (top 50)) (aK (top 50)) .none L E I M C J,λs v=>.of_eq rfl,⟨_,kB X G P,yT⟩,λbase _ _=>abz ⟨_,X,G,F,N,At.mk' (kB X G P) l21 c21 k21 (R7 (λ_ _ _ _ _ _ _ _=>rfl) rfl),_,kB X G i,⟨_,rfl⟩,_,kB X G m,⟨_,rfl⟩,_,kB X G x,_,kB X G z,_,kB X G y,u,_,R6 (kB X G P) yT,_,kB X G o,⟨_,rfl⟩,r,B,cY,fP,eY,fU,fB,gn⟩ (G9 (st:=(top 50)) l36 c36 k36)⟩
theorem walk{l:vx}{q:fF}{U:B7}{i:(Str->B8)->Heap->Prop}{d:DefRec}{K:Params->aE}{as:C3}{e:∀P,as=(K P).map (·.1)}{T:Addr}(o:l.most=some 63)(Y:d.params.defaults=[])
 (F:∀(w:kn) (mg:Str->B8) (Z:Addr) (h:Heap),(K w.params).In h->h.Ns fb mg->mg d.name=some (.ref Z) ->
  ∃fd:oi,(∀(s:a8) (u:a0),BindsTo s fd ⟨[u],[]⟩ [("_law_script",u)])/\(∃f,mg "ways"= some (.ref f)/\nO (K w.params) f T=true)/\∀base:Heap,(K w.params).In base->base.Ns fb mg->oM l.prog w (K w.params) mg base CX0 8 Z fd ["_law_script"] (spF (K w.params) [.CC] .f uH)) :
 PySem.W.WalkO q U i (PySem.W.kmHook K as e [T]).says l.row.toRowW d [] (λf vs=>PySem.call f vs):=
 Zq.Tu (n:=63) (k:=8) (x:= "_law_script") (CX:=λ_=>CX0) (sp:=λw=>spF (K w.params) [.CC] .f uH) o (by decide) Y ⟨rfl,by decide,by decide⟩ F (λ_ H a j m p=>K6 (main j m) p) λ_ _ _ _ _ z=>z
end Zq
open PySem PySem.W PyProof.Rows
local macro_rules | `(tactic| walk_at "kf")=>`(tactic| exact Zq.Fnd.mk (by k_is) (by k_is) (by k_is) (by k_is))
structure PySem.W.Fast:Prop where(tw3760827633454252842 tw5205999152291167812 tw16182187521655253935 tw13278803625467050354 tw14233655572529321026 tw8491595477164382134 tw6721229115364761820 tw10287331343469805693 tw1118726618443283929 tw18148845508048740254 tw2632212988561838547 tw8673102155200189734 tw14635276518675703493 tw848572585467696799 tw241337119718971813 tw13568775726532584737 tw12774353991468639125 tw15993022637420811440 tw17088536833701387746 tw4257327137327057728 tw13511677226319319891 tw11271959303584730590 tw14703747314903044184 tw6975973867422698422 tw9773659127417666674 tw419421270460494924 tw13153617915568110539 tw13837896499977665101 tw5362615987481526207 tw16196217363776101715 tw8139489425896258290 tw6521285192046021357 tw4088107183356797504 tw3722692205785004324 tw12847285361210759930 tw15383055934403793974 tw10969275201183653598 tw10310154447435787926 tw9991296750349256975 tw13507648286052789273 tw12247965860978365671 tw8914668430826625032 tw5695158175629391725 tw7642086880266261683 tw7918488082982012361 tw1382102540115391309 tw3859190131247241584 tw8716065528018774132 tw9889638013927798168 tw11600773390582759307 tw17392006553265672553 tw7907016356561064244 tw457386094631957081 tw2516680323489972851 tw13644492676385659254 tw6392283279817510032 tw1064165433437162494 tw8951118771014553721 tw9122819489633858391 tw1101273895226334834 tw17251076078870442465 tw3248857179869146494 tw11657267051968640505 tw11699776627409616684 tw1217152196966633425 tw3310848303018239566 tw13835624285604513597 tw16265923712724484886 tw14417310870277811668 tw470556288391710126 tw3548373218974330566 tw1175228965555959100 tw1748300544074554516 tw9212016914039250245 tw7131256639352894373 tw5329791770478113045 tw8165719276264288465 tw11961198123408389189 tw3319306039828942419 tw803443800843883559 tw839498816762533399 tw13817813332325371290 tw11610647349285868736 tw11775853965626914277 tw1728590006864488115 tw9847690073016897386 tw17947519474246226416 tw3617011914010973180 tw461042056196980478 tw16267160230017819557 tw15373578740099551578 tw11617138949217163916 tw16728282532402289810 tw10128371795886332390 tw8156419552994676606 tw15178750350732008548 tw11569590557377199142 tw17523810922023486503 tw2307416778382810644 tw4531087839205006239 tw9337173659438882470 tw7000045786100455289 tw18018760060879195833 tw8651429022222846956 tw3619467194517712199 tw181483219003850663 tw1921497952552257877 tw5856552081793378441 tw13305657601082394855 tw2004730026825815318 tw10512844793263244095 tw12904948215541091789 tw17442150570665685621 tw14240549512059708435 tw8748415155827139169 tw14169040974665935519 tw6680521213933307112 tw9634179020200085855 tw9231420235797841340 tw5804669314200443294 tw18164127243917859859 tw389569996793595451 tw2118350783811969090 tw17769956046433125341 tw17249574146084544408 tw16719563711756049800 tw14927517680581710998 tw11228300464521401254 tw13092690732734766411 tw17049542963297859087 tw5090468249955614160 tw436745722528635924 tw18092638214894662378 tw11764711418621455801 tw8209073634797390702 tw5153755210118490708 tw17220177390108380882 tw9140836016483022889 tw18082029220807022982 tw6051414615131641255 tw6023657789766222514 tw3941353180202962520 tw12302184666352787937 tw7677794984501787821 tw9447861745984819043 tw8461902682981707770 tw2115055908093591231 tw14604671101399828974 tw12443638966070066003 tw9160835892611119078 tw17340210013604451863 tw5994994346487862941 tw17280405937607029574 tw17806209487495670048 tw5689265075985493468 tw16115725541147811667 tw1779034277973808855 tw7735105544660580486 tw12714288442951920160 tw5448582330167317524 tw149314293538660243 tw9795385569272001562 tw6662155415180615791 tw11197698162232542222 tw1286900335199893677 tw13253965462044710024 tw15104136733043525220 tw2164221187327386420 tw5940251667256673887 tw1383485498488875930 tw12595609826015393140 tw10155957712643032082 tw15435377945068186827 tw14305277744257309303 tw2020928601328255231 tw16436396535792975592 tw15914654331632664545 tw5458908296036708314 tw10439234412829371473 tw6485622581279732602 tw16951486749089474830 tw12176466409581637265 tw16363310724438395882 tw15009367165525275746 tw5000605847302164120 tw10107468452849307563 tw10865738282849110314 tw6504378383293429910:True)
set_option maxRecDepth 100000 in
set_option maxHeartbeats 0 in
theorem PySem.Challenge.cw_gatekin_k54_papers_refused_holds : PySem.Challenge.rw_gatekin_k54_papers_refused.Holds := by
 w_on; o_law; k_head; (case hw => w_witness2)
 k_fill
 refine Zq.walk (l := PySem.Challenge.rw_gatekin_k54_papers_refused) rfl rfl ?F
 case F =>
  intro w mg fa h KX G hmg
  refine' Zq.all_mk KX G hmg ?hFF ?hNN ?a21 ?l21 ?c21 ?k21 ?a36 ?l36 ?c36 ?k36 ?wF ?FQ ?FW ?NB ?Om ?Li ?M6 ?QR ?Nf ?fP ?eY ?fU ?fB ?gn ?cY ?yT
  (case hFF => ((repeat refine .cons (by walk_at "kf") ?_); exact .nil))
  (case hNN => ((repeat refine .cons (by k_is) ?_); exact .nil))
  (case a21 => k_is)
  (case l21 => k_is)
  (case c21 => k_is)
  (case k21 => k_is)
  (case a36 => k_is)
  (case l36 => k_is)
  (case c36 => k_is)
  (case k36 => k_is)
  (case wF => k_is)
  (case FQ => k_is)
  (case FW => k_is)
  (case NB => k_is)
  (case Om => k_is)
  (case Li => k_is)
  (case M6 => (show PySem.W.excIn _ _ _ _ = true); k_exc)
  (case QR => (show PySem.W.excIn _ _ _ _ = true); k_exc)
  (case Nf => (show PySem.W.excIn _ _ _ _ = true); k_exc)
  (case fP => exact ⟨Option.isSome_of_eq_some (by k_is), by k_is, by k_is, by k_is⟩)
  (case eY => exact ⟨Option.isSome_of_eq_some (by k_is), by k_is, by k_is, by k_is⟩)
  (case fU => exact ⟨Option.isSome_of_eq_some (by k_is), by k_is, by k_is, by k_is⟩)
  (case fB => exact ⟨Option.isSome_of_eq_some (by k_is), by k_is, by k_is, by k_is⟩)
  (case gn => exact ⟨Option.isSome_of_eq_some (by k_is), by k_is, by k_is, by k_is⟩)
  (case cY => exact ⟨Option.isSome_of_eq_some (by k_is), by k_is, by k_is, by k_is⟩)
  (case yT => rfl)
