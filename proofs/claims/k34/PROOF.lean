import PyProof.Rows.All
import Wide.All
import OpenK.AllK
import Wide.FinOn
import Lean
import PyProof.EqAt
import PyProof.EqKinds
import PyProof.TupleCall
import PySem.Challenge.RW_gatekin_k34_whole_kept_by_what_is_made
open PySem renaming PyData->ab,wpAny_bind->af,wpAny_pure->aS,Value->bg,sizeLine->bt,Shared->cy,wpAny->de,model->dn,starEach->dr,bootBuiltins->eI,SetTable->eP,wpAny_call_entry->fb,mainGlobals->ff,wpAny_callSpecial?_slot->fm,wpAny_seqItems->fv,compareOp->fR,binaryOp->fS,Program->gi,sysModules->gu,Around->gx,NameKind->gz,mem_of_lookup->gE,wpAny_mono->gL,wpAny_newObj_type->hF,swapsWith->hV,rawInt->ia,foldedSetIterable->iP,Paired->i6,wpAny_holding->i8,wpAny_specialOf->j1,cLine->kb,wpAny_isInstance->ko,World->kz,bindArgs->kA,codeAny_builtin->kD,cellsFrom->kG,wpAny_field->kX,wpAny_truthy_bool->k7,attributeBase->l5,wpAny_of_eq->l6,plainId_quiet->l7,wpAny_setField->mi,wpAny_pyIter_tuple->ml,wpAny_setField_rec->mr,intKind->mu,getitemInPython_of_ne->mB,backTo->mI,wpAny_passesOwn->mS,wpAny_letTemporaryGo->ng,wpAny_setState_of->nh,assignEach->nr,wpAny_setEntries_of->ny,FuncData->nz,isSubtype_type->nI,wpAny_Call_Name_kw->nS,wpAny_updateSeq->n9,behindInMarks->oe,wpAny_attempt->og,IsPair->oj,Keyword->om,keywordEach->ox,subscripted->oz,wpAny_tryCatch->oD,atKey->pd,wpAny_operating->pw,builtinsNs->pz,wpAny_rule->pE,tupleKind_room_in1->pS,tupleKind->pV,DictEntry->qa,wpAny_letGo->qc,wpAny_pyIter_enum->qq,letTemporaryGo->qr,tupleKeyHash->qA,wpAny_pyIter_slot->rg,isSubtype_tuple_tuple->ro,builtinLookup_eq_fast->rq,wpAny_forIn_list->rV,codeAny->sd,wpAny_updateSeq_pair->si,wpAny_execs_nil->sA,wpAny_loadPart'->sF,hashInt->ti,codeAny_mono->tj,PassesOwn->tz,Scope->tJ,backToKw->ua,isSubtype_stop->uk,wpAny_getItem_heap->uu,wpAny_tupleItemsOf->uS,wpAny_fieldsOf->vl,valueAt->vx,storedH->vE,wpAny_pyIter_list->vF,pyNext->wd,wpAny_onRaise->wx,codeAmong->xa,noFill_tuple_add->xb,wpAny_askSetting->xk,IsZip->xl,wpAny_Name->xA,concat_meets->xC,getItem->xD,call_meets->xE,closureFor->xS,reduceHash->x2,letOwnedTupleGo->x8,typeLookup_type->yb,wpAny_ite_split->yi,pyIter->yv,callerA->yB,argsOk->y6
open List renaming getD_eq_getElem?_getD->ae,length_map->ag,length_append->ai,getElem?_eq_getElem->av,mem_singleton->aw,replicate->aI,getElem?_eq_some_iff->a0,getElem?_map->ba,map_append->be,length_cons->bo,map_cons->bq,mem_cons_self->br,getElem?_append_right->bE,mem_map->bX,mem_cons->b9,mem_cons_of_mem->cc,length_replicate->cf,mem_append->ck,map_congr_left->cp,length_range->cq,getElem?_append_left->cE,length_singleton->cK,mem_append_right->c6,append_nil->c8,map_map->c9,mem_append_left->da,length_take->dc,append_assoc->dy,size_toArray->dA,getElem?_eq_none->d3,take_length->d4,mem_of_getElem?->d6,getElem?_range->eg,mem_range->er,nodup_append->ey,mem_iff_getElem->eK,nil_append->eL,map_nil->fe,foldl_append->fg,replicate_succ->fh,length_set->fq,getElem_mem->fA,all_eq_true->gc,cons_append->gX,Nodup->g9,getElem?_replicate_of_lt->hJ,find?_cons->hY,getElem?_replicate->ij,length_eq_zero_iff->ip,filter_cons_of_neg->iq,mem_filter->iF,take_of_length_le->iN,sum_cons->ja,foldl_cons->jI,length_nil->jS,filter_cons_of_pos->kr,mem_flatMap->kx,range_succ->kC,lookup_cons->kH,pairwise_cons->kK,map_replicate->kM,getElem?_take_of_lt->kN,any_cons->kQ,eq_of_mem_replicate->kR,flatten_cons->k8,ext_getElem?->k9,filterMap_cons->lp,replicate_zero->lx,getElem?_set_self->lP,length_drop->l9,mem_filterMap->ma,take_zero->mm,length_filter_le->mx,take_append_drop->mE,drop_eq_getElem_cons->mM,pairwise_iff_getElem->mN,mem_of_find?_eq_some->mP,nodup_cons->mT,take_add_one->nk,length_reverse->nv,eq_nil_of_length_eq_zero->nK,take_append_of_le_length->nL,find?_eq_none->n0,getElem_take->oo,getElem?_set_ne->ow,mem_of_mem_take->oP,flatMap_append->oS,mem_replicate->pT,nodup_nil->qE,eq_replicate_iff->rL,not_mem_nil->rX,drop_length->r6,any_eq_true->r9,replicate_succ'->sj,map_id->sk,dropLast_concat_getLast->sN,sum_append->sQ,find?_some->tf,idxOf_lt_length_of_mem->tw,length_eraseIdx_of_lt->vi,lookup->vv,getElem_drop->vS,getElem?_set->wa,Pairwise->we,all_cons->wo,pairwise_singleton->xh,pairwise_lt_range->x3,drop_of_length_le->x6,of_mem_zip->x9,forIn_cons->ya
open PySem.Heap renaming get?_push_of_some->ax,get?_push_size->cm,lt_size->cx,size_push->fF,get?_update_self->i4,SameBut->jv,get?_update_other->qk,get?_none_of_le->sg,ExtBut->yy
open Nat renaming le_refl->ay,le_trans->cS,lt_of_lt_of_le->eh,ne_of_lt->en,pow_le_pow_right->ew,lt_or_ge->fx,lt_irrefl->fy,le_of_lt->gp,zero_le->iS,sub_self->ka,lt_of_le_of_lt->ke,le_of_not_lt->kn,mul_le_mul->k6,not_lt_zero->ll,pow_le_pow_left->ly,lt_succ_self->nE,ne_of_gt->nN,le_succ->p9,lt_succ_of_lt->rf,add_assoc->se,pow_lt_pow_right->sm,lt_trans->tm,pow_succ->tq,mod_lt->ve,lt_trichotomy->vT,or_lt_two_pow->wb,mod_eq_of_lt->xt,succ_mul->xI,zero_add->x4,pow_pos->yA,not_lt->y3
open PySem.W renaming Frag->aE,fnOf->eJ,codeHdIn->iL,mg_of->i9,nsIn->j2,keepIn->kU,codeIn->md,kia_one->m3,cellsFrom_some->nV,kitOne->oC,OpenLaw->xw,kla_obj->yY
open PySem.Builtin.Range renaming rangeSize->dt,rangeFitsLong->oq
open Bool renaming and_eq_true->dQ,false_ne_true->fo,false_eq_true->iA,eq_false_iff->ot,and_false->qV,or_eq_true->sC,eq_iff_iff->sR,not_eq_true'->v3,or_false->wq,and_true->w9
open Int renaming toNat_natCast->dS,pow_succ->j3,emod_lt_of_pos->kL,emod_nonneg->lj,le_refl->l8,toNat_of_nonneg->oQ,mul_assoc->pj,mul_one->sh,mul_comm->tp,fdiv_eq_ediv_of_nonneg->tN,natCast_add->yk,zero_ediv->y2,ofNat->y7
open PySem.SeqAt renaming shaped->d5,canLay_of_shaped->lT
open PySem.SetTable renaming below->eD
open Array renaming length_toList->e8,getElem?_toList->fI,getElem?_eq_getElem->hW,getD_eq_getD_getElem?->ky,forIn_toList->u7,getElem?_eq_some_iff->vj,getElem?_eq_none->x5
open Classical renaming not_forall->fi,byContradiction->f6,choose->xi
open PySem.PassesOwn renaming never->fk
open PySem.Builtin.Tuple renaming tupleHashOf->ft
open PySem.Heap.SameBut renaming update->fw
open PySem.Builtin renaming bitAnd->fE,bitNot->gS,bitOr->i7,bitXor->kT
open PySem.PyData renaming eqv->fT,canLayAll0->ib,canLay0->kB,depthAll->lh,eqvAll->sf
open PyProof.Rows renaming callWith_type1->gy,IntsAre->nc,envOfC->oy,bitAnd_m1->rl,callWith_builtin1->rS,K->va,seqObj->vb,AllBare->vr
open Or renaming inl->hX,inr->sM
open PySem.Value renaming ref->hZ,type->h9,isInt_shape->vn,isInt->yn
open Option renaming isSome_iff_exists->h8,isSome_map->iX,map_eq_some_iff->lS,map_eq_none_iff->rk
open PySem.Around renaming under_plainId->iE
open PySem.F renaming plain_min_loop->iO,slot_dict_getitem->kF,plainAttrs_list->la,slot_tuple_iterator_next->mh,called_set->nX,slot_list_extend->oi,args_tuple_add_2->pb,slot_dict_itemiterator_iter->pf,entry_tuple_add->p4,slot_tuple_add->qf,slot_list_append->qo,slot_tuple_hash->qB,entry_min_loop->rh,args_tuple_iterator_next_1->sD,slot_tuple_eq->sL,slot_zip_next->sP,type_list_append->wh,type_list_extend->wm,plainAttrs_dict->xc,slot_dict_items->xo
open True renaming intro->ki
open PySem.Builtin.List renaming listTooLong->kP,listFitsIndex->mf,listSameRef->pe
open False renaming elim->lb
open Sum renaming inl->lI,inr->xy
open PySem.Manifest.ParamKind renaming posOnly->mn
open Ne renaming symm->mw
open ForInStep renaming yield->n5
open PySem.Obj renaming mapSeq->oB
open PySem.Calls renaming callWith_builtin->qh,spliced_cons->t9,spliced_nil->vu
open PySem.SetTable.below renaming go->ra
open PyProof renaming noPylong_small->xB
set_option compiler.extract_closed false
set_option Elab.async false
set_option linter.all false
set_option maxRecDepth 100000
local macro_rules | `(tactic| lia) => `(tactic| first | lia (config := {}) | omega)
namespace Zq
open PySem PySem.Spec PyProof.Rows
abbrev A7:=List (Addr×Obj)
abbrev A9:=List (Nat×Int)
abbrev B0:=List (ab×ab)
abbrev B1:=List (Str×Addr)
abbrev B2:=bg->cy->Prop
abbrev B3:=List Int
abbrev B4:=List ab
abbrev B5:=List Nat
abbrev B6:=List Str
abbrev B7:=Option bg
abbrev B8:=List bg
abbrev C1:=List Expr
abbrev C2:=List Addr
abbrev C3:=Option Addr
abbrev C4:=List Stmt
abbrev C5:=List Env
abbrev nD(x:Str):Prop:=(x == ("__debug__" : Str))=false
end Zq
local macro_rules | `(tactic| walk_at "hf")=>`(tactic| first | exact .inl rfl | exact .inr rfl | assumption)
namespace Zq
open PySem PySem.Spec PyProof.Rows
abbrev Key:=Sum Int Str
abbrev C6:=List Key
noncomputable def yR:Key->bg->Bool
 | .inl k,v=>yn k v
 | .inr x,v=>Value.isStrOf x v
noncomputable def aeQ(w:kz):Key->Int
 | .inl k=>ti k
 | .inr x=>hashStr w x
theorem gj:∀{k:Key}{v:bg},yR k v=true->(∃i t,k=lI i/\v=bg.int i t)\/(∃x t,k=xy x/\v=bg.str x t)
 | .inl i,v,h=>by
  obtain ⟨t,e⟩:=vn h;exact .inl ⟨i,t,rfl,e⟩
 | .inr x,v,h=>by
  obtain ⟨t,e⟩:=Value.isStrOf_shape h;exact .inr ⟨x,t,rfl,e⟩
theorem Sx(i:Int)(t:Tok):yR (.inl i) (.int i t)=true:=by simp[yR,yn]
theorem Rh(x:Str)(t:Tok):yR (.inr x) (.str x t)=true:=by simp[yR,Value.isStrOf]
theorem acf(a b:Int):decide ((lI a:Key)=lI b)=(a == b):=by
 by_cases e:a=b
 . subst e;simp
 . have h:¬ (lI a:Key)=lI b:=λq=>e (lI.inj q);rw[decide_eq_false h];exact (beq_eq_false_iff_ne.mpr e).symm
theorem acb(a b:Str):decide ((xy a:Key)=xy b)=decide (a=b):=by
 by_cases e:a=b
 . subst e;simp
 . have h:¬ (xy a:Key)=xy b:=λq=>e (xy.inj q);rw[decide_eq_false h,decide_eq_false e]
theorem abI(a:Int)(b:Str):decide ((lI a:Key)=xy b)=false:=decide_eq_false (λq=>nomatch q)
theorem acg(a:Str)(b:Int):decide ((xy a:Key)=lI b)=false:=decide_eq_false (λq=>nomatch q)
noncomputable def bY(prog:gi)(w:kz):PySem.KeyKind prog w Key where
 is:=yR
 hash:=aeQ w
 inj:=λv a b ha hb=>by
  rcases gj ha with ⟨i,t,rfl,rfl⟩ | ⟨x,t,rfl,rfl⟩
  . rcases gj hb with ⟨j,u,rfl,e⟩ | ⟨y,u,rfl,e⟩
    . injection e with e1 _;rw[e1]
    . exact nomatch e
  . rcases gj hb with ⟨j,u,rfl,e⟩ | ⟨y,u,rfl,e⟩
    . exact nomatch e
    . injection e with e1 _;rw[e1]
 byValue:=λk v h=>by
  rcases gj h with ⟨i,t,rfl,rfl⟩ | ⟨x,t,rfl,rfl⟩ <;> rfl
 pyHash:=λhv h=>by
  rcases gj hv with ⟨i,t,rfl,rfl⟩ | ⟨x,t,rfl,rfl⟩
  . exact wpAny_pyHash_int h
  . exact wpAny_pyHash_str h
 eqBool:=λhu hv h=>by
  rcases gj hu with ⟨i,t,rfl,rfl⟩ | ⟨x,t,rfl,rfl⟩
  . rcases gj hv with ⟨j,u,rfl,rfl⟩ | ⟨y,u,rfl,rfl⟩
    . rw[acf] at h;exact wpAny_eqBool_int h
    . rw[abI] at h;exact SeqAt.EqAt.int_str i t y u _ _ _ _ h
  . rcases gj hv with ⟨j,u,rfl,rfl⟩ | ⟨y,u,rfl,rfl⟩
    . rw[acg] at h;exact SeqAt.EqAt.str_int x t j u _ _ _ _ h
    . rw[acb] at h;exact wpAny_eqBool_str h
 «strs» := λk x t v h=>by
  rcases gj h with ⟨i,u,rfl,e⟩ | ⟨y,u,rfl,e⟩
  . exact nomatch e
  . injection e with e1 _;subst e1;cases v <;> rfl
theorem La(prog:gi)(w:kz)(i:Int)(t:Tok):(bY prog w).is (.inl i) (.int i t)=true:=Sx i t
theorem LC(prog:gi)(w:kz)(x:Str)(t:Tok):(bY prog w).is (.inr x) (.str x t)=true:=Rh x t
inductive V where
 | non | bl (b:Bool) | int (i:Int) | str (x:Str) | byt (b:Array UInt8) | flt (b:UInt64) | ref (a:Addr) | ty (n:String)
 deriving DecidableEq
abbrev A8:=List (Key×V)
abbrev C0:=List V
def zo:V->bg->Prop
 | .non,u=>u=bg.none
 | .bl b,u=>u=bg.bool b
 | .int i,u=>∃t,u=bg.int i t
 | .str x,u=>∃t,u=bg.str x t
 | .byt b,u=>∃t,u=Value.bytes b t
 | .flt b,u=>∃t,u=Value.float b t
 | .ref a,u=>u=hZ a
 | .ty n,u=>u=h9 n
abbrev zv:C0->B8->Prop:=i6 zo
variable {xs:C0}{us:B8}
theorem zv.length(r:zv xs us):xs.length=us.length:=i6.length r
theorem zv.get:∀{xs:C0}{us:B8}{i:Nat}{x:V},zv xs us->xs[i]?=some x->∃u,us[i]?=some u/\zo x u
 | _,_,_,_,.nil,e=>by simp at e
 | _,_,0,_,.cons r _,e=>by simp at e;subst e;exact ⟨_,rfl,r⟩
 | _,_,i+1,x,.cons _ t,e=>by
  obtain ⟨u,Y,Z⟩:=zv.get t (by simpa using e);exact ⟨u,by simpa using Y,Z⟩
theorem zv.append:∀{xs ys:C0}{us ws:B8},zv xs us->zv ys ws->zv (xs++ys) (us++ws)
 | _,_,_,_,.nil,s=>s
 | _,_,_,_,.cons r t,s=>.cons r (zv.append t s)
theorem zv.take:∀{xs:C0}{us:B8} (n:Nat),zv xs us->zv (xs.take n) (us.take n)
 | _,_,0,_=>.nil
 | _,_,_+1,.nil=>.nil
 | _,_,n+1,.cons r t=>.cons r (zv.take n t)
theorem zv.drop:∀{xs:C0}{us:B8} (n:Nat),zv xs us->zv (xs.drop n) (us.drop n)
 | _,_,0,r=>r
 | _,_,_+1,.nil=>.nil
 | _,_,n+1,.cons _ t=>zv.drop n t
def oR:Option V->B7->Prop
 | some v,some u=>zo v u
 | none,none=>True
 | _,_=>False
def KV{κ:Type}:List (κ×V)->List (κ×bg)->Prop:=i6 λ(p:κ×V) (q:κ×bg)=>p.1=q.1/\zo p.2 q.2
noncomputable def kV:Key->V
 | .inl i=>.int i
 | .inr x=>.str x
inductive HO where
 | lst (xs:C0)
 | tup (xs:C0)
 | dK (y9:A8) | dT (y9:List (C6×V))
 | set (S:Int->Bool) (n:Nat)
 | ins (C dx:Addr) (fs:List (Str×V))
 | own (x:Addr)
 | xd (fs:List (Str×V))
 | met (f x:Addr)
 | rng (lo hi:Int)
 | frz (o:Obj) (u:HO)
 | tbl (q:Str)
 | ext (φ:Heap->Prop)
abbrev Hp:=Addr->Option HO
noncomputable def zw(H:Hp)(a:Addr)(o:HO):Hp:=λb=>if b=a then some o else H b
variable {H:Hp}{a:Addr}{o:HO}
theorem bc:zw H a o a=some o:=by rw[zw,if_pos rfl]
variable {b:Addr}
theorem aH(h:b≠a):zw H a o b=H b:=by rw[zw,if_neg h]
theorem Oh{u:HO}:zw (zw H a o) a u=zw H a u:=by
 funext b;unfold zw;split <;> rfl
theorem aeu{u:HO}(h:H a=some o)(h':H b=some u)(d:o≠u):a≠b:=by
 intro e;subst e;rw[h] at h';exact d (Option.some.inj h')
theorem cZ(h:H a=some o)(h':H b=none):a≠b:=by
 intro e;subst e;rw[h] at h';cases h'
section
variable (P:gi) (w:kz)
def gh(H:Hp)(h:Heap)(a:Addr):HO->Prop
 | .lst xs=>xs.length<=bt/\∃(ze:B8) (n:Nat),zv xs ze/\h.get? a=some { cls:=.type "list",data:=.seq ze.toArray n }
 | .tup xs=>xs.length<=bt/\∃ze:B8,zv xs ze/\IsTup h a ze.toArray
 | .dK y9=>y9.length<=bt/\(a == gu)=false/\∃vs,KV y9 vs/\h.DictOf (bY P w) a vs
 | .dT y9=>y9.length<=bt/\(a == gu)=false/\∃xs:List (C6×Addr×bg),
  i6 (λ(p:C6×V) (q:C6×Addr×bg)=>p.1=q.1/\H q.2.1=some (.tup (p.1.map kV))/\zo p.2 q.2.2) y9 xs /\
  ∃o es ep,h.get? a=some o/\o.ExactDict/\o.data= .dict es ep/\es.toList=xs.map (entryOfKey (pV (bY P w)))/\(xs.map (·.1)).Nodup
 | .set S n=>h.SetOf (mu P w) a S n
 | .ins C dx fs=>H dx=some (.own a)/\fs.length<=1000/\dx≠a/\h.get? a=some (PySem.W.instObj C dx) /\
  ∃mA,h.Ns1 dx mA/\(∀f,oR (fs.lookup f) (mA f))/\PySem.Within mA (fs.map (·.1))
 | .own _=>∃o,h.get? a=some o
 | .xd fs=>∃mA,h.Ns1 a mA/\∀f,oR (fs.lookup f) (mA f)
 | .rng lo hi=>∃t u v,h.get? a=some { cls:=.type "range",data:=.fields #[.int lo t,.int hi u,.int 1 v] }
 | .frz o u=>h.get? a=some o/\gh H h a u
 | .tbl q=>∃ps:Array bg,h.get? a=some { cls:=.none,data:=.fields ps }/\TriplesOk ps.toList/\∀(pos:Pos) (cv:bg),xa pos ps.toList=some cv->∃c ob vs t,cv= .ref c/\H c=some (.own a)/\h.get? c=some ob/\ob.data= .fields vs/\vs[1]?=some (.str q t)
 | .met f x=>h.get? a=some (PySem.W.methodObj (.ref f) (.ref x))
 | .ext φ=>φ h/\(∃o,h.get? a=some o)/\∀h1 h2:Heap,φ h1->(∀o,h1.get? a=some o->h2.get? a=some o)->φ h2
def HOk(H:Hp)(h:Heap):Prop:=∀a o,H a=some o->gh P w H h a o
end
variable {P:gi}{w:kz}{h:Heap}
section
variable   {H':Hp}{h':Heap}
theorem gh.lt(x:gh P w H h a o):a<h.objs.size:=by
 cases o with
 | lst Z=>obtain ⟨_,_,_,_,e⟩:=x;exact cx e
 | tup Z=>obtain ⟨_,_,_,p⟩:=x;exact p.lt
 | dK Y=>obtain ⟨_,_,_,_,o,_,_,e,_⟩:=x;exact cx e
 | dT Y=>obtain ⟨_,_,_,_,o,_,_,e,_⟩:=x;exact cx e
 | set S n=>obtain ⟨o,_,_,_,e,_⟩:=x;exact cx e
 | ins C j fs=>obtain ⟨_,_,_,e,_⟩:=x;exact cx e
 | own y=>obtain ⟨_,e⟩:=x;exact cx e
 | xd fs=>obtain ⟨_,⟨_,_,_,e,_⟩,_⟩:=x;exact cx e
 | rng lo i=>obtain ⟨_,_,_,e⟩:=x;exact cx e
 | frz r u=>obtain ⟨e,_⟩:=x;exact cx e
 | tbl q=>obtain ⟨_,e,_⟩:=x;exact cx e
 | met f y=>exact cx (x)
 | ext l=>obtain ⟨_,⟨_,e⟩,_⟩:=x;exact cx e
theorem Paired.sO{α Y:Type}{F G:α->Y->Prop}:∀{l₁:List α}{l₂:List Y},i6 F l₁ l₂->(∀a b,F a b->G a b)->i6 G l₁ l₂
 | _,_,.nil,_=>.nil
 | _,_,.cons r t,f=>.cons (f _ _ r) (Paired.sO t f)
theorem gh.stay(x:gh P w H h a o)(k:∀b u,(b=a\/H b=some (.own a))->h.get? b=some u->h'.get? b=some u)
 (L:∀b,H b=some (.own a)->H' b=some (.own a)) (I:∀b xs,H b=some (.tup xs)->H' b=some (.tup xs)):gh P w H' h' a o:=by
 induction o with
 | lst xs=>obtain ⟨z,j,n,r,e⟩:=x;exact ⟨z,j,n,r,k _ _ (.inl rfl) e⟩
 | tup xs=>obtain ⟨z,j,r,Y,e,c⟩:=x;exact ⟨z,j,r,Y,k _ _ (.inl rfl) e,c⟩
 | dK B=>obtain ⟨z,y,J,r,Y,Z,i,e,c⟩:=x;exact ⟨z,y,J,r,Y,Z,i,k _ _ (.inl rfl) e,c⟩
 | dT B=>
  obtain ⟨z,y,xs,r,Y,Z,i,e,c⟩:=x;exact ⟨z,y,xs,Paired.sO r λp q z=>⟨z.1,I _ _ z.2.1,z.2.2⟩,Y,Z,i,k _ _ (.inl rfl) e,c⟩
 | set S n=>obtain ⟨Y,Z,i,t,e,c⟩:=x;exact ⟨Y,Z,i,t,k _ _ (.inl rfl) e,c⟩
 | ins C dx fs=>
  obtain ⟨d,z,ne,e,s,⟨D,Z,i,l,c⟩,r⟩:=x;exact ⟨L _ d,z,ne,k _ _ (.inl rfl) e,s,⟨D,Z,i,k _ _ (.inr d) l,c⟩,r⟩
 | own y=>obtain ⟨Y,e⟩:=x;exact ⟨Y,k _ _ (.inl rfl) e⟩
 | xd fs=>obtain ⟨s,⟨D,Z,i,e,c⟩,r⟩:=x;exact ⟨s,⟨D,Z,i,k _ _ (.inl rfl) e,c⟩,r⟩
 | rng lo hi=>obtain ⟨t,u,v,e⟩:=x;exact ⟨t,u,v,k _ _ (.inl rfl) e⟩
 | frz Y u ih=>obtain ⟨e,q⟩:=x;exact ⟨k _ _ (.inl rfl) e,ih q⟩
 | tbl q=>
  obtain ⟨Q,e,I,M⟩:=x;refine ⟨Q,k _ _ (.inl rfl) e,I,λE cv O=>?_⟩;obtain ⟨c,Y,J,t,U,l,R,e4⟩:=M E cv O;exact ⟨c,Y,J,t,U,L _ l,k _ _ (.inr l) R,e4⟩
 | met f y=>
  have e:=x;exact k a _ (.inl rfl) e
 | ext φ=>obtain ⟨p,⟨o,e⟩,st⟩:=x;exact ⟨st _ _ p λo q=>k _ _ (.inl rfl) q,⟨o,k _ _ (.inl rfl) e⟩,st⟩
theorem HOk.lt(x:HOk P w H h)(e:H a=some o):a<h.objs.size:=(x a o e).lt
theorem HOk.fresh(x:HOk P w H h)(e:h.objs.size<=a):H a=none:=by
 cases q:H a with
 | none=>rfl
 | some u=>exact absurd (eh (x.lt q) e) (fy _)
theorem HOk.kept(x:HOk P w H h)(k:∀b u,h.get? b=some u->h'.get? b=some u):HOk P w H h':=λa o e=>
 (x a o e).stay (λb u _ q=>k b u q) (λ_ q=>q) λ_ _ q=>q
theorem HOk.laid(x:HOk P w H h)(k:∀b u,h.get? b=some u->h'.get? b=some u)(i:h.objs.size<=a)(new:gh P w (zw H a o) h' a o):HOk P w (zw H a o) h':=λb u e=>by
 have Z:=x.fresh i
 by_cases Y:b=a
 . subst Y;rw[bc] at e;cases e;exact new
 . rw[aH Y] at e;exact (x b u e).stay (λc v _ q=>k c v q) (λc q=>by rw[aH (cZ q Z)];exact q) λc j q=>by rw[aH (cZ q Z)];exact q
end
def Rd(H:Hp)(a:Addr)(u:HO):Prop:=H a=some u\/∃o,H a=some (.frz o u)
theorem Rd.ok{u:HO}(r:Rd H a u)(x:HOk P w H h):gh P w H h a u:=by
 rcases r with r | ⟨o,r⟩
 . exact x a u r
 . obtain ⟨_,q⟩:=x a _ r;exact q
def Mut:Option HO->Prop
 | some (.lst _)=>True
 | some (.dK _)=>True
 | some (.dT _)=>True
 | some (.set _ _)=>True
 | some (.ins _ _ _)=>True
 | some (.ext _)=>True
 | _=>False
section
variable    {h':Heap}{x e:Addr}{o':HO}
theorem HOk.write(ok:HOk P w H h)(B:Mut (H x))(s:e=x\/H e=some (.own x))(k:∀b u,b≠e->h.get? b=some u->h'.get? b=some u)(o:∃u,h'.get? e=some u)
 (new:gh P w (zw H x o') h' x o'):HOk P w (zw H x o') h':=λb u q=>by
 have Z:∀c y,H c=some (.own y)->c≠x:=λc y r z=>by subst z;rwa [r] at B
 have i:∀c l,H c=some (.tup l)->c≠x:=λc l r z=>by subst z;rwa [r] at B
 by_cases j:b=x
 . subst j;rw[bc] at q;cases q;exact new
 . rw[aH j] at q
   by_cases Y:b=e
   . have p:H b=some (.own x):=by
      rcases s with z | z
      . exact absurd (Y.trans z) j
      . rw[Y];exact z
     rw[q] at p;cases p;obtain ⟨v,C⟩:=o;exact ⟨v,by rw[Y];exact C⟩
   . refine (ok b u q).stay (λc v hc r=>k c v ?_ r) (λc r=>by rw[aH (Z c b r)];exact r) λc l r=>by rw[aH (i c l r)];exact r
     rcases hc with rfl | hc
     . exact Y
     . rintro rfl;rcases s with z | z
       . exact Z c b hc z
       . rw[hc] at z;cases z;exact j rfl
end
structure Un (fs ex:C2) (H H':Hp) (h h':Heap):Prop where
 keep:∀b o,h.get? b=some o->H b=none->b∉fs->b∉ex->h'.get? b=some o
 slot:∀b o,h.get? b=some o->H b=none->b∈fs->b∉ex->∃sl,h'.get? b=some { o with slots:=sl }
 free:∀b o,h.get? b=some o->H b=none->b∉ex->H' b=none
 there:∀b o,h.get? b=some o->b∉ex->∃o',h'.get? b=some o'
 tups:∀b xs,H b=some (.tup xs)->H' b=some (.tup xs)
 mF:∀b o u,H b=some (.frz o u)->H' b=some (.frz o u)
 lg:∀b q,H b=some (.tbl q)->H' b=some (.tbl q)
section
variable {fs fs' ex ex':C2}{H1 H2:Hp}{h1 h2 h':Heap}{x e:Addr}
theorem Un.any(u:Un fs ex H H1 h h1){Y:Obj}(q:h.get? b=some Y)(n:H b=none)(e:b∉ex):∃sl,h1.get? b=some { Y with slots:=sl }:=by
 by_cases Z:b∈fs
 . exact u.slot b Y q n Z e
 . exact ⟨Y.slots,u.keep b Y q n Z e⟩
theorem Un.trans(a:Un fs ex H H1 h h1)(b:Un fs ex H1 H2 h1 h2):Un fs ex H H2 h h2 where
 keep:=λc Y q n i Z=>b.keep c Y (a.keep c Y q n i Z) (a.free c Y q n Z) i Z
 slot:=λc Y q n i Z=>by
  obtain ⟨s,j⟩:=a.slot c Y q n i Z;obtain ⟨l,r⟩:=b.slot c _ j (a.free c Y q n Z) i Z;exact ⟨l,r⟩
 free:=λc Y q n Z=>by
  obtain ⟨o,j⟩:=a.there c Y q Z;exact b.free c o j (a.free c Y q n Z) Z
 there:=λc Y q Z=>by
  obtain ⟨o,j⟩:=a.there c Y q Z;exact b.there c o j Z
 tups:=λc e q=>b.tups c e (a.tups c e q)
 mF:=λc Y e q=>b.mF c Y e (a.mF c Y e q)
 lg:=λc p q=>b.lg c p (a.lg c p q)
theorem Un.kept(k:∀b u,h.get? b=some u->h'.get? b=some u):Un fs ex H H h h':=
 ⟨λb Y q _ _ _=>k b Y q,λb Y q _ _ _=>⟨Y.slots,k b Y q⟩,λ_ _ _ n _=>n,λb Y q _=>⟨Y,k b Y q⟩,λ_ _ q=>q,λ_ _ _ q=>q,λ_ _ q=>q⟩
theorem Un.refl:Un fs ex H H h h:=Un.kept λ_ _ q=>q
theorem Un.laid(k:∀b u,h.get? b=some u->h'.get? b=some u)(e:h.objs.size<=a)(Y:H a=none):Un fs ex H (zw H a o) h h' where
 keep:=λb u q _ _ _=>k b u q
 slot:=λb u q _ _ _=>⟨u.slots,k b u q⟩
 free:=λb u q n _=>by rw[aH (en (eh (cx q) e))];exact n
 there:=λb u q _=>⟨u,k b u q⟩
 tups:=λb Z q=>by rw[aH (cZ q Y)];exact q
 mF:=λb u Z q=>by rw[aH (cZ q Y)];exact q
 lg:=λb Z q=>by rw[aH (cZ q Y)];exact q
theorem Un.write(j:Mut (H x))(s:e=x\/H e=some (.own x))(k:∀b u,b≠e->h.get? b=some u->h'.get? b=some u)(i:∃u,h'.get? e=some u):Un fs ex H (zw H x o) h h':=by
 have p:∀b,H b=none->b≠x:=λb n z=>by subst z;rwa [n] at j
 have l:∀b,H b=none->b≠e:=λb n z=>by
  subst z;rcases s with r | r
  . exact p b n r
  . rw[n] at r;cases r
 have Z:∀b u,H b=some u->¬ Mut (some u)->b≠x:=λb u q B z=>by subst z;rw[q] at j;exact B j
 refine ⟨λb u q n _ _=>k b u (l b n) q,λb u q n _ _=>⟨u.slots,k b u (l b n) q⟩,λb u q n _=>by rw[aH (p b n)];exact n,λb u q _=>?_,
  λb v q=>by rw[aH (Z b _ q λz=>z)];exact q,λb u v q=>by rw[aH (Z b _ q λz=>z)];exact q,λb _ q=>by rw[aH (Z b _ q λz=>z)];exact q⟩
 by_cases Y:b=e
 . subst Y;exact i
 . exact ⟨u,k b u Y q⟩
end
noncomputable def trk(h:Heap)(H:Hp):C2:=(List.range h.objs.size).filter λa=>(H a).isSome
noncomputable def xP(h:Heap)(H:Hp):Heap:=PySem.W.hideAll h (trk h H)
theorem SX(h:Heap)(H:Hp):(xP h H).objs.size=h.objs.size:=PySem.W.hideAll_size _ _
theorem V3{o:Obj}(e:h.get? b=some o)(n:H b=none):(xP h H).get? b=some o:=
 PySem.W.hideAll_get _ e λY=>by
  have q:=(iF.mp Y).2;rw[n] at q;simp at q
theorem aaZ{o:Obj}(e:(xP h H).get? b=some o):h.get? b=some o/\H b=none:=by
 have Y:=PySem.W.of_hideAll (trk h H) e;refine ⟨Y,?_⟩
 cases q:H b with
 | none=>rfl
 | some x=>
  have Z:b∈trk h H:=iF.mpr ⟨er.mpr (cx Y),by simp[q]⟩;have z:(xP h H).get? b=none:=PySem.W.hideAll_none (trk h H) Z;rw[z] at e;cases e
structure Mod (K:aE) (mg:Str->B7) (base:Heap):Prop where
 kin:K.In base
 glob:base.Ns ff mg
 blt:∃mb,base.Ns pz mb/\∀x:Str,x ≠ "__name__" -> mb x=eI x
 nolimit:base.NoLimit
 bmain:∃bm ob,mg "__builtins__"= some (.ref bm)/\bm≠pz/\base.get? bm=some ob/\ob.cls= .type "module" /\ ob.dict=some pz/\ob.data= .plain
structure Cx where
 prog:gi
 w:kz
 K:aE
 mg:Str->B7
 base:Heap
 A:gx
 N:B6
 s₀:cy
 H₀:Hp
 env:Env
 AA:C5
 stack:C5
 ex:C2
 fn:Str->Bool
 calm:Bool
 pn:A7
 xe:bg->cy->Prop
noncomputable def frs(l:C5):C2:=l.filterMap (·.frame)
noncomputable abbrev Cx.fs(X:Cx):C2:=frs X.AA
def Vis(sc:tJ)(x:Str):Prop:=sc.names.lookup x=some .local\/sc.names.lookup x=some .cell\/sc.names.lookup x=some .free
def Loc(sc:tJ)(x:Str):Prop:=sc.names.lookup x=some .local\/sc.names.lookup x=some .cell
def Look(env:Env)(h:Heap)(m:Str->B7)(x:Str)(u:bg):Prop:=
 (env.kindOf x=some .local/\m x=some u)\/((env.kindOf x=some .cell\/env.kindOf x=some .free)/\∃c,env.cells.lookup x=some c/\h.IsCell c (some u))
def TabAt(K:aE)(mg:Str->B7)(P:Addr):Prop:=∃(f:Addr) (o:Obj) (fd:nz) (c:Addr),mg "ways"= some (.ref f)/\K.lookup f=some o/\o.data= .func fd/\fd.code= .ref c/\iL K c P=true
noncomputable def ji:Str:= "ways.<locals>.<lambda>"
structure Cx.Ok (X:Cx):Prop where
 mod:Mod X.K X.mg X.base
 kind:X.env.scope.kind= .function
 glob:X.env.globals=ff
 blt:X.env.builtins=pz
 above:X.s₀.heap.objs.size<=X.env.locals
 inj:∀x y c,X.env.cells.lookup x=some c->X.env.cells.lookup y=some c->x=y
 has:∀x,(X.env.kindOf x=some .cell\/X.env.kindOf x=some .free)->∃c,X.env.cells.lookup x=some c
 cab:∀x c,X.fn x=true->X.env.cells.lookup x=some c->X.s₀.heap.objs.size<=c
 hd:X.calm=true->X.A.handled=none
 frames:X.A.frames=some X.stack
 stk:X.stack=X.AA\/(X.stack=X.env::X.AA/\X.env.frame=some X.env.locals)
 exf:∀b∈X.ex,b≠X.env.locals/\∀x c,X.env.cells.lookup x=some c->c≠b
 bs:∀b o,X.base.get? b=some o->X.s₀.heap.get? b=some o/\X.H₀ b=none
 bsz:X.base.objs.size<=X.s₀.heap.objs.size
 JD:∀b o,X.base.get? b=some o->b∉X.ex
 QQ:∀b∈X.ex,b∉X.fs
 rW:X.s₀.heap.FunFrames X.base X.AA
 frf:∀b∈X.fs,X.H₀ b=none
 tabs:∀P,TabAt X.K X.mg P->X.H₀ P=some (.tbl ji)
structure zk (X:Cx) (y8:A7) (σ:List (Option V)) (H:Hp) (s:cy):Prop where
 ok:X.Ok
 os:s.os=X.s₀.os
 bare:vr s.gens
 base:Un X.fs X.ex X.H₀ H X.s₀.heap s.heap
 loc:∃m,s.heap.Ns X.env.locals m/\∀(i:Nat) (x:Str) (v:V),X.N[i]?=some x->σ[i]?=some (some v)->Vis X.env.scope x->∃u,zo v u/\Look X.env s.heap m x u
 cell:∀x c,X.env.cells.lookup x=some c->∃v,s.heap.IsCell c v
 free:H X.env.locals=none
 jM:∀x c,X.env.cells.lookup x=some c->H c=none
 pin:∀p∈X.pn++y8,s.heap.get? p.1=some p.2/\H p.1=none/\p.1≠X.env.locals/\p.1∉X.fs/\∀v,p.2.data ≠ .cell v
 zS:HOk X.prog X.w H s.heap
 len:σ.length=X.N.length
variable {X:Cx}{y8:A7}{s s':cy}{g':Array GenState}{t' i:Nat}{ch:C2}{N:B6}{x:Str}{M:Model}{A:gx}{E:B2}{v:V}{u:bg}
section
variable   {σ:List (Option V)}{H':Hp}  {h':Heap}
theorem Cx.Ok.aeU(ok:X.Ok){o:Obj}(e:X.base.get? b=some o):b∉X.fs:=λY=>by
 have:=(ok.rW.mem Y).1;rw[e] at this;cases this
theorem zk.bs(I:zk X y8 σ H s):∀b o,X.base.get? b=some o->s.heap.get? b=some o/\H b=none:=λb o e=>
 ⟨I.base.keep b o (I.ok.bs b o e).1 (I.ok.bs b o e).2 (I.ok.aeU e) (I.ok.JD b o e),I.base.free b o (I.ok.bs b o e).1 (I.ok.bs b o e).2 (I.ok.JD b o e)⟩
theorem zk.bk(I:zk X y8 σ H s):∀b o,X.base.get? b=some o->s.heap.get? b=some o:=λb o e=>(I.bs b o e).1
theorem zk.mod(I:zk X y8 σ H s):Mod X.K X.mg X.base:=I.ok.mod
theorem zk.kIn(I:zk X y8 σ H s):X.K.In s.heap:=I.ok.mod.kin.keeps I.bk
theorem zk.nolimit(I:zk X y8 σ H s):s.heap.NoLimit:=I.ok.mod.nolimit.keeps I.bk
theorem zk.lt(I:zk X y8 σ H s):X.env.locals<s.heap.objs.size:=by obtain ⟨_,Y,_⟩:=I.loc;exact Y.lt
theorem zk.sz(I:zk X y8 σ H s):X.s₀.heap.objs.size<=s.heap.objs.size:=cS I.ok.above (gp I.lt)
theorem zk.afv(I:zk X y8 σ H s)(h:s.heap.objs.size<=a):a∉X.fs:=λZ=>by
 obtain ⟨_,o,Y,_⟩:=I.ok.rW.mem Z;exact absurd (eh (cx Y) (cS I.sz h)) (fy _)
theorem zk.cne(I:zk X y8 σ H s):∀x c,X.env.cells.lookup x=some c->c≠X.env.locals:=λx c e z=>by
 obtain ⟨v,o,i,hd⟩:=I.cell x c e;obtain ⟨m,⟨l,j,p,Y,Z,_⟩,_⟩:=I.loc;rw[z,Y] at i;cases i;rw[Z] at hd;cases hd
theorem zk.rW(I:zk X y8 σ H s):s.heap.FunFrames X.base X.AA:=by
 have all:∀(l:C5),(∀b∈frs l,b∈X.fs)->X.s₀.heap.FunFrames X.base l->s.heap.FunFrames X.base l:=by
  intro l
  induction l with
  | nil=>intro _ _;trivial
  | cons env r u=>
   rintro j ⟨q,⟨L,o,i,p,v,hd⟩,B⟩;have Z:=j L (by rw[frs,lp,i];exact br);obtain ⟨C,e⟩:=I.base.slot L o v (I.ok.frf L Z) Z λz=>I.ok.QQ L z Z;exact ⟨q,⟨L,_,i,p,e,hd⟩,u (λb Y=>j b (by rw[frs,lp,i];exact cc _ Y)) B⟩
 exact all X.AA (λ_ Y=>Y) I.ok.rW
theorem zk.stack(I:zk X y8 σ H s):s.heap.FunFrames X.base X.stack:=by
 rcases I.ok.stk with e | ⟨e,Z⟩
 . rw[e];exact I.rW
 . rw[e];obtain ⟨m,Y,_⟩:=I.loc;refine .cons (by rw[I.ok.kind];decide) Z Y ?_ I.rW;exact sg (cS I.ok.bsz I.ok.above)
theorem zk.Dh(I:zk X y8 σ H s):∀b∈frs X.stack,b∈X.env.locals::X.fs:=λb Y=>by
 rcases I.ok.stk with e | ⟨e,Z⟩
 . rw[e] at Y;exact cc _ Y
 . rw[e] at Y;unfold frs at Y;rwa [lp,Z] at Y
theorem zk.Oo(I:zk X y8 σ H s):∀b∈frs X.stack,H b=none:=λb hb=>by
 rcases b9.mp (I.Dh b hb) with e | hb
 . rw[e];exact I.free
 . obtain ⟨_,o,Y,_⟩:=I.ok.rW.mem hb;exact I.base.free b o Y (I.ok.frf b hb) λz=>I.ok.QQ b z hb
theorem zk.step{d':Drawn}(I:zk X y8 σ H s)
 (B:∀b∈ch,(b∈X.ex\/X.s₀.heap.objs.size<=b)/\b≠X.env.locals/\(∀x c,X.env.cells.lookup x=some c->c≠b)/\∀p∈X.pn++y8,p.1≠b)
 (keep:∀b o,b≠X.env.locals->b∉X.fs->b∉ch->s.heap.get? b=some o->H b=none->h'.get? b=some o)
 (slot:∀b o,b≠X.env.locals->b∈X.fs->b∉ch->s.heap.get? b=some o->H b=none->∃sl,h'.get? b=some { o with slots:=sl }) (free:∀b o,b∉ch->s.heap.get? b=some o->H b=none->H' b=none)
 (there:∀b o,b∉ch->s.heap.get? b=some o->∃o',h'.get? b=some o')
 (tups:∀b xs,H b=some (.tup xs)->H' b=some (.tup xs)) (mF:∀b o u,H b=some (.frz o u)->H' b=some (.frz o u)) (lg:∀b q,H b=some (.tbl q)->H' b=some (.tbl q))
 (ns:∀m,s.heap.Ns X.env.locals m->h'.Ns X.env.locals m) (zS:HOk X.prog X.w H' h') (hg:vr g') :
 zk X y8 σ H' { s with heap:=h',gens:=g',drawn:=d',toks:=t' }:=by
 have M:∀b o,X.s₀.heap.get? b=some o->b≠X.env.locals:=λb o e=>en (eh (cx e) I.ok.above);have C:∀b o,X.s₀.heap.get? b=some o->b∉X.ex->b∉ch:=λb o e Y D=>by
  rcases (B b D).1 with z | z
  . exact Y z
  . exact absurd (eh (cx e) z) (fy _)
 have Z:∀x c,X.env.cells.lookup x=some c->∀v,s.heap.IsCell c v->h'.IsCell c v:=λx c e v L=>by
  obtain ⟨o,J,hd⟩:=L;have j:c∉ch:=λz=>(B c z).2.2.1 x c e rfl
  by_cases R:c∈X.fs
  . obtain ⟨sl,q⟩:=slot c o (I.cne x c e) R j J (I.jM x c e);exact ⟨_,q,hd⟩
  . exact ⟨o,keep c o (I.cne x c e) R j J (I.jM x c e),hd⟩
 refine ⟨I.ok,I.os,hg,⟨λb o e n D Y=>?_,λb o e n D Y=>?_,λb o e n Y=>?_,λb o e Y=>?_,λb xs e=>tups b xs (I.base.tups b xs e),λb o xs e=>mF b o xs (I.base.mF b o xs e),λb U e=>lg b U (I.base.lg b U e)⟩,?_,λx c e=>?_,?_,λx c e=>?_,λp S=>?_,zS,I.len⟩
 . exact keep b o (M b o e) D (C b o e Y) (I.base.keep b o e n D Y) (I.base.free b o e n Y)
 . obtain ⟨sl,E⟩:=I.base.slot b o e n D Y;obtain ⟨P,O⟩:=slot b _ (M b o e) D (C b o e Y) E (I.base.free b o e n Y);exact ⟨P,O⟩
 . obtain ⟨o',E⟩:=I.base.there b o e Y;exact free b o' (C b o e Y) E (I.base.free b o e n Y)
 . obtain ⟨o',E⟩:=I.base.there b o e Y;exact there b o' (C b o e Y) E
 . obtain ⟨m,hn,hl⟩:=I.loc;refine ⟨m,ns m hn,λi x v E O e3=>?_⟩;obtain ⟨u,r,l⟩:=hl i x v E O e3;refine ⟨u,r,?_⟩;rcases l with l | ⟨k,c,e,z⟩
   . exact .inl l
   . exact .inr ⟨k,c,e,Z x c e _ z⟩
 . obtain ⟨v,z⟩:=I.cell x c e;exact ⟨v,Z x c e v z⟩
 . obtain ⟨m,⟨o,_,_,J,_⟩,_⟩:=I.loc;exact free _ o (λz=>(B _ z).2.1 rfl) J I.free
 . obtain ⟨v,o,J,hd⟩:=I.cell x c e;exact free c o (λz=>(B c z).2.2.1 x c e rfl) J (I.jM x c e)
 . obtain ⟨e,n,ne,Q,d⟩:=I.pin p S;have j:p.1∉ch:=λz=>(B p.1 z).2.2.2 p S rfl;exact ⟨keep p.1 p.2 ne Q j e n,free p.1 p.2 j e n,ne,Q,d⟩
theorem zk.un(I:zk X y8 σ H s)(u:Un X.fs [] H H' s.heap h')(zS:HOk X.prog X.w H' h'):zk X y8 σ H' { s with heap:=h',toks:=t' }:=by
 obtain ⟨m,⟨o,B,D,l,r⟩,_⟩:=id I.loc;obtain ⟨E,p⟩:=u.any l I.free (by simp);exact I.step (ch:=[]) (λ_ z=>nomatch z) (λb o _ i _ e n=>u.keep b o e n i (by simp)) (λb o _ i _ e n=>u.slot b o e n i (by simp)) (λb o _ e n=>u.free b o e n (by simp)) (λb o _ e=>u.there b o e (by simp)) u.tups u.mF u.lg (λC v=>by
  obtain ⟨J,Z,j,Y,q⟩:=v;rw[l] at Y;cases Y;exact ⟨_,Z,j,p,q⟩) zS I.bare
theorem zk.call{C:Drawn}(I:zk X y8 σ H s)(u:Un (frs X.stack) ch H H' s.heap h')(zS:HOk X.prog X.w H' h')(D:vr g')
 (i:∀b∈ch,(b∈X.ex\/X.s₀.heap.objs.size<=b)/\b≠X.env.locals/\(∀x c,X.env.cells.lookup x=some c->c≠b)/\∀p∈X.pn++y8,p.1≠b) :
 zk X y8 σ H' { s with heap:=h',gens:=g',drawn:=C,toks:=t' }:=by
 obtain ⟨m,⟨o,L,O,v,r⟩,_⟩:=id I.loc;obtain ⟨P,l⟩:=u.any v I.free λz=>(i _ z).2.1 rfl;exact I.step i (λb o l B Y e n=>u.keep b o e n (λz=>(b9.mp (I.Dh b z)).elim l B) Y) (λb o _ _ Y e n=>u.any e n Y) (λb o Y e n=>u.free b o e n Y) (λb o Y e=>u.there b o e Y) u.tups u.mF u.lg (λM J=>by
  obtain ⟨Q,j,q,Z,E⟩:=J;rw[v] at Z;cases Z;exact ⟨_,j,q,l,E⟩) zS D
theorem zk.turned{it:Addr}(I:zk X y8 σ H s)(k:∀b o,b≠it->s.heap.get? b=some o->h'.get? b=some o)(J:H it=none)(i:it≠X.env.locals)
 (C:it∈X.ex\/X.s₀.heap.objs.size<=it) (M:∀x c,X.env.cells.lookup x=some c->c≠it) (j:∀p∈X.pn++y8,p.1≠it):zk X y8 σ H { s with heap:=h',toks:=t' }:=by
 have Z:∀b u,H b=some u->b≠it:=λb u e z=>by rw[z,J] at e;cases e
 refine I.step (ch:=[it]) (λb D=>?_) (λb o _ _ Y e _=>k b o (λz=>Y (by simp[z])) e) (λb o _ _ Y e _=>⟨o.slots,k b o (λz=>Y (by simp[z])) e⟩) (λ_ _ _ _ n=>n)
  (λb o Y e=>⟨o,k b o (λz=>Y (by simp[z])) e⟩) (λ_ _ e=>e) (λ_ _ _ e=>e) (λ_ _ e=>e) (λm L=>?_) (λb u e=>?_) I.bare
 . have e:=by simpa using D
   subst e;exact ⟨C,i,M,j⟩
 . obtain ⟨o,l,B,E,r⟩:=L;exact ⟨o,l,B,k _ o (mw i) E,r⟩
 . refine (I.zS b u e).stay (λc v Y q=>k c v ?_ q) (λ_ q=>q) λ_ _ q=>q;rcases Y with z | z
   . rw[z];exact Z b u e
   . exact Z c _ z
theorem zk.tok(I:zk X y8 σ H s)(t:Nat):zk X y8 σ H { s with toks:=t }:=I.un Un.refl I.zS
theorem zk.kept(I:zk X y8 σ H s)(k:∀b u,s.heap.get? b=some u->h'.get? b=some u):zk X y8 σ H { s with heap:=h',toks:=t' }:=I.un (Un.kept k) (I.zS.kept k)
theorem zk.laid(I:zk X y8 σ H s)(k:∀b u,s.heap.get? b=some u->h'.get? b=some u)(Y:s.heap.objs.size<=a)(new:gh X.prog X.w (zw H a o) h' a o) :
 zk X y8 σ (zw H a o) { s with heap:=h',toks:=t' }:=I.un (Un.laid k Y (I.zS.fresh Y)) (I.zS.laid k Y new)
theorem zk.write{e:Addr}(I:zk X y8 σ H s)(i:Mut (H a))(Z:e=a\/H e=some (.own a))(k:∀b u,b≠e->s.heap.get? b=some u->h'.get? b=some u)(Y:∃u,h'.get? e=some u)
 (new:gh X.prog X.w (zw H a o) h' a o):zk X y8 σ (zw H a o) { s with heap:=h',toks:=t' }:=I.un (Un.write i Z k Y) (I.zS.write i Z k Y new)
theorem zk.Nf{Y:A7}(I:zk X y8 σ H s)(h:∀p∈Y,s.heap.get? p.1=some p.2/\H p.1=none/\p.1≠X.env.locals/\p.1∉X.fs/\∀v,p.2.data ≠ .cell v):zk X Y σ H s:=
 ⟨I.ok,I.os,I.bare,I.base,I.loc,I.cell,I.free,I.jM,λp Z=>(ck.mp Z).elim (λz=>I.pin p (da _ z)) (h p),I.zS,I.len⟩
theorem Hx(e:N.Nodup){j:Nat}(a:N[i]?=some x)(b:N[j]?=some x):i=j:=by
 obtain ⟨l,Z⟩:=a0.mp a;obtain ⟨o,Y⟩:=a0.mp b;exact (List.getElem_inj e).mp (Z.trans Y.symm)
theorem FJ{Q:Unit->cy->Prop}(I:zk X y8 σ H s)(hN:X.N.Nodup)(U:X.N[i]?=some x)(B:Loc X.env.scope x)(r:zo v u)
 (h:∀s',zk X y8 (σ.set i (some v)) H s'->(∃a,jv a s.heap s'.heap/\(a=X.env.locals\/X.env.cells.lookup x=some a))->Q () s') (hf:X.fn x=true\/X.env.scope.names.lookup x=some .local:=by walk_at "hf"):de M A (storeName X.env x u) Q E s:=by
 obtain ⟨m,hn,hl⟩:=id I.loc;have hcls:(X.env.scope.kind == .class||(X.env.scope.kind == .module&&X.env.locals != X.env.globals))=false:=by rw[I.ok.kind];rfl
 have J:i < σ.length:=by rw[I.len];exact (a0.mp U).1
 have cne:=I.cne;have Z:∀{a:Addr}{h':Heap},(∃o,s.heap.get? a=some o/\H a=none)->jv a s.heap h'->HOk X.prog X.w H h':=λ{a h'} ha Y b ob e=>by
  obtain ⟨_,_,C⟩:=ha;refine (I.zS b ob e).stay (λc w' hc q=>(Y.2 c ?_).trans q) (λ_ q=>q) λ_ _ q=>q;rintro rfl;rcases hc with rfl | hc
  . rw[C] at e;cases e
  . rw[C] at hc;cases hc
 rcases B with hk | hk
 . refine wpAny_storeName_local hk hn (λh' hn' Y=>?_) hcls;obtain ⟨oL,_,_,hoL,_⟩:=id hn;refine h _ ⟨I.ok,I.os,I.bare,⟨λb o e n O B=>?_,λb o e n O B=>?_,I.base.free,λb o e B=>?_,I.base.tups,I.base.mF,I.base.lg⟩,⟨_,hn',λj y v' l D e3=>?_⟩,λy c e=>?_,I.free,I.jM,λp hp=>?_,Z ⟨oL,hoL,I.free⟩ Y,by simpa using I.len⟩ ⟨_,Y,.inl rfl⟩
   . exact (Y.2 b (en (eh (cx e) I.ok.above))).trans (I.base.keep b o e n O B)
   . obtain ⟨sl,l⟩:=I.base.slot b o e n O B;exact ⟨sl,(Y.2 b (en (eh (cx e) I.ok.above))).trans l⟩
   . obtain ⟨o',l⟩:=I.base.there b o e B;exact ⟨o',(Y.2 b (en (eh (cx e) I.ok.above))).trans l⟩
   . by_cases L:j=i
     . subst L;rw[U] at l;cases l;rw[lP J] at D;cases D;exact ⟨u,r,.inl ⟨hk,by simp⟩⟩
     . rw[ow (mw L)] at D;obtain ⟨u',r',q⟩:=hl j y v' l D e3;refine ⟨u',r',?_⟩;rcases q with ⟨k,e⟩ | ⟨k,c,e,z⟩
       . refine .inl ⟨k,?_⟩;have:y≠x:=λe=>L (Hx hN l (e ▸ U));simp[this,e]
       . exact .inr ⟨k,c,e,z.sameBut Y (cne y c e)⟩
   . obtain ⟨w',z⟩:=I.cell y c e;exact ⟨w',z.sameBut Y (cne y c e)⟩
   . obtain ⟨e,n,ne,nf,d⟩:=I.pin p hp;exact ⟨(Y.2 p.1 ne).trans e,n,ne,nf,d⟩
 . have P:X.fn x=true:=by
    rcases hf with z | z
    . exact z
    . rw[z] at hk;cases hk
   obtain ⟨c,hc⟩:=I.ok.has x (.inl hk);obtain ⟨w',z⟩:=I.cell x c hc;refine wpAny_storeName_cell I.ok.kind hk hc z (λh' R Y=>?_);obtain ⟨oc,hoc,aeT⟩:=id z;refine h { s with heap:=h' } ⟨I.ok,I.os,I.bare,⟨λb o e n O B=>?_,λb o e n O B=>?_,I.base.free,λb o e B=>?_,I.base.tups,I.base.mF,I.base.lg⟩,⟨m,hn.sameBut Y (mw (cne x c hc)),λj y v' l D e3=>?_⟩,λy c' e=>?_,I.free,I.jM,λp hp=>?_,Z ⟨oc,hoc,I.jM x c hc⟩ Y,by simpa using I.len⟩ ⟨c,Y,.inr hc⟩
   . exact (Y.2 b (en (eh (cx e) (I.ok.cab x c P hc)))).trans (I.base.keep b o e n O B)
   . obtain ⟨sl,l⟩:=I.base.slot b o e n O B;exact ⟨sl,(Y.2 b (en (eh (cx e) (I.ok.cab x c P hc)))).trans l⟩
   . obtain ⟨o',l⟩:=I.base.there b o e B;exact ⟨o',(Y.2 b (en (eh (cx e) (I.ok.cab x c P hc)))).trans l⟩
   . by_cases L:j=i
     . subst L;rw[U] at l;cases l;rw[lP J] at D;cases D;exact ⟨u,r,.inr ⟨.inl hk,c,hc,R⟩⟩
     . rw[ow (mw L)] at D;obtain ⟨u',r',q⟩:=hl j y v' l D e3;refine ⟨u',r',?_⟩;rcases q with q | ⟨k,c',e,z'⟩
       . exact .inl q
       . refine .inr ⟨k,c',e,z'.sameBut Y ?_⟩;rintro rfl;exact L (Hx hN l (I.ok.inj _ _ _ e hc ▸ U))
   . by_cases S:c'=c
     . subst S;exact ⟨_,R⟩
     . obtain ⟨w2,z2⟩:=I.cell y c' e;exact ⟨w2,z2.sameBut Y S⟩
   . obtain ⟨e,n,ne,nf,d⟩:=I.pin p hp;refine ⟨(Y.2 p.1 ?_).trans e,n,ne,nf,d⟩;intro q;rw[q,hoc] at e;have q':oc=p.2:=Option.some.inj e;exact d w' (by rw[<- q'];exact aeT)
theorem Ie{Q:Unit->cy->Prop}(I:zk X y8 σ H s)(j:X.N.Nodup)(Y:X.N[i]?=some x)(Z:Loc X.env.scope x)(r:zo v u)
 (h:∀s',zk X y8 (σ.set i (some v)) H s'->Q () s') (l:X.fn x=true\/X.env.scope.names.lookup x=some .local:=by walk_at "hf"):de M A (storeName X.env x u) Q E s:=
 FJ I j Y Z r (λs' e _=>h s' e) l
theorem zk.call'(I:zk X y8 σ H s)(Z:s'.os=s.os)(u:Un (frs X.stack) ch H H' s.heap s'.heap)(zS:HOk X.prog X.w H' s'.heap)(i:vr s'.gens)
 (Y:∀b∈ch,(b∈X.ex\/X.s₀.heap.objs.size<=b)/\b≠X.env.locals/\(∀x c,X.env.cells.lookup x=some c->c≠b)/\∀p∈X.pn++y8,p.1≠b):zk X y8 σ H' s':=by
 obtain ⟨j,r,l,o,q⟩:=s';have e:=Z;subst e;exact I.call u zS i Y
end
abbrev XK:=bg->C3->Hp->Prop
abbrev St:=List (Option V)
abbrev VK:=V->Hp->Prop
abbrev TE:=St->Hp->VK->Prop
abbrev TT:=St->Hp->(Bool->Hp->Prop)->Prop
abbrev TA:=St->Hp->(C0->Hp->Prop)->Prop
structure Ends where
 nx:St->Hp->Prop
 rt:VK
 bk:St->Hp->Prop:=λ_ _=>False
 ct:St->Hp->Prop:=λ_ _=>False
abbrev TS:=Ends->St->Hp->Prop
def EP(X:Cx)(y8:A7)(σ:St)(Q:VK)(u:bg)(s':cy):Prop:=∃v H',zk X y8 σ H' s'/\zo v u/\Q v H'
def TP(X:Cx)(y8:A7)(σ:St)(Q:Bool->Hp->Prop)(b:Bool)(s':cy):Prop:=∃H',zk X y8 σ H' s'/\Q b H'
def AP(X:Cx)(y8:A7)(σ:St)(Q:C0->Hp->Prop)(us:B8)(s':cy):Prop:=∃vs H',zk X y8 σ H' s'/\zv vs us/\Q vs H'
def SP(X:Cx)(y8:A7)(D:Ends)(f:Flow)(s':cy):Prop:=
 match f with
 | .next=>∃σ' H',zk X y8 σ' H' s'/\D.nx σ' H'
 | .brk=>∃σ' H',zk X y8 σ' H' s'/\D.bk σ' H'
 | .cont=>∃σ' H',zk X y8 σ' H' s'/\D.ct σ' H'
 | .ret u=>∃v σ' H',zk X y8 σ' H' s'/\zo v u/\D.rt v H'
def PE(X:Cx)(e:Expr)(t:TE):Prop:=
 ∀(y8:A7) (s:cy) (σ:St) (H:Hp) (Q:VK),zk X y8 σ H s->t σ H Q->de (dn X.prog X.w) X.A (eval e X.env) (EP X y8 σ Q) X.xe s
def PT(X:Cx)(e:Expr)(t:TT):Prop:=
 ∀(y8:A7) (s:cy) (σ:St) (H:Hp) (Q:Bool->Hp->Prop),zk X y8 σ H s->t σ H Q->de (dn X.prog X.w) X.A (isTrue e X.env (eval e X.env)) (TP X y8 σ Q) X.xe s
def PW(X:Cx)(e:Expr)(t:TT):Prop:=
 ∀(whole:Sem bg) (y8:A7) (s:cy) (σ:St) (H:Hp) (Q:Bool->Hp->Prop),zk X y8 σ H s->t σ H Q->de (dn X.prog X.w) X.A (isTrue e X.env whole) (TP X y8 σ Q) X.xe s
variable {e:Expr}
theorem PW.pt{t:TT}(h:PW X e t):PT X e t:=h _
def PA(X:Cx)(es:C1)(t:TA):Prop:=
 ∀(pos:Pos) (y8:A7) (s:cy) (σ:St) (H:Hp) (Q:C0->Hp->Prop),zk X y8 σ H s->t σ H Q->de (dn X.prog X.w) X.A (spliced (mI pos (dr es X.env))) (AP X y8 σ Q) X.xe s
def PS(X:Cx)(st:Stmt)(t:TS):Prop:=
 ∀(y8:A7) (s:cy) (σ:St) (H:Hp) (D:Ends),zk X y8 σ H s->t D σ H->de (dn X.prog X.w) X.A (exec st X.env) (SP X y8 D) X.xe s
def PSs(X:Cx)(st:C4)(t:TS):Prop:=
 ∀(y8:A7) (s:cy) (σ:St) (H:Hp) (D:Ends),zk X y8 σ H s->t D σ H->de (dn X.prog X.w) X.A (execs st X.env) (SP X y8 D) X.xe s
theorem thn{α:Type}{t:Sem α}{Q Y:α->cy->Prop}(h:de M A t Q E s)(Z:∀a s,Q a s->Y a s):de M A t Y E s:=gL h Z λ_ _ x=>x
variable {Q:B2}{pos:Pos}{σ:St}{c:Expr}
section
def afs(i:Nat):TE:=λσ H Q=>∃v,σ[i]?=some (some v)/\Q v H
def tC(v:V):TE:=λ_ H Q=>Q v H
theorem dO(C:X.N[i]?=some x)(z:Vis X.env.scope x)(hd:nD x:=by decide)(j:(x == ("__classdict__" : Str))=false:=by decide):PE X (.Name x pos) (afs i):=by
 rintro Z s q H Q I ⟨v,e,h⟩;obtain ⟨m,B,p⟩:=I.loc;obtain ⟨u,r,l⟩:=p i x v C e z;have fin:EP X Z q Q u s:=⟨v,H,I,r,h⟩;rcases l with ⟨hk,D⟩ | ⟨hk,c,o,Y⟩
 . exact xA (wpAny_loadName_local I.ok.kind hk B D fin) hd
 . rcases hk with hk | hk
   . exact xA (wpAny_loadName_cell I.ok.kind hk o Y fin) hd
   . exact xA (wpAny_loadName_free I.ok.kind hk o Y fin j) hd
theorem Ir{i j pos}:PE X (.Constant (.int i) j pos) (tC (.int i)):=λ_ _ _ H _ I h=>wpAny_Constant_int ⟨.int i,H,I.tok _,⟨_,rfl⟩,h⟩
theorem aek{b j pos}:PE X (.Constant (.bool b) j pos) (tC (.bl b)):=λ_ _ _ H _ I h=>Constant_bool ⟨.bl b,H,I,rfl,h⟩
theorem acF{j pos}:PE X (.Constant .none j pos) (tC .non):=λ_ _ _ H _ I h=>Constant_none ⟨.non,H,I,rfl,h⟩
theorem acd{x j pos}:PE X (.Constant (.str x) j pos) (tC (.str x)):=λ_ _ _ H _ I h=>Calls.Constant_str ⟨.str x,H,I.tok _,⟨_,rfl⟩,h⟩
def Gl(X:Cx)(x:Str):Prop:=X.env.kindOf x=some .globalImplicit
theorem MK(I:zk X y8 σ H s)(Y:Gl X x)(Z:X.mg x=some u)(h:Q u s)
 (hd:nD x:=by decide):de (dn X.prog X.w) X.A (eval (.Name x pos) X.env) Q E s:=
 Calls.Name_function_global I.ok.kind Y (Calls.loadGlobal_global (by rw[I.ok.glob];exact I.mod.glob.keeps I.bk) Z h) hd
theorem lr(I:zk X y8 σ H s)(Y:Gl X x)(i:X.mg x=none)(Z:eI x=some u)(h:Q u s)
 (e:x ≠ "__name__" := by decide) (hd:nD x:=by decide):de (dn X.prog X.w) X.A (eval (.Name x pos) X.env) Q E s:=by
 obtain ⟨o,j,l⟩:=I.mod.blt;exact Calls.Name_function_global I.ok.kind Y (Calls.loadGlobal_builtin (by rw[I.ok.glob];exact I.mod.glob.keeps I.bk) i (by rw[I.ok.blt];exact j.keeps I.bk) ((l x e).trans Z) h) hd
theorem Nb(Y:Gl X x)(Z:X.mg x=some u)(r:zo v u)(hd:nD x:=by decide):PE X (.Name x pos) (tC v):=
 λ_ _ _ H _ I h=>MK I Y Z ⟨v,H,I,r,h⟩ hd
theorem ZJ(Y:Gl X x)(i:X.mg x=none)(Z:eI x=some u)(r:zo v u)(e:x ≠ "__name__" := by decide)(hd:nD x:=by decide):PE X (.Name x pos) (tC v):=
 λ_ _ _ H _ I h=>lr I Y i Z ⟨v,H,I,r,h⟩ e hd
variable {a b:Expr}{ta tb:TE}
variable {tA tB':TT}{rest:C1}
def aeP(t u:TT):TT:=λσ H Q=>t σ H λc H1=>if c=true then u σ H1 Q else Q false H1
def tOr(t u:TT):TT:=λσ H Q=>t σ H λc H1=>if c=true then Q true H1 else u σ H1 Q
def aeH(t:TT):TT:=λσ H Q=>t σ H λc H1=>Q (!c) H1
theorem aas(i:PT X a tA):PW X (.BoolOp .And [a] pos) tA:=by
 intro l Y s Z H Q I h;refine isTrue_and (thn (i Y s Z H Q I h) λc j e=>?_)
 cases c with
 | true=>exact isTrue_and_nil e
 | false=>exact e
theorem abd(i:PT X a tA):PW X (.BoolOp .Or [a] pos) tA:=by
 intro l Y s Z H Q I h;refine isTrue_or (thn (i Y s Z H Q I h) λc j e=>?_)
 cases c with
 | false=>exact isTrue_or_nil e
 | true=>exact e
theorem abq(r:PT X a tA)(p:PW X (.BoolOp .And (b::rest) pos) tB'):PW X (.BoolOp .And (a::b::rest) pos) (aeP tA tB'):=by
 intro q Y s j H Q I h;refine isTrue_and (thn (r Y s j H _ I h) λc o Z=>?_);obtain ⟨l,e,i⟩:=Z
 cases c with
 | true=>exact p q Y o j l Q e i
 | false=>exact ⟨l,e,i⟩
theorem aej(r:PT X a tA)(p:PW X (.BoolOp .Or (b::rest) pos) tB'):PW X (.BoolOp .Or (a::b::rest) pos) (tOr tA tB'):=by
 intro q Y s j H Q I h;refine isTrue_or (thn (r Y s j H _ I h) λc o Z=>?_);obtain ⟨l,e,i⟩:=Z
 cases c with
 | true=>exact ⟨l,e,i⟩
 | false=>exact p q Y o j l Q e i
theorem aba(i:PT X a tA):PT X (.UnaryOp .Not a pos) (aeH tA):=by
 intro Y s Z H Q I h;exact isTrue_not (i Y s Z H (λc e=>Q (!c) e) I h)
def aec(ta tb:TE):TE:=λσ H Q=>ta σ H λx H1=>∃c,x= .bl c/\if c=true then tb σ H1 Q else Q (.bl false) H1
def afo(ta tb:TE):TE:=λσ H Q=>ta σ H λx H1=>∃c,x= .bl c/\if c=true then Q (.bl true) H1 else tb σ H1 Q
def adU(ta:TE):TE:=λσ H Q=>ta σ H λx H1=>∃c,x= .bl c/\Q (.bl (!c)) H1
theorem abr{op}{t:TE}(h:PE X a t):PE X (.BoolOp op [a] pos) t:=λY s Z H Q I e=>BoolOp_one (h Y s Z H Q I e)
theorem acN(o:PE X a ta)(q:PE X (.BoolOp .And (b::rest) pos) tb):PE X (.BoolOp .And (a::b::rest) pos) (aec ta tb):=by
 intro Y s l H Q I h;refine BoolOp_and (thn (o Y s l H _ I h) λv p Z=>?_);obtain ⟨x,j,i,r,e⟩:=Z;obtain ⟨c,rfl,e⟩:=e;cases r;refine k7 ?_
 cases c with
 | true=>exact q Y p l j Q i e
 | false=>exact ⟨.bl false,j,i,rfl,e⟩
theorem ad5(o:PE X a ta)(q:PE X (.BoolOp .Or (b::rest) pos) tb):PE X (.BoolOp .Or (a::b::rest) pos) (afo ta tb):=by
 intro Y s l H Q I h;refine BoolOp_or (thn (o Y s l H _ I h) λv p Z=>?_);obtain ⟨x,j,i,r,e⟩:=Z;obtain ⟨c,rfl,e⟩:=e;cases r;refine k7 ?_
 cases c with
 | false=>exact q Y p l j Q i e
 | true=>exact ⟨.bl true,j,i,rfl,e⟩
theorem ade(l:PE X a ta):PE X (.UnaryOp .Not a pos) (adU ta):=by
 intro Y s p H Q I h;refine UnaryOp_ (thn (l Y s p H _ I h) λv q Z=>?_);obtain ⟨x,j,i,o,e⟩:=Z;obtain ⟨c,rfl,e⟩:=e;cases o;exact not_of (k7 ⟨.bl (!c),j,i,rfl,e⟩)
def tIf(t:TT)(ta tb:TE):TE:=λσ H Q=>t σ H λc H1=>if c=true then ta σ H1 Q else tb σ H1 Q
theorem Va(q:PT X c tA)(r:PE X a ta)(p:PE X b tb):PE X (.IfExp c a b pos) (tIf tA ta tb):=by
 intro Y s e H Q I h;refine wpAny_IfExp (thn (q Y s e H _ I h) λd i Z=>?_);obtain ⟨o,j,l⟩:=Z
 cases d with
 | true=>exact r Y i e o Q j l
 | false=>exact p Y i e o Q j l
end
def SqL(K:aE)(H:Hp)(a:Addr)(xs:C0):Prop:=
 Rd H a (.lst xs) \/
  ∃(o:Obj) (ze:Array bg) (n:Nat),K.lookup a=some o/\o.cls= .type "list" /\ o.dict=none/\o.data= .seq ze n/\ze.size<=bt/\zv xs ze.toList
def SqT(K:aE)(H:Hp)(a:Addr)(xs:C0):Prop:=
 Rd H a (.tup xs) \/
  ∃(o:Obj) (ze:Array bg) (n:Nat),K.lookup a=some o/\o.cls= .type "tuple" /\ o.data= .seq ze n/\ze.size<=bt/\zv xs ze.toList
noncomputable def ae5:bg->Option V
 | .none=>some .non
 | .bool b=>some (.bl b)
 | .int i _=>some (.int i)
 | .str x _=>some (.str x)
 | .bytes b _=>some (.byt b)
 | .float b _=>some (.flt b)
 | .ref a=>some (.ref a)
 | .type n=>some (.ty n)
 | _=>none
theorem zo.abs{x:V}(r:zo x u):ae5 u=some x:=by
 cases x with
 | non=>cases r;rfl
 | bl _=>cases r;rfl
 | int _=>obtain ⟨t,rfl⟩:=r;rfl
 | str _=>obtain ⟨t,rfl⟩:=r;rfl
 | byt _=>obtain ⟨t,rfl⟩:=r;rfl
 | flt _=>obtain ⟨t,rfl⟩:=r;rfl
 | ref _=>cases r;rfl
 | ty _=>cases r;rfl
theorem zo.inj{y:V}(r:zo v u)(q:zo y u):v=y:=Option.some.inj (r.abs.symm.trans q.abs)
theorem zv.inj:∀{xs ys:C0}{us:B8},zv xs us->zv ys us->xs=ys
 | _,_,_,.nil,.nil=>rfl
 | _,_,_,.cons r t,.cons Z Y=>by rw[r.inj Z,zv.inj t Y]
variable {K:aE}
section
variable       {ys:C0}
theorem SqL.of(h:H a=some (.lst xs)):SqL K H a xs:=.inl (.inl h)
theorem SqT.of(h:H a=some (.tup xs)):SqT K H a xs:=.inl (.inl h)
theorem zk.list(I:zk X y8 σ H s)(h:SqL X.K H a xs):∃ze:B8,zv xs ze/\PlainL s.heap a ze.toArray/\xs.length<=bt:=by
 rcases h with h | ⟨o,ze,n,Z,Y,hd,i,j,r⟩
 . obtain ⟨z,ze,n,r,e⟩:=h.ok I.zS;exact ⟨ze,r,⟨_,n,e,rfl,rfl,rfl⟩,z⟩
 . refine ⟨ze.toList,r,⟨o,n,I.kIn a o Z,Y,hd,by simpa using i⟩,?_⟩;have e:=r.length;simp only[e8] at e;lia
theorem zk.tuple(I:zk X y8 σ H s)(h:SqT X.K H a xs):∃ze:B8,zv xs ze/\IsTup s.heap a ze.toArray/\xs.length<=bt:=by
 rcases h with h | ⟨o,ze,n,Z,i,Y,j,r⟩
 . obtain ⟨z,ze,r,p⟩:=h.ok I.zS;exact ⟨ze,r,p,z⟩
 . refine ⟨ze.toList,r,⟨o,I.kIn a o Z,i,n,by simpa using Y⟩,?_⟩;have e:=r.length;simp only[e8] at e;lia
theorem zk.vP(I:zk X y8 σ H s)(h:SqL X.K H a xs)(h':SqL X.K H a ys):xs=ys:=by
 obtain ⟨j,r,⟨o,n,e,_,_,d⟩,_⟩:=I.list h;obtain ⟨i,l,⟨q,p,Z,_,_,Y⟩,_⟩:=I.list h';rw[e] at Z;cases Z;rw[d] at Y;injection Y with d1 _;have:=by simpa using congrArg Array.toList d1
 subst this;exact r.inj l
theorem zk.xO(I:zk X y8 σ H s)(h:SqT X.K H a xs)(h':SqT X.K H a ys):xs=ys:=by
 obtain ⟨j,r,⟨o,e,_,n,d⟩,_⟩:=I.tuple h;obtain ⟨i,l,⟨q,Z,_,p,Y⟩,_⟩:=I.tuple h';rw[e] at Z;cases Z;rw[d] at Y;injection Y with d1 _;have:=by simpa using congrArg Array.toList d1
 subst this;exact r.inj l
end
noncomputable abbrev Cx.wish(X:Cx)(E:B2):Cx:={ X with xe:=E }
noncomputable abbrev Cx.nox(X:Cx):Cx:=X.wish λ_ _=>False
theorem Cx.Ok.wish(ok:X.Ok)(E:B2):(X.wish E).Ok:=
 ⟨ok.mod,ok.kind,ok.glob,ok.blt,ok.above,ok.inj,ok.has,ok.cab,ok.hd,ok.frames,ok.stk,ok.exf,ok.bs,ok.bsz,ok.JD,ok.QQ,ok.rW,ok.frf,ok.tabs⟩
theorem Cx.Ok.qb(ok:(X.wish E).Ok):X.Ok:=
 ⟨ok.mod,ok.kind,ok.glob,ok.blt,ok.above,ok.inj,ok.has,ok.cab,ok.hd,ok.frames,ok.stk,ok.exf,ok.bs,ok.bsz,ok.JD,ok.QQ,ok.rW,ok.frf,ok.tabs⟩
theorem zk.wish(I:zk X y8 σ H s)(E:B2):zk (X.wish E) y8 σ H s:=⟨I.ok.wish E,I.os,I.bare,I.base,I.loc,I.cell,I.free,I.jM,I.pin,I.zS,I.len⟩
theorem zk.qb(I:zk (X.wish E) y8 σ H s):zk X y8 σ H s:=⟨I.ok.qb,I.os,I.bare,I.base,I.loc,I.cell,I.free,I.jM,I.pin,I.zS,I.len⟩
theorem SP.qb{D:Ends}{f:Flow}(h:SP (X.wish E) y8 D f s'):SP X y8 D f s':=by
 cases f with
 | next=>obtain ⟨Y,Z,I,q⟩:=h;exact ⟨Y,Z,I.qb,q⟩
 | brk=>obtain ⟨Y,Z,I,q⟩:=h;exact ⟨Y,Z,I.qb,q⟩
 | cont=>obtain ⟨Y,Z,I,q⟩:=h;exact ⟨Y,Z,I.qb,q⟩
 | ret u=>obtain ⟨v,Y,Z,I,r,q⟩:=h;exact ⟨v,Y,Z,I.qb,r,q⟩
theorem PSs.nox{st:C4}{t:TS}(h:PSs X.nox st t):PSs X st t:=λY s Z H D I e=>
 gL (h Y s Z H D (I.wish _) e) (λ_ _ q=>q.qb) λ_ _ z=>lb z
section
variable  {st:Stmt}{rest:C4}{t u:TS}  {te:TE}
def aeq:TS:=λD σ H=>D.nx σ H
def aeZ(t u:TS):TS:=λD σ H=>t { D with nx:=u D } σ H
theorem aaM:PSs X [] aeq:=λ_ _ Y H _ I h=>sA ⟨Y,H,I,h⟩
theorem X6(i:PS X st t)(p:PSs X rest u):PSs X (st::rest) (aeZ t u):=by
 intro Y s j H D I h;refine wpAny_execs_cons (thn (i Y s j H { D with nx:=u D } I h) λf e q=>?_)
 cases f with
 | next=>
  obtain ⟨Z,o,l,q⟩:=q;exact p Y e Z o D l q
 | ret v=>exact q
 | brk=>exact q
 | cont=>exact q
theorem aau(e:PS X st t):PSs X [st] t:=by
 intro Y s Z H D I h;refine wpAny_execs_cons (thn (e Y s Z H D I h) λf i q=>?_)
 cases f with
 | next=>exact sA q
 | ret v=>exact q
 | brk=>exact q
 | cont=>exact q
theorem zk.quiet(I:zk X y8 σ H s):interactive X.env=false:=by simp[interactive,I.ok.kind]
def ad1(te:TE):TS:=λD σ H=>te σ H λ_ H1=>D.nx σ H1
theorem oW(j:PE X e te)(hs:hV e none pos.line X.env=pure false:=by rfl):PS X (.Expr e pos) (ad1 te):=by
 intro Z s i H D I h;exact wpAny_Expr_any (thn (j Z s i H _ I h) λv q Y=>by obtain ⟨x,p,l,r,o⟩:=Y;exact ⟨i,p,l,o⟩) I.quiet hs
def aeW(te:TE):TS:=λD σ H=>te σ H D.rt
theorem yp(j:PE X e te):PS X (.Return (some e) pos) (aeW te):=by
 intro Z s i H D I h;exact wpAny_Return_some (thn (j Z s i H _ I h) λv r Y=>by obtain ⟨x,q,l,o,p⟩:=Y;exact ⟨x,i,q,l,o,p⟩)
def ae2(c:TT)(t u:TS):TS:=λD σ H=>c σ H λb H1=>if b=true then t D σ H1 else u D σ H1
theorem ad2{a b:C4}{p:TT}(q:PT X c p)(r:PSs X a t)(v:PSs X b u):PS X (.If c a b pos) (ae2 p t u):=by
 intro Y s e H D I h;refine wpAny_If (thn (q Y s e H _ I h) λd l Z=>?_);obtain ⟨j,i,o⟩:=Z
 cases d with
 | true=>exact r Y l e j D i o
 | false=>exact v Y l e j D i o
def abY:TS:=λ_ _ _=>False
theorem Vc:PS X st abY:=λ_ _ _ _ _ _ h=>h.elim
end
abbrev TG:=V->St->Hp->(St->Hp->Prop)->Prop
abbrev TGs:=C0->St->Hp->(St->Hp->Prop)->Prop
def PG(X:Cx)(target:Expr)(t:TG):Prop:=
 ∀(y8:A7) (s:cy) (σ:St) (H:Hp) (v:V) (u:bg) (Q:St->Hp->Prop),zk X y8 σ H s->zo v u->t v σ H Q ->
  de (dn X.prog X.w) X.A (assign target X.env u) (λ_ s'=>∃σ' H',zk X y8 σ' H' s'/\Q σ' H') X.xe s
def PGs(X:Cx)(ts:C1)(t:TGs):Prop:=
 ∀(y8:A7) (s:cy) (σ:St) (H:Hp) (vs:C0) (us:B8) (Q:St->Hp->Prop),zk X y8 σ H s->zv vs us->t vs σ H Q ->
  de (dn X.prog X.w) X.A (assignInOrder ((nr ts X.env).map (·.2)) us) (λ_ s'=>∃σ' H',zk X y8 σ' H' s'/\Q σ' H') X.xe s
variable {es:C1}
def CJ(i:Nat):TG:=λv σ H Q=>Q (σ.set i (some v)) H
theorem Z6(o:X.N.Nodup)(Z:X.N[i]?=some x)(e:Loc X.env.scope x)(j:X.fn x=true\/X.env.scope.names.lookup x=some .local:=by walk_at "hf"):PG X (.Name x pos) (CJ i):=by
 intro Y s p H v u Q I r h;exact wpAny_assign_Name (Ie I o Z e r (λq l=>⟨_,H,l,h⟩) j)
def ae7:TGs:=λvs σ H Q=>vs=[]/\Q σ H
def ad9(t:TG)(u:TGs):TGs:=λvs σ H Q=>∃v r,vs=v::r/\t v σ H λσ' H'=>u r σ' H' Q
theorem aam:PGs X [] ae7:=by
 rintro Y s Z H i j Q I r ⟨e,h⟩;subst e;cases r;exact assignInOrder_nil ⟨Z,H,I,h⟩
theorem WQ{t:TG}{u:TGs}(p:PG X e t)(D:PGs X es u)
 (hs:(nr (e::es) X.env).map (·.2)=assign e X.env::(nr es X.env).map (·.2):=by rfl):PGs X (e::es) (ad9 t u):=by
 rintro Y s B H E J Q I r ⟨v,L,C,h⟩;subst C
 cases r with
 | cons r l=>
  rw[hs];exact assignInOrder_cons (thn (p Y s B H _ _ _ I r h) λ_ q Z=>by obtain ⟨i,o,j,z⟩:=Z;exact D Y q i o _ _ Q j l z)
def afy(K:aE)(n:Nat)(t:TGs):TG:=λv σ H Q=>∃a xs,v= .ref a/\SqT K H a xs/\xs.length=n/\t xs σ H Q
theorem abC{t:TGs}{n:Nat}(D:X.calm=true)(h:PGs X es t)
 (L:(nr es X.env).length=n:=by rfl) (Z:(nr es X.env).findIdx? (·.1)=none:=by rfl):PG X (.Tuple es i pos) (afy X.K n t):=by
 rintro Y s J H v u Q I r ⟨a,E,O,C,z,M⟩;subst O;cases r;obtain ⟨p,j,l,P⟩:=I.tuple C;refine assign_Tuple_tuple (I.ok.hd D) l (by simp[L,<- z,j.length]) Z λR B=>?_;have q:=I.kept (t':=s.toks) λb o e=>B b o (en (cx e)) e;exact h Y _ J H E _ Q q (by simpa using j) M
def O3(te:TE)(g:TG):TS:=λD σ H=>te σ H λx H1=>g x σ H1 D.nx
theorem Dt{l:TE}{Y:Pos}(L:X.N.Nodup)(p:X.N[i]?=some x)(q:Loc X.env.scope x)(B:PE X e l)(hs:hV e (some (.Name x Y)) pos.line X.env=pure false:=by rfl)(z:X.fn x=true\/X.env.scope.names.lookup x=some .local:=by walk_at "hf") :
 PS X (.Assign [.Name x Y] e pos) (O3 l (CJ i)):=by
 intro Z s J H D I h;refine wpAny_Assign_Name (thn (B Z s J H _ I h) λv O j=>?_) hs;obtain ⟨y,u,o,C,E⟩:=j;exact Ie o L p q C (λM r=>⟨_,u,r,E⟩) z
variable {body:C4}
def ab8(c:TT)(tb:TS):TS:=λD σ H=>∃W:Nat->St->Hp->Prop,(∃m,W m σ H)/\∀m σ H,W m σ H ->
 c σ H λb H1=>if b=true then ∃N:St->Hp->Prop,(∀σ' H',N σ' H'->∃m',m'<m/\W m' σ' H')/\tb { D with nx:=N,ct:=N,bk:=D.nx } σ H1 else D.nx σ H1
theorem V7{B:TT}{C:TS}(E:tz (dn X.prog X.w) X.A X.env X.xe)(R:PT X c B)(U:PSs X body C):PS X (.While c body [] pos) (ab8 B C):=by
 rintro Y s σ H D I ⟨W,⟨m0,w0⟩,turn⟩;refine wpAny_While (codeAny_whileLoop (λn s'=>∃i O,zk X Y i O s'/\W n i O) ?_ m0 ⟨σ,H,I,w0⟩);rintro n S ⟨e,M,Q,w1⟩;refine mS E (thn (R Y S e M _ Q (turn n e M w1)) λb s2 l=>?_);obtain ⟨P,L,p⟩:=l
 cases b with
 | true=>
  obtain ⟨N,J,p⟩:=p;rw[if_pos rfl];refine mS E (thn (U Y s2 e P _ L p) λf s3 o=>?_)
  cases f with
  | next=>
   obtain ⟨Z,j,r,n3⟩:=o;obtain ⟨z,u,q⟩:=J Z j n3;exact ⟨z,u,Z,j,r,q⟩
  | cont=>
   obtain ⟨Z,j,r,n3⟩:=o;obtain ⟨z,u,q⟩:=J Z j n3;exact ⟨z,u,Z,j,r,q⟩
  | brk=>exact o
  | ret v=>exact o
 | false=>
  rw[if_neg fo];exact sA ⟨e,P,L,p⟩
structure It where
 go:Nat->Hp->Prop
 yld:Nat->Hp->V->Hp->Prop
 stop:Nat->Hp->Prop
def qt(X:Cx)(y8:A7)(H:Hp)(b:Addr):Prop:=
 H b=none/\b≠X.env.locals/\b∉X.fs/\(b∈X.ex\/X.s₀.heap.objs.size<=b)/\(∀x c,X.env.cells.lookup x=some c->c≠b)/\∀p∈X.pn++y8,p.1≠b
theorem zk.qy{Z:Hp}(I:zk X y8 σ H s)(Y:s.heap.objs.size<=b)(i:Z b=none):qt X y8 Z b:=by
 refine ⟨i,nN (eh I.lt Y),I.afv Y,.inr (cS I.sz Y),λx c e z=>?_,λp j z=>?_⟩
 . obtain ⟨v,q⟩:=I.cell x c e;exact absurd (eh q.lt (by rw[z];exact Y)) (fy _)
 . exact absurd (eh (cx (I.pin p j).1) (by rw[z];exact Y)) (fy _)
structure Turn (P:gi) (w:kz) (K:aE) (tg:Expr) (J:It) (fp:C2) (it:Addr) (tn:Nat->Heap->Prop):Prop where
 mem:it∈fp
 obj:∀i h,tn i h->∀b∈fp,∃o,h.get? b=some o/\∀v,o.data ≠ .cell v
 keep:∀i h h',tn i h->(∀b∈fp,∀o,h.get? b=some o->h'.get? b=some o)->tn i h'
 item:∀(X:Cx),X.prog=P->X.w=w->X.K=K->X.calm=true->∀(i:Nat) (y8:A7) (s:cy) (σ:St) (H:Hp) (E:B2),zk X y8 σ H s->(∀b∈fp,qt X y8 H b)->tn i s.heap->J.go i H ->
  de (dn P w) X.A (wd (.ref it)) (λr s1=>∃u,r=some u /\
   de (dn P w) X.A (x8 tg (.ref it) u) (λ_ s2=>∃x H',zk X y8 σ H' s2/\zo x u/\J.yld i H x H'/\tn (i+1) s2.heap/\∀b∈fp,H' b=none) E s1) E s
 done:∀(X:Cx),X.prog=P->X.w=w->X.K=K->X.calm=true->∀(i:Nat) (y8:A7) (s:cy) (σ:St) (H:Hp) (E:B2),zk X y8 σ H s->(∀b∈fp,qt X y8 H b)->tn i s.heap->J.stop i H ->
  de (dn P w) X.A (wd (.ref it)) (λr s1=>r=none/\zk X y8 σ H s1) E s
 self:∀(A:gx) (i:Nat) (s:cy) (Q:B2) (E:B2),tn i s.heap->Q (.ref it) s->de (dn P w) A (yv (.ref it)) Q E s
abbrev TI:=St->Hp->(It->Hp->Prop)->Prop
def PIE(X:Cx)(y8:A7)(σ:St)(tg:Expr)(R:It->Hp->Prop)(itv:bg)(s2:cy):Prop:=
 ∃(it:Addr) (fp:C2) (tn:Nat->Heap->Prop) (J:It) (H':Hp),itv= .ref it/\zk X y8 σ H' s2/\Turn X.prog X.w X.K tg J fp it tn/\tn 0 s2.heap/\(∀b∈fp,qt X y8 H' b)/\R J H'
def PI(X:Cx)(tg iter:Expr)(wi:TI):Prop:=
 ∀(y8:A7) (s:cy) (σ:St) (H:Hp) (R:It->Hp->Prop),zk X y8 σ H s->wi σ H R ->
  de (dn X.prog X.w) X.A (eval iter X.env) (λv s1=>de (dn X.prog X.w) X.A (yv v) (PIE X y8 σ tg R) X.xe s1) X.xe s
variable {tg:Expr}
theorem zj{o:Obj}{n:String}{Z:Array bg}{Q:Unit->cy->Prop}(e:s.heap.get? a=some o)(i:o.cls= .type n)(hd:o.data= .fields Z)
 (j:["enumerate", "zip", "dict_itemiterator", "dict_reverseitemiterator", "odict_iterator", "itertools.zip_longest", "itertools.pairwise"].contains n=false) (Y:Q () s):de M A (x8 tg (.ref a) u) Q E s:=by
 cases tg <;> first
  | exact aS Y
  | (cases u <;> first
   | exact aS Y
   | (
    refine af (wpAny_load e ?_);rw[i,hd];show de M A (if (["enumerate", "zip", "dict_itemiterator", "dict_reverseitemiterator", "odict_iterator", "itertools.zip_longest", "itertools.pairwise"].contains n&&Z[0]? == some (ia _))=true then _ else _) Q E s;rw[if_neg (by intro h;rw[j,Bool.false_and] at h;cases h)];exact aS Y))
noncomputable def Itl(K:aE)(a:Addr):It:=
 ⟨λi H=>∃xs x,SqL K H a xs/\xs[i]?=some x,λi H x H'=>H'=H/\∀xs,SqL K H a xs->xs[i]?=some x,λi H=>∃xs,SqL K H a xs/\xs.length<=i⟩
noncomputable def Itt(K:aE)(a:Addr):It:=
 ⟨λi H=>∃xs x,SqT K H a xs/\xs[i]?=some x,λi H x H'=>H'=H/\∀xs,SqT K H a xs->xs[i]?=some x,λi H=>∃xs,SqT K H a xs/\xs.length<=i⟩
noncomputable def Itr(lo:Int)(n:Nat):It:=⟨λi _=>i<n,λi H x H'=>H'=H/\x= .int (lo+i),λi _=>n<=i⟩
theorem Ui(a it:Addr):Turn P w K tg (Itl K a) [it] it (λi h=>h.IsListIter it a i) where
 mem:=by simp
 obj:=λi h st b Y=>by
  have e:=by simpa using Y
  subst e;obtain ⟨o,e,c,d⟩:=st;exact ⟨o,e,λv z=>by rw[d] at z;cases z⟩
 keep:=λi h h' st k=>st.at λo e=>k it (by simp) o e
 item:=by
  intro X L U C hc i j s σ H E I q st D;subst L U C;obtain ⟨xs,x,l,O⟩:=D;obtain ⟨r,R,p,hz⟩:=I.list l;obtain ⟨u,hu,ru⟩:=R.get O;obtain ⟨M,Q,f2,B,J,S⟩:=q it (by simp);refine wpAny_pyNext_list_item st p.isList (by simpa using hu) λh' Z sb=>?_;have I1:=I.turned (t':=s.toks) (λb o Y e=>(sb.2 b Y).trans e) M Q B J S;obtain ⟨o,e,c,d⟩:=id Z;exact ⟨u,rfl,zj e c d (by decide) ⟨x,H,I1,ru,⟨rfl,λys hy=>by rw[I.vP hy l];exact O⟩,Z,λb Y=>(q b Y).1⟩⟩
 done:=by
  intro X L U C hc i j s σ H E I q st D;subst L U C;obtain ⟨xs,l,O⟩:=D;obtain ⟨r,R,p,hz⟩:=I.list l;obtain ⟨M,Q,f2,B,J,S⟩:=q it (by simp);have hl:=R.length;exact wpAny_pyNext_list_end (I.ok.hd hc) st p.isList (by simp;lia) λh' eb=>⟨rfl,I.turned (λb o Y e=>eb b o Y e) M Q B J S⟩
 self:=λ_ _ _ _ _ st h=>wpAny_pyIter_listiter st h
theorem QK(a it:Addr):Turn P w K tg (Itt K a) [it] it (λi h=>h.IsTupleIter it a i) where
 mem:=by simp
 obj:=λi h st b Y=>by
  have e:=by simpa using Y
  subst e;obtain ⟨o,e,c,d⟩:=st;exact ⟨o,e,λv z=>by rw[d] at z;cases z⟩
 keep:=λi h h' st k=>st.at λo e=>k it (by simp) o e
 item:=by
  intro X L U C hc i j s σ H E I q st D;subst L U C;obtain ⟨xs,x,l,O⟩:=D;obtain ⟨r,R,p,hz⟩:=I.tuple l;obtain ⟨u,hu,ru⟩:=R.get O;obtain ⟨M,Q,f2,B,J,S⟩:=q it (by simp);refine wpAny_pyNext_tuple_item st (p) (by simpa using hu) λh' Z sb=>?_;have I1:=I.turned (t':=s.toks) (λb o Y e=>(sb.2 b Y).trans e) M Q B J S;obtain ⟨o,e,c,d⟩:=id Z;exact ⟨u,rfl,zj e c d (by decide) ⟨x,H,I1,ru,⟨rfl,λys hy=>by rw[I.xO hy l];exact O⟩,Z,λb Y=>(q b Y).1⟩⟩
 done:=by
  intro X L U C hc i j s σ H E I q st D;subst L U C;obtain ⟨xs,l,O⟩:=D;obtain ⟨r,R,p,hz⟩:=I.tuple l;obtain ⟨M,Q,f2,B,J,S⟩:=q it (by simp);have hl:=R.length;exact wpAny_pyNext_tuple_end (I.ok.hd hc) st (p) (by simp;lia) λh' eb=>⟨rfl,I.turned (λb o Y e=>eb b o Y e) M Q B J S⟩
 self:=λ_ _ _ _ _ st h=>wpAny_pyIter_tupleiter st h
theorem Pj(it:Addr)(lo:Int)(n:Nat):Turn P w K tg (Itr lo n) [it] it (λi h=>IsRangeIter h it (lo+(i:Nat)*1) ((n:Int) - (i:Nat)) 1) where
 mem:=by simp
 obj:=λi h st b Z=>by
  have e:=by simpa using Z
  subst e;exact ⟨_,st,λv z=>by
   have z':=z;cases z'⟩
 keep:=λi h u st k=>k it (by simp) _ st
 item:=by
  intro X D O r q i Y s Q H E I l st B;subst D O r;obtain ⟨J,L,S,p,C,M⟩:=l it (by simp);have W:=Walks.range (prog:=X.prog) (w:=X.w) (I.ok.hd q) it lo 1 n;refine W.item i s _ _ B st λv u tk hv j U=>?_;obtain ⟨t,rfl⟩:=hv;have R:zk X Y Q H { s with heap:=u,toks:=tk }:=I.turned (λb o Z e=>U b o (by simpa using Z) e) J L p C M;refine ⟨_,rfl,zj j rfl rfl (by decide) ⟨.int (lo+i),H,R,⟨t,?_⟩,⟨rfl,rfl⟩,j,λb Z=>(l b Z).1⟩⟩;rw[sh]
 done:=by
  intro X D O r q i Y s Q H E I l st B;subst D O r;obtain ⟨J,L,S,p,C,M⟩:=l it (by simp);exact wpAny_pyNext_range_end (I.ok.hd q) st (by have:n<=i:=B;lia) λu eb=>⟨rfl,I.turned (λb o Z e=>eb b o Z e) J L p C M⟩
 self:=λ_ _ _ _ _ st h=>wpAny_pyIter_rangeiter st h
variable {fp:C2}
theorem Ve{R:It->Hp->Prop}{lo Y:Int}{t u v:Tok}(I:zk X y8 σ H s)(l : -(2^62)<=lo)(z:lo<2^62)(i : -(2^62)<=Y)(j:Y<2^62)
 (q:R (Itr lo (Y - lo).toNat) H):de (dn X.prog X.w) X.A (yv (.ref s.heap.objs.size)) (PIE X y8 σ tg R) E { s with heap:=s.heap.push { cls:=.type "range",data:=.fields #[.int lo t,.int Y u,.int 1 v] },toks:=t' }:=by
 refine wpAny_pyIter_range (IsRange.new ..) (small_one l z i j) ?_;have Z:zk X y8 σ H { s with heap:=s.heap.push { cls:=.type "range",data:=.fields #[.int lo t,.int Y u,.int 1 v] },toks:=t' }:=I.kept λb o e=>ax _ e;refine ⟨(s.heap.push { cls:=.type "range",data:=.fields #[.int lo t,.int Y u,.int 1 v] }).objs.size,[(s.heap.push { cls:=.type "range",data:=.fields #[.int lo t,.int Y u,.int 1 v] }).objs.size],_,_,H,rfl,
  Z.kept λb o e=>ax _ e,Pj _ lo (Y - lo).toNat,?_,λb p=>?_,q⟩
 . have r:lo+((0:Nat):Int)*1=lo:=by simp
   have B:(((Y - lo).toNat:Nat):Int) - ((0:Nat):Int)=dt lo Y 1:=by rw[rangeSize_one];split <;> lia
   rw[r,B];exact cm _ rfl
 . have e:b=(s.heap.push { cls:=.type "range",data:=.fields #[.int lo t,.int Y u,.int 1 v] }).objs.size:=by simpa using p
   subst e;exact Z.qy (ay _) (Z.zS.fresh (ay _))
def adV(ta:TA):TI:=λσ H R=>ta σ H λvs H1=>∃j:Int,vs=[.int j] /\ -(2^62)<=j/\j<2^62/\R (Itr 0 j.toNat) H1
theorem GR{l:TA}{p:Pos}(B:Gl X "range")(E:X.mg "range"= none)(v:PA X [c] l)(hs:dr [c] X.env=[(false,eval c X.env)]:=by rfl):PI X tg (.Call (.Name "range" p) [c] [] pos) (adV l):=by
 intro Y s C H R I h;refine Call_ (lr I B E boot_range (gy (thn (v pos Y s C H _ I h) λL O Z=>?_) hs rfl));obtain ⟨J,M,o,z,i⟩:=Z;obtain ⟨j,e,i,D,q⟩:=i;subst e
 cases z with
 | cons r u=>
  cases u;obtain ⟨t,rfl⟩:=r;exact call_range_1 (Ve o (by lia) (by lia) i D (by simpa using q))
def aeA(wi:TI)(g:TG)(tb:TS):TS:=λD σ H=>wi σ H λJ H1=>∃W:Nat->Nat->St->Hp->Prop,(∃m,W 0 m σ H1)/\∀i m σ H,W i m σ H ->
 (J.stop i H/\D.nx σ H)\/(J.go i H/\∃N:St->Hp->Prop,(∀σ' H',N σ' H'->∃m',m'<m/\W (i+1) m' σ' H')/\∀x H',J.yld i H x H'->g x σ H' λσ2 H2=>tb { D with nx:=N,ct:=N,bk:=D.nx } σ2 H2)
noncomputable def yK(fp:C2)(h:Heap):A7:=fp.filterMap λb=>(h.get? b).map λo=>(b,o)
theorem qM{o:Obj}(Y:b∈fp)(e:h.get? b=some o):(b,o)∈yK fp h:=ma.mpr ⟨b,Y,by rw[e];rfl⟩
theorem RD{p:Addr×Obj}(Z:p∈yK fp h):p.1∈fp/\h.get? p.1=some p.2:=by
 obtain ⟨b,Y,e⟩:=ma.mp Z
 cases q:h.get? b with
 | none=>rw[q] at e;cases e
 | some o=>
  rw[q] at e;have i:=Option.some.inj e;subst i;exact ⟨Y,q⟩
theorem zk.pinned(I:zk X y8 σ H s)(u:∀b∈fp,qt X y8 H b)(i:∀b∈fp,∃o,s.heap.get? b=some o/\∀v,o.data ≠ .cell v):zk X (y8++yK fp s.heap) σ H s:=
 I.Nf λp r=>(ck.mp r).elim (λz=>I.pin p (c6 _ z)) λz=>by
  obtain ⟨Y,e⟩:=RD z;obtain ⟨q,j,l,_⟩:=u p.1 Y;obtain ⟨o,Z,d⟩:=i p.1 Y;rw[e] at Z;cases Z;exact ⟨e,q,j,l,d⟩
theorem zk.vZ{pl:A7}(I:zk X (y8++pl) σ H s):zk X y8 σ H s:=I.Nf λp Y=>I.pin p (c6 _ (da _ Y))
theorem Ut{wi:TI}{g:TG}{tb:TS}(M:tz (dn X.prog X.w) X.A X.env X.xe)(hc:X.calm=true)(hi:PI X tg c wi)(hg:PG X tg g)(l:PSs X body tb)
 (hs:∀x,iP c X.env x=pure x:=by intro _;rfl):PS X (.For tg c body [] pos) (aeA wi g tb):=by
 intro Y s σ H D I h;refine wpAny_For (thn (hi Y s σ H _ I h) λv s1 h1=>thn h1 λitv s2 h2=>?_) hs;obtain ⟨it,O,tn,J,H2,e,I2,T,st2,f2,W,⟨m0,w0⟩,turn⟩:=h2;subst e;have C:∀{H':Hp},(∀b∈O,H' b=none)->∀b∈O,qt X Y H' b:=λhn b l=>⟨hn b l,(f2 b l).2⟩;refine codeAny_forLoop_any (λn s'=>∃i q H',zk X Y q H' s'/\tn i s'.heap/\(∀b∈O,H' b=none)/\W i n q H') ?_ m0 ⟨0,σ,H2,I2,st2,λb l=>(f2 b l).1,w0⟩;rintro n s3 ⟨i,p,S,I3,P,R,w3⟩;rcases turn i n p S w3 with ⟨stop,qn⟩ | ⟨go,N,hN,step⟩
 . refine mS M (thn (T.done X rfl rfl rfl hc i Y s3 p S X.xe I3 (C R) P stop) λr s4 Z=>?_);obtain ⟨hr,I4⟩:=Z;subst hr;exact sA ⟨p,S,I4,qn⟩
 . refine mS M (thn (T.item X rfl rfl rfl hc i Y s3 p S X.xe I3 (C R) P go) λr s4 Z=>?_);obtain ⟨u,hr,h4⟩:=Z;subst hr;refine mS M (thn h4 λ_ s5 Z=>?_);obtain ⟨x,H5,I5,r5,y5,L,fr5⟩:=Z;have I5':=I5.pinned (C fr5) (T.obj _ _ L);refine mS M (thn (hg _ s5 p H5 x u _ I5' r5 (step x H5 y5)) λ_ s6 Z=>?_);obtain ⟨σ6,H6,I6,q6⟩:=Z;refine mS M (thn (l _ s6 σ6 H6 _ I6 q6) λf U E=>?_);have again:∀{j:St}{B:Hp},zk X (Y++yK O s5.heap) j B U->N j B->∃m,m<n/\∃i q H',zk X Y q H' U/\tn i U.heap/\(∀b∈O,H' b=none)/\W i m q H':=λ{j B} z Q=>by
    obtain ⟨m',hm,w7⟩:=hN j B Q;refine ⟨m',hm,i+1,j,B,z.vZ,T.keep _ _ _ L λb l o e=>(z.pin (b,o) (c6 _ (c6 _ (qM l e)))).1,λb l=>?_,w7⟩;obtain ⟨o,e,d⟩:=T.obj _ _ L b l;exact (z.pin (b,o) (c6 _ (c6 _ (qM l e)))).2.1
   cases f with
   | next=>obtain ⟨j,B,z,Q⟩:=E;exact again z Q
   | cont=>obtain ⟨j,B,z,Q⟩:=E;exact again z Q
   | brk=>obtain ⟨j,B,z,E⟩:=E;exact ⟨j,B,z.vZ,E⟩
   | ret v=>obtain ⟨x7,j,B,z,r7,E⟩:=E;exact ⟨x7,j,B,z.vZ,r7,E⟩
abbrev R2:=V->V->Hp->VK->Prop
def OpR(X:Cx)(f:bg->bg->Sem bg)(r:R2):Prop:=
 ∀(y8:A7) (s:cy) (σ:St) (H:Hp) (x y:V) (v u:bg) (Q:VK),zk X y8 σ H s->zo x v->zo y u->r x y H Q ->
  de (dn X.prog X.w) X.A (f v u) (EP X y8 σ Q) X.xe s
def UnR(X:Cx)(f:bg->Sem bg)(r:V->Hp->VK->Prop):Prop:=
 ∀(y8:A7) (s:cy) (σ:St) (H:Hp) (x:V) (v:bg) (Q:VK),zk X y8 σ H s->zo x v->r x H Q ->
  de (dn X.prog X.w) X.A (f v) (EP X y8 σ Q) X.xe s
def fD(X:Cx)(f:bg)(r:C0->Hp->VK->Prop):Prop:=
 ∀(y8:A7) (s:cy) (σ:St) (H:Hp) (xs:C0) (us:B8) (Q:VK),zk X y8 σ H s->zv xs us->r xs H Q ->
  de (dn X.prog X.w) X.A (call f us) (EP X y8 σ Q) X.xe s
def afr(X:Cx)(r:V->Hp->(Bool->Hp->Prop)->Prop):Prop:=
 ∀(y8:A7) (s:cy) (σ:St) (H:Hp) (x:V) (v:bg) (Q:Bool->Hp->Prop),zk X y8 σ H s->zo x v->r x H Q ->
  de (dn X.prog X.w) X.A (truthy v) (TP X y8 σ Q) X.xe s
def tOp(r:R2)(ta tb:TE):TE:=λσ H Q=>ta σ H λx H1=>tb σ H1 λy H2=>r x y H2 Q
def tUn(r:V->Hp->VK->Prop)(ta:TE):TE:=λσ H Q=>ta σ H λx H1=>r x H1 Q
def rI(C:Int->Int->Prop)(g:Int->Int->V):R2:=λx y H Q=>∃i j,x= .int i/\y= .int j/\C i j/\Q (g i j) H
def rI0(g:Int->Int->V):R2:=λx y H Q=>∃i j,x= .int i/\y= .int j/\Q (g i j) H
def rU(g:Int->V):V->Hp->VK->Prop:=λx H Q=>∃i,x= .int i/\Q (g i) H
variable {g:Int->Int->Int}
section
variable  {a b:Expr}{ta tb tc:TE}
theorem Vt(o:PE X a ta)(r:PE X b tb){R:V->V->Hp->Prop}(I:zk X y8 σ H s)
 (h:ta σ H λx H1=>tb σ H1 λy H2=>R x y H2) {f:bg->bg->Sem bg}
 (p:∀v u s2 x y H2,zk X y8 σ H2 s2->zo x v->zo y u->R x y H2->de (dn X.prog X.w) X.A (f v u) Q X.xe s2) :
 de (dn X.prog X.w) X.A (eval a X.env) (λv e=>de (dn X.prog X.w) X.A (eval b X.env) (λu Y=>de (dn X.prog X.w) X.A (f v u) Q X.xe Y) X.xe e) X.xe s:=by
 refine thn (o y8 s σ H _ I h) λv q ⟨x,H1,i,z,B⟩=>thn (r y8 q σ H1 _ i B) λu s2 Z=>?_;obtain ⟨y,H2,l,j,C⟩:=Z;exact p v u s2 x y H2 l z j C
theorem Q0{Z:Operator}{r:R2}(p:OpR X (fS Z) r)(o:PE X a ta)(z:PE X b tb):PE X (.BinOp a Z b pos) (tOp r ta tb):=by
 intro Y s B H Q I h;exact wpAny_BinOp (Vt o z I h λv u j x y C i e l q=>p Y j B C x y v u Q i e l q)
theorem aea{e:UnaryOp}{r:V->Hp->VK->Prop}(q:UnR X (unaryOp e) r)(o:PE X a ta):PE X (.UnaryOp e a pos) (tUn r ta):=by
 intro Y s i H Q I h;exact UnaryOp_ (thn (o Y s i H _ I h) λv p Z=>by obtain ⟨x,l,j,u,z⟩:=Z;exact q Y p i l x v Q j u z)
theorem opI{f:bg->bg->Sem bg}{C:Int->Int->Prop}
 (rule:∀(i j:Int) (t u:Tok) (s:cy) (Q:B2) (E:B2),C i j->Q (.int (g i j) s.toks) { s with toks:=s.toks+1 }->de (dn X.prog X.w) X.A (f (.int i t) (.int j u)) Q E s) :
 OpR X f (rI C λi j=>.int (g i j)):=by
 rintro Y s p H x y v u Q I Z l ⟨i,j,rfl,rfl,e,q⟩;obtain ⟨t,rfl⟩:=Z;obtain ⟨o,rfl⟩:=l;exact rule i j t o s _ _ e ⟨.int (g i j),H,I.tok _,⟨_,rfl⟩,q⟩
theorem HJ{f:bg->bg->Sem bg}
 (rule:∀(i j:Int) (t u:Tok) (s:cy) (Q:B2) (E:B2),Q (.int (g i j) s.toks) { s with toks:=s.toks+1 }->de (dn X.prog X.w) X.A (f (.int i t) (.int j u)) Q E s) :
 OpR X f (rI0 λi j=>.int (g i j)):=by
 rintro Y s o H x y v u Q I Z e ⟨i,j,rfl,rfl,q⟩;obtain ⟨t,rfl⟩:=Z;obtain ⟨l,rfl⟩:=e;exact rule i j t l s _ _ ⟨.int (g i j),H,I.tok _,⟨_,rfl⟩,q⟩
theorem abE{f:bg->bg->Sem bg}{g:Int->Int->Bool}
 (rule:∀(i j:Int) (t u:Tok) (s:cy) (Q:B2) (E:B2),Q (.bool (g i j)) s->de (dn X.prog X.w) X.A (f (.int i t) (.int j u)) Q E s) :
 OpR X f (rI0 λi j=>.bl (g i j)):=by
 rintro Y s o H x y v u Q I Z e ⟨i,j,rfl,rfl,q⟩;obtain ⟨t,rfl⟩:=Z;obtain ⟨l,rfl⟩:=e;exact rule i j t l s _ _ ⟨.bl (g i j),H,I,rfl,q⟩
def Ey(i j:Int):Prop:=0<j/\j<1073741824
def Ba(i j:Int):Prop:=0<=j/\j<=1000000/\i.natAbs<2^64
def wF(i j:Int):Prop:=(-(2^64)<i/\i<2^64)\/(-(2^64)<j/\j<2^64)
theorem wF.ok{i j:Int}(h:wF i j):IntMulOk i j:=by
 rcases h with ⟨Y,Z⟩ | ⟨Y,Z⟩
 . exact .of_left (intBits_le_64 Y Z)
 . exact .of_right (intBits_le_64 Y Z)
theorem two_pow_nn(k:Nat):(0:Int)<=2^k:=by
 rw[two_pow_cast];exact Int.natCast_nonneg _
theorem acU:OpR X (fS .Add) (rI0 λi j=>.int (i+j)):=HJ λ_ _ _ _ _ _ _ q=>add_int q
theorem adp:OpR X (fS .Sub) (rI0 λi j=>.int (i - j)):=HJ λ_ _ _ _ _ _ _ q=>sub_int q
theorem ab1:OpR X (fS .Mult) (rI wF λi j=>.int (i*j)):=opI λ_ _ _ _ _ _ _ Y q=>mul_int q Y.ok
theorem ZF:OpR X (fS .FloorDiv) (rI Ey λi j=>.int (i / j)):=opI λi j _ _ _ _ _ Y q=>by
 have Z:=Y.1;have e:=Y.2;exact floordiv_int (by lia) (by rw[tN i (by lia)];exact q) (.inl (xB (by lia)))
theorem ac1:OpR X (fS .Mod) (rI (λ_ j=>0<j) λi j=>.int (i % j)):=opI λi j _ _ _ _ _ Y q=>by
 have Z:=Y;exact mod_int' (by lia) (by rw[Int.fmod_eq_emod_of_nonneg i (by lia)];exact q)
theorem adn:OpR X (fS .LShift) (rI Ba λi j=>.int (i*2^j.toNat)):=opI λ_ _ _ _ _ _ _ Y q=>lshift_int_small Y.1 Y.2.1 Y.2.2 q
theorem adu:OpR X (fS .RShift) (rI (λ_ j=>0<=j) λi j=>.int (i / 2^j.toNat)):=opI λi j _ _ _ _ _ Y q=>
 rshift_int Y (by rw[tN i (two_pow_nn _)];exact q)
theorem ab4:OpR X (fS .BitAnd) (rI0 λi j=>.int (fE i j)):=HJ λ_ _ _ _ _ _ _ q=>and_int q
theorem adS:OpR X (fS .BitOr) (rI0 λi j=>.int (i7 i j)):=HJ λ_ _ _ _ _ _ _ q=>or_int q
theorem abT:OpR X (fS .BitXor) (rI0 λi j=>.int (kT i j)):=HJ λ_ _ _ _ _ _ _ q=>xor_int q
theorem unI{f:bg->Sem bg}{g:Int->Int}
 (rule:∀(i:Int) (t:Tok) (s:cy) (Q:B2) (E:B2),Q (.int (g i) s.toks) { s with toks:=s.toks+1 }->de (dn X.prog X.w) X.A (f (.int i t)) Q E s) :
 UnR X f (rU λi=>.int (g i)):=by
 rintro Y s e H x v Q I Z ⟨i,rfl,q⟩;obtain ⟨t,rfl⟩:=Z;exact rule i t s _ _ ⟨.int (g i),H,I.tok _,⟨_,rfl⟩,q⟩
theorem abe:UnR X (unaryOp .USub) (rU λi=>.int (-i)):=unI λ_ _ _ _ _ q=>neg_int q
theorem abx:UnR X (unaryOp .Invert) (rU λi=>.int (gS i)):=unI λ_ _ _ _ _ q=>invert_int q
theorem Tj:OpR X (fS .Add) (λx y H Q=>∃i k,x= .int i/\y= .bl k/\Q (.int (i+b2i k)) H):=by
 rintro Y s j H x y v u Q I Z e ⟨i,k,rfl,rfl,q⟩;obtain ⟨t,rfl⟩:=Z;cases e;exact add_int_bool ⟨.int (i+b2i k),H,I.tok _,⟨_,rfl⟩,q⟩
end
variable {op:CmpOp}
section
variable  {a b:Expr}{ta tb tc:TE}
theorem T9{Q:VK}{k Y:Bool}(I:zk X y8 σ H s)(q:Q (.bl k) H)(e:k=Y):EP X y8 σ Q (.bool Y) s:=by
 subst e;exact ⟨.bl k,H,I,rfl,q⟩
theorem adH:OpR X (fR .Lt) (rI0 λi j=>.bl (decide (i<j))):=abE λ_ _ _ _ _ _ _ q=>lt_int q
theorem aei:OpR X (fR .Gt) (rI0 λi j=>.bl (decide (j<i))):=abE λ_ _ _ _ _ _ _ q=>gt_int q
theorem adx:OpR X (fR .Is) (λx y H Q=>y= .non/\Q (.bl (decide (x= .non))) H):=by
 rintro Z s i H x y v u Q I Y e ⟨rfl,q⟩;cases e;refine is_none_gen (T9 I q ?_);cases x <;> first
  | (cases Y;rfl)
  | (obtain ⟨t,rfl⟩:=Y;rfl)
theorem aan:OpR X (fR .IsNot) (λx y H Q=>y= .non/\Q (.bl (!decide (x= .non))) H):=by
 rintro Z s i H x y v u Q I Y e ⟨rfl,q⟩;cases e;refine isnot_none_gen (T9 I q ?_);cases x <;> first
  | (cases Y;rfl)
  | (obtain ⟨t,rfl⟩:=Y;rfl)
theorem u9(b:Expr)(h:op ≠ .In:=by decide)(e:op ≠ .NotIn:=by decide):oe op b=false:=by
 have Z:(op == CmpOp.In)=false:=by cases op <;> first | rfl | exact absurd rfl h
 have Y:(op == CmpOp.NotIn)=false:=by cases op <;> first | rfl | exact absurd rfl e
 cases b <;> simp[oe,Z,Y]
theorem aaN{r:R2}(o:OpR X (fR op) r)(l:PE X a ta)(p:PE X b tb)(B:oe op b=false):PE X (.Compare a [op] [b] pos) (tOp r ta tb):=by
 intro Y s z H Q I h;exact wpAny_Compare1 (Vt l p I h λv u i x y C e Z j q=>o Y i z C x y v u Q e Z j q) B
def Yr(t:TE):TT:=λσ H Q=>t σ H λx H'=>∃k,x= .bl k/\Q k H'
theorem Oa{r:R2}(D:OpR X (fR op) r)(B:PE X a ta)(E:PE X b tb)(R:oe op b=false):PT X (.Compare a [op] [b] pos) (Yr (tOp r ta tb)):=by
 intro Y s Z H Q I h;refine wpAny_isTrue_Compare1 (thn (B Y s Z H _ I h) λv C ⟨x,p,i,J,L⟩=>thn (E Y C Z p _ i L) λu q ⟨y,U,o,l,O⟩=>
  thn (D Y q Z U x y v u _ o J l O) λc s3 ⟨z,j,M,S,k,e,P⟩=>?_) R
 subst e;cases S;exact k7 ⟨j,M,P⟩
def abK(K:aE)(x:V)(H:Hp)(k:Bool):Prop:=
 match x with
 | .non=>k=false
 | .bl b=>k=b
 | .int i=>k=(i != 0)
 | .str y=>y.length<=bt/\k=((y.length:Int) != 0)
 | .byt y=>y.size<=bt/\k=((y.size:Int) != 0)
 | .ref p=>(∃xs,SqL K H p xs/\k= !xs.isEmpty)\/(∃xs,SqT K H p xs/\k= !xs.isEmpty)\/∃y9,H p=some (.dK y9)/\k= !y9.isEmpty
 | _=>False
theorem Oz{e:Type}{Y:List (e×V)}{Z:List (e×bg)}(r:KV Y Z):(!Z.isEmpty)= !Y.isEmpty:=by
 cases r <;> rfl
theorem Cu(r:zv xs us):(!us.toArray.isEmpty)= !xs.isEmpty:=by
 cases r <;> simp
theorem vh:(bt:Nat)<2^63:=by rw[sizeLine_eq];decide
theorem abp:afr X (λx H Q=>∃k,abK X.K x H k/\Q k H):=by
 rintro z s M H x v Q I j ⟨k,e,q⟩;have J:=vh;have L:=sizeLine_eq
 cases x with
 | non=>
  cases j;have Y:=e;subst Y;exact truthy_none ⟨H,I,q⟩
 | bl b=>
  cases j;have Y:=e;subst Y;exact k7 ⟨H,I,q⟩
 | int i=>
  obtain ⟨t,rfl⟩:=j;have Y:=e;subst Y;exact PySem.P.truthy_int ⟨H,I,q⟩
 | str y=>
  obtain ⟨t,rfl⟩:=j;obtain ⟨C,Y⟩:y.length<=bt/\k=((y.length:Int) != 0):=e;subst Y;exact PySem.P.truthy_str (by lia) ⟨H,I.tok _,q⟩
 | byt y=>
  obtain ⟨t,rfl⟩:=j;obtain ⟨C,Y⟩:y.size<=bt/\k=((y.size:Int) != 0):=e;subst Y;exact PySem.W.truthy_bytes (by lia) ⟨H,I.tok _,q⟩
 | ref p=>
  cases j;have Y:=e;rcases Y with ⟨E,l,Y⟩ | ⟨E,l,Y⟩ | ⟨o,l,Y⟩
  . subst Y;obtain ⟨u,r,pl,B⟩:=I.list l;have Z:=r.length;exact wpAny_truthy_list pl.isList (by simp only[dA];lia) ⟨H,I.tok _,by rw[Cu r];exact q⟩
  . subst Y;obtain ⟨u,r,pl,B⟩:=I.tuple l;have Z:=r.length;exact truthy_tuple pl (by simp only[dA];lia) ⟨H,I.tok _,by rw[Cu r];exact q⟩
  . subst Y;obtain ⟨B,D,vs,r,m⟩:o.length<=bt/\(p == gu)=false/\∃vs,KV o vs/\s.heap.DictOf (bY X.prog X.w) p vs:=I.zS p _ l;have Z:=i6.length r;exact wpAny_truthy_dict D m (by lia) ⟨H,I.tok _,by rw[Oz r];exact q⟩
 | _=>exact (e).elim
theorem WL(j:PE X a ta)(l:∀whole,isTrue a X.env whole=(do let v <- whole;standAt a.pos;holding [v] (truthy v))) :
 PT X a (λσ H Q=>ta σ H λx H'=>∃k,abK X.K x H' k/\Q k H'):=by
 intro Y s σ H Q I h;exact isTrue_plain (thn (j Y s σ H _ I h) λv o Z=>by obtain ⟨x,i,e,p,q⟩:=Z;exact abp Y o σ i x v Q e p q) (l _)
theorem Ox:OpR X (fS .Add) (λx y H Q=>∃i j,x= .str i/\y= .str j/\i.length+j.length<=bt/\Q (.str (i++j)) H):=by
 rintro Y s r H x y v u Q I Z e ⟨i,j,rfl,rfl,l,q⟩;obtain ⟨t,rfl⟩:=Z;obtain ⟨o,rfl⟩:=e;exact add_str (λo p=>⟨.str (i++j),H,I.tok _,⟨_,rfl⟩,q⟩) l
theorem vals1(r:zv [v] us):∃u,us=[u]/\zo v u:=by
 cases r with
 | cons Z Y=>cases Y;exact ⟨_,rfl,Z⟩
theorem vals2{y:V}(r:zv [v,y] us):∃u w',us=[u,w']/\zo v u/\zo y w':=by
 cases r with
 | cons Z Y=>
  cases Y with
  | cons e i=>cases i;exact ⟨_,_,rfl,Z,e⟩
theorem RP(e:X.calm=true):fD X (.builtin "max") (λxs H Q=>∃i j,xs=[.int i,.int j]/\Q (.int (if j > i then j else i)) H):=by
 rintro Z s z H xs l Q I r ⟨i,j,rfl,q⟩;obtain ⟨u,o,rfl,⟨t,rfl⟩,⟨B,rfl⟩⟩:=vals2 r;refine max_two_ints (I.ok.hd e) λv p k=>⟨_,H,I.kept k,?_,q⟩
 by_cases Y:j > i
 . rw[if_pos Y,if_pos Y];exact ⟨_,rfl⟩
 . rw[if_neg Y,if_neg Y];exact ⟨_,rfl⟩
end
theorem oR.some_of{o:B7}(r:oR (some v) o):∃u,o=some u/\zo v u:=by
 cases o with
 | none=>exact (r).elim
 | some u=>exact ⟨u,rfl,r⟩
structure dJ (k:Nat) (A:gx):Prop where
 hd:A.handled=none
 dp:A.depth+3*k+5<recursionLimit
 un:A.units+16*k+200<kb
theorem dJ.mono(r:dJ i A)(h:t'<=i):dJ t' A:=⟨r.hd,by have:=r.dp;lia,by have:=r.un;lia⟩
theorem dJ.deeper(r:dJ (t'+1) A)(env:Env):dJ t' (A.deeper env):=
 ⟨r.hd,by have:=r.dp;show A.depth+1+3*t'+5<_;lia,by have:=r.un;show A.units+3+16*t'+200<_;lia⟩
theorem dJ.depth(r:dJ t' A):A.depth<recursionLimit:=by have:=r.dp;lia
theorem dJ.units(r:dJ t' A):A.units+64<kb:=by have:=r.un;lia
def aeO:TA:=λ_ H Q=>Q [] H
def aer(ta:TE)(tr:TA):TA:=λσ H Q=>ta σ H λx H1=>tr σ H1 λxs H2=>Q (x::xs) H2
section
variable    {te:TE}{t:TA}
theorem eQ:PA X [] aeO:=λ_ _ _ _ H Q I h=>vu ⟨[],H,I,.nil,h⟩
theorem bN(r:PE X e te)(C:PA X es t)(hs:dr (e::es) X.env=(false,eval e X.env)::dr es X.env:=by rfl):PA X (e::es) (aer te t):=by
 intro i Z s j H Q I h;rw[hs];exact t9 (thn (r Z s j H _ I h) λu v Y=>by obtain ⟨x,p,l,z,D⟩:=Y;exact thn (C i Z v j p _ l D) λL M Y=>by obtain ⟨B,J,q,o,E⟩:=Y;exact ⟨x::B,J,q,.cons z o,E⟩)
def ae8(t:TA):TE:=λσ H Q=>t σ H λxs H1=>xs.length<=bt/\∀p,H1 p=none->Q (.ref p) (zw H1 p (.tup xs))
def aeM(t:TA):TE:=λσ H Q=>t σ H λxs H1=>xs.length<=bt/\∀p,H1 p=none->Q (.ref p) (zw H1 p (.lst xs))
theorem aa5{x1}(h:PA X es t):PE X (.Tuple es x1 pos) (ae8 t):=by
 intro Y s B H Q I j;refine wpAny_Tuple_spliced (thn (h pos Y s B H _ I j) λl i ⟨v,o,Z,r,z,q⟩=>⟨by rw[<- r.length];exact z,?_⟩);have p:=Z.zS.fresh (ay _);refine ⟨.ref i.heap.objs.size,zw o i.heap.objs.size (.tup v),Z.laid (λb u e=>ax _ e) (ay _) ?_,rfl,q _ p⟩;exact ⟨z,l,r,⟨_,cm _ rfl,rfl,_,rfl⟩⟩
theorem aa2(h:PA X es t):PE X (.List es pos) (aeM t):=by
 intro Y s B H Q I j;refine wpAny_List_spliced (thn (h pos Y s B H _ I j) λl i ⟨v,o,Z,r,z,q⟩=>⟨by rw[<- r.length];exact z,?_⟩);have p:=Z.zS.fresh (ay _);refine ⟨.ref i.heap.objs.size,zw o i.heap.objs.size (.lst v),Z.laid (λb u e=>ax _ e) (ay _) ?_,rfl,q _ p⟩;exact ⟨z,l,0,r,cm _ rfl⟩
end
abbrev Sp:=C0->Hp->VK->XK->Prop
abbrev CXT:=C5->Hp->cy->XK->bg->cy->Prop
structure QD (P:gi) (w:kz) (K:aE) (mg:Str->B7) (base:Heap) (A:gx) (AA:C5) (s:cy) (H:Hp):Prop where
 frames:A.frames=some AA
 mod:Mod K mg base
 bs:∀b o,base.get? b=some o->s.heap.get? b=some o/\H b=none
 bsz:base.objs.size<=s.heap.objs.size
 rW:s.heap.FunFrames base AA
 frf:∀b∈frs AA,H b=none
 zS:HOk P w H s.heap
 bare:vr s.gens
 tabs:∀P,TabAt K mg P->H P=some (.tbl ji)
def CE(AA:C5)(P:gi)(w:kz)(H:Hp)(s:cy)(Q:VK)(u:bg)(s':cy):Prop:=
 ∃v H',s'.os=s.os/\vr s'.gens/\Un (frs AA) [] H H' s.heap s'.heap/\HOk P w H' s'.heap/\zo v u/\Q v H'
def CR(CX:CXT)(AA:C5)(P:gi)(w:kz)(H:Hp)(s:cy)(Q:VK)(E:XK)(r:Result)(s':cy):Prop:=
 match r with
 | .ok (.ret u)=>CE AA P w H s Q u s'
 | .ok _=>False
 | .error e=>CX AA H s E e s'
structure rM (P:gi) (w:kz) (K:aE) (mg:Str->B7) (base:Heap) (CX:CXT) (k:Nat) (f:Addr) (fd:nz) (ps:B6) (sp:Sp):Prop where
 len:∀vs H Q E,sp vs H Q E->vs.length=ps.length
 run:∀(A:gx) (AA:C5) (s:cy) (H:Hp) (args:Args) (us:B8) (vs:C0) (Q:VK) (E:XK),dJ k A->QD P w K mg base A AA s H->BindsTo s fd args (ps.zip us)->zv vs us->sp vs H Q E ->
  sd (dn P w) A (.call (.ref f) args) (CR CX AA P w H s Q E) s
theorem zk.env0(I:zk X y8 σ H s):QD X.prog X.w X.K X.mg X.base X.A X.stack s H:=
 ⟨I.ok.frames,I.ok.mod,I.bs,cS I.ok.bsz I.sz,I.stack,I.Oo,I.zS,I.bare,λP h=>I.base.lg _ _ (I.ok.tabs P h)⟩
theorem zk.after{Q:VK}(I:zk X y8 σ H s)(h:CE X.stack X.prog X.w H s Q u s'):EP X y8 σ Q u s':=by
 obtain ⟨v,Z,os,bare,un,zS,r,q⟩:=h;obtain ⟨hh,g,d,t,Y⟩:=s';obtain rfl:Y=s.os:=os;exact ⟨v,Z,I.call un zS bare (λb z=>absurd z (by simp)),r,q⟩
def X8(sp:Sp)(dvs:C0)(E:XK)(t:TA):TE:=λσ H Q=>t σ H λvs H1=>sp (vs++dvs) H1 Q E
def Binds(K:aE)(fd:nz)(ps:B6)(ds:B8):Prop:=
 ∀(s:cy) (us:B8),K.In s.heap->(us++ds).length=ps.length->BindsTo s fd ⟨us,[]⟩ (ps.zip (us++ds))
variable {ps:B6}
theorem Binds.all{fd:nz}(h:∀us:B8,us.length=ps.length->kA fd ⟨us,[]⟩=pure (ps.zip us)):Binds K fd ps []:=λs us _ Y=>by
 rw[c8] at Y ⊢;exact .of_eq (h us Y)
def Passes(CX:CXT)(X:Cx)(E:XK):Prop:=∀(y8:A7) (σ:St) (H:Hp) (s:cy) (e:bg) (s':cy),zk X y8 σ H s->CX X.stack H s E e s'->X.xe e s'
section
variable  {CX:CXT}{k:Nat}{f C:Addr}{fd:nz}  {sp:Sp}{dvs:C0}{ds:B8}{E:XK}{m:Str}{p apos:Pos}{o:Expr}  {ta:TE}{t:TA}
theorem ab7{Q:VK}(F:rM X.prog X.w X.K X.mg X.base CX k f fd ps sp)(j:dJ k X.A)(i:Binds X.K fd ps ds)(hd:zv dvs ds)(p:Passes CX X E)
 (I:zk X y8 σ H s) (r:zv xs us) (h:sp (xs++dvs) H Q E):de (dn X.prog X.w) X.A (call (.ref f) us) (EP X y8 σ Q) X.xe s:=by
 have Z:=r.append hd;have o:(us++ds).length=ps.length:=by rw[<- Z.length];exact F.len _ _ _ _ h
 refine wpAny_call (tj (F.run X.A X.stack s H ⟨us,[]⟩ (us++ds) (xs++dvs) Q E j I.env0 (i s us I.kIn o) Z h) λr l Y=>?_)
 cases r with
 | error e=>exact p y8 σ H s e l I Y
 | ok fl=>
  cases fl with
  | ret u=>exact I.after Y
  | next=>exact lb Y
  | brk=>exact lb Y
  | cont=>exact lb Y
theorem ZW(F:rM X.prog X.w X.K X.mg X.base CX k f fd ps sp)(C:dJ k X.A)(B:Gl X x)(J:X.mg x=some (.ref f))(o:kU X.K (.ref f)=true)(z:Binds X.K fd ps ds)(hd:zv dvs ds)(l:Passes CX X E)
 (u:PA X (e::es) t) (Z:nD x:=by decide) (v:dr (e::es) X.env=(false,eval e X.env)::dr es X.env:=by rfl) (i:(mI pos (dr es X.env)).any (·.1)=false:=by rfl) :
 PE X (.Call (.Name x p) (e::es) [] pos) (X8 sp dvs E t):=by
 intro Y s D H Q I h;refine nS (MK I B J ?_ Z);refine PySem.W.callWith_K I.ok.mod.kin o (thn (u pos Y s D H _ I h) λM P ⟨L,O,j,r,q⟩=>⟨j.kIn,?_⟩) v i;exact ab7 F C z hd l j r q
end
def PK(X:Cx)(kws:List om)(t:TA):Prop:=
 ∀(pos:Pos) (y8:A7) (s:cy) (σ:St) (H:Hp) (Q:C0->Hp->Prop),zk X y8 σ H s->t σ H Q->de (dn X.prog X.w) X.A (evalAll ((ua pos (ox kws X.env)).map (·.2))) (AP X y8 σ Q) X.xe s
structure cL (N P:B6) (sc:tJ):Prop where
 kind:sc.kind= .function
 co:sc.isCoroutine=false
 gen:sc.isGenerator=false
 nd:N.Nodup
 pre:N.take P.length=P
 par:∀x∈P,sc.names.lookup x=some .local\/sc.names.lookup x=some .cell
 acn:∀y∈sc.names,y.2 ≠ .free
theorem FN{kindOf:Str->Option gz}:∀{binds:List (Str×bg)}{m:Str->B7},(∀v,(x,v)∉binds)->bindL kindOf binds m x=m x
 | [],_,_=>rfl
 | (n,v)::r,m,h=>by
  rw[bindL,FN λw Y=>h w (cc _ Y)];split
  . have:x≠n:=by rintro rfl;exact h v br
    simp[this]
  . rfl
theorem FP{kindOf:Str->Option gz}:∀{binds:List (Str×bg)}{m:Str->B7},(∀v,(x,v)∉binds)->bindC kindOf binds m x=m x
 | [],_,_=>rfl
 | (n,v)::r,m,h=>by
  rw[bindC,FP λw Y=>h w (cc _ Y)];split
  . rfl
  . have:x≠n:=by rintro rfl;exact h v br
    simp[this]
theorem GD{kindOf:Str->Option gz}:∀{P:B6}{vs:B8}{i:Nat}{m:Str->B7},P.Nodup->P[i]?=some x->vs[i]?=some u->kindOf x=some .local ->
 bindL kindOf (P.zip vs) m x=some u
 | [],_,_,_,_,h,_,_=>by simp at h
 | _::_,[],_,_,_,_,h,_=>by simp at h
 | p::P,w::vs,0,m,nd,Y,Z,e=>by
  simp at Y Z;subst Y;subst Z;show bindL kindOf ((p,w)::P.zip vs) m p=_;rw[bindL,FN λu j=>(mT.mp nd).1 (x9 j).1,if_pos e];simp
 | p::P,w::vs,i+1,m,nd,Y,Z,e=>by
  unfold bindL;exact GD (mT.mp nd).2 (by simpa using Y) (by simpa using Z) e
theorem Gi{kindOf:Str->Option gz}:∀{P:B6}{vs:B8}{i:Nat}{m:Str->B7},P.Nodup->P[i]?=some x->vs[i]?=some u->kindOf x≠some .local ->
 bindC kindOf (P.zip vs) m x=some u
 | [],_,_,_,_,h,_,_=>by simp at h
 | _::_,[],_,_,_,_,h,_=>by simp at h
 | p::P,w::vs,0,m,nd,Y,Z,e=>by
  simp at Y Z;subst Y;subst Z;show bindC kindOf ((p,w)::P.zip vs) m p=_;rw[bindC,FP λu j=>(mT.mp nd).1 (x9 j).1,if_neg e];simp
 | p::P,w::vs,i+1,m,nd,Y,Z,e=>by
  unfold bindC;exact Gi (mT.mp nd).2 (by simpa using Y) (by simpa using Z) e
noncomputable def start(N:B6)(vs:C0):St:=vs.map some++aI (N.length - vs.length) none
noncomputable def mK(CX:CXT)(P:gi)(w:kz)(K:aE)(mg:Str->B7)(base:Heap)(N:B6)(qual:Str)(scope:tJ)(f:Addr)(cd:bg)(A:gx)(AA:C5)(s:cy)(H:Hp)(E:XK):Cx where
 prog:=P
 w:=w
 K:=K
 mg:=mg
 base:=base
 A:=A.deeper (oy qual scope s.heap.objs.size f cd)
 N:=N
 s₀:=s
 H₀:=H
 env:=oy qual scope s.heap.objs.size f cd
 AA:=AA
 stack:=oy qual scope s.heap.objs.size f cd::AA
 ex:=[]
 calm:=true
 fn:=λ_=>true
 pn:=[]
 xe:=λe s'=>de (dn P w) (A.deeper (oy qual scope s.heap.objs.size f cd)) (leaving (oy qual scope s.heap.objs.size f cd) e) (λ_ s''=>CX AA H s E e s'') (λe' s''=>CX AA H s E e' s'') s'
theorem Ks{Y:tJ}{n:Nat}(h:Y.names.lookup x=some .cell):∃c,(kG n Y.names []).lookup x=some c:=by
 have q:=nV Y.names n [] (.inl h);exact h8.mp q
variable {mg:Str->B7}
theorem Ux{CX:CXT}{base:Heap}{Z:Str}{Y:tJ}{f:Addr}{I:bg}{AA:C5}{s1:cy}{E:XK}
 (S:cL N ps Y) (hd:A.handled=none) (l:QD P w K mg base A AA s H) (hl:xs.length=ps.length) (r:zv xs us)
 (x:InCallC s s.heap.objs.size (bindL (oy Z Y s.heap.objs.size f I).kindOf (ps.zip us) λ_=>none) (kG (s.heap.objs.size+1) Y.names []) (bindC (oy Z Y s.heap.objs.size f I).kindOf (ps.zip us) λ_=>none) s1) :
 zk (mK CX P w K mg base N Z Y f I A AA s H E) [] (start N xs) H s1:=by
 have Q:ps.length<=N.length:=by have:=congrArg List.length S.pre;rw[dc] at this;lia
 obtain ⟨J,tk,rfl,L⟩:=x.done;have o:∀b:Addr,b∉(mK CX P w K mg base N Z Y f I A AA s H E).ex:=λb z=>absurd (show b∈([]:C2) from z) (by simp);refine ⟨⟨l.mod,S.kind,rfl,rfl,ay _,λy z c J j=>?_,λy hy=>?_,λy c _ h=>?_,λ_=>hd,Around.frames_deeper l.frames,.inr ⟨rfl,rfl⟩,λb z=>absurd z (o b),l.bs,l.bsz,λb _ _=>o b,λb z=>absurd z (o b),l.rW,l.frf,l.tabs⟩,
  rfl,l.bare,Un.kept L,⟨_,x.toInCall.ns,λi y v J j U=>?_⟩,λy c h=>⟨_,x.cell y c h⟩,l.zS.fresh (ay _),λy c h=>?_,λp C=>absurd (show p∈([]:A7) from C) (by simp),l.zS.kept L,?_⟩
 . exact name_of_addr x.apart (gE J) (gE j)
 . have hy:Y.names.lookup y=some .cell\/Y.names.lookup y=some .free:=hy;rcases hy with hy | hy
   . exact Ks hy
   . exact absurd rfl (S.acn _ (gE hy))
 . exact gp (x.above y c (gE h))
 . have D:i<xs.length:=by
    unfold start at j
    by_cases D:i<xs.length
    . exact D
    . rw[bE (by simpa using D)] at j;rw[ij] at j;split at j <;> cases j
   have R:xs[i]?=some v:=by
    unfold start at j;rw[cE (by simpa using D),ba] at j
    cases e:xs[i]? with
    | none=>rw[e] at j;cases j
    | some a=>rw[e] at j;cases j;rfl
   obtain ⟨u,M,O⟩:=r.get R;have C:ps[i]?=some y:=by
    rw[<- S.pre,kN (by lia)];exact J
   have B:ps.Nodup:=by rw[<- S.pre];exact S.nd.sublist (List.take_sublist _ _)
   refine ⟨u,O,?_⟩;rcases S.par y (d6 C) with k | k
   . exact .inl ⟨k,GD B C M k⟩
   . obtain ⟨c,e⟩:=Ks (n:=s.heap.objs.size+1) k;refine .inr ⟨.inl k,c,e,?_⟩;have q:=x.cell y c e;rw[Gi B C M (by show Y.names.lookup y≠_;rw[k];decide)] at q;exact q
 . exact l.zS.fresh (gp (x.above y c (gE h)))
 . unfold start;show _=N.length;rw[ai,ag,cf];lia
theorem Yc{CX:CXT}{p Z:Str}{j:Arguments}{Y:tJ}{dV kV D pm i ct oc:bg}{an od:C3}
 {R:Array B7}{sp:Sp} (lk:K.lookup a=some ⟨oc,od,.func (eJ p Z j body Y dV kV D pm an i ct),R⟩) (M:md K i Z=true) (S:cL N ps Y)
 (len:∀vs H Q E,sp vs H Q E->vs.length=ps.length)
 (hbody:∀(A:gx) (AA:C5) (s:cy) (H:Hp) (vs:C0) (Q:VK) (E:XK),dJ t' (A.deeper (oy Z Y s.heap.objs.size a i))->sp vs H Q E ->
  ∃t,PSs (mK CX P w K mg h N Z Y a i A AA s H E) body t/\t { nx:=λ_ H'=>Q .non H',rt:=Q } (start N vs) H) :
 rM P w K mg h CX (t'+1) a (eJ p Z j body Y dV kV D pm an i ct) ps sp:=by
 refine ⟨len,λA AA s H args us vs Q E hr L hb r C=>?_⟩;have hl:=len _ _ _ _ C;have KX:K.In s.heap:=L.mod.kin.keeps λb o e=>(L.bs b o e).1;have O:s.heap.NoLimit:=L.mod.nolimit.keeps λb o e=>(L.bs b o e).1;have z:∀y∈ps.zip us,Y.names.lookup y.1=some .local\/(Y.names.lookup y.1=some .cell/\((kG (s.heap.objs.size+1) Y.names []).lookup y.1).isSome=true):=λ⟨n,v⟩ hy=>by
  rcases S.par n (x9 hy).1 with q | q
  . exact .inl q
  . exact .inr ⟨q,nV _ _ _ (.inl q)⟩
 refine codeAny_call_function hr.depth (KX _ _ lk) rfl S.co S.gen rfl (PySem.W.codeRec_of KX M) (hb _ _ _ _ ?_);refine wpAny_newFunctionEnv_cells S.kind z λenv he s1 x=>?_;subst he;refine ⟨O.keeps x.toInCall.keep,codeAny_func ?_⟩;obtain ⟨t,ht,hq⟩:=hbody A AA s H vs Q E (hr.deeper _) C;have I:zk (mK CX P w K mg h N Z Y a i A AA s H E) [] (start N vs) H s1:=Ux S hr.hd L hl r x;refine gL (ht [] s1 (start N vs) H _ I hq) (λfl s' B=>?_) λe s' B=>B;have fin:∀{l:St}{H':Hp}{v:V}{u:bg},zk (mK CX P w K mg h N Z Y a i A AA s H E) [] l H' s'->zo v u->Q v H'->CE AA P w H s Q u s':=
  λ{l H' v u} J U q=>⟨v,H',J.os,J.bare,J.base,J.zS,U,q⟩
 cases fl with
 | ret u=>
  obtain ⟨v,l,H',J,U,q⟩:=B;exact fin J U q
 | next=>
  obtain ⟨l,H',J,q⟩:=B;exact fin (v:=V.non) (u:=bg.none) J rfl q
 | brk=>
  obtain ⟨_,_,_,q⟩:=B;exact lb q
 | cont=>
  obtain ⟨_,_,_,q⟩:=B;exact lb q
section
variable   {p:Pos}   {t:TA}{id T:String}{r:C0->Hp->VK->Prop}
def tCB(r:C0->Hp->VK->Prop)(t:TA):TE:=λσ H Q=>t σ H λvs H1=>r vs H1 Q
theorem An(u:fD X (.builtin id) r)(J:Gl X x)(P:X.mg x=none)(M:eI x=some (.builtin id))(B:PA X (e::es) t)(O:x ≠ "__name__" := by decide)(i:nD x:=by decide)
 (D:dr (e::es) X.env=(false,eval e X.env)::dr es X.env:=by rfl) (j:(mI pos (dr es X.env)).any (·.1)=false:=by rfl):PE X (.Call (.Name x p) (e::es) [] pos) (tCB r t):=by
 intro Y s l H Q I h;refine nS (lr I J P M ?_ O i);exact rS (thn (B pos Y s l H _ I h) λv C Z=>by obtain ⟨q,z,o,E,L⟩:=Z;exact u Y C l z q v Q o E L) D j
theorem uc(u:fD X (.type T) r)(J:Gl X x)(P:X.mg x=none)(M:eI x=some (.type T))(B:PA X (e::es) t)(O:x ≠ "__name__" := by decide)(i:nD x:=by decide)
 (D:dr (e::es) X.env=(false,eval e X.env)::dr es X.env:=by rfl) (j:(mI pos (dr es X.env)).any (·.1)=false:=by rfl):PE X (.Call (.Name x p) (e::es) [] pos) (tCB r t):=by
 intro Y s l H Q I h;refine nS (lr I J P M ?_ O i);exact gy (thn (B pos Y s l H _ I h) λv C Z=>by obtain ⟨q,z,o,E,L⟩:=Z;exact u Y C l z q v Q o E L) D j
end
end Zq
namespace HT
open PySem PyProof.Rows
section
variable {prog:gi}{w:kz}{A:gx}{E:bg->cy->Prop}{s:cy}
theorem ZQ{t b:Addr}{Z ws:List bg}{Q:bg->cy->Prop}(D:IsTup s.heap t Z.toArray)(I:IsTup s.heap b ws.toArray)(C:Z≠[])
 (H:ws=[]->Q (.ref t) s) (J:ws≠[]->Q (.ref s.heap.objs.size) { s with heap:=s.heap.push { cls:=.type "tuple",data:=.seq (Z++ws).toArray } })
 (r:Z.length+ws.length<=bt):de (dn prog w) A (fS .Add (.ref t) (.ref b)) Q E s:=by
 obtain ⟨⟨cls,B,data,z⟩,p,u,n,hd⟩:=id D;obtain ⟨⟨v,l,data2,o⟩,Y,j,n2,i⟩:=id I;simp only at u hd j i;subst u hd j i;have e:Z.toArray++ws.toArray=(Z++ws).toArray:=by simp
 by_cases q:ws=[]
 . exact xC ⟨_,p,rfl⟩ ⟨_,Y,rfl⟩ xb seq_tuple_add qf p4 (pb _ _)
    (tuple_addW1 t b Z.toArray ws.toArray n n2 B l z o (by simpa using C) (by simp[q])) ⟨p,Y,H q⟩
 . refine xC ⟨_,p,rfl⟩ ⟨_,Y,rfl⟩ xb seq_tuple_add qf p4 (pb _ _)
    (tuple_addW2 t b Z.toArray ws.toArray n n2 B l z o (by simpa using C) (by simpa using q) (by rw[dA,dA];exact r)) ⟨p,Y,?_⟩
   rw[e];exact J q
end
end HT
namespace Zq
open PySem PySem.Spec PyProof.Rows
abbrev TO:=St->Hp->(Option Int->Hp->Prop)->Prop
theorem intsAre_of{ns:B3}:∀{us:B8},zv (ns.map V.int) us->nc us ns:=by
 induction ns with
 | nil=>intro us r;rw[fe] at r;cases r;exact .nil
 | cons n ns i=>
  intro us r;rw[bq] at r
  cases r with
  | cons Y Z=>
   obtain ⟨t,e⟩:=Y;subst e;exact .cons n t (i Z)
variable {xs:C0}{us:B8}
section
variable {X:Cx}{e:Expr}{te:TE}{lo hi:Option Expr}{tl th:TO}{pos p2:Pos}
def adI(K:aE):R2:=λx y H Q=>∃a b xs ys,x= .ref a/\y= .ref b/\SqT K H a xs/\SqT K H b ys/\xs≠[]/\xs.length+ys.length<=bt /\
 (ys=[]->Q (.ref a) H)/\(ys≠[]->∀p,H p=none->Q (.ref p) (zw H p (.tup (xs++ys))))
theorem zv.DP(r:zv xs us):us=[]↔xs=[]:=by
 cases r with
 | nil=>simp
 | cons _ _=>simp
theorem aa1:OpR X (fS .Add) (adI X.K):=by
 rintro e s P H x y v u Q I p B ⟨a,b,M,R,rfl,rfl,C,E,r,i,J,L⟩;cases p;cases B;obtain ⟨l,Z,D,_⟩:=I.tuple C;obtain ⟨j,Y,o,_⟩:=I.tuple E;refine HT.ZQ D o (λz=>r (Z.DP.mp z)) (λz=>⟨.ref a,H,I,rfl,J (Y.DP.mp z)⟩) (λz=>?_) (by rw[<- Z.length,<- Y.length];exact i);refine ⟨.ref s.heap.objs.size,_,I.laid (λb O q=>ax _ q) (ay _) ?_,rfl,L (λw=>z (Y.DP.mpr w)) _ (I.zS.fresh (ay _))⟩;exact ⟨by rw[ai];exact i,_,Z.append Y,IsTup.new _ _⟩
end
noncomputable def ixN(n:Nat)(i:Int):Option Nat:=if 0<=i then (if i<n then some i.toNat else none) else if -(n:Int)<=i then some (i+n).toNat else none
noncomputable def atI{α:Type}(xs:List α)(i:Int):Option α:=(ixN xs.length i).bind λj=>xs[j]?
theorem Y6{n:Nat}{i:Int}{j:Nat}(h:ixN n i=some j):seqIndex? i n=some j/\j<n /\ -(n:Int)<=i/\i<n:=by
 unfold ixN at h
 by_cases Z:0<=i
 . rw[if_pos Z] at h
   by_cases Y:i<n
   . rw[if_pos Y] at h;have e:=Option.some.inj h;exact ⟨by rw[seqIndex_of Z Y,e],by lia,by lia,Y⟩
   . rw[if_neg Y] at h;cases h
 . rw[if_neg Z] at h
   by_cases Y : -n<=i
   . rw[if_pos Y] at h;have e:=Option.some.inj h;exact ⟨by rw[seqIndex_neg (by lia) Y,e],by lia,Y,by lia⟩
   . rw[if_neg Y] at h;cases h
theorem Oc{α:Type}{xs:List α}{i:Int}{v:α}(h:atI xs i=some v):∃j,seqIndex? i xs.length=some j/\xs[j]?=some v/\j<xs.length /\ -(xs.length:Int)<=i/\i<xs.length:=by
 unfold atI at h
 cases e:ixN xs.length i with
 | none=>rw[e] at h;cases h
 | some j=>
  rw[e] at h;obtain ⟨l,o,Y,Z⟩:=Y6 e;exact ⟨j,l,h,o,Y,Z⟩
theorem Nu{α:Type}{xs:List α}{j:Nat}{v:α}(h:xs[j]?=some v):atI xs (j:Int)=some v:=by
 have Y:=(a0.mp h).1;have e:ixN xs.length (j:Int)=some j:=by
  rw[ixN,if_pos (by lia),if_pos (by lia)];simp
 rw[atI,e];exact h
def lH(b:Expr):Prop:=∀o i,oz b false o i=operate [o,i] (xD o i)
def IxR(X:Cx)(r:R2):Prop:=
 ∀(value slice:Expr) (y8:A7) (s:cy) (σ:St) (H:Hp) (x y:V) (v u:bg) (Q:VK),zk X y8 σ H s->zo x v->zo y u->r x y H Q ->
  oz slice false v u=operate [v,u] (xD v u)->de (dn X.prog X.w) X.A (subscriptTail value slice v u) (EP X y8 σ Q) X.xe s
def MtR(X:Cx)(id:String)(r:V->C0->Hp->VK->Prop):Prop:=
 ∀(y8:A7) (s:cy) (σ:St) (H:Hp) (x:V) (xs:C0) (v:bg) (us:B8) (Q:VK),zk X y8 σ H s->zo x v->zv xs us->r x xs H Q ->
  de (dn X.prog X.w) X.A (call (.builtin id) (v::us)) (EP X y8 σ Q) X.xe s
section
variable {X:Cx}{a b:Expr}{ta tb:TE}{pos:Pos}
theorem Df{r:R2}(p:IxR X r)(l:PE X a ta)(o:PE X b tb)(hs:lH b):PE X (.Subscript a b pos) (tOp r ta tb):=by
 intro Y s z H Q I h;exact Subscript_ (Vt l o I h λv u i x y B e Z j q=>p a b Y i z B x y v u Q e Z j q (hs _ _))
def ae1(K:aE):R2:=λx y H Q=>∃p xs i v,x= .ref p/\y= .int i/\SqL K H p xs/\atI xs i=some v/\Q v H
def afw(K:aE):R2:=λx y H Q=>∃p xs i v,x= .ref p/\y= .int i/\SqT K H p xs/\atI xs i=some v/\Q v H
theorem ZK:IxR X (ae1 X.K):=by
 intro C o Y s O H x y v u Q I S M h E;obtain ⟨p,xs,i,z,rfl,rfl,hq,he,q⟩:=h;cases S;obtain ⟨t,rfl⟩:=M;obtain ⟨e,r,pl,hz⟩:=I.list hq;obtain ⟨j,Z,P,h3,L,R⟩:=Oc he;obtain ⟨w,J,l⟩:=r.get P;have U:=r.length;have hn:=vh;have fin:EP X Y O Q w s:=⟨z,H,I,l,q⟩
 by_cases D:0<=i
 . have B:=by
    rw[seqIndex_of D R] at Z;exact Option.some.inj Z
   exact item_listR pl.isList D (by lia) (by rw[B];simpa using J) fin E
 . have B:(i+(e.toArray.size:Int)).toNat=j:=by
    rw[seqIndex_neg (by lia) L] at Z;rw[dA,<- U];exact Option.some.inj Z
   exact subscriptTail_builtinR pl.isList.typeIs slot_list_getitem.lookup
    (wpAny_getItem_list_neg pl.isList (by lia) (by rw[dA] <;> lia) (by lia) (by rw[B];simpa using J) ⟨rfl,fin⟩) E
theorem ac8:IxR X (afw X.K):=by
 intro l e Y s E H x y v u Q I L B h D;obtain ⟨p,xs,i,z,rfl,rfl,O,P,q⟩:=h;cases L;obtain ⟨t,rfl⟩:=B;obtain ⟨o,r,pl,hz⟩:=I.tuple O;obtain ⟨j,C,J,S,U,h5⟩:=Oc P;obtain ⟨w,R,Z⟩:=r.get J;have M:=r.length;have hn:=vh;have fin:EP X Y E Q w s:=⟨z,H,I,Z,q⟩;exact subscriptTail_builtinR pl.typeIs slot_tuple_getitem.lookup
  (getItem_tuple pl (by lia) (by lia) (by rw[dA,<- M];exact C) (by simpa using R) ⟨rfl,fin⟩) D
theorem yf:fD X (.builtin "len") (λxs H Q=>∃p ys,xs=[.ref p]/\(SqL X.K H p ys\/SqT X.K H p ys)/\Q (.int ys.length) H):=by
 rintro i s v H xs o Q I r ⟨p,ys,rfl,hq,q⟩;obtain ⟨u,rfl,j⟩:=vals1 r;cases j;have z:=vh;rcases hq with hq | hq
 . obtain ⟨Z,e,pl,l⟩:=I.list hq;have Y:=e.length;exact Calls.call_len_list pl.isList (by simp only[dA] <;> lia) ⟨.int ys.length,H,I.tok _,⟨s.toks+1,by rw[dA,Y]⟩,q⟩
 . obtain ⟨Z,e,pl,l⟩:=I.tuple hq;have Y:=e.length;exact len_tuple pl (by simp only[dA] <;> lia) ⟨.int ys.length,H,I.tok _,⟨s.toks+1,by rw[dA,Y]⟩,q⟩
theorem Im:fD X (.builtin "len") (λxs H Q=>∃z,xs=[.str z]/\z.length<=bt/\Q (.int z.length) H):=by
 rintro Y s i H xs Z Q I r ⟨z,rfl,e,q⟩;obtain ⟨u,rfl,t,rfl⟩:=vals1 r;have j:=vh;exact len_str (by lia) ⟨.int z.length,H,I.tok _,⟨_,rfl⟩,q⟩
theorem yC:fD X (.type "list") (λxs H Q=>∃p ys,xs=[.ref p]/\(SqL X.K H p ys\/SqT X.K H p ys)/\∀l,H l=none->Q (.ref l) (zw H l (.lst ys))):=by
 rintro v s L H xs M Q I r ⟨p,ys,rfl,hq,q⟩;obtain ⟨u,rfl,J⟩:=vals1 r;cases J;have fin:∀(Y:B8),zv ys Y->ys.length<=bt->∀(Z:Heap) (i:Nat),(∀b E,s.heap.get? b=some E->Z.get? b=some E) ->
  Z.get? s.heap.objs.size=some { cls:=.type "list",dict:=none,data:=.seq Y.toArray i,slots:=#[] }->EP X v L Q (.ref s.heap.objs.size) { s with heap:=Z }:=λY j z Z i kp e=>
  ⟨.ref s.heap.objs.size,_,I.laid kp (ay _) (show gh X.prog X.w _ Z _ (.lst ys) from ⟨z,Y,i,j,e⟩),rfl,q _ (I.zS.fresh (ay _))⟩
 rcases hq with hq | hq
 . obtain ⟨Y,j,pl,z⟩:=I.list hq;have B:=j.length;obtain ⟨o,D,C,n,hd⟩:=pl.isList;exact call_list_seq p (.inl rfl) D C hd (λZ i kp e=>fin Y j z Z i kp e) (by simp only[dA] <;> lia)
 . obtain ⟨Y,j,pl,z⟩:=I.tuple hq;have B:=j.length;obtain ⟨o,D,C,n,hd⟩:=pl;exact call_list_seq p (.inr rfl) D C hd (λZ i kp e=>fin Y j z Z i kp e) (by simp only[dA] <;> lia)
theorem wZ:fD X (.type "tuple") (λxs H Q=>∃p ys,xs=[.ref p]/\((SqL X.K H p ys/\∀l,H l=none->Q (.ref l) (zw H l (.tup ys)))\/(SqT X.K H p ys/\Q (.ref p) H))):=by
 rintro v s L H xs J Q I r ⟨p,ys,rfl,h⟩;obtain ⟨u,rfl,C⟩:=vals1 r;cases C;rcases h with ⟨Z,q⟩ | ⟨Z,q⟩
 . obtain ⟨Y,i,pl,z⟩:=I.list Z;have B:=i.length;refine call_tuple_list pl.isList (λE kp=>?_) (by simp only[dA] <;> lia);have j:=I.kept (t':=s.toks) kp;have D:=
    j.laid (t':=s.toks) (λb o e=>ax _ e) (ay _) (show gh X.prog X.w _ _ _ (.tup ys) from ⟨z,Y,i,IsTup.new _ _⟩)
   exact ⟨.ref E.objs.size,_,D,rfl,q _ (j.zS.fresh (ay _))⟩
 . obtain ⟨Y,i,pl,z⟩:=I.tuple Z;exact call_tuple_same pl ⟨.ref p,H,I,rfl,q⟩
def tyV(K:aE)(T:String)(x:V)(H:Hp):Prop:=match x with
 | .str _=>T = "str"
 | .int _=>T = "int"
 | .ref p=>(T = "list" /\ ∃xs,SqL K H p xs)\/(T = "tuple" /\ ∃o,K.lookup p=some o/\o.cls= .type "tuple" /\ o.dict=none) \/
  (T = "dict" /\ ((∃y9,H p=some (.dK y9))\/∃y9,H p=some (.dT y9)))\/(T = "set" /\ ∃S n,H p=some (.set S n))
 | _=>False
theorem ab2{Z:A7}{D:St}{H:Hp}{s:cy}{T:String}{x:V}{v:bg}(I:zk X Z D H s)(r:zo x v)(ty:tyV X.K T x H) :
 s.TypeIs v T/\∀a,v= .ref a->∃q,s.heap.get? a=some q/\q.dict=none:=by
 cases x with
 | str z=>
  obtain ⟨t,rfl⟩:=r;cases (ty);exact ⟨typeIs_str s z t,λ_ e=>nomatch e⟩
 | int i=>
  obtain ⟨t,rfl⟩:=r;cases (ty);exact ⟨typeIs_int s i t,λ_ e=>nomatch e⟩
 | ref p=>
  cases r;rcases ty with ⟨rfl,E,B⟩ | ⟨rfl,o,Y,C,hd⟩ | ⟨rfl,Y⟩ | ⟨rfl,S,n,Y⟩
  . obtain ⟨u,_,pl,_⟩:=I.list B;refine ⟨pl.isList.typeIs,λa e=>?_⟩;cases e;obtain ⟨o,n,e,c,hd,_⟩:=pl;exact ⟨o,e,hd⟩
  . refine ⟨⟨o,I.kIn p o Y,C⟩,λa e=>?_⟩;cases e;exact ⟨o,I.kIn _ o Y,hd⟩
  . have z:∃o,s.heap.get? p=some o/\o.ExactDict:=by
     rcases Y with ⟨l,Y⟩ | ⟨l,Y⟩
     . obtain ⟨_,_,_,_,o,_,_,e,ex,_⟩:=I.zS p _ Y;exact ⟨o,e,ex⟩
     . obtain ⟨_,_,_,_,o,_,_,e,ex,_⟩:=I.zS p _ Y;exact ⟨o,e,ex⟩
    obtain ⟨o,e,ex⟩:=z;refine ⟨⟨o,e,ex.1⟩,λa j=>?_⟩;cases j;exact ⟨o,e,ex.2.1⟩
  . obtain ⟨o,_,_,_,e,ex,_⟩:=I.zS p _ Y;refine ⟨⟨o,e,ex.1⟩,λa j=>?_⟩;cases j;exact ⟨o,e,ex.2.1⟩
 | _=>exact lb ty
def tBM(K:aE)(T:String)(r:V->C0->Hp->VK->Prop)(to:TE)(t:TA):TE:=λσ H Q=>to σ H λx H1=>tyV K T x H1/\t σ H1 λxs H2=>r x xs H2 Q
variable {o e:Expr}{es:C1}{to:TE}{t:TA}{name:Str}{apos cpos:Pos}{T id:String}{r:V->C0->Hp->VK->Prop}
theorem BV(D:PlainAttrs T)(slot:Slot T name id)(u:typeOf (.builtin id)=pure (.type "method_descriptor"))(hm:MtR X id r)(ho:PE X o to)(S:PA X (e::es) t)
 (l:l5 o name X.env (eval o X.env)=eval o X.env:=by rfl)
 (p:((mI cpos (dr (e::es) X.env)).all (λx=>!x.1)&&(ua cpos (ox [] X.env)).all (λx=>x.1.isSome)
  && decide ((e::es).length+([]:List om).length+(if ([]:List om).isEmpty then 0 else 1)<30))=true:=by rfl)
 (j:(apos.endLine == cpos.line)=true:=by rfl) (hs:dr (e::es) X.env=(false,eval e X.env)::dr es X.env:=by rfl) (i:(mI cpos (dr es X.env)).any (·.1)=false:=by rfl) :
 PE X (.Call (.Attribute o name apos) (e::es) [] cpos) (tBM X.K T r to t):=by
 intro Y s q H Q I h;refine wpAny_Call_method_late l p j rfl (thn (ho Y s q H _ I h) λv U Z=>?_);obtain ⟨x,M,z,C,ty,q1⟩:=Z;obtain ⟨R,h2⟩:=ab2 z C ty;refine ⟨T,id,D,slot,u,R,h2,?_⟩;have B:=S cpos Y U q M _ z q1;rw[hs] at B ⊢;exact qh (by show (false||(mI cpos (dr es X.env)).any (·.1))=false;rw[i] <;> rfl) (Calls.evalArgs_plain (thn B λL P Z=>by obtain ⟨E,H2,O,J,q2⟩:=Z;exact hm Y P q H2 x E v L Q O C J q2))
end
def MtM(X:Cx)(id:String)(r:V->C0->Hp->VK->Prop):Prop:=
 ∀(y8:A7) (s:cy) (σ:St) (H:Hp) (x:V) (xs:C0) (v:bg) (us:B8) (Q:VK),zk X y8 σ H s->zo x v->zv xs us->r x xs H Q ->
  de (dn X.prog X.w) X.A (call (.builtin id) (v::us)) (EP X y8 σ Q) X.xe s
theorem zv.one{x:V}(h:zv [x] us):∃u,us=[u]/\zo x u:=by
 cases h with
 | cons r t=>cases t;exact ⟨_,rfl,r⟩
theorem zv.two{x y:V}(h:zv [x,y] us):∃u v,us=[u,v]/\zo x u/\zo y v:=by
 cases h with
 | cons r t=>
  cases t with
  | cons q t=>cases t;exact ⟨_,_,rfl,r,q⟩
theorem zv.rep(h:zv xs us):∀k:Nat,zv (aI k xs).flatten (aI k us).flatten
 | 0=>.nil
 | k+1=>by
  rw[fh,fh,k8,k8];exact zv.append h (zv.rep h k)
theorem foldl_rep(Y:B8):∀(k:Nat) (zd:B8),
 List.foldl (λi j=>i++j) zd.toArray (aI k Y.toArray)=(zd++(aI k Y).flatten).toArray
 | 0,zd=>by simp
 | k+1,zd=>by
  have e:zd.toArray++Y.toArray=(zd++Y).toArray:=by simp
  have Z:(zd++Y)++(aI k Y).flatten=zd++(aI (k+1) Y).flatten:=by
   rw[fh,k8,dy]
  rw[<- Z,<- foldl_rep Y k (zd++Y),<- e,fh,jI]
variable {ze:B8}
section
variable {X:Cx}{y8:A7}{σ:St}{H:Hp}{s:cy}{l b:Addr}{ys zs:C0}
theorem zk.QM{its':B8}{n:Nat}{f:Array bg->Array bg}{t':Nat}(I:zk X y8 σ H s)(p:H l=some (.lst xs))
 (e:s.heap.get? l=some { cls:=.type "list",data:=.seq ze.toArray n }) (o:f ze.toArray=its'.toArray) (Z:zv ys its') (j:ys.length<=bt) :
 zk X y8 σ (zw H l (.lst ys)) { s with heap:=s.heap.update l (oB f),toks:=t' }:=by
 have q:=PySem.IsL.update e f;rw[o] at q;refine I.write (by rw[p];exact trivial) (.inl rfl) (λr u Y i=>(qk s.heap (oB f) (mw Y)).trans i) ⟨_,q⟩ ?_;exact ⟨j,its',_,Z,q⟩
theorem zk.acB{t':Nat}(I:zk X y8 σ H s)(Z:zv ys ze)(Y:ys.length<=bt) :
 zk X y8 σ (zw H s.heap.objs.size (.lst ys)) { s with heap:=s.heap.push { cls:=.type "list",data:=.seq ze.toArray },toks:=t' }:=
 I.laid (λ_ _ q=>ax _ q) (ay _) ⟨Y,ze,0,Z,cm _ rfl⟩
theorem zk.fresh(I:zk X y8 σ H s):H s.heap.objs.size=none:=I.zS.fresh (ay _)
theorem zk.Pu(I:zk X y8 σ H s)(Y:H l=some (.lst xs)):xs.length<=bt/\∃(ze:B8) (n:Nat),zv xs ze/\xs.length=ze.length/\s.heap.get? l=some { cls:=.type "list",data:=.seq ze.toArray n }:=by
 obtain ⟨z,ze,n,r,e⟩:=I.zS l _ Y;exact ⟨z,ze,n,r,r.length,e⟩
theorem Ji{n:Nat}(h:n<=bt):kP n=false:=by
 exact decide_eq_false (by lia)
end
section
variable {X:Cx}
def aat:V->C0->Hp->VK->Prop:=λx vs H Q=>∃l xs y,x= .ref l/\vs=[y]/\H l=some (.lst xs)/\xs.length<bt/\Q .non (zw H l (.lst (xs++[y])))
theorem yg:MtM X "list.append" aat:=by
 rintro Z s L H x B v D Q I j o ⟨l,J,y,rfl,rfl,i,E,q⟩;cases j;obtain ⟨u,rfl,p⟩:=o.one;obtain ⟨z,Y,n,r,C,e⟩:=I.Pu i;refine xE qo ⟨_,e,rfl⟩ F.entry_list_append (F.args_list_append_2 _ _) (PySem.list_append l Y.toArray n u (by rw[dA];lia)) ⟨e,?_⟩;refine ⟨.non,_,I.QM i e (by simp) (r.append (.cons p .nil)) ?_,rfl,q⟩;rw[ai,cK];lia
theorem len_rep{α:Type}(xs:List α)(k:Nat):(aI k xs).flatten.length=k*xs.length:=by
 induction k with
 | zero=>simp
 | succ k Y=>rw[fh,k8,ai,Y,xI,Nat.add_comm]
end
end Zq
namespace Att
open PySem PySem.W PySem.Calls PyProof.Rows
theorem Dp{P:Params}{h:Heap}:∀(ns:List Int) (vs:List bg),WellAll P h vs (ns.map WData.int)->nc vs ns:=by
 intro ns
 induction ns with
 | nil=>
  intro vs w;rw[fe] at w;cases w;exact .nil
 | cons n ns Y=>
  intro vs w;rw[bq] at w
  cases w with
  | cons a b=>
   cases a;exact .cons _ _ (Y _ b)
theorem Tv{l:xw}{n:Nat}(E:l.most=some n){P:Params}{h:Heap}{args:List WData}{vals:List bg}
 (Y:l.row.toRowW.claim.pre args=true) (j:WellAll P h vals args) :
 ∃a vs ns,vals=[hZ a]/\args=[WData.list (ns.map WData.int)]/\h.get? a=some { cls:=.type "list",data:=.seq vs.toArray }/\nc vs ns/\ns.length<=n:=by
 have p:=(pre_splitW Y).1;have z:=(pre_splitW Y).2;obtain ⟨d,r,rfl,B,H⟩:=hasAllW_cons p;obtain rfl:=hasAllW_nil H;obtain ⟨I,rfl,s⟩:=hasW_list B;obtain ⟨ns,rfl⟩:=items_int s;have e:ns.length<=n:=by
  have o:(WTm.not (.lt (.lit (.int n)) (.len (.arg 0)))).holds [] { args:=[.list (ns.map .int)] }=true:=by
   have o:=(holds_andW z).1;rwa [E] at o
  have i:=condW_of o (w_not (w_lt w_lit (w_len_list (w_arg rfl))));rw[ag] at i;refine kn λq=>?_;have u:n<(ns.length:Int):=by lia
  first
   | (rw[decide_eq_true u] at i;exact absurd i (by decide))
   | (simp at i;lia)
 cases j with
 | cons D v=>
  cases v
  cases D with
  | list C Z=>exact ⟨_,_,ns,rfl,rfl,C,Dp ns _ Z,e⟩
theorem Tp(l:xw)(Y:List WData):l.row.toRowW.claim.post Y (.bool true) Y=true:=
 postW_of
  (show WShape.has [] (.bool true) .bool=true by first | rfl | decide | simp[WShape.arms,WShape.armsAll])
  (w_eq_bool (w_res rfl) w_lit) rfl
theorem Ls{l:xw}{n:Nat}{q:gi}{e:List Str}{L:(Str->Option bg)->Heap->Prop}{J:kz->Heap->Prop}{d:DefRec}
 (Q:l.most=some n) (D:d.params.defaults=[])
 (call:∀(w:kz) (s₀ Z:cy) (mg mb:Str->Option bg) (p:Addr) (o:Obj) (pm cd j:bg) (a:Addr) (vs:List bg) (ns:List Int),
  Ground q e [] L w s₀ mg mb Z.heap->J w Z.heap ->
  Z.heap.get? p=some o->o.data= .func (docDef d.name d.params d.body d.scope pm cd j)->Z.heap.CodeRec cd d.name->mg d.name=some (.ref p) ->
  Z.heap.get? a=some { cls:=.type "list",data:=.seq vs.toArray }->nc vs ns->ns.length<=n->Z.gens=#[] ->
  sd (dn l.prog w) yB (.call (.ref p) ⟨[.ref a],[]⟩) (λr s'=>r= .ok (.ret (.bool true))/\OldK Z.heap s'.heap/\s'.os=Z.os/\vr s'.gens) Z) :
 WalkO q e L J l.row.toRowW d [] (λf vs=>PySem.call f vs):=by
 intro w s₀ Z mg mb G Y p o pm cd j dV kV ho hd B E z P H vals as v I hrd C U;obtain rfl:dV= .none:=Dflts.none E D;obtain rfl:kV= .none:=Dflts.noKw E;obtain ⟨a,vs,ns,rfl,rfl,u,i,s⟩:=Tv Q v C;refine enter_call (tj (call w s₀ Z mg mb p o pm cd j a vs ns G Y ho (fd_plain hd) B z u i s P) λr s' hq=>?_);obtain ⟨rfl,S,M,O⟩:=hq;exact ⟨.inl ⟨.bool true,.bool true,[],rfl,λ_=>rfl,.bool true,Tp l _,λ_=>⟨we.nil,λ_ R=>(nomatch R)⟩⟩,S,M,O⟩
end Att
namespace Zq
open PySem PySem.Spec PyProof.Rows
theorem Gv:∀{vs:B8}{ns:B3},nc vs ns->zv (ns.map V.int) vs
 | _,_,.nil=>.nil
 | _,_,.cons n t h=>.cons ⟨t,rfl⟩ (Gv h)
noncomputable def cC(s:Stmt):Arguments:=match s with
 | .FunctionDef _ a _ _ _ _ _ _ _ _=>a
 | _=>{ posonlyargs:=[],args:=[],vararg:=none,kwonlyargs:=[],kw_defaults:=[],kwarg:=none,defaults:=[] }
noncomputable def bK(s:Stmt):C4:=match s with
 | .FunctionDef _ _ b _ _ _ _ _ _ _=>b
 | _=>[]
noncomputable def aM(s:Stmt):tJ:=match s with
 | .FunctionDef _ _ _ _ _ _ sc _ _ _=>sc
 | _=>{ kind:=.function,names:=[],isGenerator:=false,isCoroutine:=false }
abbrev CX0:CXT:=λ_ _ _ _ _ _=>False
abbrev E0:XK:=λ_ _ _=>False
theorem aed{X:Cx}:Passes CX0 X E0:=λ_ _ _ _ _ _ _ h=>h.elim
structure Fun (K:aE) (x qual:Str) (st:Stmt) (f:Addr) (fd:nz):Prop where
 ex:∃(oc:bg) (od:C3) (kV doc pm:bg) (an:C3) (zh ct:bg) (osl:Array B7),
  fd=eJ x qual (cC st) (bK st) (aM st) .none kV doc pm an zh ct/\K.lookup f=some ⟨oc,od,.func fd,osl⟩/\md K zh qual=true
 kp:kU K (.ref f)=true
variable {x qual:Str}
section
variable {P:gi}{w:kz}{K:aE}{mg:Str->B7}{base:Heap}
theorem Fun.ok{st:Stmt}{f:Addr}{fd:nz}{N e:B6}{k:Nat}{sp:Sp}(F:Fun K x qual st f fd)(S:cL N e (aM st))(len:∀vs H Q E,sp vs H Q E->vs.length=e.length)
 (hbody:∀(Y:bg) (A:gx) (AA:C5) (s:cy) (H:Hp) (vs:C0) (Q:VK) (E:XK),dJ k (A.deeper (oy qual (aM st) s.heap.objs.size f Y))->sp vs H Q E ->
  ∃t,PSs (mK CX0 P w K mg base N qual (aM st) f Y A AA s H E).nox (bK st) t/\t { nx:=λ_ H'=>Q .non H',rt:=Q } (start N vs) H):rM P w K mg base CX0 (k+1) f fd e sp:=by
 obtain ⟨u,r,kV,l,pm,p,Y,ct,j,rfl,lk,Z⟩:=F.ex;refine Yc lk Z S len λA AA s H vs Q E o i=>?_;obtain ⟨t,h,q⟩:=hbody Y A AA s H vs Q E o i;exact ⟨t,h.nox,q⟩
theorem Fun.binds{st:Stmt}{f:Addr}{fd:nz}{i:B6}(F:Fun K x qual st f fd)
 (h:∀(kV Y pm:bg) (e:C3) (Z ct:bg) (us:B8),us.length=i.length->kA (eJ x qual (cC st) (bK st) (aM st) .none kV Y pm e Z ct) ⟨us,[]⟩=pure (i.zip us)):Binds K fd i []:=by
 obtain ⟨p,o,kV,Y,pm,e,Z,ct,l,rfl,lk,j⟩:=F.ex;exact .all (h kV Y pm e Z ct)
theorem HN{st:Stmt}{f:Addr}{o:bg}{j i:C3}{e:Array B7}{kV Z pm Y ct:bg}(l:K.lookup f=some ⟨o,j,.func (eJ x qual (cC st) (bK st) (aM st) .none kV Z pm i Y ct),e⟩)
 (c:md K Y qual=true) (k:kU K (.ref f)=true):Fun K x qual st f (eJ x qual (cC st) (bK st) (aM st) .none kV Z pm i Y ct):=⟨⟨o,j,kV,Z,pm,i,Y,ct,e,rfl,l,c⟩,k⟩
end
theorem Uc{n:Nat}(h:n<=1000):n<bt:=ke h (by decide)
theorem yM{A B:Prop}(h:B):if false=true then A else B:=by
 rw[if_neg fo];exact h
theorem yw{A B:Prop}(h:A):if true=true then A else B:=by
 rw[if_pos rfl];exact h
def aD(H H':Hp):Prop:=∀b o,H b=some o->H' b=some o
theorem aD.refl(H:Hp):aD H H:=λ_ _ h=>h
theorem aD.trans{H Y H2:Hp}(a:aD H Y)(b:aD Y H2):aD H H2:=λc o h=>b c o (a c o h)
theorem aD.free{H Y:Hp}(e:aD H Y){l:Addr}(h:Y l=Option.none):H l=Option.none:=by
 cases q:H l with
 | none=>rfl
 | some o=>
  rw[e l o q] at h;cases h
theorem aD.seq{K:aE}{H Y:Hp}{a:Addr}{xs:C0}(e:aD H Y)(h:SqL K H a xs):SqL K Y a xs:=by
 rcases h with (h | ⟨o,h⟩) | h
 . exact .inl (.inl (e _ _ h))
 . exact .inl (.inr ⟨o,e _ _ h⟩)
 . exact .inr h
end Zq
set_option maxHeartbeats 4000000
namespace Zq
open PySem PySem.Spec PyProof.Rows
noncomputable def Cx.comp(X:Cx)(scope:tJ)(tn:B6)(ix:B5)(cl:B1)(C:Addr)(s₂:cy)(H₂:Hp)(fp:C2):Cx where
 prog:=X.prog
 w:=X.w
 K:=X.K
 mg:=X.mg
 base:=X.base
 A:=X.A
 N:=tn++ix.map λi=>X.N.getD i Str.empty
 s₀:=s₂
 H₀:=H₂
 env:=compEnvC scope cl C X.env
 AA:=X.stack
 stack:=X.stack
 ex:=fp
 fn:=λx=>scope.names.lookup x == some .cell
 calm:=X.calm
 pn:=[]
 xe:=λ_ _=>False
noncomputable def vg(tn:B6)(ix:B5)(σ:St):St:=aI tn.length none++ix.map λi=>(σ[i]?).join
def su(X:Cx)(ifs:C1)(t:TT):Prop:=
 ∀(y8:A7) (s:cy) (σ:St) (H:Hp) (Q:Bool->Hp->Prop),zk X y8 σ H s->t σ H Q ->
  de (dn X.prog X.w) X.A (forIn ifs true λc r=>if r=true then do let ok <- isTrue c X.env (eval c X.env);pure (n5 ok) else pure (n5 r)) (TP X y8 σ Q) X.xe s
def aeJ:TT:=λ_ H Q=>Q true H
variable {X:Cx}
theorem U8:su X [] aeJ:=λ_ _ _ H _ I h=>wpAny_tests_nil ⟨H,I,h⟩
theorem Xo{c:Expr}{t:TT}(h:PT X c t):su X [c] t:=λY s Z H Q I q=>wpAny_tests_one (h Y s Z H Q I q)
def abV(tn:B6)(ix:B5)(g:TG)(tt:TT)(te:TE)(σ:St)(Q:VK)(J:It)(H1:Hp):Prop:=∀D,H1 D=none ->
 ∃W:Nat->Nat->St->C0->Hp->Prop,(∃m,W 0 m (vg tn ix σ) [] (zw H1 D (.lst [])))/\∀i m σb zd H2,W i m σb zd H2->H2 D=some (.lst zd) /\
  ((
   J.stop i H2/\Q (.ref D) H2)\/(J.go i H2/\zd.length<bt/\∀x H3,J.yld i H2 x H3->g x σb H3 λσ4 H4=>tt σ4 H4 λb H5=>
   if b=true then te σ4 H5 λv H6=>H6 D=some (.lst zd)/\∃m',m'<m/\W (i+1) m' σ4 (zd++[v]) (zw H6 D (.lst (zd++[v]))) else ∃m',m'<m/\W (i+1) m' σ4 zd H5))
def Hl(tn:B6)(ix:B5)(wi:TI)(g:TG)(tt:TT)(te:TE):TE:=λσ H Q=>wi σ H (abV tn ix g tt te σ Q)
variable {scope:tJ}{env:Env}
theorem Hf(h:∀x∈scope.names,x.2= .free->∃c,env.cells.lookup x.1=some c) :
 ∃cl,xS scope env=pure cl/\(∀x c,cl.lookup x=some c->env.cells.lookup x=some c)/\∀x∈scope.names,x.2= .free->∃c,cl.lookup x.1=some c:=by
 have all:∀(l:List (Str×gz)) (Y:B1),(∀x∈l,x.2= .free->∃c,env.cells.lookup x.1=some c)->(∀x c,Y.lookup x=some c->env.cells.lookup x=some c) ->
  ∃cl,(forIn l Y λ(x:Str×gz) (r:B1)=>(if (x.2 == gz.free)=true then (do let a <- cellOf env x.1;pure (n5 ((x.1,a)::r))) else pure (n5 r):Sem (ForInStep B1)))=pure cl /\
   (∀x c,cl.lookup x=some c->env.cells.lookup x=some c)/\(∀x∈l,x.2= .free->∃c,cl.lookup x.1=some c)/\∀x,(∃c,Y.lookup x=some c)->∃c,cl.lookup x=some c:=by
  intro l
  induction l with
  | nil=>intro Y _ p;exact ⟨Y,rfl,p,λx hx=>absurd hx (by simp),λx hx=>hx⟩
  | cons y r C=>
   intro Y s p;obtain ⟨n,k⟩:=y
   by_cases z:k= .free
   . subst z;obtain ⟨c,B⟩:=s (n,.free) (by simp) rfl;have v:∀x c',vv x ((n,c)::Y)=some c'->env.cells.lookup x=some c':=λx c' e=>by
      rw[kH] at e
      cases hx:x == n with
      | true=>
       rw[hx] at e;have Z:=beq_iff_eq.mp hx;cases e;rw[Z];exact B
      | false=>rw[hx] at e;exact p x c' e
     obtain ⟨cl,Z,i,j,o⟩:=C ((n,c)::Y) (λx hx=>s x (cc _ hx)) v;have E:cellOf env n=pure c:=by rw[cellOf,B]
     refine ⟨cl,?_,i,λx hx q=>?_,λx ⟨c',u⟩=>?_⟩
     . rw[ya];simp only[E,beq_self_eq_true,pure_bind];exact Z
     . rcases b9.mp hx with rfl | hx
       . exact o n ⟨c,by simp⟩
       . exact j x hx q
     . refine o x ?_;rw[kH]
       cases x == n with
       | true=>exact ⟨c,rfl⟩
       | false=>exact ⟨c',u⟩
   . have H:(k == gz.free)=false:=by simpa using z
     obtain ⟨cl,Z,i,j,o⟩:=C Y (λx hx=>s x (cc _ hx)) p;refine ⟨cl,?_,i,λx hx q=>?_,o⟩
     . rw[ya];simp only[H,iA,pure_bind];exact Z
     . rcases b9.mp hx with rfl | hx
       . exact absurd q z
       . exact j x hx q
 obtain ⟨cl,Z,i,j,_⟩:=all scope.names [] h (λx c e=>by simp at e);refine ⟨cl,?_,i,j⟩;refine Eq.trans rfl ?_;have D:=congrArg (· >>= pure) Z
 first
  | (exact D)
  | exact D.trans (pure_bind _ _)
theorem oE{env:Env}:∀{Y:List (Str×gz)}{x:Str},Y.lookup x=some .free ->
 (Y.map λ(n,k)=>if (k == gz.free&&env.scope.kind == .function&&env.kindOf n == some .cell) then (n,gz.cell) else (n,k)).lookup x=some .cell \/
 (Y.map λ(n,k)=>if (k == gz.free&&env.scope.kind == .function&&env.kindOf n == some .cell) then (n,gz.cell) else (n,k)).lookup x=some .free
 | [],_,h=>by simp at h
 | (n,k)::r,x,h=>by
  have i:=@oE env r x;show vv x ((if (k == gz.free&&env.scope.kind == .function&&env.kindOf n == some .cell)=true then (n,gz.cell) else (n,k))::_)=_\/vv x ((if (k == gz.free&&env.scope.kind == .function&&env.kindOf n == some .cell)=true then (n,gz.cell) else (n,k))::_)=_
  cases Z:x == n with
  | true=>
   simp only[kH,Z] at h;cases h
   by_cases e:(gz.free == gz.free&&env.scope.kind == .function&&env.kindOf n == some .cell)=true
   . rw[if_pos e];exact .inl (by simp[kH,Z])
   . rw[if_neg e];exact .inr (by simp[kH,Z])
  | false=>
   simp only[kH,Z] at h
   by_cases e:(k == gz.free&&env.scope.kind == .function&&env.kindOf n == some .cell)=true
   . rw[if_pos e];simp only[kH,Z];exact i h
   . rw[if_neg e];simp only[kH,Z];exact i h
noncomputable def iH(X:Cx)(scope:tJ)(ix:B5):Bool:=
 scope.kind == .function&&scope.names.all (λy=>scope.names.lookup y.1 == some y.2&&(y.2 != .free||(X.env.scope.names.lookup y.1 == some .cell||X.env.scope.names.lookup y.1 == some .free))&&(y.2 != .local||scope.names.lookup y.1 == some .local)) &&
 ix.all λi=>match X.N[i]? with
  | some x=>scope.names.lookup x == some .free
  | none=>false
structure K3 (X:Cx) (scope:tJ) (ix:B5):Prop where
 kind:scope.kind= .function
 one:∀y∈scope.names,scope.names.lookup y.1=some y.2
 free:∀y∈scope.names,y.2= .free->X.env.scope.names.lookup y.1=some .cell\/X.env.scope.names.lookup y.1=some .free
 loc:∀y∈scope.names,y.2= .local->scope.names.lookup y.1=some .local
 ix:∀i∈ix,∃x,X.N[i]?=some x/\scope.names.lookup x=some .free
theorem iH.of{ix:B5}(h:iH X scope ix=true):K3 X scope ix:=by
 unfold iH at h;rw[dQ,dQ] at h;obtain ⟨⟨p,j⟩,Z⟩:=h;rw[gc] at j Z;have g:∀y∈scope.names,(scope.names.lookup y.1=some y.2/\(y.2= .free->X.env.scope.names.lookup y.1=some .cell\/X.env.scope.names.lookup y.1=some .free))/\(y.2= .local->scope.names.lookup y.1=some .local):=λy Y=>by
  have q:=j y Y;rw[dQ,dQ,sC,sC,sC] at q;obtain ⟨⟨o,q2⟩,q3⟩:=q;refine ⟨⟨by simpa using o,λe=>?_⟩,λe=>?_⟩
  . rcases q2 with q2 | q2 | q2
    . exact absurd e (by simpa using q2)
    . exact .inl (by simpa using q2)
    . exact .inr (by simpa using q2)
  . rcases q3 with q3 | q3
    . exact absurd e (by simpa using q3)
    . simpa using q3
 refine ⟨by simpa using p,λy Y=>(g y Y).1.1,λy Y=>(g y Y).1.2,λy Y=>(g y Y).2,λi l=>?_⟩;have q:=Z i l
 cases e:X.N[i]? with
 | none=>rw[e] at q;cases q
 | some x=>rw[e] at q;exact ⟨x,rfl,by simpa using q⟩
variable {y8:A7}{σ:St}{H:Hp}{s:cy}
section
variable       {tn:B6}{ix:B5}{cl:B1}{C D:Addr}{fp:C2}{h₁:Heap}{tk:Nat}
theorem zk.block(S:K3 X scope ix)(I:zk X y8 σ H s)(Y:∀x c,cl.lookup x=some c->(X.env.cells.lookup x=some c/\scope.names.lookup x≠some .cell)\/(scope.names.lookup x=some .cell/\s.heap.objs.size<=c/\c≠D/\h₁.IsCell c none))
 (hinj:∀x y c,cl.lookup x=some c->cl.lookup y=some c->scope.names.lookup x=some .cell->scope.names.lookup y=some .cell->x=y) (aeC:∀x,scope.names.lookup x=some .cell->∃c,cl.lookup x=some c) (E:∀x∈scope.names,x.2= .free->∃c,cl.lookup x.1=some c)
 (M:∀b∈fp,qt X y8 H b) (Q:∀b∈fp,∃o,s.heap.get? b=some o) (old:∀b o,s.heap.get? b=some o->h₁.get? b=some o) (hD:s.heap.objs.size<=D) (hC:s.heap.objs.size<=C) (hDC:D≠C)
 (hd:h₁.get? D=some { cls:=.type "list",data:=.seq ([]:B8).toArray }) (hn:∃m,h₁.Ns C m) :
 zk (X.comp scope tn ix cl C s H fp) [] (vg tn ix σ) (zw H D (.lst [])) { s with heap:=h₁,toks:=tk }:=by
 have frD:=I.zS.fresh hD;have frC:=I.zS.fresh hC;have Z:∀x c,X.env.cells.lookup x=some c->c<s.heap.objs.size:=λx c e=>by
  obtain ⟨v,q⟩:=I.cell x c e;exact q.lt
 have hcl:∀x c,scope.names.lookup x=some .free->cl.lookup x=some c->X.env.cells.lookup x=some c:=λx c hx e=>by
  rcases Y x c e with z | z
  . exact z.1
  . rw[hx] at z;cases z.1
 have ok:(X.comp scope tn ix cl C s H fp).Ok:=by
  refine ⟨I.ok.mod,S.kind,I.ok.glob,I.ok.blt,hC,λx y c h1 h2=>?_,λx hx=>?_,λx c h e=>?_,I.ok.hd,I.ok.frames,.inl rfl,λb O=>⟨?_,λx c e=>?_⟩,I.bs,
   cS I.ok.bsz I.sz,λb o e O=>?_,λb O hf=>?_,I.stack,I.Oo,λP h=>I.base.lg _ _ (I.ok.tabs P h)⟩
  . rcases Y x c h1 with z1 | z1 <;> rcases Y y c h2 with z2 | z2
    . exact I.ok.inj x y c z1.1 z2.1
    . exact absurd (Z x c z1.1) (y3.mpr z2.2.1)
    . exact absurd (Z y c z2.1) (y3.mpr z1.2.1)
    . exact hinj x y c h1 h2 z1.1 z2.1
  . -- a cell or a free name of the block has ze cell
    have L:=hx;have hm:∃k,(x,k)∈(scope.names.map λ(n,k)=>if (k == gz.free&&X.env.scope.kind == .function&&X.env.kindOf n == some .cell) then (n,gz.cell) else (n,k))/\(k= .cell\/k= .free):=by
     rcases L with h | h
     . exact ⟨_,gE h,.inl rfl⟩
     . exact ⟨_,gE h,.inr rfl⟩
    obtain ⟨k,hm,hk⟩:=hm;obtain ⟨⟨n,k'⟩,hy,e⟩:=bX.mp hm
    dsimp only at e
    by_cases hc:(k' == gz.free&&X.env.scope.kind == .function&&X.env.kindOf n == some .cell)=true
    . rw[if_pos hc] at e;cases e;rw[dQ,dQ] at hc;exact E _ hy (by simpa using hc.1.1)
    . rw[if_neg hc] at e;cases e;rcases hk with hk | hk
      . exact aeC _ (by rw[<- hk];exact S.one _ hy)
      . exact E _ hy hk
  . rcases Y x c e with z | z
    . have h:(scope.names.lookup x == some gz.cell)=true:=h;exact absurd (by simpa using h) z.2
    . exact z.2.1
  . intro z;obtain ⟨o,e⟩:=Q b O;exact absurd (eh (cx e) (by rw[z];exact hC)) (fy _)
  . rcases Y x c e with z | z
    . exact (M b O).2.2.2.2.1 x c z.1
    . intro y;obtain ⟨o,e'⟩:=Q b O;have q:=cx e';rw[<- y] at q;exact absurd q (y3.mpr z.2.1)
  . rcases (M b O).2.2.2.1 with z | z
    . exact I.ok.JD b o e z
    . exact absurd (eh (cx (I.ok.bs b o e).1) z) (fy _)
  . rcases b9.mp (I.Dh b hf) with z | z
    . exact (M b O).2.1 z
    . exact (M b O).2.2.1 z
 refine ⟨ok,rfl,I.bare,Un.laid old hD frD,?_,λx c e=>?_,?_,λx c e=>?_,λp hp=>absurd (show p∈([]:A7) from hp) (by simp),?_,?_⟩
 . obtain ⟨m,hn⟩:=hn;refine ⟨m,hn,λi x v e1 e2 e3=>?_⟩;have hi:tn.length<=i:=by
    rcases fx i tn.length with hi | hi
    . have l:(aI tn.length none++ix.map λi=>(σ[i]?).join)[i]?=some (some v):=e2;rw[cE (by simpa using hi),ij,if_pos hi] at l;cases l
    . exact hi
   have r:(tn++ix.map λi=>X.N.getD i Str.empty)[i]?=some x:=e1;have l:(aI tn.length none++ix.map λi=>(σ[i]?).join)[i]?=some (some v):=e2;rw[bE hi,ba] at r;rw[bE (by simpa using hi),ba,cf] at l
   cases ek:ix[i - tn.length]? with
   | none=>rw[ek] at r;cases r
   | some k=>
    rw[ek] at r l;have U:X.N.getD k Str.empty=x:=Option.some.inj r;have j:(σ[k]?).join=some v:=Option.some.inj l;have e2s:σ[k]?=some (some v):=by
     cases q:σ[k]? with
     | none=>rw[q] at j;cases j
     | some o=>rw[q] at j;have:o=some v:=j;rw[this]
    obtain ⟨x',L,J⟩:=S.ix k (d6 ek);have exx:x'=x:=by
     rw[<- U,ae,L];rfl
    subst exx;have hfr:=S.free _ (gE J) rfl;obtain ⟨m0,hn0,hl0⟩:=I.loc;obtain ⟨u,ru,lk⟩:=hl0 k x' v L e2s (.inr hfr);refine ⟨u,ru,?_⟩;rcases lk with ⟨kl,_⟩ | ⟨kc,c,ec,ic⟩
    . exfalso
      have kl':X.env.scope.names.lookup x'=some .local:=kl;rcases hfr with z | z <;> rw[z] at kl' <;> cases kl'
    . obtain ⟨c',R⟩:=E _ (gE J) rfl;have ecc:=by
       have q:=hcl x' c' J R;rw[ec] at q;exact (Option.some.inj q).symm
      subst ecc;refine .inr ⟨oE J,c',R,?_⟩;obtain ⟨o,ho,B⟩:=ic;exact ⟨o,old _ _ ho,B⟩
 . rcases Y x c e with z | z
   . obtain ⟨v,o,ho,B⟩:=I.cell x c z.1;exact ⟨v,o,old _ _ ho,B⟩
   . exact ⟨_,z.2.2.2⟩
 . show zw H D (.lst []) C=none;rw[aH (mw hDC)];exact frC
 . rcases Y x c e with z | z
   . rw[aH (en (eh (Z x c z.1) hD))];exact I.jM x c z.1
   . rw[aH z.2.2.1];exact I.zS.fresh z.2.1
 . exact I.zS.laid old hD ⟨iS _,[],0,.nil,hd⟩
 . show (vg tn ix σ).length=(tn++ix.map λi=>X.N.getD i Str.empty).length;rw[vg,ai,ai,cf,ag,ag]
end
variable {prog:gi}{w:kz}{A:gx}{pos:Pos}
theorem Iu{R:Result->cy->Prop}{s:cy}{C Y iter:Expr}{E:C1}{it zd:bg}(I:Nat->cy->Prop)
 (turn:∀n s,I n s->de (dn prog w) A (wd it) (λr e=>match r with
  | none=>R (.ok .next) e
  | some v=>de (dn prog w) A (x8 Y it v) (λ_ Z=>de (dn prog w) A (assign Y env v) (λ_ j=>
   de (dn prog w) A (forIn E true λc r=>if r=true then do let ok <- isTrue c env (eval c env);pure (n5 ok) else pure (n5 r)) (λok i=>
    if ok=true then de (dn prog w) A (eval C env) (λx l=>
     de (dn prog w) A (call (.builtin "list.append") [zd,x]) (λ_ o=>∃m,m<n/\I m o) (λ_ _=>False) l) (λ_ _=>False) i
    else ∃m,m<n/\I m i) (λ_ _=>False) j) (λ_ _=>False) Z) (λ_ _=>False) e) (λ_ _=>False) s)
 (n:Nat) (h:I n s) :
 sd (dn prog w) A (.compLoop (.ListComp C [⟨Y,iter,E,0⟩] scope pos) 0 it zd env) R s:=by
 refine codeAny_loop rfl I (λn s H=>?_) n h;refine wpAny_noted ?_;rw[compTurn_list];refine af (wpAny_standAt (af (gL (turn n s H) (λr e p=>?_) λ_ _ f=>f.elim)))
 cases r with
 | none=>exact aS p
 | some v=>
  refine af (gL p (λ_ Z u=>?_) λ_ _ f=>f.elim);refine af (gL u (λ_ j z=>af (gL z (λok i q=>?_) λ_ _ f=>f.elim)) λ_ _ f=>f.elim)
  cases ok with
  | false=>exact aS ⟨rfl,q⟩
  | true=>
   exact af (af (gL q (λx l D=>af (gL D (λ_ o B=>aS (aS ⟨rfl,B⟩)) λ_ _ f=>f.elim)) λ_ _ f=>f.elim))
variable {x:Str}{E:B2}{i:Nat}
section
variable       {tn:B6}{ix:B5}{elt tg iter:Expr}{ifs:C1}  {wi:TI}{g:TG}{tt:TT}{te:TE}{Q:VK}
theorem xx{Z:B1}:∀{l:List (Str×gz)}{n:Nat}{zd:B1},kG n l (zd++Z)=kG n l zd++Z
 | [],n,zd=>rfl
 | (y,k)::l,n,zd=>by
  unfold kG
  by_cases Y:(k == .cell)=true
  . rw[if_pos Y,if_pos Y];exact xx (zd:=(y,n)::zd)
  . rw[if_neg Y,if_neg Y];exact xx
theorem xF{c:Addr}:∀{l:List (Str×gz)}{n:Nat}{zd:B1},(x,c)∈kG n l zd->(x,c)∈zd\/(x,gz.cell)∈l
 | [],n,zd,h=>.inl h
 | (y,k)::l,n,zd,h=>by
  unfold kG at h
  by_cases Y:(k == .cell)=true
  . rw[if_pos Y] at h;rcases xF h with z | z
    . rcases b9.mp z with e | z
      . cases e;exact .inr (by rw[show k=gz.cell by simpa using Y];exact br)
      . exact .inl z
    . exact .inr (cc _ z)
  . rw[if_neg Y] at h;rcases xF h with z | z
    . exact .inl z
    . exact .inr (cc _ z)
theorem FT{x y:Str}{c:Addr}:∀{cs:B1},cs.Pairwise (λx y=>x.2≠y.2)->(x,c)∈cs->(y,c)∈cs->x=y
 | [],_,h,_=>nomatch h
 | z::cs,h,i,Z=>by
  obtain ⟨Y,e⟩:=kK.mp h;rcases b9.mp i with e1 | e1
  . rcases b9.mp Z with e2 | e2
    . rw[<- e1] at e2;cases e2;rfl
    . rw[<- e1] at Y;exact (Y (y,c) e2 rfl).elim
  . rcases b9.mp Z with e2 | e2
    . rw[<- e2] at Y;exact (Y (x,c) e1 rfl).elim
    . exact FT e e1 e2
theorem Ti{M:Model}{Y:Addr}{cl:B1}{Q:Env->cy->Prop}
 (h:Q (newEnv scope s.heap.objs.size Y (kG (s.heap.objs.size+1) scope.names cl) x none .none (some env) pz) { s with heap:=pushCells (s.heap.push { cls:=.type "dict",data:=.dict #[] }) scope.names }) :
 de M A (newFunctionEnv scope Y cl [] x none .none (some env)) Q E s:=by
 refine af (wpAny_alloc (af (wpAny_layCells _ (λi kind Z=>by cases e:kind == gz.cell <;> simp[e]) _ _ _ _ ?_)));rw[fF ..];exact af (aS (aS h))
theorem Gn(S:K3 X scope ix)(hc:X.calm=true)(hi:PI X tg iter wi)
 (hg:∀cl C l B fp,PG (X.comp scope tn ix cl C l B fp) tg g) (ht:∀cl C l B fp,su (X.comp scope tn ix cl C l B fp) ifs tt) (he:∀cl C l B fp,PE (X.comp scope tn ix cl C l B fp) elt te)
 {P:bg->Addr->Result->cy->Prop} (I:zk X y8 σ H s) (h:Hl tn ix wi g tt te σ H Q)
 (hP:∀D C s' H',zk X y8 σ H' s'->(∃m,s'.heap.Ns C m)->qt X y8 H' C->Q (.ref D) H'->P (.ref D) C (.ok .next) s') :
 ∃cl,xS scope X.env=pure cl/\de (dn X.prog X.w) X.A (eval iter X.env) (λx s₁=>de (dn X.prog X.w) X.A (yv x) (λit l=>de (dn X.prog X.w) X.A (newList []) (λzd s₃=>
  de (dn X.prog X.w) X.A (newFunctionEnv scope X.env.globals cl [] X.env.qual none .none (some X.env)) (λcenv s₄=>
   sd (dn X.prog X.w) X.A (.compStart (.ListComp elt [⟨tg,iter,ifs,0⟩] scope pos) 0 it zd { cenv with scope:=relabel scope X.env }) (P zd cenv.locals) s₄) X.xe s₃) X.xe l) X.xe s₁) X.xe s:=by
 obtain ⟨cl,hcl,hc1,hc2⟩:=Hf λx hx hf=>I.ok.has x.1 (S.free x hx hf);refine ⟨cl,hcl,thn (hi y8 s σ H _ I h) λv s1 h1=>thn h1 λitv Z h2=>?_⟩;obtain ⟨it,fp,tnn,J,L,e,I2,T,st2,f2,R⟩:=h2;subst e;refine hF (Ti ?_);generalize hHH:Z.heap.push { cls:=.type "list",dict:=none,data:=.seq ([]:B8).toArray }=HH;have hCs:HH.objs.size=Z.heap.objs.size+1:=by rw[<- hHH,fF]
 have hDC:Z.heap.objs.size≠HH.objs.size:=by rw[hCs];exact en (nE _)
 have O:Z.heap.objs.size<=HH.objs.size:=by rw[hCs];exact p9 _
 have M:∀b o,HH.get? b=some o->(pushCells (HH.push { cls:=.type "dict",data:=.dict #[] }) scope.names).get? b=some o:=λb o e=>pushCells_keeps _ _ b o (ax _ e);have E:(pushCells (HH.push { cls:=.type "dict",data:=.dict #[] }) scope.names).Ns HH.objs.size (λ_=>none):=(Heap.Ns.new HH (.type "dict")).keeps (pushCells_keeps _ _);have okc:=cellsFrom_ok scope.names (HH.push { cls:=.type "dict",data:=.dict #[] }) (HH.objs.size+1) [] ⟨λ_ _ hm=>(nomatch hm),we.nil⟩ (by rw[fF];exact ay _);rw[fF] at okc;have eCL:kG (HH.objs.size+1) scope.names cl=kG (HH.objs.size+1) scope.names []++cl:=xx (zd:=[]);have spl:∀x c,(kG (HH.objs.size+1) scope.names cl).lookup x=some c->(scope.names.lookup x=some .cell/\(x,c)∈kG (HH.objs.size+1) scope.names [])\/(cl.lookup x=some c/\scope.names.lookup x≠some .cell):=λx c e=>by
  rw[eCL,List.lookup_append] at e
  cases q:(kG (HH.objs.size+1) scope.names []).lookup x with
  | none=>
   rw[q] at e;refine .inr ⟨e,λz=>?_⟩;have:=nV scope.names (HH.objs.size+1) [] (.inl z);rw[q] at this;cases this
  | some d=>
   rw[q] at e;have e:=e;cases e;have m:=gE q;rcases xF m with z | z
   . nomatch z
   . exact .inl ⟨S.one _ z,m⟩
 have has:∀x,scope.names.lookup x=some .cell\/(cl.lookup x).isSome=true->∃c,(kG (HH.objs.size+1) scope.names cl).lookup x=some c:=λx z=>h8.mp (nV scope.names (HH.objs.size+1) cl z);generalize hCL:kG (HH.objs.size+1) scope.names cl=CL at spl has ⊢;generalize hh1:pushCells (HH.push { cls:=.type "dict",data:=.dict #[] }) scope.names=h₁ at M E okc ⊢;have old:=λb o e=>M b o (hHH ▸ ax _ e);have hacc:=M _ _ (hHH ▸ cm _ rfl);have hfo:∀b∈fp,∃o,Z.heap.get? b=some o:=λb j=>let ⟨o,e,_⟩:=T.obj _ _ st2 b j;⟨o,e⟩;obtain ⟨W,⟨m0,w0⟩,turn⟩:=R Z.heap.objs.size (I2.zS.fresh (ay _));have abb:∀x c,CL.lookup x=some c->(X.env.cells.lookup x=some c/\scope.names.lookup x≠some .cell)\/(scope.names.lookup x=some .cell/\Z.heap.objs.size<=c/\c≠Z.heap.objs.size/\h₁.IsCell c none):=λx c e=>by
  rcases spl x c e with ⟨z,m⟩ | ⟨z,m⟩
  . obtain ⟨q1,q2⟩:=okc.empty x c m;rw[hCs] at q2;exact .inr ⟨z,by lia,λy=>by rw[y] at q2;lia,q1⟩
  . exact .inl ⟨hc1 x c z,m⟩
 have J0:zk (X.comp scope tn ix CL HH.objs.size Z L fp) [] (vg tn ix σ) (zw L Z.heap.objs.size (.lst [])) { Z with heap:=h₁,toks:=Z.toks }:=
  zk.block S I2 abb (λx y c e1 e2 k1 k2=>by
   rcases spl x c e1 with ⟨_,m1⟩ | ⟨_,m1⟩
   . rcases spl y c e2 with ⟨_,m2⟩ | ⟨_,m2⟩
     . exact FT okc.apart m1 m2
     . exact absurd k2 m2
   . exact absurd k1 m1) (λx z=>has x (.inl z)) (λx hx hf=>by
   obtain ⟨c,e⟩:=hc2 x hx hf;exact has x.1 (.inr (by rw[e];rfl))) f2 hfo old (ay _) O hDC hacc ⟨_,E⟩
 have U:∀{H':Hp},(∀b∈fp,H' b=none)->∀b∈fp,qt (X.comp scope tn ix CL HH.objs.size Z L fp) [] H' b:=λhn b j=>by
  refine ⟨hn b j,λz=>?_,λz=>?_,.inl j,λx c e=>?_,λp hp=>absurd (show p∈([]:A7) from hp) (by simp)⟩
  . obtain ⟨o,e⟩:=hfo b j;exact absurd (eh (cx e) (by rw[z];exact O)) (fy _)
  . rcases b9.mp (I2.Dh b z) with z | z
    . exact (f2 b j).2.1 z
    . exact (f2 b j).2.2.1 z
  . rcases abb x c e with z | z
    . exact (f2 b j).2.2.2.2.1 x c z.1
    . intro y;obtain ⟨o,e'⟩:=hfo b j;have q:=cx e';rw[<- y] at q;exact absurd q (y3.mpr z.2.1)
 have fp0:∀b∈fp,zw L Z.heap.objs.size (.lst []) b=none:=λb j=>by
  obtain ⟨o,e⟩:=hfo b j;rw[aH (en (cx e))];exact (f2 b j).1
 have st1:=T.keep _ _ _ st2 λb j o e=>old b o e;have loop:∀s₃:cy,s₃={ Z with heap:=h₁,toks:=Z.toks } ->
  sd (dn X.prog X.w) X.A (.compLoop (.ListComp elt [⟨tg,iter,ifs,0⟩] scope pos) 0 (.ref it) (.ref Z.heap.objs.size) (compEnvC scope CL HH.objs.size X.env)) (P (.ref Z.heap.objs.size) HH.objs.size) s₃:=by
  rintro s₃ rfl;refine Iu (λn s'=>∃i σ' zd H',zk (X.comp scope tn ix CL HH.objs.size Z L fp) [] σ' H' s'/\tnn i s'.heap/\(∀b∈fp,H' b=none)/\W i n σ' zd H') ?_ m0 ⟨0,_,[],_,J0,st1,fp0,w0⟩;rintro n s3 ⟨i,σ3,zd,H3,I3,st3,fr3,w3⟩;obtain ⟨hD3,ways⟩:=turn i n σ3 zd H3 w3;rcases ways with ⟨stop,qn⟩ | ⟨go,hsz,step⟩
  . refine thn (T.done (X.comp scope tn ix CL HH.objs.size Z L fp) rfl rfl rfl hc i [] s3 σ3 H3 _ I3 (U fr3) st3 stop) λr s4 Y=>?_;obtain ⟨hr,I4⟩:=Y;subst hr;have I5:=I2.call' I4.os I4.base I4.zS I4.bare λb j=>⟨(f2 b j).2.2.2.1,(f2 b j).2.1,(f2 b j).2.2.2.2.1,(f2 b j).2.2.2.2.2⟩;obtain ⟨m4,hn4,_⟩:=I4.loc;exact hP _ _ s4 H3 I5 ⟨m4,hn4⟩ (I2.qy O I4.free) qn
  . refine thn (T.item (X.comp scope tn ix CL HH.objs.size Z L fp) rfl rfl rfl hc i [] s3 σ3 H3 _ I3 (U fr3) st3 go) λr s4 Y=>?_;obtain ⟨u,hr,h4⟩:=Y;subst hr;refine thn h4 λ_ s5 Y=>?_;obtain ⟨x,H5,I5,r5,y5,st5,fr5⟩:=Y;have I5':=I5.pinned (U fr5) (T.obj _ _ st5);have back:∀{σ7:St}{H7:Hp}{s7:cy},zk (X.comp scope tn ix CL HH.objs.size Z L fp) ([]++yK fp s5.heap) σ7 H7 s7->zk (X.comp scope tn ix CL HH.objs.size Z L fp) [] σ7 H7 s7/\tnn (i+1) s7.heap/\∀b∈fp,H7 b=none:=λ{σ7 H7 s7} I7=>by
     refine ⟨I7.vZ,T.keep _ _ _ st5 λb j o e=>(I7.pin (b,o) (c6 _ (c6 _ (qM j e)))).1,λb j=>?_⟩;obtain ⟨o,e,d⟩:=T.obj _ _ st5 b j;exact (I7.pin (b,o) (c6 _ (c6 _ (qM j e)))).2.1
    refine thn (hg CL HH.objs.size Z L fp _ s5 σ3 H5 x u _ I5' r5 (step x H5 y5)) λ_ s6 ⟨σ6,H6,I6,q6⟩=>thn (ht CL HH.objs.size Z L fp _ s6 σ6 H6 _ I6 q6) λok s7 Y=>?_;obtain ⟨H7,I7,q7⟩:=Y
    cases ok with
    | false=>
     rw[if_neg fo] at q7 ⊢;obtain ⟨m',hm,w7⟩:=q7;obtain ⟨b1,b2,b3⟩:=back I7;exact ⟨m',hm,i+1,σ6,zd,H7,b1,b2,b3,w7⟩
    | true=>
     rw[if_pos rfl] at q7 ⊢;refine thn (he CL HH.objs.size Z L fp _ s7 σ6 H7 _ I7 q7) λxv s8 ⟨v8,H8,I8,r8,hD8,m',hm,w8⟩=>thn (yg _ s8 σ6 H8 (.ref Z.heap.objs.size) [v8] (.ref Z.heap.objs.size) [xv] (λ_ H9=>H9=zw H8 Z.heap.objs.size (.lst (zd++[v8]))) I8 rfl (.cons r8 .nil) ⟨_,zd,v8,rfl,rfl,hD8,hsz,rfl⟩) λ_ s9 Y=>?_;obtain ⟨_,H9,I9,_,e9⟩:=Y;subst e9;obtain ⟨b1,b2,b3⟩:=back I9;exact ⟨m',hm,i+1,σ6,zd++[v8],_,b1,b2,b3,w8⟩
 exact codeAny_compStart_list (loop _ rfl) (T.self X.A 0 _ _ _ st1 (loop _ rfl))
theorem Z1(S:iH X scope ix=true)(p:X.calm=true)(E:PI X tg iter wi)
 (u:∀cl C Y Z fp,PG (X.comp scope tn ix cl C Y Z fp) tg g) (B:∀cl C Y Z fp,su (X.comp scope tn ix cl C Y Z fp) ifs tt) (M:∀cl C Y Z fp,PE (X.comp scope tn ix cl C Y Z fp) elt te)
 (hs:∀x,iP iter X.env x=pure x:=by intro _;rfl):PE X (.ListComp elt [⟨tg,iter,ifs,0⟩] scope pos) (Hl tn ix wi g tt te):=by
 intro i s v H Q I h;obtain ⟨cl,j,q⟩:=Gn (P:=λl C=>compPost (dn X.prog X.w) X.A X.xe none (EP X i v Q) l C) (iH.of S) p E u B M I h λD C U L O ⟨m,z⟩ f q=>by
  refine ⟨m,z,λR J=>⟨.ref D,L,?_,rfl,q⟩⟩;exact O.turned (λb o r e=>J.extBut b o r e) f.1 f.2.1 f.2.2.2.1 f.2.2.2.2.1 f.2.2.2.2.2
 rw[eval_ListComp];exact wpAny_comprehension_free rfl hs j (iH.of S).kind (iH.of S).loc q
theorem Mt{y:Str}{O j:Pos}(hN:X.N.Nodup)(u:X.N[i]?=some y)(hy:Loc X.env.scope y)(S:iH X scope ix=true)(R:X.calm=true)(hi:PI X tg iter wi)
 (hg:∀cl C Y Z fp,PG (X.comp scope tn ix cl C Y Z fp) tg g) (ht:∀cl C Y Z fp,su (X.comp scope tn ix cl C Y Z fp) ifs tt) (he:∀cl C Y Z fp,PE (X.comp scope tn ix cl C Y Z fp) elt te)
 (B:hV (.ListComp elt [⟨tg,iter,ifs,0⟩] scope pos) (some (.Name y O)) j.line X.env=pure true:=by rfl)
 (hf:X.fn y=true\/X.env.scope.names.lookup y=some .local:=by walk_at "hf")
 (hs:∀x,iP iter X.env x=pure x:=by intro _;rfl):PS X (.Assign [.Name y O] (.ListComp elt [⟨tg,iter,ifs,0⟩] scope pos) j) (O3 (Hl tn ix wi g tt te) (CJ i)):=by
 intro l s σ H E I h;rw[exec_Assign_Name_used _ _ _ _ B];refine af (wpAny_standAt (af ?_));obtain ⟨cl,r,q⟩:=Gn (P:=λQ C=>compPost (dn X.prog X.w) X.A X.xe (some (assign (.Name y O) X.env)) (λ_ M=>SP X l E .next M) Q C) (iH.of S) R hi hg ht he I h λD C M H' I' ⟨m,hn⟩ f q=>by
  refine wpAny_assign_Name (FJ (v:=.ref D) I' hN u hy rfl (λs2 I2 p=>?_) hf);obtain ⟨a,sb,ha⟩:=p;have J:C≠a:=by
   rcases ha with ha | ha
   . rw[ha];exact f.2.1
   . exact λz=>f.2.2.2.2.1 y a ha z.symm
  refine ⟨m,hn.sameBut sb J,λh' L=>⟨_,H',?_,q⟩⟩;exact I2.turned (λb o U e=>L.extBut b o U e) f.1 f.2.1 f.2.2.2.1 f.2.2.2.2.1 f.2.2.2.2.2
 refine af (gL (wpAny_comprehension_free rfl hs r (iH.of S).kind (iH.of S).loc q) (λ_ M hq=>aS (aS hq)) λ_ _ e=>e)
end
variable {K:aE}{H':Hp}{a:Addr}
theorem aD.fZ{xs:C0}(e:aD H H')(h:SqT K H a xs):SqT K H' a xs:=by
 rcases h with (h | ⟨o,h⟩) | h
 . exact .inl (.inl (e _ _ h))
 . exact .inl (.inr ⟨o,e _ _ h⟩)
 . exact .inr h
theorem aD.new(h:H a=none)(o:HO):aD H (zw H a o):=λb u q=>by rw[aH (cZ q h)];exact q
theorem aD.up{o:HO}(s:aD H H')(h:H a=none):aD H (zw H' a o):=λb u q=>by rw[aH (cZ q h)];exact s b u q
mutual
def Is(K:aE)(H:Hp):ab->V->Prop
 | .none,v=>v= .non
 | .bool b,v=>v= .bl b
 | .int i,v=>v= .int i
 | .str x,v=>v= .str x
 | .list ds,v=>∃a vs,v= .ref a/\SqL K H a vs/\fH K H ds vs
 | .tuple ds,v=>∃a vs,v= .ref a/\SqT K H a vs/\fH K H ds vs
 | .dict _,_=>False
def fH(K:aE)(H:Hp):B4->C0->Prop
 | [],vs=>vs=[]
 | d::ds,vs=>∃v r,vs=v::r/\Is K H d v/\fH K H ds r
end
mutual
theorem Is.mono(e:aD H H'):∀(d:ab) {v:V},Is K H d v->Is K H' d v
 | .none,v,h=>h
 | .bool _,v,h=>h
 | .int _,v,h=>h
 | .str _,v,h=>h
 | .list ds,v,h=>by
  rw[Is] at h ⊢;obtain ⟨a,vs,h1,h2,h3⟩:=h;exact ⟨a,vs,h1,e.seq h2,fH.mono e ds h3⟩
 | .tuple ds,v,h=>by
  rw[Is] at h ⊢;obtain ⟨a,vs,h1,h2,h3⟩:=h;exact ⟨a,vs,h1,e.fZ h2,fH.mono e ds h3⟩
 | .dict _,v,h=>h
theorem fH.mono(e:aD H H'):∀(ds:B4) {vs:C0},fH K H ds vs->fH K H' ds vs
 | [],vs,h=>h
 | d::ds,vs,h=>by
  rw[fH] at h ⊢;obtain ⟨v,r,h1,h2,h3⟩:=h;exact ⟨v,r,h1,Is.mono e d h2,fH.mono e ds h3⟩
end
mutual
theorem Is.reads(I:zk X y8 σ H s):∀(d:ab) {v:V}{u:bg},Is X.K H d v->zo v u->∃as,Reads s.heap u d as
 | .none,v,u,h,r=>by
  rw[Is] at h;subst h;cases r;exact ⟨_,.none⟩
 | .bool b,v,u,h,r=>by
  rw[Is] at h;subst h;cases r;exact ⟨_,.bool b⟩
 | .int i,v,u,h,r=>by
  rw[Is] at h;subst h;obtain ⟨t,rfl⟩:=r;exact ⟨_,.int i t⟩
 | .str x,v,u,h,r=>by
  rw[Is] at h;subst h;obtain ⟨t,rfl⟩:=r;exact ⟨_,.str x t⟩
 | .list ds,v,u,h,r=>by
  rw[Is] at h;obtain ⟨a,vs,rfl,h2,h3⟩:=h;cases r;obtain ⟨ze,rv,⟨o,n,e,c,_,d⟩,_⟩:=I.list h2;obtain ⟨as,q⟩:=fH.reads I ds h3 rv;exact ⟨_,.list e c d (by simpa using q)⟩
 | .tuple ds,v,u,h,r=>by
  rw[Is] at h;obtain ⟨a,vs,rfl,h2,h3⟩:=h;cases r;obtain ⟨ze,rv,⟨o,e,c,n,d⟩,_⟩:=I.tuple h2;obtain ⟨as,q⟩:=fH.reads I ds h3 rv;exact ⟨_,.tuple e c d (by simpa using q)⟩
 | .dict _,v,u,h,r=>by
  rw[Is] at h;exact h.elim
theorem fH.reads(I:zk X y8 σ H s):∀(ds:B4) {vs:C0}{us:B8},fH X.K H ds vs->zv vs us->∃as,ReadsAll s.heap us ds as
 | [],vs,us,h,r=>by
  rw[fH] at h;subst h;cases r;exact ⟨_,.nil⟩
 | d::ds,vs,us,h,r=>by
  rw[fH] at h;obtain ⟨v,rr,rfl,h2,h3⟩:=h
  cases r with
  | cons r1 r2=>
   obtain ⟨as,q⟩:=Is.reads I d h2 r1;obtain ⟨bs,q'⟩:=fH.reads I ds h3 r2;exact ⟨_,.cons q q'⟩
end
theorem qT:∀ns:B3,lh (ns.map ab.int)=0
 | []=>by rw[fe,lh]
 | n::ns=>by rw[bq,lh,ab.depth,qT ns];rfl
def afc(K:aE):R2:=λx y H Q=>∃d e,Is K H d x/\Is K H e y/\d5 d=true/\d5 e=true/\Q (.bl (fT d e)) H
def afl(K:aE):R2:=λx y H Q=>∃d e,Is K H d x/\Is K H e y/\d5 d=true/\d5 e=true/\Q (.bl (!fT d e)) H
theorem acz(o:X.A.units+64<kb):OpR X (fR .Eq) (afc X.K):=by
 rintro Y s C H x y v u Q I j p ⟨d,e,r,B,Z,i,q⟩;obtain ⟨as,z⟩:=Is.reads I d r j;obtain ⟨bs,l⟩:=Is.reads I e B p;exact eq_dataH z l Z i o ⟨.bl (fT d e),H,I,rfl,q⟩
theorem abU(o:X.A.units+64<kb):OpR X (fR .NotEq) (afl X.K):=by
 rintro Y s C H x y v u Q I j p ⟨d,e,r,B,Z,i,q⟩;obtain ⟨as,z⟩:=Is.reads I d r j;obtain ⟨bs,l⟩:=Is.reads I e B p;exact ne_dataH z l Z i o ⟨.bl (!fT d e),H,I,rfl,q⟩
def Zj:V->C0->Hp->VK->Prop:=λx vs H Q=>∃(l:Addr) (xs:C0) (i:Int) (y:V),x= .ref l/\vs=[.int i,y]/\H l=some (.lst xs)/\0<=i/\i<=xs.length/\xs.length<1000/\Q .non (zw H l (.lst (xs.take i.toNat++y::xs.drop i.toNat)))
theorem abM{k:Int}(h0:0<=k)(Y:k<1000):¬ (!mf k)=true:=by
 have h:mf k=true:=by
  rw[mf,dQ];exact ⟨decide_eq_true (by lia),decide_eq_true (by lia)⟩
 rw[h];decide
theorem Q7:MtM X "list.insert" Zj:=by
 rintro j s σ H x S v us Q I B J ⟨l,xs,i,y,rfl,rfl,o,E,R,hz,q⟩;cases B;obtain ⟨U,u,rfl,L,P⟩:=zv.two J;obtain ⟨p,rfl⟩:=L;have D:=abM E (show i<1000 by lia);obtain ⟨z,Y,n,r,C,e⟩:=I.Pu o;have Z:Y.toArray.size<=bt:=by rw[dA,<- C];exact z
 refine xE F.slot_list_insert ⟨_,e,rfl⟩ F.entry_list_insert (F.args_list_insert_3 _ _ _) (AutoSeq1.list_insert_list_int_val_1 l Y.toArray n i p u D Z) ⟨e,?_⟩;refine ⟨.non,_,I.QM (its':=Y.take i.toNat++u::Y.drop i.toNat) o e ?_ ?_ ?_,rfl,q⟩
 . have M:¬ i<0:=by lia
   have O:min i.toNat Y.toArray.size=i.toNat:=by rw[dA];lia
   rw[if_neg M,O];apply Array.ext';simp[iN]
 . exact (r.take i.toNat).append (.cons P (r.drop i.toNat))
 . rw[ai,bo,dc,l9];exact gp (Uc (by lia))
noncomputable def Itv(K:aE)(a:Addr)(n:Nat):It:=
 ⟨λi H=>i<n/\∃xs x,SqL K H a xs/\xs[n - 1 - i]?=some x,λi H x H'=>H'=H/\∀xs,SqL K H a xs->xs[n - 1 - i]?=some x,λi _=>i=n⟩
variable {P:gi}
theorem UT{tg:Expr}(a it:Addr)(n:Nat):Turn P w K tg (Itv K a n) [it] it (λi h=>h.IsRevIter it a ((n:Int) - 1 - (i:Nat))) where
 mem:=by simp
 obj:=λi h st b Y=>by
  have e:=by simpa using Y
  subst e;obtain ⟨o,e,c,d⟩:=st;exact ⟨o,e,λv z=>by rw[d] at z;cases z⟩
 keep:=λi h S st k=>st.at λo e=>k it (by simp) o e
 item:=by
  intro X J Q B R i j s σ H E I l st C;subst J Q B;obtain ⟨hi,xs,x,hq,U⟩:=C;obtain ⟨ze,rv,p,hz⟩:=I.list hq;obtain ⟨u,hu,ru⟩:=rv.get U;obtain ⟨L,M,f2,q,D,O⟩:=l it (by simp);have e:n - 1 - i=((n - 1 - i:Nat):Int):=by lia
  rw[e] at st;refine wpAny_pyNext_rev_item st p.isList (by simpa using hu) λS Z sb=>?_;have e2:((n - 1 - i:Nat):Int) - 1=n - 1 - ((i+1:Nat):Int):=by lia
  rw[e2] at Z;have I1:=I.turned (t':=s.toks) (λb o Y e=>(sb.2 b Y).trans e) L M q D O;obtain ⟨o,e,c,d⟩:=id Z;exact ⟨u,rfl,zj e c d (by decide) ⟨x,H,I1,ru,⟨rfl,λys hy=>by rw[I.vP hy hq];exact U⟩,Z,λb Y=>(l b Y).1⟩⟩
 done:=by
  intro X J Q B R i j s σ H E I l st C;subst J Q B;have r:=C;subst r;obtain ⟨L,M,f2,q,D,O⟩:=l it (by simp);have e:(i:Int) - 1 - i= -1:=by lia
  rw[e] at st;exact wpAny_pyNext_rev_end (I.ok.hd R) st λS eb=>⟨rfl,I.turned (λb o Y e=>eb b o Y e) L M q D O⟩
 self:=λ_ _ _ _ _ st h=>wpAny_pyIter_revIter st h
section
variable  {tg:Expr}
def afj(K:aE)(ta:TA):TI:=λσ H R=>ta σ H λvs H1=>∃a xs,vs=[.ref a]/\SqL K H1 a xs/\R (Itv K a xs.length) H1
theorem ac4{a:Expr}{B:TA}{p:Pos}(E:Gl X "reversed")(Q:X.mg "reversed"= none)(ha:PA X [a] B)(hs:dr [a] X.env=[(false,eval a X.env)]:=by rfl):PI X tg (.Call (.Name "reversed" p) [a] [] pos) (afj X.K B):=by
 intro Z s P H R I h;refine Call_ (lr I E Q boot_reversed (gy (thn (ha pos Z s P H _ I h) λus r i=>?_) hs rfl));obtain ⟨vs,U,v,D,J⟩:=i;obtain ⟨l,z,e,S,q⟩:=J;subst e;obtain ⟨u,rfl,O⟩:=zv.one D;cases O;obtain ⟨j,M,pl,hz⟩:=v.list S;refine call_reversed_list pl.isList ?_;have Y:(r.heap.push (revObj l ((j.toArray.size:Int) - 1))).IsRevIter r.heap.objs.size l (z.length - 1 - (0:Int)):=by
  have L:(j.toArray.size:Int) - 1=z.length - 1 - (0:Int):=by
   have:=M.length;rw[dA];lia
  rw[L];exact ⟨_,cm _ rfl,rfl,rfl⟩
 refine wpAny_pyIter_revIter Y (⟨r.heap.objs.size,[r.heap.objs.size],_,_,U,rfl,v.kept λb o e=>ax _ e,UT l _ z.length,Y,λb C=>?_,q⟩);have e:=by simpa using C
 subst e;exact v.qy (ay _) (v.zS.fresh (ay _))
end
noncomputable def Ite(K:aE)(a:Addr):It:=
 ⟨λi H=>∃xs x,SqL K H a xs/\xs[i]?=some x,λi H x H'=>∃p v,H p=none/\x= .ref p/\H'=zw H p (.tup [.int (i:Nat),v])/\∀xs,SqL K H a xs->xs[i]?=some v,λi H=>∃xs,SqL K H a xs/\xs.length<=i⟩
variable {y:V}{u:bg}
theorem zk.zB{l:Heap}{tk:Nat}{fp:C2}{x:V}{v:bg}{j:Obj}(I:zk X y8 σ H s)(p:∀b∈fp,qt X y8 H b)
 (e:∀c o,s.heap.get? c=some o->c∉fp->l.get? c=some o) (D:l.get? s.heap.objs.size=some j) (J:j.cls= .type "tuple") (hd:j.data= .seq #[u,v] 0) (P:zo x u) (L:zo y v) :
 zk X y8 σ (zw H s.heap.objs.size (.tup [x,y])) { s with heap:=l,toks:=tk }:=by
 have Y:=I.zS.fresh (ay s.heap.objs.size);have r:∀c o,H c=some o->c∉fp:=λc o q hc=>by rw[(p c hc).1] at q;cases q
 have B:∀b o,s.heap.get? b=some o->b≠s.heap.objs.size:=λb o q=>en (cx q);refine I.call' (ch:=fp) (s':={ s with heap:=l,toks:=tk }) rfl ⟨λb o q n _ hc=>e b o q hc,λb o q n _ hc=>⟨o.slots,e b o q hc⟩,λb o q n hc=>by rw[aH (B b o q)];exact n,λb o q hc=>⟨o,e b o q hc⟩,λb M q=>?_,λb o y q=>?_,λb S q=>?_⟩ (λb o q=>?_) I.bare λb i=>?_
 . rw[aH (cZ q Y)];exact q
 . rw[aH (cZ q Y)];exact q
 . rw[aH (cZ q Y)];exact q
 . by_cases i:b=s.heap.objs.size
   . subst i;rw[bc] at q;cases q;exact ⟨by show 2<=bt;decide,[u,v],.cons P (.cons L .nil),⟨j,D,J,0,hd⟩⟩
   . rw[aH i] at q;refine (I.zS b o q).stay (λc w hc Z=>?_) (λc Z=>by rw[aH (cZ Z Y)];exact Z) λc M Z=>by rw[aH (cZ Z Y)];exact Z
     rcases hc with rfl | hc
     . exact e c w Z (r c _ q)
     . exact e c w Z (r c _ hc)
 . obtain ⟨R,E,Q,z,C,O⟩:=p b i;exact ⟨z,E,C,O⟩
variable {elts:C1}{tpos:Pos}
theorem Uj{x1}(a e it:Addr)(B:e≠it) :
 Turn P w K (.Tuple elts x1 tpos) (Ite K a) [e,it] e (λi h=>(∃old,IsEnum h e it (i:Nat) old)/\h.IsListIter it a i) where
 mem:=by simp
 obj:=λi h st b r=>by
  obtain ⟨⟨old,Y⟩,o,ho,c,d⟩:=st;have j:b=e\/b=it:=by simpa using r
  rcases j with rfl | rfl
  . exact ⟨_,Y,λv z=>by cases z⟩
  . exact ⟨o,ho,λv z=>by rw[d] at z;cases z⟩
 keep:=λi h h' st k=>by
  obtain ⟨⟨old,Y⟩,hl⟩:=st;exact ⟨⟨old,k e (by simp) _ Y⟩,hl.at λo q=>k it (by simp) o q⟩
 item:=by
  intro X hP hw U L i C s σ H E I D st hg;subst hP hw U;obtain ⟨⟨old,Y⟩,Z⟩:=st;obtain ⟨xs,x,R,hx⟩:=hg;obtain ⟨ze,rv,p,hz⟩:=I.list R;obtain ⟨u,hu,ru⟩:=rv.get hx;obtain ⟨f0,f1,f2,f3,f4,f5⟩:=D e (by simp);obtain ⟨g0,g1,g2,g3,g4,g5⟩:=D it (by simp);refine wpAny_pyNext_enum_item Y Z p.isList (x:=u) (by simpa using hu) B λh' he' Q ht' hz' S=>?_;refine ⟨_,rfl,?_⟩;refine wpAny_letOwnedTupleGo_enum (s:={ s with heap:=h',toks:=s.toks+1 }) he' λh2 he2 l=>?_;have J:H s.heap.objs.size=none:=I.zS.fresh (ay _);have O:s.heap.objs.size≠e:=nN (cx Y);have ht2:h2.get? s.heap.objs.size=some { cls:=.type "tuple",data:=.seq #[.int (i:Nat) s.toks,u] }:=l.extBut _ _ O ht';have k2:∀b o,b≠e->b≠it->s.heap.get? b=some o->h2.get? b=some o:=λb o b1 b2 q=>l.extBut b o b1 (S b o b1 b2 q);have M:h2.IsListIter it a (i+1):=Q.extBut l.extBut (mw B);have I2:=I.zB (tk:=s.toks+1) (x:=.int (i:Nat)) D (λc o q L=>k2 c o (λz=>L (by simp[z])) (λz=>L (by simp[z])) q) ht2 rfl rfl ⟨_,rfl⟩ ru;refine ⟨.ref s.heap.objs.size,_,I2,rfl,⟨_,x,J,rfl,rfl,λys hy=>by rw[I.vP hy R];exact hx⟩,⟨⟨u,?_⟩,M⟩,λb r=>?_⟩
  . have e3:(((i+1:Nat)):Int)=(i:Int)+1:=by lia
    rw[e3];exact he2
  . have j:b=e\/b=it:=by simpa using r
    rcases j with rfl | rfl
    . rw[aH (mw O)];exact f0
    . obtain ⟨o,ho,_⟩:=Z;rw[aH (en (cx ho))];exact g0
 done:=by
  intro X hP hw U L i C s σ H E I D st hg;subst hP hw U;obtain ⟨⟨old,Y⟩,Z⟩:=st;obtain ⟨xs,R,hx⟩:=hg;obtain ⟨ze,rv,p,hz⟩:=I.list R;obtain ⟨g0,g1,g2,g3,g4,g5⟩:=D it (by simp);have hl:=rv.length;exact wpAny_pyNext_enum_end (I.ok.hd L) Y Z p.isList (by simp;lia) λh' eb=>⟨rfl,I.turned (t':=s.toks) (λb o r e=>eb b o r e) g0 g1 g3 g4 g5⟩
 self:=λ_ _ _ _ _ st h=>let ⟨⟨_,Y⟩,_⟩:=st;qq Y h
structure At (K:aE) (mg:Str->B7) (x:Str) (st:Stmt) (ps:B6):Prop where
 ex:∃f fd,Fun K x x st f fd/\Binds K fd ps []/\mg x=some (.ref f)
structure Def (P:gi) (w:kz) (K:aE) (mg:Str->B7) (base:Heap) (k:Nat) (x:Str) (ps:B6) (sp:Sp):Prop where
 ex:∃f fd,rM P w K mg base CX0 k f fd ps sp/\Binds K fd ps []/\kU K (.ref f)=true/\mg x=some (.ref f)
variable {ps:B6}
section
variable    {mg:Str->B7}{base:Heap}
theorem At.ok{st:Stmt}{N:B6}{sp:Sp}(F:At K mg x st ps)(S:cL N ps (aM st))(len:∀vs H Q E,sp vs H Q E->vs.length=ps.length)
 (hbody:∀(f:Addr) (Y:bg) (A:gx) (AA:C5) (s:cy) (H:Hp) (vs:C0) (Q:VK) (E:XK),dJ i (A.deeper (oy x (aM st) s.heap.objs.size f Y))->sp vs H Q E ->
  ∃t,PSs (mK CX0 P w K mg base N x (aM st) f Y A AA s H E).nox (bK st) t/\t { nx:=λ_ H'=>Q .non H',rt:=Q } (start N vs) H):Def P w K mg base (i+1) x ps sp:=by
 obtain ⟨f,fd,F,b,m⟩:=F.ex;exact ⟨f,fd,F.ok S len (hbody f),b,F.kp,m⟩
theorem At.mk'{st:Stmt}{j e:C3}{i:Array B7}{kV Z pm Y ct:bg}(m:mg x=some (.ref a))
 (l:K.lookup a=some ⟨u,j,.func (eJ x x (cC st) (bK st) (aM st) .none kV Z pm e Y ct),i⟩) (c:md K Y x=true) (k:kU K (.ref a)=true)
 (h:∀(kV Z pm:bg) (e:C3) (Y ct:bg) (us:B8),us.length=ps.length->kA (eJ x x (cC st) (bK st) (aM st) .none kV Z pm e Y ct) ⟨us,[]⟩=pure (ps.zip us)):At K mg x st ps:=
 ⟨a,_,HN l c k,(HN l c k).binds h,m⟩
end
section
variable  {k:Nat}   {sp:Sp}{p:Pos}{e:Expr}{es:C1}{t:TA}
theorem BZ(F:Def X.prog X.w X.K X.mg X.base k x ps sp)(l:dJ k X.A)(j:Gl X x)(o:PA X (e::es) t)(Y:nD x:=by decide)
 (i:dr (e::es) X.env=(false,eval e X.env)::dr es X.env:=by rfl) (Z:(mI pos (dr es X.env)).any (·.1)=false:=by rfl):PE X (.Call (.Name x p) (e::es) [] pos) (X8 sp [] E0 t):=by
 obtain ⟨f,fd,F,b,kp,m⟩:=F.ex;exact ZW F l j m kp b .nil aed o Y i Z
end
variable {it l:Addr}{Q:B2}{items ze:Array bg}
section
open Builtin Builtin.Str
theorem jq{items}{x:bg}(Y:s.heap.IsTupleIter it l i)
 (p:s.heap.IsTuple l items) (q:items[i]?=some x)
 (r:∀h',h'.IsTupleIter it l (i+1)->jv it s.heap h'->Q x { s with heap:=h' }) :
 de (dn prog w) A (Builtin.SmallTypes.nextOf (.ref it)) Q E s:=by
 obtain ⟨o,Z,u,hd⟩:=id Y;obtain ⟨v,e,_,nl,j⟩:=p;refine af (fm Y.typeIs mh
  (fb mh Y.typeIs F.entry_tuple_iterator_next ?_ (sD _)))
 show de _ _ (field (.ref it) 0 >>= _) _ _ s;refine af (kX Z hd rfl ?_);show de _ _ (if (hZ l == bg.none)=true then _ else _) _ _ s;rw[if_neg (show ¬ ((hZ l == bg.none)=true) from fo)];refine af (kX Z hd rfl (af (fv e j ?_)));simp only[dS,q];refine af (mi Z hd (by simp) (aS ⟨x,rfl,aS (r _ ?_ (fw ..))⟩));exact ⟨_,i4 _ Z (Obj.isFreed_of_fields (Obj.data_mapFields hd _)),(Obj.cls_mapFields ..).trans u,by
  rw[Obj.data_mapFields hd];simp[ia]⟩
theorem jQ{items}(hh:A.handled=none)
 (Y:s.heap.IsTupleIter it l i) (r:s.heap.IsTuple l items) (u:items[i]?=none)
 (q:∀h' e,yy it s.heap h'->(∃o,h'.get? e=some o/\o.cls= .type "StopIteration")->E (.ref e) { s with heap:=h' }) :
 de (dn prog w) A (Builtin.SmallTypes.nextOf (.ref it)) Q E s:=by
 obtain ⟨o,Z,z,hd⟩:=id Y;obtain ⟨v,j,_,nl,p⟩:=r;refine af (fm Y.typeIs mh
  (fb mh Y.typeIs F.entry_tuple_iterator_next ?_ (sD _)))
 show de _ _ (field (.ref it) 0 >>= _) _ _ s;refine af (kX Z hd rfl ?_);show de _ _ (if (hZ l == bg.none)=true then _ else _) _ _ s;rw[if_neg (show ¬ ((hZ l == bg.none)=true) from fo)];refine af (kX Z hd rfl (af (fv j p ?_)));simp only[dS,u];refine af (pE (af (mi Z hd (by simp) (af ?_))));refine af (hF ?_ (by size_fits));refine af (l6 (by first | rfl | (rfl)) (hF ?_ (by size_fits)));refine af (wpAny_handled ?_)
 first | rw[hh] | rw[hh]
 exact af (aS (wpAny_throw (q _ _ (((fw ..).extBut.push _).push _) ⟨_,cm _ rfl,rfl⟩)))
theorem _root_.PySem.Draws.tuple(hh:A.handled=none)(it l:Addr)(q:l≠it)(Y:Array bg) :
 Draws prog w A it [it,l] Y.size (λi v=>Y[i]?=some v) (λi h=>h.IsTupleIter it l i/\h.IsTuple l Y) where
 live:=λ_ _ st=>let ⟨o,j,_⟩:=st.1;⟨o,j⟩
 frame:=λ_ _ _ st z=>⟨st.1.at λo e=>z it (by simp) o e,let ⟨o,j,r⟩:=st.2;⟨o,z l (by simp) o j,r⟩⟩
 item:=λi s Q E u st C=>by
  exact jq st.1 st.2 (x:=Y[i]) (by simp[u]) λD p Z=>C _ D s.toks (by simp[u]) ⟨p,let ⟨o,j,r⟩:=st.2;⟨o,Z.extBut l o q j,r⟩⟩ Z
 done:=λs Q E st B=>jQ hh st.1 st.2 (by simp) B
theorem um{Q:B7->cy->Prop}(hh:A.in1.handled=none)
 (j:IsEnum s.heap a it i u) (e:s.heap.IsTupleIter it l i) (q:s.heap.IsTuple l items) (r:items[i]?=none)
 (v:∀h',yy it s.heap h'->Q none { s with heap:=h' }):de (dn prog w) A (wd (.ref a)) Q E s:=by
 have hT:s.TypeIs (.ref a) "enumerate" := ⟨_,j,rfl⟩;refine af (og (fm hT F.slot_enumerate_next
  (fb F.slot_enumerate_next hT F.entry_enumerate_next ?_ (F.args_enumerate_next_1 _))))
 show de _ _ (field (.ref a) 2 >>= _) _ _ _;refine af (kX j rfl rfl (af (jQ hh e q r λh' x Z Y=>?_)));obtain ⟨o,p,z⟩:=Y;exact af (ko ⟨o,p,z⟩ uk (aS (v _ Z)))
open AutoSeq1 (wpAny_loadPart') in
theorem wk(l:Addr)(items:Array bg)(n:Nat)(dct:C3)(sl:Array B7) :
 Meets (Builtin.«enumerate.__new__» ⟨[.type "enumerate",.ref l],[]⟩) (λ_ R s=>s.heap.get? l=some { cls:=.type "tuple",dict:=dct,data:=.seq items n,slots:=sl } /\
  R (.ok (.ret (.ref (s.heap.push { cls:=.type "tuple_iterator",data:=.fields #[.ref l,.int 0 0] }).objs.size)))
   { s with heap:=(s.heap.push { cls:=.type "tuple_iterator",data:=.fields #[.ref l,.int 0 0] }).push { cls:=.type "enumerate",data:=.fields #[.none,.bool false,.ref s.heap.objs.size,ia 0,.none,.none] } }):=
 .of_wp λprog w A R s h=>by
  obtain ⟨hp,g,d,tk,os⟩:=s;obtain ⟨hl,h⟩:=h;have hsub:=sub_enumerate;have hL:Heap.IsTuple (Shared.heap ⟨hp,g,d,tk,os⟩) l items:=⟨_,hl,rfl,n,rfl⟩
  wp_walk using sF hl
  refine wpAny_stack_any λst=>aS ?_;split
  . rename_i c _ _ _ _ _;cases (c == h9 "enumerate")
    . wp_walk using sF hl,ml hL
      exact ⟨_,rfl,h⟩
    . wp_walk using sF hl,ml hL
      exact ⟨_,rfl,h⟩
  . wp_walk using sF hl,ml hL
    exact ⟨_,rfl,h⟩
theorem xM(p:s.heap.IsTuple l items)
 (h:∀h',IsEnum h' (s.heap.objs.size+1) s.heap.objs.size 0 .none->h'.IsTupleIter s.heap.objs.size l 0->h'.objs.size=s.heap.objs.size+2 ->
  (∀b o,s.heap.get? b=some o->h'.get? b=some o)->Q (.ref (s.heap.objs.size+1)) { s with heap:=h' }) :
 de (dn prog w) A (call (.type "enumerate") [.ref l]) Q E s:=by
 obtain ⟨⟨c,e,r,q⟩,j,Y,n,hd⟩:=p;replace Y:c= .type "tuple" := Y;replace hd:r= .seq items n:=hd;subst Y hd;refine callType_new F.called_enumerate (by decide) (F.typeCall_enumerate_1 _) (F.newCall_enumerate_1 _) (λobj=>F.args_object_init_2 obj _) F.entry_enumerate_new
  (wk l items n e q) ⟨j,?_⟩
 have Z:(s.heap.push { cls:=.type "tuple_iterator",data:=.fields #[.ref l,.int 0 0] }).objs.size=s.heap.objs.size+1:=fF ..
 rw[Z];have i:=by
  have:=cm (s.heap.push { cls:=.type "tuple_iterator",data:=.fields #[.ref l,.int 0 0] })
   (o:={ cls:=.type "enumerate",data:=.fields #[.none,.bool false,.ref s.heap.objs.size,ia 0,.none,.none] }) rfl
  rwa [Z] at this
 refine ⟨⟨_,i,rfl⟩,h _ i ⟨_,ax _ (cm _ rfl),rfl,rfl⟩ (by rw[fF,Z]) λb o x=>ax _ (ax _ x)⟩
theorem Ov{h:Heap}(p:h.IsTuple a ze)(q:h.IsTupleIter it l i):a≠it:=by
 rintro rfl;obtain ⟨o,e,c,_⟩:=p;obtain ⟨j,Y,Z,_⟩:=q;rw[e] at Y;cases Y;rw[c] at Z;exact absurd Z (by decide)
theorem QR{h:Heap}{e:Addr}{i:Int}(p:h.IsTuple a ze)(q:IsEnum h e it i u):a≠e:=by
 rintro rfl;obtain ⟨o,Y,c,_⟩:=p;rw[q] at Y;cases Y;exact absurd c (by show ¬ (h9 "enumerate"= h9 "tuple");decide)
noncomputable def X4(K:aE)(a:Addr):It:=
 ⟨λi H=>∃xs x,SqT K H a xs/\xs[i]?=some x,λi H x H'=>∃p v,H p=none/\x= .ref p/\H'=zw H p (.tup [.int (i:Nat),v])/\∀xs,SqT K H a xs->xs[i]?=some v,λi H=>∃xs,SqT K H a xs/\xs.length<=i⟩
theorem PB{x1}(a e it:Addr)(hne:e≠it) :
 Turn P w K (.Tuple elts x1 tpos) (X4 K a) [e,it] e (λi h=>(∃old,IsEnum h e it (i:Nat) old)/\h.IsTupleIter it a i) where
 mem:=by simp
 obj:=λi h st b hb=>by
  obtain ⟨⟨old,he⟩,o,ho,c,d⟩:=st;have hb':b=e\/b=it:=by simpa using hb
  rcases hb' with rfl | rfl
  . exact ⟨_,he,λv z=>by cases z⟩
  . exact ⟨o,ho,λv z=>by rw[d] at z;cases z⟩
 keep:=λi h h' st k=>by
  obtain ⟨⟨old,he⟩,hl⟩:=st;exact ⟨⟨old,k e (by simp) _ he⟩,hl.at λo q=>k it (by simp) o q⟩
 item:=by
  intro X hP hw hK hc i y8 s σ H E I hf st hg;subst hP hw hK;obtain ⟨⟨old,he⟩,hit⟩:=st;obtain ⟨xs,x,hq,hx⟩:=hg;obtain ⟨ze,rv,p,hz⟩:=I.tuple hq;obtain ⟨u,hu,ru⟩:=rv.get hx;obtain ⟨f0,f1,f2,f3,f4,f5⟩:=hf e (by simp);obtain ⟨g0,g1,g2,g3,g4,g5⟩:=hf it (by simp);have pt:s.heap.IsTuple a ze.toArray:=p;have nai:a≠it:=Ov pt hit;have nae:a≠e:=QR pt he;refine wpAny_pyNext_enum_itemD (Draws.tuple (show X.A.in1.handled=none from I.ok.hd hc) it a nai ze.toArray) he ⟨hit,pt⟩ (by have:=rv.length;have:=(a0.mp hx).1;simp;lia) hne (by simp[hne,mw nae]) λu' h' tk hu' he' st' ht' hz' hk'=>?_;have eu:u'=u:=by
   have:ze[i]?=some u':=by simpa using hu'
   rw[hu] at this;exact (Option.some.inj this).symm
  subst eu;obtain ⟨hit',-⟩:=st';refine ⟨_,rfl,?_⟩;refine wpAny_letOwnedTupleGo_enum (s:={ s with heap:=h',toks:=tk+1 }) he' λh2 he2 sb2=>?_;have hnew:H s.heap.objs.size=none:=I.zS.fresh (ay _);have hpe:s.heap.objs.size≠e:=nN (cx he);have ht2:h2.get? s.heap.objs.size=some { cls:=.type "tuple",data:=.seq #[.int (i:Nat) tk,u'] }:=sb2.extBut _ _ hpe ht';have k2:∀b o,b≠e->b≠it->s.heap.get? b=some o->h2.get? b=some o:=λb o b1 b2 q=>sb2.extBut b o b1 (hk' b o b1 b2 q);have hit2:h2.IsTupleIter it a (i+1):=hit'.extBut sb2.extBut (mw hne);have I2:=I.zB (tk:=tk+1) (x:=.int (i:Nat)) hf (λc o q hc=>k2 c o (λz=>hc (by simp[z])) (λz=>hc (by simp[z])) q) ht2 rfl rfl ⟨_,rfl⟩ ru;refine ⟨.ref s.heap.objs.size,_,I2,rfl,⟨_,x,hnew,rfl,rfl,λys hy=>by rw[I.xO hy hq];exact hx⟩,⟨⟨u',?_⟩,hit2⟩,λb hb=>?_⟩
  . have e3:(((i+1:Nat)):Int)=(i:Int)+1:=by lia
    rw[e3];exact he2
  . have hb':b=e\/b=it:=by simpa using hb
    rcases hb' with rfl | rfl
    . rw[aH (mw hpe)];exact f0
    . obtain ⟨o,ho,_⟩:=hit;rw[aH (en (cx ho))];exact g0
 done:=by
  intro X hP hw hK hc i y8 s σ H E I hf st hg;subst hP hw hK;obtain ⟨⟨old,he⟩,hit⟩:=st;obtain ⟨xs,hq,hx⟩:=hg;obtain ⟨ze,rv,p,hz⟩:=I.tuple hq;obtain ⟨g0,g1,g2,g3,g4,g5⟩:=hf it (by simp);have hl:=rv.length;have pt:s.heap.IsTuple a ze.toArray:=p;exact um (show X.A.in1.handled=none from I.ok.hd hc) he hit pt (by simp;lia) λh' eb=>⟨rfl,I.turned (t':=s.toks) (λb o hb e=>eb b o hb e) g0 g1 g3 g4 g5⟩
 self:=λ_ _ _ _ _ st h=>let ⟨⟨_,he⟩,_⟩:=st;qq he h
def abf(K:aE)(ta:TA):TI:=λσ H R=>ta σ H λvs H1=>∃a xs,vs=[.ref a]/\((SqL K H1 a xs/\R (Ite K a) H1)\/(SqT K H1 a xs/\R (X4 K a) H1))
theorem VH{x1}{a:Expr}{E:TA}{p:Pos}(O:Gl X "enumerate")(S:X.mg "enumerate"= none)(ha:PA X [a] E)(hs:dr [a] X.env=[(false,eval a X.env)]:=by rfl) :
 PI X (.Tuple elts x1 tpos) (.Call (.Name "enumerate" p) [a] [] pos) (abf X.K E):=by
 intro r s Q H R I h;refine Call_ (lr I O S (show eI "enumerate"= some (.type "enumerate") by decide +kernel) (gy (thn (ha pos r s Q H _ I h) λus Y z=>?_) hs rfl));obtain ⟨vs,J,i,L,P⟩:=z;obtain ⟨l,xs,e,q⟩:=P;subst e;obtain ⟨u,rfl,ru⟩:=zv.one L;cases ru;have Z:∀b,b∈[Y.heap.objs.size+1,Y.heap.objs.size]->_:=λb o=>by
  have U:=by simpa using o
  exact show Y.heap.objs.size<=b by lia
 rcases q with ⟨C,q⟩ | ⟨C,q⟩
 . obtain ⟨B,rv,pl,hz⟩:=i.list C;refine call_enumerate_list pl.isList λM v j D k=>qq v ?_;exact ⟨Y.heap.objs.size+1,[Y.heap.objs.size+1,Y.heap.objs.size],_,_,J,rfl,i.kept k,Uj l _ _ (Nat.succ_ne_self _),⟨⟨_,v⟩,j⟩,λb o=>i.qy (Z b o) (i.zS.fresh (Z b o)),q⟩
 . obtain ⟨B,rv,pl,hz⟩:=i.tuple C;have pt:=pl;refine xM pt λM v j D k=>qq v ?_;exact ⟨Y.heap.objs.size+1,[Y.heap.objs.size+1,Y.heap.objs.size],_,_,J,rfl,i.kept k,PB l _ _ (Nat.succ_ne_self _),⟨⟨_,v⟩,j⟩,λb o=>i.qy (Z b o) (i.zS.fresh (Z b o)),q⟩
end
variable {o:Option V}
section
variable {κ:Type} [DecidableEq κ]
noncomputable def gG(y9:List (κ×V))(k:κ):Option V:=(y9.find? λkv=>decide (kv.1=k)).map (·.2)
noncomputable def putK(y9:List (κ×V))(k:κ)(v:V):List (κ×V):=
 if (y9.any λkv=>decide (kv.1=k))=true then y9.map (λkv=>if kv.1=k then (kv.1,v) else kv) else y9++[(k,v)]
noncomputable def sX(y9:List (κ×V))(k:κ):List (κ×V):=y9.filter λkv=>decide (kv.1≠k)
theorem o7{p:κ×V}{r:List (κ×V)}{k:κ}(e:p.1=k):gG (p::r) k=some p.2:=by simp[gG,hY,e]
theorem o9{p:κ×V}{r:List (κ×V)}{k:κ}(e:¬ p.1=k):gG (p::r) k=gG r k:=by simp[gG,hY,e]
theorem Ar(k:κ):∀y9:List (κ×V),(y9.any λY=>decide (Y.1=k))=(gG y9 k).isSome
 | []=>rfl
 | p::r=>by
  rw[kQ]
  by_cases e:p.1=k
  . simp only[o7 e,decide_eq_true e,Bool.true_or,Option.isSome_some]
  . rw[o9 e,decide_eq_false e,Bool.false_or];exact Ar k r
theorem pD(Y:List (κ×V))(k:κ)(v:V):(putK Y k v).length<=Y.length+1:=by
 unfold putK;split
 . rw[ag];lia
 . rw[ai,bo,jS];lia
theorem oR.kW{u:B7}(r:oR o u):o.isSome=u.isSome:=by
 cases o with
 | none=>cases u with
  | none=>rfl
  | some _=>exact (r).elim
 | some _=>cases u with
  | none=>exact (r).elim
  | some _=>rfl
theorem KV.val{Y:List (κ×V)}{j:List (κ×bg)}(r:KV Y j)(k:κ):oR (gG Y k) (vx j k):=by
 induction r with
 | nil=>exact ki
 | @cons p q u Z h t o=>
  obtain ⟨l,s⟩:=h
  by_cases e:p.1=k
  . have i:=l.symm.trans e;have b:vx (q::Z) k=some q.2:=by simp[vx,hY,i]
    rw[o7 e,b];exact s
  . have i:¬ q.1=k:=λz=>e (l.trans z);have b:vx (q::Z) k=vx Z k:=by simp[vx,hY,i]
    rw[o9 e,b];exact o
theorem KV.any{Y:List (κ×V)}{e:List (κ×bg)}(r:KV Y e)(k:κ):(Y.any λZ=>decide (Z.1=k))=e.any λZ=>decide (Z.1=k):=by
 induction r with
 | nil=>rfl
 | cons h t i=>rw[kQ,kQ,i,h.1]
theorem KV.repl{Z:List (κ×V)}{j:List (κ×bg)}(r:KV Z j)(k:κ)(l:zo y u) :
 KV (Z.map λY=>if Y.1=k then (Y.1,y) else Y) (j.map λY=>if Y.1=k then (Y.1,u) else Y):=by
 induction r with
 | nil=>exact .nil
 | @cons p q B v h t o=>
  rw[bq,bq];refine .cons ?_ o;obtain ⟨i,s⟩:=h
  by_cases e:p.1=k
  . rw[if_pos e,if_pos (i.symm.trans e)];exact ⟨i,l⟩
  . rw[if_neg e,if_neg (λz=>e (i.trans z))];exact ⟨i,s⟩
theorem KV.put{Y:List (κ×V)}{Z:List (κ×bg)}(r:KV Y Z)(k:κ)(i:zo y u):KV (putK Y k y) (stored Z k u):=by
 unfold putK stored;rw[r.any k]
 by_cases e:(Z.any λj=>decide (j.1=k))=true
 . rw[if_pos e,if_pos e];exact r.repl k i
 . rw[if_neg e,if_neg e];exact i6.snoc r ⟨rfl,i⟩
theorem KV.drop{Y:List (κ×V)}{i:List (κ×bg)}(r:KV Y i)(k:κ):KV (sX Y k) (without i k):=by
 unfold sX without
 induction r with
 | nil=>exact .nil
 | @cons p q u s h t j=>
  obtain ⟨Z,o⟩:=h;rw[List.filter_cons,List.filter_cons]
  by_cases e:p.1=k
  . have a:¬ decide (p.1≠k)=true:=by simp[e]
    have b:¬ decide (q.1≠k)=true:=by simp[Z.symm.trans e]
    rw[if_neg a,if_neg b];exact j
  . have l:¬ q.1=k:=λz=>e (Z.trans z);have a:decide (p.1≠k)=true:=by simp[e]
    have b:decide (q.1≠k)=true:=by simp[l]
    rw[if_pos a,if_pos b];exact .cons ⟨Z,o⟩ j
theorem KV.length{Y:List (κ×V)}{Z:List (κ×bg)}(r:KV Y Z):Y.length=Z.length:=i6.length r
theorem WT(Y:List (κ×V))(k:κ):(sX Y k).length<=Y.length:=mx _ _
end
theorem vV{k:Key}(r:zo (kV k) u):(bY P w).is k u=true:=by
 cases k with
 | inl i=>obtain ⟨t,e⟩:=(r);subst e;exact La P w i t
 | inr x=>obtain ⟨t,e⟩:=(r);subst e;exact LC P w x t
theorem FZ:∀{ks:C6}{us:B8},zv (ks.map kV) us->ItemsAre (bY P w) ks us
 | [],_,r=>by rw[fe] at r;cases r;exact .nil
 | k::ks,_,r=>by
  rw[bq] at r
  cases r with
  | cons h t=>exact .cons (vV h) (FZ t)
abbrev KT(H:Hp):List (C6×V)->List (C6×Addr×bg)->Prop:=i6 λp q=>p.1=q.1/\H q.2.1=some (.tup (p.1.map kV))/\zo p.2 q.2.2
variable {y9:List (C6×V)}{xs:List (C6×Addr×bg)}
theorem KT.val(r:KT H y9 xs)(k:C6):oR (gG y9 k) ((pd xs k).map (·.2)):=by
 induction r with
 | nil=>exact ki
 | @cons p q o Y h t j=>
  obtain ⟨i,_,l⟩:=h
  by_cases e:p.1=k
  . have Z:=i.symm.trans e;have b:pd (q::Y) k=some q.2:=by simp[pd,hY,Z]
    rw[o7 e,b];exact l
  . have Z:¬ q.1=k:=λz=>e (i.trans z);have b:pd (q::Y) k=pd Y k:=by simp[pd,hY,Z]
    rw[o9 e,b];exact j
theorem KT.repl(r:KT H y9 xs)(k:C6)(l:zo y u) :
 KT H (y9.map λZ=>if Z.1=k then (Z.1,y) else Z) (xs.map (putAt k u)):=by
 induction r with
 | nil=>exact .nil
 | @cons p q v s h t o=>
  rw[bq,bq];refine .cons ?_ o;obtain ⟨Y,i,j⟩:=h;unfold putAt
  by_cases e:p.1=k
  . rw[if_pos e,if_pos (Y.symm.trans e)];exact ⟨Y,i,l⟩
  . rw[if_neg e,if_neg (λz=>e (Y.trans z))];exact ⟨Y,i,j⟩
variable {b:Addr}
theorem KT.put(r:KT H y9 xs)(k:C6)(i:H b=some (.tup (k.map kV)))(Y:zo y u) :
 KT H (putK y9 k y) (vE xs k b u):=by
 have e:(y9.any λZ=>decide (Z.1=k))=(pd xs k).isSome:=by
  rw[Ar,(r.val k).kW,iX]
 unfold putK vE;rw[e]
 by_cases q:(pd xs k).isSome=true
 . rw[if_pos q,if_pos q];exact r.repl k Y
 . rw[if_neg q,if_neg q];exact i6.snoc r ⟨rfl,i,Y⟩
theorem KT.keeps(r:KT H y9 xs)(Y:∀b ys,H b=some (.tup ys)->H' b=some (.tup ys)):KT H' y9 xs:=
 Paired.sO r λ_ _ z=>⟨z.1,Y _ _ z.2.1,z.2.2⟩
section
variable    {h:Heap}
theorem Yl{u:HO}(ok:HOk P w H h)(e:Rd H a u):gh P w H h a u:=e.ok ok
theorem qL{Y:A8}(ok:HOk P w H h)(e:Rd H a (.dK Y)):Y.length<=bt/\(a == gu)=false/\∃vs,KV Y vs/\h.DictOf (bY P w) a vs:=
 Yl ok e
theorem DK{Y:A8}(ok:HOk P w H h)(e:H a=some (.dK Y)):Y.length<=bt/\(a == gu)=false/\∃vs,KV Y vs/\h.DictOf (bY P w) a vs:=qL ok (.inl e)
theorem yq{ks:C6}(ok:HOk P w H h)(e:H a=some (.tup (ks.map kV))):(pV (bY P w)).is h ks a:=by
 obtain ⟨_,Y,r,o,i,j,n,Z⟩:=(ok a _ e);exact ⟨o,Y.toArray,n,i,j,Z,by simpa using FZ r⟩
theorem zJ(ok:HOk P w H h)(e:Rd H a (.dT y9)):y9.length<=bt/\(a == gu)=false /\
 ∃xs,KT H y9 xs/\h.DictOfH (pV (bY P w)) a xs:=by
 obtain ⟨z,y,xs,r,o,j,u,v,C,Z,i,s⟩:=(Yl ok e);refine ⟨z,y,xs,r,o,j,u,v,C,Z,i,λx hx=>?_,s⟩;have all:∀{l:List (C6×V)}{m:List (C6×Addr×bg)},KT H l m->∀x∈m,(pV (bY P w)).is h x.1 x.2.1:=by
  intro l m q
  induction q with
  | nil=>intro x hx;exact nomatch hx
  | @cons p q E D Y t B=>
   intro x hx;rcases b9.mp hx with e | hx
   . subst e;exact yq ok (by rw[<- Y.1];exact Y.2.1)
   . exact B x hx
 exact all r x hx
theorem adL(ok:HOk P w H h)(e:H a=some (.dT y9)):y9.length<=bt/\(a == gu)=false /\
 ∃xs,KT H y9 xs/\h.DictOfH (pV (bY P w)) a xs:=zJ ok (.inl e)
end
def wU(H:Hp)(a:Addr)(y:V)(r:Option V):Prop:=
 (∃y9 k,Rd H a (.dK y9)/\y=kV k/\r=gG y9 k)\/∃y9 k b,Rd H a (.dT y9)/\y= .ref b/\H b=some (.tup (k.map kV))/\r=gG y9 k
def xZ(H:Hp)(a:Addr)(y v:V)(H':Hp):Prop:=
 (∃y9 k,H a=some (.dK y9)/\y=kV k/\y9.length<bt/\H'=zw H a (.dK (putK y9 k v))) \/
 ∃y9 k b,H a=some (.dT y9)/\y= .ref b/\H b=some (.tup (k.map kV))/\y9.length<bt/\H'=zw H a (.dT (putK y9 k v))
theorem wU.k{Y:A8}{k:Key}(e:H a=some (.dK Y)):wU H a (kV k) (gG Y k):=.inl ⟨Y,k,.inl e,rfl,rfl⟩
theorem wU.t{k:C6}(e:H a=some (.dT y9))(Y:H b=some (.tup (k.map kV))):wU H a (.ref b) (gG y9 k):=.inr ⟨y9,k,b,.inl e,rfl,Y,rfl⟩
theorem xZ.k{Y:A8}{k:Key}(e:H a=some (.dK Y))(Z:Y.length<bt):xZ H a (kV k) y (zw H a (.dK (putK Y k y))):=.inl ⟨Y,k,e,rfl,Z,rfl⟩
theorem xZ.t{k:C6}(e:H a=some (.dT y9))(Y:H b=some (.tup (k.map kV)))(Z:y9.length<bt) :
 xZ H a (.ref b) y (zw H a (.dT (putK y9 k y))):=.inr ⟨y9,k,b,e,rfl,Y,Z,rfl⟩
section
variable       {v:V}{r:bg}
theorem zk.big(I:zk X y8 σ H s):gu<s.heap.objs.size:=by
 have h:=(I.mod.glob.keeps I.bk).lt;exact tm (by decide) h
theorem Td(J:A.units+1<kb)(I:zk X y8 σ H s)(g:wU H a y (some v))(C:zo y u)(h:∀i s',zk X y8 σ H s'->zo v i->Q i s') :
 de (dn X.prog X.w) A (xD (.ref a) u) Q E s:=by
 rcases g with ⟨o,k,e,j,l⟩ | ⟨o,k,b,e,j,D,l⟩
 . subst j;obtain ⟨z,hd,M,Z,q⟩:=qL I.zS e;obtain ⟨i,B,Y⟩:=oR.some_of (by rw[l];exact Z.val k);exact wpAny_getItem_of (vV C) q.mapOf B (h i _ (I.tok _) Y)
 . subst j;cases (C);obtain ⟨z,hd,O,Z,q⟩:=zJ I.zS e;obtain ⟨i,B,Y⟩:=oR.some_of (by rw[l];exact Z.val k);obtain ⟨p,L,r⟩:=lS.mp B;refine uu (pS J) (yq I.zS D) q L ?_;rw[r];exact h i _ (I.tok _) Y
theorem afx(r:A.units+1<kb)(I:zk X y8 σ H s)(g:wU H a y o)(p:zo y u)(h:∀s',zk X y8 σ H s'->Q (.bool o.isSome) s') :
 de (dn X.prog X.w) A (fR .In u (.ref a)) Q E s:=by
 rcases g with ⟨i,k,e,Z,l⟩ | ⟨i,k,b,e,Z,v,l⟩
 . subst Z;obtain ⟨z,hd,C,Y,j⟩:=qL I.zS e;refine wpAny_in_of (vV p) hd j.mapOf ?_;rw[<- (Y.val k).kW,<- l];exact h _ (I.tok _)
 . subst Z;cases (p);obtain ⟨z,hd,B,Y,j⟩:=zJ I.zS e;refine wpAny_in_heap (pS r) (yq I.zS v) hd j ?_;have q:=(Y.val k).kW;rw[iX] at q;rw[<- q,<- l];exact h _ (I.tok _)
theorem ZC(r:A.units+1<kb)(I:zk X y8 σ H s)(g:wU H a y o)(p:zo y u)(h:∀s',zk X y8 σ H s'->Q (.bool (!o.isSome)) s') :
 de (dn X.prog X.w) A (fR .NotIn u (.ref a)) Q E s:=by
 rcases g with ⟨i,k,e,Z,l⟩ | ⟨i,k,b,e,Z,v,l⟩
 . subst Z;obtain ⟨z,hd,C,Y,j⟩:=qL I.zS e;refine wpAny_notIn_of (vV p) hd j.mapOf ?_;rw[<- (Y.val k).kW,<- l];exact h _ (I.tok _)
 . subst Z;cases (p);obtain ⟨z,hd,B,Y,j⟩:=zJ I.zS e;refine wpAny_notIn_heap (pS r) (yq I.zS v) hd j ?_;have q:=(Y.val k).kW;rw[iX] at q;rw[<- q,<- l];exact h _ (I.tok _)
theorem mU{h':Heap}{t':Nat}{Y:HO}(I:zk X y8 σ H s)(i:Mut (H a))(hs:jv a s.heap h')(Z:∃q,h'.get? a=some q)(new:gh X.prog X.w (zw H a Y) h' a Y) :
 zk X y8 σ (zw H a Y) { s with heap:=h',toks:=t' }:=
 I.write i (.inl rfl) (λb q e z=>(hs.2 b e).trans z) Z new
theorem Ke{h':Heap}{Y:A8}{e:List (Key×bg)}(z:Y.length<=bt)(hd:(a == gu)=false)(Z:KV Y e)(i:h'.DictOf (bY P w) a e) :
 gh P w H' h' a (.dK Y):=⟨z,hd,e,Z,i⟩
theorem TV{Q:Unit->cy->Prop}(hu:A.units+1<kb)(I:zk X y8 σ H s)(g:xZ H a y v H')(J:zo y u)(O:zo v r)(h:∀s',zk X y8 σ H' s'->Q () s') :
 de (dn X.prog X.w) A (setItem (.ref a) u r) Q E s:=by
 rcases g with ⟨Z,k,e,p,l,C⟩ | ⟨Z,k,b,e,p,M,l,C⟩
 . subst p C;obtain ⟨z,hd,vs,Y,o⟩:=DK I.zS e;have hz:vs.length<=bt:=by rw[<- Y.length];exact z
   have D:(putK Z k v).length<=bt:=by have:=pD Z k v;lia
   refine wpAny_setItem_pairs (vV J) o λL i B=>h _ ?_;have he:∃q,L.get? a=some q:=let ⟨q,_,_,j,_⟩:=i;⟨q,j⟩;exact mU I (by rw[e];exact ki) B he (Ke D hd (Y.put k O) i)
 . subst p C;cases (J);obtain ⟨z,hd,xs,Y,o⟩:=adL I.zS e;have hz:xs.length<=bt:=by rw[<- i6.length Y];exact z
   have D:(putK Z k v).length<=bt:=by have:=pD Z k v;lia
   refine wpAny_setItem_heap (pS hu) (yq I.zS M) o λL i B=>h _ ?_;obtain ⟨q,U,ep,j,h2,R,S,_,h5⟩:=i;refine mU I (by rw[e];exact ki) B ⟨q,j⟩ ⟨D,hd,_,(Y.put k M O).keeps λc ys P=>?_,q,U,ep,j,h2,R,S,h5⟩;rw[aH (aeu P e (λz=>nomatch z))];exact P
end
section
variable       {y9:A8}{k:Key}
theorem aef{more:B8}(I:zk X y8 σ H s)(e:H a=some (.dK y9))(p:zo (kV k) u)(l:gG y9 k=some y)(v:more=[]\/∃x,more=[x])
 (h:∀Z s',zk X y8 σ (zw H a (.dK (sX y9 k))) s'->zo y Z->Q Z s'):de (dn X.prog X.w) A (call (.builtin "dict.pop") (.ref a::u::more)) Q E s:=by
 obtain ⟨z,hd,B,Y,r⟩:=DK I.zS e;obtain ⟨Z,P,o⟩:=oR.some_of (by rw[<- l];exact Y.val k);have O:(keyPart u).isSome=true:=by
  cases k with
  | inl i=>obtain ⟨t,q⟩:=(p);subst q;rfl
  | inr x=>obtain ⟨t,q⟩:=(p);subst q;rfl
 have D:y6 "dict.pop" ⟨.ref a::u::more,[]⟩:=by
  rcases v with q | ⟨x,q⟩
  . subst q;exact PySem.F.args_dict_pop_2 _ _
  . subst q;exact PySem.F.args_dict_pop_3 _ _ _
 refine call_meetsIn PySem.F.slot_dict_pop r.typeIs PySem.F.entry_dict_pop D (meets_dict_pop_there (bY X.prog X.w) a (vV p) more v O)
  ⟨B,Z,r,by rw[<- Y.length];exact z,P,λL j M=>h Z _ ?_ o⟩
 have J:∃q,L.get? a=some q:=let ⟨q,_,_,C,_⟩:=j;⟨q,C⟩;exact mU I (by rw[e];exact ki) M J (Ke (cS (WT y9 k) z) hd (Y.drop k) j)
theorem adE(I:zk X y8 σ H s)(e:Rd H a (.dK y9))(h:∀t s',zk X y8 σ H s'->Q (.int y9.length t) s'):de (dn X.prog X.w) A (call (.builtin "len") [.ref a]) Q E s:=by
 obtain ⟨z,hd,i,Y,Z⟩:=qL I.zS e;refine call_len_dict hd Z (by rw[<- Y.length];rw[sizeLine_eq] at z;lia) ?_;rw[<- Y.length];exact h _ _ (I.tok _)
end
def Wb(i:Expr):Prop:=∀ov iv,oz i false ov iv=operate [ov,iv] (xD ov iv)
theorem Nj{Z Y:Expr}{T id:String}
 (u:typeLookup (.type T) "__getitem__"= pure (some (.builtin id))) (hs:Wb Y)
 (h:de (dn prog w) A (eval Z env) (λo j=>de (dn prog w) A (eval Y env) (λi s₂=>s₂.TypeIs o T/\de (dn prog w) A (xD o i) Q E s₂) E j) E s) :
 de (dn prog w) A (eval (.Subscript Z Y pos) env) Q E s:=by
 refine Subscript_ (gL h (λo j p=>gL p (λi s₂ e=>?_) λ_ _ x=>x) λ_ _ x=>x);obtain ⟨hT,e⟩:=e;refine af ?_;rw[mB hT.not_modules];refine af (j1 hT u ?_);have fin:de (dn prog w) A (oz Y false o i) (λr l=>de (dn prog w) A (qr Z o r >>= λ_=>pure r) Q E l) E s₂:=by
  rw[hs o i];exact pw (gL e (λr l q=>af (ng (aS q))) λ_ _ x=>x)
 first
  | exact aS (af fin)
  | exact af (aS (af fin))
  | exact af fin
theorem Lh(I:zk X y8 σ H s)(g:wU H a y o):s.TypeIs (.ref a) "dict" := by
 rcases g with ⟨Z,k,e,_,_⟩ | ⟨Z,k,b,e,_,_,_⟩
 . obtain ⟨_,_,j,_,Y⟩:=qL I.zS e;exact Y.typeIs
 . obtain ⟨_,_,i,_,Y⟩:=zJ I.zS e;exact Y.typeIs
def adO(td ty tv:TE):TS:=λD σ H=>tv σ H λv H1=>td σ H1 λx H2=>ty σ H2 λy H3=>∃a H4,x= .ref a/\xZ H3 a y v H4/\D.nx σ H4
section
variable  {o i e value:Expr}{pos':Pos}{td ty tv:TE}
theorem Nt(l:X.A.units+1<kb)(S:PE X o td)(M:PE X i ty)(C:PE X value tv)(hs:hV value (some (.Subscript o i pos')) pos.line X.env=pure false) :
 PS X (.Assign [.Subscript o i pos'] value pos) (adO td ty tv):=by
 intro Y s e H D I h;refine wpAny_Assign_Subscript (thn (C Y s e H _ I h) λr q ⟨v,Q,j,U,z⟩=>thn (S Y q e Q _ j z) λu R ⟨x,H2,P,O,q2⟩=>thn (M Y R e H2 _ P q2) λiv s3 Z=>?_) hs;obtain ⟨y,H3,B,p,a,L,ex,g,J⟩:=Z;subst ex;obtain rfl:u=hZ a:=O;exact TV l B g p U λs4 E=>⟨e,L,E,J⟩
end
theorem Bl(h:Heap)(Y:gu<h.objs.size):gh P w H (h.push { cls:=.type "dict",data:=.dict #[] }) h.objs.size (.dK []):=
 ⟨iS _,beq_eq_false_iff_ne.mpr (mw (en Y)),[],.nil,Heap.DictOf.new h⟩
def ac5:TE:=λ_ H Q=>∀p,H p=none->Q (.ref p) (zw H p (.dK []))
theorem Xm:PE X (.Dict [] [] pos) ac5:=λY s Z H Q I h=>
 wpAny_Dict_empty ⟨.ref s.heap.objs.size,_,I.laid (λ_ _ q=>ax _ q) (ay _) (Bl s.heap I.big),rfl,h _ (I.zS.fresh (ay _))⟩
def uC:List (TE×TE)->St->Hp->(List (V×V)->Hp->Prop)->Prop
 | [],_,H,Q=>Q [] H
 | (tk,tv)::r,σ,H,Q=>tk σ H λx H1=>tv σ H1 λy H2=>uC r σ H2 λps H3=>Q ((x,y)::ps) H3
abbrev VV:List (V×V)->List (bg×bg)->Prop:=i6 λp q=>zo p.1 q.1/\zo p.2 q.2
def PPs(X:Cx)(pos:Pos)(keys:List (Option Expr))(values:C1)(trs:List (TE×TE)):Prop:=
 ∀(y8:A7) (s:cy) (σ:St) (H:Hp) (Q:List (V×V)->Hp->Prop),zk X y8 σ H s->uC trs σ H Q ->
  de (dn X.prog X.w) X.A (evalPairs (pairTrees keys values X.env pos)) (λvs s'=>∃ps H',zk X y8 σ H' s'/\VV ps vs/\Q ps H') X.xe s
theorem Eb:PPs X pos [] [] []:=λY s Z H Q I h=>pairTrees_nil_walk ⟨[],H,I,.nil,h⟩
variable {trs:List (TE×TE)}
theorem wO{k v:Expr}{ks:List (Option Expr)}{tk j:TE}(C:PE X k tk)(M:PE X v j)(J:PPs X pos ks elts trs) :
 PPs X pos (some k::ks) (v::elts) ((tk,j)::trs):=λY s i H Q I h=>
 pairTrees_cons_walk (thn (C Y s i H _ I h) λu D ⟨x,r,l,o,E⟩=>thn (M Y D i r _ l E) λU B ⟨y,S,q,z,O⟩=>
  thn (J Y B i S _ q O) λws s3 Z=>by obtain ⟨R,p,L,e,P⟩:=Z;exact ⟨(x,y)::R,p,L,.cons ⟨o,z⟩ e,P⟩)
noncomputable def p8(y9 more:A8):A8:=more.foldl (λzd kv=>putK zd kv.1 kv.2) y9
theorem KV.merge:∀{more:A8}{rs:List (Key×bg)}{y9:A8}{vs:List (Key×bg)},KV more rs->KV y9 vs->KV (p8 y9 more) (merged vs rs):=by
 intro more rs y9 vs r
 induction r generalizing y9 vs with
 | nil=>intro q;exact q
 | @cons p q j i h t Z=>
  intro Y;have e:KV (putK y9 p.1 p.2) (stored vs q.1 q.2):=by
   have:=Y.put p.1 h.2;rw[<- h.1];exact this
  exact Z e
theorem wX:∀(more y9:A8),(p8 y9 more).length<=y9.length+more.length
 | [],y9=>by show y9.length<=y9.length+0;lia
 | p::r,y9=>by
  have Y:=wX r (putK y9 p.1 p.2);have Z:=pD y9 p.1 p.2;show (p8 (putK y9 p.1 p.2) r).length<=_;rw[bo];lia
theorem Dc:∀{y9:A8}{ws:List (bg×bg)},VV (y9.map λY=>(kV Y.1,Y.2)) ws->∃rs,Carries (bY P w) ws rs/\KV y9 rs
 | [],_,r=>by rw[fe] at r;cases r;exact ⟨[],ki,.nil⟩
 | p::y9,_,r=>by
  rw[bq] at r
  cases r with
  | @cons a b as bs h t=>
   obtain ⟨rs,c,q⟩:=Dc t;obtain ⟨b1,Z⟩:=b;exact ⟨(p.1,Z)::rs,⟨vV h.1,rfl,c⟩,.cons ⟨rfl,h.2⟩ q⟩
def adC(trs:List (TE×TE)):TE:=λσ H Q=>∀p,H p=none->uC trs σ (zw H p (.dK [])) λps H2=>H2 p=some (.dK [])/\∃y9:A8,ps=y9.map (λkv=>(kV kv.1,kv.2))/\y9.length<=15/\Q (.ref p) (zw H2 p (.dK (p8 [] y9)))
theorem Nk{keys:List (Option Expr)}(h:PPs X pos keys elts trs)(j:keys.all (·.isSome)=true)(hl:keys.length=elts.length)(h0:keys≠[])
 (p:keys.length<=15):PE X (.Dict keys elts pos) (adC trs):=by
 intro Z s R H Q I q;have B:=I.zS.fresh (ay s.heap.objs.size);have M:=I.laid (t':=s.toks) (λ_ _ q=>ax _ q) (ay _) (Bl s.heap I.big);refine wpAny_Dict_walk (knd:=bY X.prog X.w) j hl h0 p (thn (h Z _ R _ _ M (q _ B)) λws s2 i=>?_);obtain ⟨ps,H2,r,o,e,Y,C,lk,L⟩:=i;subst C;obtain ⟨U,c,u⟩:=Dc o;obtain ⟨z,hd,vs0,S,E⟩:=DK r.zS e;cases S;refine ⟨U,c,E,λv l P=>⟨.ref s.heap.objs.size,_,?_,rfl,L⟩⟩;have D:(p8 [] Y).length<=bt:=by
  have O:=wX Y [];rw[jS] at O;rw[sizeLine_eq];lia
 have J:∃q,v.get? s.heap.objs.size=some q:=let ⟨q,_,_,hq,_⟩:=l;⟨q,hq⟩;exact mU r (by rw[e];exact ki) P J (Ke D hd (u.merge .nil) l)
structure M1 (X:Cx) (o:Expr) (m:Str) (apos:Pos) (e:Expr) (cpos:Pos):Prop where
 base:l5 o m X.env (eval o X.env)=eval o X.env
 few:((mI cpos (dr [e] X.env)).all (λx=>!x.1)&&(ua cpos (ox [] X.env)).all (λx=>x.1.isSome)
  && decide (([e]:C1).length+([]:List om).length+(if ([]:List om).isEmpty then 0 else 1)<30))=true
 line:(apos.endLine == cpos.line)=true
 trees:mI cpos (dr [e] X.env)=[(false,eval e X.env)]
def IsD(H:Hp)(a:Addr):Prop:=(∃y9,Rd H a (.dK y9))\/∃y9,Rd H a (.dT y9)
theorem Uv(I:zk X y8 σ H s)(d:IsD H a) :
 s.TypeIs (.ref a) "dict" /\ (∀b,hZ a= .ref b->∃Y,s.heap.get? b=some Y/\Y.dict=none)/\(a == gu)=false:=by
 rcases d with ⟨i,e⟩ | ⟨i,e⟩
 . obtain ⟨_,hd,p,_,Z⟩:=qL I.zS e;refine ⟨Z.typeIs,λb q=>?_,hd⟩;cases q;obtain ⟨Y,_,_,j,l,_⟩:=Z;exact ⟨Y,j,l.2.1⟩
 . obtain ⟨_,hd,o,_,Z⟩:=zJ I.zS e;refine ⟨Z.typeIs,λb q=>?_,hd⟩;cases q;obtain ⟨Y,_,_,j,l,_⟩:=Z;exact ⟨Y,j,l.2.1⟩
def abz(td ty:TE):TE:=λσ H Q=>td σ H λx H1=>∃a,x= .ref a/\IsD H1 a/\ty σ H1 λy H2=>∃y9 k v,H2 a=some (.dK y9)/\y=kV k/\gG y9 k=some v/\Q v (zw H2 a (.dK (sX y9 k)))
section
variable  {o e f:Expr}{apos cpos:Pos}{td ty tx:TE}
theorem XR(O:PE X o td)(P:PE X e ty)(m:M1 X o "pop" apos e cpos):PE X (.Call (.Attribute o "pop" apos) [e] [] cpos) (abz td ty):=by
 intro Y s p H Q I h;refine wpAny_Call_method m.base m.few m.line xc PySem.F.slot_dict_pop PySem.F.type_dict_pop (thn (O Y s p H _ I h) λu C Z=>?_);obtain ⟨x,M,j,J,a,ex,d,E⟩:=Z;subst ex;obtain rfl:u=hZ a:=J;obtain ⟨q,R,_⟩:=Uv j d;refine ⟨q,R,?_⟩;rw[m.trees];refine qh rfl (Calls.evalArgs_plain (t9 (thn (P Y C p M _ j E) λiv s2 ⟨y,H2,L,z,B,k,v,U,r,l,S⟩=>vu ?_)));subst r;exact aef L U z l (.inl rfl) λw' s3 D i=>⟨v,_,D,i,S⟩
end
abbrev dF:=List B3
noncomputable def adQ(ks:dF):Int:=x2 (ft (ks.map λk=>x2 (ft (k.map ti))))
noncomputable def iu(a:Addr)(xs:List (dF×Addr×bg)):HO:=.ext λh=>
 xs.length<=bt/\(a == gu)=false/\(xs.map (·.1)).Nodup/\∃o es ep,h.get? a=some o/\o.ExactDict/\o.data= .dict es ep/\es.toList=xs.map λx=>⟨adQ x.1,.ref x.2.1,x.2.2⟩
def oG(K:aE)(H:Hp)(ks:dF)(b:Addr):Prop:=∃cs:C2,SqT K H b (cs.map V.ref)/\i6 (λ(k:B3) c=>SqT K H c (k.map V.int)) ks cs
abbrev KN(K:aE)(H:Hp):List (dF×V)->List (dF×Addr×bg)->Prop:=i6 λp q=>p.1=q.1/\oG K H p.1 q.2.1/\zo p.2 q.2.2
theorem oG.keeps{ks:dF}(n:oG K H ks b)(Y:∀b ys,SqT K H b ys->SqT K H' b ys):oG K H' ks b:=by
 obtain ⟨Z,e,i⟩:=n;exact ⟨Z,Y _ _ e,Paired.sO i λ_ _ z=>Y _ _ z⟩
theorem KN.keeps{Y:List (dF×V)}{xs:List (dF×Addr×bg)}(r:KN K H Y xs)(Z:∀b ys,SqT K H b ys->SqT K H' b ys):KN K H' Y xs:=
 Paired.sO r λ_ _ z=>⟨z.1,z.2.1.keeps Z,z.2.2⟩
noncomputable def adW(k:B3):Int:=x2 (ft (k.map ti))
noncomputable def j7(a:Addr)(xs:List (B3×Addr×bg)):HO:=.ext λh=>
 xs.length<=bt/\(a == gu)=false/\(xs.map (·.1)).Nodup/\∃o es ep,h.get? a=some o/\o.ExactDict/\o.data= .dict es ep/\es.toList=xs.map λx=>⟨adW x.1,.ref x.2.1,x.2.2⟩
end Zq
namespace PySem
open Sem (wp)
section
variable {prog:gi}{w:kz}{K:Type} [DecidableEq K] (knd:KeyKind prog w K)
inductive fj (h:Heap):List (List K)->List bg->Prop
 | nil:fj h [] []
 | cons {k:List K}{a:Addr}{ks:List (List K)}{vs:List bg}:IsTupleKey knd h k a->fj h ks vs->fj h (k::ks) (.ref a::vs)
def dW(h:Heap)(ks:List (List K))(a:Addr):Prop:=∃o items n,h.get? a=some o/\o.cls= .type "tuple" /\ o.data= .seq items n/\fj knd h ks items.toList
variable {knd}
theorem fj.inj{h:Heap}{x y:List (List K)}{Z:List bg}(i:fj knd h x Z)(Y:fj knd h y Z):x=y:=by
 induction i generalizing y with
 | nil=>cases Y;rfl
 | cons j _ l=>cases Y with
  | cons o e=>rw[j.inj o,l e]
theorem fj.length{h:Heap}{x:List (List K)}{Y:List bg}(e:fj knd h x Y):x.length=Y.length:=by
 induction e with
 | nil=>rfl
 | cons _ _ Z=>simp[Z]
theorem dW.typeIs{s:cy}{ks:List (List K)}{a:Addr}(x:dW knd s.heap ks a):s.TypeIs (.ref a) "tuple" := by obtain ⟨o,_,_,Y,Z,_⟩:=x;exact ⟨o,Y,Z⟩
theorem dW.inj{h:Heap}{a:Addr}{x y:List (List K)}(q:dW knd h x a)(l:dW knd h y a):x=y:=by
 obtain ⟨o,j,n,r,_,hd,p⟩:=q;obtain ⟨o',Z,s,e,_,Y,i⟩:=l;obtain rfl:o=o':=Option.some.inj (r.symm.trans e);rw[hd] at Y;injection Y with h1 _;subst h1;exact p.inj i
theorem fj.keeps{h h':Heap}{ks:List (List K)}{vs:List bg}{d:Addr}{o:Obj}{es ep}(x:fj knd h ks vs)(Y:h.get? d=some o)(hd:o.data= .dict es ep)(hs:jv d h h'):fj knd h' ks vs:=by
 induction x with
 | nil=>exact .nil
 | cons Z _ e=>exact .cons (Z.keeps Y hd hs) e
theorem dW.keeps{h h':Heap}{ks:List (List K)}{a d:Addr}{o:Obj}{es ep}(x:dW knd h ks a)(j:h.get? d=some o)(hd:o.data= .dict es ep)(hs:jv d h h'):dW knd h' ks a:=by
 obtain ⟨l,Y,n,e,q,Z,p⟩:=x;have i:a≠d:=by
  rintro rfl;obtain rfl:l=o:=Option.some.inj (e.symm.trans j);rw[hd] at Z;exact nomatch Z
 exact ⟨l,Y,n,(hs.2 a i).trans e,q,Z,p.keeps j hd hs⟩
noncomputable def Az(knd:KeyKind prog w K)(ks:List (List K)):Int:=x2 (ft (ks.map (qA knd)))
noncomputable def fO:List (List K)->Nat
 | []=>0
 | k::ks=>k.length+1+fO ks
theorem Ha(a b:List (List K)):fO (a++b)=fO a+fO b:=by
 induction a with
 | nil=>simp[fO]
 | cons x t Y=>rw[gX,fO,fO,Y];lia
variable {A:gx}{E:bg->cy->Prop}{s:cy}
theorem z7{ks:List (List K)}{a:Addr}{Q:Int->cy->Prop}(C:A.units+64<kb)(u:dW knd s.heap ks a)(h:Q (Az knd ks) { s with toks:=s.toks+(fO ks+1) }) :
 de (dn prog w) A (pyHash (.ref a)) Q E s:=by
 have hT:=u.typeIs;obtain ⟨o,q,n,B,_,hd,v⟩:=u
 first | unfold pyHashByItsType | skip
 first | refine af (wpAny_cRoomFor_or (.inr (by lia)) ?_) | skip
 refine af (j1 hT qB.lookup ?_);rw[if_neg (by rw[beq_builtin_none];exact fo)];refine af (j1 hT qB.lookup (af (wpAny_callSpecialIfBoundUnlessNone?_slot hT qB (fb qB hT F.entry_tuple_hash ?_ (F.args_tuple_hash_1 _)))));show de _ _ (Builtin.Tuple.tupleItemsOf (.ref a) >>= _) _ _ s;refine af (uS B hd (af ?_));rw[<- u7];refine rV _
  (λY b r=>∃done left,ks=done++left/\fj knd s.heap left Y/\b.toList=done.map (qA knd)/\r={ s with toks:=s.toks+fO done })
  _ ?_ ?_ _ _ ⟨[],ks,rfl,v,rfl,rfl⟩
 . rintro x Y b r ⟨done,left,rfl,p,j,rfl⟩
   cases p with
   | @cons k _ Z _ z i=>
    refine af (wpAny_pyHash_tuple (by first | lia | (show _+_<_;lia)) z ?_);have e:fO (done++[k])=fO done+(k.length+1):=by rw[Ha];rfl
    first
     | exact aS ⟨done++[k],Z,by simp,i,by simp[j],by rw[e];simp[se]⟩
     | exact af (aS (aS ⟨done++[k],Z,by simp,i,by simp[j],by rw[e];simp[se]⟩))
 . rintro b r ⟨done,left,rfl,p,j,rfl⟩;cases p;rw[c8] at h;show de _ _ (retInt (ft b.toList)) _ _ _;rw[j];refine wpAny_ret_mkInt ?_;show de _ _ (if (decide (-(2:Int)^63<=ft (done.map (qA knd)))&&decide (ft (done.map (qA knd))<2^63))=true then _ else _) Q E _;unfold Az x2 at h
   by_cases l:(decide (-2^63<=ft (done.map (qA knd)))&&decide (ft (done.map (qA knd))<2^63))=true
   . rw[if_pos l];rw[if_pos l] at h;exact aS (by simpa[se] using h)
   . rw[if_neg l];rw[if_neg l] at h;exact af (pE (aS (by simpa[se] using h)))
theorem Jp{x y:List (List K)}{a b:Addr}{P:Fin->cy->Prop}(hu:A.units+8<kb)(hx:dW knd s.heap x a)(hy:dW knd s.heap y b)(h:P (.done (.ret (.bool (decide (x=y))))) s) :
 de (dn prog w) A (Builtin.«tuple.__eq__» ⟨[.ref a,.ref b],[]⟩) P E s:=by
 have hTb:=hy.typeIs;obtain ⟨oa,L,na,U,_,hda,S⟩:=hx;obtain ⟨ob,O,nb,hob,_,hdb,hib⟩:=hy;show de _ _ (isInstance (.ref b) (.type "tuple") >>= _) _ _ s;refine af (ko hTb ro (af (uS U hda ?_)));refine af (uS hob hdb (af ?_));refine rV _
  (λl r M=>r.1=none/\M=s/\∃Q R e i,l=List.zip e i/\fj knd s.heap Q e/\fj knd s.heap R i/\decide (Q=R)=decide (x=y)/\(e.length == i.length)=(L.size == O.size))
  _ ?_ ?_ _ _ ⟨rfl,rfl,x,y,L.toList,O.toList,rfl,S,hib,rfl,by simp⟩
 . rintro ⟨u,v⟩ l r M ⟨hr,rfl,Q,R,e,i,H,o,j,Y,Z⟩
   cases o with
   | nil=>simp at H
   | @cons k1 u' J z h1 I=>
    cases j with
    | nil=>simp at H
    | @cons k2 v' D p h2 B=>
     obtain ⟨⟨rfl,rfl⟩,rfl⟩:=H;refine af (wpAny_eqBool_tuple (by lia) h1 h2 ?_)
     by_cases hk:k1=k2
     . subst hk;rw[decide_eq_true rfl];refine aS ⟨rfl,rfl,J,D,z,p,rfl,I,B,?_,by simpa using Z⟩;rw[<- Y]
       by_cases C:J=D
       . simp[C]
       . simp[C]
     . rw[decide_eq_false hk];have hf:decide (x=y)=false:=by rw[<- Y];simp[hk]
       rw[hf] at h;exact af (aS (aS (aS h)))
 . rintro ⟨r1,r2⟩ M ⟨hr,rfl,Q,R,e,i,H,o,j,Y,Z⟩;simp only at hr;subst hr;refine aS ?_;have q:(L.size == O.size)=decide (x=y):=by
    rw[<- Y,<- Z]
    cases o with
    | nil=>
     cases j with
     | nil=>simp
     | cons _ _=>simp
    | cons _ _=>
     cases j with
     | nil=>simp
     | cons _ _=>simp at H
   show P (.done (.ret (.bool (L.size == O.size)))) M;rw[q];exact h
theorem zX{x y:List (List K)}{a b:Addr}{Q:Bool->cy->Prop}(j:A.units+64<kb)(Z:dW knd s.heap x a)(i:dW knd s.heap y b)(h:Q (decide (x=y)) s) :
 de (dn prog w) A (eqBool (.ref a) (.ref b)) Q E s:=by
 unfold eqBool
 try with_reducible refine i8 ?_
 by_cases Y:(hZ a == hZ b)=true
 . rw[if_pos Y];have e:=by have:=eq_of_beq Y;injection this
   subst e;obtain rfl:=Z.inj i;exact af (pE (aS (by simpa using h)))
 . rw[if_neg Y];exact af (wpAny_richCompare_same_room Z.typeIs i.typeIs sL
    (fb sL Z.typeIs F.entry_tuple_eq (Jp (by first | lia | (simp[Around.in1];lia)) Z i ⟨_,rfl,(λe=>nomatch e),k7 h⟩) (F.args_tuple_eq_2 _ _)) (by lia))
theorem zW(m:Nat){ks:List K}{a:Addr}{Q:Bool->cy->Prop}(p:IsTupleKey knd s.heap ks a)(h:Q true s):de (dn prog w) A (eqIsQuiet (m+1) (.ref a)) Q E s:=by
 have hT:=p.typeIs;obtain ⟨o,e,n,z,_,hd,q⟩:=p;unfold eqIsQuiet;refine af (j1 hT sL.lookup (af (ko hT ro ?_)));refine af (fv z hd (af ?_));rw[<- u7];refine rV _ (λY r j=>r.1=none/\j=s/\∀v∈Y,carriedByValue v=true) _ ?_ ?_ _ _ ⟨rfl,rfl,q.byValue⟩
 . rintro v Y r j ⟨i,rfl,Z⟩;rw[eqIsQuiet_byValue _ (Z v br)];exact af (aS (aS ⟨rfl,rfl,λu l=>Z u (cc _ l)⟩))
 . rintro ⟨C,B⟩ j ⟨i,rfl,_⟩;simp only at i;subst i;exact aS h
theorem Aw(m:Nat){ks:List (List K)}{a:Addr}{Q:Bool->cy->Prop}(l:dW knd s.heap ks a)(h:Q true s):de (dn prog w) A (eqIsQuiet (m+2) (.ref a)) Q E s:=by
 have hT:=l.typeIs;obtain ⟨o,e,n,B,_,hd,u⟩:=l;unfold eqIsQuiet;refine af (j1 hT sL.lookup (af (ko hT ro ?_)));refine af (fv B hd (af ?_));rw[<- u7];refine rV _ (λY r j=>r.1=none/\j=s/\∃p,fj knd s.heap p Y) _ ?_ ?_ _ _ ⟨rfl,rfl,_,u⟩
 . rintro v Y r j ⟨i,rfl,p,Z⟩
   cases Z with
   | cons z q=>
    exact af (zW m z (aS ⟨rfl,rfl,_,q⟩))
 . rintro ⟨D,C⟩ j ⟨i,rfl,_⟩;simp only at i;subst i;exact aS h
end
noncomputable def rN{prog:gi}{w:kz}{K:Type}[DecidableEq K](knd:KeyKind prog w K):HeapKind prog w (List (List K)) where
 is:=dW knd
 hash:=Az knd
 draws:=λks=>fO ks+1
 room:=λA=>A.units+64<kb
 inj:=λhx hy=>hx.inj hy
 keeps:=λx ho hd hs=>x.keeps ho hd hs
 pyHash:=λhu hk h=>z7 hu hk h
 eqBool:=λhu hx hy h=>zX hu hx hy h
 quiet:=λhk h=>Aw 6 hk h
end PySem
namespace Zq
open PySem PySem.Spec PyProof.Rows
variable {K:aE}{H:Hp}{xs:List (dF×Addr×bg)}
theorem KN.val{Y:List (dF×V)}(r:KN K H Y xs)(k:dF):oR (gG Y k) ((pd xs k).map (·.2)):=by
 induction r with
 | nil=>exact ki
 | @cons p q s Z h t l=>
  obtain ⟨j,_,o⟩:=h
  by_cases e:p.1=k
  . have i:=j.symm.trans e;have b:pd (q::Z) k=some q.2:=by simp[pd,hY,i]
    rw[o7 e,b];exact o
  . have i:¬ q.1=k:=λz=>e (j.trans z);have b:pd (q::Z) k=pd Z k:=by simp[pd,hY,i]
    rw[o9 e,b];exact l
theorem KN.repl{Y:List (dF×V)}(r:KN K H Y xs)(k:dF){y:V}{u:bg}(o:zo y u) :
 KN K H (Y.map λi=>if i.1=k then (i.1,y) else i) (xs.map (putAt k u)):=by
 induction r with
 | nil=>exact .nil
 | @cons p q v B h t s=>
  rw[bq,bq];refine .cons ?_ s;obtain ⟨Z,j,l⟩:=h;unfold putAt
  by_cases e:p.1=k
  . rw[if_pos e,if_pos (Z.symm.trans e)];exact ⟨Z,j,o⟩
  . rw[if_neg e,if_neg (λz=>e (Z.trans z))];exact ⟨Z,j,l⟩
theorem KN.put{Y:List (dF×V)}(r:KN K H Y xs)(k:dF){b:Addr}{y:V}{u:bg}(j:oG K H k b)(Z:zo y u) :
 KN K H (putK Y k y) (vE xs k b u):=by
 have e:(Y.any λi=>decide (i.1=k))=(pd xs k).isSome:=by
  rw[Ar,(r.val k).kW,iX]
 unfold putK vE;rw[e]
 by_cases q:(pd xs k).isSome=true
 . rw[if_pos q,if_pos q];exact r.repl k Z
 . rw[if_neg q,if_neg q];exact i6.snoc r ⟨rfl,j,Z⟩
theorem Jc:∀{cs:C2}{us:B8},zv (cs.map V.ref) us->us=cs.map hZ
 | [],_,r=>by rw[fe] at r;cases r;rfl
 | c::cs,_,r=>by
  rw[bq] at r
  cases r with
  | @cons _ u _ us h t=>
   cases (h);rw[Jc t];rfl
theorem Gz{P:gi}{w:kz}:∀{ks:B3}{us:B8},zv (ks.map V.int) us->ItemsAre (mu P w) ks us
 | [],_,r=>by rw[fe] at r;cases r;exact .nil
 | k::ks,_,r=>by
  rw[bq] at r
  cases r with
  | @cons _ u _ us h t=>
   obtain ⟨n,e⟩:=(h);subst e;exact .cons (by show yn k (.int k n)=true;simp[yn]) (Gz t)
variable {H':Hp}
theorem YB{P:gi}{w:kz}{a:Addr}{h':Heap}(z:xs.length<=bt)(hd:(a == gu)=false)(s:h'.DictOfH (rN (mu P w)) a xs):gh P w H' h' a (iu a xs):=by
 obtain ⟨o,l,q,e,D,i,j,_,p⟩:=s;exact ⟨⟨z,hd,p,o,l,q,e,D,i,j⟩,⟨o,e⟩,λH E ⟨r,B,u,v,Y,Z,b1,C⟩ k=>⟨r,B,u,v,Y,Z,k _ b1,C⟩⟩
variable {Q:B2}
section
variable {X:Cx}{y8:A7}{σ:St}  {s:cy}{a b:Addr}{v:V}{u r:bg}{A:gx}{E:B2}{y9:List (dF×V)}  {k:dF}
theorem zO{ks:B3}(I:zk X y8 σ H s)(e:SqT X.K H a (ks.map V.int)):(pV (mu X.prog X.w)).is s.heap ks a:=by
 obtain ⟨Y,r,⟨o,i,j,n,Z⟩,_⟩:=I.tuple e;exact ⟨o,Y.toArray,n,i,j,Z,by simpa using Gz r⟩
theorem Xl{ks:dF}{cs:C2}(I:zk X y8 σ H s)(r:i6 (λ(k:B3) c=>SqT X.K H c (k.map V.int)) ks cs):fj (mu X.prog X.w) s.heap ks (cs.map hZ):=by
 induction r with
 | nil=>exact .nil
 | cons Y _ Z=>exact .cons (zO I Y) Z
theorem zG{ks:dF}(I:zk X y8 σ H s)(n:oG X.K H ks a):(rN (mu X.prog X.w)).is s.heap ks a:=by
 obtain ⟨p,e,r⟩:=n;obtain ⟨Y,i,⟨o,j,l,n,Z⟩,_⟩:=I.tuple e;exact ⟨o,Y.toArray,n,j,l,Z,by rw[Jc i];simpa using Xl I r⟩
theorem Hn(I:zk X y8 σ H s)(e:H a=some (iu a xs))(r:KN X.K H y9 xs):y9.length<=bt/\(a == gu)=false/\s.heap.DictOfH (rN (mu X.prog X.w)) a xs:=by
 obtain ⟨⟨z,y,j,o,u,v,B,D,Z,i⟩,_⟩:=(I.zS a _ e);refine ⟨by rw[i6.length r];exact z,y,o,u,v,B,D,Z,i,λx hx=>?_,j⟩;have all:∀{l:List (dF×V)}{m:List (dF×Addr×bg)},KN X.K H l m->∀x∈m,(rN (mu X.prog X.w)).is s.heap x.1 x.2.1:=by
  intro l m q
  induction q with
  | nil=>intro x hx;exact nomatch hx
  | @cons p q J E Y t C=>
   intro x hx;rcases b9.mp hx with e | hx
   . subst e;exact zG I (by rw[<- Y.1];exact Y.2.1)
   . exact C x hx
 exact all r x hx
theorem HW(Y:A.units+65<kb):(rN (mu X.prog X.w)).room A.in1:=show A.units+1+64<kb by lia
theorem S7(u:A.units+65<kb)(I:zk X y8 σ H s)(e:H a=some (iu a xs))(Y:KN X.K H y9 xs)(r:oG X.K H k b)(l:gG y9 k=some v)(h:∀Z s',zk X y8 σ H s'->zo v Z->Q Z s') :
 de (dn X.prog X.w) A (xD (.ref a) (.ref b)) Q E s:=by
 obtain ⟨z,hd,o⟩:=Hn I e Y;obtain ⟨Z,q,i⟩:=oR.some_of (by rw[<- l];exact Y.val k);obtain ⟨p,B,j⟩:=lS.mp q;refine uu (HW u) (zG I r) o B ?_;rw[j];exact h Z _ (I.tok _) i
theorem aap(j:A.units+65<kb)(I:zk X y8 σ H s)(e:H a=some (iu a xs))(Y:KN X.K H y9 xs)(i:oG X.K H k b)(h:∀s',zk X y8 σ H s'->Q (.bool (!(gG y9 k).isSome)) s') :
 de (dn X.prog X.w) A (fR .NotIn (.ref b) (.ref a)) Q E s:=by
 obtain ⟨z,hd,Z⟩:=Hn I e Y;refine wpAny_notIn_heap (HW j) (zG I i) hd Z ?_;have q:=(Y.val k).kW;rw[iX] at q;rw[<- q];exact h _ (I.tok _)
theorem Ro{Q:Unit->cy->Prop}(o:A.units+65<kb)(I:zk X y8 σ H s)(e:H a=some (iu a xs))(Y:KN X.K H y9 xs)(j:oG X.K H k b)(C:zo v r)(J:y9.length<bt)
 (h:∀s',zk X y8 σ (zw H a (iu a (vE xs k b r))) s'->Q () s'):de (dn X.prog X.w) A (setItem (.ref a) (.ref b) r) Q E s:=by
 obtain ⟨z,hd,p⟩:=Hn I e Y;have L:xs.length<=bt:=by rw[<- i6.length Y];exact z
 refine wpAny_setItem_heap (HW o) (zG I j) p λB Z D=>?_;have i:(vE xs k b r).length<=bt:=by have:=pD y9 k v;rw[<- i6.length (Y.put k j C)];lia
 have u:∃q,B.get? a=some q:=let ⟨q,_,_,l,_⟩:=Z;⟨q,l⟩;exact h _ (mU I (by rw[e];exact ki) D u (YB i hd Z))
theorem adF(I:zk X y8 σ H s)(e:H a=some (.dK [])):zk X y8 σ (zw H a (iu a [])) s:=by
 obtain ⟨z,hd,B,Y,u⟩:=DK I.zS e;cases Y;obtain ⟨o,Z,r,l,v,p,_,j,_⟩:=u
 have i:Z.toList=[]:=by cases h:Z.toList with
  | nil=>rfl
  | cons x t=>rw[h] at j;cases j
 exact mU I (by rw[e];exact ki) ⟨rfl,λ_ _=>rfl⟩ ⟨o,l⟩ (YB (iS _) hd ⟨o,Z,r,l,v,p,by rw[i];rfl,λx q=>(nomatch q),qE⟩)
end
structure Exn where
 cls:Str
 arg:Option ab
inductive zi (α:Type) where
 | ok (a:α)
 | err (x:Exn)
 | bad
abbrev C7:=ab->ab->zi ab
abbrev C8:=ab->zi ab
noncomputable def zi.bind{α β:Type}:zi α->(α->zi β)->zi β
 | .ok a,f=>f a
 | .err x,_=>.err x
 | .bad,_=>.bad
@[simp] theorem zi.bf {α Y:Type} (a:α) (f:α->zi Y):(zi.ok a).bind f=f a:=rfl
@[simp] theorem zi.afn {α Y:Type} (x:Exn) (f:α->zi Y):(zi.err x:zi α).bind f= .err x:=rfl
@[simp] theorem zi.afz {α Y:Type} (f:α->zi Y):(zi.bad:zi α).bind f= .bad:=rfl
theorem zi.aq{α Y:Type}{r:zi α}{f:α->zi Y}{b:Y}(h:r.bind f= .ok b):∃a,r= .ok a/\f a= .ok b:=by
 cases r with
 | ok a=>exact ⟨a,rfl,h⟩
 | err x=>cases h
 | bad=>cases h
noncomputable def gd{α:Type}(c:Prop)[Decidable c](r:zi α):zi α:=if c then r else .bad
theorem bO{α:Type}{c:Prop}[Decidable c]{r:zi α}{a:α}(h:gd c r= .ok a):c/\r= .ok a:=by
 unfold gd at h
 by_cases Y:c
 . rw[if_pos Y] at h;exact ⟨Y,h⟩
 . rw[if_neg Y] at h;cases h
theorem bj{α:Type}{c:Prop}[Decidable c]{r:zi α}(h:c):gd c r=r:=if_pos h
abbrev Ev:=List (Option ab)
inductive Out where
 | nx (Γ:Ev)
 | rt (d:ab)
 | bk (Γ:Ev)
 | ct (Γ:Ev)
abbrev ME:=Ev->zi ab
abbrev MS:=Ev->zi Out
noncomputable def bJ:ab->Option Key
 | .int i=>some (.inl i)
 | .str x=>some (.inr x)
 | _=>none
mutual
def Rp(K:aE)(A:Hp):ab->V->Prop
 | .none,v=>v= .non
 | .bool b,v=>v= .bl b
 | .int i,v=>v= .int i
 | .str x,v=>v= .str x
 | .list ds,v=>∃a vs,v= .ref a/\SqL K A a vs/\au K A ds vs
 | .tuple ds,v=>∃a vs,v= .ref a/\SqT K A a vs/\au K A ds vs
 | .dict y9,v=>∃a u,v= .ref a/\Rd A a (.dK u)/\bh K A y9 u
def au(K:aE)(A:Hp):B4->C0->Prop
 | [],vs=>vs=[]
 | d::ds,vs=>∃v r,vs=v::r/\Rp K A d v/\au K A ds r
def bh(K:aE)(A:Hp):B0->A8->Prop
 | [],u=>u=[]
 | (k,d)::r,u=>∃key v u',u=(key,v)::u'/\bJ k=some key/\Rp K A d v/\bh K A r u'
end
theorem aD.rd(e:aD H H'){a:Addr}{u:HO}(h:Rd H a u):Rd H' a u:=by
 rcases h with h | ⟨o,h⟩
 . exact .inl (e _ _ h)
 . exact .inr ⟨o,e _ _ h⟩
mutual
theorem Rp.mono(e:aD H H'):∀(d:ab) {v:V},Rp K H d v->Rp K H' d v
 | .none,v,h=>by rw[Rp] at h ⊢;exact h
 | .bool _,v,h=>by rw[Rp] at h ⊢;exact h
 | .int _,v,h=>by rw[Rp] at h ⊢;exact h
 | .str _,v,h=>by rw[Rp] at h ⊢;exact h
 | .list ds,v,h=>by
  rw[Rp] at h ⊢;obtain ⟨a,vs,h1,h2,h3⟩:=h;exact ⟨a,vs,h1,e.seq h2,au.mono e ds h3⟩
 | .tuple ds,v,h=>by
  rw[Rp] at h ⊢;obtain ⟨a,vs,h1,h2,h3⟩:=h;exact ⟨a,vs,h1,e.fZ h2,au.mono e ds h3⟩
 | .dict y9,v,h=>by
  rw[Rp] at h ⊢;obtain ⟨a,u,h1,h2,h3⟩:=h;exact ⟨a,u,h1,aD.rd e h2,bh.mono e y9 h3⟩
theorem au.mono(e:aD H H'):∀(ds:B4) {vs:C0},au K H ds vs->au K H' ds vs
 | [],vs,h=>by rw[au] at h ⊢;exact h
 | d::ds,vs,h=>by
  rw[au] at h ⊢;obtain ⟨v,r,h1,h2,h3⟩:=h;exact ⟨v,r,h1,Rp.mono e d h2,au.mono e ds h3⟩
theorem bh.mono(e:aD H H'):∀(y9:B0) {u:A8},bh K H y9 u->bh K H' y9 u
 | [],u,h=>by rw[bh] at h ⊢;exact h
 | (k,d)::r,u,h=>by
  rw[bh] at h ⊢;obtain ⟨key,v,u',h1,h2,h3,h4⟩:=h;exact ⟨key,v,u',h1,h2,Rp.mono e d h3,bh.mono e r h4⟩
end
mutual
theorem Rp.is:∀(d:ab) {v:V},d.canLay0=true->Rp K H d v->Is K H d v
 | .none,v,_,h=>by rw[Rp] at h;rw[Is];exact h
 | .bool _,v,_,h=>by rw[Rp] at h;rw[Is];exact h
 | .int _,v,_,h=>by rw[Rp] at h;rw[Is];exact h
 | .str _,v,_,h=>by rw[Rp] at h;rw[Is];exact h
 | .list ds,v,c,h=>by
  rw[Rp] at h;rw[Is];rw[kB] at c;obtain ⟨a,vs,h1,h2,h3⟩:=h;exact ⟨a,vs,h1,h2,au.is ds c h3⟩
 | .tuple ds,v,c,h=>by
  rw[Rp] at h;rw[Is];rw[kB] at c;obtain ⟨a,vs,h1,h2,h3⟩:=h;exact ⟨a,vs,h1,h2,au.is ds c h3⟩
 | .dict _,v,c,h=>by rw[kB] at c;cases c
theorem au.is:∀(ds:B4) {vs:C0},ib ds=true->au K H ds vs->fH K H ds vs
 | [],vs,_,h=>by rw[au] at h;rw[fH];exact h
 | d::ds,vs,c,h=>by
  rw[au] at h;rw[fH];rw[ib,dQ] at c;obtain ⟨v,r,h1,h2,h3⟩:=h;exact ⟨v,r,h1,Rp.is d c.1 h2,au.is ds c.2 h3⟩
end
variable {A:Hp}{ds:B4}
section
variable   {v:V}
theorem Rp.int{i:Int}:Rp K A (.int i) v↔v= .int i:=by rw[Rp]
theorem Rp.bool{b:Bool}:Rp K A (.bool b) v↔v= .bl b:=by rw[Rp]
theorem Rp.none:Rp K A .none v↔v= .non:=by rw[Rp]
theorem Rp.str{x:Str}:Rp K A (.str x) v↔v= .str x:=by rw[Rp]
theorem Rp.list:Rp K A (.list ds) v↔∃a vs,v= .ref a/\SqL K A a vs/\au K A ds vs:=by rw[Rp]
theorem Rp.tuple:Rp K A (.tuple ds) v↔∃a vs,v= .ref a/\SqT K A a vs/\au K A ds vs:=by rw[Rp]
theorem au.nil{Y:C0}:au K A [] Y↔Y=[]:=by rw[au]
theorem au.cons{d:ab}{Y:B4}{Z:C0}:au K A (d::Y) Z↔∃v r,Z=v::r/\Rp K A d v/\au K A Y r:=by rw[au]
theorem au.length:∀{ds:B4}{vs:C0},au K A ds vs->ds.length=vs.length
 | [],vs,h=>by rw[au.nil] at h;rw[h];rfl
 | d::ds,vs,h=>by
  rw[au.cons] at h;obtain ⟨v,r,rfl,_,h⟩:=h;rw[bo,bo,au.length h]
theorem au.get:∀{ds:B4}{vs:C0}{i:Nat}{x:V},au K A ds vs->vs[i]?=some x->∃d,ds[i]?=some d/\Rp K A d x
 | [],vs,i,x,h,e=>by rw[au.nil] at h;subst h;simp at e
 | d::ds,vs,i,x,h,e=>by
  rw[au.cons] at h;obtain ⟨v,r,rfl,Z,h⟩:=h
  match i with
  | 0=>simp at e;subst e;exact ⟨d,rfl,Z⟩
  | i+1=>
   have l:=by simpa using e
   obtain ⟨j,o,Y⟩:=au.get h l;exact ⟨j,by simpa using o,Y⟩
theorem au.get':∀{ds:B4}{vs:C0}{i:Nat}{d:ab},au K A ds vs->ds[i]?=some d->∃x,vs[i]?=some x/\Rp K A d x
 | [],vs,i,x,h,e=>by simp at e
 | d::ds,vs,i,x,h,e=>by
  rw[au.cons] at h;obtain ⟨v,r,rfl,Z,h⟩:=h
  match i with
  | 0=>simp at e;subst e;exact ⟨v,rfl,Z⟩
  | i+1=>
   have l:=by simpa using e
   obtain ⟨j,o,Y⟩:=au.get' h l;exact ⟨j,by simpa using o,Y⟩
theorem au.append:∀{ds es:B4}{vs us:C0},au K A ds vs->au K A es us->au K A (ds++es) (vs++us)
 | [],es,vs,us,h,g=>by rw[au.nil] at h;subst h;exact g
 | d::ds,es,vs,us,h,g=>by
  rw[au.cons] at h;obtain ⟨v,r,rfl,Y,h⟩:=h;rw[gX,gX,au.cons];exact ⟨v,r++us,rfl,Y,au.append h g⟩
theorem au.one{d:ab}{x:V}(h:Rp K A d x):au K A [d] [x]:=by rw[au.cons];exact ⟨x,[],rfl,h,au.nil.mpr rfl⟩
theorem au.take:∀{ds:B4}{vs:C0} (n:Nat),au K A ds vs->au K A (ds.take n) (vs.take n)
 | _,_,0,_=>by rw[mm,mm];exact au.nil.mpr rfl
 | [],vs,n+1,h=>by rw[au.nil] at h;subst h;exact au.nil.mpr rfl
 | d::ds,vs,n+1,h=>by
  rw[au.cons] at h;obtain ⟨v,r,rfl,Y,h⟩:=h;rw[List.take_succ_cons,List.take_succ_cons,au.cons];exact ⟨v,_,rfl,Y,au.take n h⟩
theorem au.drop:∀{ds:B4}{vs:C0} (n:Nat),au K A ds vs->au K A (ds.drop n) (vs.drop n)
 | _,_,0,h=>by rw[List.drop_zero,List.drop_zero];exact h
 | [],vs,n+1,h=>by rw[au.nil] at h;subst h;exact au.nil.mpr rfl
 | d::ds,vs,n+1,h=>by
  rw[au.cons] at h;obtain ⟨v,r,rfl,Y,h⟩:=h;rw[List.drop_succ_cons,List.drop_succ_cons];exact au.drop n h
theorem au.reverse:∀{ds:B4}{vs:C0},au K A ds vs->au K A ds.reverse vs.reverse
 | [],vs,h=>by rw[au.nil] at h;subst h;exact au.nil.mpr rfl
 | d::ds,vs,h=>by
  rw[au.cons] at h;obtain ⟨v,r,rfl,Y,h⟩:=h;rw[List.reverse_cons,List.reverse_cons];exact (au.reverse h).append (au.one Y)
theorem au.ints{ns:B3}:au K A (ns.map ab.int) (ns.map V.int):=by
 induction ns with
 | nil=>exact au.nil.mpr rfl
 | cons n ns Y=>exact au.cons.mpr ⟨_,_,rfl,Rp.int.mpr rfl,Y⟩
end
inductive Fl where
 | zD | zC | own | fix (p:Addr) | exc (C:Addr) | nst (b:Bool) | kit
 deriving DecidableEq
abbrev B9:=List Fl
noncomputable def isO:Fl->Bool
 | .own=>true
 | .fix _=>true
 | _=>false
noncomputable def isX:Fl->Bool
 | .exc _=>true
 | .nst _=>true
 | .kit=>true
 | _=>false
def aeY(A:Hp)(C:Addr)(v:V):Prop:=∃p ob,v= .ref p/\A p=some (.frz ob (.own 0))/\ob.cls= .ref C
noncomputable def nF:B4->Option B3
 | []=>some []
 | .int i::r=>match nF r with
  | some l=>some (i::l)
  | none=>none
 | _::_=>none
noncomputable def sY:B4->Option dF
 | []=>some []
 | .tuple ds::r=>match nF ds,sY r with
  | some a,some b=>some (a::b)
  | _,_=>none
 | _::_=>none
noncomputable def jD:ab->Option dF
 | .tuple ds=>sY ds
 | _=>none
def RpN(K:aE)(A:Hp)(y9:B0)(xs:List (dF×Addr×bg)):Prop:=∃us:List (dF×V),KN K A us xs/\i6 (λp q=>jD p.1=some q.1/\Rp K A p.2 q.2) y9 us
def ae6(K:aE)(A B H:Hp)(d:ab)(v:V):Prop:=∃p xs y9,v= .ref p/\d= .dict y9/\H p=some (iu p xs)/\A p=none/\B p=none/\RpN K A y9 xs
noncomputable def pM:ab->Option B3
 | .tuple ds=>nF ds
 | _=>none
abbrev RpT(K:aE)(A:Hp):B0->List (B3×Addr×bg)->Prop:=i6 λp q=>pM p.1=some q.1/\SqT K A q.2.1 (q.1.map V.int)/\∃v,zo v q.2.2/\Rp K A p.2 v
def qm(K:aE)(A:Hp)(d:ab)(v:V):Prop:=∃p xs y9,v= .ref p/\d= .dict y9/\A p=some (j7 p xs)/\RpT K A y9 xs
theorem qm.mono{d:ab}{v:V}(Y:aD A H)(h:qm K A d v):qm K H d v:=by
 obtain ⟨p,e,Z,l,i,j,o⟩:=h;exact ⟨p,e,Z,l,i,Y _ _ j,Paired.sO o λ_ _ z=>⟨z.1,Y.fZ z.2.1,z.2.2.imp λv y=>⟨y.1,Rp.mono Y _ y.2⟩⟩⟩
def Pk(K:aE)(A H:Hp)(d:ab)(v:V):Prop:=
 Rp K A d v\/(∃p vs ds,v= .ref p/\d= .list ds/\SqL K H p vs/\au K A ds vs)\/∃p u y9,v= .ref p/\d= .dict y9/\Rd H p (.dK u)/\bh K A y9 u
def jb(K:aE)(A:Hp)(d:ab)(o:HO):Prop:=(∃ds vs,d= .list ds/\o= .lst vs/\au K A ds vs)\/∃y9 u,d= .dict y9/\o= .dK u/\bh K A y9 u
def Own(K:aE)(A B H:Hp)(d:ab)(v:V):Prop:=∃p o,v= .ref p/\H p=some o/\A p=none/\B p=none/\jb K A d o
def zE(K:aE)(A B H:Hp):Fl->ab->V->Prop
 | .zD,d,v=>Rp K A d v
 | .zC,d,v=>Pk K A B d v
 | .own,d,v=>Own K A B H d v
 | .fix p,d,v=>v= .ref p/\Own K A B H d v
 | .exc C,_,v=>aeY A C v
 | .nst b,d,v=>b=true->ae6 K A B H d v
 | .kit,d,v=>qm K A d v
def Hm(K:aE)(A B H:Hp)(f:Fl)(d:Option ab)(v:Option V):Prop:=∀d',d=some d'->∃v',v=some v'/\zE K A B H f d' v'
noncomputable abbrev fl(O:B9)(i:Nat):Fl:=O.getD i .zD
noncomputable abbrev gv(Γ:Ev)(i:Nat):Option ab:=Γ.getD i none
noncomputable abbrev sv(σ:St)(i:Nat):Option V:=σ.getD i none
structure aY (K:aE) (A B H:Hp) (O:B9) (σ:St) (Γ:Ev):Prop where
 a:aD A H
 b:aD B H
 len:Γ.length=σ.length
 slot:∀i,Hm K A B H (fl O i) (gv Γ i) (sv σ i)
 sep:∀i j,i≠j->isO (fl O i)=true->isO (fl O j)=true->gv Γ i≠none->gv Γ j≠none->sv σ i≠sv σ j
def New(A A' B:Hp):Prop:=∀p,A p=none->B p≠none->A' p=none
structure aZ (A H A' H':Hp):Prop where
 aa:aD A A'
 hh:aD H H'
 ah:aD A' H'
 nw:New A A' H
theorem aZ.refl(h:aD A H):aZ A H A H:=⟨aD.refl _,aD.refl _,h,λ_ h _=>h⟩
variable {p:Addr}
theorem aD.ne(e:aD H H')(h:H p≠none):H' p≠none:=by
 cases q:H p with
 | none=>exact absurd q h
 | some o=>rw[e p o q];simp
theorem aZ.trans{Z e H2:Hp}(g:aZ A H H' Z)(Y:aZ H' Z e H2):aZ A H e H2:=
 ⟨g.aa.trans Y.aa,g.hh.trans Y.hh,Y.ah,λp j i=>Y.nw p (g.nw p j i) (aD.ne g.hh i)⟩
theorem New.mono{B:Hp}(n:New A H H')(s:aD B H'):New A H B:=λp Y Z=>n p Y (aD.ne s Z)
theorem New.trans{B:Hp}(n:New A H B)(m:New H H' B):New A H' B:=λp Z Y=>m p (n p Z Y) Y
variable {y9:B0}{o:HO}
section
variable  {B A':Hp}{O:B9}{σ:St}{Γ:Ev}{d:ab}{v:V}
theorem Pk.mono(i:aD A A')(hh:aD H H')(h:Pk K A H d v):Pk K A' H' d v:=by
 rcases h with h | ⟨p,q,o,j,Z,e,l⟩ | ⟨p,u,Y,j,Z,e,l⟩
 . exact .inl (Rp.mono i d h)
 . exact .inr (.inl ⟨p,q,o,j,Z,hh.seq e,au.mono i o l⟩)
 . exact .inr (.inr ⟨p,u,Y,j,Z,aD.rd hh e,bh.mono i Y l⟩)
theorem jb.mono(j:aD A A')(h:jb K A d o):jb K A' d o:=by
 rcases h with ⟨i,l,e,Z,h⟩ | ⟨Y,u,e,Z,h⟩
 . exact .inl ⟨i,l,e,Z,au.mono j i h⟩
 . exact .inr ⟨Y,u,e,Z,bh.mono j Y h⟩
theorem RpN.mono(Y:aD A A')(h:RpN K A y9 xs):RpN K A' y9 xs:=by
 obtain ⟨Z,i,j⟩:=h;exact ⟨Z,i.keeps λb l e=>Y.fZ e,Paired.sO j λ_ _ z=>⟨z.1,Rp.mono Y _ z.2⟩⟩
theorem jb.nx(h:jb K A d o)(e:some o=some (iu p xs)):False:=by
 rcases h with ⟨l,j,i,Y,h⟩ | ⟨Z,u,i,Y,h⟩ <;> (rw[Y] at e;cases e)
theorem zE.grow(g:aZ A H A' H'){f:Fl}(h:zE K A B H f d v):zE K A' B H' f d v:=by
 cases f with
 | zD=>exact Rp.mono g.aa d h
 | zC=>exact Pk.mono g.aa (aD.refl _) h
 | own=>
  obtain ⟨p,o,e,Y,Z,i,j⟩:=h;exact ⟨p,o,e,g.hh _ _ Y,g.nw p Z (by rw[Y];simp),i,j.mono g.aa⟩
 | fix L=>
  obtain ⟨I,p,o,e,Y,Z,i,j⟩:=h;exact ⟨I,p,o,e,g.hh _ _ Y,g.nw p Z (by rw[Y];simp),i,j.mono g.aa⟩
 | exc C=>
  obtain ⟨p,D,e,Y,Z⟩:=h;exact ⟨p,D,e,g.aa _ _ Y,Z⟩
 | nst b=>
  intro z;obtain ⟨p,u,l,E,r,q,J,w5,s⟩:=h z;exact ⟨p,u,l,E,r,g.hh _ _ q,g.nw p J (by rw[q];simp),w5,s.mono g.aa⟩
 | kit=>exact qm.mono g.aa h
theorem Hm.grow(g:aZ A H A' H'){f:Fl}{d:Option ab}{v:Option V}(h:Hm K A B H f d v):Hm K A' B H' f d v:=λY e=>
 let ⟨Z,i,q⟩:=h Y e;⟨Z,i,q.grow g⟩
theorem aY.grow(g:aZ A H A' H')(r:aY K A B H O σ Γ):aY K A' B H' O σ Γ:=
 ⟨g.ah,r.b.trans g.hh,r.len,λi=>(r.slot i).grow g,r.sep⟩
theorem jb.share(h:jb K A d o)(s:aD A (zw A p o)):Rp K (zw A p o) d (.ref p):=by
 rcases h with ⟨j,i,e,Y,h⟩ | ⟨Z,u,e,Y,h⟩
 . subst e;subst Y;exact Rp.list.mpr ⟨p,i,rfl,SqL.of bc,au.mono s j h⟩
 . subst e;subst Y;exact (by rw[Rp];exact ⟨p,u,rfl,.inl bc,bh.mono s Z h⟩)
theorem Own.pk(h:Own K A B H d v):Pk K A H d v:=by
 obtain ⟨p,o,e,l,_,_,⟨r,q,Z,j,Y⟩ | ⟨i,u,Z,j,Y⟩⟩:=h
 . subst j;exact .inr (.inl ⟨p,q,r,e,Z,SqL.of l,Y⟩)
 . subst j;exact .inr (.inr ⟨p,u,i,e,Z,.inl l,Y⟩)
theorem zE.pk(Z:aD B H){f:Fl}(h:zE K A B H f d v)(Y:isX f=false):Pk K A H d v:=by
 cases f with
 | zD=>exact .inl h
 | zC=>exact Pk.mono (aD.refl _) Z h
 | own=>exact Own.pk h
 | fix e=>exact Own.pk h.2
 | exc C=>cases Y
 | nst b=>cases Y
 | kit=>cases Y
theorem Pk.list(q:aD A H)(h:Pk K A H (.list ds) v):∃p vs,v= .ref p/\SqL K H p vs/\au K A ds vs:=by
 rcases h with h | ⟨p,vs,l,j,i,Y,Z⟩ | ⟨p,u,o,j,i,Y,Z⟩
 . obtain ⟨a,vs,e,Y,Z⟩:=Rp.list.mp h;exact ⟨a,vs,e,q.seq Y,Z⟩
 . cases i;exact ⟨p,vs,j,Y,Z⟩
 . cases i
theorem Pk.nZ(h:Pk K A H d v)(n:∀ds,d ≠ .list ds)(n2:∀y9,d ≠ .dict y9):Rp K A d v:=by
 rcases h with h | ⟨p,l,Z,i,Y,e,j⟩ | ⟨p,u,y9,i,Y,e,j⟩
 . exact h
 . exact absurd Y (n Z)
 . exact absurd Y (n2 y9)
theorem Pk.int{i:Int}(h:Pk K A H (.int i) v):v= .int i:=Rp.int.mp (h.nZ (λ_ z=>nomatch z) (λ_ z=>nomatch z))
theorem Pk.bool{i:Bool}(h:Pk K A H (.bool i) v):v= .bl i:=Rp.bool.mp (h.nZ (λ_ z=>nomatch z) (λ_ z=>nomatch z))
theorem Pk.none(h:Pk K A H .none v):v= .non:=Rp.none.mp (h.nZ (λ_ z=>nomatch z) (λ_ z=>nomatch z))
theorem Pk.str{x:Str}(h:Pk K A H (.str x) v):v= .str x:=Rp.str.mp (h.nZ (λ_ z=>nomatch z) (λ_ z=>nomatch z))
theorem Pk.tuple(Z:aD A H)(h:Pk K A H (.tuple ds) v):∃p vs,v= .ref p/\SqT K H p vs/\au K A ds vs:=by
 obtain ⟨a,vs,e,Y,i⟩:=Rp.tuple.mp (h.nZ (λ_ z=>nomatch z) (λ_ z=>nomatch z));exact ⟨a,vs,e,Z.fZ Y,i⟩
theorem Pk.is(i:aD A H)(q:d5 d=true)(h:Pk K A H d v):Is K H d v:=by
 have c:=lT q;rcases h with h | ⟨p,o,Y,j,Z,e,l⟩ | ⟨p,u,r,j,Z,e,l⟩
 rotate_right
 . subst Z;rw[kB] at c;cases c
 . exact Is.mono i d (Rp.is d c h)
 . subst Z;rw[Is];rw[kB] at c;exact ⟨p,o,j,e,fH.mono i Y (au.is Y c l)⟩
theorem Rp.dict:Rp K A (.dict y9) v↔∃a u,v= .ref a/\Rd A a (.dK u)/\bh K A y9 u:=by rw[Rp]
theorem bh.nil{u:A8}:bh K A [] u↔u=[]:=by rw[bh]
theorem bh.cons{k d:ab}{r:B0}{u:A8}:bh K A ((k,d)::r) u↔∃key v u',u=(key,v)::u'/\bJ k=some key/\Rp K A d v/\bh K A r u':=by rw[bh]
theorem Pk.dict(q:aD A H)(h:Pk K A H (.dict y9) v):∃a u,v= .ref a/\Rd H a (.dK u)/\bh K A y9 u:=by
 rcases h with h | ⟨p,r,o,l,i,Y,Z⟩ | ⟨p,u,j,l,i,Y,Z⟩
 . obtain ⟨a,u,e,Y,Z⟩:=Rp.dict.mp h;exact ⟨a,u,e,aD.rd q Y,Z⟩
 . cases i
 . cases i;exact ⟨p,u,l,Y,Z⟩
theorem aZ.new(Z:aD A H)(h:H p=none):aZ A H (zw A p o) (zw H p o):=
 ⟨aD.new (Z.free h) o,aD.new h o,λb u q=>by
  by_cases Y:b=p
  . subst Y;rw[bc] at q ⊢;exact q
  . rw[aH Y] at q ⊢;exact Z b u q,λb e i=>by
  have Y:b≠p:=λz=>i (z ▸ h);rw[aH Y];exact e⟩
theorem aZ.lay(Z:aD A H)(h:H p=none):aZ A H A (zw H p o):=
 ⟨aD.refl _,aD.new h o,Z.trans (aD.new h o),λb Y _=>Y⟩
end
structure Nm (X:Cx) (i:Nat) (x:Str):Prop where
 a:X.N[i]?=some x
 b:Vis X.env.scope x
 c:nD x
 d:(x == ("__classdict__" : Str))=false
end Zq
local macro_rules | `(tactic| walk_at "nm")=>`(tactic| exact ⟨rfl,by first | exact hX rfl | exact sM (hX rfl) | exact sM (sM rfl),by decide,by decide⟩)
namespace Zq
open PySem PySem.Spec PyProof.Rows
noncomputable def As:Expr->Bool
 | .Starred _ _=>false
 | _=>true
noncomputable def iz:C1->Bool
 | []=>true
 | e::es=>As e&&iz es
variable {e:Expr}
theorem cz{es:C1}{env:Env}(h:As e=true):dr (e::es) env=(false,eval e env)::dr es env:=by
 cases e <;> first | rfl | cases h
theorem iY:∀{es:C1}{env:Env}{pos:Pos},iz es=true->(mI pos (dr es env)).any (·.1)=false
 | [],_,_,_=>rfl
 | e::es,env,pos,h=>by
  rw[iz,dQ] at h;rw[cz h.1];show (false||(mI pos (dr es env)).any (·.1))=false;rw[iY h.2];rfl
def tE(K:aE)(O:B9)(m:ME):TE:=λσ H Q=>∃A B Γ d,aY K A B H O σ Γ/\m Γ = .ok d/\∀v A' H',aZ A H A' H'->Rp K A' d v->Q v H'
def tP(K:aE)(O:B9)(m:ME):TE:=λσ H Q=>∃A B Γ d,aY K A B H O σ Γ/\m Γ = .ok d/\∀v A' H',aZ A H A' H'->Pk K A' H' d v->Q v H'
def uR(K:aE)(H A' H':Hp)(d:ab)(v:V):Prop:=∃p o,v= .ref p/\H p=none/\H' p=some o/\A' p=none/\jb K A' d o
def tF(K:aE)(O:B9)(m:ME):TE:=λσ H Q=>∃A B Γ d,aY K A B H O σ Γ/\m Γ = .ok d/\∀v A' H',aZ A H A' H'->uR K H A' H' d v->Q v H'
def tT(K:aE)(O:B9)(m:ME):TT:=λσ H Q=>∃A B Γ b,aY K A B H O σ Γ/\m Γ = .ok (.bool b)/\∀A' H',aZ A H A' H'->Q b H'
variable {X:Cx}{t':TT}{tg:Expr}
theorem PE.imp{t t':TE}(h:PE X e t)(i:∀σ H Q,t' σ H Q->t σ H Q):PE X e t':=λY s σ H Q I q=>h Y s σ H Q I (i σ H Q q)
theorem PT.imp{t:TT}(h:PT X e t)(i:∀σ H Q,t' σ H Q->t σ H Q):PT X e t':=λY s σ H Q I q=>h Y s σ H Q I (i σ H Q q)
theorem PW.imp{t:TT}(h:PW X e t)(i:∀σ H Q,t' σ H Q->t σ H Q):PW X e t':=λw Y s σ H Q I q=>h w Y s σ H Q I (i σ H Q q)
theorem PA.imp{e:C1}{t t':TA}(h:PA X e t)(i:∀σ H Q,t' σ H Q->t σ H Q):PA X e t':=λZ Y s σ H Q I q=>h Z Y s σ H Q I (i σ H Q q)
theorem PS.imp{e:Stmt}{t t':TS}(h:PS X e t)(i:∀D σ H,t' D σ H->t D σ H):PS X e t':=λY s σ H D I q=>h Y s σ H D I (i D σ H q)
theorem PSs.imp{e:C4}{t t':TS}(h:PSs X e t)(i:∀D σ H,t' D σ H->t D σ H):PSs X e t':=λY s σ H D I q=>h Y s σ H D I (i D σ H q)
theorem PI.imp{t t':TI}(h:PI X tg e t)(i:∀σ H R,t' σ H R->t σ H R):PI X tg e t':=λY s σ H R I q=>h Y s σ H R I (i σ H R q)
section
variable (X:Cx)
structure QE (e:Expr) (t:TE):Prop where
 h:PE X e t
structure QT (e:Expr) (t:TT):Prop where
 h:PT X e t
structure QW (e:Expr) (t:TT):Prop where
 h:PW X e t
structure QA (e:C1) (t:TA):Prop where
 h:PA X e t
structure QS (e:Stmt) (t:TS):Prop where
 h:PS X e t
structure QSs (e:C4) (t:TS):Prop where
 h:PSs X e t
structure QI (tg e:Expr) (t:TI):Prop where
 h:PI X tg e t
structure QG (tg:Expr) (t:TG):Prop where
 h:PG X tg t
structure QGs (tg:C1) (t:TGs):Prop where
 h:PGs X tg t
structure xU (e:C1) (t:TT):Prop where
 h:su X e t
end
theorem QE.imp{t t':TE}(h:PE X e t)(i:∀σ H Q,t' σ H Q->t σ H Q):QE X e t':=⟨PE.imp h i⟩
theorem QT.imp{t:TT}(h:PT X e t)(i:∀σ H Q,t' σ H Q->t σ H Q):QT X e t':=⟨PT.imp h i⟩
theorem QW.imp{t:TT}(h:PW X e t)(i:∀σ H Q,t' σ H Q->t σ H Q):QW X e t':=⟨PW.imp h i⟩
theorem QA.imp{e:C1}{t t':TA}(h:PA X e t)(i:∀σ H Q,t' σ H Q->t σ H Q):QA X e t':=⟨PA.imp h i⟩
theorem QS.imp{e:Stmt}{t t':TS}(h:PS X e t)(i:∀D σ H,t' D σ H->t D σ H):QS X e t':=⟨PS.imp h i⟩
theorem QSs.imp{e:C4}{t t':TS}(h:PSs X e t)(i:∀D σ H,t' D σ H->t D σ H):QSs X e t':=⟨PSs.imp h i⟩
theorem QI.imp{t t':TI}(h:PI X tg e t)(i:∀σ H R,t' σ H R->t σ H R):QI X tg e t':=⟨PI.imp h i⟩
variable {K:aE}{O:B9}{m m1 m2:ME}{a b c:Expr}{pos:Pos}{A H A' H':Hp}{v:V}{i:Nat}{Γ:Ev}{σ:St}{x:Str}{op:CmpOp}{rest:C1}{ds:B4}{vs:C0}
theorem sp(h:QE X e (tE K O m)):QE X e (tP K O m):=QE.imp h.h λl H Q Y=>by obtain ⟨A,B,Z,d,r,em,k⟩:=Y;exact ⟨A,B,Z,d,r,em,λv j i g p=>k v j i g (.inl p)⟩
theorem uR.share{d:ab}(g:aZ A H A' H')(h:uR K H A' H' d v):∃Y,aZ A H Y H'/\Rp K Y d v:=by
 obtain ⟨p,o,rfl,j,l,e,i⟩:=h;have s:aD A' (zw A' p o):=aD.new e _;refine ⟨zw A' p o,⟨g.aa.trans s,g.hh,λb u q=>?_,λb n1 n2=>?_⟩,i.share s⟩
 . by_cases Z:b=p
   . subst Z;rw[bc] at q;rw[l];exact q
   . rw[aH Z] at q;exact g.ah b u q
 . have Z:b≠p:=λz=>n2 (z ▸ j);rw[aH Z];exact g.nw b n1 n2
theorem sfe(h:QE X e (tF K O m)):QE X e (tE K O m):=QE.imp h.h λq H Q ⟨A,B,j,d,r,em,k⟩=>⟨A,B,j,d,r,em,λv o i g p=>by
 obtain ⟨Y,l,Z⟩:=p.share g;exact k v Y i l Z⟩
theorem sfp(h:QE X e (tF K O m)):QE X e (tP K O m):=sp (sfe h)
noncomputable def aj(i:Nat):ME:=λΓ=>match gv Γ i with
 | some d=>.ok d
 | none=>.bad
noncomputable def eC(d:ab):ME:=λ_=>.ok d
theorem rE{d:ab}(h:aj i Γ = .ok d):gv Γ i=some d:=by
 unfold aj at h
 cases q:gv Γ i with
 | none=>rw[q] at h;cases h
 | some Y=>rw[q] at h;cases h;rfl
theorem dU(h:sv σ i=some v):σ[i]?=some (some v):=by
 unfold sv at h;rw[ae] at h
 cases q:σ[i]? with
 | none=>rw[q] at h;cases h
 | some o=>rw[q] at h;exact congrArg some h
theorem az(i:Nat)(Z:Nm X i x:=by walk_at "nm")(e:isX (fl O i)=false:=by rfl):QE X (.Name x pos) (tP K O (aj i)):=QE.imp (dO Z.1 Z.2 Z.3 Z.4) λo H Q Y=>by
 obtain ⟨A,B,l,d,r,em,k⟩:=Y;obtain ⟨v,j,q⟩:=r.slot i d (rE em);exact ⟨v,dU j,k v A H (aZ.refl r.a) (q.pk r.b e)⟩
theorem aO(i:Nat)(e:fl O i= .zD:=by rfl)(Z:Nm X i x:=by walk_at "nm"):QE X (.Name x pos) (tE K O (aj i)):=QE.imp (dO Z.1 Z.2 Z.3 Z.4) λo H Q Y=>by
 obtain ⟨A,B,l,d,r,em,k⟩:=Y;obtain ⟨v,j,q⟩:=r.slot i d (rE em);rw[e] at q;exact ⟨v,dU j,k v A H (aZ.refl r.a) q⟩
theorem JT{d:ab}(h:PE X e (tC v))(Z:∀A,Rp K A d v):QE X e (tE K O (eC d)):=QE.imp h λl H Q Y=>by
 obtain ⟨A,B,j,i,r,em,k⟩:=Y;cases em;exact k v A H (aZ.refl r.a) (Z A)
theorem fJ{i:Int}{j pos}:QE X (.Constant (.int i) j pos) (tE K O (eC (.int i))):=JT Ir λ_=>Rp.int.mpr rfl
theorem nR{i:Bool}{j pos}:QE X (.Constant (.bool i) j pos) (tE K O (eC (.bool i))):=JT aek λ_=>Rp.bool.mpr rfl
theorem kZ{j pos}:QE X (.Constant .none j pos) (tE K O (eC .none)):=JT acF λ_=>Rp.none.mpr rfl
theorem uW{j pos}:QE X (.Constant (.str x) j pos) (tE K O (eC (.str x))):=JT acd λ_=>Rp.str.mpr rfl
theorem zK{u:bg}{d:ab}(Y:Gl X x)(e:X.mg x=some u)(r:zo v u)(Z:∀A,Rp K A d v)(hd:nD x:=by decide):QE X (.Name x pos) (tE K O (eC d)):=
 JT (Nb Y e r hd) Z
noncomputable def ao(f:C7)(a b:ME):ME:=λΓ=>(a Γ).bind λx=>(b Γ).bind λy=>f x y
def rD(K:aE)(f:C7):R2:=λx y H Q=>∃A d1 d2 d,f d1 d2= .ok d/\aD A H/\Pk K A H d1 x/\Pk K A H d2 y/\∀v A' H',aZ A H A' H'->Rp K A' d v->Q v H'
def rDF(K:aE)(f:C7):R2:=λx y H Q=>∃A d1 d2 d,f d1 d2= .ok d/\aD A H/\Pk K A H d1 x/\Pk K A H d2 y/\∀v A' H',aZ A H A' H'->uR K H A' H' d v->Q v H'
theorem yD{f:C7}{Q:VK}(h:tE K O (ao f m1 m2) σ H Q):tOp (rD K f) (tP K O m1) (tP K O m2) σ H Q:=by
 obtain ⟨A,B,i,d,r,em,k⟩:=h;obtain ⟨e,D,em⟩:=zi.aq em;obtain ⟨j,p,em⟩:=zi.aq em;refine ⟨A,B,i,e,r,D,λx l I Z u=>⟨l,B,i,j,r.grow Z,p,λy C J Y o=>⟨C,e,j,d,em,Y.ah,u.mono Y.aa Y.hh,o,λv s q z E=>k v s q ((Z.trans Y).trans z) E⟩⟩⟩
theorem abj{f:C7}{Q:VK}(h:tF K O (ao f m1 m2) σ H Q):tOp (rDF K f) (tP K O m1) (tP K O m2) σ H Q:=by
 obtain ⟨A,B,j,d,r,em,k⟩:=h;obtain ⟨i,L,em⟩:=zi.aq em;obtain ⟨l,u,em⟩:=zi.aq em;refine ⟨A,B,j,i,r,L,λx q R Z E=>⟨q,B,j,l,r.grow Z,u,λy J S Y s=>⟨J,i,l,d,em,Y.ah,E.mono Y.aa Y.hh,s,λv C z I M=>k v C z ((Z.trans Y).trans I) ?_⟩⟩⟩;obtain ⟨p,o,e,D,P⟩:=M;exact ⟨p,o,e,(Z.trans Y).hh.free D,P⟩
theorem adA{f:C7}{Q:Bool->Hp->Prop}(h:tT K O (ao f m1 m2) σ H Q):Yr (tOp (rD K f) (tP K O m1) (tP K O m2)) σ H Q:=by
 obtain ⟨A,B,Z,Y,r,em,k⟩:=h;exact yD ⟨A,B,Z,_,r,em,λv i e g p=>⟨Y,Rp.bool.mp p,k i e g⟩⟩
theorem aR{Y:Operator}{f:C7}(Z:OpR X (fS Y) (rD K f))(i:QE X a (tP K O m1))(e:QE X b (tP K O m2)):QE X (.BinOp a Y b pos) (tE K O (ao f m1 m2)):=QE.imp (Q0 Z i.h e.h) λ_ _ _=>yD
theorem acs{Y:Operator}{f:C7}(Z:OpR X (fS Y) (rDF K f))(i:QE X a (tP K O m1))(e:QE X b (tP K O m2)):QE X (.BinOp a Y b pos) (tF K O (ao f m1 m2)):=QE.imp (Q0 Z i.h e.h) λ_ _ _=>abj
theorem uJ{f:C7}(Y:OpR X (fR op) (rD K f))(i:QE X a (tP K O m1))(Z:QE X b (tP K O m2))(e:oe op b=false):QE X (.Compare a [op] [b] pos) (tE K O (ao f m1 m2)):=QE.imp (aaN Y i.h Z.h e) λ_ _ _=>yD
theorem n6{f:C7}(Y:OpR X (fR op) (rD K f))(i:QE X a (tP K O m1))(Z:QE X b (tP K O m2))(e:oe op b=false):QT X (.Compare a [op] [b] pos) (tT K O (ao f m1 m2)):=QT.imp (Oa Y i.h Z.h e) λ_ _ _=>adA
noncomputable def Bh(a b:ME):ME:=λΓ=>(a Γ).bind λx=>match x with
 | .bool true=>b Γ
 | .bool false=>.ok (.bool false)
 | _=>.bad
noncomputable def eOr(a b:ME):ME:=λΓ=>(a Γ).bind λx=>match x with
 | .bool false=>b Γ
 | .bool true=>.ok (.bool true)
 | _=>.bad
noncomputable def IK(a:ME):ME:=λΓ=>(a Γ).bind λx=>match x with
 | .bool t=>.ok (.bool (!t))
 | _=>.bad
noncomputable def eIf(c a b:ME):ME:=λΓ=>(c Γ).bind λx=>match x with
 | .bool true=>a Γ
 | .bool false=>b Γ
 | _=>.bad
theorem TQ{op}(h:QE X a (tE K O m)):QE X (.BoolOp op [a] pos) (tE K O m):=⟨abr h.h⟩
theorem adz(u:QE X a (tE K O m1))(C:QE X (.BoolOp .And (b::rest) pos) (tE K O m2)):QE X (.BoolOp .And (a::b::rest) pos) (tE K O (Bh m1 m2)):=QE.imp (acN u.h C.h) λE H Q Y=>by
 obtain ⟨A,B,l,d,r,em,k⟩:=Y;obtain ⟨j,D,em⟩:=zi.aq em;refine ⟨A,B,l,j,r,D,λv e o Z z=>?_⟩
 cases j with
 | bool i=>
  refine ⟨i,Rp.bool.mp z,?_⟩
  cases i with
  | true=>exact yw ⟨e,B,l,d,r.grow Z,em,λv s q g p=>k v s q (Z.trans g) p⟩
  | false=>cases em;exact yM (k _ e o Z (Rp.bool.mpr rfl))
 | _=>cases em
theorem aep(u:QE X a (tE K O m1))(C:QE X (.BoolOp .Or (b::rest) pos) (tE K O m2)):QE X (.BoolOp .Or (a::b::rest) pos) (tE K O (eOr m1 m2)):=QE.imp (ad5 u.h C.h) λE H Q Y=>by
 obtain ⟨A,B,l,d,r,em,k⟩:=Y;obtain ⟨j,D,em⟩:=zi.aq em;refine ⟨A,B,l,j,r,D,λv e o Z z=>?_⟩
 cases j with
 | bool i=>
  refine ⟨i,Rp.bool.mp z,?_⟩
  cases i with
  | false=>exact yM ⟨e,B,l,d,r.grow Z,em,λv s q g p=>k v s q (Z.trans g) p⟩
  | true=>cases em;exact yw (k _ e o Z (Rp.bool.mpr rfl))
 | _=>cases em
theorem abN(o:QE X a (tE K O m1)):QE X (.UnaryOp .Not a pos) (tE K O (IK m1)):=QE.imp (ade o.h) λu H Q Y=>by
 obtain ⟨A,B,q,d,r,em,k⟩:=Y;obtain ⟨Z,s,em⟩:=zi.aq em;refine ⟨A,B,q,Z,r,s,λv e j l p=>?_⟩
 cases Z with
 | bool i=>cases em;exact ⟨i,Rp.bool.mp p,k _ e j l (Rp.bool.mpr rfl)⟩
 | _=>cases em
theorem Ek(Y:QT X a (tT K O m)):QW X (.BoolOp .And [a] pos) (tT K O m):=⟨aas Y.h⟩
theorem Kd(Y:QT X a (tT K O m)):QW X (.BoolOp .Or [a] pos) (tT K O m):=⟨abd Y.h⟩
theorem Kw(q:QT X a (tT K O m1))(u:QW X (.BoolOp .And (b::rest) pos) (tT K O m2)):QW X (.BoolOp .And (a::b::rest) pos) (tT K O (Bh m1 m2)):=QW.imp (abq q.h u.h) λz H Q Y=>by
 obtain ⟨A,B,j,d,r,em,k⟩:=Y;obtain ⟨s,v,em⟩:=zi.aq em
 cases s with
 | bool i=>
  refine ⟨A,B,j,i,r,v,λe l Z=>?_⟩
  cases i with
  | true=>exact yw ⟨e,B,j,d,r.grow Z,em,λp o g=>k p o (Z.trans g)⟩
  | false=>cases em;exact yM (k e l Z)
 | _=>cases em
theorem PL(q:QT X a (tT K O m1))(u:QW X (.BoolOp .Or (b::rest) pos) (tT K O m2)):QW X (.BoolOp .Or (a::b::rest) pos) (tT K O (eOr m1 m2)):=QW.imp (aej q.h u.h) λz H Q Y=>by
 obtain ⟨A,B,j,d,r,em,k⟩:=Y;obtain ⟨s,v,em⟩:=zi.aq em
 cases s with
 | bool i=>
  refine ⟨A,B,j,i,r,v,λe l Z=>?_⟩
  cases i with
  | false=>exact yM ⟨e,B,j,d,r.grow Z,em,λp o g=>k p o (Z.trans g)⟩
  | true=>cases em;exact yw (k e l Z)
 | _=>cases em
theorem zp(h:QW X e (tT K O m)):QT X e (tT K O m):=⟨h.h.pt⟩
theorem adm(p:QT X a (tT K O m1)):QT X (.UnaryOp .Not a pos) (tT K O (IK m1)):=QT.imp (aba p.h) λs H Q Y=>by
 obtain ⟨A,B,j,d,r,em,k⟩:=Y;obtain ⟨Z,q,em⟩:=zi.aq em
 cases Z with
 | bool i=>cases em;exact ⟨A,B,j,i,r,q,λe l o=>k e l o⟩
 | _=>cases em
theorem Qf(q:QT X c (tT K O m))(s:QE X a (tE K O m1))(z:QE X b (tE K O m2)):QE X (.IfExp c a b pos) (tE K O (eIf m m1 m2)):=QE.imp (Va q.h s.h z.h) λE H Q Y=>by
 obtain ⟨A,B,j,d,r,em,k⟩:=Y;obtain ⟨u,C,em⟩:=zi.aq em
 cases u with
 | bool o=>
  refine ⟨A,B,j,o,r,C,λl D Z=>?_⟩
  cases o with
  | true=>exact yw ⟨l,B,j,d,r.grow Z,em,λv i e g p=>k v i e (Z.trans g) p⟩
  | false=>exact yM ⟨l,B,j,d,r.grow Z,em,λv i e g p=>k v i e (Z.trans g) p⟩
 | _=>cases em
noncomputable def EY:ab->zi ab
 | .none=>.ok (.bool false)
 | .bool b=>.ok (.bool b)
 | .int i=>.ok (.bool (i != 0))
 | .list ds=>.ok (.bool (!ds.isEmpty))
 | .tuple ds=>.ok (.bool (!ds.isEmpty))
 | .str x=>gd (x.length<=bt) (.ok (.bool ((x.length:Int) != 0)))
 | _=>.bad
noncomputable def eUn(f:C8)(a:ME):ME:=λΓ=>(a Γ).bind f
theorem au.isEmpty(h:au K A ds vs):vs.isEmpty=ds.isEmpty:=by
 cases ds with
 | nil=>rw[au.nil] at h;subst h;rfl
 | cons d ds=>rw[au.cons] at h;obtain ⟨v,r,rfl,_⟩:=h;rfl
theorem Dn(h:QE X a (tP X.K O m))(E:∀whole,isTrue a X.env whole=(do let v <- whole;standAt a.pos;holding [v] (truthy v)):=by intro _;rfl):QT X a (tT X.K O (eUn EY m)):=QT.imp (WL h.h E) λL H Q Z=>by
 obtain ⟨A,B,I,u,r,em,k⟩:=Z;obtain ⟨q,J,em⟩:=zi.aq em;refine ⟨A,B,I,q,r,J,λv s C j Y=>⟨u,?_,k s C j⟩⟩
 cases q with
 | none=>cases em;rw[Y.none];rfl
 | bool b=>cases em;rw[Y.bool];rfl
 | int i=>cases em;rw[Y.int];rfl
 | str x=>
  obtain ⟨D,em⟩:=bO em;cases em;rw[Y.str];exact ⟨D,rfl⟩
 | list z=>
  cases em;obtain ⟨p,e,rfl,l,o⟩:=Y.list j.ah;exact .inl ⟨e,l,by rw[o.isEmpty]⟩
 | tuple z=>
  cases em;obtain ⟨p,e,rfl,l,o⟩:=Y.tuple j.ah;exact .inr (.inl ⟨e,l,by rw[o.isEmpty]⟩)
 | dict _=>cases em
noncomputable def qw(g:Int->Int->zi ab):ab->ab->zi ab
 | .int a,.int b=>g a b
 | _,_=>.bad
theorem jm{g:Int->Int->zi ab}{a b d:ab}(e:qw g a b= .ok d):∃i j,a= .int i/\b= .int j/\g i j= .ok d:=by
 cases a with
 | int i=>
  cases b with
  | int j=>exact ⟨i,j,rfl,rfl,e⟩
  | _=>cases e
 | _=>cases e
noncomputable def c7:ab->ab->zi ab
 | .int a,.int b=>.ok (.int (a+b))
 | .str a,.str b=>gd (a.length+b.length<=bt) (.ok (.str (a++b)))
 | .list a,.list b=>gd (a.length+b.length<=bt) (.ok (.list (a++b)))
 | .tuple a,.tuple b=>gd (a.length+b.length<=bt) (.ok (.tuple (a++b)))
 | .int a,.bool b=>.ok (.int (a+b2i b))
 | _,_=>.bad
noncomputable def jl:ab->ab->zi ab:=qw λa b=>.ok (.int (a - b))
instance (i j:Int):Decidable (wF i j):=by unfold wF;infer_instance
instance (i j:Int):Decidable (Ey i j):=by unfold Ey;infer_instance
instance (i j:Int):Decidable (Ba i j):=by unfold Ba;infer_instance
noncomputable def xj:ab->ab->zi ab:=qw λa b=>gd (wF a b) (.ok (.int (a*b)))
noncomputable def t6:ab->ab->zi ab:=qw λa b=>gd (Ey a b) (.ok (.int (a / b)))
noncomputable def mJ:ab->ab->zi ab:=qw λa b=>gd (0<b) (.ok (.int (a % b)))
noncomputable def WR:ab->ab->zi ab:=qw λa b=>gd (Ba a b) (.ok (.int (a*2^b.toNat)))
noncomputable def Jm:ab->ab->zi ab:=qw λa b=>gd (0<=b) (.ok (.int (a / 2^b.toNat)))
noncomputable def wJ:ab->ab->zi ab:=qw λa b=>.ok (.int (fE a b))
noncomputable def orD:ab->ab->zi ab:=qw λa b=>.ok (.int (i7 a b))
noncomputable def W5:ab->ab->zi ab:=qw λa b=>.ok (.int (kT a b))
noncomputable def JZ:ab->zi ab
 | .int a=>.ok (.int (-a))
 | _=>.bad
noncomputable def ltD:ab->ab->zi ab:=qw λa b=>.ok (.bool (decide (a<b)))
noncomputable def gtD:ab->ab->zi ab:=qw λa b=>.ok (.bool (decide (b<a)))
noncomputable def eqD(a b:ab):zi ab:=gd (d5 a=true/\d5 b=true) (.ok (.bool (fT a b)))
noncomputable def neD(a b:ab):zi ab:=gd (d5 a=true/\d5 b=true) (.ok (.bool (!fT a b)))
noncomputable def X3:ab->Bool
 | .none=>true
 | _=>false
noncomputable def uo:ab->ab->zi ab
 | a,.none=>.ok (.bool (X3 a))
 | _,_=>.bad
noncomputable def Dl:ab->ab->zi ab
 | a,.none=>.ok (.bool (!X3 a))
 | _,_=>.bad
noncomputable def zI:ab->ab->zi ab
 | .list ds,.int i=>match atI ds i with | some d=>.ok d | none=>.bad
 | .tuple ds,.int i=>match atI ds i with | some d=>.ok d | none=>.bad
 | _,_=>.bad
variable {g:bg->bg->Sem bg}
theorem xn{f:C7}{C:Int->Int->Prop}{h:Int->Int->Int}(B:OpR X g (rI C λi j=>.int (h i j)))
 (q:∀a b d,f a b= .ok d->∃i j,a= .int i/\b= .int j/\C i j/\d= .int (h i j)):OpR X g (rD X.K f):=by
 rintro Y s D H x y v u Q I l p ⟨A,E,J,d,e,r,z,Z,k⟩;obtain ⟨i,j,rfl,rfl,o,rfl⟩:=q _ _ _ e;exact B Y s D H x y v u Q I l p ⟨i,j,z.int,Z.int,o,k _ A H (aZ.refl r) (Rp.int.mpr rfl)⟩
theorem yX{f:C7}{h:Int->Int->Int}(z:OpR X g (rI0 λi j=>.int (h i j)))
 (p:∀a b d,f a b= .ok d->∃i j,a= .int i/\b= .int j/\d= .int (h i j)):OpR X g (rD X.K f):=by
 rintro Y s B H x y v u Q I l o ⟨A,C,D,d,e,q,r,Z,k⟩;obtain ⟨i,j,rfl,rfl,rfl⟩:=p _ _ _ e;exact z Y s B H x y v u Q I l o ⟨i,j,r.int,Z.int,k _ A H (aZ.refl q) (Rp.int.mpr rfl)⟩
theorem SN{f:C7}{h:Int->Int->Bool}(z:OpR X g (rI0 λi j=>.bl (h i j)))
 (p:∀a b d,f a b= .ok d->∃i j,a= .int i/\b= .int j/\d= .bool (h i j)):OpR X g (rD X.K f):=by
 rintro Y s B H x y v u Q I l o ⟨A,C,D,d,e,q,r,Z,k⟩;obtain ⟨i,j,rfl,rfl,rfl⟩:=p _ _ _ e;exact z Y s B H x y v u Q I l o ⟨i,j,r.int,Z.int,k _ A H (aZ.refl q) (Rp.bool.mpr rfl)⟩
theorem jy:OpR X (fS .Sub) (rD X.K jl):=yX adp λa b d e=>by
 obtain ⟨i,j,rfl,rfl,e⟩:=jm e;cases e;exact ⟨_,_,rfl,rfl,rfl⟩
theorem qZ:OpR X (fS .FloorDiv) (rD X.K t6):=xn ZF λa b d e=>by
 obtain ⟨i,j,rfl,rfl,e⟩:=jm e;obtain ⟨Y,e⟩:=bO e;cases e;exact ⟨_,_,rfl,rfl,Y,rfl⟩
theorem jt:OpR X (fS .Mod) (rD X.K mJ):=xn ac1 λa b d e=>by
 obtain ⟨i,j,rfl,rfl,e⟩:=jm e;obtain ⟨Y,e⟩:=bO e;cases e;exact ⟨_,_,rfl,rfl,Y,rfl⟩
theorem acr:OpR X (fS .LShift) (rD X.K WR):=xn adn λa b d e=>by
 obtain ⟨i,j,rfl,rfl,e⟩:=jm e;obtain ⟨Y,e⟩:=bO e;cases e;exact ⟨_,_,rfl,rfl,Y,rfl⟩
theorem HX:OpR X (fS .RShift) (rD X.K Jm):=xn adu λa b d e=>by
 obtain ⟨i,j,rfl,rfl,e⟩:=jm e;obtain ⟨Y,e⟩:=bO e;cases e;exact ⟨_,_,rfl,rfl,Y,rfl⟩
theorem rZ:OpR X (fS .BitAnd) (rD X.K wJ):=yX ab4 λa b d e=>by
 obtain ⟨i,j,rfl,rfl,e⟩:=jm e;cases e;exact ⟨_,_,rfl,rfl,rfl⟩
theorem Yg:OpR X (fS .BitOr) (rD X.K orD):=yX adS λa b d e=>by
 obtain ⟨i,j,rfl,rfl,e⟩:=jm e;cases e;exact ⟨_,_,rfl,rfl,rfl⟩
theorem ac7:OpR X (fS .BitXor) (rD X.K W5):=yX abT λa b d e=>by
 obtain ⟨i,j,rfl,rfl,e⟩:=jm e;cases e;exact ⟨_,_,rfl,rfl,rfl⟩
theorem Hu:OpR X (fR .Lt) (rD X.K ltD):=SN adH λa b d e=>by
 obtain ⟨i,j,rfl,rfl,e⟩:=jm e;cases e;exact ⟨_,_,rfl,rfl,rfl⟩
theorem zu:OpR X (fR .Gt) (rD X.K gtD):=SN aei λa b d e=>by
 obtain ⟨i,j,rfl,rfl,e⟩:=jm e;cases e;exact ⟨_,_,rfl,rfl,rfl⟩
theorem iG(p:X.A.units+64<kb):OpR X (fR .Eq) (rD X.K eqD):=by
 rintro Y s B H x y v u Q I o q ⟨A,z,C,d,e,Z,r,l,k⟩;obtain ⟨⟨i,j⟩,e⟩:=bO e;cases e;exact acz p Y s B H x y v u Q I o q ⟨z,C,r.is Z i,l.is Z j,i,j,k _ A H (aZ.refl Z) (Rp.bool.mpr rfl)⟩
theorem Ds(p:X.A.units+64<kb):OpR X (fR .NotEq) (rD X.K neD):=by
 rintro Y s B H x y v u Q I o q ⟨A,z,C,d,e,Z,r,l,k⟩;obtain ⟨⟨i,j⟩,e⟩:=bO e;cases e;exact abU p Y s B H x y v u Q I o q ⟨z,C,r.is Z i,l.is Z j,i,j,k _ A H (aZ.refl Z) (Rp.bool.mpr rfl)⟩
theorem Pk.isNone{d:ab}(Y:aD A H)(p:Pk K A H d v):decide (v=V.non)=X3 d:=by
 cases d with
 | none=>rw[p.none];rfl
 | bool b=>rw[p.bool];rfl
 | int b=>rw[p.int];rfl
 | str b=>rw[p.str];rfl
 | list b=>obtain ⟨q,Z,rfl,_⟩:=p.list Y;rfl
 | tuple b=>obtain ⟨q,Z,rfl,_⟩:=p.tuple Y;rfl
 | dict b=>obtain ⟨q,u,rfl,_⟩:=p.dict Y;rfl
noncomputable def Ff:ab->ab->zi ab
 | .bool a,.bool b=>.ok (.bool (a == b))
 | _,_=>.bad
noncomputable def zr:ab->ab->zi ab
 | .bool a,.bool b=>.ok (.bool (!(a == b)))
 | _,_=>.bad
theorem R7:OpR X (fR .Is) (rD X.K Ff):=by
 rintro Z s r H x y v u Q I Y i ⟨A,p,q,d,e,l,o,j,k⟩
 cases p with
 | bool a=>
  cases q with
  | bool b=>
   cases e;rw[o.bool] at Y;rw[j.bool] at i;cases Y;cases i;refine wpAny_is_plain rfl ⟨.bl (a == b),H,I,?_,k _ A H (aZ.refl l) (Rp.bool.mpr rfl)⟩;cases a <;> cases b <;> rfl
  | _=>cases e
 | _=>cases e
theorem Oj:OpR X (fR .IsNot) (rD X.K zr):=by
 rintro Z s r H x y v u Q I Y i ⟨A,p,q,d,e,l,o,j,k⟩
 cases p with
 | bool a=>
  cases q with
  | bool b=>
   cases e;rw[o.bool] at Y;rw[j.bool] at i;cases Y;cases i;refine wpAny_isNot_plain rfl ⟨.bl (!(a == b)),H,I,?_,k _ A H (aZ.refl l) (Rp.bool.mpr rfl)⟩;cases a <;> cases b <;> rfl
  | _=>cases e
 | _=>cases e
theorem Dq:OpR X (fR .Is) (rD X.K uo):=by
 rintro Y s p H x y v u Q I j l ⟨A,z,q,d,e,Z,o,i,k⟩
 cases q with
 | none=>
  have r:=zi.ok.inj e;subst r;exact adx Y s p H x y v u Q I j l ⟨i.none,by rw[o.isNone Z];exact k _ A H (aZ.refl Z) (Rp.bool.mpr rfl)⟩
 | _=>cases e
theorem Oi:OpR X (fR .IsNot) (rD X.K Dl):=by
 rintro Y s p H x y v u Q I j l ⟨A,z,q,d,e,Z,o,i,k⟩
 cases q with
 | none=>
  have r:=zi.ok.inj e;subst r;refine aan Y s p H x y v u Q I j l ⟨i.none,?_⟩;rw[o.isNone Z];exact k _ A H (aZ.refl Z) (Rp.bool.mpr rfl)
 | _=>cases e
def ad0(K:aE):R2:=λx y H Q=>∃l b xs zs,x= .ref l/\y= .ref b/\SqL K H l xs/\SqL K H b zs/\xs.length+zs.length<=bt/\∀p,H p=none->Q (.ref p) (zw H p (.lst (xs++zs)))
theorem Ms:OpR X (fS .Add) (ad0 X.K):=by
 rintro E s σ H x y v u Q I R O ⟨l,b,xs,zs,rfl,rfl,S,hB,hz,q⟩;cases R;cases O;obtain ⟨Z,r,pl,_⟩:=I.list S;obtain ⟨Y,D,z,_⟩:=I.list hB;have hl:=r.length;have P:=D.length;obtain ⟨⟨cls,U,C,M⟩,L,B,n,hd⟩:=pl.isList;obtain ⟨⟨J,o,data2,p⟩,e,j,n2,i⟩:=z.isList;simp only at B hd j i;subst B hd j i;have ea:Z.toArray++Y.toArray=(Z++Y).toArray:=by simp
 refine xC ⟨_,L,rfl⟩ ⟨_,e,rfl⟩ noFill_list_add seq_list_add PySem.F.slot_list_add PySem.F.entry_list_add (PySem.F.args_list_add_2 _ _) (list_addW l b Z.toArray Y.toArray n n2 U o M p (by simp only[dA];lia)) ⟨L,e,?_⟩;rw[ea];exact ⟨.ref _,_,I.acB (r.append D) (by rw[ai];lia),rfl,q _ I.fresh⟩
theorem XH:OpR X (fS .Add) (λx y H Q=>∃a b ys,x= .ref a/\y= .ref b/\SqT X.K H a []/\SqT X.K H b ys/\Q (.ref b) H):=by
 rintro r s U H x y v u Q I O E ⟨a,b,ys,rfl,rfl,P,J,q⟩;cases O;cases E;obtain ⟨C,L,R,_⟩:=I.tuple P;obtain ⟨i,r2,M,_⟩:=I.tuple J;cases L;obtain ⟨⟨cls,S,p,D⟩,B,o,n,hd⟩:=id R;obtain ⟨⟨z,j,data2,l⟩,Y,e,n2,Z⟩:=id M;simp only at o hd e Z;subst o hd e Z;exact xC ⟨_,B,rfl⟩ ⟨_,Y,rfl⟩ xb seq_tuple_add qf p4 (pb _ _)
  (tuple_addW0 a b _ i.toArray n n2 S j D l rfl) ⟨B,Y,⟨.ref b,H,I,rfl,q⟩⟩
theorem cT:OpR X (fS .Add) (rD X.K c7):=by
 rintro Y s r H x y v u Q I C q ⟨A,d1,d2,d,e,Z,D,B,k⟩
 cases d1 with
 | int i=>
  cases d2 with
  | int j=>cases e;exact acU Y s r H x y v u Q I C q ⟨i,j,D.int,B.int,k _ A H (aZ.refl Z) (Rp.int.mpr rfl)⟩
  | bool j=>cases e;exact Tj Y s r H x y v u Q I C q ⟨i,j,D.int,B.bool,k _ A H (aZ.refl Z) (Rp.int.mpr rfl)⟩
  | _=>cases e
 | str i=>
  cases d2 with
  | str j=>
   obtain ⟨L,e⟩:=bO e;cases e;exact Ox Y s r H x y v u Q I C q ⟨i,j,D.str,B.str,L,k _ A H (aZ.refl Z) (Rp.str.mpr rfl)⟩
  | _=>cases e
 | list i=>
  cases d2 with
  | list j=>
   obtain ⟨L,e⟩:=bO e;cases e;obtain ⟨S,M,O,U,l⟩:=D.list Z;obtain ⟨l2,E,R,h2,J⟩:=B.list Z;refine Ms Y s r H x y v u Q I C q ⟨S,l2,M,E,O,R,U,h2,by rw[<- l.length,<- J.length];exact L,λp hp=>?_⟩;have g:=aZ.new (o:=.lst (M++E)) Z hp;exact k _ _ _ g (Rp.list.mpr ⟨p,_,rfl,SqL.of bc,(au.mono g.aa _ l).append (au.mono g.aa _ J)⟩)
  | _=>cases e
 | tuple i=>
  cases d2 with
  | tuple j=>
   obtain ⟨L,e⟩:=bO e;cases e;obtain ⟨S,M,O,U,l⟩:=D.tuple Z;obtain ⟨l2,E,R,h2,J⟩:=B.tuple Z
   by_cases P:i=[]
   . subst P;have ex:=nK l.length.symm;subst ex;refine XH Y s r H x y v u Q I C q ⟨S,l2,E,O,R,U,h2,?_⟩;rw[eL] at k;refine k _ A H (aZ.refl Z) ?_;have:=B.nZ (λ_ z=>nomatch z) (λ_ z=>nomatch z);rwa [R] at this
   refine aa1 Y s r H x y v u Q I C q ⟨S,l2,M,E,O,R,U,h2,λz=>?_,by rw[<- l.length,<- J.length];exact L,λz=>?_,λz p hp=>?_⟩
   . subst z;have:=l.length;exact P (nK this)
   . subst z;have e0:=nK J.length;subst e0;rw[c8] at k;refine k _ A H (aZ.refl Z) ?_;have:=D.nZ (λ_ z=>nomatch z) (λ_ z=>nomatch z);rwa [O] at this
   . have g:=aZ.new (o:=.tup (M++E)) Z hp;exact k _ _ _ g (Rp.tuple.mpr ⟨p,_,rfl,SqT.of bc,(au.mono g.aa _ l).append (au.mono g.aa _ J)⟩)
  | _=>cases e
 | _=>cases e
noncomputable def Qn:ab->ab->zi ab
 | .list a,.list b=>gd (a.length+b.length<=bt) (.ok (.list (a++b)))
 | _,_=>.bad
theorem abk:OpR X (fS .Add) (rDF X.K Qn):=by
 rintro Y s R H x y v u Q I z E ⟨A,M,S,d,e,Z,L,r,k⟩
 cases M with
 | list i=>
  cases S with
  | list j=>
   obtain ⟨D,e⟩:=bO e;cases e;obtain ⟨B,O,e1,J,o⟩:=L.list Z;obtain ⟨l2,P,C,U,q⟩:=r.list Z;refine Ms Y s R H x y v u Q I z E ⟨B,l2,O,P,e1,C,J,U,by rw[<- o.length,<- q.length];exact D,λp l=>?_⟩;exact k _ _ _ (aZ.lay Z l) ⟨p,_,rfl,l,bc,Z.free l,.inl ⟨_,_,rfl,rfl,o.append q⟩⟩
  | _=>cases e
 | _=>cases e
def aen:R2:=λx y H Q=>∃l k xs,x= .ref l/\y= .int k/\Rd H l (.lst xs) /\ -(2^63)<=k/\k<2^63/\xs.length*k.toNat<=bt /\
 ∀p,H p=none->Q (.ref p) (zw H p (.lst (aI k.toNat xs).flatten))
theorem aak:OpR X (fS .Mult) aen:=by
 rintro B s σ H x y v u Q I L D ⟨l,k,xs,rfl,rfl,U,O,J,C,q⟩;cases L;obtain ⟨t,rfl⟩:=D;obtain ⟨z,Y,n,r,e⟩:=U.ok I.zS;have S:=r.length;have p:Y.toArray.size*k.toNat<=bt:=by rw[dA,<- S];exact C
 have o:¬ Y.toArray.size*k.toNat > (2^63 - 1) / 8:=by
  have:(bt:Nat)<=(2^63 - 1) / 8:=by decide
  lia
 have i:¬ (!mf k)=true:=by
  rw[fitsIndex_both O J];exact fo
 have Z:¬ kP (Y.toArray.size*k.toNat)=true:=by
  rw[Ji p];exact fo
 have j:List.foldl (λM R=>M++R) #[] (aI (if Y.toArray.isEmpty=true then 0 else k.toNat) Y.toArray)=(aI k.toNat Y).flatten.toArray:=by
  have P:=λm=>by
   have:=foldl_rep Y m [];rwa [eL] at this
  rw[P]
  cases Y with
  | nil=>simp
  | cons a r'=>rw[if_neg (by simp)]
 refine wpAny_binaryOp_repeat_ref (by decide) ⟨_,e,rfl⟩ (λE=>typeIs_int E k t) noFill_list_mul F.fills_int_mul F.slot_int_rmul repeat_list F.slot_int_index.lookup
  (xE F.slot_int_rmul (typeIs_int s k t) F.entry_int_rmul (F.args_int_rmul_2 _ _) (int___rmul___int_list k t l Y.toArray n)
   ⟨e,rfl,⟨_,e,rfl⟩,xE F.slot_list_mul ⟨_,e,rfl⟩ F.entry_list_mul (F.args_list_mul_2 _ _) (AutoListH.list___mul___list_int_3 l Y.toArray n k t i o Z) ⟨e,?_⟩⟩)
 rw[j];exact ⟨.ref _,_,I.acB (r.rep k.toNat) (by rw[len_rep,Nat.mul_comm];exact C),rfl,q _ I.fresh⟩
theorem au.reps(h:au K A ds vs)(k:Nat):au K A (aI k ds).flatten (aI k vs).flatten:=by
 induction k with
 | zero=>exact au.nil.mpr rfl
 | succ k Y=>rw[fh,fh,k8,k8];exact h.append Y
theorem uY:OpR X (fS .Mult) (rD X.K xj):=xn ab1 λa b d e=>by
 obtain ⟨i,j,rfl,rfl,e⟩:=jm e;obtain ⟨Y,e⟩:=bO e;cases e;exact ⟨_,_,rfl,rfl,Y,rfl⟩
noncomputable def v9:ab->ab->zi ab
 | .list a,.int k=>gd (-(2^63)<=k/\k<2^63/\a.length*k.toNat<=bt) (.ok (.list (aI k.toNat a).flatten))
 | _,_=>.bad
theorem Dr(ha:QE X a (tF X.K O m1))(P:QE X b (tP X.K O m2)):QE X (.BinOp a .Mult b pos) (tF X.K O (ao v9 m1 m2)):=QE.imp (Q0 aak ha.h P.h) λσ H Q Z=>by
 obtain ⟨A,B,v,d,r,em,k⟩:=Z;obtain ⟨E,S,em⟩:=zi.aq em;obtain ⟨C,e2,em⟩:=zi.aq em;refine ⟨A,B,v,E,r,S,λx I H1 D p1=>⟨I,B,v,C,r.grow D,e2,λy A2 H2 Y U=>?_⟩⟩
 cases E with
 | list i=>
  cases C with
  | int j=>
   obtain ⟨e,em⟩:=bO em;cases em;obtain ⟨J,o,rfl,h0,M,h2,⟨ds,R,q,rfl,z⟩ | ⟨L,u,q,_⟩⟩:=p1
   rotate_right
   . cases q
   cases q;refine ⟨J,j,R,rfl,U.int,.inl (Y.hh _ _ M),e.1,e.2.1,by rw[<- z.length];exact e.2.2,λp l=>?_⟩;have s:=D.trans Y;exact k _ _ _ (s.trans (aZ.lay Y.ah l)) ⟨p,_,rfl,s.hh.free l,bc,Y.ah.free l,.inl ⟨_,_,rfl,rfl,(au.mono Y.aa _ z).reps _⟩⟩
  | _=>cases em
 | _=>cases em
theorem au.atI{i:Int}{d:ab}(h:au K A ds vs)(e:Zq.atI ds i=some d):∃x,Zq.atI vs i=some x/\Rp K A d x:=by
 unfold Zq.atI at e ⊢;rw[<- h.length]
 cases q:ixN ds.length i with
 | none=>rw[q] at e;cases e
 | some j=>rw[q] at e;exact h.get' e
theorem Ht:IxR X (rD X.K zI):=by
 intro Z Y o s P H x y v u Q I U M hq O;obtain ⟨A,d1,R,d,e,r,p1,S,k⟩:=hq
 cases d1 with
 | list p=>
  cases R with
  | int i=>
   have j:(match Zq.atI p i with | some d=>zi.ok d | none=>.bad)= .ok d:=e
   cases q:Zq.atI p i with
   | none=>rw[q] at j;cases j
   | some d0=>
    rw[q] at j;cases j;obtain ⟨l,E,C,B,L⟩:=p1.list r;obtain ⟨z,J,D⟩:=L.atI q;exact ZK Z Y o s P H x y v u Q I U M ⟨l,E,i,z,C,S.int,B,J,k _ A H (aZ.refl r) D⟩ O
  | _=>cases e
 | tuple p=>
  cases R with
  | int i=>
   have j:(match Zq.atI p i with | some d=>zi.ok d | none=>.bad)= .ok d:=e
   cases q:Zq.atI p i with
   | none=>rw[q] at j;cases j
   | some d0=>
    rw[q] at j;cases j;obtain ⟨l,E,C,B,L⟩:=p1.tuple r;obtain ⟨z,J,D⟩:=L.atI q;exact ac8 Z Y o s P H x y v u Q I U M ⟨l,E,i,z,C,S.int,B,J,k _ A H (aZ.refl r) D⟩ O
  | _=>cases e
 | _=>cases e
theorem Yy(Z:QE X a (tP X.K O m1))(Y:QE X b (tP X.K O m2))(hs:lH b):QE X (.Subscript a b pos) (tE X.K O (ao zI m1 m2)):=QE.imp (Df Ht Z.h Y.h hs) λ_ _ _=>yD
noncomputable def evs:List ME->Ev->zi B4
 | [],_=>.ok []
 | m::ms,Γ=>(m Γ).bind λd=>(evs ms Γ).bind λds=>.ok (d::ds)
theorem qK:∀{ms:List ME}{Γ:Ev}{ds:B4},evs ms Γ = .ok ds->ds.length=ms.length
 | [],_,_,h=>by cases h;rfl
 | m::ms,Γ,ds,h=>by
  obtain ⟨d,_,h⟩:=zi.aq h;obtain ⟨r,e,h⟩:=zi.aq h;cases h;rw[bo,bo,qK e]
def tAi(K:aE)(O:B9)(ms:List ME):TA:=λσ H Q=>∃A B Γ ds,aY K A B H O σ Γ/\evs ms Γ = .ok ds/\∀vs A' H',aZ A H A' H'->au K A' ds vs->Q vs H'
def Bf(K:aE)(A H:Hp):Fl->ab->V->Prop
 | .zD,d,v=>Rp K A d v
 | _,d,v=>Pk K A H d v
def pZ(K:aE)(A H:Hp):B9->B4->C0->Prop
 | [],ds,vs=>ds=[]/\vs=[]
 | f::fs,ds,vs=>∃d r v s,ds=d::r/\vs=v::s/\Bf K A H f d v/\pZ K A H fs r s
def tAr(K:aE)(O:B9)(fs:B9)(ms:List ME):TA:=λσ H Q=>∃A B Γ ds,aY K A B H O σ Γ/\evs ms Γ = .ok ds/\∀vs A' H',aZ A H A' H'->pZ K A' H' fs ds vs->Q vs H'
variable {ms:List ME}
section
variable      {fs:B9}  {es:C1}
theorem aX:QA X [] (tAi K O []):=QA.imp eQ λe H Q Y=>by
 obtain ⟨A,B,Z,i,r,em,k⟩:=Y;cases em;exact k [] A H (aZ.refl r.a) (au.nil.mpr rfl)
theorem aJ(u:QE X e (tE K O m))(D:QA X es (tAi K O ms))(hs:As e=true:=by rfl):QA X (e::es) (tAi K O (m::ms)):=QA.imp (bN u.h D.h (cz hs)) λM H Q Y=>by
 obtain ⟨A,B,o,J,r,em,k⟩:=Y;obtain ⟨d,I,em⟩:=zi.aq em;obtain ⟨Z,s,em⟩:=zi.aq em;cases em;exact ⟨A,B,o,d,r,I,λv p L l z=>⟨p,B,o,Z,r.grow l,s,λj C E i q=>k (v::j) C E (l.trans i) (au.cons.mpr ⟨v,j,rfl,Rp.mono i.aa d z,q⟩)⟩⟩
theorem aB:QA X [] (tAr K O [] []):=QA.imp eQ λe H Q Y=>by
 obtain ⟨A,B,Z,i,r,em,k⟩:=Y;cases em;exact k [] A H (aZ.refl r.a) ⟨rfl,rfl⟩
theorem cO(u:QE X e (tE K O m))(D:QA X es (tAr K O fs ms))(hs:As e=true:=by rfl):QA X (e::es) (tAr K O (.zD::fs) (m::ms)):=QA.imp (bN u.h D.h (cz hs)) λM H Q Z=>by
 obtain ⟨A,B,o,J,r,em,k⟩:=Z;obtain ⟨d,I,em⟩:=zi.aq em;obtain ⟨Y,s,em⟩:=zi.aq em;cases em;exact ⟨A,B,o,d,r,I,λv p L l z=>⟨p,B,o,Y,r.grow l,s,λj C E i q=>k (v::j) C E (l.trans i) ⟨d,Y,v,j,rfl,rfl,Rp.mono i.aa d z,q⟩⟩⟩
theorem bz(u:QE X e (tP K O m))(D:QA X es (tAr K O fs ms))(hs:As e=true:=by rfl):QA X (e::es) (tAr K O (.zC::fs) (m::ms)):=QA.imp (bN u.h D.h (cz hs)) λM H Q Z=>by
 obtain ⟨A,B,o,J,r,em,k⟩:=Z;obtain ⟨d,I,em⟩:=zi.aq em;obtain ⟨Y,s,em⟩:=zi.aq em;cases em;exact ⟨A,B,o,d,r,I,λv p L l z=>⟨p,B,o,Y,r.grow l,s,λj C E i q=>k (v::j) C E (l.trans i) ⟨d,Y,v,j,rfl,rfl,z.mono i.aa i.hh,q⟩⟩⟩
noncomputable def cI(ms:List ME):ME:=λΓ=>(evs ms Γ).bind λds=>.ok (.tuple ds)
noncomputable def bV(ms:List ME):ME:=λΓ=>(evs ms Γ).bind λds=>.ok (.list ds)
theorem bQ{x1}(h:QA X es (tAi K O ms))(q:ms.length<=bt:=by first | decide | exact of_decide_eq_true rfl):QE X (.Tuple es x1 pos) (tE K O (cI ms)):=QE.imp (aa5 h.h) λC H Q Y=>by
 obtain ⟨A,B,s,d,r,em,k⟩:=Y;obtain ⟨e,l,em⟩:=zi.aq em;cases em;refine ⟨A,B,s,e,r,l,λZ v z i j=>⟨by rw[<- j.length,qK l];exact q,λp u=>?_⟩⟩;have g:=aZ.new (o:=.tup Z) i.ah u;exact k _ _ _ (i.trans g) (Rp.tuple.mpr ⟨p,Z,rfl,SqT.of bc,au.mono g.aa e j⟩)
theorem bM(h:QA X es (tAi K O ms))(q:ms.length<=bt:=by first | decide | exact of_decide_eq_true rfl):QE X (.List es pos) (tF K O (bV ms)):=QE.imp (aa2 h.h) λz H Q Y=>by
 obtain ⟨A,B,s,d,r,em,k⟩:=Y;obtain ⟨i,l,em⟩:=zi.aq em;cases em;refine ⟨A,B,s,i,r,l,λo u v Z j=>⟨by rw[<- j.length,qK l];exact q,λp e=>?_⟩⟩;exact k _ _ _ (Z.trans (aZ.lay Z.ah e)) ⟨p,_,rfl,Z.hh.free e,bc,Z.ah.free e,.inl ⟨i,o,rfl,rfl,j⟩⟩
noncomputable def mG:List (Str×ME)->ME
 | []=>λ_=>.ok (.dict [])
 | (x,m)::r=>λΓ=>(m Γ).bind λd=>(mG r Γ).bind λe=>match e with
  | .dict ds=>.ok (.dict ((.str x,d)::ds))
  | _=>.bad
theorem q8:QE X (.Dict [] [] pos) (tF K O (mG [])):=QE.imp Xm λi H Q Y=>by
 obtain ⟨A,B,e,d,r,em,k⟩:=Y;cases em;intro p Z;exact k _ _ _ (aZ.lay r.a Z) ⟨p,_,rfl,Z,bc,r.a.free Z,.inr ⟨_,_,rfl,rfl,bh.nil.mpr rfl⟩⟩
theorem Yd{e:UnaryOp}{f:C8}{r:V->Hp->VK->Prop}(u:UnR X (unaryOp e) r)(o:∀A H Y d x (Q:VK),f Y= .ok d->aD A H->Pk K A H Y x->(∀v A' H',aZ A H A' H'->Rp K A' d v->Q v H')->r x H Q)
 (q:QE X a (tP K O m)):QE X (.UnaryOp e a pos) (tE K O (eUn f m)):=QE.imp (aea u q.h) λD H Q Z=>by
 obtain ⟨A,B,z,d,r,em,k⟩:=Z;obtain ⟨Y,C,em⟩:=zi.aq em;exact ⟨A,B,z,Y,r,C,λv j l i s=>o j l Y d v Q em i.ah s λv A' H' g p=>k v A' H' (i.trans g) p⟩
theorem Sg(j:QE X a (tP K O m)):QE X (.UnaryOp .USub a pos) (tE K O (eUn JZ m)):=Yd abe (λA H Y d x Q e Z p k=>by
 cases Y with
 | int i=>cases e;exact ⟨i,p.int,k _ A H (aZ.refl Z) (Rp.int.mpr rfl)⟩
 | _=>cases e) j
noncomputable def eFn(f:B4->zi ab)(ms:List ME):ME:=λΓ=>(evs ms Γ).bind f
def qR(K:aE)(A H:Hp)(ds:B4)(vs:C0):Prop:=pZ K A H (ds.map λ_=>.zC) ds vs
def rC(K:aE)(f:B4->zi ab):C0->Hp->VK->Prop:=λvs H Q=>∃A ds d,f ds= .ok d/\aD A H/\qR K A H ds vs/\∀v A' H',aZ A H A' H'->Rp K A' d v->Q v H'
def rCF(K:aE)(f:B4->zi ab):C0->Hp->VK->Prop:=λvs H Q=>∃A ds d,f ds= .ok d/\aD A H/\qR K A H ds vs/\∀v A' H',aZ A H A' H'->uR K H A' H' d v->Q v H'
noncomputable def pU(ms:List ME):B9:=ms.map λ_=>.zC
theorem Ub(h:evs ms Γ = .ok ds):pU ms=ds.map λ_=>.zC:=by
 have e:=qK h;rw[pU,List.map_const',List.map_const',e]
theorem Ye{f:B4->zi ab}{Q:VK}(h:tE K O (eFn f ms) σ H Q):tCB (rC K f) (tAr K O (pU ms) ms) σ H Q:=by
 obtain ⟨A,B,q,d,r,em,k⟩:=h;obtain ⟨Y,e,em⟩:=zi.aq em;refine ⟨A,B,q,Y,r,e,λs i u Z o=>⟨i,Y,d,em,Z.ah,by rw[qR,<- Ub e];exact o,λv l j g p=>k v l j (Z.trans g) p⟩⟩
theorem Yu{f:B4->zi ab}{Q:VK}(h:tF K O (eFn f ms) σ H Q):tCB (rCF K f) (tAr K O (pU ms) ms) σ H Q:=by
 obtain ⟨A,B,C,d,r,em,k⟩:=h;obtain ⟨Z,i,em⟩:=zi.aq em;refine ⟨A,B,C,Z,r,i,λE j I Y z=>⟨j,Z,d,em,Y.ah,by rw[qR,<- Ub i];exact z,λv s l g p=>k v s l (Y.trans g) ?_⟩⟩;obtain ⟨q,o,e,u,D⟩:=p;exact ⟨q,o,e,Y.hh.free u,D⟩
variable  {p:Pos}{id:String}{f:B4->zi ab}
theorem dD(l:fD X (.builtin id) (rC K f))(i:Gl X x)(q:X.mg x=none)(j:eI x=some (.builtin id))(r:QA X (e::es) (tAr K O (pU ms) ms))(o:x ≠ "__name__" := by decide)(Y:nD x:=by decide)
 (hs:As e=true:=by rfl) (Z:iz es=true:=by rfl):QE X (.Call (.Name x p) (e::es) [] pos) (tE K O (eFn f ms)):=QE.imp (An l i q j r.h o Y (cz hs) (iY Z)) λ_ _ _=>Ye
theorem Vy(l:fD X (.builtin id) (rCF K f))(i:Gl X x)(q:X.mg x=none)(j:eI x=some (.builtin id))(r:QA X (e::es) (tAr K O (pU ms) ms))(o:x ≠ "__name__" := by decide)(Y:nD x:=by decide)
 (hs:As e=true:=by rfl) (Z:iz es=true:=by rfl):QE X (.Call (.Name x p) (e::es) [] pos) (tF K O (eFn f ms)):=QE.imp (An l i q j r.h o Y (cz hs) (iY Z)) λ_ _ _=>Yu
theorem dz(l:fD X (.type id) (rC K f))(i:Gl X x)(q:X.mg x=none)(j:eI x=some (.type id))(r:QA X (e::es) (tAr K O (pU ms) ms))(o:x ≠ "__name__" := by decide)(Y:nD x:=by decide)
 (hs:As e=true:=by rfl) (Z:iz es=true:=by rfl):QE X (.Call (.Name x p) (e::es) [] pos) (tE K O (eFn f ms)):=QE.imp (uc l i q j r.h o Y (cz hs) (iY Z)) λ_ _ _=>Ye
theorem xH(l:fD X (.type id) (rCF K f))(i:Gl X x)(q:X.mg x=none)(j:eI x=some (.type id))(r:QA X (e::es) (tAr K O (pU ms) ms))(o:x ≠ "__name__" := by decide)(Y:nD x:=by decide)
 (hs:As e=true:=by rfl) (Z:iz es=true:=by rfl):QE X (.Call (.Name x p) (e::es) [] pos) (tF K O (eFn f ms)):=QE.imp (uc l i q j r.h o Y (cz hs) (iY Z)) λ_ _ _=>Yu
end
theorem qR.nil(h:qR K A H [] vs):vs=[]:=h.2
theorem qR.cons{K:aE}{A H:Hp}{d:ab}{Z:B4}{Y:C0}(h:qR K A H (d::Z) Y):∃v r,Y=v::r/\Pk K A H d v/\qR K A H Z r:=by
 obtain ⟨o,p,v,s,j,e,i,l⟩:=h;cases j;exact ⟨v,s,e,i,l⟩
noncomputable def il:B4->zi ab
 | [.list ds]=>.ok (.int ds.length)
 | [.tuple ds]=>.ok (.int ds.length)
 | [.str x]=>gd (x.length<=bt) (.ok (.int x.length))
 | _=>.bad
noncomputable def Qs:B4->zi ab
 | [.list ds]=>.ok (.list ds)
 | [.tuple ds]=>.ok (.list ds)
 | _=>.bad
noncomputable def fB:B4->zi ab
 | [.list ds]=>.ok (.tuple ds)
 | [.tuple ds]=>.ok (.tuple ds)
 | _=>.bad
noncomputable def maxD:B4->zi ab
 | [.int i,.int j]=>.ok (.int (if j > i then j else i))
 | _=>.bad
theorem jV:fD X (.builtin "len") (rC X.K il):=by
 rintro Y s B H J q Q I r ⟨A,D,d,e,i,p,k⟩
 match D,e with
 | [.list es],e=>
  cases e;obtain ⟨v,C,rfl,j,Z⟩:=p.cons;obtain rfl:=Z.nil;obtain ⟨l,o,rfl,u,z⟩:=j.list i;exact yf Y s B H _ q Q I r ⟨l,o,rfl,.inl u,by rw[<- z.length];exact k _ A H (aZ.refl i) (Rp.int.mpr rfl)⟩
 | [.tuple es],e=>
  cases e;obtain ⟨v,C,rfl,j,Z⟩:=p.cons;obtain rfl:=Z.nil;obtain ⟨l,o,rfl,u,z⟩:=j.tuple i;exact yf Y s B H _ q Q I r ⟨l,o,rfl,.inr u,by rw[<- z.length];exact k _ A H (aZ.refl i) (Rp.int.mpr rfl)⟩
 | [.str x],e=>
  obtain ⟨E,e⟩:=bO e;cases e;obtain ⟨v,C,rfl,j,Z⟩:=p.cons;obtain rfl:=Z.nil;exact Im Y s B H _ q Q I r ⟨x,by rw[j.str],E,k _ A H (aZ.refl i) (Rp.int.mpr rfl)⟩
theorem ZP:fD X (.type "list") (rCF X.K Qs):=by
 rintro Y s D H L C Q I r ⟨A,E,d,e,i,p,k⟩
 match E,e with
 | [.list es],e=>
  cases e;obtain ⟨v,J,rfl,z,j⟩:=p.cons;obtain rfl:=j.nil;obtain ⟨l,o,rfl,u,B⟩:=z.list i;exact yC Y s D H _ C Q I r ⟨l,o,rfl,.inl u,λq Z=>k _ A _ (aZ.lay i Z) ⟨q,_,rfl,Z,bc,i.free Z,.inl ⟨_,_,rfl,rfl,B⟩⟩⟩
 | [.tuple es],e=>
  cases e;obtain ⟨v,J,rfl,z,j⟩:=p.cons;obtain rfl:=j.nil;obtain ⟨l,o,rfl,u,B⟩:=z.tuple i;exact yC Y s D H _ C Q I r ⟨l,o,rfl,.inr u,λq Z=>k _ A _ (aZ.lay i Z) ⟨q,_,rfl,Z,bc,i.free Z,.inl ⟨_,_,rfl,rfl,B⟩⟩⟩
theorem dY:fD X (.type "tuple") (rC X.K fB):=by
 rintro Y s J H P D Q I r ⟨A,M,d,e,i,p,k⟩
 match M,e with
 | [.list es],e=>
  cases e;obtain ⟨v,O,rfl,j,u⟩:=p.cons;obtain rfl:=u.nil;obtain ⟨l,Z,rfl,C,E⟩:=j.list i;exact wZ Y s J H _ D Q I r ⟨l,Z,rfl,.inl ⟨C,λq L=>by
   have g:=aZ.new (o:=.tup Z) i L;exact k _ _ _ g (Rp.tuple.mpr ⟨q,Z,rfl,SqT.of bc,au.mono g.aa _ E⟩)⟩⟩
 | [.tuple es],e=>
  cases e;obtain ⟨v,O,rfl,j,u⟩:=p.cons;obtain rfl:=u.nil;have B:=j.nZ (λ_ z=>nomatch z) (λ_ z=>nomatch z);obtain ⟨l,Z,rfl,C,E⟩:=j.tuple i;exact wZ Y s J H _ D Q I r ⟨l,Z,rfl,.inr ⟨C,k _ A H (aZ.refl i) B⟩⟩
theorem adb(o:X.calm=true):fD X (.builtin "max") (rC X.K maxD):=by
 rintro Y s C H J q Q I r ⟨A,u,d,e,z,p,k⟩
 match u,e with
 | [.int i,.int j],e=>
  cases e;obtain ⟨v,D,rfl,B,Z⟩:=p.cons;obtain ⟨L,D,rfl,l,E⟩:=Z.cons;obtain rfl:=E.nil;exact RP o Y s C H _ q Q I r ⟨i,j,by rw[B.int,l.int],k _ A H (aZ.refl z) (Rp.int.mpr rfl)⟩
noncomputable def tyN:ab->String
 | .none => "NoneType"
 | .bool _ => "bool"
 | .int _ => "int"
 | .str _ => "str"
 | .list _ => "list"
 | .tuple _ => "tuple"
 | .dict _ => "dict"
noncomputable def vR(T:String)(d:ab):Bool:=tyN d == T||(T == "int" && tyN d == "bool")
noncomputable def O7(T:String)(a:ME):ME:=λΓ=>(a Γ).bind λd=>.ok (.bool (vR T d))
variable {T:String}
theorem Km(t:String):oC K (.type t) (.type t)=some true:=by rw[oC,if_pos (by simp)]
theorem T6{t:String}{b:Bool}(Y:(h9 t == h9 T)=false)(h:(if PySem.W.kitMeta T=true then (fastBuiltinMro t).map (·.contains (h9 T)) else none)=some b):oC K (.type t) (.type T)=some b:=by
 unfold oC PySem.W.kitCls;rw[if_neg (by rw[Y];exact fo)];exact h
def HF(K:aE)(T:String):Prop:=∀d:ab,oC K (.type (tyN d)) (.type T)=some (vR T d)
theorem RX(h:∀t∈["NoneType", "bool", "int", "str", "list", "tuple", "dict"],oC K (.type t) (.type T)=some (t == T||(T == "int" && t == "bool"))):HF K T:=λd=>h (tyN d) (by cases d <;> simp[tyN])
theorem ZX:HF K "int" := RX λt h=>by
 simp only[b9,rX,or_false] at h;rcases h with rfl | rfl | rfl | rfl | rfl | rfl | rfl <;> first | exact (Km _).trans (by decide +kernel) | exact T6 (by decide +kernel) (by decide +kernel)
theorem W0:HF K "bool" := RX λt h=>by
 simp only[b9,rX,or_false] at h;rcases h with rfl | rfl | rfl | rfl | rfl | rfl | rfl <;> first | exact (Km _).trans (by decide +kernel) | exact T6 (by decide +kernel) (by decide +kernel)
section
variable     {p:Pos}
def adX(K:aE)(T:String):C0->Hp->VK->Prop:=λxs H Q=>∃x A d,xs=[x,.ty T]/\aD A H/\Pk K A H d x/\Q (.bl (vR T d)) H
theorem adg(hT:HF X.K T):fD X (.builtin "isinstance") (adX X.K T):=by
 rintro C s P H S R Q I r ⟨x,A,d,rfl,E,Z,q⟩;obtain ⟨u,c,rfl,Y,M⟩:=zv.two r;cases M;have fin:∀J,EP X C P Q (.bool (vR T d)) { s with toks:=J }:=λJ=>⟨.bl _,H,I.tok J,rfl,q⟩;have e:=hT d
 cases d with
 | none=>rw[Z.none] at Y;cases Y;exact m3 PySem.W.kitx_none I.kIn ki e (λz=>nomatch z) fin
 | bool y=>rw[Z.bool] at Y;cases Y;exact m3 PySem.W.kitx_bool I.kIn ki e (λz=>nomatch z) fin
 | int i=>rw[Z.int] at Y;obtain ⟨t,rfl⟩:=Y;exact m3 PySem.W.kitx_int I.kIn ki e (λz=>nomatch z) fin
 | str y=>rw[Z.str] at Y;obtain ⟨t,rfl⟩:=Y;exact m3 PySem.W.kitx_str I.kIn ki e (λz=>nomatch z) fin
 | list L=>
  obtain ⟨l,vs,rfl,v,O⟩:=Z.list E;cases Y;obtain ⟨D,_,pl,_⟩:=I.list v;obtain ⟨o,B,j,_⟩:=pl.isList;exact m3 PySem.W.kitx_list I.kIn ⟨o,B,j⟩ e (λz=>nomatch z) fin
 | tuple L=>
  obtain ⟨l,vs,rfl,v,O⟩:=Z.tuple E;cases Y;obtain ⟨D,_,⟨o,B,j,_⟩,_⟩:=I.tuple v;exact m3 PySem.W.kitx_tuple I.kIn ⟨o,B,j⟩ e (λz=>nomatch z) fin
 | dict L=>
  obtain ⟨l,p,rfl,v,_⟩:=Z.dict E;cases Y;obtain ⟨_,_,vs,_,hd⟩:p.length<=bt/\(l == gu)=false/\∃vs,KV p vs/\s.heap.DictOf (bY X.prog X.w) l vs:=qL I.zS v;obtain ⟨o,_,_,B,j,_⟩:=hd;exact m3 PySem.W.kitx_dict I.kIn ⟨o,B,j.1⟩ e (λz=>nomatch z) fin
theorem RZ(hT:HF X.K T)(z:Gl X "isinstance")(D:X.mg "isinstance"= none)(q:QE X a (tP X.K O m))(u:PE X b (tC (.ty T)))
 (j:dr (a::[b]) X.env=(false,eval a X.env)::dr [b] X.env:=by rfl) (I:dr [b] X.env=(false,eval b X.env)::dr [] X.env:=by rfl) (Z:(mI pos (dr [b] X.env)).any (·.1)=false:=by rfl) :
 QE X (.Call (.Name "isinstance" p) [a,b] [] pos) (tE X.K O (O7 T m)):=
 QE.imp (An (adg hT) z D (show eI "isinstance"= some (.builtin "isinstance") by decide +kernel) (bN q.h (bN u eQ I) j) (by decide) (by decide) j Z) λJ H Q Y=>by
  obtain ⟨A,B,C,d,r,em,k⟩:=Y;obtain ⟨l,E,em⟩:=zi.aq em;cases em;exact ⟨A,B,C,l,r,E,λv e o i s=>⟨v,e,l,rfl,i.ah,s,k _ e o i (Rp.bool.mpr rfl)⟩⟩
theorem Yi(Z:Gl X x)(e:X.mg x=none)(i:eI x=some (.type T))(Y:x ≠ "__name__" := by decide)(hd:nD x:=by decide):PE X (.Name x pos) (tC (.ty T)):=
 ZJ Z e i rfl Y hd
end
def MO:=Ev->zi (Option Int)
theorem bF{α:Type}{l:List α}{x d:α}(h:i<l.length):(l.set i x).getD i d=x:=by
 rw[ae,lP h];rfl
variable {j:Nat}
theorem aQ{α:Type}{l:List α}{x d:α}(h:i≠j):(l.set i x).getD j d=l.getD j d:=by
 rw[ae,ae,ow h]
variable {p:Addr}{B:Hp}{o:HO}
section
variable       {d:ab}
theorem aY.set(r:aY K A B H O σ Γ)(C:i < Γ.length)(u:i<O.length)(p:Rp K A d v):aY K A B H (O.set i .zD) (σ.set i (some v)) (Γ.set i (some d)):=by
 have E:i < σ.length:=by rw[<- r.len];exact C
 refine ⟨r.a,r.b,by rw[fq,fq];exact r.len,λj=>?_,λj k s Z l o q=>?_⟩
 . by_cases Y:i=j
   . subst Y;unfold fl gv sv;rw[bF u,bF C,bF E];exact λI e=>⟨v,rfl,by cases e;exact p⟩
   . unfold fl gv sv;rw[aQ Y,aQ Y,aQ Y];exact r.slot j
 . have Y:i≠j:=λz=>by subst z;unfold fl at Z;rw[bF u] at Z;cases Z
   have D:i≠k:=λz=>by subst z;unfold fl at l;rw[bF u] at l;cases l
   unfold fl at Z l;unfold gv at o q;rw[aQ Y] at Z o;rw[aQ D] at l q;unfold sv;rw[aQ Y,aQ D];exact r.sep j k s Z l o q
theorem aY.aeG(r:aY K A B H O σ Γ)(E:i < Γ.length)(M:i<O.length)(L:H p=some o)(P:A p=none)(I:B p=none)(J:jb K A d o)
 (D:∀j,isO (fl O j)=true->gv Γ j≠none->sv σ j≠some (.ref p)):aY K A B H (O.set i .own) (σ.set i (some (.ref p))) (Γ.set i (some d)):=by
 have C:i < σ.length:=by rw[<- r.len];exact E
 refine ⟨r.a,r.b,by rw[fq,fq];exact r.len,λj=>?_,λj k l u s v q=>?_⟩
 . by_cases Y:i=j
   . subst Y;unfold fl gv sv;rw[bF M,bF E,bF C];exact λQ e=>⟨_,rfl,by cases e;exact ⟨p,o,rfl,L,P,I,J⟩⟩
   . unfold fl gv sv;rw[aQ Y,aQ Y,aQ Y];exact r.slot j
 . unfold fl at u s;unfold gv at v q;unfold sv
   by_cases Y:i=j
   . subst Y;have Z:=l;rw[aQ Z] at s q;rw[bF C,aQ Z];exact λz=>D k s q z.symm
   . rw[aQ Y] at u v;rw[aQ Y]
     by_cases Z:i=k
     . subst Z;rw[bF C];exact D j u v
     . rw[aQ Z] at s q;rw[aQ Z];exact r.sep j k l u s v q
theorem aY.oh(r:aY K A B H O σ Γ)(Y:isO (fl O j)=true)(l:gv Γ j≠none):∃d p o,gv Γ j=some d/\sv σ j=some (.ref p)/\H p=some o/\A p=none/\B p=none/\jb K A d o:=by
 cases e:gv Γ j with
 | none=>exact absurd e l
 | some d=>
  obtain ⟨v,i,q⟩:=r.slot j d e
  cases Z:fl O j with
  | zD=>rw[Z] at Y;cases Y
  | zC=>rw[Z] at Y;cases Y
  | own=>
   rw[Z] at q;obtain ⟨p,o,rfl,q⟩:=q;exact ⟨d,p,o,rfl,i,q⟩
  | fix s=>
   rw[Z] at q;obtain ⟨_,p,o,rfl,q⟩:=q;exact ⟨d,p,o,rfl,i,q⟩
  | exc C=>rw[Z] at Y;cases Y
  | nst b=>rw[Z] at Y;cases Y
  | kit=>rw[Z] at Y;cases Y
theorem aY.fresh(r:aY K A B H O σ Γ)(g:aZ A H A' H')(Z:i < Γ.length)(q:i<O.length)(h0:H p=none)(s:H' p=some o)(C:A' p=none)(e:jb K A' d o) :
 aY K A' B H' (O.set i .own) (σ.set i (some (.ref p))) (Γ.set i (some d)):=by
 refine (r.grow g).aeG Z q s C (r.b.free h0) e λj u v z=>?_;obtain ⟨E,D,I,J,l,Y,_⟩:=r.oh u v;rw[l] at z;cases z;rw[h0] at Y;cases Y
theorem aY.freeze(r:aY K A B H O σ Γ)(hi:fl O i= .own)(hO:i<O.length):∃A',aD A A'/\New A A' B/\aY K A' B H (O.set i .zD) σ Γ:=by
 by_cases M:gv Γ i=none
 . refine ⟨A,aD.refl _,λ_ h _=>h,r.a,r.b,r.len,λj=>?_,λj k J L h2 h3 S=>?_⟩
   . by_cases Z:i=j
     . subst Z;intro d e;rw[M] at e;cases e
     . rw[fl,aQ Z];exact r.slot j
   . have Z:i≠j:=λz=>by subst z;exact h3 M
     have hk:i≠k:=λz=>by subst z;exact S M
     unfold fl at L h2;rw[aQ Z] at L;rw[aQ hk] at h2;exact r.sep j k J L h2 h3 S
 . have E:isO (fl O i)=true:=by rw[hi];rfl
   obtain ⟨d,p,o,e1,e2,L,h2,h3,S⟩:=r.oh E M;have s:=aD.new h2 o;refine ⟨zw A p o,s,λq n1 n2=>?_,λb u q=>?_,r.b,r.len,λj=>?_,λj k J P R q3 q4=>?_⟩
   . have hq:q≠p:=λz=>n2 (z ▸ h3);rw[aH hq];exact n1
   . by_cases hb:b=p
     . subst hb;rw[bc] at q;rw[L];exact q
     . rw[aH hb] at q;exact r.a b u q
   . by_cases Z:i=j
     . subst Z;rw[fl,bF hO];intro d' Q;rw[e1] at Q;cases Q;refine ⟨_,e2,?_⟩;exact S.share s
     . rw[fl,aQ Z];intro d' Q;obtain ⟨v',I,q⟩:=r.slot j d' Q;refine ⟨v',I,?_⟩
       cases Y:fl O j with
       | zD=>rw[Y] at q;unfold fl at Y;rw[Y];exact Rp.mono s d' q
       | zC=>rw[Y] at q;unfold fl at Y;rw[Y];exact Pk.mono s (aD.refl _) q
       | own=>
        rw[Y] at q;have D:=Y;unfold fl at Y;rw[Y];obtain ⟨v,o',rfl,g1,g2,g3,g4⟩:=q;refine ⟨v,o',rfl,g1,?_,g3,g4.mono s⟩;have l:v≠p:=λz=>by
         refine r.sep i j Z E (by rw[D];rfl) M (by rw[Q];simp) ?_;rw[e2,I,z]
        rw[aH l];exact g2
       | fix p0=>
        rw[Y] at q;have D:=Y;unfold fl at Y;rw[Y];obtain ⟨q0,v,o',rfl,g1,g2,g3,g4⟩:=q;refine ⟨q0,v,o',rfl,g1,?_,g3,g4.mono s⟩;have l:v≠p:=λz=>by
         refine r.sep i j Z E (by rw[D];rfl) M (by rw[Q];simp) ?_;rw[e2,I,z]
        rw[aH l];exact g2
       | kit=>rw[Y] at q;unfold fl at Y;rw[Y];exact qm.mono s q
       | exc C=>
        rw[Y] at q;unfold fl at Y;rw[Y];obtain ⟨v,ob,w1,w2,U⟩:=q;exact ⟨v,ob,w1,s _ _ w2,U⟩
       | nst b=>
        rw[Y] at q;unfold fl at Y;rw[Y];intro z;obtain ⟨v,xs,y9,w1,w2,U,w4,w5,w6⟩:=q z;refine ⟨v,xs,y9,w1,w2,U,?_,w5,w6.mono s⟩;have l:v≠p:=λz=>by subst z;rw[L] at U;exact S.nx U
        rw[aH l];exact w4
   . have Z:i≠j:=λz=>by subst z;unfold fl at P;rw[bF hO] at P;cases P
     have hk:i≠k:=λz=>by subst z;unfold fl at R;rw[bF hO] at R;cases R
     unfold fl at P R;rw[aQ Z] at P;rw[aQ hk] at R;exact r.sep j k J P R q3 q4
theorem aY.change{o':HO}{d':ab}(r:aY K A B H O σ Γ)(Z:isO (fl O i)=true)(hl:i < Γ.length)(I:gv Γ i≠none)(hs:sv σ i=some (.ref p))(h1:H p=some o)(h4:jb K A d' o') :
 aY K A B (zw H p o') O σ (Γ.set i (some d')):=by
 obtain ⟨d,s,o0,e1,e2,g1,J,S,g4⟩:=r.oh Z I;rw[hs] at e2;cases e2;refine ⟨λb u q=>?_,λb u q=>?_,by rw[fq];exact r.len,λj=>?_,λj k hjk q1 q2 q3 q4=>?_⟩
 . have U:b≠p:=λz=>by rw[z,J] at q;cases q
   rw[aH U];exact r.a b u q
 . have U:b≠p:=λz=>by rw[z,S] at q;cases q
   rw[aH U];exact r.b b u q
 . by_cases v:i=j
   . subst v;rw[gv,bF hl];intro E e;cases e;refine ⟨_,hs,?_⟩
     cases Y:fl O i with
     | zD=>rw[Y] at Z;cases Z
     | zC=>rw[Y] at Z;cases Z
     | own=>exact ⟨p,o',rfl,bc,J,S,h4⟩
     | fix p0=>
      obtain ⟨v',ev,q⟩:=r.slot i d e1;rw[Y] at q;rw[hs] at ev;cases ev;exact ⟨q.1,p,o',rfl,bc,J,S,h4⟩
     | exc C=>rw[Y] at Z;cases Z
     | nst b=>rw[Y] at Z;cases Z
     | kit=>rw[Y] at Z;cases Z
   . rw[gv,aQ v];intro E D;obtain ⟨v',ev,q⟩:=r.slot j E D;refine ⟨v',ev,?_⟩
     cases Y:fl O j with
     | zD=>rwa [Y] at q
     | zC=>rwa [Y] at q
     | own=>
      rw[Y] at q;obtain ⟨s,o',rfl,u1,M,Q,u4⟩:=q;refine ⟨s,o',rfl,?_,M,Q,u4⟩;have l:s≠p:=λz=>by
       refine r.sep i j v Z (by rw[Y];rfl) I (by rw[gv,D];simp) ?_;rw[hs,ev,z]
      rw[aH l];exact u1
     | fix p0=>
      rw[Y] at q;obtain ⟨q0,s,o',rfl,u1,M,Q,u4⟩:=q;refine ⟨q0,s,o',rfl,?_,M,Q,u4⟩;have l:s≠p:=λz=>by
       refine r.sep i j v Z (by rw[Y];rfl) I (by rw[gv,D];simp) ?_;rw[hs,ev,z]
      rw[aH l];exact u1
     | kit=>rwa [Y] at q
     | exc C=>rwa [Y] at q
     | nst b=>
      rw[Y] at q;intro z;obtain ⟨s,xs,R,w1,w2,L,w4,w5,w6⟩:=q z;have l:s≠p:=λz=>by subst z;rw[g1] at L;exact g4.nx L
      exact ⟨s,xs,R,w1,w2,by rw[aH l];exact L,w4,w5,w6⟩
 . have h3:gv Γ j≠none:=by
    by_cases v:i=j
    . subst v;exact I
    . unfold gv at q3 ⊢;rwa [aQ v] at q3
   have P:gv Γ k≠none:=by
    by_cases hk:i=k
    . subst hk;exact I
    . unfold gv at q4 ⊢;rwa [aQ hk] at q4
   exact r.sep j k hjk q1 q2 h3 P
theorem aY.weak{Γ':Ev}(r:aY K A B H O σ Γ)(l:Γ'.length=Γ.length)(h:∀j,gv Γ' j=none\/gv Γ' j=gv Γ j):aY K A B H O σ Γ':=by
 have Z:∀j,gv Γ' j≠none->gv Γ j≠none:=λj n=>by
  rcases h j with z | z
  . exact absurd z n
  . rw[<- z];exact n
 refine ⟨r.a,r.b,l.trans r.len,λj d e=>?_,λj k Y i p q o=>r.sep j k Y i p (Z j q) (Z k o)⟩;rcases h j with z | z
 . rw[z] at e;cases e
 . rw[z] at e;exact r.slot j d e
end
noncomputable def clr(l:B5)(Γ:Ev):Ev:=l.foldl (λΓ i=>Γ.set i none) Γ
theorem CN:∀(l:B5) (Γ:Ev),(clr l Γ).length=Γ.length/\∀j,gv (clr l Γ) j=none\/gv (clr l Γ) j=gv Γ j
 | [],Γ=>⟨rfl,λ_=>.inr rfl⟩
 | i::l,Γ=>by
  obtain ⟨e,o⟩:=CN l (Γ.set i none);refine ⟨e.trans (fq ..),λj=>?_⟩;rcases o j with z | z
  . exact .inl z
  . by_cases Y:i=j
    . subst Y;left;show gv (clr l (Γ.set i none)) i=none;rw[z];rw[gv,ae]
      by_cases Z:i < Γ.length
      . rw[lP Z];rfl
      . rw[d3 (by rw[fq];lia)];rfl
    . right;show gv (clr l (Γ.set i none)) j=gv Γ j;rw[z];exact aQ Y
theorem aY.clr(r:aY K A B H O σ Γ)(l:B5):aY K A B H O σ (Zq.clr l Γ):=r.weak (CN l Γ).1 (CN l Γ).2
inductive Rm where
 | f | t | m (p:Addr)
def Vo(K:aE)(rm:Rm)(B A' H':Hp)(d:ab)(v:V):Prop:=match rm with
 | .f=>Rp K A' d v
 | .t=>uR K B A' H' d v
 | .m p=>∃d1 dm o,d= .tuple [d1,dm]/\Rp K A' d1 v/\H' p=some o/\A' p=none/\jb K A' dm o
def tV(K:aE)(rm:Rm)(Ol O':B9)(A B:Hp)(D:Ends):Out->Prop
 | .nx Γ'=>∀σ' A' H',aY K A' B H' O' σ' Γ'->aD A A'->New A A' B->D.nx σ' H'
 | .bk Γ'=>∀σ' A' H',aY K A' B H' Ol σ' Γ'->aD A A'->New A A' B->D.bk σ' H'
 | .ct Γ'=>∀σ' A' H',aY K A' B H' Ol σ' Γ'->aD A A'->New A A' B->D.ct σ' H'
 | .rt d=>∀v A' H',aD A' H'->aD B H'->aD A A'->New A A' B->Vo K rm B A' H' d v->D.rt v H'
def tS(K:aE)(rm:Rm)(Ol O O':B9)(m:MS):TS:=λD σ H=>∃A B Γ o,aY K A B H O σ Γ/\m Γ = .ok o/\tV K rm Ol O' A B D o
variable {rm:Rm}{Ol O':B9}
section
variable    {A1 H1:Hp}{D:Ends}{o:Out}
theorem tV.sub(i:aD A A1)(nw:New A A1 B)(h:tV K rm Ol O' A B D o):tV K rm Ol O' A1 B D o:=by
 cases o with
 | nx j=>exact λY e Z r s n=>h Y e Z r (i.trans s) (nw.trans n)
 | bk j=>exact λY e Z r s n=>h Y e Z r (i.trans s) (nw.trans n)
 | ct j=>exact λY e Z r s n=>h Y e Z r (i.trans s) (nw.trans n)
 | rt d=>exact λv e Z l p s n=>h v e Z l p (i.trans s) (nw.trans n)
theorem aZ.nB(g:aZ A H A1 H1)(b:aD B H):New A A1 B:=g.nw.mono b
end
noncomputable def cP:MS:=λΓ=>.ok (.nx Γ)
noncomputable def aG(a b:MS):MS:=λΓ=>(a Γ).bind λo=>match o with
 | .nx Γ'=>b Γ'
 | .rt d=>.ok (.rt d)
 | .bk Γ'=>.ok (.bk Γ')
 | .ct Γ'=>.ok (.ct Γ')
noncomputable def aU(i:Nat)(m:ME):MS:=λΓ=>(m Γ).bind λd=>gd (i < Γ.length) (.ok (.nx (Γ.set i (some d))))
noncomputable def sIf(c:ME)(a b:MS):MS:=λΓ=>(c Γ).bind λx=>match x with
 | .bool true=>a Γ
 | .bool false=>b Γ
 | _=>.bad
noncomputable def bA(m:ME):MS:=λΓ=>(m Γ).bind λd=>.ok (.rt d)
noncomputable def sEx(m:ME):MS:=λΓ=>(m Γ).bind λ_=>.ok (.nx Γ)
noncomputable def Em:MS:=λ_=>.bad
variable {O1 O2:B9}{pos':Pos}
section
variable      {m1 m2:MS}  {st:Stmt}{rest a b:C4}
theorem cu:QSs X [] (tS K rm Ol O O cP):=QSs.imp aaM λD Z H Y=>by
 obtain ⟨A,B,e,o,r,em,k⟩:=Y;cases em;exact k Z A H r (aD.refl _) λ_ h _=>h
theorem aW(p:QS X st (tS K rm Ol O O1 m1))(v:QSs X rest (tS K rm Ol O1 O2 m2)):QSs X (st::rest) (tS K rm Ol O O2 (aG m1 m2)):=QSs.imp (X6 p.h v.h) λD C H Y=>by
 obtain ⟨A,B,Z,o,r,em,k⟩:=Y;obtain ⟨q,e,em⟩:=zi.aq em
 cases q with
 | nx i=>exact ⟨A,B,Z,_,r,e,λj l z s u nw=>⟨l,B,i,o,s,em,k.sub u nw⟩⟩
 | rt d=>cases em;exact ⟨A,B,Z,_,r,e,k⟩
 | bk d=>cases em;exact ⟨A,B,Z,_,r,e,k⟩
 | ct d=>cases em;exact ⟨A,B,Z,_,r,e,k⟩
theorem aC(Y:QS X st (tS K rm Ol O O1 m1)):QSs X [st] (tS K rm Ol O O1 m1):=⟨aau Y.h⟩
theorem Jo(i:Nat)(h:QS X st (tS K rm Ol O2 O' m1))(l:O.set i .zD=O2:=by rfl)(Z:fl O i= .own:=by rfl)(e:i<O.length:=by exact of_decide_eq_true rfl):QS X st (tS K rm Ol O O' m1):=QS.imp (l ▸ h.h) λD u H Y=>by
 obtain ⟨A,B,p,o,r,em,k⟩:=Y;obtain ⟨j,s,nw,q⟩:=r.freeze Z e;exact ⟨j,B,p,o,q,em,k.sub s nw⟩
theorem Wd{Z:TE}(h:∀Y H Q,tE K O m Y H Q->Z Y H Q)(j:i<O.length){D:Ends}{Y:St}{H:Hp}(q:tS K rm Ol O (O.set i .zD) (aU i m) D Y H):O3 Z (CJ i) D Y H:=by
 obtain ⟨A,B,u,o,r,em,k⟩:=q;obtain ⟨d,z,em⟩:=zi.aq em;obtain ⟨e,em⟩:=bO em;cases em;refine h Y H _ ⟨A,B,u,d,r,z,λv s l g p=>?_⟩;exact k _ s l ((r.grow g).set e j p) g.aa (g.nB r.b)
theorem yc{Z:TE}(h:∀Y H Q,tF K O m Y H Q->Z Y H Q)(l:i<O.length){D:Ends}{Y:St}{H:Hp}(q:tS K rm Ol O (O.set i .own) (aU i m) D Y H):O3 Z (CJ i) D Y H:=by
 obtain ⟨A,B,E,o,r,em,k⟩:=q;obtain ⟨d,I,em⟩:=zi.aq em;obtain ⟨e,em⟩:=bO em;cases em;refine h Y H _ ⟨A,B,E,d,r,I,λv u s g p=>?_⟩;obtain ⟨p,o,rfl,C,z,J,j⟩:=p;exact k _ u s (r.fresh g e l C z J j) g.aa (g.nB r.b)
theorem adh(i:Nat)(o:X.N.Nodup)(Z:X.N[i]?=some x)(l:Loc X.env.scope x)(Y:QE X e (tE K O m))(j:i<O.length:=by exact of_decide_eq_true rfl)(hs:hV e (some (.Name x pos')) pos.line X.env=pure false:=by rfl)
 (q:X.fn x=true\/X.env.scope.names.lookup x=some .local:=by walk_at "hf") (p:O.set i .zD=O2:=by rfl):QS X (.Assign [.Name x pos'] e pos) (tS K rm Ol O O2 (aU i m)):=
 p ▸ QS.imp (Dt o Z l Y.h hs q) λD r H=>Wd (λ_ _ _ z=>z) j
theorem aaV(i:Nat)(o:X.N.Nodup)(Z:X.N[i]?=some x)(l:Loc X.env.scope x)(Y:QE X e (tF K O m))(j:i<O.length:=by exact of_decide_eq_true rfl)(hs:hV e (some (.Name x pos')) pos.line X.env=pure false:=by rfl)
 (q:X.fn x=true\/X.env.scope.names.lookup x=some .local:=by walk_at "hf") (p:O.set i .own=O2:=by rfl):QS X (.Assign [.Name x pos'] e pos) (tS K rm Ol O O2 (aU i m)):=
 p ▸ QS.imp (Dt o Z l Y.h hs q) λD r H=>yc (λ_ _ _ z=>z) j
theorem cR(l:QT X c (tT K O m))(p:QSs X a (tS K rm Ol O O' m1))(s:QSs X b (tS K rm Ol O O' m2)):QS X (.If c a b pos) (tS K rm Ol O O' (sIf m m1 m2)):=QS.imp (ad2 l.h p.h s.h) λD z H Z=>by
 obtain ⟨A,B,e,o,r,em,k⟩:=Z;obtain ⟨q,u,em⟩:=zi.aq em
 cases q with
 | bool j=>
  refine ⟨A,B,e,j,r,u,λi v Y=>?_⟩
  cases j with
  | true=>exact yw ⟨i,B,e,o,r.grow Y,em,k.sub Y.aa (Y.nB r.b)⟩
  | false=>exact yM ⟨i,B,e,o,r.grow Y,em,k.sub Y.aa (Y.nB r.b)⟩
 | _=>cases em
theorem bw(j:QE X e (tE K O m)):QS X (.Return (some e) pos) (tS K .f Ol O O' (bA m)):=QS.imp (yp j.h) λD u H Y=>by
 obtain ⟨A,B,q,o,r,em,k⟩:=Y;obtain ⟨l,s,em⟩:=zi.aq em;cases em;exact ⟨A,B,q,l,r,s,λv i Z g p=>k v i Z g.ah (r.b.trans g.hh) g.aa (g.nB r.b) p⟩
theorem vo(l:QE X e (tF K O m)):QS X (.Return (some e) pos) (tS K .t Ol O O' (bA m)):=QS.imp (yp l.h) λD E H Y=>by
 obtain ⟨A,B,u,o,r,em,k⟩:=Y;obtain ⟨s,z,em⟩:=zi.aq em;cases em;refine ⟨A,B,u,s,r,z,λv i Z g p=>k v i Z g.ah (r.b.trans g.hh) g.aa (g.nB r.b) ?_⟩;obtain ⟨q,o,e,j,C⟩:=p;exact ⟨q,o,e,r.b.free j,C⟩
theorem oY(i:Nat)(l:fl O i= .own:=by rfl)(Z:Nm X i x:=by walk_at "nm"):QS X (.Return (some (.Name x pos')) pos) (tS K .t Ol O O' (bA (aj i))):=QS.imp (yp (dO Z.1 Z.2 Z.3 Z.4)) λD J H Y=>by
 obtain ⟨A,B,I,o,r,em,k⟩:=Y;obtain ⟨z,C,em⟩:=zi.aq em;cases em;obtain ⟨v,s,q⟩:=r.slot i z (rE C);rw[l] at q;refine ⟨v,dU s,k v A H r.a r.b (aD.refl _) (λ_ h _=>h) ?_⟩;obtain ⟨pos',o,e,u,E,j,p⟩:=q;exact ⟨pos',o,e,j,u,E,p⟩
theorem Il:QS X st (tS K rm Ol O O' Em):=QS.imp Vc λD e H Y=>by obtain ⟨A,B,Z,o,r,em,k⟩:=Y;cases em
theorem ad6(j:QE X e (tP K O m))(hs:hV e none pos.line X.env=pure false:=by rfl):QS X (.Expr e pos) (tS K rm Ol O O (sEx m)):=QS.imp (oW j.h hs) λD s H Y=>by
 obtain ⟨A,B,q,o,r,em,k⟩:=Y;obtain ⟨l,u,em⟩:=zi.aq em;cases em;exact ⟨A,B,q,l,r,u,λv i Z g p=>k s i Z (r.grow g) g.aa (g.nB r.b)⟩
end
def spF(K:aE)(fs:B9)(rm:Rm)(f:B4->zi ab):Sp:=λvs H Q _=>∃A ds d,aD A H/\pZ K A H fs ds vs/\f ds= .ok d/\∀v A' H',aZ A H A' H'->Vo K rm H A' H' d v->Q v H'
theorem pZ.length:∀{fs:B9}{ds:B4}{vs:C0},pZ K A H fs ds vs->vs.length=fs.length/\ds.length=fs.length
 | [],ds,vs,h=>by obtain ⟨rfl,rfl⟩:=h;exact ⟨rfl,rfl⟩
 | f::fs,ds,vs,h=>by
  obtain ⟨d,r,v,s,rfl,rfl,_,h⟩:=h;have:=h.length;exact ⟨by rw[bo,bo,this.1],by rw[bo,bo,this.2]⟩
noncomputable def aF(f:B4->zi ab)(ms:List ME):ME:=λΓ=>(evs ms Γ).bind f
variable {ps:B6}
section
variable  {k:Nat}   {fs:B9}{f:B4->zi ab}   {p:Pos}  {es:C1}
theorem jZ(F:Def X.prog X.w X.K X.mg X.base k x ps (spF X.K fs .f f))(L:dJ k X.A)(I:Gl X x)(C:QA X (e::es) (tAr X.K O fs ms))(Z:nD x:=by decide)
 (E:As e=true:=by rfl) (i:iz es=true:=by rfl):QE X (.Call (.Name x p) (e::es) [] pos) (tE X.K O (aF f ms)):=
 QE.imp (BZ F L I C.h Z (cz E) (iY i)) λP H Q Y=>by
  obtain ⟨A,B,J,d,r,em,k⟩:=Y;obtain ⟨j,M,em⟩:=zi.aq em;refine ⟨A,B,J,j,r,M,λq o s l D=>?_⟩;show spF X.K fs .f f (q++[]) s Q E0;rw[c8];exact ⟨o,j,d,l.ah,D,em,λv z u g p=>k v z u (l.trans g) p⟩
theorem DY(F:Def X.prog X.w X.K X.mg X.base k x ps (spF X.K fs .t f))(R:dJ k X.A)(M:Gl X x)(I:QA X (e::es) (tAr X.K O fs ms))(Z:nD x:=by decide)
 (L:As e=true:=by rfl) (i:iz es=true:=by rfl):QE X (.Call (.Name x p) (e::es) [] pos) (tF X.K O (aF f ms)):=
 QE.imp (BZ F R M I.h Z (cz L) (iY i)) λσ H Q Y=>by
  obtain ⟨A,B,P,d,r,em,k⟩:=Y;obtain ⟨l,S,em⟩:=zi.aq em;refine ⟨A,B,P,l,r,S,λu s z j J=>?_⟩;show spF X.K fs .t f (u++[]) z Q E0;rw[c8];refine ⟨s,l,d,j.ah,J,em,λv D C g p=>k v D C (j.trans g) ?_⟩;obtain ⟨q,o,e,E,U⟩:=p;exact ⟨q,o,e,j.hh.free E,U⟩
end
noncomputable def fnR(n:Nat)(m:MS)(ds:B4):zi ab:=(m (ds.map some++aI (n - ds.length) none)).bind λo=>match o with
 | .rt d=>.ok d
 | _=>.bad
variable {P:gi}{w:kz}{mg:Str->B7}{N:B6}
section
variable     {base:Heap}
theorem p7:∀{ds:B4}{vs:C0},aD A H->pZ K A H Ol ds vs->(∀i,i<Ol.length->(fl O i= .zD/\fl Ol i= .zD)\/fl O i= .zC)->Ol.length<=N.length ->
 aY K A H H O (Zq.start N vs) (ds.map some++aI (N.length - ds.length) none):=by
 intro ds vs J h D S;have E:=h.length;have one:∀(Ol:B9) (ds:B4) (vs:C0),pZ K A H Ol ds vs->∀i d,ds[i]?=some d->∃v,vs[i]?=some v/\Bf K A H (fl Ol i) d v:=by
  intro Ol
  induction Ol with
  | nil=>intro ds vs h i d e;obtain ⟨rfl,rfl⟩:=h;simp at e
  | cons f Ol L=>
   intro ds vs h i d e;obtain ⟨d0,r,v,s,rfl,rfl,o,h⟩:=h
   match i with
   | 0=>simp at e;subst e;exact ⟨v,rfl,o⟩
   | i+1=>
    obtain ⟨P,B,l⟩:=L r s h i d (by simpa using e);exact ⟨P,by simpa using B,l⟩
 have Z:∀i,gv (ds.map some++aI (N.length - ds.length) none) i=ds[i]?:=λi=>by
  rw[gv,ae];rcases fx i ds.length with h | h
  . rw[cE (by simpa using h),ba,av h];rfl
  . rw[bE (by simpa using h),ij,d3 h];split <;> rfl
 have p:∀i v,vs[i]?=some v->sv (Zq.start N vs) i=some v:=λi v e=>by
  unfold sv Zq.start;rw[ae];have h:=(a0.mp e).1;rw[cE (by simpa using h),ba,e];rfl
 refine ⟨J,aD.refl _,?_,λi d e=>?_,λi j M o B l R=>?_⟩
 . rw[Zq.start,ai,ai,ag,ag,cf,cf];lia
 . rw[Z] at e;obtain ⟨v,I,q⟩:=one Ol ds vs h i d e;refine ⟨v,p i v I,?_⟩;have u:i<Ol.length:=by rw[<- E.2];exact (a0.mp e).1
   rcases D i u with ⟨z,Q⟩ | z
   . rw[z];rwa [Q] at q
   . rw[z]
     cases Y:fl Ol i with
     | zD=>rw[Y] at q;exact .inl q
     | zC=>rwa [Y] at q
     | own=>rwa [Y] at q
     | fix U=>rwa [Y] at q
     | exc C=>rwa [Y] at q
     | nst b=>rwa [Y] at q
     | kit=>rwa [Y] at q
 . rw[Z] at l;have u:i<Ol.length:=by
    rw[<- E.2];rcases fx i ds.length with h | h
    . exact h
    . exact absurd (d3 h) l
   rcases D i u with ⟨z,_⟩ | z <;> rw[z] at o <;> cases o
theorem YJ{st:Stmt}{fd:nz}{fs:B9}{m:MS}(F:Fun K x x st p fd)(S:cL N ps (aM st))(D:fs.length=ps.length)(U:ps.length<=N.length)
 (e:∀i,i<fs.length->(fl O i= .zD/\fl fs i= .zD)\/fl O i= .zC)
 (hbody:∀(f:Addr) (Y:bg) (A:gx) (AA:C5) (s:cy) (H:Hp) (E:XK),dJ j (A.deeper (oy x (aM st) s.heap.objs.size f Y)) ->
  QSs (mK CX0 P w K mg base N x (aM st) f Y A AA s H E).nox (bK st) (tS K rm Ol O O' m)):rM P w K mg base CX0 (j+1) p fd ps (spF K fs rm (fnR N.length m)):=by
 refine F.ok S (λz H Q E h=>?_) (λY A AA s H z Q E M h=>?_)
 . obtain ⟨A,Z,d,_,h,_⟩:=h;rw[h.length.1,D]
 . obtain ⟨C,Z,d,I,h,em,q⟩:=h;obtain ⟨o,u,em⟩:=zi.aq em
   cases o with
   | rt d'=>
    cases em;refine ⟨_,(hbody p Y A AA s H E M).h,C,H,_,_,p7 I h e (by lia),u,λv J R l B r nw L=>q v J R ⟨r,B,l,nw⟩ L⟩
   | _=>cases em
theorem aaw{st:Stmt}{k:Nat}(F:At K mg x st ps)(S:cL N ps (aM st)):Def P w K mg base (k+1) x ps (spF K O rm (λ_=>.bad)):=by
 refine F.ok S (λY H Q E h=>?_) (λf e A AA s H Y Q E i h=>?_)
 . obtain ⟨A,Z,d,_,_,em,_⟩:=h;cases em
 . obtain ⟨A,Z,d,_,_,em,_⟩:=h;cases em
theorem ach{st:Stmt}{m:MS}(F:At K mg x st ps)(S:cL N ps (aM st))(C:O1.length=ps.length)(R:ps.length<=N.length)
 (e:∀i,i<O1.length->(fl O i= .zD/\fl O1 i= .zD)\/fl O i= .zC)
 (hbody:∀(f:Addr) (Y:bg) (A:gx) (AA:C5) (s:cy) (H:Hp) (E:XK),dJ j (A.deeper (oy x (aM st) s.heap.objs.size f Y)) ->
  QSs (mK CX0 P w K mg base N x (aM st) f Y A AA s H E).nox (bK st) (tS K rm Ol O O' m)):Def P w K mg base (j+1) x ps (spF K O1 rm (fnR N.length m)):=by
 refine F.ok S (λu H Q E h=>?_) (λf Y A AA s H u Q E L h=>?_)
 . obtain ⟨A,Z,d,_,h,_⟩:=h;rw[h.length.1,C]
 . obtain ⟨B,Z,d,D,h,em,q⟩:=h;obtain ⟨o,r,em⟩:=zi.aq em
   cases o with
   | rt U=>
    cases em;refine ⟨_,(hbody f Y A AA s H E L).h,B,H,_,_,p7 D h e (by lia),r,λv I M l z p nw J=>q v I M ⟨p,z,l,nw⟩ J⟩
   | _=>cases em
end
abbrev MI:=Ev->zi B4
structure rY (K:aE) (A B:Hp) (J:It) (xs:B4):Prop where
 go:∀i H,aD A H->aD B H->i<xs.length->J.go i H
 stop:∀H,aD A H->aD B H->J.stop xs.length H
 yld:∀i A2 H x H',aD A A2->aD A2 H->aD B H->i<xs.length->J.yld i H x H'->∃A' d,xs[i]?=some d/\aZ A2 H A' H'/\Rp K A' d x
def tI(K:aE)(O:B9)(it:MI):TI:=λσ H R=>∃A B Γ xs,aY K A B H O σ Γ/\it Γ = .ok xs/\∀J A1 H1,aZ A H A1 H1->rY K A1 B J xs->R J H1
def tIc(K:aE)(O:B9)(it:MI):TI:=λσ H R=>∃A B Γ xs,aY K A B H O σ Γ/\it Γ = .ok xs/\∀J A1 H1,aZ A H A1 H1->rY K A1 H1 J xs->R J H1
def tQ(K:aE)(O:B9)(m:ME):TE:=λσ H Q=>∃A B Γ d,aY K A B H O σ Γ/\m Γ = .ok d/\∀v A' H',aZ A H A' H'->Pk K A' B d v->Q v H'
theorem sq(h:QE X e (tE K O m)):QE X e (tQ K O m):=QE.imp h.h λl H Q Y=>by obtain ⟨A,B,Z,d,r,em,k⟩:=Y;exact ⟨A,B,Z,d,r,em,λv j i g p=>k v j i g (.inl p)⟩
theorem gM(i:Nat)(j:isO (fl O i)=false:=by rfl)(l:Nm X i x:=by walk_at "nm")(Z:isX (fl O i)=false:=by rfl):QE X (.Name x pos) (tQ K O (aj i)):=QE.imp (dO l.1 l.2 l.3 l.4) λu H Q e=>by
 obtain ⟨A,B,s,d,r,em,k⟩:=e;obtain ⟨v,o,q⟩:=r.slot i d (rE em);refine ⟨v,dU o,k v A H (aZ.refl r.a) ?_⟩
 cases Y:fl O i with
 | zD=>rw[Y] at q;exact .inl q
 | zC=>rwa [Y] at q
 | own=>rw[Y] at j;cases j
 | fix p=>rw[Y] at j;cases j
 | exc C=>rw[Y] at Z;cases Z
 | nst b=>rw[Y] at Z;cases Z
 | kit=>rw[Y] at Z;cases Z
theorem Pk.VL{H:Hp}(h:Pk K A B (.list ds) v):∃p vs,v= .ref p/\au K A ds vs/\∀H,aD A H->aD B H->SqL K H p vs:=by
 rcases h with h | ⟨p,vs,j,l,Y,Z,i⟩ | ⟨_,_,_,_,Y,_⟩
 . obtain ⟨a,vs,e,Z,i⟩:=Rp.list.mp h;exact ⟨a,vs,e,i,λH s _=>s.seq Z⟩
 . cases Y;exact ⟨p,vs,l,i,λH _ s=>s.seq Z⟩
 . cases Y
theorem Pk.fZ{H:Hp}(h:Pk K A B (.tuple ds) v):∃p vs,v= .ref p/\au K A ds vs/\∀H,aD A H->SqT K H p vs:=by
 obtain ⟨a,vs,e,Y,Z⟩:=Rp.tuple.mp (h.nZ (λ_ z=>nomatch z) (λ_ z=>nomatch z));exact ⟨a,vs,e,Z,λH s=>s.fZ Y⟩
theorem YW(l:au K A ds vs)(j:∀H,aD A H->aD B H->SqL K H p vs):rY K A B (Itl K p) ds:=by
 have z:=l.length;refine ⟨λi H Y Z r=>?_,λH Y Z=>⟨vs,j H Y Z,by lia⟩,λi u H x s o Y Z r y=>?_⟩
 . exact ⟨vs,vs[i]'(by lia),j H Y Z,av _⟩
 . obtain ⟨rfl,y⟩:=y;have e:=y vs (j s (o.trans Y) Z);obtain ⟨d,v,q⟩:=l.get e;exact ⟨u,d,v,aZ.refl Y,Rp.mono o d q⟩
theorem acA(l:au K A ds vs)(Z:∀H,aD A H->SqT K H p vs):rY K A B (Itt K p) ds:=by
 have z:=l.length;refine ⟨λi H Y j r=>?_,λH Y j=>⟨vs,Z H Y,by lia⟩,λi u H x s o Y j r y=>?_⟩
 . exact ⟨vs,vs[i]'(by lia),Z H Y,av _⟩
 . obtain ⟨rfl,y⟩:=y;have e:=y vs (Z s (o.trans Y));obtain ⟨d,v,q⟩:=l.get e;exact ⟨u,d,v,aZ.refl Y,Rp.mono o d q⟩
theorem Jw(lo:Int)(n:Nat):rY K A B (Itr lo n) ((List.range n).map λi=>ab.int (lo+(i:Nat))):=by
 have Z:((List.range n).map λi=>ab.int (lo+(i:Nat))).length=n:=by rw[ag,cq]
 refine ⟨λi H _ _ Y=>(by rwa [Z] at Y),λH _ _=>(by rw[Z];exact ay _),λi j H x l p e o Y y=>?_⟩;obtain ⟨rfl,rfl⟩:=y;rw[Z] at Y;exact ⟨j,.int (lo+i),by rw[ba,eg Y];rfl,aZ.refl e,Rp.int.mpr rfl⟩
theorem abF(s:au K A ds vs)(r:∀H,aD A H->aD B H->SqL K H p vs):rY K A B (Itv K p vs.length) ds.reverse:=by
 have l:=s.length;refine ⟨λi H Y j Z=>?_,λH Y j=>?_,λi C H x z o Y j Z y=>?_⟩
 . rw[nv,l] at Z;exact ⟨Z,vs,vs[vs.length - 1 - i]'(by lia),r H Y j,av _⟩
 . rw[nv,l];rfl
 . rw[nv,l] at Z;obtain ⟨rfl,y⟩:=y;have e:=y vs (r z (o.trans Y) j);have u:vs.reverse[i]?=some x:=by rw[List.getElem?_reverse Z];exact e
   obtain ⟨d,v,q⟩:=s.reverse.get u;exact ⟨C,d,v,aZ.refl Y,Rp.mono o d q⟩
noncomputable def gw(ds:B4):B4:=(List.range ds.length).map λi=>ab.tuple [.int (i:Nat),ds.getD i .none]
theorem YS(r:au K A ds vs)(j:∀H,aD A H->aD B H->SqL K H p vs):rY K A B (Ite K p) (gw ds):=by
 have z:=r.length;have E:(gw ds).length=vs.length:=by rw[gw,ag,cq,z]
 refine ⟨λi H Y Z u=>?_,λH Y Z=>⟨vs,j H Y Z,by lia⟩,λi I H x D s Y Z u y=>?_⟩
 . exact ⟨vs,vs[i]'(by lia),j H Y Z,av _⟩
 . obtain ⟨q,v,l,rfl,rfl,y⟩:=y;have e:=y vs (j H (s.trans Y) Z);obtain ⟨d,C,rd⟩:=r.get e;have g:=aZ.new (o:=.tup [.int (i:Nat),v]) Y l;refine ⟨_,.tuple [.int i,d],?_,g,Rp.tuple.mpr ⟨q,_,rfl,SqT.of bc,au.cons.mpr ⟨_,_,rfl,Rp.int.mpr rfl,au.one (Rp.mono (s.trans g.aa) d rd)⟩⟩⟩;rw[gw,ba,eg (by lia)];show some (ab.tuple [ab.int (i:Nat),ds.getD i .none])=_;rw[ae,C];rfl
theorem Vj(r:au K A ds vs)(Z:∀H,aD A H->SqT K H p vs):rY K A B (X4 K p) (gw ds):=by
 have z:=r.length;have E:(gw ds).length=vs.length:=by rw[gw,ag,cq,z]
 refine ⟨λi H Y l u=>?_,λH Y l=>⟨vs,Z H Y,by lia⟩,λi I H x D s Y l u y=>?_⟩
 . exact ⟨vs,vs[i]'(by lia),Z H Y,av _⟩
 . obtain ⟨q,v,j,rfl,rfl,y⟩:=y;have e:=y vs (Z H (s.trans Y));obtain ⟨d,C,rd⟩:=r.get e;have g:=aZ.new (o:=.tup [.int (i:Nat),v]) Y j;refine ⟨_,.tuple [.int i,d],?_,g,Rp.tuple.mpr ⟨q,_,rfl,SqT.of bc,au.cons.mpr ⟨_,_,rfl,Rp.int.mpr rfl,au.one (Rp.mono (s.trans g.aa) d rd)⟩⟩⟩;rw[gw,ba,eg (by lia)];show some (ab.tuple [ab.int (i:Nat),ds.getD i .none])=_;rw[ae,C];rfl
noncomputable def itL(m:ME):MI:=λΓ=>(m Γ).bind λd=>match d with
 | .list ds=>.ok ds
 | .tuple ds=>.ok ds
 | _=>.bad
noncomputable def jH(m:ME):MI:=λΓ=>(m Γ).bind λd=>match d with
 | .int j=>gd (-(2^62)<=j/\j<2^62) (.ok ((List.range j.toNat).map λi=>ab.int (0+(i:Nat))))
 | _=>.bad
noncomputable def itV(m:ME):MI:=λΓ=>(m Γ).bind λd=>match d with
 | .list ds=>.ok ds.reverse
 | _=>.bad
noncomputable def itE(m:ME):MI:=λΓ=>(m Γ).bind λd=>match d with
 | .list ds=>.ok (gw ds)
 | .tuple ds=>.ok (gw ds)
 | _=>.bad
variable {m':ME}{elts:C1}{tpos:Pos}
section
variable     {p:Pos}
def afh(K:aE)(tl:TE):TI:=λσ H R=>tl σ H λx H1=>∃a,x= .ref a/\(((∃xs,SqL K H1 a xs)/\R (Itl K a) H1)\/((∃xs,SqT K H1 a xs)/\R (Itt K a) H1))
theorem Rq{C:TE}(D:PE X c C):PI X tg c (afh X.K C):=by
 intro Z s O H R I h;refine thn (D Z s O H _ I h) λv j i=>?_;obtain ⟨x,B,Y,J,z⟩:=i;obtain ⟨a,e,z⟩:=z;subst e;cases J;rcases z with ⟨⟨M,r⟩,q⟩ | ⟨⟨M,r⟩,q⟩
 . obtain ⟨l,L,p,E⟩:=Y.list r;refine vF p.isList (⟨j.heap.objs.size,[j.heap.objs.size],_,_,B,rfl,Y.kept λb o e=>ax _ e,Ui a _,⟨_,cm _ rfl,rfl,rfl⟩,λb u=>?_,q⟩);have e:=by simpa using u
   subst e;exact Y.qy (ay _) (Y.zS.fresh (ay _))
 . obtain ⟨l,L,p,E⟩:=Y.tuple r;refine ml (p) (⟨j.heap.objs.size,[j.heap.objs.size],_,_,B,rfl,Y.kept λb o e=>ax _ e,QK a _,⟨_,cm _ rfl,rfl,rfl⟩,λb u=>?_,q⟩);have e:=by simpa using u
   subst e;exact Y.qy (ay _) (Y.zS.fresh (ay _))
theorem M7{d:ab}{R:It->Hp->Prop}{xs:B4}(j:aD A A')(l:aD B A')(p:Pk K A B d v)(e:(match d with | .list ds=>zi.ok ds | .tuple ds=>.ok ds | _=>.bad)= .ok xs)
 (k:∀J,rY K A B J xs->R J A'):∃a,v= .ref a/\(((∃xs,SqL K A' a xs)/\R (Itl K a) A')\/((∃xs,SqT K A' a xs)/\R (Itt K a) A')):=by
 cases d with
 | list ds=>
  cases e;obtain ⟨q,Z,rfl,i,Y⟩:=p.VL (H:=A');exact ⟨q,rfl,.inl ⟨⟨Z,Y A' j l⟩,k _ (YW i Y)⟩⟩
 | tuple ds=>
  cases e;obtain ⟨q,Z,rfl,i,Y⟩:=p.fZ (H:=A');exact ⟨q,rfl,.inr ⟨⟨Z,Y A' j⟩,k _ (acA i Y)⟩⟩
 | _=>cases e
theorem eZ(h:QE X e (tQ X.K O m)):QI X tg e (tI X.K O (itL m)):=QI.imp (Rq h.h) λu H R Y=>by
 obtain ⟨A,B,p,s,r,em,k⟩:=Y;obtain ⟨d,q,em⟩:=zi.aq em;refine ⟨A,B,p,d,r,q,λv i l Z o=>M7 Z.ah (r.b.trans Z.hh) o em λJ j=>k J i l Z j⟩
theorem jg(h:QE X e (tP X.K O m)):QI X tg e (tIc X.K O (itL m)):=QI.imp (Rq h.h) λu H R Y=>by
 obtain ⟨A,B,p,s,r,em,k⟩:=Y;obtain ⟨d,q,em⟩:=zi.aq em;refine ⟨A,B,p,d,r,q,λv i l Z o=>M7 Z.ah (aD.refl _) o em λJ j=>k J i l Z j⟩
theorem iC(s:Gl X "range")(z:X.mg "range"= none)(o:QE X a (tP X.K O m))(hs:dr [a] X.env=[(false,eval a X.env)]:=by rfl):QI X tg (.Call (.Name "range" p) [a] [] pos) (tI X.K O (jH m)):=
 QI.imp (GR s z (bN o.h eQ hs) hs) λE H R Y=>by
  obtain ⟨A,B,u,D,r,em,k⟩:=Y;obtain ⟨d,C,em⟩:=zi.aq em
  cases d with
  | int j=>
   obtain ⟨Z,em⟩:=bO em;cases em;exact ⟨A,B,u,_,r,C,λv e i l q=>⟨j,by rw[q.int],Z.1,Z.2,k _ e i l (Jw 0 _)⟩⟩
  | _=>cases em
theorem mO(s:Gl X "range")(z:X.mg "range"= none)(o:QE X a (tP X.K O m))(hs:dr [a] X.env=[(false,eval a X.env)]:=by rfl):QI X tg (.Call (.Name "range" p) [a] [] pos) (tIc X.K O (jH m)):=
 QI.imp (GR s z (bN o.h eQ hs) hs) λE H R Y=>by
  obtain ⟨A,B,u,D,r,em,k⟩:=Y;obtain ⟨d,C,em⟩:=zi.aq em
  cases d with
  | int j=>
   obtain ⟨Z,em⟩:=bO em;cases em;exact ⟨A,B,u,_,r,C,λv e i l q=>⟨j,by rw[q.int],Z.1,Z.2,k _ e i l (Jw 0 _)⟩⟩
  | _=>cases em
theorem acI(u:Gl X "reversed")(C:X.mg "reversed"= none)(o:QE X a (tQ X.K O m))(hs:dr [a] X.env=[(false,eval a X.env)]:=by rfl):QI X tg (.Call (.Name "reversed" p) [a] [] pos) (tI X.K O (itV m)):=
 QI.imp (ac4 u C (bN o.h eQ hs) hs) λL H R Y=>by
  obtain ⟨A,B,z,J,r,em,k⟩:=Y;obtain ⟨d,D,em⟩:=zi.aq em
  cases d with
  | list I=>
   cases em;refine ⟨A,B,z,_,r,D,λv j Z e s=>?_⟩;obtain ⟨q,l,rfl,E,i⟩:=s.VL (H:=Z);exact ⟨q,l,rfl,i Z e.ah (r.b.trans e.hh),k _ j Z e (abF E i)⟩
  | _=>cases em
theorem MF{x1}(E:Gl X "enumerate")(I:X.mg "enumerate"= none)(D:QE X a (tQ X.K O m))(hs:dr [a] X.env=[(false,eval a X.env)]:=by rfl):QI X (.Tuple elts x1 tpos) (.Call (.Name "enumerate" p) [a] [] pos) (tI X.K O (itE m)):=
 QI.imp (VH E I (bN D.h eQ hs) hs) λL H R i=>by
  obtain ⟨A,B,u,J,r,em,k⟩:=i;obtain ⟨d,z,em⟩:=zi.aq em
  cases d with
  | list C=>
   cases em;refine ⟨A,B,u,_,r,z,λv j Y Z o=>?_⟩;obtain ⟨q,l,rfl,s,e⟩:=o.VL (H:=Y);exact ⟨q,l,rfl,.inl ⟨e Y Z.ah (r.b.trans Z.hh),k _ j Y Z (YS s e)⟩⟩
  | tuple C=>
   cases em;refine ⟨A,B,u,_,r,z,λv j Y Z o=>?_⟩;obtain ⟨q,l,rfl,s,e⟩:=o.fZ (H:=Y);exact ⟨q,l,rfl,.inr ⟨e Y Z.ah,k _ j Y Z (Vj s e)⟩⟩
  | _=>cases em
end
abbrev MG:=ab->Ev->zi Ev
noncomputable def gN(i:Nat):MG:=λd Γ=>gd (i < Γ.length) (.ok (Γ.set i (some d)))
noncomputable def gTs:List MG->B4->Ev->zi Ev
 | [],[],Γ=>.ok Γ
 | g::gs,d::ds,Γ=>(g d Γ).bind λΓ'=>gTs gs ds Γ'
 | _,_,_=>.bad
noncomputable def gT(gs:List MG):MG:=λd Γ=>match d with
 | .tuple ds=>gTs gs ds Γ
 | _=>.bad
def q9(is:B5)(σ σ':St):Prop:=σ'.length=σ.length/\∀j,j∉is->σ'[j]?=σ[j]?
theorem q9.trans{is e:B5}{Y σ'':St}(h:q9 is σ Y)(h':q9 e Y σ''):q9 (is++e) σ σ'':=
 ⟨h'.1.trans h.1,λj Z=>(h'.2 j λz=>Z (c6 _ z)).trans (h.2 j λz=>Z (da _ z))⟩
def tG(K:aE)(O O':B9)(is:B5)(g:MG):TG:=λv σ H Q=>∃A B Γ d Γ',aY K A B H O σ Γ/\Rp K A d v/\g d Γ = .ok Γ'/\∀σ',aY K A B H O' σ' Γ'->q9 is σ σ'->Q σ' H
def tGs(K:aE)(O O':B9)(is:B5)(gs:List MG):TGs:=λvs σ H Q=>∃A B Γ ds Γ',aY K A B H O σ Γ/\au K A ds vs/\gTs gs ds Γ = .ok Γ'/\∀σ',aY K A B H O' σ' Γ'->q9 is σ σ'->Q σ' H
theorem PG.imp{t t':TG}(h:PG X tg t)(i:∀v σ H Q,t' v σ H Q->t v σ H Q):PG X tg t':=λY s σ H v u Q I r q=>h Y s σ H v u Q I r (i v σ H Q q)
theorem PGs.imp{t t':TGs}(h:PGs X rest t)(i:∀v σ H Q,t' v σ H Q->t v σ H Q):PGs X rest t':=λY s σ H v u Q I r q=>h Y s σ H v u Q I r (i v σ H Q q)
theorem QG.imp{t t':TG}(h:PG X tg t)(i:∀v σ H Q,t' v σ H Q->t v σ H Q):QG X tg t':=⟨PG.imp h i⟩
theorem QGs.imp{t t':TGs}(h:PGs X rest t)(i:∀v σ H Q,t' v σ H Q->t v σ H Q):QGs X rest t':=⟨PGs.imp h i⟩
theorem By:∀{gs:List MG}{ds:B4}{Γ Y:Ev},gTs gs ds Γ = .ok Y->ds.length=gs.length
 | [],[],_,_,_=>rfl
 | g::gs,d::ds,Γ,Y,h=>by
  obtain ⟨Z,_,h⟩:=zi.aq h;rw[bo,bo,By h]
section
variable   {is js:B5}{g:MG}{gs:List MG}  {es:C1}
theorem cY(i:Nat)(C:X.N.Nodup)(Z:X.N[i]?=some x)(o:Loc X.env.scope x)(l:i<O.length:=by exact of_decide_eq_true rfl)(u:X.fn x=true\/X.env.scope.names.lookup x=some .local:=by walk_at "hf")(s:O.set i .zD=O2:=by rfl) :
 QG X (.Name x pos) (tG X.K O O2 [i] (gN i)):=s ▸ QG.imp (Z6 C Z o u) λv E H Q Y=>by
 obtain ⟨A,B,D,d,e,r,p,em,k⟩:=Y;obtain ⟨Z,em⟩:=bO em;cases em;exact k _ (r.set Z l p) ⟨fq ..,λj q=>ow (λz=>q (by rw[z];exact br))⟩
theorem vm:QGs X [] (tGs X.K O O [] []):=QGs.imp aam λl i H Q Y=>by
 obtain ⟨A,B,j,Z,e,r,p,em,k⟩:=Y
 cases Z with
 | nil=>cases em;exact ⟨au.nil.mp p,k i r ⟨rfl,λ_ _=>rfl⟩⟩
 | cons d Z=>cases em
theorem Br(u:QG X e (tG X.K O O1 is g))(J:QGs X es (tGs X.K O1 O2 js gs))(hs:(nr (e::es) X.env).map (·.2)=assign e X.env::(nr es X.env).map (·.2):=by rfl):QGs X (e::es) (tGs X.K O O2 (is++js) (g::gs)):=by
 refine QGs.imp (WQ u.h J.h ?_) λL M H Q ⟨A,B,C,i,Z,r,p,em,k⟩=>?_
 . exact hs
 . cases i with
   | nil=>cases em
   | cons d i=>
    obtain ⟨Y,I,em⟩:=zi.aq em;obtain ⟨v,D,rfl,z,l⟩:=au.cons.mp p;exact ⟨v,D,rfl,A,B,C,d,Y,r,z,I,λo q y=>⟨A,B,Y,i,Z,q,l,em,λj E s=>k j E (y.trans s)⟩⟩
theorem xR{n:Nat}(q:X.calm=true)(h:QGs X es (tGs X.K O O' is gs))(j:gs.length=n:=by rfl)
 (D:(nr es X.env).length=n:=by rfl) (e:(nr es X.env).findIdx? (·.1)=none:=by rfl):QG X (.Tuple es i pos) (tG X.K O O' is (gT gs)):=QG.imp (abC q h.h D e) λv E H Q Y=>by
 obtain ⟨A,B,C,d,Z,r,p,em,i⟩:=Y
 cases d with
 | tuple u=>
  have s:=Rp.tuple.mp p;obtain ⟨a,o,rfl,z,l⟩:=s;exact ⟨a,o,rfl,r.a.fZ z,by rw[<- l.length,<- j];exact By em,A,B,C,u,Z,r,l,em,i⟩
 | _=>cases em
end
noncomputable def pO(O Oe:B9)(cl:B5):Bool:=Oe.length == O.length&&(List.range O.length).all λj=>decide (fl Oe j=fl O j)||cl.contains j
variable {Oe:B9}{cl:B5}
theorem U3(h:pO O Oe cl=true)(j:Nat):fl Oe j=fl O j\/j∈cl:=by
 unfold pO at h;rw[dQ,gc] at h;rcases fx j O.length with hj | hj
 . have:=h.2 j (er.mpr hj);rw[sC] at this;rcases this with z | z
   . exact .inl (of_decide_eq_true z)
   . exact .inr (by simpa using z)
 . left;unfold fl;rw[ae,ae,d3 hj,d3 (by rw[show Oe.length=O.length by simpa using h.1];exact hj)]
theorem KH:∀(l:B5) (Γ:Ev) (j:Nat),j∈l->gv (clr l Γ) j=none
 | i::l,Γ,j,h=>by
  by_cases Y:j∈l
  . exact KH l (Γ.set i none) j Y
  . have e:j=i:=by
     rcases b9.mp h with z | z
     . exact z
     . exact absurd z Y
    subst e;rcases (CN l (Γ.set j none)).2 j with z | z
    . exact z
    . show gv (clr l (Γ.set j none)) j=none;rw[z];rw[gv,ae]
      by_cases Z:j < Γ.length
      . rw[lP Z];rfl
      . rw[d3 (by rw[fq];lia)];rfl
theorem aY.jL(q:pO O Oe cl=true)(r:aY K A B H Oe σ Γ):aY K A B H O σ (Zq.clr cl Γ):=by
 have Y:=r.clr cl;have l:∀j,gv (Zq.clr cl Γ) j≠none->fl O j=fl Oe j:=λj n=>by
  rcases U3 q j with z | z
  . exact z.symm
  . exact absurd (KH cl Γ j z) n
 refine ⟨Y.a,Y.b,Y.len,λj d e=>?_,λi j Z s u o p=>Y.sep i j Z (by rw[<- l i o];exact s) (by rw[<- l j p];exact u) o p⟩;have:=Y.slot j d e;rw[l j (by rw[e];simp)];exact this
noncomputable def forR(g:MG)(cl:B5)(b:MS):B4->Ev->zi Out
 | [],Γ=>.ok (.nx Γ)
 | x::xs,Γ=>(g x Γ).bind λΓ1=>(b Γ1).bind λo=>match o with
  | .nx Γ2=>forR g cl b xs (clr cl Γ2)
  | .ct Γ2=>forR g cl b xs (clr cl Γ2)
  | .bk Γ2=>.ok (.nx (clr cl Γ2))
  | .rt d=>.ok (.rt d)
noncomputable def cH(it:MI)(g:MG)(cl:B5)(b:MS):MS:=λΓ=>(it Γ).bind λxs=>forR g cl b xs Γ
section
variable    {is:B5}{g:MG}{it:MI}  {mb:MS}{iter:Expr}{body:C4}
theorem iD(hp:tz (dn X.prog X.w) X.A X.env X.xe)(hc:X.calm=true)(cl:B5)(hi:QI X tg iter (tI X.K O it))(hg:QG X tg (tG X.K O O is g))(hb:QSs X body (tS X.K rm Oe O Oe mb))(hE:pO O Oe cl=true)
 (hs:∀x,iP iter X.env x=pure x:=by intro _;rfl):QS X (.For tg iter body [] pos) (tS X.K rm Ol O O (cH it g cl mb)):=by
 refine QS.imp (Ut hp hc hi.h hg.h hb.h hs) λD σ H Vw=>?_;obtain ⟨A,B,Γ,o,r,em,k⟩:=Vw;obtain ⟨j,e1,em⟩:=zi.aq em;refine ⟨A,B,Γ,j,r,e1,λJ A1 H1 g1 hj=>?_⟩;refine ⟨λi n M U=>n=j.length - i/\i<=j.length/\∃P C,aY X.K P B U O M C/\aD A P/\New A P B/\aD A1 P/\forR g cl mb (j.drop i) C= .ok o,⟨j.length,rfl,iS _,A1,Γ,r.grow g1,g1.aa,g1.nB r.b,aD.refl _,em⟩,?_⟩;rintro i n M U ⟨rfl,hi.h,P,C,z,sa,nw,s,p⟩
 by_cases Z:i<j.length
 . refine .inr ⟨hj.go i U (s.trans z.a) z.b Z,λL H''=>i+1<=j.length/\∃u Y,aY X.K u B H'' O L Y/\aD A u/\New A u B/\aD A1 u/\forR g cl mb (j.drop (i+1)) Y= .ok o,?_,λx H3 y=>?_⟩
   . rintro L H'' ⟨h1,u,Y,h2⟩;exact ⟨j.length - (i+1),by lia,rfl,h1,u,Y,h2⟩
   . obtain ⟨u,d,ed,g3,p3⟩:=hj.yld i P U x H3 s z.a z.b Z y;have hd:j.drop i=d::j.drop (i+1):=by
      rw[mM Z];rw[av Z] at ed;cases ed;rfl
     rw[hd] at p;obtain ⟨Y,e3,p⟩:=zi.aq p;obtain ⟨o3,e4,p⟩:=zi.aq p;have l:=sa.trans g3.aa;have q:=nw.trans (g3.nB z.b);refine ⟨u,B,C,d,Y,z.grow g3,p3,e3,λσ4 r4 _=>⟨u,B,Y,o3,r4,e4,?_⟩⟩;have sb:∀{D':Ends},tV X.K rm Ol O A B D' o->tV X.K rm Ol O u B D' o:=λh=>h.sub l q
     cases o3 with
     | nx I=>exact λR Q H5 r5 E S=>⟨Z,Q,clr cl I,r5.jL hE,l.trans E,q.trans S,s.trans (g3.aa.trans E),p⟩
     | ct I=>exact λR Q H5 r5 E S=>⟨Z,Q,clr cl I,r5.jL hE,l.trans E,q.trans S,s.trans (g3.aa.trans E),p⟩
     | bk I=>
      cases p;exact λR Q H5 r5 E S=>k R Q H5 (r5.jL hE) (l.trans E) (q.trans S)
     | rt d'=>
      cases p;exact λv Q H5 q1 q2 E S rv=>k v Q H5 q1 q2 (l.trans E) (q.trans S) rv
 . have e:i=j.length:=by lia
   subst e;rw[r6] at p;cases p;exact .inl ⟨hj.stop U (s.trans z.a) z.b,k M P U z sa nw⟩
end
noncomputable def whR(c:ME)(cl:B5)(b:MS):Nat->Ev->zi Out
 | 0,_=>.bad
 | n+1,Γ=>(c Γ).bind λx=>match x with
  | .bool true=>(b Γ).bind λo=>match o with
   | .nx Γ2=>whR c cl b n (clr cl Γ2)
   | .ct Γ2=>whR c cl b n (clr cl Γ2)
   | .bk Γ2=>.ok (.nx (clr cl Γ2))
   | .rt d=>.ok (.rt d)
  | .bool false=>.ok (.nx Γ)
  | _=>.bad
noncomputable def mZ(fuel:Nat)(c:ME)(cl:B5)(b:MS):MS:=λΓ=>whR c cl b fuel Γ
section
variable      {mc:ME}{mb:MS}{body:C4}
theorem HD(hp:tz (dn X.prog X.w) X.A X.env X.xe)(fuel:Nat)(cl:B5)(hc:QT X c (tT X.K O mc))(hb:QSs X body (tS X.K rm Oe O Oe mb))(P:pO O Oe cl=true):QS X (.While c body [] pos) (tS X.K rm Ol O O (mZ fuel mc cl mb)):=by
 refine QS.imp (V7 hp hc.h hb.h) λD σ H ⟨A,B,Γ,o,r,em,k⟩=>⟨λn z S=>∃j Y,aY X.K j B S O z Y/\aD A j/\New A j B/\whR mc cl mb n Y= .ok o,⟨fuel,A,Γ,r,aD.refl _,λ_ h _=>h,em⟩,?_⟩;rintro n z S ⟨j,Y,M,sa,nw,i⟩
 cases n with
 | zero=>cases i
 | succ n=>
  obtain ⟨x,e3,i⟩:=zi.aq i
  cases x with
  | bool R=>
   refine ⟨j,B,Y,R,M,e3,λQ H3 L=>?_⟩;have e:=sa.trans L.aa;have Z:=nw.trans (L.nB M.b)
   cases R with
   | false=>
    cases i;exact yM (k z Q H3 (M.grow L) e Z)
   | true=>
    obtain ⟨U,e4,i⟩:=zi.aq i;refine yw ⟨λp J=>∃j Y,aY X.K j B J O p Y/\aD A j/\New A j B/\whR mc cl mb n Y= .ok o,λp J h=>⟨n,nE _,h⟩,Q,B,Y,U,M.grow L,e4,?_⟩
    cases U with
    | nx l=>exact λu q I E s C=>⟨q,clr cl l,E.jL P,e.trans s,Z.trans C,i⟩
    | ct l=>exact λu q I E s C=>⟨q,clr cl l,E.jL P,e.trans s,Z.trans C,i⟩
    | bk l=>cases i;exact λu q I E s C=>k u q I (E.jL P) (e.trans s) (Z.trans C)
    | rt d'=>cases i;exact λv q I q1 q2 s C rv=>k v q I q1 q2 (e.trans s) (Z.trans C) rv
  | _=>cases i
end
noncomputable def tZ(g:MG)(c:ME)(e:ME)(Γ:Ev):B4->zi B4
 | []=>.ok []
 | x::xs=>(g x Γ).bind λΓ1=>(c Γ1).bind λt=>match t with
  | .bool true=>(e Γ1).bind λd=>(tZ g c e Γ xs).bind λds=>.ok (d::ds)
  | .bool false=>tZ g c e Γ xs
  | _=>.bad
noncomputable def jr(nt:Nat)(ix:B5)(Γ:Ev):Ev:=aI nt none++ix.map (gv Γ)
noncomputable def bfl:Fl->Fl
 | .own=>.zC
 | .fix _=>.zC
 | .nst _=>.nst false
 | f=>f
noncomputable def m6(nt:Nat)(ix:B5)(O:B9):B9:=aI nt .zD++ix.map λi=>bfl (fl O i)
noncomputable def bR(it:MI)(g:MG)(c e:ME)(nt:Nat)(ix:B5):ME:=λΓ=>(it Γ).bind λxs=>gd (xs.length<bt) ((tZ g c e (jr nt ix Γ) xs).bind λds=>.ok (.list ds))
theorem aaR:(σ[i]?).join=sv σ i:=by
 rw[sv,ae]
 cases σ[i]? with
 | none=>rfl
 | some o=>rfl
theorem tL{α:Type}{os:List α}{ix:B5}{f:Nat->α}{d:α}(j:Nat):(os++ix.map f).getD j d=if j<os.length then os.getD j d else match ix[j - os.length]? with | some i=>f i | none=>d:=by
 rw[ae];split
 . rename_i h;rw[cE h,ae]
 . rename_i h;rw[bE (by lia),ba];cases ix[j - os.length]? <;> rfl
theorem aY.block(r:aY K A B H O σ Γ){os:List (Option V)}{Z:Nat}(o:os.length=Z)(ix:B5):aY K A H H (m6 Z ix O) (os++ix.map λi=>(σ[i]?).join) (jr Z ix Γ):=by
 have s:∀j,isO (fl (m6 Z ix O) j)=false:=λj=>by
  unfold fl m6;rw[tL,cf];split
  . rw[ae,ij];split <;> rfl
  . cases ix[j - Z]? with
    | none=>rfl
    | some i=>simp only;cases fl O i <;> rfl
 refine ⟨r.a,aD.refl _,?_,λj d e=>?_,λi j _ u _ _ _=>absurd (u.symm.trans (s i)) Bool.noConfusion⟩
 . rw[jr,ai,ai,cf,ag,ag,o]
 . unfold gv jr at e;rw[tL,cf] at e;split at e
   . rw[ae,ij] at e;split at e <;> cases e
   . rename_i p
     cases q:ix[j - Z]? with
     | none=>rw[q] at e;cases e
     | some i=>
      rw[q] at e;obtain ⟨v,E,Y⟩:=r.slot i d e;refine ⟨v,?_,?_⟩
      . rw[sv,tL,if_neg (by lia),o,q];show (σ[i]?).join=some v;rw[aaR];exact E
      . have D:fl (m6 Z ix O) j=bfl (fl O i):=by
         unfold fl m6;rw[tL,cf,if_neg p,q]
        rw[D]
        cases l:fl O i with
        | zD=>rwa [l] at Y
        | zC=>rw[l] at Y;exact Pk.mono (aD.refl _) r.b Y
        | own=>rw[l] at Y;exact Own.pk Y
        | fix I=>rw[l] at Y;exact Own.pk Y.2
        | exc C=>rwa [l] at Y
        | nst b=>exact λz=>nomatch z
        | kit=>rwa [l] at Y
variable {ifs:C1}
theorem su.imp{t:TT}(h:su X ifs t)(i:∀σ H Q,t' σ H Q->t σ H Q):su X ifs t':=λY s σ H Q I q=>h Y s σ H Q I (i σ H Q q)
theorem xU.imp{t:TT}(h:su X ifs t)(i:∀σ H Q,t' σ H Q->t σ H Q):xU X ifs t':=⟨su.imp h i⟩
theorem eY:xU X [] (tT X.K O (eC (.bool true))):=xU.imp U8 λe H Q Y=>by
 obtain ⟨A,B,Z,b,r,em,k⟩:=Y;cases em;exact k A H (aZ.refl r.a)
theorem oU(h:QT X c (tT X.K O m)):xU X [c] (tT X.K O m):=⟨Xo h.h⟩
section
variable  {Ob:B9}{tn:B6}{ix:B5}{it:MI}{g:MG}{mc me:ME}
theorem Av(hOb:Ob=m6 tn.length ix O){nt:Nat}(hnt:nt=tn.length)(his:∀j∈cl,j<tn.length){Q:VK}(h:tF K O (bR it g mc me nt ix) σ H Q):Hl tn ix (tIc K O it) (tG K Ob O1 cl g) (tT K O1 mc) (tE K O1 me) σ H Q:=by
 subst hOb hnt;obtain ⟨A,B,Γ,d,r,em,k⟩:=h;obtain ⟨E,e1,em⟩:=zi.aq em;obtain ⟨hz,em⟩:=bO em;obtain ⟨ds,e2,em⟩:=zi.aq em;cases em;refine ⟨A,B,Γ,E,r,e1,λJ A1 H1 g1 hj D hD=>?_⟩;have r1:=r.grow g1;have hAD:=g1.ah.free hD;refine ⟨λi n σb P H2=>n=E.length - i/\i<=E.length/\P.length<=i/\(∃os:List (Option V),os.length=tn.length/\σb=os++ix.map λi=>(σ[i]?).join)/\∃U,aD A1 U/\New A1 U H1/\aD U H2/\aD H1 H2/\U D=none/\H2 D=some (.lst P) /\
  ∃s S,ds=s++S/\au K U s P/\tZ g mc me (jr tn.length ix Γ) (E.drop i)= .ok S,⟨E.length,rfl,iS _,iS _,⟨_,cf,rfl⟩,A1,aD.refl _,λ_ h _=>h,g1.ah.trans (aD.new hD _),aD.new hD _,hAD,bc,[],ds,rfl,au.nil.mpr rfl,e2⟩,?_⟩
 rintro i n σb P H2 ⟨rfl,hi,hacc,⟨os,ho,rfl⟩,U,L,nw,s2,Z,a2,M,s,S,rfl,rp,l⟩;refine ⟨M,?_⟩
 by_cases I:i<E.length
 . refine .inr ⟨hj.go i H2 (L.trans s2) Z I,by lia,λx H3 y=>?_⟩;obtain ⟨A3,dx,ed,Y,p3⟩:=hj.yld i U H2 x H3 L s2 Z I y;have hd:E.drop i=dx::E.drop (i+1):=by
    rw[mM I];rw[av I] at ed;cases ed;rfl
   rw[hd] at l;obtain ⟨Γ1,e4,l⟩:=zi.aq l;obtain ⟨t,e5,l⟩:=zi.aq l;have rb:=by
    have rr:aY K A3 B H3 O σ Γ:=by
     refine ⟨Y.ah,r1.b.trans (Z.trans Y.hh),r1.len,λj=>?_,r1.sep⟩;intro d' e';obtain ⟨v',e'',q⟩:=r1.slot j d' e';refine ⟨v',e'',?_⟩
     cases hf:fl O j with
     | zD=>rw[hf] at q;exact Rp.mono (L.trans Y.aa) d' q
     | zC=>rw[hf] at q;exact Pk.mono (L.trans Y.aa) (aD.refl _) q
     | own=>
      rw[hf] at q;obtain ⟨o,o',rfl,u1,u2,u3,u4⟩:=q;have n1:=nw o u2 (by rw[u1];simp);exact ⟨o,o',rfl,Y.hh _ _ (Z _ _ u1),Y.nw o n1 (by rw[Z _ _ u1];simp),u3,u4.mono (L.trans Y.aa)⟩
     | fix p0=>
      rw[hf] at q;obtain ⟨q0,o,o',rfl,u1,u2,u3,u4⟩:=q;have n1:=nw o u2 (by rw[u1];simp);exact ⟨q0,o,o',rfl,Y.hh _ _ (Z _ _ u1),Y.nw o n1 (by rw[Z _ _ u1];simp),u3,u4.mono (L.trans Y.aa)⟩
     | kit=>rw[hf] at q;exact qm.mono (L.trans Y.aa) q
     | exc C=>
      rw[hf] at q;obtain ⟨o,ob,w1,w2,w3⟩:=q;exact ⟨o,ob,w1,(L.trans Y.aa) _ _ w2,w3⟩
     | nst b=>
      rw[hf] at q;intro z;obtain ⟨o,E,y9,w1,w2,w3,w4,w5,w6⟩:=q z;have n1:=nw o w4 (by rw[w3];simp);exact ⟨o,E,y9,w1,w2,Y.hh _ _ (Z _ _ w3),Y.nw o n1 (by rw[Z _ _ w3];simp),w5,w6.mono (L.trans Y.aa)⟩
    exact rr.block ho ix
   refine ⟨A3,H3,_,dx,Γ1,rb,p3,e4,λσ4 r4 y4=>?_⟩;have hos:∃os':List (Option V),os'.length=tn.length/\σ4=os'++ix.map λi=>(σ[i]?).join:=by
    have hl4:σ4.length=tn.length+ix.length:=by rw[y4.1,ai,ag,ho]
    refine ⟨σ4.take tn.length,by rw[dc];lia,k9 λj=>?_⟩;rcases fx j tn.length with hj | hj
    . rw[cE (by rw[dc];lia),kN hj]
    . rw[y4.2 j (λz=>absurd (his j z) (by lia)),bE (by lia),bE (by rw[dc];lia),dc,ho];congr 1;lia
   cases t with
   | bool bb=>
    refine ⟨A3,H3,Γ1,bb,r4,e5,λA4 H4 R=>?_⟩;have nw4:=nw.trans ((Y.trans R).nw.mono Z);have hD4:=R.hh _ _ (Y.hh _ _ M);have a4:=(Y.trans R).nw D a2 (by rw[M];simp)
    cases bb with
    | false=>
     refine yM ⟨E.length - (i+1),by lia,rfl,I,by lia,hos,A4,L.trans (Y.trans R).aa,nw4,R.ah,Z.trans (Y.trans R).hh,a4,hD4,s,S,rfl,au.mono (Y.trans R).aa _ rp,l⟩
    | true=>
     obtain ⟨dv,e6,l⟩:=zi.aq l;obtain ⟨ds3,e7,l⟩:=zi.aq l;cases l;refine yw ⟨A4,H3,Γ1,dv,r4.grow R,e6,λv A5 H5 g5 p5=>?_⟩;have gg:=(Y.trans R).trans g5;have hD5:=g5.hh _ _ hD4;have a5:=gg.nw D a2 (by rw[M];simp);refine ⟨hD5,E.length - (i+1),by lia,rfl,I,by rw[ai,cK];lia,hos,A5,L.trans gg.aa,nw.trans (gg.nw.mono Z),λb u q=>?_,?_,a5,bc,s++[dv],ds3,by rw[dy];rfl,(au.mono gg.aa _ rp).append (au.one p5),e7⟩
     . have hb:b≠D:=λz=>by rw[z,a5] at q;cases q
       rw[aH hb];exact g5.ah b u q
     . exact (Z.trans gg.hh).up hD
   | _=>cases l
 . have e:i=E.length:=by lia
   subst e;rw[r6] at l;cases l;rw[c8] at k;refine .inl ⟨hj.stop H2 (L.trans s2) Z,k _ U H2 ⟨g1.aa.trans L,g1.hh.trans Z,s2,λp n1 n2=>nw p (g1.nw p n1 n2) (aD.ne g1.hh n2)⟩ ⟨D,_,rfl,g1.hh.free hD,M,a2,.inl ⟨s,P,rfl,rfl,rp⟩⟩⟩
end
section
variable  {Ob:B9}{scope:tJ}{tn:B6}{ix is:B5}{it:MI}{g:MG}{mc me:ME}{elt iter:Expr}   {nt:Nat}
theorem fW(e:B6)(ix:B5)(S:iH X scope ix=true)(r:X.calm=true)(o:Ob=m6 e.length ix O)(i:nt=e.length)(l:∀j∈is,j<e.length)(q:QI X tg iter (tIc X.K O it))
 (u:∀cl C Y Z fp,QG (X.comp scope e ix cl C Y Z fp) tg (tG X.K Ob O1 is g)) (p:∀cl C Y Z fp,xU (X.comp scope e ix cl C Y Z fp) ifs (tT X.K O1 mc)) (s:∀cl C Y Z fp,QE (X.comp scope e ix cl C Y Z fp) elt (tE X.K O1 me))
 (hs:∀x,iP iter X.env x=pure x:=by intro _;rfl):QE X (.ListComp elt [⟨tg,iter,ifs,0⟩] scope pos) (tF X.K O (bR it g mc me nt ix)):=
 QE.imp (Z1 S r q.h (λcl C Y Z fp=>(u cl C Y Z fp).h) (λcl C Y Z fp=>(p cl C Y Z fp).h) (λcl C Y Z fp=>(s cl C Y Z fp).h) hs) λv H Q h=>Av o i l h
theorem uQ(i:Nat)(e:B6)(ix:B5){y:Str}(B:X.N.Nodup)(o:X.N[i]?=some y)(E:Loc X.env.scope y)(S:iH X scope ix=true)(s:X.calm=true)(r:Ob=m6 e.length ix O)(l:nt=e.length)(q:∀j∈is,j<e.length)(J:QI X tg iter (tIc X.K O it))
 (v:∀cl C Y Z fp,QG (X.comp scope e ix cl C Y Z fp) tg (tG X.K Ob O1 is g)) (I:∀cl C Y Z fp,xU (X.comp scope e ix cl C Y Z fp) ifs (tT X.K O1 mc)) (P:∀cl C Y Z fp,QE (X.comp scope e ix cl C Y Z fp) elt (tE X.K O1 me))
 (L:i<O.length:=by exact of_decide_eq_true rfl) (p:hV (.ListComp elt [⟨tg,iter,ifs,0⟩] scope pos) (some (.Name y pos')) tpos.line X.env=pure true:=by rfl)
 (M:X.fn y=true\/X.env.scope.names.lookup y=some .local:=by walk_at "hf")
 (hs:∀x,iP iter X.env x=pure x:=by intro _;rfl) (u:O.set i .own=O2:=by rfl):QS X (.Assign [.Name y pos'] (.ListComp elt [⟨tg,iter,ifs,0⟩] scope pos) tpos) (tS X.K rm Ol O O2 (aU i (bR it g mc me nt ix))):=
 u ▸ QS.imp (Mt B o E S s J.h (λcl C Y Z fp=>(v cl C Y Z fp).h) (λcl C Y Z fp=>(I cl C Y Z fp).h) (λcl C Y Z fp=>(P cl C Y Z fp).h) p M hs) λD z H=>yc (λz H Q h=>Av r l q h) L
end
noncomputable def lN(i:Nat)(m:ME):MS:=λΓ=>(m Γ).bind λd=>match gv Γ i with
 | some (.list ds)=>gd (ds.length<bt/\i < Γ.length) (.ok (.nx (Γ.set i (some (.list (ds++[d]))))))
 | _=>.bad
noncomputable def sE(i:Nat)(m:ME):MS:=λΓ=>(m Γ).bind λd=>match gv Γ i,d with
 | some (.list ds),.list es=>gd (ds.length+es.length<=bt/\i < Γ.length) (.ok (.nx (Γ.set i (some (.list (ds++es))))))
 | _,_=>.bad
noncomputable def O9(i:Nat)(m m':ME):MS:=λΓ=>(m Γ).bind λk=>(m' Γ).bind λd=>match gv Γ i,k with
 | some (.list ds),.int j=>gd (0<=j/\j<=ds.length/\ds.length<1000/\i < Γ.length) (.ok (.nx (Γ.set i (some (.list (ds.take j.toNat++d::ds.drop j.toNat))))))
 | _,_=>.bad
variable {apos cpos:Pos}
section
variable      {p:Pos}
theorem o4(r:aY K A B H O σ Γ)(j:isO (fl O i)=true)(Z:gv Γ i=some (.list ds)):∃q vs,sv σ i=some (.ref q)/\H q=some (.lst vs)/\au K A ds vs:=by
 obtain ⟨d,q,o,Y,l,v,C,z,⟨p,vs,rfl,rfl,e⟩ | ⟨s,u,rfl,rfl,e⟩⟩:=r.oh j (by rw[Z];simp)
 rotate_right
 . rw[Z] at Y;cases Y
 rw[Z] at Y;cases Y;exact ⟨q,vs,l,v,e⟩
theorem jh(i:Nat)(he:QE X e (tE X.K O m))(P:isO (fl O i)=true:=by rfl)(C:Nm X i x:=by walk_at "nm")(j:l5 (.Name x p) "append" X.env (eval (.Name x p) X.env)=eval (.Name x p) X.env:=by rfl)
 (s:((mI cpos (dr (e::[]) X.env)).all (λx=>!x.1)&&(ua cpos (ox [] X.env)).all (λx=>x.1.isSome)
  && decide ((e::[]).length+([]:List om).length+(if ([]:List om).isEmpty then 0 else 1)<30))=true:=by rfl)
 (Z:(apos.endLine == cpos.line)=true:=by rfl) (hs:dr (e::[]) X.env=(false,eval e X.env)::dr [] X.env:=by rfl) (Y:(mI cpos (dr [] X.env)).any (·.1)=false:=by rfl)
 (E:hV (.Call (.Attribute (.Name x p) "append" apos) [e] [] cpos) none pos.line X.env=pure false:=by rfl) :
 QS X (.Expr (.Call (.Attribute (.Name x p) "append" apos) [e] [] cpos) pos) (tS X.K rm Ol O O (lN i m)):=by
 refine QS.imp (oW (BV la qo wh yg (dO C.1 C.2 C.3 C.4) (bN he.h eQ hs) j s Z hs Y) E) λD σ H u=>?_;obtain ⟨A,B,M,o,r,em,k⟩:=u;obtain ⟨d,e1,em⟩:=zi.aq em
 cases z:gv M i with
 | none=>rw[z] at em;cases em
 | some dl=>
  rw[z] at em
  cases dl with
  | list ds=>
   obtain ⟨⟨U,J⟩,em⟩:=bO em;cases em;obtain ⟨q,Q,R,I,L⟩:=o4 r P z;refine ⟨.ref q,dU R,.inl ⟨rfl,Q,SqL.of I⟩,A,B,M,d,r,e1,λv S H1 l p1=>⟨q,Q,v,rfl,rfl,l.hh _ _ I,by rw[<- L.length];exact U,?_⟩⟩;exact k σ S _ ((r.grow l).change P J (by rw[z];simp) R (l.hh _ _ I) (.inl ⟨_,_,rfl,rfl,(au.mono l.aa _ L).append (au.one p1)⟩)) l.aa (l.nB r.b)
  | _=>cases em
def W6:V->C0->Hp->VK->Prop:=λx vs H Q=>∃l b xs zs,x= .ref l/\vs=[.ref b]/\H l=some (.lst xs)/\Rd H b (.lst zs)/\xs.length+zs.length<=bt/\Q .non (zw H l (.lst (xs++zs)))
theorem QC:MtM X "list.extend" W6:=by
 rintro o s σ H x O v R Q I C J ⟨l,b,xs,zs,rfl,rfl,B,E,U,q⟩;cases C;obtain ⟨u,rfl,M⟩:=J.one;cases M;obtain ⟨z,Z,n,r,P,e⟩:=I.Pu B;obtain ⟨S,Y,n2,p,D⟩:=E.ok I.zS;have L:=p.length;have j:Z.toArray.size+Y.toArray.size<=bt:=by rw[dA,dA];lia
 have i:¬ (!Z.toArray.isEmpty&&kP (Z.toArray.size+Y.toArray.size))=true:=by
  rw[Ji j,qV];exact fo
 refine xE oi ⟨_,e,rfl⟩ F.entry_list_extend (F.args_list_extend_2 _ _)
  (AutoSeq1.list_extend_list_list_0 l Z.toArray n b Y.toArray n2 i (by rw[dA];lia) (by lia)) ⟨e,D,?_⟩
 refine ⟨.non,_,I.QM B e (by simp) (r.append p) ?_,rfl,q⟩;rw[ai];lia
theorem TY(i:Nat)(he:QE X e (tF X.K O m))(R:isO (fl O i)=true:=by rfl)(C:Nm X i x:=by walk_at "nm")(j:l5 (.Name x p) "extend" X.env (eval (.Name x p) X.env)=eval (.Name x p) X.env:=by rfl)
 (s:((mI cpos (dr (e::[]) X.env)).all (λx=>!x.1)&&(ua cpos (ox [] X.env)).all (λx=>x.1.isSome)
  && decide ((e::[]).length+([]:List om).length+(if ([]:List om).isEmpty then 0 else 1)<30))=true:=by rfl)
 (Z:(apos.endLine == cpos.line)=true:=by rfl) (hs:dr (e::[]) X.env=(false,eval e X.env)::dr [] X.env:=by rfl) (Y:(mI cpos (dr [] X.env)).any (·.1)=false:=by rfl)
 (E:hV (.Call (.Attribute (.Name x p) "extend" apos) [e] [] cpos) none pos.line X.env=pure false:=by rfl) :
 QS X (.Expr (.Call (.Attribute (.Name x p) "extend" apos) [e] [] cpos) pos) (tS X.K rm Ol O O (sE i m)):=by
 refine QS.imp (oW (BV la oi wm QC (dO C.1 C.2 C.3 C.4) (bN he.h eQ hs) j s Z hs Y) E) λD σ H u=>?_;obtain ⟨A,B,P,o,r,em,k⟩:=u;obtain ⟨d,e1,em⟩:=zi.aq em
 cases z:gv P i with
 | none=>rw[z] at em;cases em
 | some dl=>
  rw[z] at em
  cases dl with
  | list ds=>
   cases d with
   | list es=>
    obtain ⟨⟨hc,J⟩,em⟩:=bO em;cases em;obtain ⟨q,S,U,I,M⟩:=o4 r R z;refine ⟨.ref q,dU U,.inl ⟨rfl,S,SqL.of I⟩,A,B,P,_,r,e1,λv A1 H1 l p1=>?_⟩;obtain ⟨q2,o2,rfl,h0,h5,h7,⟨es',us,L,rfl,Q⟩ | ⟨_,_,L,_⟩⟩:=p1
    rotate_right
    . cases L
    cases L;refine ⟨q,q2,S,us,rfl,rfl,l.hh _ _ I,.inl h5,by rw[<- M.length,<- Q.length];exact hc,?_⟩;exact k σ A1 _ ((r.grow l).change R J (by rw[z];simp) U (l.hh _ _ I) (.inl ⟨_,_,rfl,rfl,(au.mono l.aa _ M).append Q⟩)) l.aa (l.nB r.b)
   | _=>cases em
  | _=>cases em
theorem abZ(i:Nat)(ha:QE X a (tE X.K O m))(hb:QE X b (tE X.K O m'))(hi:isO (fl O i)=true:=by rfl)(E:Nm X i x:=by walk_at "nm")(e:l5 (.Name x p) "insert" X.env (eval (.Name x p) X.env)=eval (.Name x p) X.env:=by rfl)
 (s:((mI cpos (dr (a::[b]) X.env)).all (λx=>!x.1)&&(ua cpos (ox [] X.env)).all (λx=>x.1.isSome)
  && decide ((a::[b]).length+([]:List om).length+(if ([]:List om).isEmpty then 0 else 1)<30))=true:=by rfl)
 (Z:(apos.endLine == cpos.line)=true:=by rfl) (hs:dr (a::[b]) X.env=(false,eval a X.env)::dr [b] X.env:=by rfl) (P:dr (b::[]) X.env=(false,eval b X.env)::dr [] X.env:=by rfl) (Y:(mI cpos (dr [b] X.env)).any (·.1)=false:=by rfl)
 (J:hV (.Call (.Attribute (.Name x p) "insert" apos) [a,b] [] cpos) none pos.line X.env=pure false:=by rfl) :
 QS X (.Expr (.Call (.Attribute (.Name x p) "insert" apos) [a,b] [] cpos) pos) (tS X.K rm Ol O O (O9 i m m')):=by
 refine QS.imp (oW (BV la PySem.F.slot_list_insert PySem.F.type_list_insert Q7 (dO E.1 E.2 E.3 E.4) (bN ha.h (bN hb.h eQ P) hs) e s Z hs Y) J) λD σ H z=>?_;obtain ⟨A,B,M,o,r,em,k⟩:=z;obtain ⟨kd,e1,em⟩:=zi.aq em;obtain ⟨d,e2,em⟩:=zi.aq em
 cases C:gv M i with
 | none=>rw[C] at em;cases em
 | some dl=>
  rw[C] at em
  cases dl with
  | list ds=>
   cases kd with
   | int j=>
    obtain ⟨⟨I,hc2,hc3,Q⟩,em⟩:=bO em;cases em;obtain ⟨q,vs,e3,L,U⟩:=o4 r hi C;have hl:=U.length;refine ⟨.ref q,dU e3,.inl ⟨rfl,vs,SqL.of L⟩,A,B,M,_,r,e1,λv A1 H1 R p1=>⟨A1,B,M,d,r.grow R,e2,λu A2 H2 S p2=>⟨q,vs,j,u,rfl,by rw[Rp.int.mp p1],(R.trans S).hh _ _ L,I,by lia,by lia,?_⟩⟩⟩;have l:=R.trans S;refine k σ A2 _ ((r.grow l).change hi Q (by rw[C];simp) e3 (l.hh _ _ L) (.inl ⟨_,_,rfl,rfl,?_⟩)) l.aa (l.nB r.b);have h5:=au.mono l.aa _ U;exact (h5.take _).append (au.cons.mpr ⟨u,_,rfl,p2,h5.drop _⟩)
   | _=>cases em
  | _=>cases em
end
noncomputable def intsOf:B4->Option B3
 | []=>some []
 | .int i::ds=>(intsOf ds).map (i :: ·)
 | _::_=>none
theorem p6:∀{ds:B4}{ns:B3},intsOf ds=some ns->ds=ns.map ab.int
 | [],ns,h=>by cases h;rfl
 | .int i::ds,ns,h=>by
  unfold intsOf at h
  cases e:intsOf ds with
  | none=>rw[e] at h;cases h
  | some Y=>rw[e] at h;cases h;rw[p6 e];rfl
@[simp] theorem nH (ns:B3):intsOf (ns.map ab.int)=some ns:=by
 induction ns with
 | nil=>rfl
 | cons n ns Y=>rw[bq,intsOf,Y];rfl
noncomputable def boolsOf:B4->Option (List Bool)
 | []=>some []
 | .bool i::ds=>(boolsOf ds).map (i :: ·)
 | _::_=>none
@[simp] theorem adB (ns:List Bool):boolsOf (ns.map ab.bool)=some ns:=by
 induction ns with
 | nil=>rfl
 | cons n ns Y=>rw[bq,boolsOf,Y];rfl
noncomputable def Jq:B4->zi ab
 | [.list ds]=>match intsOf ds with
  | some ns=>.ok (.int ns.sum)
  | none=>.bad
 | _=>.bad
theorem au.abt:∀{ns:B3}{vs:C0},au K A (ns.map ab.int) vs->vs=ns.map V.int
 | [],vs,h=>by rwa [fe,au.nil] at h
 | n::ns,vs,h=>by
  rw[bq,au.cons] at h;obtain ⟨v,r,rfl,Y,Z⟩:=h;rw[Rp.int.mp Y,Z.abt];rfl
theorem Gj:∀{ns:B3}{us:B8},zv (ns.map V.int) us->nc us ns
 | [],_,.nil=>.nil
 | n::ns,_,.cons r t=>by
  obtain ⟨Y,rfl⟩:=r;exact .cons n Y (Gj t)
theorem Uy(E:X.calm=true):fD X (.builtin "sum") (rC X.K Jq):=by
 rintro z s σ H xs us Q I r ⟨A,J,d,e,B,p,k⟩
 match J,e with
 | [.list es],e=>
  have Z:(match intsOf es with | some ns=>zi.ok (ab.int ns.sum) | none=>.bad)= .ok d:=e
  cases i:intsOf es with
  | none=>rw[i] at Z;cases Z
  | some ns=>
   rw[i] at Z;cases Z;obtain rfl:=p6 i;obtain ⟨v,r',rfl,p1,P⟩:=p.cons;obtain rfl:=P.nil;obtain ⟨l,vs,rfl,L,M⟩:=p1.list B;obtain rfl:=M.abt;obtain ⟨u,rfl,R⟩:=zv.one r;cases R;obtain ⟨D,rv,pl,hz⟩:=I.list L;have q:=Gj rv;have Y:=q.allInts;obtain ⟨C,j⟩:=Y.items;have S:=nums_intItems C;refine sum_intListG (I.ok.hd E) (by rw[<- j];exact pl.isList) λh' tk O U=>?_;have o:numsOf (intItems C).toList=ns:=by
    rw[<- j];exact q.numsOf
   rw[S] at o;rw[preSum_eq,iN (by simp),o];exact ⟨.int ns.sum,H,I.kept U,⟨O,rfl⟩,k _ A H (aZ.refl B) (Rp.int.mpr rfl)⟩
variable {ns:B3}
theorem Qq{a:Addr}{f:B4->zi ab}{Y:Fl}{E:XK}(i:f [.list (ns.map ab.int)]= .ok (.bool true))(Z:SqL K H a (ns.map V.int)):spF K [Y] .f f [.ref a] H (λv _=>v= .bl true) E:=by
 refine ⟨H,[.list (ns.map ab.int)],.bool true,aD.refl _,⟨_,_,_,_,rfl,rfl,?_,rfl,rfl⟩,i,λv e l g p=>(Rp.bool (K:=K) (A:=e)).mp p⟩;have q:=Rp.list.mpr ⟨a,_,rfl,Z,au.ints⟩
 cases Y with
 | zD=>exact q
 | zC=>exact .inl q
 | own=>exact .inl q
 | fix j=>exact .inl q
 | exc C=>exact .inl q
 | nst b=>exact .inl q
 | kit=>exact .inl q
variable {prog:gi}{E:B2}{s:cy}
structure Mv (lo hi:Nat) (st st':SortSt):Prop where
 kind:kindOf st'=kindOf st
 failed:failedOf st'=failedOf st
 pend:pendingOf st'=pendingOf st
 perm:(arrOf st').Perm (arrOf st)
 out:∀i,i<lo\/hi<=i->va (arrOf st') i=va (arrOf st) i
def Seg(a:Array Keyed)(lo hi:Nat):Prop:=∀i j,lo<=i->i<=j->j<hi->va a i<=va a j
theorem Mv.trans{Y:Nat}{a b c:SortSt}(x:Mv j Y a b)(y:Mv j Y b c):Mv j Y a c:=
 ⟨y.kind.trans x.kind,y.failed.trans x.failed,y.pend.trans x.pend,y.perm.trans x.perm,λi h=>(y.out i h).trans (x.out i h)⟩
section
variable   {A:gx}
local macro_rules | `(tactic| walk_at "up_eq")=>`(tactic| (refine congrArg (_ >>= ·) (funext fun _=>?_);refine congrArg (_ >>= ·) (funext fun c=>?_);obtain ⟨r,m⟩:=c;cases r <;> rfl))
end
def Rn(a:Array Keyed):Nat->List (Nat×Nat×Nat)->Nat->Prop
 | lo,[],hi=>lo=hi
 | lo,(u,n,_)::r,hi=>u=lo/\1<=n/\Seg a u (u+n)/\Rn a (u+n) r hi
theorem Rn.le{a:Array Keyed}:∀{p:List (Nat×Nat×Nat)}{lo hi:Nat},Rn a lo p hi->lo+p.length<=hi
 | [],lo,hi,h=>by have:lo=hi:=h;simp;lia
 | (u,n,q)::r,lo,hi,⟨e,i,Z,Y⟩=>by have:=Rn.le Y;simp;lia
variable {l:Addr}
section
variable   {A:gx}
theorem Q9{Z:B8}{P:Fin->cy->Prop}(e:s.heap.get? p=some (vb "list" Z.toArray i))
 (j:nc Z ns) (l:Z.length<64)
 (h:∀(out:Array bg) (Y:B3),nc out.toList Y->Y.Perm ns->Y.Pairwise (· <= ·)->P (.done (.ret .none)) { s with heap:=sortedHeap s.heap p Z out }) :
 de (dn prog w) A (Builtin.«list.sort» ⟨[.ref p],[]⟩) P E s:=list_sort_tree e j (by lia) h
theorem Mg{Z:B8}{Q:B2}(i:s.heap.IsList l Z.toArray)(e:nc Z ns)(j:Z.length<64)
 (h:∀(out:Array bg) (Y:B3),nc out.toList Y->Y.Perm ns->Y.Pairwise (· <= ·)->Q (.ref (s.heap.objs.size+1)) { s with heap:=sortedAll s.heap Z out }) :
 de (dn prog w) A (call (.builtin "sorted") [.ref l]) Q E s:=sorted_ints i e (by lia) h
end
noncomputable def insI(x:Int):B3->B3
 | []=>[x]
 | y::ys=>if x<=y then x::y::ys else y::insI x ys
noncomputable def srt:B3->B3
 | []=>[]
 | x::xs=>insI x (srt xs)
theorem insI_perm(x:Int):∀ys:B3,(insI x ys).Perm (x::ys)
 | []=>.refl _
 | y::ys=>by
  unfold insI
  by_cases h:x<=y
  . rw[if_pos h]
  . rw[if_neg h];exact ((insI_perm x ys).cons y).trans (.swap ..)
theorem g8:∀xs:B3,(srt xs).Perm xs
 | []=>.refl _
 | x::xs=>(insI_perm x (srt xs)).trans ((g8 xs).cons x)
theorem Ac(x:Int):∀{ys:B3},ys.Pairwise (· <= ·)->(insI x ys).Pairwise (· <= ·)
 | [],_=>xh _ _
 | y::ys,h=>by
  unfold insI;have Z:=(kK.mp h)
  by_cases Y:x<=y
  . rw[if_pos Y];refine kK.mpr ⟨λz hz=>?_,h⟩;rcases b9.mp hz with rfl | hz
    . exact Y
    . exact Int.le_trans Y (Z.1 z hz)
  . rw[if_neg Y];refine kK.mpr ⟨λz hz=>?_,Ac x Z.2⟩;rcases b9.mp ((insI_perm x ys).mem_iff.mp hz) with rfl | hz
    . lia
    . exact Z.1 z hz
theorem qO:∀xs:B3,(srt xs).Pairwise (· <= ·)
 | []=>.nil
 | x::xs=>Ac x (qO xs)
theorem uz:∀{xs ys:B3},xs.Perm ys->xs.Pairwise (· <= ·)->ys.Pairwise (· <= ·)->xs=ys
 | [],ys,p,_,_=>(List.nil_perm.mp p).symm ▸ rfl
 | x::xs,[],p,_,_=>absurd p.length_eq (by simp)
 | x::xs,y::ys,p,j,i=>by
  have Y:=kK.mp j;have Z:=kK.mp i;have l:y<=x:=by
   rcases b9.mp (p.mem_iff.mp br) with e | e
   . lia
   . exact Z.1 x e
  have o:x<=y:=by
   rcases b9.mp (p.mem_iff.mpr br) with e | e
   . lia
   . exact Y.1 y e
  have e:x=y:=by lia
  subst e;rw[uz (p.cons_inv) Y.2 Z.2]
noncomputable def zR:B4->zi ab
 | [.list ds]=>match intsOf ds with
  | some ns=>gd (ns.length<64) (.ok (.list ((srt ns).map ab.int)))
  | none=>.bad
 | _=>.bad
theorem rQ:∀{us:B8}{ns:B3},nc us ns->zv (ns.map V.int) us
 | _,_,.nil=>.nil
 | _,_,.cons n t h=>.cons ⟨t,rfl⟩ (rQ h)
theorem Ja:fD X (.builtin "sorted") (λxs H Q=>∃p ns,xs=[.ref p]/\SqL X.K H p (ns.map V.int)/\ns.length<64/\∀l,H l=none->Q (.ref l) (zw H l (.lst ((srt ns).map V.int)))):=by
 intro j s P H xs M Q I r h;obtain ⟨p,ns,rfl,D,i,q⟩:=h;obtain ⟨u,rfl,C⟩:=vals1 r;cases C;obtain ⟨Y,v,pl,O⟩:=I.list D;have z:Y.length=ns.length:=by have:=v.length;rw[ag] at this;lia
 refine Mg pl.isList (intsAre_of v) (by lia) λout Z B L J=>?_;have e:Z=srt ns:=uz (L.trans (g8 ns).symm) J (qO ns);subst e;obtain ⟨c,E⟩:=sortedAll_at s.heap Y out;refine ⟨.ref (s.heap.objs.size+1),_,I.laid (a:=s.heap.objs.size+1) (o:=.lst ((srt ns).map V.int)) (h':=sortedAll s.heap Y out) (t':=s.toks) (λb o e=>sortedAll_old e) (p9 _) ?_,rfl,q _ (I.zS.fresh (p9 _))⟩;refine ⟨?_,out.toList,c,rQ B,by simpa[vb] using E⟩;rw[ag,(g8 ns).length_eq];exact gp (tm i (by decide))
theorem au.Hr:∀{ns:B3}{vs:C0},au K A (ns.map ab.int) vs->vs=ns.map V.int
 | [],vs,h=>au.nil.mp h
 | n::ns,vs,h=>by
  obtain ⟨v,r,rfl,Y,Z⟩:=au.cons.mp h;rw[Rp.int.mp Y,au.Hr Z];rfl
theorem Ss:fD X (.builtin "sorted") (rCF X.K zR):=by
 intro Y s L H O z Q I r h;obtain ⟨A,B,d,e,j,p,k⟩:=h
 match B,e with
 | [.list es],e=>
  have e:(match intsOf es with | some Z=>gd (Z.length<64) (.ok (.list ((srt Z).map ab.int))) | none=>.bad)=zi.ok d:=e
  cases o:intsOf es with
  | none=>rw[o] at e;cases e
  | some Z=>
   rw[o] at e;obtain ⟨C,e⟩:=bO e;cases e;have:=p6 o;subst this;obtain ⟨v,P,rfl,E,u⟩:=p.cons;obtain rfl:=u.nil;obtain ⟨l,M,rfl,D,J⟩:=E.list j;have ev:=J.Hr;subst ev;exact Ja Y s L H _ z Q I r ⟨l,Z,rfl,D,C,λq i=>k _ A _ (aZ.lay j i) ⟨q,_,rfl,i,bc,j.free i,.inl ⟨_,_,rfl,rfl,au.ints⟩⟩⟩
open Classical in
noncomputable def eqR(h:Heap)(x:ab)(y:bg):Bool:=if q:∃d as,Reads h y d as/\d.canLay0=true then fT (xi q) x else false
variable {h:Heap}
theorem Up{x d:ab}{y:bg}{as:C2}(r:Reads h y d as)(hd:d.canLay0=true):eqR h x y=fT d x:=by
 unfold eqR;have q:∃d as,Reads h y d as/\d.canLay0=true:=⟨d,as,r,hd⟩;rw[dif_pos q];obtain ⟨Y,Z,e⟩:=Classical.choose_spec q;rw[(PySem.Reads.unique Z d as r).1]
theorem anyR{x:ab}:∀{us:B8}{ds:B4}{as:C2},ReadsAll h us ds as->ib ds=true->us.any (eqR h x)=ds.any λd=>fT d x
 | _,_,_,.nil,_=>rfl
 | _,_,_,.cons r Y,c=>by
  rw[ib,dQ] at c;rw[kQ,kQ,Up r c.1,anyR Y c.2]
theorem aa8:∀{us:B8}{ds:B4}{as:C2}{u:bg},ReadsAll h us ds as->u∈us->∃d as,d∈ds/\Reads h u d as
 | _,_,_,u,.nil,m=>nomatch m
 | _,_,_,u,.cons r Z,m=>by
  rcases b9.mp m with rfl | m
  . exact ⟨_,_,br,r⟩
  . obtain ⟨Y,as,e,i⟩:=aa8 Z m;exact ⟨Y,as,cc _ e,i⟩
noncomputable def inB(a:ab)(ds:B4):Bool:=ds.any λy=>fT y a
noncomputable def inX:ab->ab->zi ab
 | a,.list ds=>gd (d5 a=true/\ds.all d5=true) (.ok (.bool (inB a ds)))
 | a,.tuple ds=>gd (d5 a=true/\ds.all d5=true) (.ok (.bool (inB a ds)))
 | _,_=>.bad
noncomputable def Ud:ab->ab->zi ab
 | a,.list ds=>gd (d5 a=true/\ds.all d5=true) (.ok (.bool (!inB a ds)))
 | a,.tuple ds=>gd (d5 a=true/\ds.all d5=true) (.ok (.bool (!inB a ds)))
 | _,_=>.bad
theorem Ei:∀{ds:B4},ds.all d5=true->ib ds=true
 | [],_=>by rw[ib]
 | d::ds,h=>by
  rw[wo,dQ] at h;rw[ib,lT h.1,Ei h.2];rfl
theorem Ig{d:ab}(h:d5 d=true):d.depth<=64:=by
 unfold d5 at h;rw[dQ] at h;exact of_decide_eq_true h.2
variable {y8:A7}
theorem CT{Y:ab}{x:V}{v:bg}{Z:B8}(J:X.A.units+66<kb)(I:zk X y8 σ H s)(z:zo x v)(q:aD A H)
 (C:Pk X.K A H Y x) (p:d5 Y=true) (i:ds.all d5=true) (E:au X.K A ds vs) (r:zv vs Z) :
 (∀y,y∈Z.toArray->SeqAt.EqAt X.A.in1 s y v (eqR s.heap Y y))/\Z.toArray.any (eqR s.heap Y)=inB Y ds:=by
 obtain ⟨as,D⟩:=Is.reads I Y (C.is q p) z;obtain ⟨bs,l⟩:=fH.reads I ds (fH.mono q ds (au.is ds (Ei i) E)) r;refine ⟨λy u=>?_,by rw[List.any_toArray,anyR l (Ei i)];rfl⟩;obtain ⟨d,B,hd,o⟩:=aa8 l (by simpa using u);have j:=gc.mp i d hd;rw[Up o (lT j)];refine SeqAt.eqAt_reads d Y X.A.in1 s y v B as o D (lT j) (lT p) ?_;have:=Ig j;have e:X.A.in1.units=X.A.units+1:=rfl;have:=Nat.min_le_left d.depth Y.depth;lia
theorem Q4(C:X.A.units+66<kb):OpR X (fR .In) (rD X.K inX):=by
 rintro L s σ H x y v u Q I J D ⟨A,O,R,d,e,Y,M,E,k⟩
 cases R with
 | list P=>
  obtain ⟨⟨z,Z⟩,e⟩:=bO e;have q:=zi.ok.inj e;subst q;obtain ⟨l,S,rfl,o,B⟩:=E.list Y;cases D;obtain ⟨i,r,pl,U⟩:=I.list o;obtain ⟨p,j⟩:=CT C I J Y M z Z B r;refine SeqAt.in_listAt (eqR s.heap O) pl.isList p ?_;rw[j];exact ⟨.bl _,H,I,rfl,k _ A H (aZ.refl Y) (Rp.bool.mpr rfl)⟩
 | tuple P=>
  obtain ⟨⟨z,Z⟩,e⟩:=bO e;have q:=zi.ok.inj e;subst q;obtain ⟨l,S,rfl,o,B⟩:=E.tuple Y;cases D;obtain ⟨i,r,pl,U⟩:=I.tuple o;obtain ⟨p,j⟩:=CT C I J Y M z Z B r;refine SeqAt.in_tupleAt (eqR s.heap O) (pl) p ?_;rw[j];exact ⟨.bl _,H,I,rfl,k _ A H (aZ.refl Y) (Rp.bool.mpr rfl)⟩
 | _=>cases e
theorem GJ(C:X.A.units+66<kb):OpR X (fR .NotIn) (rD X.K Ud):=by
 rintro L s σ H x y v u Q I J D ⟨A,O,R,d,e,Y,M,E,k⟩
 cases R with
 | list P=>
  obtain ⟨⟨z,Z⟩,e⟩:=bO e;have q:=zi.ok.inj e;subst q;obtain ⟨l,S,rfl,o,B⟩:=E.list Y;cases D;obtain ⟨i,r,pl,U⟩:=I.list o;obtain ⟨p,j⟩:=CT C I J Y M z Z B r;refine SeqAt.notIn_listAt (eqR s.heap O) pl.isList p ?_;rw[j];exact ⟨.bl _,H,I,rfl,k _ A H (aZ.refl Y) (Rp.bool.mpr rfl)⟩
 | tuple P=>
  obtain ⟨⟨z,Z⟩,e⟩:=bO e;have q:=zi.ok.inj e;subst q;obtain ⟨l,S,rfl,o,B⟩:=E.tuple Y;cases D;obtain ⟨i,r,pl,U⟩:=I.tuple o;obtain ⟨p,j⟩:=CT C I J Y M z Z B r;refine SeqAt.notIn_tupleAt (eqR s.heap O) (pl) p ?_;rw[j];exact ⟨.bl _,H,I,rfl,k _ A H (aZ.refl Y) (Rp.bool.mpr rfl)⟩
 | _=>cases e
theorem _root_.Zq.dJ.cN{A:gx}(r:dJ i A):A.units+66<kb:=by have:=r.un;lia
noncomputable def cD(key:Key):B0->Option ab
 | []=>none
 | (k,d)::r=>if bJ k=some key then some d else cD key r
noncomputable def oM(key:Key):B0->Bool
 | []=>false
 | (k,_)::r=>if bJ k=some key then true else oM key r
noncomputable def uy(key:Key)(x:ab):B0->B0
 | []=>[]
 | (k,d)::r=>(if bJ k=some key then (k,x) else (k,d))::uy key x r
noncomputable def gO(kd:ab)(key:Key)(x:ab)(y9:B0):B0:=if oM key y9=true then uy key x y9 else y9++[(kd,x)]
theorem mX{k:ab}{key Y:Key}(h:bJ k=some Y):bJ k=some key↔Y=key:=by rw[h];simp
variable {kd:ab}{y9:B0}{u:A8}
section
variable   {key:Key}
theorem bh.look:∀{y9:B0}{u:A8},bh K A y9 u->(∀d,cD key y9=some d->∃v,gG u key=some v/\Rp K A d v)/\(cD key y9=none->gG u key=none)
 | [],u,h=>by
  rw[bh.nil] at h;subst h;exact ⟨λd e=>(nomatch e),λ_=>rfl⟩
 | (k,d)::r,u,h=>by
  obtain ⟨i,v,l,rfl,Z,hd,j⟩:=bh.cons.mp h;unfold cD
  by_cases e:bJ k=some key
  . have Y:=(mX Z).mp e;rw[if_pos e];exact ⟨λo z=>by cases z;exact ⟨v,o7 Y,hd⟩,λz=>(nomatch z)⟩
  . have Y:=λz=>e ((mX Z).mpr z);rw[if_neg e,o9 Y];exact bh.look j
theorem bh.has:∀{y9:B0}{u:A8},bh K A y9 u->(u.any λi=>decide (i.1=key))=oM key y9
 | [],u,h=>by rw[bh.nil] at h;subst h;rfl
 | (k,d)::r,u,h=>by
  obtain ⟨Z,v,l,rfl,Y,hd,j⟩:=bh.cons.mp h;rw[oM,kQ,bh.has j]
  by_cases e:bJ k=some key
  . rw[if_pos e,decide_eq_true ((mX Y).mp e)];rfl
  . rw[if_neg e,decide_eq_false λz=>e ((mX Y).mpr z)];rfl
theorem bh.set{w:V}(j:Rp K A kd w):∀{y9:B0}{u:A8},bh K A y9 u->bh K A (uy key kd y9) (u.map λi=>if i.1=key then (i.1,w) else i)
 | [],u,h=>by rw[bh.nil] at h;subst h;exact bh.nil.mpr rfl
 | (k,d)::r,u,h=>by
  obtain ⟨Y,v,o,rfl,Z,hd,l⟩:=bh.cons.mp h;rw[uy,bq]
  by_cases e:bJ k=some key
  . rw[if_pos e,if_pos ((mX Z).mp e)];exact bh.cons.mpr ⟨Y,w,_,rfl,Z,j,bh.set j l⟩
  . rw[if_neg e,if_neg λz=>e ((mX Z).mpr z)];exact bh.cons.mpr ⟨Y,v,_,rfl,Z,hd,bh.set j l⟩
theorem bh.snoc{x:ab}{w:V}(i:bJ kd=some key)(e:Rp K A x w):∀{y9:B0}{u:A8},bh K A y9 u->bh K A (y9++[(kd,x)]) (u++[(key,w)])
 | [],u,h=>by rw[bh.nil] at h;subst h;exact bh.cons.mpr ⟨key,w,[],rfl,i,e,bh.nil.mpr rfl⟩
 | (k,d)::r,u,h=>by
  obtain ⟨Y,v,l,rfl,Z,hd,j⟩:=bh.cons.mp h;exact bh.cons.mpr ⟨Y,v,_,rfl,Z,hd,bh.snoc i e j⟩
theorem bh.put{x:ab}(Z:bJ kd=some key)(Y:Rp K A x v)(h:bh K A y9 u):bh K A (gO kd key x y9) (putK u key v):=by
 unfold gO putK;rw[h.has]
 by_cases e:oM key y9=true
 . rw[if_pos e,if_pos e];exact h.set Y
 . rw[if_neg e,if_neg e];exact h.snoc Z Y
theorem bh.length:∀{y9:B0}{u:A8},bh K A y9 u->y9.length=u.length
 | [],u,h=>by rw[bh.nil] at h;subst h;rfl
 | (k,d)::r,u,h=>by
  obtain ⟨Y,v,e,rfl,_,_,Z⟩:=bh.cons.mp h;rw[bo,bo,bh.length Z]
end
noncomputable def inY:ab->ab->zi ab
 | a,.dict y9=>match bJ a with
  | some key=>.ok (.bool (cD key y9).isSome)
  | none=>.bad
 | a,b=>inX a b
noncomputable def jX:ab->ab->zi ab
 | a,.dict y9=>match bJ a with
  | some key=>.ok (.bool (!(cD key y9).isSome))
  | none=>.bad
 | a,b=>Ud a b
theorem Pk.key{key:Key}(p:Pk K A H kd v)(h:bJ kd=some key):v=kV key:=by
 cases kd with
 | int i=>cases h;exact p.int
 | str x=>cases h;exact p.str
 | _=>cases h
theorem bh.some{key:Key}(h:bh K A y9 u):(gG u key).isSome=(cD key y9).isSome:=by
 have:=h.look (key:=key)
 cases e:cD key y9 with
 | none=>rw[this.2 e];rfl
 | some d=>obtain ⟨v,Y,_⟩:=this.1 d e;rw[Y];rfl
theorem Ii(C:X.A.units+66<kb):OpR X (fR .In) (rD X.K inY):=by
 rintro Y s D H x y v u Q I Z q ⟨A,j,L,d,e,i,B,o,k⟩
 cases L with
 | dict z=>
  have e:(match bJ j with | some key=>zi.ok (ab.bool (cD key z).isSome) | none=>.bad)= .ok d:=e
  cases r:bJ j with
  | none=>rw[r] at e;cases e
  | some key=>
   rw[r] at e;cases e;obtain ⟨l,w,rfl,E,M⟩:=o.dict i;cases q;rw[B.key r] at Z;exact afx (by lia) I ((hX ⟨_,key,E,rfl,rfl⟩)) Z λO J=>⟨.bl _,H,J,rfl,k _ A H (aZ.refl i) (Rp.bool.mpr (by rw[M.some]))⟩
 | list p=>exact Q4 C Y s D H x y v u Q I Z q ⟨A,j,.list p,d,e,i,B,o,k⟩
 | tuple p=>exact Q4 C Y s D H x y v u Q I Z q ⟨A,j,.tuple p,d,e,i,B,o,k⟩
 | _=>cases e
theorem mR(C:X.A.units+66<kb):OpR X (fR .NotIn) (rD X.K jX):=by
 rintro Y s D H x y v u Q I Z q ⟨A,j,L,d,e,i,B,o,k⟩
 cases L with
 | dict z=>
  have e:(match bJ j with | some key=>zi.ok (ab.bool (!(cD key z).isSome)) | none=>.bad)= .ok d:=e
  cases r:bJ j with
  | none=>rw[r] at e;cases e
  | some key=>
   rw[r] at e;cases e;obtain ⟨l,w,rfl,E,M⟩:=o.dict i;cases q;rw[B.key r] at Z;exact ZC (by lia) I ((hX ⟨_,key,E,rfl,rfl⟩)) Z λO J=>⟨.bl _,H,J,rfl,k _ A H (aZ.refl i) (Rp.bool.mpr (by rw[M.some]))⟩
 | list p=>exact GJ C Y s D H x y v u Q I Z q ⟨A,j,.list p,d,e,i,B,o,k⟩
 | tuple p=>exact GJ C Y s D H x y v u Q I Z q ⟨A,j,.tuple p,d,e,i,B,o,k⟩
 | _=>cases e
noncomputable def je(i:Nat)(mk mv:ME):MS:=λΓ=>(mv Γ).bind λx=>(mk Γ).bind λkd=>match gv Γ i with
 | some (.dict y9)=>match bJ kd with
  | some key=>gd (y9.length<bt/\i < Γ.length) (.ok (.nx (Γ.set i (some (.dict (gO kd key x y9))))))
  | none=>.bad
 | _=>.bad
section
variable      {p:Pos}
theorem vC(r:aY K A B H O σ Γ)(j:isO (fl O i)=true)(Z:gv Γ i=some (.dict y9)):∃q u,sv σ i=some (.ref q)/\H q=some (.dK u)/\bh K A y9 u:=by
 obtain ⟨d,q,o,Y,l,s,C,v,⟨p,z,rfl,rfl,e⟩ | ⟨y9,u,rfl,rfl,e⟩⟩:=r.oh j (by rw[Z];simp)
 . rw[Z] at Y;cases Y
 . rw[Z] at Y;cases Y;exact ⟨q,u,l,s,e⟩
theorem Rp.key{key:Key}(p:Rp K A kd v)(h:bJ kd=some key):v=kV key:=Pk.key (H:=A) (.inl p) h
theorem qY(i:Nat)(hu:X.A.units+66<kb)(ha:QE X a (tE X.K O m))(he:QE X e (tE X.K O m'))(M:isO (fl O i)=true:=by rfl)(s:Nm X i x:=by walk_at "nm")(hs:hV e (some (.Subscript (.Name x pos') a tpos)) pos.line X.env=pure false:=by rfl) :
 QS X (.Assign [.Subscript (.Name x pos') a tpos] e pos) (tS X.K rm Ol O O (je i m m')):=by
 refine QS.imp (Nt (by lia) (dO s.1 s.2 s.3 s.4) ha.h he.h hs) λD S H j=>?_;obtain ⟨A,B,z,o,r,em,k⟩:=j;obtain ⟨d,U,em⟩:=zi.aq em;obtain ⟨kd,e2,em⟩:=zi.aq em
 cases l:gv z i with
 | none=>rw[l] at em;cases em
 | some dl=>
  rw[l] at em
  cases dl with
  | dict R=>
   have Y:=em
   cases p:bJ kd with
   | none=>rw[p] at Y;cases Y
   | some key=>
    rw[p] at Y;obtain ⟨⟨hz,C⟩,Y⟩:=bO Y;cases Y;obtain ⟨q,u,J,L,I⟩:=vC r M l;refine ⟨A,B,z,d,r,U,λv Q H1 P p1=>⟨.ref q,dU J,Q,B,z,_,r.grow P,e2,λw A2 H2 E p2=>?_⟩⟩;have Z:=P.trans E;refine ⟨q,_,rfl,by rw[Rp.key p2 p];exact xZ.k (Z.hh _ _ L) (by rw[<- I.length];exact hz),?_⟩;exact k S A2 _ ((r.grow Z).change M C (by rw[l];simp) J (Z.hh _ _ L) (.inr ⟨_,_,rfl,rfl,bh.put p (Rp.mono E.aa _ p1) (bh.mono Z.aa _ I)⟩)) Z.aa (Z.nB r.b)
  | _=>cases em
end
noncomputable def ixY:ab->ab->zi ab
 | .dict y9,a=>match bJ a with
  | some key=>match cD key y9 with
   | some d=>.ok d
   | none=>.bad
  | none=>.bad
 | a,b=>zI a b
theorem Z9:IxR X (λx y H Q=>∃a v,x= .ref a/\wU H a y (some v)/\X.A.units+1<kb/\Q v H):=by
 intro i e Y s o H x y v u Q I p B h D;obtain ⟨a,w,rfl,g,z,q⟩:=h;cases p;have hT:=Lh I g;refine af ?_;rw[mB hT.not_modules];refine af (j1 hT kF.lookup ?_);have fin:de (dn X.prog X.w) X.A (oz e false (.ref a) u) (λr Z=>de (dn X.prog X.w) X.A (qr i (.ref a) r >>= λ_=>pure r) (EP X Y o Q) X.xe Z) X.xe s:=by
  rw[D];exact pw (gL (Td z I g B λC J E l=>(⟨w,H,E,l,q⟩:EP X Y o Q C J)) (λr Z j=>af (ng (aS j))) λ_ _ x=>x)
 first
  | exact aS (af fin)
  | exact af (aS (af fin))
  | exact af fin
theorem abg(hu:X.A.units+66<kb):IxR X (rD X.K ixY):=by
 intro Z Y i s B H x y v u Q I D r R z;obtain ⟨A,S,p,d,e,q,E,C,k⟩:=R
 cases S with
 | dict j=>
  have e:(match bJ p with | some key=>(match cD key j with | some d=>zi.ok d | none=>.bad) | none=>.bad)= .ok d:=e
  cases L:bJ p with
  | none=>rw[L] at e;cases e
  | some key=>
   rw[L] at e;have e:(match cD key j with | some d=>zi.ok d | none=>.bad)= .ok d:=e
   cases J:cD key j with
   | none=>rw[J] at e;cases e
   | some d0=>
    rw[J] at e;cases e;obtain ⟨l,w,rfl,M,O⟩:=E.dict q;obtain ⟨P,ev,U⟩:=(O.look).1 d J;refine Z9 Z Y i s B H _ y v u Q I D r ⟨l,P,rfl,?_,by lia,k _ A H (aZ.refl q) U⟩ z;rw[C.key L,<- ev];exact (.inl ⟨_,_,M,rfl,rfl⟩)
 | list o=>exact Ht Z Y i s B H x y v u Q I D r ⟨A,.list o,p,d,e,q,E,C,k⟩ z
 | tuple o=>exact Ht Z Y i s B H x y v u Q I D r ⟨A,.tuple o,p,d,e,q,E,C,k⟩ z
 | str o=>exact Ht Z Y i s B H x y v u Q I D r ⟨A,.str o,p,d,e,q,E,C,k⟩ z
 | _=>cases e
theorem rP(Z:X.A.units+66<kb)(e:QE X a (tP X.K O m1))(Y:QE X b (tP X.K O m2))(hs:lH b):QE X (.Subscript a b pos) (tE X.K O (ao ixY m1 m2)):=QE.imp (Df (abg Z) e.h Y.h hs) λ_ _ _=>yD
theorem Mj:fD X (.type "range") (λxs H Q=>∃n,xs=[.int n]/\∀p,H p=none->Q (.ref p) (zw H p (.rng 0 n))):=by
 rintro Y s i H xs Z Q I r ⟨n,rfl,q⟩;obtain ⟨z,rfl,t,rfl⟩:=vals1 r;refine call_range_1 ⟨.ref s.heap.objs.size,_,I.laid (o:=.rng 0 n) (λb o e=>ax _ e) (ay _) ⟨_,_,_,cm _ rfl⟩,rfl,q _ (I.zS.fresh (ay _))⟩
theorem Qk(E:X.calm=true):fD X (.type "list") (λxs H Q=>∃p n,xs=[.ref p]/\H p=some (.rng 0 n)/\(-(2^20)<=n/\n<=2^20)/\∀l,H l=none->Q (.ref l) (zw H l (.lst ((List.range n.toNat).map λi=>V.int (i:Nat))))):=by
 rintro D s σ H xs U Q I r ⟨p,n,rfl,S,hn,q⟩;obtain ⟨z,rfl,M⟩:=vals1 r;cases M;obtain ⟨t,u,v,O⟩:=(I.zS p _ S);refine call_list_range (n:=n.toNat) (I.ok.hd E) (O) (small_one (by decide) (by decide) (by lia) (by lia)) (by rw[rangeSize_one];split <;> lia) (by lia) λh' tk B c P L Y=>⟨.ref s.heap.objs.size,_,I.laid (o:=.lst ((List.range n.toNat).map λi=>V.int (i:Nat))) P (ay _) ⟨?_,B.toList,c,?_,by simpa using L⟩,rfl,q _ (I.zS.fresh (ay _))⟩
 . rw[ag,cq,PySem.sizeLine_eq];lia
 . have J:∀(m:Nat) vs,vs.length=m->(∀(j:Nat) v,vs[j]?=some v->∃t,v=bg.int (0+j*1) t)->∀k:Nat,(∀(j:Nat) v,vs[j]?=some v->∃t,v=bg.int (0+j*1) t)->zv ((List.range m).map λi=>V.int (i:Nat)) vs:=by
    intro m
    induction m with
    | zero=>intro vs h _ _ _;rw[ip.mp h];exact .nil
    | succ m R=>
     intro vs C g k _;rw[kC,be];obtain ⟨ws,x,rfl⟩:∃ws x,vs=ws++[x]:=⟨vs.dropLast,vs.getLast (by intro z;rw[z] at C;cases C),(sN _).symm⟩;have Z:=by simpa using C
     refine zv.append (R ws Z (λj v e=>g j v (by rw[cE (a0.mp e).1];exact e)) 0 λj v e=>g j v (by rw[cE (a0.mp e).1];exact e)) (.cons ?_ .nil);obtain ⟨t,e⟩:=g m x (by rw[bE (by lia)];simp[Z]);exact ⟨t,by rw[e];congr 1;lia⟩
   have g:=λj v e=>Y.2 j v (by rw[<- fI];exact e);exact J n.toNat B.toList (by rw[e8];exact Y.1) g 0 g
noncomputable def lrD:ab->zi ab
 | .int n=>gd (-(2^20)<=n/\n<=2^20) (.ok (.list ((List.range n.toNat).map λi=>ab.int (i:Nat))))
 | _=>.bad
theorem au.range{K:aE}{A:Hp}:au K A ((List.range j).map λi=>ab.int (i:Nat)) ((List.range j).map λi=>V.int (i:Nat)):=by
 have:=au.ints (K:=K) (A:=A) (ns:=(List.range j).map λi=>((i:Nat):Int));rwa [c9,c9] at this
theorem GP(hc:X.calm=true)(p:Gl X "list")(I:X.mg "list"= none)(u:eI "list"= some (.type "list"))(D:Gl X "range")(C:X.mg "range"= none)(J:eI "range"= some (.type "range"))(S:QE X e (tP X.K O m))
 (Z:As e=true:=by rfl):QE X (.Call (.Name "list" pos') [.Call (.Name "range" tpos) [e] [] apos] [] pos) (tF X.K O (eUn lrD m)):=by
 refine QE.imp (uc (Qk hc) p I u (bN (uc Mj D C J (bN S.h eQ (cz Z)) (by decide) (by decide) (cz Z) (iY rfl)) eQ)) λσ H Q Y=>?_;obtain ⟨A,B,Γ,d,r,em,k⟩:=Y;obtain ⟨d1,R,em⟩:=zi.aq em
 cases d1 with
 | int n=>
  obtain ⟨P,em⟩:=bO em;cases em;refine ⟨A,B,Γ,_,r,R,λv U H1 L p1=>⟨n,by rw[p1.int],λq hq=>⟨q,n,rfl,bc,P,λl j=>?_⟩⟩⟩;have E:H1 l=none:=by
   by_cases z:l=q
   . subst z;rw[bc] at j;cases j
   . rwa [aH z] at j
  have s:=aZ.lay (o:=HO.rng 0 n) L.ah hq;have M:=aZ.lay (o:=HO.lst ((List.range n.toNat).map λi=>V.int (i:Nat))) s.ah j;exact k _ U _ (L.trans (s.trans M)) ⟨l,_,rfl,L.hh.free E,bc,s.ah.free j,.inl ⟨_,_,rfl,rfl,au.range⟩⟩
 | _=>cases em
noncomputable def rem(H:Hp)(p:Addr):Hp:=λb=>if b=p then none else H b
theorem Ib:rem H p p=none:=if_pos rfl
theorem pQ{b:Addr}(h:b≠p):rem H p b=H b:=if_neg h
theorem aaI:aD (rem H p) H:=λb o e=>by
 by_cases h:b=p
 . subst h;rw[Ib] at e;cases e
 . rwa [pQ h] at e
theorem oX(s:aD B H)(Y:B p=none):aD B (rem H p):=λb o e=>by
 have h:b≠p:=λz=>by rw[z,Y] at e;cases e
 rw[pQ h];exact s b o e
theorem Yp(h:gv Γ i≠none):i < Γ.length:=by
 rcases fx i Γ.length with z | z
 . exact z
 . exact absurd (by rw[gv,ae,d3 z];rfl) h
theorem aY.aa4(r:aY K A B H O σ Γ)(l:isO (fl O i)=true)(P:gv Γ i≠none)(hs:sv σ i=some (.ref p))(v:aD A A')(ah:aD A' H')(D:∀b u,b≠p->H b=some u->H' b=some u)(nw:New A A' H)
 (ap:A' p=none) (hp:H' p=some o) (ho:jb K A' kd o):aY K A' B H' O σ (Γ.set i (some kd)):=by
 obtain ⟨d,Y,o0,e1,e2,g1,g2,g3,g4⟩:=r.oh l P;rw[hs] at e2;cases e2;have hl:=Yp P;refine ⟨ah,λb u q=>?_,by rw[fq];exact r.len,λj=>?_,λj k hjk q1 q2 q3 q4=>?_⟩
 . have hb:b≠p:=λz=>by rw[z,g3] at q;cases q
   exact D b u hb (r.b b u q)
 . by_cases I:i=j
   . subst I;rw[gv,bF hl];intro s e;cases e;refine ⟨_,hs,?_⟩
     cases Z:fl O i with
     | zD=>rw[Z] at l;cases l
     | zC=>rw[Z] at l;cases l
     | own=>exact ⟨p,o,rfl,hp,ap,g3,ho⟩
     | fix p0=>
      obtain ⟨v',ev,q⟩:=r.slot i d e1;rw[Z] at q;rw[hs] at ev;cases ev;exact ⟨q.1,p,o,rfl,hp,ap,g3,ho⟩
     | exc C=>rw[Z] at l;cases l
     | nst b=>rw[Z] at l;cases l
     | kit=>rw[Z] at l;cases l
   . rw[gv,aQ I];intro s J;obtain ⟨v',ev,q⟩:=r.slot j s J;refine ⟨v',ev,?_⟩;have L:isO (fl O j)=true->∀Y,v'= .ref Y->Y≠p:=λZ Y ez z=>by
      refine r.sep i j I l Z P (by rw[gv,J];simp) ?_;rw[hs,ev,ez,z]
     cases Z:fl O j with
     | zD=>rw[Z] at q;exact Rp.mono v s q
     | zC=>rw[Z] at q;exact Pk.mono v (aD.refl _) q
     | own=>
      rw[Z] at q;obtain ⟨Y,o,rfl,M,R,U,u4⟩:=q;exact ⟨Y,o,rfl,D _ _ (L (by rw[Z];rfl) Y rfl) M,nw Y R (by rw[M];simp),U,u4.mono v⟩
     | fix p0=>
      rw[Z] at q;obtain ⟨q0,Y,o,rfl,M,R,U,u4⟩:=q;exact ⟨q0,Y,o,rfl,D _ _ (L (by rw[Z];rfl) Y rfl) M,nw Y R (by rw[M];simp),U,u4.mono v⟩
     | kit=>rw[Z] at q;exact qm.mono v q
     | exc C=>
      rw[Z] at q;obtain ⟨Y,ob,w1,Q,E⟩:=q;exact ⟨Y,ob,w1,v _ _ Q,E⟩
     | nst b=>
      rw[Z] at q;intro z;obtain ⟨Y,xs,y9,w1,Q,E,w4,w5,w6⟩:=q z;have hn:Y≠p:=λz=>by subst z;rw[g1] at E;exact g4.nx E
      exact ⟨Y,xs,y9,w1,Q,D _ _ hn E,nw Y w4 (by rw[E];simp),w5,w6.mono v⟩
 . have h3:gv Γ j≠none:=by
    by_cases I:i=j
    . subst I;exact P
    . unfold gv at q3 ⊢;rwa [aQ I] at q3
   have S:gv Γ k≠none:=by
    by_cases D:i=k
    . subst D;exact P
    . unfold gv at q4 ⊢;rwa [aQ D] at q4
   exact r.sep j k hjk q1 q2 h3 S
inductive MA where
 | zD | zC | var (i:Nat) | new
def QV(K:aE)(A B:Hp)(σ:St)(Γ:Ev)(H0 H:Hp):MA->ab->V->Prop
 | .zD,d,v=>Rp K A d v
 | .zC,d,v=>Pk K A B d v
 | .var i,d,v=>sv σ i=some v/\gv Γ i=some d
 | .new,d,v=>∃p o,v= .ref p/\H0 p=none/\H p=some o/\A p=none/\jb K A d o
def pP(K:aE)(A B:Hp)(σ:St)(Γ:Ev)(H0 H:Hp):List MA->B4->C0->Prop
 | [],ds,vs=>ds=[]/\vs=[]
 | a::as,ds,vs=>∃d r v s,ds=d::r/\vs=v::s/\QV K A B σ Γ H0 H a d v/\pP K A B σ Γ H0 H as r s
section
variable  {H0:Hp}
theorem pP.base(s:aD H0 H):∀{as:List MA}{ds:B4}{vs:C0},pP K A B σ Γ H H' as ds vs->pP K A B σ Γ H0 H' as ds vs
 | [],ds,vs,h=>h
 | a::as,ds,vs,h=>by
  obtain ⟨d,r,v,t,rfl,rfl,Y,j⟩:=h;refine ⟨d,r,v,t,rfl,rfl,?_,pP.base s j⟩
  cases a with
  | new=>obtain ⟨p,o,e,Z,q⟩:=Y;exact ⟨p,o,e,s.free Z,q⟩
  | zD=>exact Y
  | zC=>exact Y
  | var i=>exact Y
theorem pP.len:∀{as:List MA}{ds:B4}{vs:C0},pP K A B σ Γ H0 H as ds vs->ds.length=as.length/\vs.length=as.length
 | [],ds,vs,h=>by obtain ⟨rfl,rfl⟩:=h;exact ⟨rfl,rfl⟩
 | a::as,ds,vs,h=>by
  obtain ⟨d,r,v,t,rfl,rfl,_,Y⟩:=h;have:=Y.len;exact ⟨by rw[bo,bo,this.1],by rw[bo,bo,this.2]⟩
theorem pP.get:∀{as:List MA}{ds:B4}{vs:C0}{i:Nat}{d:ab}{v:V}{a:MA},pP K A B σ Γ H0 H as ds vs->as[i]?=some a->ds[i]?=some d->vs[i]?=some v->QV K A B σ Γ H0 H a d v
 | [],ds,vs,i,d,v,a,h,Y,Z,ev=>by simp at Y
 | b::as,ds,vs,i,d,v,a,h,Y,Z,ev=>by
  obtain ⟨o,r,l,t,rfl,rfl,e,j⟩:=h
  match i with
  | 0=>simp at Y Z ev;subst Y;subst Z;subst ev;exact e
  | i+1=>exact j.get (by simpa using Y) (by simpa using Z) (by simpa using ev)
end
def tAm(K:aE)(O:B9)(as:List MA)(ms:List ME):TA:=λσ H Q=>∃A B Γ ds,aY K A B H O σ Γ/\evs ms Γ = .ok ds/\∀vs A' H',aZ A H A' H'->pP K A' B σ Γ H H' as ds vs->Q vs H'
section
variable      {as:List MA}  {es:C1}
theorem jW:QA X [] (tAm K O [] []):=QA.imp eQ λe H Q Y=>by
 obtain ⟨A,B,Z,i,r,em,k⟩:=Y;cases em;exact k [] A H (aZ.refl r.a) ⟨rfl,rfl⟩
theorem pW(u:QE X e (tE K O m))(D:QA X es (tAm K O as ms))(hs:As e=true:=by rfl):QA X (e::es) (tAm K O (.zD::as) (m::ms)):=QA.imp (bN u.h D.h (cz hs)) λM H Q Z=>by
 obtain ⟨A,B,o,J,r,em,k⟩:=Z;obtain ⟨d,I,em⟩:=zi.aq em;obtain ⟨Y,s,em⟩:=zi.aq em;cases em;exact ⟨A,B,o,d,r,I,λv p L i z=>⟨p,B,o,Y,r.grow i,s,λl C E j q=>k (v::l) C E (i.trans j) ⟨d,Y,v,l,rfl,rfl,Rp.mono j.aa d z,q.base i.hh⟩⟩⟩
theorem eO(u:QE X e (tQ K O m))(D:QA X es (tAm K O as ms))(hs:As e=true:=by rfl):QA X (e::es) (tAm K O (.zC::as) (m::ms)):=QA.imp (bN u.h D.h (cz hs)) λM H Q Z=>by
 obtain ⟨A,B,o,J,r,em,k⟩:=Z;obtain ⟨d,I,em⟩:=zi.aq em;obtain ⟨Y,s,em⟩:=zi.aq em;cases em;exact ⟨A,B,o,d,r,I,λv p L i z=>⟨p,B,o,Y,r.grow i,s,λl C E j q=>k (v::l) C E (i.trans j) ⟨d,Y,v,l,rfl,rfl,Pk.mono j.aa (aD.refl _) z,q.base i.hh⟩⟩⟩
theorem jT(i:Nat)(C:QA X es (tAm K O as ms))(e:Nm X i x:=by walk_at "nm"):QA X (.Name x pos::es) (tAm K O (.var i::as) (aj i::ms)):=QA.imp (bN (dO e.1 e.2 e.3 e.4) C.h (cz rfl)) λI H Q Z=>by
 obtain ⟨A,B,z,E,r,em,k⟩:=Z;obtain ⟨d,o,em⟩:=zi.aq em;obtain ⟨Y,s,em⟩:=zi.aq em;cases em;obtain ⟨v,l,_⟩:=r.slot i d (rE o);exact ⟨v,dU l,A,B,z,Y,r,s,λj u D p q=>k (v::j) u D p ⟨d,Y,v,j,rfl,rfl,⟨l,rE o⟩,q⟩⟩
end
def spM(K:aE)(fs:B9)(j:Nat)(f:B4->zi ab):Sp:=λvs H Q _=>∃A B ds d dm p o,aD A H/\aD B H/\vs.length=fs.length/\ds.length=fs.length/\vs[j]?=some (.ref p)/\H p=some o/\A p=none/\B p=none /\
 (∀e,ds[j]?=some e->jb K A e o)/\(∀(i:Nat) e v,i≠j->ds[i]?=some e->vs[i]?=some v->Bf K A B (fl fs i) e v)/\f ds= .ok (.tuple [d,dm]) /\
 ∀v A' H' o',aD A A'->aD A' H'->(∀b u,b≠p->H b=some u->H' b=some u)->New A A' H->A' p=none->H' p=some o'->jb K A' dm o'->Rp K A' d v->Q v H'
noncomputable def kOk:MA->Fl->Bool
 | .zD,.zD=>true
 | .zD,.zC=>true
 | .zC,.zC=>true
 | _,_=>false
theorem QV.afe{a:MA}{f:Fl}(h:QV K A B σ Γ A' H a kd v)(Y:kOk a f=true):Bf K A B f kd v:=by
 cases a <;> cases f <;> first | exact h | exact .inl h | cases Y
noncomputable def oO:ab->Option (ab×ab)
 | .tuple [d,dm]=>some (d,dm)
 | _=>none
def tM(K:aE)(O:B9)(i:Nat)(f:B4->zi ab)(ms:List ME):TE:=λσ H Q=>∃A B Γ ds d dm,aY K A B H O σ Γ/\evs ms Γ = .ok ds/\f ds= .ok (.tuple [d,dm]) /\
 ∀v A' H',aY K A' B H' O σ (Γ.set i (some dm))->aD A A'->New A A' B->Rp K A' d v->Q v H'
section
variable  {k:Nat}   {fs:B9}  {f:B4->zi ab}  {as:List MA}  {p:Pos}  {es:C1}
theorem iB(i:Nat)(F:Def X.prog X.w X.K X.mg X.base k x ps (spM X.K fs j f))(hr:dJ k X.A)(hg:Gl X x)(ha:QA X (e::es) (tAm X.K O as ms))(hj:as[j]?=some (.var i))(hi:isO (fl O i)=true)(hlen:as.length=fs.length)(R:∀l,l<fs.length->l≠j->kOk (as.getD l .new) (fl fs l)=true)
 (hdb:nD x:=by decide) (he:As e=true:=by rfl) (P:iz es=true:=by rfl):QE X (.Call (.Name x p) (e::es) [] pos) (tM X.K O i f ms):=
 QE.imp (BZ F hr hg ha.h hdb (cz he) (iY P)) λσ H Q E=>by
  obtain ⟨A,B,S,q,d,dm,r,e1,e2,k⟩:=E;refine ⟨A,B,S,q,r,e1,λJ A1 H1 L p1=>?_⟩;show spM X.K fs j f (J++[]) H1 Q E0;rw[c8];have hl:=p1.len;have I:=r.grow L;have hjl:=(a0.mp hj).1;have u:q[j]?=some q[j]:=av (by lia);have s:J[j]?=some J[j]:=av (by lia);obtain ⟨hs,Z⟩:sv σ i=some J[j]/\gv S i=some q[j]:=p1.get hj u s;have D:gv S i≠none:=by rw[Z];simp
  obtain ⟨d',p',o,M,Y,u3,u4,u5,u6⟩:=I.oh hi D;rw[hs] at Y;rw[Z] at M;have M:=Option.some.inj M;have Y:=Option.some.inj Y;refine ⟨A1,B,q,d,dm,p',o,L.ah,I.b,by lia,by lia,by rw[s,Y],u3,u4,u5,λz C=>?_,λl z v U C hv=>?_,e2,λv A2 H2 o2 s1 s2 s3 s4 s5 s6 s7 s8=>?_⟩
  . rw[u] at C;rw[<- Option.some.inj C,M];exact u6
  . have hll:l<as.length:=by have:=(a0.mp C).1;lia
    have ea:as[l]?=some (as.getD l .new):=by rw[ae,av hll];rfl
    exact (p1.get ea C hv).afe (R l (by lia) U)
  . exact k v A2 H2 (I.aa4 hi D (by rw[hs,Y]) s1 s2 s3 s4 s5 s6 s7) (L.aa.trans s1) ((L.nB r.b).trans (s4.mono I.b)) s8
end
noncomputable def Dk(x i:Nat)(f:B4->zi ab)(ms:List ME):MS:=λΓ=>(evs ms Γ).bind λds=>(f ds).bind λr=>match oO r with
 | some (d,dm)=>gd (x < Γ.length) (.ok (.nx ((Γ.set i (some dm)).set x (some d))))
 | none=>.bad
theorem zF{d Y:ab}(h:oO kd=some (d,Y)):kd= .tuple [d,Y]:=by
 unfold oO at h;split at h
 . cases h;rfl
 . cases h
section
variable     {f:B4->zi ab}
theorem El(x i:Nat){y:Str}(R:X.N.Nodup)(u:X.N[x]?=some y)(z:Loc X.env.scope y)(J:QE X e (tM K O i f ms))(S:x<O.length)(hs:hV e (some (.Name y pos')) pos.line X.env=pure false:=by rfl)
 (I:X.fn y=true\/X.env.scope.names.lookup y=some .local:=by walk_at "hf") (M:O.set x .zD=O2:=by rfl):QS X (.Assign [.Name y pos'] e pos) (tS K rm Ol O O2 (Dk x i f ms)):=
 M ▸ QS.imp (Dt R u z J.h hs I) λD σ H Y=>by
  obtain ⟨A,B,P,o,r,em,k⟩:=Y;obtain ⟨l,s,em⟩:=zi.aq em;obtain ⟨t,j,em⟩:=zi.aq em
  cases h:oO t with
  | none=>rw[h] at em;cases em
  | some q=>
   obtain ⟨d,U⟩:=q;rw[h] at em;obtain ⟨Z,em⟩:=bO em;cases em;rw[zF h] at j;exact ⟨A,B,P,l,d,U,r,s,j,λv E C L Q nw p=>k _ E C (L.set (by rw[fq];exact Z) S p) Q nw⟩
noncomputable def Ho(k i:Nat)(f:B4->zi ab)(ms:List ME):MS:=λΓ=>(evs ms Γ).bind λds=>(f ds).bind λr=>match oO r,gv Γ k with
 | some (d,dm),some (.list es)=>gd (es.length<bt) (.ok (.nx ((Γ.set i (some dm)).set k (some (.list (es++[d]))))))
 | _,_=>.bad
theorem M5(i j:Nat)(P:j≠i)(he:QE X e (tM X.K O j f ms))(M:isO (fl O i)=true:=by rfl)(C:Nm X i x:=by walk_at "nm")(l:l5 (.Name x pos') "append" X.env (eval (.Name x pos') X.env)=eval (.Name x pos') X.env:=by rfl)
 (s:((mI cpos (dr (e::[]) X.env)).all (λx=>!x.1)&&(ua cpos (ox [] X.env)).all (λx=>x.1.isSome)
  && decide ((e::[]).length+([]:List om).length+(if ([]:List om).isEmpty then 0 else 1)<30))=true:=by rfl)
 (Z:(apos.endLine == cpos.line)=true:=by rfl) (hs:dr (e::[]) X.env=(false,eval e X.env)::dr [] X.env:=by rfl) (Y:(mI cpos (dr [] X.env)).any (·.1)=false:=by rfl)
 (E:hV (.Call (.Attribute (.Name x pos') "append" apos) [e] [] cpos) none pos.line X.env=pure false:=by rfl) :
 QS X (.Expr (.Call (.Attribute (.Name x pos') "append" apos) [e] [] cpos) pos) (tS X.K rm Ol O O (Ho i j f ms)):=by
 refine QS.imp (oW (BV la qo wh yg (dO C.1 C.2 C.3 C.4) (bN he.h eQ hs) l s Z hs Y) E) λD σ H u=>?_;obtain ⟨A,B,I,o,r,em,k⟩:=u;obtain ⟨ds,e1,em⟩:=zi.aq em;obtain ⟨t,e2,em⟩:=zi.aq em
 cases h:oO t with
 | none=>rw[h] at em;cases em
 | some q=>
  obtain ⟨d,dm⟩:=q;rw[h] at em;rw[zF h] at e2
  cases z:gv I i with
  | none=>rw[z] at em;cases em
  | some dl=>
   rw[z] at em
   cases dl with
   | list es=>
    obtain ⟨hc,em⟩:=bO em;cases em;obtain ⟨q,vs,L,h1,h4⟩:=o4 r M z;have p:gv (I.set j (some dm)) i=some (.list es):=by
     have:=z;unfold gv at this ⊢;rw[aQ P];exact this
    refine ⟨.ref q,dU L,.inl ⟨rfl,vs,SqL.of h1⟩,A,B,I,ds,d,dm,r,e1,e2,λv A1 H1 Q sa nw p1=>?_⟩;obtain ⟨q',J,S,U,R⟩:=o4 Q M p;rw[L] at S;cases S;refine ⟨q,J,v,rfl,rfl,U,by rw[<- R.length];exact hc,?_⟩;exact k σ A1 _ (Q.change M (Yp (by rw[p];simp)) (by rw[p];simp) L U (.inl ⟨_,_,rfl,rfl,R.append (au.one p1)⟩)) sa nw
   | _=>cases em
noncomputable def Cg(j:Nat)(m:ME):MS:=λΓ=>(m Γ).bind λd=>match gv Γ j with
 | some dm=>.ok (.rt (.tuple [d,dm]))
 | none=>.bad
theorem Ez(j:Nat)(C:fl O j= .fix p)(L:QE X e (tE K O m)):QS X (.Return (some e) pos) (tS K (.m p) Ol O O' (Cg j m)):=QS.imp (yp L.h) λD U H Y=>by
 obtain ⟨A,B,l,o,r,em,k⟩:=Y;obtain ⟨i,Q,em⟩:=zi.aq em
 cases Z:gv l j with
 | none=>rw[Z] at em;cases em
 | some u=>
  rw[Z] at em;cases em;refine ⟨A,B,l,i,r,Q,λv I E g q=>k v I E g.ah (r.b.trans g.hh) g.aa (g.nB r.b) ?_⟩;obtain ⟨v',_,s⟩:=(r.grow g).slot j u Z;rw[C] at s;obtain ⟨rfl,S,M,P,J,R,_,z⟩:=s;cases P;exact ⟨i,u,M,rfl,q,J,R,z⟩
theorem Cy:pO O O cl=true:=by
 rw[pO,dQ];exact ⟨beq_self_eq_true _,gc.mpr λj _=>by rw[decide_eq_true rfl];rfl⟩
end
section
variable     {base:Heap}
theorem wu(ha:aD A H)(r:aD B H)(hv:vs.length=Ol.length)(hd:ds.length=Ol.length)(S:vs[j]?=some (.ref p))(hp:H p=some o)(ap:A p=none)(s:B p=none)
 (J:∀e,ds[j]?=some e->jb K A e o) (Z:∀(i:Nat) e v,i≠j->ds[i]?=some e->vs[i]?=some v->Bf K A B (fl Ol i) e v) (L:fl O j= .fix p) (R:∀i,i<Ol.length->i≠j->(fl O i= .zD/\fl Ol i= .zD)\/fl O i= .zC) (hn:Ol.length<=N.length) :
 aY K A (rem H p) H O (Zq.start N vs) (ds.map some++aI (N.length - ds.length) none):=by
 have D:∀i,gv (ds.map some++aI (N.length - ds.length) none) i=ds[i]?:=λi=>by
  rw[gv,ae];rcases fx i ds.length with h | h
  . rw[cE (by simpa using h),ba,av h];rfl
  . rw[bE (by simpa using h),ij,d3 h];split <;> rfl
 have E:∀i v,vs[i]?=some v->sv (Zq.start N vs) i=some v:=λi v e=>by
  unfold sv Zq.start;rw[ae];have h:=(a0.mp e).1;rw[cE (by simpa using h),ba,e];rfl
 have u:∀i,i<Ol.length->isO (fl O i)=true->i=j:=λi I h=>by
  rcases Classical.em (i=j) with z | z
  . exact z
  . rcases R i I z with ⟨q,_⟩ | q <;> rw[q] at h <;> cases h
 refine ⟨ha,aaI,?_,λi d e=>?_,λi l M h1 h2 P Q=>?_⟩
 . rw[Zq.start,ai,ai,ag,ag,cf,cf];lia
 . rw[D] at e;have I:i<Ol.length:=by rw[<- hd];exact (a0.mp e).1
   by_cases z:i=j
   . subst z;exact ⟨_,E i _ S,by rw[L];exact ⟨rfl,p,o,rfl,hp,ap,Ib,J d e⟩⟩
   . have ev:vs[i]?=some vs[i]:=av (by lia);refine ⟨_,E i _ ev,?_⟩;have q:=Z i d _ z e ev;rcases R i I z with ⟨z1,U⟩ | z1
     . rw[z1];rwa [U] at q
     . rw[z1]
       cases Y:fl Ol i with
       | zD=>rw[Y] at q;exact .inl q
       | zC=>rw[Y] at q;exact Pk.mono (aD.refl _) (oX r s) q
       | own=>rw[Y] at q;exact Pk.mono (aD.refl _) (oX r s) q
       | fix p0=>rw[Y] at q;exact Pk.mono (aD.refl _) (oX r s) q
       | exc C=>rw[Y] at q;exact Pk.mono (aD.refl _) (oX r s) q
       | nst b=>rw[Y] at q;exact Pk.mono (aD.refl _) (oX r s) q
       | kit=>rw[Y] at q;exact Pk.mono (aD.refl _) (oX r s) q
 . rw[D] at P Q;have I:i<Ol.length:=by
    rw[<- hd];rcases fx i ds.length with h | h
    . exact h
    . exact absurd (d3 h) P
   have hl:l<Ol.length:=by
    rw[<- hd];rcases fx l ds.length with h | h
    . exact h
    . exact absurd (d3 h) Q
   exact absurd ((u i I h1).trans (u l hl h2).symm) M
theorem En{st:Stmt}{k:Nat}{fs:B9}{O O':Addr->B9}{m:MS}(F:At K mg x st ps)(S:cL N ps (aM st))(hf:fs.length=ps.length)(hn:ps.length<=N.length)
 (l:∀p,fl (O p) j= .fix p) (M:∀p i,i<fs.length->i≠j->(fl (O p) i= .zD/\fl fs i= .zD)\/fl (O p) i= .zC)
 (hbody:∀(p:Addr) (f:Addr) (Y:bg) (A:gx) (AA:C5) (s:cy) (H:Hp) (E:XK),dJ k (A.deeper (oy x (aM st) s.heap.objs.size f Y)) ->
  QSs (mK CX0 P w K mg base N x (aM st) f Y A AA s H E).nox (bK st) (tS K (.m p) Ol (O p) (O' p) m)):Def P w K mg base (k+1) x ps (spM K fs j (fnR N.length m)):=by
 refine F.ok S (λvs H Q E h=>?_) (λf Y A AA s H vs Q E hr h=>?_)
 . obtain ⟨_,_,_,_,_,_,_,_,_,h,_⟩:=h;rw[h,hf]
 . obtain ⟨A',B,ds,d,dm,p,o,ha,hb,hv,hd,I,hp,ap,bp,e,Z,em,q⟩:=h;obtain ⟨out,e1,em⟩:=zi.aq em
   cases out with
   | rt d'=>
    cases em;refine ⟨_,(hbody p f Y A AA s H E hr).h,A',rem H p,_,_,wu ha hb hv hd I hp ap bp e Z (l p) (M p) (by lia),e1,λv A2 H2 U s2 sa nw rv=>?_⟩;obtain ⟨d1,dm1,R,J,r1,r2,C,D⟩:=rv;cases J;refine q v A2 H2 R sa U (λb u r L=>s2 b u (by rw[pQ r];exact L)) (λb q1 q2=>?_) C r2 D r1
    by_cases z:b=p
    . subst z;exact C
    . exact nw b q1 (by rw[pQ z];exact q2)
   | _=>cases em
theorem We{st:Stmt}{k:Nat}(F:At K mg x st ps)(S:cL N ps (aM st)):Def P w K mg base (k+1) x ps (spM K O j (λ_=>.bad)):=by
 refine F.ok S (λY H Q E h=>?_) (λf Z A AA s H Y Q E e h=>?_)
 . obtain ⟨_,_,_,_,_,_,_,_,_,_,_,_,_,_,_,_,_,em,_⟩:=h;cases em
 . obtain ⟨_,_,_,_,_,_,_,_,_,_,_,_,_,_,_,_,_,em,_⟩:=h;cases em
end
abbrev MZ:=Ev->zi Str
noncomputable def QZ(lo c:Int)(n:Nat):It:=⟨λi _=>i<n,λi H x H'=>H'=H/\x= .int (lo+i*c),λi _=>n<=i⟩
theorem Lj(it:Addr)(lo c:Int)(n:Nat):Turn P w K tg (QZ lo c n) [it] it (λi h=>IsRangeIter h it (lo+(i:Nat)*c) ((n:Int) - (i:Nat)) c) where
 mem:=by simp
 obj:=λi h st b Z=>by
  have e:=by simpa using Z
  subst e;exact ⟨_,st,λv z=>by
   have z':=z;cases z'⟩
 keep:=λi h u st k=>k it (by simp) _ st
 item:=by
  intro X D O r q i Y s Q H E I l st B;subst D O r;obtain ⟨J,L,S,p,C,M⟩:=l it (by simp);have W:=Walks.range (prog:=X.prog) (w:=X.w) (I.ok.hd q) it lo c n;refine W.item i s _ _ B st λv u tk hv j U=>?_;obtain ⟨t,rfl⟩:=hv;have R:zk X Y Q H { s with heap:=u,toks:=tk }:=I.turned (λb o Z e=>U b o (by simpa using Z) e) J L p C M;refine ⟨_,rfl,zj j rfl rfl (by decide) ⟨.int (lo+i*c),H,R,⟨t,rfl⟩,⟨rfl,rfl⟩,j,λb Z=>(l b Z).1⟩⟩
 done:=by
  intro X D O r q i Y s Q H E I l st B;subst D O r;obtain ⟨J,L,S,p,C,M⟩:=l it (by simp);exact wpAny_pyNext_range_end (I.ok.hd q) st (by have:n<=i:=B;lia) λu eb=>⟨rfl,I.turned (λb o Z e=>eb b o Z e) J L p C M⟩
 self:=λ_ _ _ _ _ st h=>wpAny_pyIter_rangeiter st h
theorem Rk{R:It->Hp->Prop}{lo Y c:Int}{t u v:Tok}(I:zk X y8 σ H s)(hs:Builtin.Range.small lo Y c=true)(h0:0<=dt lo Y c)
 (q:R (QZ lo c (dt lo Y c).toNat) H):de (dn X.prog X.w) X.A (yv (.ref s.heap.objs.size)) (PIE X y8 σ tg R) E { s with heap:=s.heap.push { cls:=.type "range",data:=.fields #[.int lo t,.int Y u,.int c v] },toks:=i }:=by
 refine wpAny_pyIter_range (IsRange.new ..) hs ?_;have Z:zk X y8 σ H { s with heap:=s.heap.push { cls:=.type "range",data:=.fields #[.int lo t,.int Y u,.int c v] },toks:=i }:=I.kept λb o e=>ax _ e;refine ⟨(s.heap.push { cls:=.type "range",data:=.fields #[.int lo t,.int Y u,.int c v] }).objs.size,[(s.heap.push { cls:=.type "range",data:=.fields #[.int lo t,.int Y u,.int c v] }).objs.size],_,_,H,rfl,
  Z.kept λb o e=>ax _ e,Lj _ lo c (dt lo Y c).toNat,?_,λb j=>?_,q⟩
 . have p:lo+((0:Nat):Int)*c=lo:=by simp
   have l:(((dt lo Y c).toNat:Nat):Int) - ((0:Nat):Int)=dt lo Y c:=by lia
   rw[p,l];exact cm _ rfl
 . have e:b=(s.heap.push { cls:=.type "range",data:=.fields #[.int lo t,.int Y u,.int c v] }).objs.size:=by simpa using j
   subst e;exact Z.qy (ay _) (Z.zS.fresh (ay _))
def adK(ta:TA):TI:=λσ H R=>ta σ H λvs H1=>∃i j c:Int,vs=[.int i,.int j,.int c]/\(c≠0/\c.natAbs<1073741824/\Builtin.Range.small i j c=true/\0<=dt i j c)/\R (QZ i c (dt i j c).toNat) H1
theorem Gr{v:TA}(C:Gl X "range")(J:X.mg "range"= none)(M:PA X [a,b,c] v)(hs:dr [a,b,c] X.env=[(false,eval a X.env),(false,eval b X.env),(false,eval c X.env)]:=by rfl)(Z:dr [b,c] X.env=[(false,eval b X.env),(false,eval c X.env)]:=by rfl) :
 PI X tg (.Call (.Name "range" pos') [a,b,c] [] pos) (adK v):=by
 intro l s D H R I h;refine Call_ (lr I C J boot_range (gy (thn (M pos l s D H _ I h) λS U o=>?_) (by rw[hs,Z]) (by rw[Z];rfl)));obtain ⟨vs,H1,z,B,u⟩:=o;obtain ⟨i,j,k,e,⟨L,u,Q,E⟩,q⟩:=u;subst e
 cases B with
 | cons r Y=>
  cases Y with
  | cons P Y=>
   cases Y with
   | cons p Y=>
    cases Y;obtain ⟨t,rfl⟩:=r;obtain ⟨t',rfl⟩:=P;obtain ⟨O,rfl⟩:=p;exact call_range_3 L (Rk z Q E q) (.inl (xB u))
section
variable   {m'':ME}  {p:Pos}
theorem GZ(lo c:Int)(n:Nat):rY K A B (QZ lo c n) ((List.range n).map λi=>ab.int (lo+(i:Nat)*c)):=by
 have Z:((List.range n).map λi=>ab.int (lo+(i:Nat)*c)).length=n:=by rw[ag,cq]
 refine ⟨λi H _ _ Y=>(by rwa [Z] at Y),λH _ _=>(by rw[Z];exact ay _),λi j H x l o e p Y y=>?_⟩;obtain ⟨rfl,rfl⟩:=y;rw[Z] at Y;exact ⟨j,.int (lo+i*c),by rw[ba,eg Y];rfl,aZ.refl e,Rp.int.mpr rfl⟩
noncomputable def Ec(d d' d'':ab):zi B4:=match d,d',d'' with
 | .int i,.int j,.int c=>gd (c≠0/\c.natAbs<1073741824/\Builtin.Range.small i j c=true/\0<=dt i j c) (.ok ((List.range (dt i j c).toNat).map λk=>ab.int (i+(k:Nat)*c)))
 | _,_,_=>.bad
noncomputable def Bd(m m' m'':ME):MI:=λΓ=>(m Γ).bind λd=>(m' Γ).bind λd'=>(m'' Γ).bind λd''=>Ec d d' d''
theorem Nv{Z Y:ab}(h:Ec kd Z Y= .ok ds):∃i j c:Int,kd= .int i/\Z= .int j/\Y= .int c/\(c≠0/\c.natAbs<1073741824/\Builtin.Range.small i j c=true/\0<=dt i j c)/\ds=(List.range (dt i j c).toNat).map λk=>ab.int (i+(k:Nat)*c):=by
 unfold Ec at h;split at h
 . obtain ⟨e,em⟩:=bO h;cases em;exact ⟨_,_,_,rfl,rfl,rfl,e,rfl⟩
 . cases h
theorem R6(J:Gl X "range")(M:X.mg "range"= none)(ha:QE X a (tP X.K O m))(I:QE X b (tP X.K O m'))(l:QE X c (tP X.K O m''))(hs:dr [a,b,c] X.env=[(false,eval a X.env),(false,eval b X.env),(false,eval c X.env)]:=by rfl)(Y:dr [b,c] X.env=[(false,eval b X.env),(false,eval c X.env)]:=by rfl)(Z:dr [c] X.env=[(false,eval c X.env)]:=by rfl) :
 QI X tg (.Call (.Name "range" p) [a,b,c] [] pos) (tI X.K O (Bd m m' m'')):=
 QI.imp (Gr J M (bN ha.h (bN I.h (bN l.h eQ Z) (by rw[Y,Z])) (by rw[hs,Y])) hs Y) λσ H R e=>by
  obtain ⟨A,B,o,xs,r,em,k⟩:=e;obtain ⟨d,Q,em⟩:=zi.aq em;obtain ⟨d',e2,em⟩:=zi.aq em;obtain ⟨D,P,em⟩:=zi.aq em;obtain ⟨i,j,s,rfl,rfl,rfl,l,rfl⟩:=Nv em;exact ⟨A,B,o,_,r,Q,λv z H1 q p1=>⟨z,B,o,_,r.grow q,e2,λv' A2 H2 u S=>⟨A2,B,o,_,(r.grow q).grow u,P,λC L U E p3=>⟨i,j,s,by rw[p1.int,S.int,p3.int],l,k _ L U ((q.trans u).trans E) (GZ i s _)⟩⟩⟩⟩
theorem Ry(J:Gl X "range")(M:X.mg "range"= none)(ha:QE X a (tP X.K O m))(I:QE X b (tP X.K O m'))(l:QE X c (tP X.K O m''))(hs:dr [a,b,c] X.env=[(false,eval a X.env),(false,eval b X.env),(false,eval c X.env)]:=by rfl)(Y:dr [b,c] X.env=[(false,eval b X.env),(false,eval c X.env)]:=by rfl)(Z:dr [c] X.env=[(false,eval c X.env)]:=by rfl) :
 QI X tg (.Call (.Name "range" p) [a,b,c] [] pos) (tIc X.K O (Bd m m' m'')):=
 QI.imp (Gr J M (bN ha.h (bN I.h (bN l.h eQ Z) (by rw[Y,Z])) (by rw[hs,Y])) hs Y) λσ H R e=>by
  obtain ⟨A,B,o,xs,r,em,k⟩:=e;obtain ⟨d,Q,em⟩:=zi.aq em;obtain ⟨d',e2,em⟩:=zi.aq em;obtain ⟨D,P,em⟩:=zi.aq em;obtain ⟨i,j,s,rfl,rfl,rfl,l,rfl⟩:=Nv em;exact ⟨A,B,o,_,r,Q,λv z H1 q p1=>⟨z,B,o,_,r.grow q,e2,λv' A2 H2 u S=>⟨A2,B,o,_,(r.grow q).grow u,P,λC L U E p3=>⟨i,j,s,by rw[p1.int,S.int,p3.int],l,k _ L U ((q.trans u).trans E) (GZ i s _)⟩⟩⟩⟩
noncomputable def aca:ab->zi ab
 | .int a=>.ok (.int (gS a))
 | _=>.bad
theorem acX(j:QE X a (tP K O m)):QE X (.UnaryOp .Invert a pos) (tE K O (eUn aca m)):=Yd abx (λA H Y d x Q e Z p k=>by
 cases Y with
 | int i=>cases e;exact ⟨i,p.int,k _ A H (aZ.refl Z) (Rp.int.mpr rfl)⟩
 | _=>cases e) j
end
def jY(xs:Array Nat):Prop:=xs.toList.Pairwise (· < ·)
theorem Lz(xs:Array Nat)(i d:Nat):xs.getD i d=xs.toList.getD i d:=by
 rw[ae,fI,ky]
variable {xs:Array Nat}
theorem Bt(q:jY xs):∀fuel lo hi,hi - lo<=fuel->lo<=hi->hi<=xs.size ->
 (∀a∈xs.toList.take lo,a<j)->(∀b∈xs.toList.drop hi,j<=b) ->
 ra xs j fuel lo hi<=xs.size/\(∀a∈xs.toList.take (ra xs j fuel lo hi),a<j)/\(∀b∈xs.toList.drop (ra xs j fuel lo hi),j<=b)
 | 0,lo,hi,v,C,i,l,o=>by
  have e:lo=hi:=by lia
  subst e;exact ⟨i,l,o⟩
 | fuel+1,lo,hi,v,C,i,l,o=>by
  unfold ra
  by_cases Z:lo<hi
  . rw[if_pos Z]
    dsimp only
    have s:(lo+hi) / 2<xs.toList.length:=by rw[e8];lia
    have B:xs.getD ((lo+hi) / 2) j=xs.toList[(lo+hi) / 2]:=by
     rw[Lz,ae,av s];rfl
    rw[B]
    by_cases p:xs.toList[(lo+hi) / 2]<j
    . rw[if_pos p];refine Bt q fuel _ hi (by lia) (by lia) i (λa u=>?_) o;obtain ⟨k,r,rfl⟩:=eK.mp u;rw[oo];rw[dc] at r;have Y:k<xs.toList.length:=by lia
      rcases fx k ((lo+hi) / 2) with hq | hq
      . exact tm (mN.mp q k ((lo+hi) / 2) Y s hq) p
      . have:k=(lo+hi) / 2:=by lia
        subst this;exact p
    . rw[if_neg p];refine Bt q fuel lo _ (by lia) (by lia) (by lia) l λb z=>?_;obtain ⟨k,r,rfl⟩:=eK.mp z;rw[vS];rw[l9] at r;have Y:(lo+hi) / 2+k<xs.toList.length:=by lia
      rcases Nat.eq_zero_or_pos k with rfl | hq
      . simp only[Nat.add_zero];lia
      . have:=mN.mp q ((lo+hi) / 2) ((lo+hi) / 2+k) s Y (by lia);lia
  . rw[if_neg Z];have e:lo=hi:=by lia
    subst e;exact ⟨i,l,o⟩
theorem vL(Z:jY xs)(j:Nat):eD xs j<=xs.size/\(∀a∈xs.toList.take (eD xs j),a<j)/\(∀b∈xs.toList.drop (eD xs j),j<=b):=
 Bt Z xs.size 0 xs.size (by lia) (by lia) (ay _) (λa e=>by simp at e) (λb Y=>by rw[<- e8,r6] at Y;cases Y)
theorem below_at(Y:jY xs)(h:j∈xs.toList):xs[eD xs j]?=some j:=by
 obtain ⟨s,q,i⟩:=vL Y j;obtain ⟨k,o,e⟩:=eK.mp h;have l:eD xs j<=k:=by
  rcases fx k (eD xs j) with hq | hq
  . have p:xs.toList[k]∈xs.toList.take (eD xs j):=eK.mpr ⟨k,by rw[dc];lia,oo⟩;have:=q _ p;lia
  . exact hq
 have Z:eD xs j<xs.toList.length:=by lia
 have r:=i (xs.toList[eD xs j]) (eK.mpr ⟨0,by rw[l9];lia,by rw[vS];rfl⟩);rcases fx (eD xs j) k with hq | hq
 . have:=mN.mp Y _ _ Z o hq;lia
 . have:eD xs j=k:=by lia
   rw[<- fI,av Z];simp only[this,e]
theorem Pa(Z:jY xs)(l:i<xs.size):eD xs (xs[i]+1)=i+1:=by
 obtain ⟨r,p,j⟩:=vL Z (xs[i]+1);have Y:i<xs.toList.length:=by simpa using l
 have e:xs.toList[i]=xs[i]:=by simp
 rcases vT (eD xs (xs[i]+1)) (i+1) with hq | hq | hq
 . have:=j (xs.toList[i]) (eK.mpr ⟨i - eD xs (xs[i]+1),by rw[l9];lia,by rw[vS];congr 1;lia⟩);lia
 . exact hq
 . have o:i+1<xs.toList.length:=by rw[e8];lia
   have q:=p (xs.toList[i+1]) (eK.mpr ⟨i+1,by rw[dc];lia,oo⟩);have s:=mN.mp Z i (i+1) Y o (by lia);lia
theorem K7(Y:jY xs):eD xs 0=0:=by
 obtain ⟨l,Z,e⟩:=vL Y 0;rcases Nat.eq_zero_or_pos (eD xs 0) with h | h
 . exact h
 . have i:0<xs.toList.length:=by rw[e8];lia
   have j:=Z (xs.toList[0]) (eK.mpr ⟨0,by rw[dc];lia,oo⟩);lia
theorem G7(i:jY xs)(h:xs[eD xs j]?≠some j):jY (SetTable.insertAt xs (eD xs j) j):=by
 obtain ⟨v,u,l⟩:=vL i j;have s:=λq=>h (below_at i q);rw[jY,SetTable.toList_insertAt];have Z:xs.toList.Pairwise (· < ·):=i;rw[<- mE (eD xs j) xs.toList] at Z;obtain ⟨r,o,z⟩:=List.pairwise_append.mp Z;have Y:∀b∈xs.toList.drop (eD xs j),j<b:=λb hb=>by
  have:=l b hb;have:b≠j:=λe=>s (e ▸ List.mem_of_mem_drop hb);lia
 refine List.pairwise_append.mpr ⟨r,kK.mpr ⟨Y,o⟩,λa p b hb=>?_⟩;have:=u a p;rcases b9.mp hb with rfl | hb
 . exact this
 . have:=Y b hb;lia
theorem Jd(n:Nat):jY (Array.range n):=by
 rw[jY,Array.toList_range];exact x3
theorem Ay{t:eP}{l:Nat->Int}{h:Int}{r:Option Nat}:∀fuel p,(∀d,p.dummy=some d->t.slot d= .dummy)->SetTable.probe.go t l h fuel p=some (.empty j r)->t.slot j= .empty/\∀d,r=some d->t.slot d= .dummy
 | 0,p,o,e=>by cases e
 | fuel+1,p,o,e=>by
  unfold SetTable.probe.go at e;have Y:∀q:SetTable.Probe,(t.advance q).dummy=q.dummy:=λq=>by
   unfold SetTable.advance;split <;> rfl
  cases Z:t.slot p.j with
  | empty=>
   rw[Z] at e;obtain ⟨rfl,rfl⟩:=e;exact ⟨Z,o⟩
  | dummy=>
   rw[Z] at e;refine Ay fuel _ (λd hd=>?_) e;rw[Y] at hd;cases hd;exact Z
  | live i=>
   rw[Z] at e
   dsimp only at e
   split at e
   . cases e
   . refine Ay fuel _ (λd hd=>?_) e;rw[Y] at hd;exact o d hd
theorem Ln{t:eP}{h:Int}{b:Bool}(e:t.freeSlot h=some (j,b)):∀i,t.slot j ≠ .live i:=by
 unfold SetTable.freeSlot at e;split at e
 . rename_i Y o l;obtain ⟨rfl,_⟩:=e;obtain ⟨Z,p⟩:=Ay _ _ (λd hd=>by cases hd) l
   cases o with
   | none=>intro i q;rw[show (none:Option Nat).getD Y=Y from rfl,Z] at q;cases q
   | some d=>intro i q;rw[show (some d).getD Y=d from rfl,p d rfl] at q;cases q
 . cases e
theorem XX{t:eP}(h:∀i,t.slot j ≠ .live i):t.place[eD t.place j]?≠some j:=λe=>by
 have:=h (eD t.place j);unfold SetTable.slot at this
 dsimp only at this
 rw[e] at this;simp at this
structure TabOk (led:Bool) (t:eP):Prop where
 up:jY t.place
 led:t.led=led
variable {led:Bool}
theorem TabOk.standIn{t:eP}(h:TabOk led t)(n:Nat):TabOk led (t.standIn n):=⟨Jd n,h.led⟩
theorem TabOk.orStandIn{t:eP}(h:TabOk led t)(n:Nat):TabOk led (t.orStandIn n):=by
 unfold eP.orStandIn;split
 . exact h
 . exact h.standIn n
theorem TabOk.layNew{t:eP}(h:TabOk led t)(es:Array (Int×bg))(hs:Int)(x:bg):TabOk led (layNew t es hs x).2.1:=by
 unfold PySem.layNew;split
 . rename_i j Z e;have Y:=XX (Ln e);refine TabOk.orStandIn (t:=(t.put j).1) ⟨?_,h.led⟩ _;exact G7 h.up Y
 . exact h.standIn _
theorem Mp(owner:Array (Option Nat))(n:Nat):(((List.range n).filterMap λj=>(owner.getD j none).map (j,·)).map (·.1)).Pairwise (· < ·):=by
 rw[List.pairwise_map];refine List.Pairwise.filterMap _ (λa o e b Z p Y=>?_) x3
 cases i:owner.getD a none with
 | none=>rw[i] at Z;cases Z
 | some x=>
  cases l:owner.getD o none with
  | none=>rw[l] at Y;cases Y
  | some y=>
   rw[i] at Z;rw[l] at Y;simp only[Option.map_some,Option.some.injEq] at Z Y;subst Z;subst Y;exact e
theorem YF{Y:Nat}{plain:Bool}{hs:Array Int}{t:eP}(e:eP.laid i j Y led plain hs=some (t,xs)):TabOk led t:=by
 unfold eP.laid at e
 cases Z:SetTable.layClean i hs with
 | none=>rw[Z] at e;cases e
 | some l=>
  rw[Z] at e;simp only[bind,Option.bind,pure,Option.some.injEq,Prod.mk.injEq] at e;obtain ⟨rfl,_⟩:=e;refine ⟨?_,rfl⟩;exact Mp l _
theorem TabOk.relayAll{t:eP}(h:TabOk led t)(es:Array (Int×bg))(n:Nat):TabOk led (relayAll t es n).2.1:=by
 unfold PySem.relayAll;split
 . rename_i Y o e
   dsimp only
   split
   . have:=YF e;rwa [h.led] at this
   . exact h.standIn _
 . exact h.standIn _
theorem vG{α:Type}:∀{l:List α}{i:Nat} (h:i<l.length),(l[i]::l.eraseIdx i).Perm l
 | a::l,0,_=>.refl _
 | a::l,i+1,h=>by
  simp only[bo] at h;rw[List.eraseIdx_cons_succ];exact (List.Perm.swap a _ _).trans ((vG (l:=l) (by lia)).cons a)
theorem N8{α:Type}(next:Nat->Nat):∀(fuel k:Nat) (left:List α) (out:Array α),left.length=fuel->(pickOrder.go next fuel k left out).toList.Perm (out.toList++left)
 | 0,k,left,out,h=>by
  have:=ip.mp h;subst this;rw[pickOrder.go,c8]
 | fuel+1,k,left,out,h=>by
  unfold pickOrder.go;have Y:next k % left.length<left.length:=ve _ (by lia)
  rw[av Y];refine (N8 next fuel (k+1) (left.eraseIdx (next k % left.length)) _ (by rw[vi Y];lia)).trans ?_;rw[Array.toList_push,dy];exact List.Perm.append_left _ (vG Y)
theorem Gs{α:Type}(next:Nat->Nat)(xs:Array α):(pickOrder next xs).toList.Perm xs.toList:=by
 have:=N8 next xs.size 0 xs.toList #[] (by simp)
 rwa [eL] at this
noncomputable def w5(M:Nat):Nat->Nat->Nat
 | 0,x=>x
 | n+1,x=>(5*w5 M n x+1) % M
theorem PX(Y i:Nat):SetTable.runEnd Y i - i<=9:=by
 unfold SetTable.runEnd;split <;> lia
structure acG (t:eP) (p:SetTable.Probe):Prop where
 more:p.more<=9
 afB:p.perturb<2^64
 dum:p.dummy=none
theorem acG.start{t:eP}{h:Int}:acG t (t.probeStart h):=by
 refine ⟨PX _ _,?_,rfl⟩;show eP.bits h<2^64;unfold eP.bits;have:=kL h (show 0<2^64 by decide);have:=lj h (show (2^64)≠0 by decide);lia
noncomputable def OD:bg->Int
 | .int k _=>k
 | _=>0
noncomputable def qp(w:kz):Bool:=!(w.params.followText "set-order")
noncomputable def dh(es:Array (Int×bg))(ep:Nat)(t:eP):Obj:={ cls:=.type "set",dict:=none,data:=.set es ep t,slots:=#[] }
structure gK (P:gi) (w:kz) (es:Array (Int×bg)) (t:eP) (ks:B3):Prop where
 el:ElemsOf (mu P w) es.toList
 tab:TabOk (qp w) t
 fit:t.fits es.size=true
 pm:(es.toList.map λe=>OD e.2).Perm ks
def iQ(P:gi)(w:kz)(h:Heap)(a:Addr)(ks:B3):Prop:=∃es ep t,h.get? a=some (dh es ep t)/\gK P w es t ks
variable {es es':Array (Int×bg)}{ks:B3}{ep:Nat}
section
variable   {A:gx}
theorem iQ.at{h':Heap}(x:iQ P w h p ks)(e:∀o,h.get? p=some o->h'.get? p=some o):iQ P w h' p ks:=by
 obtain ⟨Y,Z,t,g,r⟩:=x;exact ⟨Y,Z,t,e _ g,r⟩
theorem gK.size{t:eP}(r:gK P w es t ks):es.size=ks.length:=by
 have:=r.pm.length_eq;rwa [ag,e8] at this
theorem gK.shape{t:eP}(r:gK P w es t ks){e:Int×bg}(Y:e∈es.toList):∃k tk,e=(ti k,.int k tk):=by
 obtain ⟨⟨k,i,j⟩,_⟩:=r.el e Y;obtain ⟨tk,Z⟩:=vn i;exact ⟨k,tk,by rw[<- Z];exact Prod.ext j rfl⟩
theorem gK.mem{t:eP}(r:gK P w es t ks){k:Int}:k∈ks↔∃e∈es.toList,(mu P w).is k e.2=true:=by
 rw[<- r.pm.mem_iff,bX];constructor
 . rintro ⟨e,Y,rfl⟩;obtain ⟨Z,i,rfl⟩:=r.shape Y;exact ⟨_,Y,intKind_is _ _ _ _⟩
 . rintro ⟨e,Y,h⟩;obtain ⟨Z,i,rfl⟩:=r.shape Y;refine ⟨_,Y,?_⟩;exact ((mu P w).inj _ k Z h (intKind_is _ _ _ _)).symm
theorem gK.found{t:eP}(r:gK P w es t ks)(k:Int):(es.toList.findIdx? λe=>(mu P w).is k e.2).isSome=decide (k∈ks):=by
 cases Y:es.toList.findIdx? λe=>(mu P w).is k e.2 with
 | none=>
  refine (decide_eq_false λl=>?_).symm;obtain ⟨e,Z,h⟩:=r.mem.mp l;have:=List.findIdx?_eq_none_iff.mp Y e Z;rw[h] at this;cases this
 | some j=>
  obtain ⟨i,o,_⟩:=List.findIdx?_eq_some_iff_getElem.mp Y;exact (decide_eq_true (r.mem.mpr ⟨_,fA i,o⟩)).symm
theorem N6{t t':eP}(g:h.get? p=some (dh es ep t)):(h.update p (Obj.putSet es' t')).get? p=some (dh es' (ep+1) t'):=by
 have:=i4 (Obj.putSet es' t') g (by rw[putSet_of es' t' (rfl)];rfl);rwa [putSet_of es' t' (show (dh es ep t).data=_ from rfl)] at this
theorem yr(h:i<4000):i<=bt:=cS (gp h) (by decide)
theorem gK.perm{t t':eP}(r:gK P w es t ks)(Y:es'.toList.Perm es.toList)(Z:TabOk (qp w) t')(e:t'.fits es'.size=true):gK P w es' t' ks:=
 ⟨r.el.perm Y,Z,e,(Y.map _).trans r.pm⟩
theorem add_int{k:Int}{tk:Tok}{Q:Bool->cy->Prop}(x:iQ P w s.heap p ks)(hb:ks.length+1<4000)
 (h:∀h',jv p s.heap h'->iQ P w h' p (if k∈ks then ks else ks++[k])->Q (!decide (k∈ks)) { s with heap:=h' }):de (dn P w) A (setAddHashed p (.int k tk) (ti k)) Q E s:=by
 obtain ⟨l,ep,t,g,r⟩:=x;have sz:=r.size;have fd:=r.found k;have key:(mu P w).is k (.int k tk)=true:=intKind_is _ _ _ _;have i:Value.scannable (.int k tk)=true:=rfl;have bs:=byScan_of i (by unfold scanBound;lia) r.el;refine i8 (af (nh g rfl r.fit ?_))
 dsimp only
 rw[bs];refine af (af (pE (af (wpAny_setScan_of key g rfl r.fit r.el ?_))))
 cases M:l.toList.findIdx? λe=>(mu P w).is k e.2 with
 | some j=>
  rw[M] at fd;have u:=of_decide_eq_true fd.symm;refine aS (aS ?_);have:=h s.heap (jv.refl p s.heap) (by rw[if_pos u];exact ⟨l,ep,t,g,r⟩);rwa [decide_eq_true u] at this
 | none=>
  rw[M] at fd;have u:=of_decide_eq_false fd.symm;rw[if_neg u,decide_eq_false u] at h
  dsimp only
  have O:∀(b:Bool) {s₁:cy}{R:Unit->cy->Prop},R () s₁->de (dn P w) A (match b with | true=>rule "set.scan.the-table-gave-way" | false=>pure ()) R E s₁:=
   λb s₁ R q=>by cases b <;> first | exact aS q | exact pE q
  have pn:=layNew_perm t l (ti k) (.int k tk);have fn:=layNew_fits t l (ti k) (.int k tk);have H:=r.tab.layNew l (ti k) (.int k tk);generalize hL:layNew t l (ti k) (.int k tk)=L at pn fn H ⊢;obtain ⟨Y,Z,U,gv⟩:=L;rw[Array.toList_push] at pn;have C:gK P w Y Z (ks++[k]):=⟨(r.el.push key i).perm pn,H,fn,((pn.map _).trans (by rw[be];exact List.Perm.append_right _ r.pm))⟩;have B:=C.size;rw[ai] at B;simp only[bo,jS] at B;refine af (O _ ?_);have go:de (dn P w) A (storeSet p Y Z >>= λ_=>if (!U&&Z.tooFull)=true then
   (match (relayAll Z Y (eP.grown Y.size)).2.2 with | true=>rule "set.scan.the-table-gave-way" | false=>pure ()) >>= λ_=>storeSet p (relayAll Z Y (eP.grown Y.size)).1 (relayAll Z Y (eP.grown Y.size)).2.1 >>= λ_=>pure (some true)
   else pure (some true)) (λr o=>r=some true/\∃h',o={ s with heap:=h' }/\jv p s.heap h'/\iQ P w h' p (ks++[k])) E s:=by
   refine af (wpAny_storeSet_of g rfl ?_ (yr (by lia)));have D:=N6 (es':=Y) (t':=Z) g;have b1:=fw s.heap p (Obj.putSet Y Z);split
   . refine af (O _ ?_);have S:=relayAll_perm Z Y (eP.grown Y.size);have fr:=relayAll_fits Z Y (eP.grown Y.size);have tr:=C.tab.relayAll Y (eP.grown Y.size);have J:=C.perm S tr fr;refine af (wpAny_storeSet_of D rfl ?_ (yr (by rw[J.size,ai];lia)));exact aS ⟨rfl,_,rfl,b1.trans (fw _ p _),_,_,_,N6 D,J⟩
   . exact aS ⟨rfl,_,rfl,b1,_,_,_,D,C⟩
  have fin:∀{m:Sem (Option Bool)},de (dn P w) A m (λr o=>r=some true/\∃h',o={ s with heap:=h' }/\jv p s.heap h'/\iQ P w h' p (ks++[k])) E s ->
   de (dn P w) A m (λr o=>de (dn P w) A (match r with | some added=>pure added | none=>setAddHashedIn p (.int k tk) (ti k) 99999) Q E o) E s:=λhm=>
   gL hm (λr o v=>by obtain ⟨e1,h',e2,b,q⟩:=v;subst e1 e2;exact aS (h h' b q)) λ_ _ z=>z
  refine fin ?_
  by_cases I:Z.plain=true
  . rw[if_pos I,hashByValue_scannable 8 i];exact af (aS (go))
  . rw[if_neg I];exact af (aS (go))
end
noncomputable def jK(σ:B3)(v:Int):B3:=if v∈σ then σ else σ++[v]
noncomputable def ddl(ns:B3):B3:=ns.foldl jK []
theorem Vx(Y:B3)(v:Int):Y.length<=(jK Y v).length:=by
 unfold jK;split
 . exact ay _
 . rw[ai];exact Nat.le_add_right _ _
theorem W7(ns:B3):∀σ:B3,σ.length<=(ns.foldl jK σ).length:=by
 induction ns with
 | nil=>exact λσ=>ay _
 | cons n r Y=>exact λσ=>cS (Vx σ n) (Y _)
theorem Vf(ns:B3)(v:Int):ddl (ns++[v])=jK (ddl ns) v:=by rw[ddl,fg];rfl
theorem PJ(ns Y:B3):(ddl ns).length<=(ddl (ns++Y)).length:=by unfold ddl;rw[fg];exact W7 Y _
theorem Rg{k:Int}(ns:B3):∀σ:B3,k∈ns.foldl jK σ↔k∈σ\/k∈ns:=by
 induction ns with
 | nil=>intro σ;simp
 | cons n r Y=>
  intro σ;rw[jI,Y];unfold jK;split
  . rename_i h;constructor
    . rintro (q | q)
      . exact .inl q
      . exact .inr (cc _ q)
    . rintro (q | q)
      . exact .inl q
      . rcases b9.mp q with rfl | q
        . exact .inl h
        . exact .inr q
  . rw[ck,aw,b9,or_assoc]
theorem M9{k:Int}:k∈ddl ns↔k∈ns:=by rw[ddl,Rg];simp
theorem Lk(ns:B3):∀σ:B3,σ.Nodup->(ns.foldl jK σ).Nodup:=by
 induction ns with
 | nil=>exact λσ h=>h
 | cons n r Z=>
  intro σ h;refine Z _ ?_;unfold jK;split
  . exact h
  . rename_i i;refine ey.mpr ⟨h,by simp,λa j b Y e=>?_⟩;rw[aw] at Y;exact i (by rw[<- Y,<- e];exact j)
theorem Ge(ns:B3):(ddl ns).Nodup:=Lk ns [] qE
theorem Hd(ns:B3):(ddl ns).length<=ns.length:=by
 have key:∀(ns Y:B3),(ns.foldl jK Y).length<=Y.length+ns.length:=λns=>by
  induction ns with
  | nil=>exact λY=>ay _
  | cons n r Z=>
   intro Y;have e:=Z (jK Y n);have i:(jK Y n).length<=Y.length+1:=by
    unfold jK;split
    . lia
    . rw[ai];exact ay _
   rw[jI,bo];lia
 have:=key ns [];rwa [jS,x4] at this
theorem M3:entryFor table "set.update.loop"= some Builtin.«set.update.loop» := entryFor_of_tree (by kernel_rfl)
theorem Kr:plainId "set.update.loop"= true:=by decide +kernel
section
variable   {A:gx}{R:Result->cy->Prop}{I:Addr}{fp wr:C2}{G:Array GenState->Array GenState->Prop}{n:Nat}{Pv:Nat->bg->Prop}{St:Nat->cy->Prop}
theorem Vz(W:WalksS P w A.in1 I fp wr G n Pv St)(S:Addr)(r:S∉fp)(ns:B3)(hn:ns.length=n)(D:∀i v,i<n->Pv i v->∃t,v= .int (ns.getD i 0) t)(hb:(ddl ns).length+1<4000) :
 ∀(k i:Nat) (s:cy),n - i=k->i<=n->St i s->iQ P w s.heap S (ddl (ns.take i)) ->
  (∀s',Moved (S::wr) G s s'->iQ P w s'.heap S (ddl ns)->R (.ok (.ret .none)) s') ->
  sd (dn P w) A (.builtin "set.update.loop" ⟨[.ref S,.ref I],[]⟩) R s:=by
 have up:∀b∈wr,b∈S::wr:=λb h=>cc _ h;have sw:=λh=>r (W.sub _ h);intro k
 induction k with
 | zero=>
  intro i s M H st x q;obtain rfl:i=n:=by lia
  rw[iN (by lia)] at x;refine kD M3 ?_;rw[iE Kr _];exact af (W.done s _ _ st λs' j=>aS (q s' (j.mono up) (x.at λo e=>j.heap S o sw e)))
 | succ k O=>
  intro i s M H st x q;have Y:i<n:=by lia
  refine kD M3 ?_;rw[iE Kr _];refine af (W.item i s _ _ Y st λv s' pv p j=>?_);obtain ⟨t,rfl⟩:=D i v Y pv;have U:=x.at λo e=>j.heap S o sw e;have J:ns.take (i+1)=ns.take i++[ns.getD i 0]:=by
   rw[nk,ae,av (by lia)];rfl
  have le1:=by
   have:=PJ (ns.take i) (ns.drop i);rwa [mE] at this
  refine af (i8 (i8 (af (wpAny_pyHash_int ?_))));refine add_int U (by lia) λB u E=>?_;have Q:iQ P w B S (ddl (ns.take (i+1))):=by rw[J,Vf];exact E
  refine aS ⟨l7 Kr _,O (i+1) _ (by lia) Y (W.frame _ s' _ _ p (p9 _) λb Z o e=>?_) Q λL l C=>?_⟩
  . rw[u.2 b (λz:b=S=>r (by rw[<- z];exact Z))];exact e
  . refine q L (Moved.trans W.gtrans ((j.mono up).then_heap (p9 _) λb o Z e=>?_) l) C;rw[u.2 b (λz:b=S=>Z (by rw[z];exact br))];exact e
end
variable {M:Model}{items:Array bg}
section
variable   {A:gx}
theorem Rr:gK P w #[] (.fresh 0 0 (qp w)) []:=⟨(λe h=>nomatch h),⟨we.nil,rfl⟩,rfl,List.Perm.nil⟩
theorem Lr(a:bg):checkBuiltinCall "set.__new__" ⟨[.type "set",a],[]⟩=pure ():=by kernel_rfl
theorem Kq(a:bg):checkTypeCall "set" ⟨[a],[]⟩=pure ():=by kernel_rfl
theorem XN(a:bg){Q:B2}(h:Q (.ref s.heap.objs.size) { s with heap:=s.heap.push (dh #[] 0 (.fresh 0 0 (qp w))) }) :
 sd (dn P w) A (.call (.builtin "set.__new__") ⟨[.type "set",a],[]⟩) (wants Q E) s:=by
 refine codeAny_of_tree (af (l6 (Lr a) (aS ⟨l7 F.plain_set_new _,kD F.entry_set_new ?_⟩)));rw[iE F.plain_set_new _];unfold Builtin.«set.__new__»
 unfold Builtin.Frozenset.newClass;have Y:=sub_set_self;obtain ⟨Z,g,d,e,os⟩:=s
 wp_walk
 refine xk (aS ?_);simp only[newObj];exact af (wpAny_alloc (aS (aS h)))
theorem Kh{self a:bg}{Q:Unit->cy->Prop}(hT:s.TypeIs self "set")(Z:Q () s):de M A (checkBuiltinCall "set.__init__" ⟨[self,a],[]⟩) Q E s:=by
 refine af (ko hT sub_set_self ?_);unfold Bind.checkArgs;refine af (printed_name (by decide) (af (printed_star rfl hT λY=>?_)));have e:(Manifest.Receiver.self == Manifest.Receiver.none)=false:=by decide
 rw[show (if (Manifest.Receiver.self == Manifest.Receiver.none)=true then [self,a].length else [self,a].length - 1)=1 by simp[e]];simp only[fe];have j:(mn == mn)=true:=by decide
 have l:(mn == Manifest.ParamKind.posOrKw)=false:=by decide
 have i:(mn == Manifest.ParamKind.varPos)=false:=by decide
 rw[show Bind.check ⟨.positional, "set", "*",.self,[⟨"iterable",.posOnly,false⟩]⟩ "set" Y 1 []=pure () by simp[Bind.check,Bind.checkCount,Bind.isPositional,j,i]];exact aS Z
theorem intAt:∀{vs:B8}{ns:B3},nc vs ns->∀{i:Nat}{v:bg},vs[i]?=some v->∃t,v= .int (ns.getD i 0) t
 | _,_,.nil,i,v,h=>by simp at h
 | _,_,.cons n t r,0,v,h=>⟨t,by rw[<- Option.some.inj h];rfl⟩
 | _,_,.cons n t r,i+1,v,h=>intAt r (by simpa using h)
theorem zA:∀{vs:B8}{ns:B3},nc vs ns->vs.length=ns.length
 | _,_,.nil=>rfl
 | _,_,.cons n t r=>by rw[bo,bo,zA r]
structure sr (P:gi) (w:kz) (A:gx) (s:cy) (l:Addr) (T:String) (ns:B3):Prop where
 ty:s.TypeIs (.ref l) T
 n1:isSubtype (.type T) (.type "set")=pure false
 n2:isSubtype (.type T) (.type "frozenset")=pure false
 n3:(h9 T == h9 "dict")=false
 it:∀(s':cy) (Q:B2) (E:B2) (A':gx),A'.handled=none->(∀b o,s.heap.get? b=some o->s'.heap.get? b=some o) ->
  (∀(h':Heap) (fp wr:C2) (Pv:Nat->bg->Prop) (St:Nat->cy->Prop),(∀b o,s'.heap.get? b=some o->h'.get? b=some o)->(∀b∈fp,b=s'.heap.objs.size\/b<s.heap.objs.size)->(∀b∈wr,s'.heap.objs.size<=b) ->
   (∀A2:gx,A2.handled=none->WalksS P w A2 s'.heap.objs.size fp wr (λa b=>b=a) ns.length Pv St)->(∀i v,i<ns.length->Pv i v->∃t,v= .int (ns.getD i 0) t)->St 0 { s' with heap:=h' }->Q (.ref s'.heap.objs.size) { s' with heap:=h' }) ->
  de (dn P w) A' (yv (.ref l)) Q E s'
theorem Js{Q:B2}(hh:A.handled=none)(x:sr P w A s l T ns)(hb:(ddl ns).length+1<4000)
 (h:∀(h':Heap) (tk:Nat),iQ P w h' s.heap.objs.size (ddl ns)->(∀b o,s.heap.get? b=some o->h'.get? b=some o)->Q (.ref s.heap.objs.size) { s with heap:=h',toks:=tk }) :
 de (dn P w) A (call (.type "set") [.ref l]) Q E s:=by
 obtain ⟨c,tl,M⟩:=nX.mro;have q1:=nX.made;have q2:=nX.sub;refine wpAny_call (codeAny_of_tree (aS ⟨Code.quiet_builtin _ (by decide +kernel),kD F.entry_type_call ?_⟩));rw[Around.under_plain (weight_type_call_type "set" [.ref l] []) rfl];have q3:=nX.notType;have q4:=nX.canCreate;have q5:=Kq (.ref l)
 repeat any_goals first | wp_step | assumption
 refine tj (XN (.ref l) (E:=E) (Q:=λobj i=>obj= .ref s.heap.objs.size/\i={ s with heap:=s.heap.push (dh #[] 0 (.fresh 0 0 (qp w))) }) ⟨rfl,rfl⟩) λr i I=>?_
 cases r with
 | error e=>exact I
 | ok fl=>
  cases fl with
  | ret obj=>
   obtain ⟨rfl,rfl⟩:=I;have L:(s.heap.push (dh #[] 0 (.fresh 0 0 (qp w)))).get? s.heap.objs.size=some (dh #[] 0 (.fresh 0 0 (qp w))):=cm _ rfl;have hT:Shared.TypeIs { s with heap:=s.heap.push (dh #[] 0 (.fresh 0 0 (qp w))) } (.ref s.heap.objs.size) "set" := ⟨_,L,rfl⟩;have q6:=nX.init.lookup;have q7:=nX.init.bind (.ref s.heap.objs.size)
   repeat any_goals first | wp_step | assumption
   refine tj (codeAny_call_builtin (R:=wants (λr Z=>r= .none/\∃h' tk,Z={ s with heap:=h',toks:=tk }/\iQ P w h' s.heap.objs.size (ddl ns)/\(∀b o,s.heap.get? b=some o->h'.get? b=some o)) E) nX.init.plain F.entry_set_init (Kh hT ?_)) λv Z Y=>?_
   . have hTl:Shared.TypeIs { s with heap:=s.heap.push (dh #[] 0 (.fresh 0 0 (qp w))) } (.ref l) T:=by
      obtain ⟨o,ho,S⟩:=x.ty;exact ⟨o,ax _ ho,S⟩
     have n1:=x.n1;have n2:=x.n2;have n3:=x.n3;unfold Builtin.«set.__init__» noKeywords
     unfold Builtin.Frozenset.updateFrom;generalize hq:yv=PI
     wp_walk
     subst hq;have hs3:A.in1.in1.in1.handled=none:=by simp[hh]
     refine x.it _ _ _ _ (by simp[hh]) (λb o e=>ax _ e) λh' fp wr Pv St O H B W hv st=>?_;have q:(s.heap.push (dh #[] 0 (.fresh 0 0 (qp w)))).objs.size=s.heap.objs.size+1:=fF ..
     refine af (wpAny_runValue (Vz (W _ (by simp[hh])) s.heap.objs.size (λp=>?_) ns rfl hv hb ns.length 0 _ (by lia) (iS _) st ⟨_,_,_,O _ _ L,Rr⟩ λs' p J=>?_))
     . rcases H _ p with z | z
       . rw[q] at z;exact absurd z (en (nE _))
       . exact absurd z (fy _)
     . obtain ⟨h2,g',d',C,D⟩:=s';obtain rfl:g'=s.gens:=p.gens;obtain rfl:d'=s.drawn:=p.drawn;obtain rfl:D=s.os:=p.os;refine aS (aS ⟨rfl,h2,C,rfl,J,λb o e=>?_⟩);have u:=cx e;refine p.heap b o (λz=>?_) (O _ _ (ax _ e));rcases b9.mp z with z | z
       . exact absurd z (en u)
       . have:=B b z;rw[q] at this;exact absurd (eh (rf u) this) (fy _)
   . cases v with
     | error e=>exact Y
     | ok j=>
      cases j with
      | ret r=>
       obtain ⟨rfl,h',tk,rfl,J,U⟩:=Y
       repeat any_goals first | wp_step | assumption
       exact h _ _ J U
      | _=>exact Y.elim
  | _=>exact I.elim
theorem sr.list(p:s.heap.IsList l items)(C:nc items.toList ns):sr P w A s l "list" ns where
 ty:=p.typeIs
 n1:=by rw[nI];kernel_rfl
 n2:=by rw[nI];kernel_rfl
 n3:=by decide
 it:=λj Q E O hh I H=>by
  have Y:j.heap.IsList l items:=by
   obtain ⟨o,Z,r⟩:=p;exact ⟨o,I _ _ Z,r⟩
  have u:l<j.heap.objs.size:=by obtain ⟨o,Z,r⟩:=Y;exact cx Z
  have B:l<s.heap.objs.size:=by obtain ⟨o,Z,r⟩:=p;exact cx Z
  have L:ns.length=items.size:=by rw[<- zA C,e8]
  refine vF Y (H _ [j.heap.objs.size,l] [j.heap.objs.size] (λi v=>items[i]?=some v) (λi D=>D.heap.IsListIter j.heap.objs.size l i/\D.heap.IsList l items) (λb o e=>ax _ e) (λb q=>?_) (λb q=>?_) (λR M=>?_) (λi v _ J=>?_) ⟨⟨_,cm _ rfl,rfl,rfl⟩,Y.push _⟩)
  . rcases b9.mp q with z | z
    . exact .inl z
    . exact .inr (by rw[aw.mp z];exact B)
  . rw[aw.mp q];exact ay _
  . rw[L];exact (Walks.list M _ l (en u) items).toS
  . exact intAt C (by rw[fI];exact J)
theorem sr.tuple(p:s.heap.IsTuple l items)(C:nc items.toList ns):sr P w A s l "tuple" ns where
 ty:=p.typeIs
 n1:=by rw[nI];kernel_rfl
 n2:=by rw[nI];kernel_rfl
 n3:=by decide
 it:=λj Q E O hh I H=>by
  have Y:j.heap.IsTuple l items:=by
   obtain ⟨o,Z,r⟩:=p;exact ⟨o,I _ _ Z,r⟩
  have u:l<j.heap.objs.size:=by obtain ⟨o,Z,r⟩:=Y;exact cx Z
  have B:l<s.heap.objs.size:=by obtain ⟨o,Z,r⟩:=p;exact cx Z
  have L:ns.length=items.size:=by rw[<- zA C,e8]
  refine ml Y (H _ [j.heap.objs.size,l] [j.heap.objs.size] (λi v=>items[i]?=some v) (λi D=>D.heap.IsTupleIter j.heap.objs.size l i/\D.heap.IsTuple l items) (λb o e=>ax _ e) (λb q=>?_) (λb q=>?_) (λR M=>?_) (λi v _ J=>?_) ⟨⟨_,cm _ rfl,rfl,rfl⟩,Y.push _⟩)
  . rcases b9.mp q with z | z
    . exact .inl z
    . exact .inr (by rw[aw.mp z];exact B)
  . rw[aw.mp q];exact ay _
  . rw[L];exact (Walks.tuple M _ l (en u) items).toS
  . exact intAt C (by rw[fI];exact J)
end
theorem Al:Slot "set" "__iter__" "set.__iter__" :=
 .of (owner:= "set") (n:= "__iter__") (by rw[yb,rq];kernel_rfl) (by decide +kernel) (by decide +kernel) (by decide +kernel)
  (by first | exact .inl (by decide +kernel) | exact .inr (by decide +kernel)) (by rw[nI];kernel_rfl)
theorem Qt:entryFor table "set.__iter__"= some Builtin.«frozenset.__iter__» :=
 entryFor_alias (id':= "frozenset.__iter__") (by kernel_rfl) (by first | rfl | decide +kernel) (by decide +kernel) (by kernel_rfl)
theorem QL(a:bg):y6 "set.__iter__" ⟨[a],[]⟩:=by
 rw[y6,signature?_of (n:=['_','_','r','e','t','i','_','_']) (by kernel_rfl) F.owner_set];kernel_rfl
theorem JH:Manifest.owners.lookup (String.ofList ['r','o','t','a','r','e','t','i','_','t','e','s'].reverse)=some Manifest.sig_set_iterator:=by kernel_rfl
theorem du:Slot "set_iterator" "__next__" "set_iterator.__next__" :=
 .of (owner:= "set_iterator") (n:= "__next__") (by rw[yb,rq];kernel_rfl) (by decide +kernel) (by decide +kernel) (by decide +kernel)
  (by first | exact .inl (by decide +kernel) | exact .inr (by decide +kernel)) (by rw[nI];kernel_rfl)
theorem pH:entryFor table "set_iterator.__next__"= some Builtin.«set_iterator.__next__» := entryFor_of_tree (by kernel_rfl)
theorem pA(a:bg):y6 "set_iterator.__next__" ⟨[a],[]⟩:=by
 rw[y6,signature?_of (n:=['_','_','t','x','e','n','_','_']) (by kernel_rfl) JH];kernel_rfl
theorem ni:Slot "set_iterator" "__iter__" "set_iterator.__iter__" :=
 .of (owner:= "set_iterator") (n:= "__iter__") (by rw[yb,rq];kernel_rfl) (by decide +kernel) (by decide +kernel) (by decide +kernel)
  (by first | exact .inl (by decide +kernel) | exact .inr (by decide +kernel)) (by rw[nI];kernel_rfl)
theorem Ae:entryFor table "set_iterator.__iter__"= some Builtin.«dict_keyiterator.__iter__» :=
 entryFor_alias (id':= "dict_keyiterator.__iter__") (by kernel_rfl) (by first | rfl | decide +kernel | (simp +decide [String.splitOnAux])) (by decide +kernel) (by kernel_rfl)
theorem z9(a:bg):y6 "set_iterator.__iter__" ⟨[a],[]⟩:=by
 rw[y6,signature?_of (n:=['_','_','r','e','t','i','_','_']) (by kernel_rfl) JH];kernel_rfl
noncomputable def jC(first:bg)(i S n ep:Nat):Obj:={ cls:=.type "set_iterator",dict:=none,data:=.fields #[first,ia (i:Nat),.ref S,ia (n:Nat),ia (ep:Nat)],slots:=#[] }
structure qF (s s':cy):Prop where
 heap:∀b o,s.heap.get? b=some o->s'.heap.get? b=some o
 gens:s'.gens=s.gens
 os:s'.os=s.os
theorem qF.trans{b c:cy}(x:qF s b)(y:qF b c):qF s c:=⟨λp o e=>y.heap p o (x.heap p o e),y.gens.trans x.gens,y.os.trans x.os⟩
variable {Q:B7->cy->Prop}{S I:Nat}{sl:Nat->Nat}{W:B8}
section
variable   {A:gx}
theorem Qi{Y:Source}{Q:Nat->cy->Prop}(Z:j≠0)(h:∀i,i<j->Q i { s with drawn:=s.drawn.bump Y }):de M A (choose Y j) Q E s:=λe p _=>by
 show Sem.wp M e (.choose Y j .pure) _ _ p s;rw[Sem.wp_choose];exact ⟨Z,h _ (ve _ (Nat.pos_of_ne_zero Z))⟩
theorem Hv{α:Type}:∀(n:Nat) (xs:List α) (s:cy) {Q:List α->cy->Prop},xs.length=n->(∀ys s',ys.Perm xs->s'.heap=s.heap->s'.gens=s.gens->s'.os=s.os->s'.toks=s.toks->Q ys s')->de M A (drawOrder n xs) Q E s
 | 0,xs,s,Q,Y,h=>by
  have:=ip.mp Y;subst this;exact aS (h [] s (.refl _) rfl rfl rfl rfl)
 | n+1,[],s,Q,Y,h=>by cases Y
 | n+1,x::xs,s,Q,Y,h=>by
  unfold drawOrder;refine af (Qi (by rw[Y];exact Nat.succ_ne_zero _) λi Z=>?_);rw[av Z];exact af (Hv n _ _ (by rw[vi Z,Y];rfl) λys s' o l p e j=>aS (h _ s' ((o.cons _).trans (vG Z)) l p e j))
theorem texts_any{Q:Bool->cy->Prop}(h:Q (M.w.params.followText "set-order") s):de M A setsByText Q E s:=by
 exact af (xk (aS h))
noncomputable def placeAt(t:eP)(i:Nat):Nat:=match i with
 | 0=>0
 | i+1=>t.place.getD i 0+1
theorem Mm{t:eP}(h:jY t.place):∀{i:Nat},i<=t.place.size->eD t.place (placeAt t i)=i
 | 0,_=>K7 h
 | i+1,Y=>by
  have e:placeAt t (i+1)=t.place[i]'Y+1:=by
   show t.place.getD i 0+1=_;rw[ky,hW (by lia)];rfl
  rw[e];exact Pa h (by lia)
structure Asks (P:gi) (w:kz) (S:Addr) (es:Array (Int×bg)) (ep:Nat) (t:eP) (sl:Nat->Nat) (W:B8):Prop where
 len:W.length=es.size
 item:∀(A:gx) (E:B2) (s:cy) (i:Nat) (v:bg) (Q:Option (bg×Nat)->cy->Prop),s.heap.get? S=some (dh es ep t)->W[i]?=some v->Q (some (v,sl (i+1))) s->de (dn P w) A (setNext S (sl i) i ep) Q E s
 done:∀(A:gx) (E:B2) (s:cy) (Q:Option (bg×Nat)->cy->Prop),s.heap.get? S=some (dh es ep t)->Q none s->de (dn P w) A (setNext S (sl es.size) es.size ep) Q E s
theorem T7{t:eP}(Z:t.fits es.size=true)(e:w.params.followText "set-order"= true) :
 Asks P w p es ep t (λ_=>0) ((pickOrder (w.params.setOrder p ep) es).toList.map (·.2)):=by
 have Y:((pickOrder (w.params.setOrder p ep) es).toList.map (·.2)).length=es.size:=by
  rw[ag,(Gs _ es).length_eq,e8]
 have key:∀(A:gx) (E:B2) (s:cy) (i:Nat) (Q:Option (bg×Nat)->cy->Prop),s.heap.get? p=some (dh es ep t) ->
  Q ((((pickOrder (w.params.setOrder p ep) es).toList.map (·.2))[i]?).map λv=>(v,0)) s->de (dn P w) A (setNext p 0 i ep) Q E s:=λA E s i Q g h=>by
  refine af (nh g rfl Z (af (texts_any ?_)));rw[show (dn P w).w.params.followText "set-order"= true from e];simp only[bne_self_eq_false,if_false];refine af (af (nh g rfl Z ?_));refine af (texts_any ?_);rw[show (dn P w).w.params.followText "set-order"= true from e];refine af (xk (aS (aS ?_)));rwa [ba,fI,Option.map_map] at h
 refine ⟨Y,λA E s i v Q g j h=>key A E s i Q g (by rw[j];exact h),λA E s Q g h=>key A E s _ Q g ?_⟩;rw[d3 (by rw[Y];exact ay _)];exact h
theorem Qh{t:eP}(o:t.fits es.size=true)(r:w.params.followText "set-order"= false)(q:TabOk (qp w) t)(hd:(!t.plain&&decide (es.size > 1))=false) :
 Asks P w p es ep t (placeAt t) (es.toList.map (·.2)):=by
 have B:=by
  simp only[SetTable.fits,dQ,beq_iff_eq] at o;exact o.1
 have Y:t.led=true:=by rw[q.led];rw[qp,r];rfl
 have key:∀(A:gx) (E:B2) (s:cy) (i:Nat) (Q:Option (bg×Nat)->cy->Prop),s.heap.get? p=some (dh es ep t)->i<=es.size ->
  Q (match es[i]?,t.place[i]? with | some (_,x),some j=>some (x,j+1) | _,_=>none) s->de (dn P w) A (setNext p (placeAt t i) i ep) Q E s:=λA E s i Q g u h=>by
  refine af (nh g rfl o (af (texts_any ?_)));rw[show (dn P w).w.params.followText "set-order"= false from r];show de _ _ (if (!t.plain&&decide (es.size > 1))=true then _ else _) _ _ _;rw[hd];refine af ?_;show de _ _ (if (!t.led && !es.isEmpty)=true then _ else _) _ _ _;rw[Y];refine aS ?_;rw[Mm q.up (by lia)];exact aS h
 refine ⟨by rw[ag,e8],λA E s i v Q g Z h=>?_,λA E s Q g h=>key A E s _ Q g (ay _) ?_⟩
 . rw[ba,fI] at Z
   cases l:es[i]? with
   | none=>rw[l] at Z;cases Z
   | some e=>
    rw[l] at Z;cases Z;have u:=(vj.mp l).1;refine key A E s i Q g (by lia) ?_;rw[l,hW (by lia)];have z:placeAt t (i+1)=t.place[i]'(by lia)+1:=by
     show t.place.getD i 0+1=_;rw[ky,hW (by lia)];rfl
    rwa [z] at h
 . rw[x5 (ay _)];exact h
theorem gA{f:bg}(g:s.heap.get? I=some (jC f i S j ep)):s.TypeIs (.ref I) "set_iterator" := ⟨_,g,rfl⟩
theorem Gw{f:bg}{k:Nat}{x:bg}(g:h.get? p=some (jC f i S j ep)):(h.update p (Obj.mapFields (·.setIfInBounds k x))).get? p=some { jC f i S j ep with data:=.fields (#[f,ia (i:Nat),.ref S,ia (j:Nat),ia (ep:Nat)].setIfInBounds k x) }:=
 i4 _ g rfl
theorem next_item{t:eP}{v:bg}(g:s.heap.get? I=some (jC (ia (sl i:Nat)) i S es.size ep))(gs:s.heap.get? S=some (dh es ep t))(l:t.fits es.size=true)
 (K:Asks P w S es ep t sl W) (e:W[i]?=some v) (j:∀h',h'.get? I=some (jC (ia (sl (i+1):Nat)) (i+1) S es.size ep)->jv I s.heap h'->Q (some v) { s with heap:=h' }):de (dn P w) A (wd (.ref I)) Q E s:=by
 refine af (og (fm (gA g) du (fb du (gA g) pH ?_ (pA _))));refine af (l6 rfl (af (vl g rfl (af (ny gs rfl l ?_)))));simp only[bne_self_eq_false,iA,dS];refine af (K.item _ _ _ i v _ gs e ?_);have Y:=Gw (k:=0) (x:=ia (sl (i+1):Nat)) g;refine af (mi g rfl (by simp) (af (mi Y rfl (by simp) ?_)));refine aS ⟨v,rfl,aS (j _ ?_ ((fw ..).trans (fw ..)))⟩;have Z:=i4 (Obj.mapFields (·.setIfInBounds 1 (ia (i+1)))) Y rfl;refine Z.trans ?_;rfl
theorem Th{t:eP}(hh:A.handled=none)(g:s.heap.get? I=some (jC (ia (sl es.size:Nat)) es.size S es.size ep))(gs:s.heap.get? S=some (dh es ep t))(Y:t.fits es.size=true)
 (K:Asks P w S es ep t sl W) (Z:∀h',yy I s.heap h'->Q none { s with heap:=h' }):de (dn P w) A (wd (.ref I)) Q E s:=by
 refine af (og (fm (gA g) du (fb du (gA g) pH ?_ (pA _))));refine af (l6 rfl (af (vl g rfl (af (ny gs rfl Y ?_)))));simp only[bne_self_eq_false,iA,dS];refine af (K.done _ _ _ _ gs (af (mi g rfl (by simp) ?_)));refine af (af (hF ?_ (by size_fits)));refine af (l6 (by first | rfl | (rfl)) (hF ?_ (by size_fits)));refine af (wpAny_handled ?_)
 first | rw[hh] | rw[hh]
 refine af (aS (wpAny_throw ?_));refine af (ko ⟨_,cm _ rfl,rfl⟩ uk ?_);exact aS (Z _ (((fw ..).extBut.push _).push _))
theorem PN{t:eP}(hh:A.handled=none)(j:S≠I)(q:t.fits es.size=true)(K:Asks P w S es ep t sl W) :
 WalksS P w A I [I,S] [I] (λa b=>b=a) es.size (λi v=>W[i]?=some v) (λi s=>s.heap.get? I=some (jC (ia (sl i:Nat)) i S es.size ep)/\s.heap.get? S=some (dh es ep t)) where
 sub:=λb Z=>by rw[aw.mp Z];exact br
 grefl:=λ_=>rfl
 gtrans:=λ_ _ _ D J=>J.trans D
 frame:=λi s r L st _ p=>⟨p I br _ st.1,p S (by simp) _ st.2⟩
 item:=λi s Q E B st Y=>by
  have u:W[i]?=some (W[i]'(by rw[K.len];exact B)):=av _;refine next_item st.1 st.2 q K u λr H l=>Y _ _ u ⟨H,(l.2 S j).trans st.2⟩ ⟨λb o Z e=>(l.2 b (λz=>Z (by simp[z]))).trans e,rfl,rfl,rfl,ay _⟩
 done:=λs Q E st Y=>Th hh st.1 st.2 q K λr C=>Y _ ⟨λb o Z e=>C b o (λz=>Z (by simp[z])) e,rfl,rfl,rfl,ay _⟩
 self:=λi s Q E st Y=>rg (gA st.1) ni (fb ni (gA st.1) Ae (by
  exact aS ⟨_,rfl, "set_iterator",_,gA st.1,du.lookup,Y⟩) (z9 _))
noncomputable def gm(os:B5):Obj:={ cls:=.type "tuple",dict:=none,data:=.seq (os.map λ(i:Nat)=>ia (i:Nat)).toArray,slots:=#[] }
theorem Ql{t:eP}{e:Int×bg}{p:Nat}(g:s.heap.get? I=some (jC (.ref j) i S es.size ep))(gs:s.heap.get? S=some (dh es ep t))(u:s.heap.get? j=some (gm cl))(Y:t.fits es.size=true)
 (r:cl[i]?=some p) (Z:es[p]?=some e) (q:∀h',h'.get? I=some (jC (.ref j) (i+1) S es.size ep)->jv I s.heap h'->Q (some e.2) { s with heap:=h' }):de (dn P w) A (wd (.ref I)) Q E s:=by
 refine af (og (fm (gA g) du (fb du (gA g) pH ?_ (pA _))));refine af (l6 rfl (af (vl g rfl (af (ny gs rfl Y ?_)))));simp only[bne_self_eq_false,iA,dS];refine af (fv u rfl ?_);have o:((cl.map λ(i:Nat)=>ia (i:Nat)).toArray)[i]?=some (ia (p:Nat)):=by
  rw[List.getElem?_toArray,ba,r];rfl
 dsimp only
 rw[o];refine af (af (nh gs rfl Y ?_));simp only[bne_self_eq_false,iA,dS];rw[Z];refine aS (af (mi g rfl (by simp) (aS ⟨e.2,rfl,aS (q _ ?_ (fw ..))⟩)));have l:=i4 (Obj.mapFields (·.setIfInBounds 1 (ia (i+1)))) g rfl;exact l.trans rfl
theorem Qw{t:eP}(hh:A.handled=none)(g:s.heap.get? I=some (jC (.ref j) es.size S es.size ep))(gs:s.heap.get? S=some (dh es ep t))(l:s.heap.get? j=some (gm cl))(o:t.fits es.size=true)
 (p:cl.length=es.size) (e:∀h',yy I s.heap h'->Q none { s with heap:=h' }):de (dn P w) A (wd (.ref I)) Q E s:=by
 refine af (og (fm (gA g) du (fb du (gA g) pH ?_ (pA _))));refine af (l6 rfl (af (vl g rfl (af (ny gs rfl o ?_)))));simp only[bne_self_eq_false,iA,dS];refine af (fv l rfl ?_);have Z:((cl.map λ(i:Nat)=>ia (i:Nat)).toArray)[es.size]?=none:=by
  rw[List.getElem?_toArray,ba,d3 (by lia)];rfl
 dsimp only
 rw[Z];have Y:=Gw (k:=0) (x:=ia 0) g;refine af (mi g rfl (by simp) (af (mi Y rfl (by simp) ?_)));refine af (af (hF ?_ (by size_fits)));refine af (l6 (by first | rfl | (rfl)) (hF ?_ (by size_fits)));refine af (wpAny_handled ?_)
 first | rw[hh] | rw[hh]
 refine af (aS (wpAny_throw ?_));refine af (ko ⟨_,cm _ rfl,rfl⟩ uk ?_);exact aS (e _ ((((fw ..).trans (fw ..)).extBut.push _).push _))
theorem Lw{t:eP}(hh:A.handled=none)(r:S≠I)(C:j≠I)(D:t.fits es.size=true)(B:cl.Perm (List.range es.size)) :
 WalksS P w A I [I,S,j] [I] (λa b=>b=a) es.size (λi v=>(cl.map λp=>(es.getD p (0,.none)).2)[i]?=some v) (λi s=>s.heap.get? I=some (jC (.ref j) i S es.size ep)/\s.heap.get? S=some (dh es ep t)/\s.heap.get? j=some (gm cl)) where
 sub:=λb Z=>by rw[aw.mp Z];exact br
 grefl:=λ_=>rfl
 gtrans:=λ_ _ _ r C=>C.trans r
 frame:=λi s J tk st _ q=>⟨q I br _ st.1,q S (by simp) _ st.2.1,q j (by simp) _ st.2.2⟩
 item:=λi s Q E R st Y=>by
  have U:cl.length=es.size:=by rw[B.length_eq,cq]
  have L:cl[i]?=some (cl[i]'(by lia)):=av _;have u:cl[i]'(by lia)<es.size:=er.mp (B.mem_iff.mp (fA _));have H:=hW u;refine Ql st.1 st.2.1 st.2.2 D L H λJ O l=>Y _ _ ?_ ⟨O,(l.2 S r).trans st.2.1,(l.2 j C).trans st.2.2⟩ ⟨λb o Z e=>(l.2 b (λz=>Z (by simp[z]))).trans e,rfl,rfl,rfl,ay _⟩;rw[ba,L];show some (es.getD _ _).2=_;rw[ky,H];rfl
 done:=λs Q E st Y=>Qw hh st.1 st.2.1 st.2.2 D (by rw[B.length_eq,cq]) λJ M=>Y _ ⟨λb o Z e=>M b o (λz=>Z (by simp[z])) e,rfl,rfl,rfl,ay _⟩
 self:=λi s Q E st Y=>rg (gA st.1) ni (fb ni (gA st.1) Ae (by
  exact aS ⟨_,rfl, "set_iterator",_,gA st.1,du.lookup,Y⟩) (z9 _))
theorem Qx(Y:cl.Perm (List.range es.size)):(cl.map λp=>(es.getD p (0,.none)).2).Perm (es.toList.map (·.2)):=by
 refine (Y.map _).trans (List.Perm.of_eq (k9 λi=>?_));rw[ba,ba,fI (xs:=es)]
 by_cases h:i<es.size
 . rw[eg h,hW h];show some (es.getD i _).2=_;rw[ky,hW h];rfl
 . rw[d3 (by rw[cq];lia),x5 (by lia)];rfl
structure acE (P:gi) (w:kz) (s:cy) (S:Addr) (I:Addr) (es:Array (Int×bg)) (s':cy):Prop where
 grown:qF s s'
 new:s.heap.objs.size<=I
 walk:∃(fp:C2) (W:B8) (St:Nat->cy->Prop),W.Perm (es.toList.map (·.2))/\I∈fp/\(∀b∈fp,b=S\/s.heap.objs.size<=b)/\(∀A2:gx,A2.handled=none->WalksS P w A2 I fp [I] (λa b=>b=a) es.size (λi v=>W[i]?=some v) St)/\St 0 s'
theorem Xh{t:eP}{Q:B2}(gs:s.heap.get? p=some (dh es ep t))(r:gK P w es t ks)(hz:es.size<=bt)
 (hQ:∀I s',acE P w s p I es s'->Q (.ref I) s'):de (dn P w) A (yv (.ref p)) Q E s:=by
 have B:=cx gs;have hT:s.TypeIs (.ref p) "set" := ⟨_,gs,rfl⟩;refine rg hT Al (fb Al hT Qt ?_ (QL _));refine af (l6 rfl (af ?_));refine af (ny gs rfl r.fit (aS (af ?_)));refine af (nh gs rfl r.fit (af (texts_any (aS ?_))));have Y:∀(l:Nat->Nat) (W:B8),l 0=0->Asks P w p es ep t l W->W.Perm (es.toList.map (·.2)) ->
  de (dn P w) A.in1 (pure (ia 0) >>= λfirst=>setEpoch p >>= λe=>newFields "set_iterator" [first,ia 0,.ref p,ia (es.size:Nat),ia (e:Nat)] >>= λv=>ret v) (λfin s'=>∃v,fin= .done (.ret v)/\∃T' r,s'.TypeIs v T'/\typeLookup (.type T') "__next__"= pure (some r)/\Q v s') E s:=λl W e0 K C=>by
  refine af (aS (af (wpAny_setEpoch_of gs rfl r.fit (af (hF (aS ?_) (by size_fits))))));have j:(s.heap.push (jC (ia (l 0:Nat)) 0 p es.size ep)).get? s.heap.objs.size=some (jC (ia (l 0:Nat)) 0 p es.size ep):=cm _ rfl;rw[e0] at j;refine ⟨_,rfl, "set_iterator",_,⟨_,j,rfl⟩,du.lookup,hQ _ _ ⟨⟨λb o e=>ax _ e,rfl,rfl⟩,ay _,[s.heap.objs.size,p],W,_,C,by simp,λb J=>?_,λA2 O=>PN O (en B) r.fit K,?_,ax _ gs⟩⟩
  . rcases b9.mp J with z | z
    . exact .inr (by rw[z];exact ay _)
    . exact .inl (aw.mp z)
  . rw[e0];exact j
 have bnd:∀{α β γ:Type}{m:Sem α}{f:α->Sem β}{k:β->Sem γ}{R:γ->cy->Prop}{s1:cy},de (dn P w) A.in1 (m >>= λa=>f a >>= k) R E s1->de (dn P w) A.in1 ((m >>= f) >>= k) R E s1:=λh=>by rw[bind_assoc];exact h
 by_cases U:w.params.followText "set-order"= true
 . rw[show (dn P w).w.params.followText "set-order"= true from U];simp only[Bool.not_true,Bool.false_and,iA,if_false];have:=Y (λ_=>0) _ rfl (T7 r.fit U) ((Gs _ es).map _);simpa only[pure_bind,bind_assoc] using this
 . have D:=by simpa using U
   rw[show (dn P w).w.params.followText "set-order"= false from D];show de _ _ (if (!t.plain&&decide (es.size > 1))=true then _ else _) _ _ _
   by_cases hd:(!t.plain&&decide (es.size > 1))=true
   . rw[hd];refine af (Hv es.size _ _ (cq ..) λos s1 C q O h3 h4=>af ?_);have hl:os.length=es.size:=by rw[C.length_eq,cq]
     refine hF ?_ ?_
     . have M:s1.heap.get? p=some (dh es ep t):=by rw[q];exact gs
       have u:(s1.heap.push (gm os)).get? p=some (dh es ep t):=ax _ M;have L:(s1.heap.push (gm os)).get? s1.heap.objs.size=some (gm os):=cm _ rfl;refine af (wpAny_setEpoch_of (s:={ s1 with heap:=s1.heap.push (gm os) }) u rfl r.fit (af (hF (aS ?_) (by size_fits))));have j:((s1.heap.push (gm os)).push (jC (.ref s1.heap.objs.size) 0 p es.size ep)).get? (s1.heap.push (gm os)).objs.size=some (jC (.ref s1.heap.objs.size) 0 p es.size ep):=cm _ rfl;have Z:(s1.heap.push (gm os)).objs.size=s.heap.objs.size+1:=by rw[fF,q]
       refine ⟨_,rfl, "set_iterator",_,⟨_,j,rfl⟩,du.lookup,hQ _ _ ⟨⟨λb o e=>?_,O,h3⟩,?_,[(s1.heap.push (gm os)).objs.size,p,s1.heap.objs.size],_,_,Qx C,by simp,λb J=>?_,λA2 S=>Lw S ?_ ?_ r.fit C,j,ax _ u,ax _ L⟩⟩
       . refine ax _ (ax _ ?_);show s1.heap.get? b=some o;rw[q];exact e
       . rw[Z];exact p9 _
       . rcases b9.mp J with z | z
         . exact .inr (by rw[z,Z];exact p9 _)
         . rcases b9.mp z with z | z
           . exact .inl z
           . exact .inr (by rw[aw.mp z,q];exact ay _)
       . rw[Z];exact en (rf B)
       . rw[Z,q];exact en (nE _)
     . show ((os.map λ(i:Nat)=>ia (i:Nat)).toArray).size<=bt;rw[dA,ag,hl];exact hz
   . have H:(!t.plain&&decide (es.size > 1))=false:=by simpa using hd
     rw[H];simp only[iA,if_false];have:=Y (placeAt t) _ rfl (Qh r.fit D r.tab H) (.refl _);simpa only[pure_bind,bind_assoc] using this
theorem Vv{Q:Bool->cy->Prop}(hT:s.TypeIs (.ref p) "set")(h:Q false s):de (dn P w) A (Builtin.List.listLengthHint (.ref p)) Q E s:=by
 refine af (j1 hT F.slot_set_len.lookup ?_);generalize Y : "set.__len__"= id0
 wp_delta
 rw[show splitId id0=some ("set", "__len__") by subst Y;decide +kernel];subst Y;refine af (ko hT sub_set_self (yi (λz=>absurd z (by decide)) (λ_=>yi (λ_=>?_) (λz=>absurd (by decide +kernel) z))));exact af (wpAny_typeOf hT (aS h))
theorem Ih{t:eP}(r:gK P w es t ks)(Z:W.Perm (es.toList.map (·.2))):nc W (W.map OD)/\(W.map OD).Perm ks:=by
 refine ⟨?_,(Z.map OD).trans (by rw[c9];exact r.pm)⟩;have:∀v∈W,∃k tk,v= .int k tk:=λv Y=>by
  obtain ⟨e,i,rfl⟩:=bX.mp (Z.mem_iff.mp Y);obtain ⟨k,tk,rfl⟩:=r.shape i;exact ⟨k,tk,rfl⟩
 clear Z
 induction W with
 | nil=>exact .nil
 | cons v W j=>
  obtain ⟨k,tk,rfl⟩:=this v br;exact .cons k tk (j λv Y=>this v (cc _ Y))
theorem Mf{Q:B8->cy->Prop}(hh:A.handled=none)(x:iQ P w s.heap p ks)(hz:ks.length<4000)
 (hQ:∀vs ns s',qF s s'->nc vs ns->ns.Perm ks->Q vs s'):de (dn P w) A (collect (.ref p)) Q E s:=by
 obtain ⟨C,ep,t,gs,r⟩:=x;have hn:C.size<=bt:=yr (by rw[r.size];exact hz);have H:=cx gs;refine af (wpAny_runValue (kD F.entry_proto_collect ?_));rw[iE F.plain_proto_collect _];refine af (hF (aS ⟨l7 F.plain_list_iadd _,kD F.entry_list_iadd ?_⟩));rw[iE F.plain_list_iadd _];show de _ A.in1 (Builtin.List.listExtendWith (.ref s.heap.objs.size) (.ref p) (.ref s.heap.objs.size)) _ _ _;have q:(s.heap.push { cls:=.type "list",data:=.seq ([]:B8).toArray }).get? p=some (dh C ep t):=ax _ gs;refine af (wpAny_typeOf ⟨_,q,rfl⟩ ?_);have c1:pe (.ref s.heap.objs.size) (.ref p)=false:=by simp[pe];exact nN H
 have c2:(h9 "set" == h9 "list")=false:=by decide
 have c3:(h9 "set" == h9 "tuple")=false:=by decide
 simp only[c1,c2,wq,if_false];refine af (Xh q r hn λI s2 it=>?_);obtain ⟨J,hI,fp,W,St,hp,hIf,hfp,walk,st⟩:=it;have M:=J.heap _ _ q;refine af (i8 (Vv ⟨_,M,rfl⟩ ?_));have L:=J.heap _ _ (cm _ rfl);have j:s.heap.objs.size∉fp:=λz=>by
  rcases hfp _ z with e | e
  . exact absurd e (nN H)
  . rw[fF] at e;exact absurd e (Nat.not_succ_le_self _)
 have S:A.in1.handled=none:=by simp[hh]
 have go:∀(s3:cy) (c:Nat),St 0 s3->qF s s3->s3.heap.get? s.heap.objs.size=some { cls:=.type "list",dict:=none,data:=.seq #[] c,slots:=#[] } ->
  sd (dn P w) A (.builtin "list.extend.loop" ⟨[.ref s.heap.objs.size,.ref I,.ref s.heap.objs.size],[]⟩) (λr s'=>match r with | .ok (.ret v)=>de (dn P w) A (match v with | .ref a=>load a >>= λo=>(match o.data with | .seq items _=>pure items.toList | _=>unsupported "internal:collect") | _=>unsupported "internal:collect") Q E s' | .ok _=>False | .error e=>E e s') s3:=λs3 c R u U=>by
  refine codeAny_extend_loopS (walk _ S) hn s.heap.objs.size j _ C.size 0 _ #[] c (by lia) (iS _) R U (ItemsOf.nil _) λs' B c' O o' Y=>af (wpAny_load o' (aS ?_));have eW:B.toList=W:=k9 λi=>by
   have hWl:W.length=C.size:=by rw[hp.length_eq,ag,e8]
   by_cases hi:i<C.size
   . have ha:B[i]?=some (B[i]'(by rw[Y.1];exact hi)):=hW _;rw[fI,ha,Y.2 i _ ha]
   . rw[d3 (by rw[e8,Y.1];lia),d3 (by lia)]
  obtain ⟨i1,i2⟩:=Ih r hp;refine hQ _ _ s' ⟨λb o e=>O.heap b o (λz=>?_) (u.heap b o e),O.gens.trans u.gens,O.os.trans u.os⟩ (by rw[eW];exact i1) i2;have l:=cx e;rcases b9.mp z with z | z
  . exact absurd z (en l)
  . rw[aw.mp z] at l;rw[fF] at hI;exact absurd (eh l (Nat.le_of_succ_le hI)) (fy _)
 have Z:qF s s2:=⟨λb o e=>J.heap b o (ax _ e),J.gens,J.os⟩;refine yi (λ_=>?_) (λ_=>aS ⟨l7 F.plain_extend_loop _,go _ 0 st Z L⟩);refine af (pE (af (af (n9 L rfl ?_))));have o2:=i4 (oB (·.push bg.none)) L rfl;refine n9 o2 rfl ?_;have U:=i4 (oB (·.pop)) o2 rfl;have D:∀b o,b≠s.heap.objs.size->s2.heap.get? b=some o->((s2.heap.update s.heap.objs.size (oB (·.push bg.none))).update s.heap.objs.size (oB (·.pop))).get? b=some o:=
  λb o l e=>(qk _ _ (mw l)).trans ((qk _ _ (mw l)).trans e)
 refine aS ⟨l7 F.plain_extend_loop _,go _ _ ((walk A hh).frame 0 s2 _ s2.toks st (ay _) λb l o e=>D b o (λz=>j (z ▸ l)) e) ⟨λb o e=>D b o (en (cx e)) (Z.heap b o e),Z.gens,Z.os⟩ U⟩
end
section
variable     {s':cy}
theorem zk.grown(I:zk X y8 σ H s)(g:qF s s'):zk X y8 σ H s':=by
 have J:zk X y8 σ H { s with heap:=s'.heap,toks:=s'.toks }:=I.kept g.heap;exact ⟨J.ok,g.os.trans J.os,by rw[g.gens];exact J.bare,J.base,J.loc,J.cell,J.free,J.jM,J.pin,J.zS,J.len⟩
def PSt(X:Cx)(e:Expr)(t:St->Hp->(B3->Hp->Prop)->Prop):Prop:=
 ∀(y8:A7) (s:cy) (σ:St) (H:Hp) (Q:B3->Hp->Prop),zk X y8 σ H s->t σ H Q ->
  de (dn X.prog X.w) X.A (eval e X.env) (λv s1=>∃S ks H1,v= .ref S/\iQ X.prog X.w s1.heap S ks/\qt X y8 H1 S/\zk X y8 σ H1 s1/\Q ks H1) X.xe s
variable  {ta:TA}{p:Pos}
def afg(K:aE)(ta:TA):St->Hp->(B3->Hp->Prop)->Prop:=λσ H Q=>ta σ H λvs H1=>∃q ns,vs=[.ref q]/\(SqL K H1 q (ns.map V.int)\/SqT K H1 q (ns.map V.int))/\(ddl ns).length+1<4000/\Q (ddl ns) H1
theorem boot_set:eI "set"= some (.type "set"):=by decide +kernel
theorem Zb(C:X.calm=true)(O:Gl X "set")(R:X.mg "set"= none)(ha:PA X [e] ta)(hs:dr [e] X.env=[(false,eval e X.env)]:=by rfl):PSt X (.Call (.Name "set" p) [e] [] pos) (afg X.K ta):=by
 intro Y s E H Q I h;refine Call_ (lr I O R boot_set (gy (thn (ha pos Y s E H _ I h) λus v r=>?_) hs rfl));obtain ⟨vs,H1,i,M,P⟩:=r;obtain ⟨l,L,rfl,hq,D,q⟩:=P;obtain ⟨u,rfl,U⟩:=vals1 M;cases U;have fin:∀(Z:Heap) (j:Nat),iQ X.prog X.w Z v.heap.objs.size (ddl L)->(∀b o,v.heap.get? b=some o->Z.get? b=some o)->∃S J H2,hZ v.heap.objs.size= .ref S/\iQ X.prog X.w Z S J/\qt X Y H2 S/\zk X Y E H2 { v with heap:=Z,toks:=j }/\Q J H2:=λZ j x k=>
  ⟨_,_,H1,rfl,x,i.qy (ay _) (i.zS.fresh (ay _)),i.kept k,q⟩
 rcases hq with hq | hq
 . obtain ⟨z,B,pl,hz⟩:=i.list hq;exact Js (i.ok.hd C) (sr.list pl.isList (by simpa using intsAre_of B)) D λZ j x k=>fin Z j x k
 . obtain ⟨z,B,pl,hz⟩:=i.tuple hq;exact Js (i.ok.hd C) (sr.tuple (pl) (by simpa using intsAre_of B)) D λZ j x k=>fin Z j x k
def aeS(t:St->Hp->(B3->Hp->Prop)->Prop):TE:=λσ H Q=>t σ H λks H1=>ks.length<64/\∀l,H1 l=none->Q (.ref l) (zw H1 l (.lst ((Zq.srt ks).map V.int)))
theorem boot_sorted:eI "sorted"= some (.builtin "sorted"):=by decide +kernel
theorem ZG{S:Addr}{Q:VK}(E:X.calm=true)(I:zk X y8 σ H s)(x:iQ X.prog X.w s.heap S ks)(j:ks.length<64)(q:∀l,H l=none->Q (.ref l) (zw H l (.lst ((Zq.srt ks).map V.int)))) :
 de (dn X.prog X.w) X.A (call (.builtin "sorted") [.ref S]) (λv s1=>∃y H1,zk X y8 σ H1 s1/\zo y v/\Q y H1) X.xe s:=by
 refine (Calls.call_function_entry kind_sorted plain_sorted entry_sorted (args_sorted1 _) ?_);unfold Builtin.«sorted»;refine af (m:=checkCount "sorted" 1 1 _) (aS (af (Mf (A:=X.A.in1) (by simp[I.ok.hd E]) x (by lia) λi P Y J z C=>?_)));have D:i.length=ks.length:=by rw[zA z,C.length_eq]
 have u:=I.grown J;have Z:(Y.heap.push (vb "list" i.toArray 0)).get? Y.heap.objs.size=some (vb "list" i.toArray 0):=cm _ rfl;refine af (wpAny_newList (af (i8 (fb slot_list_sort ⟨_,Z,rfl⟩ entry_list_sort (Q9 Z z (by lia) λout p L O M=>⟨_,rfl,aS ⟨_,rfl,?_⟩⟩) (args_list_sort _)))) (by rw[D];exact gp (tm j (by decide))));have e:p=Zq.srt ks:=Zq.uz ((O.trans C).trans (Zq.g8 ks).symm) M (Zq.qO ks);subst e;obtain ⟨c,r⟩:=sortedHeap_at (out:=out) Z;refine ⟨.ref Y.heap.objs.size,_,u.laid (a:=Y.heap.objs.size) (o:=.lst ((Zq.srt ks).map V.int)) (h':=sortedHeap (Y.heap.push (vb "list" i.toArray 0)) Y.heap.objs.size i out) (t':=Y.toks) (λb o e=>?_) (ay _) ?_,rfl,q _ (u.zS.fresh (ay _))⟩
 . have B:b<Y.heap.objs.size:=cx e;rw[sortedHeap_old (en B) (by rw[size_push'];exact rf B)];exact ax _ e
 . refine ⟨?_,out.toList,c,Zq.rQ L,by simpa[vb] using r⟩;rw[ag,(Zq.g8 ks).length_eq];exact gp (tm j (by decide))
theorem acj{t:St->Hp->(B3->Hp->Prop)->Prop}(l:X.calm=true)(o:Gl X "sorted")(u:X.mg "sorted"= none)(Z:PSt X e t)(hs:dr [e] X.env=[(false,eval e X.env)]:=by rfl):PE X (.Call (.Name "sorted" p) [e] [] pos) (aeS t):=by
 intro Y s r H Q I h;refine nS (lr I o u boot_sorted (rS ?_ hs rfl));rw[hs];refine t9 (thn (Z Y s r H _ I h) λv D ⟨S,C,B,z,x,_,j,i,q⟩=>vu ?_);subst z;exact ZG l j x i q
end
noncomputable def zc:ab->Option B3
 | .list es=>intsOf es
 | .tuple es=>intsOf es
 | _=>none
noncomputable def m9:B4->zi ab
 | [d]=>match zc d with
  | some ns=>gd ((ddl ns).length<64) (.ok (.list ((srt (ddl ns)).map ab.int)))
  | none=>.bad
 | _=>.bad
section
variable     {p p2 pos2:Pos}
theorem O8(h:zc kd=some ns)(e:aD A H)(i:Pk K A H kd v):∃q,v= .ref q/\(SqL K H q (ns.map V.int)\/SqT K H q (ns.map V.int)):=by
 cases kd with
 | list p=>
  have Y:=h;have:=p6 Y;subst this;obtain ⟨l,j,rfl,Z,o⟩:=i.list e;have ev:=o.Hr;subst ev;exact ⟨l,rfl,.inl Z⟩
 | tuple p=>
  have Y:=h;have:=p6 Y;subst this;obtain ⟨l,j,rfl,r,Z⟩:=i.fZ (H:=H);have ev:=r.Hr;subst ev;exact ⟨l,rfl,.inr (Z H e)⟩
 | _=>cases h
theorem Fw(D:X.calm=true)(R:Gl X "sorted")(U:X.mg "sorted"= none)(C:Gl X "set")(s:X.mg "set"= none)(M:QE X e (tP X.K O m))(hs:As e=true:=by rfl) :
 QE X (.Call (.Name "sorted" p) [.Call (.Name "set" p2) [e] [] pos2] [] pos) (tF X.K O (eFn m9 [m])):=
 QE.imp (acj D R U (Zb D C s (bN M.h eQ (cz hs)) (cz hs))) λσ H Q Z=>by
  obtain ⟨A,B,S,d,r,em,k⟩:=Z;obtain ⟨ds,i,em⟩:=zi.aq em;obtain ⟨u,I,i⟩:=zi.aq i;obtain ⟨_,e3,i⟩:=zi.aq i;cases e3;cases i;have em:(match zc u with | some j=>gd ((ddl j).length<64) (.ok (.list ((srt (ddl j)).map ab.int))) | none=>.bad)=zi.ok d:=em
  cases z:zc u with
  | none=>rw[z] at em;cases em
  | some j=>
   rw[z] at em;obtain ⟨L,em⟩:=bO em;cases em;refine ⟨A,B,S,u,r,I,λv E H1 Y P=>?_⟩;obtain ⟨q,rfl,J⟩:=O8 z Y.ah P;refine ⟨q,j,rfl,J,by lia,L,λl o=>k _ E _ (Y.trans (aZ.lay Y.ah o)) ⟨l,_,rfl,Y.hh.free o,bc,Y.ah.free o,.inl ⟨_,_,rfl,rfl,au.ints⟩⟩⟩
end
section
variable   {A:gx}
theorem VP{Y:Array bg}{o:Obj}{Q:B2}(e:s.heap.get? l=some { cls:=.type "list",dict:=none,data:=.seq items i,slots:=#[] })(Z:s.heap.get? p=some o)(q:o.cls= .type "list")(hd:o.data= .seq Y j)(r:items.size+Y.size<=bt)
 (h:Q .none { s with heap:=s.heap.update l (oB (· ++ Y)) }):de (dn P w) A (call (.builtin "list.extend") [.ref l,.ref p]) Q E s:=by
 refine fb oi ⟨_,e,rfl⟩ F.entry_list_extend ?_ (F.args_list_extend_2 _ _);refine af (l6 rfl ?_);unfold Builtin.List.listExtendWith;refine af (wpAny_typeOf ⟨_,Z,q⟩ ?_);rw[show (pe (.ref l) (.ref p)||h9 "list" == h9 "list" || h9 "list" == h9 "tuple")=true by simp];unfold Builtin.List.listItems;refine af (af (fv Z hd (aS (af (af (fv e rfl (aS ?_)))))));rw[show (!items.isEmpty&&kP (items.size+Y.size))=false by
  rw[show kP (items.size+Y.size)=false from by exact decide_eq_false (by lia)];exact qV _]
 refine af (n9 e rfl (aS ⟨_,rfl,h⟩) (by lia) (by rw[Array.size_append];lia))
end
section
variable      {p:Pos}
def Wn(K:aE):V->C0->Hp->VK->Prop:=λx vs H Q=>∃l b xs zs,x= .ref l/\vs=[.ref b]/\H l=some (.lst xs)/\SqL K H b zs/\xs.length+zs.length<=bt/\Q .non (zw H l (.lst (xs++zs)))
theorem Qo:MtM X "list.extend" (Wn X.K):=by
 rintro i s S H x vs v O Q I D L ⟨l,b,R,U,rfl,rfl,o,J,hz,q⟩;cases D;obtain ⟨u,rfl,M⟩:=L.one;cases M;obtain ⟨z,B,n,r,hl,e⟩:=I.Pu o;obtain ⟨p,j,⟨o2,n2,E,Z,_,Y⟩,P⟩:=I.list J;have C:=j.length;refine VP e E Z Y (by rw[dA,dA];lia) (⟨.non,_,I.QM o e (by simp) (r.append j) ?_,rfl,q⟩);rw[ai];lia
theorem Z3(i:Nat)(he:QE X e (tE X.K O m))(R:isO (fl O i)=true:=by rfl)(E:Nm X i x:=by walk_at "nm")(j:l5 (.Name x p) "extend" X.env (eval (.Name x p) X.env)=eval (.Name x p) X.env:=by rfl)
 (s:((mI cpos (dr (e::[]) X.env)).all (λx=>!x.1)&&(ua cpos (ox [] X.env)).all (λx=>x.1.isSome)
  && decide ((e::[]).length+([]:List om).length+(if ([]:List om).isEmpty then 0 else 1)<30))=true:=by rfl)
 (Z:(apos.endLine == cpos.line)=true:=by rfl) (hs:dr (e::[]) X.env=(false,eval e X.env)::dr [] X.env:=by rfl) (Y:(mI cpos (dr [] X.env)).any (·.1)=false:=by rfl)
 (I:hV (.Call (.Attribute (.Name x p) "extend" apos) [e] [] cpos) none pos.line X.env=pure false:=by rfl) :
 QS X (.Expr (.Call (.Attribute (.Name x p) "extend" apos) [e] [] cpos) pos) (tS X.K rm Ol O O (sE i m)):=by
 refine QS.imp (oW (BV la oi wm Qo (dO E.1 E.2 E.3 E.4) (bN he.h eQ hs) j s Z hs Y) I) λD σ H u=>?_;obtain ⟨A,B,P,o,r,em,k⟩:=u;obtain ⟨d,e1,em⟩:=zi.aq em
 cases C:gv P i with
 | none=>rw[C] at em;cases em
 | some dl=>
  rw[C] at em
  cases dl with
  | list ds=>
   cases d with
   | list es=>
    obtain ⟨⟨hc,L⟩,em⟩:=bO em;cases em;obtain ⟨q,S,U,J,M⟩:=o4 r R C;refine ⟨.ref q,dU U,.inl ⟨rfl,S,SqL.of J⟩,A,B,P,_,r,e1,λv A1 H1 l p1=>?_⟩;obtain ⟨q2,us,rfl,h5,Q⟩:=Rp.list.mp p1;refine ⟨q,q2,S,us,rfl,rfl,l.hh _ _ J,h5.elim (λz=>.inl (aD.rd l.ah z)) .inr,by rw[<- M.length,<- Q.length];exact hc,?_⟩;exact k σ A1 _ ((r.grow l).change R L (by rw[C];simp) U (l.hh _ _ J) (.inl ⟨_,_,rfl,rfl,(au.mono l.aa _ M).append Q⟩)) l.aa (l.nB r.b)
   | _=>cases em
  | _=>cases em
end
noncomputable def fnN(n:Nat)(m:MS)(ds:B4):zi ab:=(m (ds.map some++aI (n - ds.length) none)).bind λo=>match o with
 | .rt d=>.ok d
 | .nx _=>.ok .none
 | _=>.bad
section
variable     {base:Heap}
theorem Zh{st:Stmt}{fs:B9}{m:MS}(F:At K mg x st ps)(S:cL N ps (aM st))(R:fs.length=ps.length)(hn:ps.length<=N.length)
 (p:∀i,i<fs.length->(fl O i= .zD/\fl fs i= .zD)\/fl O i= .zC)
 (hbody:∀(f:Addr) (Y:bg) (A:gx) (AA:C5) (s:cy) (H:Hp) (E:XK),dJ j (A.deeper (oy x (aM st) s.heap.objs.size f Y)) ->
  QSs (mK CX0 P w K mg base N x (aM st) f Y A AA s H E).nox (bK st) (tS K .f Ol O O' m)) (hrm:rm= .f):Def P w K mg base (j+1) x ps (spF K fs rm (fnN N.length m)):=by
 subst hrm;refine F.ok S (λL H Q E h=>?_) (λf Y A AA s H L Q E C h=>?_)
 . obtain ⟨A,D,d,_,h,_⟩:=h;rw[h.length.1,R]
 . obtain ⟨z,D,d,B,h,em,q⟩:=h;obtain ⟨o,r,em⟩:=zi.aq em
   cases o with
   | rt d'=>
    cases em;refine ⟨_,(hbody f Y A AA s H E C).h,z,H,_,_,p7 B h p (by lia),r,λv Z l I M e nw rv=>q v Z l ⟨e,M,I,nw⟩ rv⟩
   | nx J=>
    cases em;refine ⟨_,(hbody f Y A AA s H E C).h,z,H,_,_,p7 B h p (by lia),r,λU Z l u e nw=>q .non Z l ⟨e,u.b,u.a,nw⟩ (show Rp K Z .none .non from Rp.none.mpr rfl)⟩
   | _=>cases em
end
noncomputable def vK(k:Str):List (Str×ab)->Option ab
 | []=>none
 | (x,d)::D=>if k=x then some d else vK k D
inductive lL (K:aE):List qa->List (Str×ab)->Prop
 | nil:lL K [] []
 | cons {e:qa}{x:Str}{t:Tok}{d:ab}{v:V}{es:List qa}{D:List (Str×ab)}:e.key= .str x t->zo v e.val->(∀A,Rp K A d v)->lL K es D->lL K (e::es) ((x,d)::D)
def XM(K:aE)(a:Addr)(D:List (Str×ab)):Prop:=(a == gu)=false/\∃o es ep,K.lookup a=some o/\o.ExactDict/\o.data= .dict es ep/\lL K es.toList D
variable {D:List (Str×ab)}
theorem lL.exact{es:List qa}(h:lL K es D):(es.all λe=>isExactStrKey e.key)=true:=by
 induction h with
 | nil=>rfl
 | cons Y _ _ _ Z=>rw[wo,Z,Y];rfl
theorem lL.find{es:List qa}(h:lL K es D){k:Str}(hd:vK k D=some kd):∃i e v,es.findIdx? (λe=>e.key.isStr k)=some i/\es[i]?=some e/\zo v e.val/\∀A,Rp K A kd v:=by
 induction h with
 | nil=>cases hd
 | @cons e x t E v es D j s r Z q=>
  unfold vK at hd
  by_cases Y:k=x
  . rw[if_pos Y] at hd;cases hd;refine ⟨0,e,v,?_,rfl,s,r⟩;rw[List.findIdx?_cons,j];simp[Value.isStr,Y]
  . rw[if_neg Y] at hd;obtain ⟨i,B,u,p,C,l,o⟩:=q hd;refine ⟨i+1,B,u,?_,by simpa using C,l,o⟩;rw[List.findIdx?_cons,j];have:(bg.str x t).isStr k=false:=by simp[Value.isStr];exact λz=>Y z.symm
    rw[this,p];rfl
def aeB(K:aE)(D:List (Str×ab)):R2:=λx y H Q=>∃a k d,x= .ref a/\y= .str k/\XM K a D/\vK k D=some d/\∀v,(∀A,Rp K A d v)->Q v H
theorem abw:IxR X (aeB X.K D):=by
 intro z p j s R H x y v u Q I rx ry h hs;obtain ⟨a,k,d,rfl,rfl,⟨P,o,B,ep,hk,M,hd,S⟩,hl,q⟩:=h;cases rx;obtain ⟨tk,rfl⟩:∃tk,u= .str k tk:=ry;have hh:=I.kIn a o hk;have hT:s.TypeIs (.ref a) "dict" := ⟨o,hh,M.1⟩;obtain ⟨i,e,w,hf,hi,J,U⟩:=S.find hl;have O:B.findIdx? (λe=>e.key.isStr k)=some i:=by
  obtain ⟨l⟩:=B;simpa using hf
 have L:B[i]?=some e:=by
  obtain ⟨l⟩:=B;simpa using hi
 have get:de (dn X.prog X.w) X.A.in1 (dictGet a (.str k tk)) (λr Y=>r=some e.val/\Y={ s with toks:=s.toks+1 }) X.xe s:=by
  try with_reducible refine i8 ?_
  refine af (wpAny_pyHash_str (af (KTD.kt_dictFind_strs hh hd (by obtain ⟨l⟩:=B;simpa using S.exact) ?_)));rw[O];refine af (wpAny_dictEntries hh hd (aS ?_));simp[L]
 have item:de (dn X.prog X.w) X.A (xD (.ref a) (.str k tk)) (EP X j R Q) X.xe s:=by
  unfold xD
  try with_reducible refine i8 ?_
  refine af (wpAny_sequenceKey hT (by decide) ?_);refine af (fm hT slot_dict_getitem
   (fb slot_dict_getitem hT entry_dict_getitem ?_ (args_dict_getitem _ _)))
  show de _ _ (dictGet a (.str k tk) >>= _) _ _ s;refine af (gL get (λr Y C=>?_) λ_ _ x=>x);obtain ⟨rfl,rfl⟩:=C;exact aS ⟨e.val,rfl,aS ⟨w,H,I.tok _,J,q w U⟩⟩
 refine af ?_;rw[mB hT.not_modules];refine af (j1 hT kF.lookup ?_);have fin:de (dn X.prog X.w) X.A (oz p false (.ref a) (.str k tk)) (λr Z=>de (dn X.prog X.w) X.A (qr z (.ref a) r >>= λ_=>pure r) (EP X j R Q) X.xe Z) X.xe s:=by
  rw[hs];exact pw (gL item (λr Z E=>af (ng (aS E))) λ_ _ x=>x)
 first
  | exact aS (af fin)
  | exact af (aS (af fin))
  | exact af fin
noncomputable def Wf(D:List (Str×ab)):ab->zi ab
 | .str k=>(match vK k D with | some d=>.ok d | none=>.bad)
 | _=>.bad
theorem aaD(s:Gl X x)(E:X.mg x=some (.ref l))(T:XM X.K l D)(q:QE X b (tP X.K O m))(hs:lH b)(hd:nD x:=by decide):QE X (.Subscript (.Name x pos') b pos) (tE X.K O (eUn (Wf D) m)):=
 QE.imp (Df abw (Nb (v:=.ref l) s E rfl hd) q.h hs) λL H Q Y=>by
  obtain ⟨A,B,u,d,r,em,k⟩:=Y;obtain ⟨i,I,em⟩:=zi.aq em;refine ⟨A,B,u,i,r,I,λy e j o p=>?_⟩
  cases i with
  | str z=>
   have em:(match vK z D with | some d=>zi.ok d | none=>.bad)= .ok d:=em
   cases Z:vK z D with
   | none=>rw[Z] at em;cases em
   | some J=>
    rw[Z] at em;cases em;exact ⟨l,z,d,rfl,p.str,T,Z,λv C=>k v e j o (C e)⟩
  | _=>cases em
noncomputable def lO(K:aE):Nat->ab->bg->Bool
 | 0,_,_=>false
 | _+1,.int i,.int j _=>i == j
 | _+1,.str x,.str y _=>x == y
 | n+1,.tuple ds,.ref a=>(match K.lookup a with
  | some o=>o.cls == .type "tuple" && (match o.data with
   | .seq ze _=>decide (ze.size<=1000)&&(ds.length == ze.toList.length)&&(ds.zip ze.toList).all λp=>lO K n p.1 p.2
   | _=>false)
  | none=>false)
 | _+1,_,_=>false
theorem NK(e:∀d v,lO K i d v=true->∃x,zo x v/\∀A,Rp K A d x):∀(ds:B4) (us:B8),ds.length=us.length->((ds.zip us).all λp=>lO K i p.1 p.2)=true->∃xs,zv xs us/\∀A,au K A ds xs
 | [],[],_,_=>⟨[],.nil,λ_=>au.nil.mpr rfl⟩
 | d::ds,u::us,Y,h=>by
  simp only[List.zip_cons_cons,wo,dQ] at h;obtain ⟨x,j,l⟩:=e d u h.1;obtain ⟨xs,o,Z⟩:=NK e ds us (by simpa using Y) h.2;exact ⟨x::xs,.cons j o,λA=>au.cons.mpr ⟨x,xs,rfl,l A,Z A⟩⟩
 | [],_::_,Y,_=>by simp at Y
 | _::_,[],Y,_=>by simp at Y
theorem N5:∀(n:Nat) (d:ab) (v:bg),lO K n d v=true->∃x,zo x v/\∀A,Rp K A d x:=by
 intro n
 induction n with
 | zero=>intro d v h;simp[lO] at h
 | succ n s=>
  intro d v h;unfold lO at h;split at h
  . rename_i z;cases z
  . rename_i i j t e;have e:=eq_of_beq h;subst e;exact ⟨.int i,⟨_,rfl⟩,λA=>Rp.int.mpr rfl⟩
  . rename_i x y t e;have e:=eq_of_beq h;subst e;exact ⟨.str x,⟨_,rfl⟩,λA=>Rp.str.mpr rfl⟩
  . rename_i m q a e;cases e;split at h
    . rename_i o u;simp only[dQ] at h;obtain ⟨r,h⟩:=h;split at h
      . rename_i Y sz hd;simp only[dQ,decide_eq_true_eq] at h;obtain ⟨⟨D,l⟩,p⟩:=h;obtain ⟨B,C,Z⟩:=NK s q Y.toList (beq_iff_eq.mp l) p;exact ⟨.ref a,rfl,λA=>Rp.tuple.mpr ⟨a,B,rfl,.inr ⟨o,Y,sz,u,beq_iff_eq.mp r,hd,by simp only[sizeLine_eq];lia,C⟩,Z A⟩⟩
      . cases h
    . cases h
  . cases h
noncomputable def zx(K:aE):List qa->List (Str×ab)->Bool
 | [],[]=>true
 | e::es,(x,d)::D=>(match e.key with | .str y _=>y == x | _=>false)&&lO K 9 d e.val&&zx K es D
 | _,_=>false
theorem HB:∀(es:List qa) (D:List (Str×ab)),zx K es D=true->lL K es D
 | [],[],_=>.nil
 | e::es,(x,d)::D,h=>by
  simp only[zx,dQ] at h;obtain ⟨⟨Y,o⟩,Z⟩:=h;split at Y
  . rename_i y t l;have e:=eq_of_beq Y;subst e;obtain ⟨v,i,j⟩:=N5 _ _ _ o;exact .cons l i j (HB es D Z)
  . cases Y
 | [],_::_,h=>by simp[zx] at h
 | _::_,[],h=>by simp[zx] at h
noncomputable def Jr(K:aE)(a:Addr)(D:List (Str×ab)):Bool:=!(a == gu)&&(match K.lookup a with
 | some o=>o.cls == .type "dict" && o.dict.isNone&&o.slots.isEmpty&&(match o.data with | .dict es _=>zx K es.toList D | _=>false)
 | none=>false)
theorem ZZ{a:Addr}(h:Jr K a D=true):XM K a D:=by
 simp only[Jr,dQ] at h;obtain ⟨i,Y⟩:=h;split at Y
 . rename_i o e;simp only[dQ] at Y;obtain ⟨⟨⟨r,l⟩,q⟩,Z⟩:=Y;split at Z
   . rename_i j p hd;exact ⟨by simpa using i,o,j,p,e,⟨beq_iff_eq.mp r,by simpa using l,by simpa using q⟩,hd,HB _ _ Z⟩
   . cases Z
 . cases Y
theorem acV(Z:Gl X x)(e:X.mg x=some (.ref l))(T:Jr X.K l D=true)(Y:QE X b (tP X.K O m))(hs:lH b)(hd:nD x:=by decide):QE X (.Subscript (.Name x pos') b pos) (tE X.K O (eUn (Wf D) m)):=aaD Z e (ZZ T) Y hs hd
theorem kO{u:bg}(e:Gl X x)(i:X.mg x=some u)(r:lO X.K 9 kd u=true)(hd:nD x:=by decide):QE X (.Name x pos) (tE X.K O (eC kd)):=
 let ⟨_,Z,Y⟩:=N5 _ _ _ r
 zK e i Z Y hd
noncomputable def j5(key:dF):B0->Option ab
 | []=>none
 | (k,d)::r=>if jD k=some key then some d else j5 key r
noncomputable def Am(key:dF):B0->Bool
 | []=>false
 | (k,_)::r=>if jD k=some key then true else Am key r
noncomputable def Ph(key:dF)(x:ab):B0->B0
 | []=>[]
 | (k,d)::r=>(if jD k=some key then (k,x) else (k,d))::Ph key x r
noncomputable def putN(kd:ab)(key:dF)(x:ab)(y9:B0):B0:=if Am key y9=true then Ph key x y9 else y9++[(kd,x)]
abbrev NP(K:aE)(A:Hp):B0->List (dF×V)->Prop:=i6 λp q=>jD p.1=some q.1/\Rp K A p.2 q.2
section
variable   {key:dF}  {us:List (dF×V)}
theorem rB{key Y:dF}(h:jD kd=some Y):jD kd=some key↔Y=key:=by rw[h];simp
theorem NP.look(h:NP K A y9 us):(∀d,j5 key y9=some d->∃v,gG us key=some v/\Rp K A d v)/\(j5 key y9=none->gG us key=none):=by
 induction h with
 | nil=>exact ⟨λd e=>(nomatch e),λ_=>rfl⟩
 | @cons p q r o i t j=>
  obtain ⟨Z,hd⟩:=i;obtain ⟨k,d⟩:=p;unfold j5
  by_cases e:jD k=some key
  . have Y:=(rB Z).mp e;rw[if_pos e];exact ⟨λl z=>by cases z;exact ⟨q.2,o7 Y,hd⟩,λz=>(nomatch z)⟩
  . have Y:=λz=>e ((rB Z).mpr z);rw[if_neg e,o9 Y];exact j
theorem NP.any(h:NP K A y9 us):(gG us key).isSome=(j5 key y9).isSome:=by
 have:=h.look (key:=key)
 cases e:j5 key y9 with
 | none=>rw[this.2 e];rfl
 | some d=>obtain ⟨v,Y,_⟩:=this.1 d e;rw[Y];rfl
theorem NP.has(h:NP K A y9 us):(us.any λZ=>decide (Z.1=key))=Am key y9:=by
 induction h with
 | nil=>rfl
 | @cons p q o l i t j=>
  obtain ⟨Y,hd⟩:=i;obtain ⟨k,d⟩:=p;rw[Am,kQ,j]
  by_cases e:jD k=some key
  . rw[if_pos e,decide_eq_true ((rB Y).mp e)];rfl
  . rw[if_neg e,decide_eq_false λz=>e ((rB Y).mpr z)];rfl
theorem NP.set(j:Rp K A kd v)(h:NP K A y9 us):NP K A (Ph key kd y9) (us.map λZ=>if Z.1=key then (Z.1,v) else Z):=by
 induction h with
 | nil=>exact .nil
 | @cons p q r o l t i=>
  obtain ⟨Y,hd⟩:=l;obtain ⟨k,d⟩:=p;rw[Ph,bq]
  by_cases e:jD k=some key
  . rw[if_pos e,if_pos ((rB Y).mp e)];exact .cons ⟨Y,j⟩ i
  . rw[if_neg e,if_neg λz=>e ((rB Y).mpr z)];exact .cons ⟨Y,hd⟩ i
theorem NP.put{x:ab}(Z:jD kd=some key)(Y:Rp K A x v)(h:NP K A y9 us):NP K A (putN kd key x y9) (putK us key v):=by
 unfold putN putK;rw[h.has]
 by_cases e:Am key y9=true
 . rw[if_pos e,if_pos e];exact h.set Y
 . rw[if_neg e,if_neg e];exact i6.snoc h ⟨Z,Y⟩
theorem au.Px:∀{ds:B4}{vs:C0}{ns:B3},au K A ds vs->nF ds=some ns->vs=ns.map V.int
 | [],vs,ns,h,e=>by rw[au.nil] at h;cases e;exact h
 | .int i::r,vs,ns,h,e=>by
  obtain ⟨v,Z,rfl,j,o⟩:=au.cons.mp h;unfold nF at e
  cases Y:nF r with
  | none=>rw[Y] at e;cases e
  | some l=>
   rw[Y] at e;cases e;rw[Rp.int.mp j,au.Px o Y];rfl
 | .none::r,vs,ns,h,e=>by cases e
 | .bool _::r,vs,ns,h,e=>by cases e
 | .str _::r,vs,ns,h,e=>by cases e
 | .list _::r,vs,ns,h,e=>by cases e
 | .tuple _::r,vs,ns,h,e=>by cases e
 | .dict _::r,vs,ns,h,e=>by cases e
theorem au.Ym:∀{ds:B4}{vs:C0}{key:dF},au K A ds vs->sY ds=some key->∃cs:C2,vs=cs.map V.ref/\i6 (λ(k:B3) c=>SqT K A c (k.map V.int)) key cs
 | [],vs,key,h,e=>by rw[au.nil] at h;cases e;exact ⟨[],h,.nil⟩
 | .tuple ds::r,vs,key,h,e=>by
  obtain ⟨v,i,rfl,p,s⟩:=au.cons.mp h;obtain ⟨a,ws,rfl,j,o⟩:=Rp.tuple.mp p;unfold sY at e
  cases Y:nF ds with
  | none=>rw[Y] at e;cases e
  | some l=>
   cases Z:sY r with
   | none=>rw[Y,Z] at e;cases e
   | some u=>
    rw[Y,Z] at e;cases e;obtain ⟨cs,rfl,q⟩:=au.Ym s Z;rw[au.Px o Y] at j;exact ⟨a::cs,rfl,.cons j q⟩
 | .none::r,vs,key,h,e=>by cases e
 | .bool _::r,vs,key,h,e=>by cases e
 | .str _::r,vs,key,h,e=>by cases e
 | .list _::r,vs,key,h,e=>by cases e
 | .int _::r,vs,key,h,e=>by cases e
 | .dict _::r,vs,key,h,e=>by cases e
theorem Rp.Wu(h:Rp K A kd v)(Y:jD kd=some key):∃b,v= .ref b/\oG K A key b:=by
 cases kd with
 | tuple o=>
  obtain ⟨a,l,rfl,i,j⟩:=Rp.tuple.mp h;obtain ⟨Z,rfl,e⟩:=au.Ym j Y;exact ⟨a,rfl,Z,i,e⟩
 | _=>cases Y
end
theorem aY.IV(r:aY K A B H O σ Γ)(e:fl O i= .nst true)(Z:gv Γ i=some (.dict y9)) :
 ∃p xs,sv σ i=some (.ref p)/\H p=some (iu p xs)/\A p=none/\B p=none/\RpN K A y9 xs:=by
 obtain ⟨v,u,q⟩:=r.slot i _ Z;rw[e] at q;obtain ⟨p,xs,Y,rfl,j,l,o,w5,s⟩:=q rfl;cases j;exact ⟨p,xs,u,l,o,w5,s⟩
theorem aY.aeR{xs o:List (dF×Addr×bg)}(r:aY K A B H O σ Γ)(hi:fl O i= .nst true)(R:i < Γ.length)(hs:sv σ i=some (.ref p))(J:H p=some (iu p xs))(h2:A p=none)(U:B p=none)(h4:RpN K A y9 o)
 (D:∀j,i≠j->fl O j ≠ .nst true):aY K A B (zw H p (iu p o)) O σ (Γ.set i (some (.dict y9))):=by
 refine ⟨λb u q=>?_,λb u q=>?_,by rw[fq];exact r.len,λj=>?_,λj k S q1 q2 q3 q4=>?_⟩
 . rw[aH (λz=>by rw[z,h2] at q;cases q)];exact r.a b u q
 . rw[aH (λz=>by rw[z,U] at q;cases q)];exact r.b b u q
 . by_cases M:i=j
   . subst M;rw[gv,bF R];intro d e;cases e;refine ⟨_,hs,?_⟩;rw[hi];exact λ_=>⟨p,o,y9,rfl,rfl,bc,h2,U,h4⟩
   . rw[gv,aQ M];intro d e;obtain ⟨v,ev,q⟩:=r.slot j d e;refine ⟨v,ev,?_⟩
     cases Z:fl O j with
     | zD=>rwa [Z] at q
     | zC=>rwa [Z] at q
     | own=>
      rw[Z] at q;obtain ⟨s,Q,rfl,E,L,P,I⟩:=q;have Y:s≠p:=λz=>by subst z;rw[E] at J;exact I.nx J
      exact ⟨s,Q,rfl,by rw[aH Y];exact E,L,P,I⟩
     | fix p0=>
      rw[Z] at q;obtain ⟨q0,s,Q,rfl,E,L,P,I⟩:=q;have Y:s≠p:=λz=>by subst z;rw[E] at J;exact I.nx J
      exact ⟨q0,s,Q,rfl,by rw[aH Y];exact E,L,P,I⟩
     | kit=>rwa [Z] at q
     | exc C=>rwa [Z] at q
     | nst b=>
      cases b with
      | true=>exact absurd Z (D j M)
      | false=>exact λz=>nomatch z
 . have g:∀l,isO (fl O l)=true->gv (Γ.set i (some (.dict y9))) l≠none->gv Γ l≠none:=λl h z=>by
    have R:i≠l:=λz=>by subst z;rw[hi] at h;cases h
    unfold gv at z ⊢;rwa [aQ R] at z
   exact r.sep j k S q1 q2 (g j q1 q3) (g k q2 q4)
theorem aY.acu(r:aY K A B H O σ Γ)(hi:fl O i= .own)(S:i<O.length)(M:gv Γ i=some (.dict [])) :
 ∃p,H p=some (.dK [])/\aY K A B (zw H p (iu p [])) (O.set i (.nst true)) σ Γ:=by
 obtain ⟨d,p,o,e1,e2,h1,h2,h3,L⟩:=r.oh (by rw[hi];rfl) (by rw[M];simp);rw[M] at e1;cases e1;rcases L with ⟨ds,vs,z,_⟩ | ⟨E,u,z,rfl,L⟩
 . cases z
 cases z;rw[bh.nil] at L;subst L;refine ⟨p,h1,λb u q=>?_,λb u q=>?_,r.len,λj=>?_,λj k hjk l s q3 q4=>?_⟩
 . rw[aH (λz=>by rw[z,h2] at q;cases q)];exact r.a b u q
 . rw[aH (λz=>by rw[z,h3] at q;cases q)];exact r.b b u q
 . by_cases D:i=j
   . subst D;rw[fl,bF S];intro d e;rw[M] at e;cases e;exact ⟨_,e2,λ_=>⟨p,[],[],rfl,rfl,bc,h2,h3,[],.nil,.nil⟩⟩
   . rw[fl,aQ D];intro d e;obtain ⟨v,ev,q⟩:=r.slot j d e;refine ⟨v,ev,?_⟩;have J:isO (fl O j)=true->∀Z,v= .ref Z->Z≠p:=λY Z ez z=>by
      refine r.sep i j D (by rw[hi];rfl) Y (by rw[M];simp) (by rw[e];simp) ?_;rw[e2,ev,ez,z]
     cases Y:fl O j with
     | zD=>unfold fl at Y;rw[Y];rwa [show fl O j= .zD from Y] at q
     | zC=>unfold fl at Y;rw[Y];rwa [show fl O j= .zC from Y] at q
     | own=>
      have I:=J (by rw[Y];rfl);unfold fl at Y;rw[Y];rw[show fl O j= .own from Y] at q;obtain ⟨Z,U,rfl,u1,Q,R,u4⟩:=q;exact ⟨Z,U,rfl,by rw[aH (I Z rfl)];exact u1,Q,R,u4⟩
     | fix p0=>
      have I:=J (by rw[Y];rfl);unfold fl at Y;rw[Y];rw[show fl O j= .fix p0 from Y] at q;obtain ⟨q0,Z,U,rfl,u1,Q,R,u4⟩:=q;exact ⟨q0,Z,U,rfl,by rw[aH (I Z rfl)];exact u1,Q,R,u4⟩
     | exc C=>unfold fl at Y;rw[Y];rwa [show fl O j= .exc C from Y] at q
     | kit=>unfold fl at Y;rw[Y];rwa [show fl O j= .kit from Y] at q
     | nst b=>
      unfold fl at Y;rw[Y];rw[show fl O j= .nst b from Y] at q;intro z;obtain ⟨Z,xs,E,w1,w2,P,w4,w5,w6⟩:=q z;have I:Z≠p:=λz=>by subst z;rw[h1] at P;cases P
      exact ⟨Z,xs,E,w1,w2,by rw[aH I];exact P,w4,w5,w6⟩
 . have D:i≠j:=λz=>by subst z;unfold fl at l;rw[bF S] at l;cases l
   have hk:i≠k:=λz=>by subst z;unfold fl at s;rw[bF S] at s;cases s
   unfold fl at l s;rw[aQ D] at l;rw[aQ hk] at s;exact r.sep j k hjk l s q3 q4
noncomputable def zm(i:Nat)(m:ME):ME:=λΓ=>(m Γ).bind λkd=>match gv Γ i with
 | some (.dict y9)=>match jD kd with
  | some key=>.ok (.bool (!(j5 key y9).isSome))
  | none=>.bad
 | _=>.bad
noncomputable def Ow(i:Nat)(m:ME):ME:=λΓ=>(m Γ).bind λkd=>match gv Γ i with
 | some (.dict y9)=>match jD kd with
  | some key=>match j5 key y9 with
   | some d=>.ok d
   | none=>.bad
  | none=>.bad
 | _=>.bad
noncomputable def Hk(i:Nat)(mk mv:ME):MS:=λΓ=>(mv Γ).bind λx=>(mk Γ).bind λkd=>match gv Γ i with
 | some (.dict y9)=>match jD kd with
  | some key=>gd (y9.length<bt/\i < Γ.length) (.ok (.nx (Γ.set i (some (.dict (putN kd key x y9))))))
  | none=>.bad
 | _=>.bad
section
variable         {xp:Pos}
def adT(K:aE):R2:=λx y H Q=>∃b p xs us k,x= .ref b/\y= .ref p/\H p=some (iu p xs)/\KN K H us xs/\oG K H k b/\Q (.bl (!(gG us k).isSome)) H
theorem Uz(z:X.A.units+66<kb):OpR X (fR .NotIn) (adT X.K):=by
 rintro Y s C H x y v u Q I e i ⟨b,p,B,r,k,rfl,rfl,j,o,Z,q⟩;cases (e);cases (i);exact aap (by lia) I j o Z λD l=>⟨.bl _,H,l,rfl,q⟩
def aeF(K:aE):R2:=λx y H Q=>∃p b xs us k v,x= .ref p/\y= .ref b/\H p=some (iu p xs)/\KN K H us xs/\oG K H k b/\gG us k=some v/\Q v H
theorem afq(S:X.A.units+66<kb):IxR X (aeF X.K):=by
 intro e i Z s B H x y v u Q I L E h O;obtain ⟨p,b,U,R,k,w,rfl,rfl,z,o,C,D,q⟩:=h;cases (L);cases (E);have hT:=(Hn I z o).2.2.typeIs;refine af ?_;rw[mB hT.not_modules];refine af (j1 hT kF.lookup ?_);have fin:de (dn X.prog X.w) X.A (oz i false (.ref p) (.ref b)) (λr Y=>de (dn X.prog X.w) X.A (qr e (.ref p) r >>= λ_=>pure r) (EP X Z B Q) X.xe Y) X.xe s:=by
  rw[O];exact pw (gL (S7 (by lia) I z o C D λM J P l=>(⟨w,H,P,l,q⟩:EP X Z B Q M J)) (λr Y j=>af (ng (aS j))) λ_ _ x=>x)
 first
  | exact aS (af fin)
  | exact af (aS (af fin))
  | exact af fin
def adq(K:aE)(td ty tv:TE):TS:=λD σ H=>tv σ H λv H1=>td σ H1 λx H2=>ty σ H2 λy H3=>∃a b xs us k,x= .ref a/\y= .ref b/\H3 a=some (iu a xs)/\KN K H3 us xs/\oG K H3 k b/\us.length<bt /\
 ∀r,zo v r->D.nx σ (zw H3 a (iu a (vE xs k b r)))
theorem aaJ{j ty l:TE}(hu:X.A.units+66<kb)(ho:PE X e j)(S:PE X tg ty)(O:PE X c l)(hs:hV c (some (.Subscript e tg pos')) pos.line X.env=pure false) :
 PS X (.Assign [.Subscript e tg pos'] c pos) (adq X.K j ty l):=by
 intro Y s i H D I h;refine wpAny_Assign_Subscript (thn (O Y s i H _ I h) λr J ⟨v,H1,p,o,L⟩=>thn (ho Y J i H1 _ p L) λu s2 ⟨x,H2,I2,U,q2⟩=>thn (S Y s2 i H2 _ I2 q2) λz s3 Z=>?_) hs;obtain ⟨y,H3,M,C,a,b,xs,us,k,ex,B,E,R,q,hl,Q⟩:=Z;subst ex B;obtain rfl:u=hZ a:=U;obtain rfl:z=hZ b:=C;exact Ro (by lia) M E R q o hl λs4 P=>⟨i,_,P,Q r o⟩
theorem Ul(i:Nat)(D:X.A.units+66<kb)(U:QE X a (tE X.K O m))(P:fl O i= .nst true:=by rfl)(j:Nm X i x:=by walk_at "nm"):QT X (.Compare a [.NotIn] [.Name x xp] pos) (tT X.K O (zm i m)):=
 QT.imp (Oa (Uz D) U.h (dO j.1 j.2 j.3 j.4) rfl) λσ H Q Z=>by
  obtain ⟨A,B,q,bb,r,em,k⟩:=Z;obtain ⟨s,M,em⟩:=zi.aq em
  cases l:gv q i with
  | none=>rw[l] at em;cases em
  | some dl=>
   rw[l] at em
   cases dl with
   | dict E=>
    have em:=em
    cases o:jD s with
    | none=>rw[o] at em;cases em
    | some key=>
     rw[o] at em;cases em;obtain ⟨p,J,L,I,h2,h3,C,z,R⟩:=r.IV P l;refine ⟨A,B,q,s,r,M,λv u S Y p1=>⟨.ref p,dU L,?_⟩⟩;obtain ⟨b,rfl,nt⟩:=Rp.Wu p1 o;exact ⟨b,p,J,C,key,rfl,rfl,Y.hh _ _ I,z.keeps λ_ _ e=>(Y.aa.trans Y.ah).fZ e,nt.keeps λ_ _ e=>Y.ah.fZ e,_,by rw[NP.any R],k u S Y⟩
   | _=>cases em
theorem abG(i:Nat)(I:X.A.units+66<kb)(ha:QE X a (tE X.K O m))(hs:lH a)(R:fl O i= .nst true:=by rfl)(l:Nm X i x:=by walk_at "nm"):QE X (.Subscript (.Name x xp) a pos) (tE X.K O (Ow i m)):=
 QE.imp (Df (afq I) (dO l.1 l.2 l.3 l.4) ha.h hs) λσ H Q j=>by
  obtain ⟨A,B,u,d,r,em,k⟩:=j;obtain ⟨z,P,em⟩:=zi.aq em
  cases o:gv u i with
  | none=>rw[o] at em;cases em
  | some dl=>
   rw[o] at em
   cases dl with
   | dict Z=>
    have em:=em
    cases s:jD z with
    | none=>rw[s] at em;cases em
    | some key=>
     rw[s] at em;have em:(match j5 key Z with | some d=>zi.ok d | none=>.bad)= .ok d:=em
     cases q:j5 key Z with
     | none=>rw[q] at em;cases em
     | some d0=>
      rw[q] at em;cases em;obtain ⟨p,L,M,J,h2,h3,E,D,S⟩:=r.IV R o;obtain ⟨U,ev,rv⟩:=(NP.look S).1 d q;refine ⟨.ref p,dU M,A,B,u,z,r,P,λv C H1 Y p1=>?_⟩;obtain ⟨b,rfl,nt⟩:=Rp.Wu p1 s;exact ⟨p,b,L,E,key,U,rfl,rfl,Y.hh _ _ J,D.keeps λ_ _ e=>(Y.aa.trans Y.ah).fZ e,nt.keeps λ_ _ e=>Y.ah.fZ e,ev,k _ C H1 Y (Rp.mono Y.aa _ rv)⟩
   | _=>cases em
noncomputable def abL(O:B9)(i:Nat):Bool:=(List.range O.length).all λj=>j == i || !decide (fl O j= .nst true)
theorem Ze(h:abL O i=true)(Z:i≠j):fl O j ≠ .nst true:=λz=>by
 have Y:j<O.length:=by
  rcases fx j O.length with z' | z'
  . exact z'
  . unfold fl at z;rw[ae,d3 z'] at z;cases z
 have:=gc.mp h j (er.mpr Y);rw[decide_eq_true z] at this;simp at this;exact Z this.symm
theorem YK(i:Nat)(hu:X.A.units+66<kb)(ha:QE X a (tE X.K O m))(he:QE X e (tE X.K O m'))(S:fl O i= .nst true:=by rfl)(p:abL O i=true:=by rfl)(C:Nm X i x:=by walk_at "nm")(hs:hV e (some (.Subscript (.Name x xp) a tpos)) pos.line X.env=pure false:=by rfl) :
 QS X (.Assign [.Subscript (.Name x xp) a tpos] e pos) (tS X.K rm Ol O O (Hk i m m')):=by
 refine QS.imp (aaJ hu (dO C.1 C.2 C.3 C.4) ha.h he.h hs) λD σ H s=>?_;obtain ⟨A,B,L,o,r,em,k⟩:=s;obtain ⟨d,e1,em⟩:=zi.aq em;obtain ⟨kd,e2,em⟩:=zi.aq em
 cases J:gv L i with
 | none=>rw[J] at em;cases em
 | some dl=>
  rw[J] at em
  cases dl with
  | dict E=>
   have Y:=em
   cases u:jD kd with
   | none=>rw[u] at Y;cases Y
   | some key=>
    rw[u] at Y;obtain ⟨⟨hz,M⟩,Y⟩:=bO Y;cases Y;obtain ⟨q,xs,R,I,h2,h3,us,h4,U⟩:=r.IV S J;refine ⟨A,B,L,d,r,e1,λv A1 H1 g1 p1=>⟨.ref q,dU R,A1,B,L,_,r.grow g1,e2,λw A2 H2 Q p2=>?_⟩⟩;have Z:=g1.trans Q;obtain ⟨b,rfl,nt⟩:=Rp.Wu p2 u;have l:=h4.keeps λ_ _ e=>Z.aa.fZ e;have P:NP X.K A2 E us:=Paired.sO U λ_ _ z=>⟨z.1,Rp.mono Z.aa _ z.2⟩;refine ⟨q,b,xs,us,key,rfl,rfl,Z.hh _ _ I,l.keeps λ_ _ e=>Z.ah.fZ e,nt.keeps λ_ _ e=>Z.ah.fZ e,by rw[<- i6.length U];exact hz,λrr hr=>?_⟩;exact k σ A2 _ ((r.grow Z).aeR S M R (Z.hh _ _ I) (Z.nw q h2 (by rw[I];simp)) h3 ⟨_,l.put key nt hr,NP.put u (Rp.mono Q.aa _ p1) P⟩ λj hj=>Ze p hj) Z.aa (Z.nB r.b)
  | _=>cases em
theorem Y9{st:Stmt}(i:Nat)(h:QS X st (tS X.K rm Ol O O1 (aU i (mG []))))(M:fl O1 i= .own:=by rfl)(P:i<O1.length:=by exact of_decide_eq_true rfl)(z:O1.set i (.nst true)=O2:=by rfl):QS X st (tS X.K rm Ol O O2 (aU i (mG []))):=by
 subst z;refine ⟨λZ s E H D I ⟨A,B,C,o,r,em,k⟩=>?_⟩;have v:=em;obtain ⟨d,L,em⟩:=zi.aq em;obtain ⟨j,em⟩:=bO em;cases em;cases L;refine thn (h.h Z s E H ⟨λY e=>∃p,e p=some (.dK [])/\D.nx Y (zw e p (iu p [])),D.rt,D.bk,D.ct⟩ I ⟨A,B,C,_,r,v,λY S e r' J nw=>?_⟩) λf s' q=>?_
 . obtain ⟨p,l,Q⟩:=r'.acu M P (by rw[gv,bF j]);exact ⟨p,l,k Y S _ Q J nw⟩
 . cases f with
   | next=>
    obtain ⟨Y,e,U,p,l,R⟩:=q;exact ⟨Y,_,adF U l,R⟩
   | brk=>exact q
   | cont=>exact q
   | ret u=>exact q
end
noncomputable def Hq(mk mv:ME):ME:=λΓ=>(mk Γ).bind λkd=>(mv Γ).bind λd=>match bJ kd with
 | some _=>.ok (.dict [(kd,d)])
 | none=>.bad
theorem YH{mk:ME}(R:QE X e (tE X.K O mk))(L:QE X tg (tE X.K O m)):QE X (.Dict [some e] [tg] pos) (tF X.K O (Hq mk m)):=
 QE.imp (Nk (wO R.h L.h Eb) rfl rfl (λz=>nomatch z) (by show 1<=15;decide)) λσ H Q l=>by
  obtain ⟨A,B,E,d,r,em,k⟩:=l;obtain ⟨I,e0,em⟩:=zi.aq em;obtain ⟨d1,M,em⟩:=zi.aq em
  cases Z:bJ I with
  | none=>rw[Z] at em;cases em
  | some key=>
   rw[Z] at em;cases em;intro p j;have C:aZ A H A (zw H p (.dK [])):=aZ.lay r.a j;refine ⟨A,B,E,I,r.grow C,e0,λkv U H1 u p1=>⟨U,B,E,d1,(r.grow C).grow u,M,λtg S H2 s P=>⟨(u.trans s).hh _ _ bc,[(key,tg)],by rw[Rp.key p1 Z];rfl,by show 1<=15;decide,?_⟩⟩⟩;have Y:=u.trans s;have v:=Y.4 p (r.a.free j) (by rw[bc];exact λz=>nomatch z);have gg:aZ A H S (zw H2 p (.dK (p8 [] [(key,tg)]))):=by
    refine ⟨Y.aa,λb o q=>?_,λb o q=>?_,λb J D=>?_⟩
    . have i:=cZ q j;rw[aH i];exact Y.hh _ _ (by rw[aH i];exact q)
    . have i:=cZ q v;rw[aH i];exact s.ah _ _ q
    . have i:b≠p:=λz=>D (z ▸ j);exact Y.4 b J (by rw[aH i];exact D)
   exact k _ _ _ gg ⟨p,_,rfl,j,bc,v,.inr ⟨_,[(key,tg)],rfl,rfl,bh.cons.mpr ⟨_,tg,[],rfl,Z,P,bh.nil.mpr rfl⟩⟩⟩
noncomputable def Ia(ds es:B4):B4:=(ds.zip es).map λp=>ab.tuple [p.1,p.2]
section
open Builtin Builtin.Str
section
variable   {A:gx}   {o J U c d q:Addr}{k:Nat}{us vs:Array bg}{u v m n:bg}
theorem M8{Q:Bool->cy->Prop}(Y:xl s.heap o J U .none)(Z:Q true s):de (dn prog w) A (Builtin.SmallTypes.ownedTupleIsFree (.ref o)) Q E s:=by
 exact af (kX Y rfl rfl (aS Z))
theorem YQ{r:Addr}{Q:Unit->cy->Prop}(i:xl s.heap o J U .ellipsis)(l:∀h',xl h' o J U (ia r)->jv o s.heap h'->Q () { s with heap:=h' }) :
 de (dn prog w) A (Builtin.SmallTypes.ownedTupleHandOut (.ref o) (.ref r)) Q E s:=by
 exact af (mr i (by simp) λu q Z=>mr (q) (by simp) λj p e=>l j p ⟨e.1.trans Z.1,λb Y=>(e.2 b Y).trans (Z.2 b Y)⟩)
theorem NZ{Q:B2}(Y:ZipApart o J U c d p q)(B:xl s.heap o J U .none)(hj:oj s.heap J (.ref c) (.ref d))(hu:oj s.heap U u v)
 (hc:s.heap.IsTupleIter c p k) (hd:s.heap.IsListIter d q k) (hp:s.heap.IsTuple p us) (hq:s.heap.IsList q vs) (hm:us[k]?=some m) (hn:vs[k]?=some n)
 (hQ:∀h',xl h' o J U (ia s.heap.objs.size)->oj h' U m n->h'.IsTupleIter c p (k+1)->h'.IsListIter d q (k+1)->oj h' s.heap.objs.size m n ->
  (∀b x,b≠o->b≠U->b≠c->b≠d->s.heap.get? b=some x->h'.get? b=some x)->Q (.ref s.heap.objs.size) { s with heap:=h' }) :
 de (dn prog w) A (Builtin.«zip.__next__» ⟨[.ref o],[]⟩) (λf t=>∃y,f= .done (.ret y)/\Q y t) E s:=by
 show de _ _ (field (.ref o) 2 >>= _) _ _ s;refine af (kX B rfl rfl (af (kX B rfl rfl (af (fv hj rfl ?_)))));refine af (M8 B (af (pE (af (kX B rfl rfl (af (mr B (by simp) λha I Z=>af ?_)))))));replace I:xl ha o J U .ellipsis:=I;refine af (af (wx (af (jq (hc.at λy e=>Z.extBut c y Y.i1z e) (let ⟨y,e,r⟩:=hp;⟨y,Z.extBut p y Y.l1z e,r⟩) hm λhb cb j=>aS ?_))));have S:=j.extBut U _ Y.TOi1 (Z.extBut U _ Y.TOz hu);refine af (fv S rfl (af (si S λhe H i=>af (qc (aS ?_)))));replace H:oj he U m v:=H;refine af (af (wx ?_));have kd:=λx e=>i.extBut d x Y.TOi2.symm (j.extBut d x Y.i12.symm (Z.extBut d x Y.i2z e));have kq:=λx e=>i.extBut q x Y.l2TO (j.extBut q x Y.l2i1 (Z.extBut q x Y.l2z e));refine af (wpAny_nextOf_list_item (hd.at kd) (let ⟨y,e,r⟩:=hq;⟨y,kq y e,r⟩) hn λhf df l=>aS ?_);have R:=l.extBut U _ Y.TOi2 H;refine af (fv R rfl (af (si R λO C z=>af (qc (aS (aS ?_))))));replace C:oj O U m n:=C;refine af (fv C rfl (af (wpAny_newTuple ?_)));have sz:O.objs.size=s.heap.objs.size:=by rw[z.1,l.1,i.1,j.1,Z.1]
 have L:=z.extBut o _ Y.TOz.symm (l.extBut o _ Y.i2z.symm (i.extBut o _ Y.TOz.symm (j.extBut o _ Y.i1z.symm I)));have kg:=λb x n1 n2 n3 D e=>z.extBut b x n2 (l.extBut b x D (i.extBut b x n2 (j.extBut b x n3 (Z.extBut b x n1 e))));have cg:=cb.at λy e=>z.extBut c y Y.TOi1.symm (l.extBut c y Y.i12 (i.extBut c y Y.TOi1.symm e));have dg:=df.at λy e=>z.extBut d y Y.TOi2.symm e;have lo:=cx L;refine af (YQ (ax _ L) λhl zl P=>aS ⟨_,rfl,?_⟩);have up:=λb x n1 e=>P.extBut b x n1 (ax _ e);have M:=P.extBut _ _ (nN lo) (cm _ rfl);rw[sz] at zl M;rw[sz];exact hQ hl zl (up U _ Y.TOz C) (cg.at λy e=>up c y Y.i1z e) (dg.at λy e=>up d y Y.i2z e) M λb x n1 n2 n3 D e=>up b x n1 (kg b x n1 n2 n3 D e)
theorem ab3{Q:Fin->cy->Prop}(hh:A.handled=none)(Y:ZipApart o J U c d p q)(B:xl s.heap o J U .none)(hj:oj s.heap J (.ref c) (.ref d))(hu:oj s.heap U u v)
 (hc:s.heap.IsTupleIter c p k) (hd:s.heap.IsListIter d q k) (hp:s.heap.IsTuple p us) (hq:s.heap.IsList q vs) (hx:us[k]?=none\/vs[k]?=none)
 (L:∀h' y,(∀b x,b≠o->b≠U->b≠c->b≠d->s.heap.get? b=some x->h'.get? b=some x)->(∃x,h'.get? y=some x/\x.cls= .type "StopIteration")->E (.ref y) { s with heap:=h' }) :
 de (dn prog w) A (Builtin.«zip.__next__» ⟨[.ref o],[]⟩) Q E s:=by
 show de _ _ (field (.ref o) 2 >>= _) _ _ s;refine af (kX B rfl rfl (af (kX B rfl rfl (af (fv hj rfl ?_)))));refine af (M8 B (af (pE (af (kX B rfl rfl (af (mr B (by simp) λR C l=>af ?_)))))));replace C:xl R o J U .ellipsis:=C;refine af (af (wx ?_));have ca:=hc.at λy e=>l.extBut c y Y.i1z e;have I:R.IsTuple p us:=let ⟨y,e,r⟩:=hp;⟨y,l.extBut p y Y.l1z e,r⟩;have out:∀{hr:Heap}{y:Addr}{x:Obj},hr.get? y=some x->x.cls= .type "StopIteration" -> xl hr o J U .ellipsis->y≠o:=λe cl z eq=>by
  rw[eq,z] at e;cases e;exact absurd cl (by show ¬ (h9 "zip"= h9 "StopIteration");decide)
 cases D:us[k]? with
 | none=>
  refine af (jQ hh ca I D λhb y i Z=>?_);obtain ⟨x,e,cl⟩:=Z;have M:=i o _ Y.i1z.symm C;exact mr M (by simp) λS _ j=>L S y (λb x n1 _ n3 _ e=>j.extBut b x n1 (i b x n3 (l.extBut b x n1 e))) ⟨x,j.extBut y x (out e cl M) e,cl⟩
 | some m=>
  have h1:=hx.resolve_left λz=>by rw[D] at z;cases z
  refine af (jq ca I D λhb cb i=>aS ?_);have ub:=i.extBut U _ Y.TOi1 (l.extBut U _ Y.TOz hu);refine af (fv ub rfl (af (si ub λS ue j=>af (qc (aS (af (af (wx ?_))))))));have kd:=λx e=>j.extBut d x Y.TOi2.symm (i.extBut d x Y.i12.symm (l.extBut d x Y.i2z e));have kq:=λx e=>j.extBut q x Y.l2TO (i.extBut q x Y.l2i1 (l.extBut q x Y.l2z e));refine af (wpAny_nextOf_list_end hh (hd.at kd) (let ⟨y,e,r⟩:=hq;⟨y,kq y e,r⟩) h1 λhf y H Z=>?_);obtain ⟨x,e,cl⟩:=Z;have O:=H o _ Y.i2z.symm (j.extBut o _ Y.TOz.symm (i.extBut o _ Y.i1z.symm C));exact mr O (by simp) λhg _ P=>L hg y (λb x n1 n2 n3 n4 e=>P.extBut b x n1 (H b x n4 (j.extBut b x n2 (i.extBut b x n3 (l.extBut b x n1 e))))) ⟨x,P.extBut y x (out e cl O) e,cl⟩
theorem QX(Z:ZipApart o J U c d p q)(Y:xl s.heap o J U .none)(r:oj s.heap J (.ref c) (.ref d))(z:oj s.heap U u v)
 (l:s.heap.IsTupleIter c p k) (hd:s.heap.IsListIter d q k) (C:s.heap.IsTuple p us) (i:s.heap.IsList q vs) (D:us[k]?=some m) (B:vs[k]?=some n)
 (j:∀h',xl h' o J U (ia s.heap.objs.size)->oj h' U m n->h'.IsTupleIter c p (k+1)->h'.IsListIter d q (k+1)->oj h' s.heap.objs.size m n ->
  (∀b x,b≠o->b≠U->b≠c->b≠d->s.heap.get? b=some x->h'.get? b=some x)->Q (some (.ref s.heap.objs.size)) { s with heap:=h' }) :
 de (dn prog w) A (wd (.ref o)) Q E s:=by
 have ty:s.TypeIs (.ref o) "zip" := ⟨_,Y,rfl⟩;have one:=NZ (prog:=prog) (w:=w) (A:=A) (E:=λe t=>False) Z Y r z l hd C i D B (Q:=λy t=>Q (some y) t) j;refine af (og (fm ty sP (fb sP ty F.entry_zip_next (NZ Z Y r z l hd C i D B λh' I P O L H M=>?_) (F.args_zip_next_1 _))));exact aS (j h' I P O L H M)
theorem S5(hh:A.handled=none)(Z:ZipApart o J U c d p q)(Y:xl s.heap o J U .none)(z:oj s.heap J (.ref c) (.ref d))(B:oj s.heap U u v)
 (r:s.heap.IsTupleIter c p k) (hd:s.heap.IsListIter d q k) (C:s.heap.IsTuple p us) (j:s.heap.IsList q vs) (i:us[k]?=none\/vs[k]?=none)
 (l:∀h',(∀b x,b≠o->b≠U->b≠c->b≠d->s.heap.get? b=some x->h'.get? b=some x)->Q none { s with heap:=h' }):de (dn prog w) A (wd (.ref o)) Q E s:=by
 have ty:s.TypeIs (.ref o) "zip" := ⟨_,Y,rfl⟩;refine af (og (fm ty sP (fb sP ty F.entry_zip_next (ab3 hh Z Y z B r hd C j i λh' y kp ⟨x,e,cl⟩=>?_) (F.args_zip_next_1 _))));exact af (ko ⟨x,e,cl⟩ uk (aS (l _ kp)))
end
noncomputable def ztA(h:Heap)(p:Addr):Heap:=h.push { cls:=.type "tuple_iterator",data:=.fields #[.ref p,.int 0 0] }
noncomputable def ztB(h:Heap)(p q:Addr):Heap:=(ztA h p).push { cls:=.type "list_iterator",data:=.fields #[.ref q,.int 0 0] }
noncomputable def ztC(h:Heap)(p q:Addr):Heap:=(ztB h p q).push { cls:=.type "tuple",data:=.seq #[.ref h.objs.size,.ref (ztA h p).objs.size] }
noncomputable def ztD(h:Heap)(p q:Addr):Heap:=(ztC h p q).push { cls:=.type "tuple",data:=.seq #[.none,.none] }
noncomputable def ztE(h:Heap)(p q:Addr):Heap:=(ztD h p q).push { cls:=.type "zip",data:=.fields #[.none,.bool false,.bool false,.ref (ztB h p q).objs.size,.ref (ztC h p q).objs.size] }
theorem Xv(p q:Addr)(i vs:Array bg):Meets (Builtin.«zip.__new__» ⟨[.type "zip",.ref p,.ref q],[]⟩) (λ_ R s=>s.heap.IsTuple p i/\s.heap.IsList q vs /\
 R (.ok (.ret (.ref (ztD s.heap p q).objs.size))) { s with heap:=ztE s.heap p q }):=
 .of_wp λprog w A R s Y=>by
  obtain ⟨r,e,h⟩:=Y;obtain ⟨hh,g,d,l,os⟩:=s;have Z:=sub_zip;have o:=r;have j:Heap.IsList (Shared.heap ⟨hh.push { cls:=.type "tuple_iterator",data:=.fields #[.ref p,.int 0 0] },g,d,l,os⟩) q vs:=e.push _
  wp_walk using ml o,vF j
  exact ⟨_,rfl,h⟩
theorem aaS{A:gx}{q:Array bg}{Q:B2}(C:s.heap.IsTuple p items)(z:s.heap.IsList l q)
 (go:∀h' N,N=s.heap.objs.size->xl h' (N+4) (N+2) (N+3) .none->oj h' (N+2) (.ref N) (.ref (N+1))->oj h' (N+3) .none .none->h'.IsTupleIter N p 0->h'.IsListIter (N+1) l 0 ->
  (∀b x,s.heap.get? b=some x->h'.get? b=some x)->Q (.ref (N+4)) { s with heap:=h' }):de (dn prog w) A (call (.type "zip") [.ref p,.ref l]) Q E s:=by
 have j:(ztA s.heap p).objs.size=s.heap.objs.size+1:=fF ..
 have Y:(ztB s.heap p l).objs.size=s.heap.objs.size+2:=(fF ..).trans (by rw[j]);have i:(ztC s.heap p l).objs.size=s.heap.objs.size+3:=(fF ..).trans (by rw[Y]);have u:(ztD s.heap p l).objs.size=s.heap.objs.size+4:=(fF ..).trans (by rw[i]);have Z:(ztE s.heap p l).get? (ztD s.heap p l).objs.size=some _:=cm _ rfl;have v:(ztE s.heap p l).get? (ztC s.heap p l).objs.size=some _:=ax _ (cm _ rfl);have r:(ztE s.heap p l).get? (ztB s.heap p l).objs.size=some _:=ax _ (ax _ (cm _ rfl));have o:(ztE s.heap p l).get? (ztA s.heap p).objs.size=some _:=ax _ (ax _ (ax _ (cm _ rfl)));have B:(ztE s.heap p l).get? s.heap.objs.size=some _:=ax _ (ax _ (ax _ (ax _ (cm _ rfl))));refine callType_new F.called_zip (by decide) (F.typeCall_zip_2 _ _) (F.newCall_zip_2 _ _) (λb=>F.args_object_init_3 b _ _) F.entry_zip_new (Xv p l items q) ⟨C,z,?_⟩;rw[Y,i,u] at Z;rw[i] at v;rw[j,Y] at r;rw[j] at o;rw[u];exact ⟨⟨_,Z,rfl⟩,go _ _ rfl Z r v ⟨_,B,rfl,rfl⟩ ⟨_,o,rfl,rfl⟩ λb x e=>ax _ (ax _ (ax _ (ax _ (ax _ e))))⟩
noncomputable def Xc(K:aE)(a b:Addr):It:=
 ⟨λi H=>∃xs ys x y,SqT K H a xs/\SqL K H b ys/\xs[i]?=some x/\ys[i]?=some y,
  λi H v H'=>∃p x y,H p=none/\v= .ref p/\H'=zw H p (.tup [x,y])/\(∀xs,SqT K H a xs->xs[i]?=some x)/\(∀ys,SqL K H b ys->ys[i]?=some y),
  λi H=>∃xs ys,SqT K H a xs/\SqL K H b ys/\(xs.length<=i\/ys.length<=i)⟩
theorem aaf{x1}(a b z TI TO j i2:Addr)(D:ZipApart z TI TO j i2 a b) :
 Turn P w K (.Tuple elts x1 tpos) (Xc K a b) [z,TI,TO,j,i2] z (λi h=>xl h z TI TO .none/\oj h TI (.ref j) (.ref i2)/\(∃u v,oj h TO u v)/\h.IsTupleIter j a i/\h.IsListIter i2 b i) where
 mem:=by simp
 obj:=λi h st c hc=>by
  obtain ⟨B,Y,⟨u,v,Z⟩,⟨o1,ho1,c1,d1⟩,o2,ho2,c2,d2⟩:=st;have O:c=z\/c=TI\/c=TO\/c=j\/c=i2:=by simpa using hc
  rcases O with rfl | rfl | rfl | rfl | rfl
  . exact ⟨_,B,λv z=>by cases z⟩
  . exact ⟨_,Y,λv z=>by cases z⟩
  . exact ⟨_,Z,λv z=>by cases z⟩
  . exact ⟨o1,ho1,λv z=>by rw[d1] at z;cases z⟩
  . exact ⟨o2,ho2,λv z=>by rw[d2] at z;cases z⟩
 keep:=λi h h' st k=>by
  obtain ⟨B,Y,⟨u,v,Z⟩,h1,h2⟩:=st;exact ⟨k z (by simp) _ B,k TI (by simp) _ Y,⟨u,v,k TO (by simp) _ Z⟩,h1.at λo q=>k j (by simp) o q,h2.at λo q=>k i2 (by simp) o q⟩
 item:=by
  intro X hP hw hK hc i y8 s σ H E I r st hg;subst hP hw hK;obtain ⟨B,Y,⟨u,v,Z⟩,M,J⟩:=st;obtain ⟨xs,ys,x,y,C,L,hx,hy⟩:=hg;obtain ⟨l,S,p1,_⟩:=I.tuple C;obtain ⟨its2,R,p2,_⟩:=I.list L;obtain ⟨u1,hu1,ru1⟩:=S.get hx;obtain ⟨u2,hu2,ru2⟩:=R.get hy;have fz:=r z (by simp);have fTI:=r TI (by simp);have fTO:=r TO (by simp);have f1:=r j (by simp);have f2:=r i2 (by simp);refine QX D B Y Z M J (show s.heap.IsTuple a l.toArray from p1) p2.isList (m:=u1) (n:=u2) (by simpa using hu1) (by simpa using hu2) λh' hz' aeV afa hi2' hN' hk=>?_;refine ⟨_,rfl,?_⟩;refine wpAny_letOwnedTupleGo_zip (s:={ s with heap:=h' }) hz' λh2 hz2 p=>?_;have hnew:H s.heap.objs.size=none:=I.zS.fresh (ay _);have hpz:s.heap.objs.size≠z:=nN (cx B);have hN2:oj h2 s.heap.objs.size u1 u2:=p.extBut _ _ hpz hN';have k2:∀c o,c≠z->c≠TO->c≠j->c≠i2->s.heap.get? c=some o->h2.get? c=some o:=λc o c1 c2 c3 c4 q=>p.extBut c o c1 (hk c o c1 c2 c3 c4 q);have Q:∀c o,s.heap.get? c=some o->c∉[z,TI,TO,j,i2]->h2.get? c=some o:=λc o q hc=>k2 c o (λe=>hc (by simp[e])) (λe=>hc (by simp[e])) (λe=>hc (by simp[e])) (λe=>hc (by simp[e])) q;have I2:=I.zB (tk:=s.toks) r Q hN2 rfl rfl ru1 ru2;refine ⟨.ref s.heap.objs.size,_,I2,rfl,⟨_,x,y,hnew,rfl,rfl,λys U=>by rw[I.xO U C];exact hx,λys' U=>by rw[I.vP U L];exact hy⟩,⟨hz2,?_,⟨_,_,p.extBut _ _ D.TOz aeV⟩,afa.at λo q=>p.extBut _ o D.i1z q,hi2'.at λo q=>p.extBut _ o D.i2z q⟩,λb hb=>?_⟩
  . exact k2 TI _ D.TIz D.TITO D.TIi1 D.TIi2 Y
  . have hb':=(r b hb).1;have:b≠s.heap.objs.size:=by
     have O:b=z\/b=TI\/b=TO\/b=j\/b=i2:=by simpa using hb
     rcases O with rfl | rfl | rfl | rfl | rfl
     . exact en (cx B)
     . exact en (cx Y)
     . exact en (cx Z)
     . obtain ⟨o,ho,_⟩:=M;exact en (cx ho)
     . obtain ⟨o,ho,_⟩:=J;exact en (cx ho)
    rw[aH this];exact hb'
 done:=by
  intro X hP hw hK hc i y8 s σ H E I r st hg;subst hP hw hK;obtain ⟨B,Y,⟨u,v,Z⟩,M,J⟩:=st;obtain ⟨xs,ys,C,L,hx⟩:=hg;obtain ⟨l,S,p1,_⟩:=I.tuple C;obtain ⟨its2,R,p2,_⟩:=I.list L;have l1:=S.length;have l2:=R.length;refine S5 (I.ok.hd hc) D B Y Z M J (show s.heap.IsTuple a l.toArray from p1) p2.isList (by
   rcases hx with h | h
   . exact .inl (by simp;lia)
   . exact .inr (by simp;lia)) λh' hk=>⟨rfl,?_⟩
  have Q:∀c o,s.heap.get? c=some o->c∉[z,TI,TO,j,i2]->h'.get? c=some o:=λc o q hc=>hk c o (λe=>hc (by simp[e])) (λe=>hc (by simp[e])) (λe=>hc (by simp[e])) (λe=>hc (by simp[e])) q;have ge:∀c o,H c=some o->c∉[z,TI,TO,j,i2]:=λc o q hc=>by rw[(r c hc).1] at q;cases q
  have un:Un (frs X.stack) [z,TI,TO,j,i2] H H s.heap h':=by
   refine ⟨λb o q n _ hc=>Q b o q hc,λb o q n _ hc=>⟨o.slots,Q b o q hc⟩,λb o q n hc=>n,λb o q hc=>⟨o,Q b o q hc⟩,λb ys q=>q,λb o y q=>q,λ_ _ q=>q⟩
  have zS:HOk X.prog X.w H h':=λb o q=>by
   refine (I.zS b o q).stay (λc v hc q'=>?_) (λc q'=>q') λc ys q'=>q';rcases hc with rfl | hc
   . exact Q c v q' (ge c _ q)
   . exact Q c v q' (ge c _ hc)
  exact I.call' rfl un zS I.bare λb hb=>by
   obtain ⟨f0,f1,f2,f3,f4,f5⟩:=r b hb;exact ⟨f3,f1,f4,f5⟩
 self:=λ_ _ _ _ _ st h=>wpAny_pyIter_zip st.1 h
def iZt(K:aE)(ta:TA):TI:=λσ H R=>ta σ H λvs H1=>∃a b xs ys,vs=[.ref a,.ref b]/\SqT K H1 a xs/\SqL K H1 b ys/\R (Xc K a b) H1
theorem adJ{x1}{O:TA}(hg:Gl X "zip")(hm:X.mg "zip"= none)(ha:PA X [a,b] O)(hs:dr [a,b] X.env=[(false,eval a X.env),(false,eval b X.env)]:=by rfl)(i:dr [b] X.env=[(false,eval b X.env)]:=by rfl) :
 PI X (.Tuple elts x1 tpos) (.Call (.Name "zip" pos') [a,b] [] pos) (iZt X.K O):=by
 intro j s σ H R I h;refine Call_ (lr I hg hm (show eI "zip"= some (.type "zip") by decide +kernel) (gy (thn (ha pos j s σ H _ I h) λus Y p=>?_) (by rw[hs,i]) (by rw[i];rfl)));obtain ⟨vs,H1,Z,r1,q1⟩:=p;obtain ⟨L,l2,xs,ys,e,E,D,q⟩:=q1;subst e
 cases r1 with
 | cons r z=>
  cases z with
  | cons r' z=>
   cases z;cases r;cases r';obtain ⟨U,rv1,Q,_⟩:=Z.tuple E;obtain ⟨S,rv2,M,_⟩:=Z.list D;have a1:L<Y.heap.objs.size:=by obtain ⟨o,e,_⟩:=Q;exact cx e
   have a2:l2<Y.heap.objs.size:=by obtain ⟨o,n,e,_⟩:=M;exact cx e
   refine aaS (Q) M.isList λh' N eN P B C J v k=>?_;subst eN;refine wpAny_pyIter_zip P ?_;have l:∀b,b∈[Y.heap.objs.size+4,Y.heap.objs.size+2,Y.heap.objs.size+3,Y.heap.objs.size,Y.heap.objs.size+1]->Y.heap.objs.size<=b:=λb u=>by
    simp only[b9,rX,or_false] at u;lia
   exact ⟨Y.heap.objs.size+4,[Y.heap.objs.size+4,Y.heap.objs.size+2,Y.heap.objs.size+3,Y.heap.objs.size,Y.heap.objs.size+1],_,_,H1,rfl,Z.kept k,aaf L l2 _ _ _ _ _ (zipApart_new a1 a2),⟨P,B,⟨_,_,C⟩,J,v⟩,λb u=>Z.qy (l b u) (Z.zS.fresh (l b u)),q⟩
end
noncomputable def Wz(m m':ME):MI:=λΓ=>(m Γ).bind λd=>(m' Γ).bind λe=>match d,e with
 | .tuple ds,.list es=>.ok (Ia ds es)
 | _,_=>.bad
section
variable     {p:Pos}   {es:B4}{ws:C0}{q q':Addr}
theorem adY(I:au K A ds vs)(e:au K A es ws)(r:∀H,aD A H->SqT K H q vs)(Z:∀H,aD A H->SqL K H q' ws):rY K A B (Xc K q q') (Ia ds es):=by
 have L:=I.length;have C:=e.length;have Q:(Ia ds es).length=min vs.length ws.length:=by rw[Ia,ag,List.length_zip,L,C]
 refine ⟨λi H Y E J=>?_,λH Y E=>⟨vs,ws,r H Y,Z H Y,by lia⟩,λi R H x P j Y E J y=>?_⟩
 . exact ⟨vs,ws,vs[i]'(by lia),ws[i]'(by lia),r H Y,Z H Y,av _,av _⟩
 . obtain ⟨p,v,w,u,rfl,rfl,y,M⟩:=y;obtain ⟨d,O,rd⟩:=I.get (y vs (r H (j.trans Y)));obtain ⟨s,D,l⟩:=e.get (M ws (Z H (j.trans Y)));have g:=aZ.new (o:=.tup [v,w]) Y u;refine ⟨_,.tuple [d,s],?_,g,Rp.tuple.mpr ⟨p,_,rfl,SqT.of bc,au.cons.mpr ⟨_,_,rfl,Rp.mono (j.trans g.aa) d rd,au.one (Rp.mono (j.trans g.aa) s l)⟩⟩⟩;rw[Ia,ba,List.getElem?_zip_eq_some (z:=(d,s)).mpr ⟨O,D⟩];rfl
theorem Y8{x1}(E:Gl X "zip")(I:X.mg "zip"= none)(S:QE X a (tE X.K O m))(D:QE X b (tE X.K O m'))(hs:dr [a,b] X.env=[(false,eval a X.env),(false,eval b X.env)]:=by rfl)(Y:dr [b] X.env=[(false,eval b X.env)]:=by rfl):QI X (.Tuple elts x1 tpos) (.Call (.Name "zip" p) [a,b] [] pos) (tI X.K O (Wz m m')):=
 QI.imp (adJ E I (bN S.h (bN D.h eQ Y) (by rw[hs,Y])) hs Y) λσ H R e=>by
  obtain ⟨A,B,o,xs,r,em,k⟩:=e;obtain ⟨d,J,em⟩:=zi.aq em;obtain ⟨d',Q,em⟩:=zi.aq em
  cases d with
  | tuple ds=>
   cases d' with
   | list es=>
    cases em;refine ⟨A,B,o,_,r,J,λv C H1 u U=>⟨C,B,o,_,r.grow u,Q,λv' A2 H2 i M=>?_⟩⟩;obtain ⟨q,P,rfl,l,L⟩:=Rp.tuple.mp (Rp.mono i.aa _ U);obtain ⟨z,ws,rfl,Z,j⟩:=Rp.list.mp M;exact ⟨q,z,P,ws,rfl,i.ah.fZ l,i.ah.seq Z,k _ A2 H2 (u.trans i) (adY L j (λH s=>s.fZ l) λH s=>s.seq Z)⟩
   | _=>cases em
  | _=>cases em
end
section
variable     {p p2 pos2:Pos}
noncomputable def ud:B4->zi ab
 | [.dict y9]=>.ok (.int y9.length)
 | _=>.bad
theorem bh.len:∀{y9:B0}{u:A8},bh K A y9 u->y9.length=u.length
 | [],u,h=>by rw[bh.nil.mp h];rfl
 | (k,d)::r,u,h=>by
  obtain ⟨key,v,Y,rfl,_,_,h⟩:=bh.cons.mp h;rw[bo,bo,bh.len h]
theorem Fi:fD X (.builtin "len") (rC X.K ud):=by
 rintro Y s L H J E Q I r ⟨A,o,d,e,Z,p,k⟩
 match o,e with
 | [.dict y9],e=>
  cases e;obtain ⟨v,M,rfl,B,i⟩:=p.cons;obtain rfl:=i.nil;obtain ⟨l,u,rfl,q,C⟩:=B.dict Z;obtain ⟨z,rfl,j⟩:=vals1 r;cases j;exact adE I q λt O D=>⟨.int y9.length,H,D,⟨t,by rw[C.len]⟩,k _ A H (aZ.refl Z) (Rp.int.mpr rfl)⟩
end
theorem len0{α:Type}{P:List α->Prop}(h:P [])(us:List α)(e:us.length=0):P us:=by
 rw[ip.mp e];exact h
theorem abn{α:Type}{P:List α->Prop}(h:∀Y,P [Y])(us:List α)(e:us.length=1):P us:=by
 cases us with
 | nil=>cases e
 | cons a r=>exact len0 (P:=λr=>P (a::r)) (h a) r (Nat.succ.inj e)
theorem acL{α:Type}{P:List α->Prop}(h:∀Y Z,P [Y,Z])(us:List α)(e:us.length=2):P us:=by
 cases us with
 | nil=>cases e
 | cons a r=>exact abn (P:=λr=>P (a::r)) (λb0=>h a b0) r (Nat.succ.inj e)
theorem ab6{α:Type}{P:List α->Prop}(h:∀Y Z i,P [Y,Z,i])(us:List α)(e:us.length=3):P us:=by
 cases us with
 | nil=>cases e
 | cons a r=>exact acL (P:=λr=>P (a::r)) (λb0 b1=>h a b0 b1) r (Nat.succ.inj e)
theorem afd{α:Type}{P:List α->Prop}(h:∀Z i j Y,P [Z,i,j,Y])(us:List α)(e:us.length=4):P us:=by
 cases us with
 | nil=>cases e
 | cons a r=>exact ab6 (P:=λr=>P (a::r)) (λb0 b1 l=>h a b0 b1 l) r (Nat.succ.inj e)
theorem abv{st:Stmt}(h:∀(kV Y pm:bg) (e:C3) (Z ct:bg) (i:bg),kA (eJ x x (cC st) (bK st) (aM st) .none kV Y pm e Z ct) ⟨[i],[]⟩=pure (ps.zip [i]))(l:ps.length=1) :
 ∀(kV Y pm:bg) (e:C3) (Z ct:bg) (us:B8),us.length=ps.length->kA (eJ x x (cC st) (bK st) (aM st) .none kV Y pm e Z ct) ⟨us,[]⟩=pure (ps.zip us):=λkV Y pm e Z ct us j=>
 abn (P:=λus=>kA (eJ x x (cC st) (bK st) (aM st) .none kV Y pm e Z ct) ⟨us,[]⟩=pure (ps.zip us)) (h kV Y pm e Z ct) us (j.trans l)
theorem WK{st:Stmt}(h:∀(kV Y pm:bg) (e:C3) (Z ct:bg) (i j:bg),kA (eJ x x (cC st) (bK st) (aM st) .none kV Y pm e Z ct) ⟨[i,j],[]⟩=pure (ps.zip [i,j]))(o:ps.length=2) :
 ∀(kV Y pm:bg) (e:C3) (Z ct:bg) (us:B8),us.length=ps.length->kA (eJ x x (cC st) (bK st) (aM st) .none kV Y pm e Z ct) ⟨us,[]⟩=pure (ps.zip us):=λkV Y pm e Z ct us l=>
 acL (P:=λus=>kA (eJ x x (cC st) (bK st) (aM st) .none kV Y pm e Z ct) ⟨us,[]⟩=pure (ps.zip us)) (h kV Y pm e Z ct) us (l.trans o)
theorem abo{st:Stmt}(h:∀(kV Y pm:bg) (e:C3) (Z ct:bg) (i j l:bg),kA (eJ x x (cC st) (bK st) (aM st) .none kV Y pm e Z ct) ⟨[i,j,l],[]⟩=pure (ps.zip [i,j,l]))(p:ps.length=3) :
 ∀(kV Y pm:bg) (e:C3) (Z ct:bg) (us:B8),us.length=ps.length->kA (eJ x x (cC st) (bK st) (aM st) .none kV Y pm e Z ct) ⟨us,[]⟩=pure (ps.zip us):=λkV Y pm e Z ct us o=>
 ab6 (P:=λus=>kA (eJ x x (cC st) (bK st) (aM st) .none kV Y pm e Z ct) ⟨us,[]⟩=pure (ps.zip us)) (h kV Y pm e Z ct) us (o.trans p)
theorem acK{st:Stmt}(h:∀(kV Y pm:bg) (e:C3) (Z ct:bg) (i j o l:bg),kA (eJ x x (cC st) (bK st) (aM st) .none kV Y pm e Z ct) ⟨[i,j,o,l],[]⟩=pure (ps.zip [i,j,o,l]))(q:ps.length=4) :
 ∀(kV Y pm:bg) (e:C3) (Z ct:bg) (us:B8),us.length=ps.length->kA (eJ x x (cC st) (bK st) (aM st) .none kV Y pm e Z ct) ⟨us,[]⟩=pure (ps.zip us):=λkV Y pm e Z ct us p=>
 afd (P:=λus=>kA (eJ x x (cC st) (bK st) (aM st) .none kV Y pm e Z ct) ⟨us,[]⟩=pure (ps.zip us)) (h kV Y pm e Z ct) us (p.trans q)
def Fnd(K:aE)(x:Str)(st:Stmt):Prop:=∃(f:Addr) (oc:bg) (od an:C3) (sl:Array B7) (kV doc pm zh ct:bg),j2 K ff x=some (some (.ref f)) /\
 K.lookup f=some ⟨oc,od,.func (eJ x x (cC st) (bK st) (aM st) .none kV doc pm an zh ct),sl⟩/\md K zh x=true/\kU K (.ref f)=true
theorem Fnd.mk{st:Stmt}{o:bg}{i e:C3}{j:Array B7}{kV Z pm Y ct:bg}(a:j2 K ff x=some (some (.ref p)))
 (l:K.lookup p=some ⟨o,i,.func (eJ x x (cC st) (bK st) (aM st) .none kV Z pm e Y ct),j⟩) (c:md K Y x=true) (k:kU K (.ref p)=true):Fnd K x st:=⟨_,_,_,_,_,_,_,_,_,_,a,l,c,k⟩
theorem Fnd.at{st:Stmt}(F:Fnd K x st)(X:K.In h)(G:h.Ns ff mg)
 (b:∀(kV Y pm:bg) (e:C3) (Z ct:bg) (us:B8),us.length=ps.length->kA (eJ x x (cC st) (bK st) (aM st) .none kV Y pm e Z ct) ⟨us,[]⟩=pure (ps.zip us):=by first | exact abv (by intros;rfl) rfl | exact WK (by intros;rfl) rfl | exact abo (by intros;rfl) rfl | exact acK (by intros;rfl) rfl):At K mg x st ps:=by
 obtain ⟨f,o,j,e,i,kV,Y,pm,Z,ct,a,l,c,k⟩:=F;exact At.mk' (i9 X G a) l c k b
theorem sck{P:B6}{sc:tJ}(a:sc.kind= .function:=by rfl)(b:sc.isCoroutine=false:=by rfl)(c:sc.isGenerator=false:=by rfl)(d:N.Nodup:=by decide +kernel)(e:N.take P.length=P:=by rfl)
 (f:∀x∈P,sc.names.lookup x=some .local\/sc.names.lookup x=some .cell:=by decide +kernel) (g:∀y∈sc.names,y.2 ≠ .free:=by decide +kernel):cL N P sc:=⟨a,b,c,d,e,f,g⟩
section
variable      {s1 s2 mb:MS}{iter:Expr}{es:C1}{st:Stmt}{rest body:C4}{p:Pos}{it:MI}{g:MG}{gs:List MG}{mc:ME}{is js:B5}{k n:Nat}   {fs:B9}{f:B4->zi ab}
theorem bx(Y:QS X st (tS K rm Ol O O s1))(Z:QSs X rest (tS K rm Ol O O2 s2)):QSs X (st::rest) (tS K rm Ol O O2 (aG s1 s2)):=aW Y Z
theorem tX(Y:QG X e (tG X.K O O is g))(Z:QGs X es (tGs X.K O O2 js gs))(hs:(nr (e::es) X.env).map (·.2)=assign e X.env::(nr es X.env).map (·.2):=by rfl):QGs X (e::es) (tGs X.K O O2 (is++js) (g::gs)):=Br Y Z hs
theorem gk(cl:B5)(e:QI X tg iter (tI X.K O it))(Z:QG X tg (tG X.K O O is g))(Y:QSs X body (tS X.K rm O O O mb))(l:tz (dn X.prog X.w) X.A X.env X.xe:=by exact fk)(j:X.calm=true:=by rfl)(i:pO O O cl=true:=by decide)
 (hs:∀x,iP iter X.env x=pure x:=by intro _;rfl):QS X (.For tg iter body [] pos) (tS X.K rm Ol O O (cH it g cl mb)):=iD l j cl e Z Y i hs
theorem ad3(fuel:Nat)(cl:B5)(Y:QT X c (tT X.K O mc))(Z:QSs X body (tS X.K rm O O O mb))(e:tz (dn X.prog X.w) X.A X.env X.xe:=by exact fk)(i:pO O O cl=true:=by decide):QS X (.While c body [] pos) (tS X.K rm Ol O O (mZ fuel mc cl mb)):=HD e fuel cl Y Z i
theorem bC(i:Nat)(o:X.N.Nodup)(Y:QE X e (tE K O m))(Z:X.N[i]?=some x:=by rfl)(l:Loc X.env.scope x:=by first | exact .inl rfl | exact .inr rfl)(j:i<O.length:=by exact of_decide_eq_true rfl)(hs:hV e (some (.Name x pos')) pos.line X.env=pure false:=by rfl)
 (q:X.fn x=true\/X.env.scope.names.lookup x=some .local:=by walk_at "hf") (p:O.set i .zD=O2:=by rfl):QS X (.Assign [.Name x pos'] e pos) (tS K rm Ol O O2 (aU i m)):=adh i o Z l Y j hs q p
theorem eE(i:Nat)(o:X.N.Nodup)(Y:QE X e (tF K O m))(Z:X.N[i]?=some x:=by rfl)(l:Loc X.env.scope x:=by first | exact .inl rfl | exact .inr rfl)(j:i<O.length:=by exact of_decide_eq_true rfl)(hs:hV e (some (.Name x pos')) pos.line X.env=pure false:=by rfl)
 (q:X.fn x=true\/X.env.scope.names.lookup x=some .local:=by walk_at "hf") (p:O.set i .own=O2:=by rfl):QS X (.Assign [.Name x pos'] e pos) (tS K rm Ol O O2 (aU i m)):=aaV i o Z l Y j hs q p
theorem gY(Z:QE X a (tP X.K O m1))(Y:QE X b (tP X.K O m2))(hs:lH b:=by exact λ_ _=>rfl):QE X (.Subscript a b pos) (tE X.K O (ao zI m1 m2)):=Yy Z Y hs
theorem sI{i:Int}:QE X (.Constant (.int i) j pos) (tP K O (eC (.int i))):=sp fJ
theorem lM{i:Int}(Y:QA X es (tAi K O ms)):QA X (.Constant (.int i) j pos::es) (tAi K O (eC (.int i)::ms)):=aJ fJ Y
theorem aN(i:Nat)(Y:QA X es (tAr X.K O fs ms))(Z:Nm X i x:=by walk_at "nm")(e:isX (fl O i)=false:=by rfl):QA X (.Name x p::es) (tAr X.K O (.zC::fs) (aj i::ms)):=bz (az i Z e) Y
theorem sx(i:Nat){k:Int}(Y:Nm X i x:=by walk_at "nm")(Z:isX (fl O i)=false:=by rfl)(hs:lH (.Constant (.int k) j pos'):=by exact λ_ _=>rfl) :
 QE X (.Subscript (.Name x p) (.Constant (.int k) j pos') pos) (tE X.K O (ao zI (aj i) (eC (.int k)))):=Yy (az i Y Z) (sp fJ) hs
theorem cW(i:Nat)(e:X.N.Nodup)(Z:X.N[i]?=some x:=by rfl)(o:Loc X.env.scope x:=by first | exact .inl rfl | exact .inr rfl)(j:i<O.length:=by exact of_decide_eq_true rfl)(Y:X.fn x=true\/X.env.scope.names.lookup x=some .local:=by walk_at "hf")(l:O.set i .zD=O2:=by rfl) :
 QG X (.Name x p) (tG X.K O O2 [i] (gN i)):=cY i e Z o j Y l
theorem dH{f:C7}(Y:OpR X (fR op) (rD K f))(i:QE X a (tP K O m1))(Z:QE X b (tP K O m2))(e:oe op b=false:=by exact u9 _):QT X (.Compare a [op] [b] pos) (tT K O (ao f m1 m2)):=n6 Y i Z e
theorem bD(F:Def X.prog X.w X.K X.mg X.base k x ps (spF X.K fs .f f))(i:dJ n X.A)(q:QA X (e::es) (tAr X.K O fs ms))(o:k<=n:=by decide)(l:Gl X x:=by rfl)(Y:nD x:=by decide)
 (j:As e=true:=by rfl) (Z:iz es=true:=by rfl):QE X (.Call (.Name x p) (e::es) [] pos) (tE X.K O (aF f ms)):=jZ F (i.mono o) l q Y j Z
theorem ou(F:Def X.prog X.w X.K X.mg X.base k x ps (spF X.K fs .t f))(i:dJ n X.A)(q:QA X (e::es) (tAr X.K O fs ms))(o:k<=n:=by decide)(l:Gl X x:=by rfl)(Y:nD x:=by decide)
 (j:As e=true:=by rfl) (Z:iz es=true:=by rfl):QE X (.Call (.Name x p) (e::es) [] pos) (tF X.K O (aF f ms)):=DY F (i.mono o) l q Y j Z
end
section
variable     {base:Heap}
theorem bL{k:Nat}{m:MS}(st:Stmt)(N:B6)(O:B9)(F:At K mg x st ps)
 (hbody:∀{f:Addr}{Y:bg}{A:gx}{AA:C5}{s:cy}{H:Hp}{E:XK},N.Nodup->dJ k (A.deeper (oy x (aM st) s.heap.objs.size f Y)) ->
  QSs (mK CX0 P w K mg base N x (aM st) f Y A AA s H E).nox (bK st) (tS K rm [] O [] m)) (S:cL N ps (aM st):=by exact sck) (e:Ol.length=ps.length:=by rfl) (l:ps.length<=N.length:=by decide)
 (Z:∀i,i<Ol.length->(fl O i= .zD/\fl Ol i= .zD)\/fl O i= .zC:=by decide):Def P w K mg base (k+1) x ps (spF K Ol rm (fnR N.length m)):=ach F S e l Z λ_ _ _ _ _ _ _ j=>hbody S.nd j
end
end Zq
namespace PySem
open Sem (wp)
end PySem
namespace Zq
open PySem PySem.Spec PyProof.Rows
noncomputable def uh(c:ME)(cl:B5)(b:MS)(zb:MZ):Nat->MZ
 | 0,_=>.bad
 | n+1,Γ=>(c Γ).bind λx=>match x with
  | .bool true=>(match b Γ with
   | .ok (.nx Γ2)=>uh c cl b zb n (clr cl Γ2)
   | _=>zb Γ)
  | _=>.bad
noncomputable def adf(fuel:Nat)(c:ME)(cl:B5)(b:MS)(zb:MZ):MZ:=λΓ=>uh c cl b zb fuel Γ
variable {P:gi}{w:kz}{K:aE}{mg:Str->B7}{a:Addr}
theorem Sh{mb:Str->B7}{CX:CXT}{k:Nat}{fa:Addr}{fd:nz}{x:Str}{sp:Sp}{s₁:cy}{I:B8}{ns:B3}
 (KX:K.In s₁.heap) (Q:s₁.heap.Ns ff mg) (Z:s₁.heap.Ns pz mb) (hbb:∀x:Str,x ≠ "__name__" -> mb x=eI x) (M:s₁.heap.NoLimit) (hg:s₁.gens=#[]) (hbm:∃D l,mg "__builtins__"= some (.ref D)/\D≠pz/\s₁.heap.get? D=some l/\l.cls= .type "module" /\ l.dict=some pz/\l.data= .plain)
 (hT:∀T,TabAt K mg T->s₁.heap.get? T=some { cls:=.none,data:=.fields #[] }/\K.lookup T=none)
 (J:s₁.heap.get? a=some { cls:=.type "list",data:=.seq I.toArray }) (hi:nc I ns) (hl:ns.length<=bt) (hr:dJ k yB)
 (F:∀base:Heap,K.In base->base.Ns ff mg->rM P w K mg base CX k fa fd [x] sp) (E:∀(s:cy) (u:bg),BindsTo s fd ⟨[u],[]⟩ [(x,u)])
 (hsp:∀H:Hp,SqL K H a (ns.map V.int)->sp [.ref a] H (λv _=>v= .bl true) λ_ _ _=>False)
 (hCX:∀H e s',CX [] H s₁ (λ_ _ _=>False) e s'->False) :
 sd (dn P w) yB (.call (.ref fa) ⟨[.ref a],[]⟩) (λr s'=>r= .ok (.ret (.bool true))/\OldK s₁.heap s'.heap/\s'.os=s₁.os/\vr s'.gens) s₁:=by
 have rv:=Gv hi;have S:=hi.length;have aT:∀T,TabAt K mg T->T≠a:=λT h z=>by
  have:=(hT T h).1;rw[z,J] at this;cases this
 have p:∀H:Hp,(∀b,H b=none\/(∃o xs,H b=some (.frz o (.lst xs)))\/(H b=some (.tbl ji)/\TabAt K mg b))->(∀T,TabAt K mg T->H T=some (.tbl ji))->SqL K H a (ns.map V.int)->HOk P w H s₁.heap->(∀b,H b≠none->b=a\/TabAt K mg b)->(H a≠none->K.lookup a=none) ->
  sd (dn P w) yB (.call (.ref fa) ⟨[.ref a],[]⟩) (λr s'=>r= .ok (.ret (.bool true))/\OldK s₁.heap s'.heap/\s'.os=s₁.os/\vr s'.gens) s₁:=by
  intro H hO hTT hS zS hA hK;have Y:∀{b:Addr}{o:Obj},s₁.heap.get? b=some o->H b=none->(xP s₁.heap H).get? b=some o:=λe n=>V3 e n;have noA:∀{b:Addr}{o:Obj}{es:Array qa}{ep:Nat},s₁.heap.get? b=some o->o.data= .dict es ep->H b=none:=λ{b o es ep} e d=>by
   cases q:H b with
   | none=>rfl
   | some u=>
    rcases hA b (by rw[q];simp) with e' | e'
    . subst e';rw[J] at e;cases e;have d':=d;cases d'
    . rw[(hT b e').1] at e;cases e;have d':=d;cases d'
  have i:∀{b:Addr}{m:Str->B7},s₁.heap.Ns b m->(xP s₁.heap H).Ns b m:=λ{b m} ⟨o,es,ep,e,d,r⟩=>⟨o,es,ep,Y e (noA e d),d,r⟩;have L:=λb o e=>Y (KX b o e) (by
   cases q:H b with
   | none=>rfl
   | some u=>
    rcases hA b (by rw[q];simp) with e' | e'
    . subst e';rw[hK (by rw[q];simp)] at e;cases e
    . rw[(hT b e').2] at e;cases e)
  have hM:Mod K mg (xP s₁.heap H):=⟨L,i Q,⟨mb,i Z,hbb⟩,let ⟨mc,h1,h2⟩:=M;⟨mc,i h1,h2⟩,by
   obtain ⟨D,l,b1,b2,O,R,b5⟩:=hbm;refine ⟨D,l,b1,b2,Y O ?_,R,b5⟩
   cases q:H D with
   | none=>rfl
   | some u=>
    rcases hA D (by rw[q];simp) with e' | e'
    . rw[e',J] at O;cases O;have R:=R;injection R with z;exact absurd z (by decide)
    . rw[(hT D e').1] at O;cases O;cases R⟩
  have e0:QD P w K mg (xP s₁.heap H) yB [] s₁ H:=⟨rfl,hM,λb o e=>aaZ e,Nat.le_of_eq (SX _ _),trivial,λb Z=>absurd (show b∈([]:C2) from Z) (by simp),zS,.of_eq hg,hTT⟩;refine tj ((F _ L (i Q)).run yB [] s₁ H ⟨[.ref a],[]⟩ [.ref a] [.ref a] _ _ hr e0 (E s₁ (.ref a)) (.cons rfl .nil) (hsp H hS)) λr s' h=>?_
  cases r with
  | error e=>exact (hCX H e s' h).elim
  | ok fl=>
   cases fl with
   | next=>exact lb h
   | brk=>exact lb h
   | cont=>exact lb h
   | ret u=>
    obtain ⟨v,H',os,bare,un,C,r',q⟩:=h;have q':=q;subst q';obtain rfl:u=bg.bool true:=r';have tabs:∀b,H b=some (.tbl ji)->∃U,s'.heap.get? b=some { cls:=.none,data:=.fields U }:=λb z=>by
     obtain ⟨U,e,_⟩:=C b _ (un.lg b _ z);exact ⟨U,e⟩
    refine ⟨rfl,⟨λb o e=>?_,λb o e=>un.there b o e (by simp)⟩,os,bare⟩
    cases q:H b with
    | none=>exact .inl (un.keep b o e q (by intro z;exact absurd (show b∈([]:C2) from z) (by simp)) (by simp))
    | some u=>
     rcases hO b with z | ⟨l,xs,z⟩ | ⟨z,zt⟩
     . rw[q] at z;cases z
     . have z2:=un.mF b l _ z;obtain ⟨e1,_⟩:=zS b _ z;obtain ⟨e2,_⟩:=C b _ z2;rw[e] at e1;cases e1;exact .inl e2
     . obtain ⟨U,e2⟩:=tabs b z;have e3:=(hT b zt).1;rw[e] at e3;cases e3;obtain ⟨f,o,fd',c,t1,t2,t3,t4,t5⟩:=zt;obtain ⟨oc,vc,_,_,_,_,_,_,_,c1,c2,c3,c4,_⟩:=PySem.W.codeHd_of_K KX t5;exact .inr (.inl ⟨⟨c,oc,vc,c1,c2,c3,c4⟩,rfl,#[],U,rfl,by rw[Array.empty_append];exact e2⟩)
 have B:∀T,TabAt K mg T->∀H:Hp,gh P w H s₁.heap T (.tbl ji):=λT h H=>⟨#[],(hT T h).1,trivial,λpos cv z=>nomatch z⟩;have dec:∀T,Decidable (TabAt K mg T):=λT=>Classical.propDecidable _
 cases hk:K.lookup a with
 | some o=>
  have e:=KX a o hk;rw[J] at e;cases e;refine p (λb=>if TabAt K mg b then some (.tbl ji) else none) (λb=>?_) (λT h=>if_pos h) (.inr ⟨_,I.toArray,_,hk,rfl,rfl,rfl,by rw[dA,S];exact hl,by simpa using rv⟩) (λb u z=>?_) (λb z=>?_) λz=>?_
  . by_cases h:TabAt K mg b
    . exact .inr (.inr ⟨if_pos h,h⟩)
    . exact .inl (if_neg h)
  . by_cases h:TabAt K mg b
    . have j:=(if_pos h).symm.trans z;cases j;exact B b h _
    . have j:=(if_neg h).symm.trans z;cases j
  . by_cases h:TabAt K mg b
    . exact .inr h
    . exact absurd (if_neg h) z
  . exact absurd (if_neg λh=>aT a h rfl) z
 | none=>
  refine p (λb=>if b=a then some (.frz { cls:=.type "list",data:=.seq I.toArray } (.lst (ns.map V.int))) else if TabAt K mg b then some (.tbl ji) else none) (λb=>?_) (λT h=>(if_neg (aT T h)).trans (if_pos h)) (.inl (.inr ⟨{ cls:=.type "list",data:=.seq I.toArray },if_pos rfl⟩)) (λb u z=>?_) (λb z=>?_) λ_=>hk
  . by_cases Z:b=a
    . exact .inr (.inl ⟨_,_,if_pos Z⟩)
    . by_cases h:TabAt K mg b
      . exact .inr (.inr ⟨(if_neg Z).trans (if_pos h),h⟩)
      . exact .inl ((if_neg Z).trans (if_neg h))
  . by_cases Z:b=a
    . have j:=(if_pos Z).symm.trans z;cases j;subst Z;exact ⟨J,by rw[ag];exact hl,I,_,rv,J⟩
    . by_cases h:TabAt K mg b
      . have j:=((if_neg Z).trans (if_pos h)).symm.trans z;cases j;exact B b h _
      . have j:=((if_neg Z).trans (if_neg h)).symm.trans z;cases j
  . by_cases Z:b=a
    . exact .inl Z
    . by_cases h:TabAt K mg b
      . exact .inr h
      . exact absurd ((if_neg Z).trans (if_neg h)) z
variable {c:Addr}
theorem Qd{P Q:Addr}(h:iL K c P=true)(g:iL K c Q=true):P=Q:=by
 unfold iL at h g;split at h
 . rename_i j _ i;rw[i] at g;simp only[dQ] at h g;have Y:=h.1.1.1.1.1;have Z:=g.1.1.1.1.1;split at Y
   . rename_i l e;rw[e] at Z;exact (beq_iff_eq.mp Y).symm.trans (beq_iff_eq.mp Z)
   . cases Y
 . cases h
noncomputable def qg(K:aE)(f P:Addr):Bool:=(match K.lookup f with
 | some ⟨_,_,.func fd,_⟩=>(match fd.code with
  | .ref c=>iL K c P
  | _=>false)
 | _=>false)&&(K.lookup P).isNone
theorem aaE{P:Addr}(p:mg "ways"= some (.ref a))(h:qg K a P=true):∀T,TabAt K mg T->T=P/\K.lookup T=none:=by
 rintro T ⟨v,o,fd,c,i,l,Z,q,j⟩;rw[p] at i;cases i;unfold qg at h;rw[dQ] at h;obtain ⟨Y,r⟩:=h;rw[l] at Y;obtain ⟨B,z,u,s⟩:=o;have Z:=Z;subst Z;have Y:(match fd.code with
  | .ref c=>iL K c P
  | _=>false)=true:=Y
 rw[q] at Y;have e:=Qd j Y;subst e;exact ⟨rfl,by simpa using r⟩
variable {T:Addr}{x:Str}
theorem U4{l:xw}{n k:Nat}{q:gi}{j:B6}{XP:(Str->B7)->Heap->Prop}{d:DefRec}{K:Params->aE}{as:C2}{e:∀P,as=(K P).map (·.1)}{CX:kz->CXT}{sp:kz->Sp}
 (Q:l.most=some n) (C:n<=bt) (I:d.params.defaults=[]) (hr:dJ k yB)
 (F:∀(w:kz) (mg:Str->B7) (z:Addr) (h:Heap),(K w.params).In h->h.Ns ff mg->mg d.name=some (.ref z) ->
  ∃fd:nz,(∀(s:cy) (u:bg),BindsTo s fd ⟨[u],[]⟩ [(x,u)])/\(∃f,mg "ways"= some (.ref f)/\qg (K w.params) f T=true) /\
   ∀base:Heap,(K w.params).In base->base.Ns ff mg->rM l.prog w (K w.params) mg base (CX w) k z fd [x] (sp w))
 (E:∀(w:kz) (H:Hp) (a:Addr) (ns:B3),ns.length<=n->SqL (K w.params) H a (ns.map V.int)->sp w [.ref a] H (λv _=>v= .bl true) λ_ _ _=>False)
 (D:∀(w:kz) (H:Hp) (s:cy) (e:bg) (s':cy),CX w [] H s (λ_ _ _=>False) e s'->False) :
 PySem.W.WalkO q j XP (PySem.W.kmHook K as e [T]).says l.row.toRowW d [] (λf vs=>PySem.call f vs):=by
 refine Att.Ls Q I λw s₀ p mg mb z o pm cd doc a vs ns G Y ho hd M B r i Z O=>?_;have J:=PySem.W.km_in_of Y;obtain ⟨fd,L,⟨f,hf,U⟩,R⟩:=F w mg z _ J G.T.g B;refine Sh J G.T.g G.T.b G.T.builtins G.T.nolimit O G.T.bmain (λP h=>?_) r i (cS Z C) hr R L (λH hS=>E w H a ns Z hS) λH e s'=>D w H p e s';obtain ⟨S,e2⟩:=aaE hf U P h;subst S;exact ⟨PySem.W.km_tabs_of Y P (by simp),e2⟩
def Kept(h h':Heap):Prop:=∀b o,h.get? b=some o->h'.get? b=some o
theorem Kept.trans{a b c:Heap}(x:Kept a b)(y:Kept b c):Kept a c:=λp o e=>y p o (x p o e)
variable {h:Heap}
theorem Kept.push(o:Obj):Kept h (h.push o):=λ_ _ e=>ax _ e
def Tells(s:cy)(h:Heap)(n:Int)(x:bg)(s':cy):Prop:=∃h2 tk2 t,x= .int n t/\s'={ s with heap:=h2,toks:=tk2 }/\Kept h h2
variable {E Q:B2}{s:cy}{ep:Nat}
section
variable {prog:gi}  {A:gx}   {hA:Heap}{K:Type} [DecidableEq K] {knd:KeyKind prog w K}{y9:List (K×bg)}  {d q I S:Addr}{R:Result->cy->Prop}
def Cv(knd:KeyKind prog w K)(y9:List (K×bg))(i:Nat)(v:bg):Prop:=∃k x,y9[i]?=some (k,x)/\knd.is k v=true
def Pq(kf:Nat->Int)(i j:Nat):Prop:=∀l,l<j->kf i<=kf l/\(l<i->kf i<kf l)
theorem Wi(Y:Nat->Int)(hh:A.handled=none)(hm:hA.DictAt knd d y9 ep)(hI:hA.get? I=none)(hS:hA.get? S=none)(B:S≠I)
 (turn:∀i key,Cv knd y9 i key->∀h tk,Kept hA h->de (dn prog w) A.in1 (call (.ref q) [key]) (Tells s h (Y i)) (λ_ _=>False) { s with heap:=h,toks:=tk })
 (hR:∀i v h' p,i<y9.length->Cv knd y9 i v->Pq Y i y9.length->Kept hA h'->R (.ok (.ret v)) { s with heap:=h',toks:=p }) :
 ∀(r j i:Nat) (h:Heap) (tk:Nat) (D:bg) (tb:Tok) (c:Nat),y9.length - j=r->j<=y9.length->Kept hA h->h.get? S=some (vb "list" #[D,.int (Y i) tb] c)->h.IsKeyIter I d j y9.length ep ->
  Cv knd y9 i D->i<j->Pq Y i j->sd (dn prog w) A (.builtin "min.loop" ⟨[.ref I,.ref q,.ref S],[]⟩) R { s with heap:=h,toks:=tk }:=by
 have nm:(toString "min" ++ toString ".loop" : String) = "min.loop" := by decide
 have hd:hA.get? d≠none:=by
  obtain ⟨o,es,ho,_⟩:=hm;rw[ho];simp
 have dI:d≠I:=λz=>hd (z ▸ hI);have W:=Walks.dictKeys (knd:=knd) (A:=A.in1) hh I d dI y9 ep;have Z:∀{h h':Heap}{b:Addr},Kept hA h->hA.get? b=none->(∀a o,a≠b->h.get? a=some o->h'.get? a=some o)->Kept hA h':=λk n x a o e=>x a o (λz=>by rw[z,n] at e;cases e) (k a o e);have E:∀{h:Heap},Kept hA h->h.DictAt knd d y9 ep:=λk=>hm.at' λo e=>k d o e;have C:∀{h:Heap} (f:Array bg->Array bg) (a:Addr) (o:Obj),a≠S->h.get? a=some o->(h.update S (oB f)).get? a=some o:=λf a o ne e=>((fw ..).2 a ne).trans e;intro r
 induction r with
 | zero=>
  intro j i h tk D tb c hr hj kp H it hv Q U;have hjn:j=y9.length:=by lia
  subst hjn;refine kD rh ?_;rw[iE iO _];refine af (fv H rfl ?_);refine af (oD (W.done _ _ _ ⟨it,E kp⟩ λh' p k'=>?_));have k1:∀a o,a≠I->h.get? a=some o->h'.get? a=some o:=λa o ne e=>k' a o (by simpa using ne) e;show de _ _ (updateSeq S (λ_=>#[]) >>= _) _ _ _;refine af (n9 (k1 S _ B H) rfl (af (qc (aS ?_))));exact hR i D _ _ Q hv U (Z (Z kp hI k1) hS (C _))
 | succ r ih=>
  intro j i h tk D tb c hr hj kp H it hv Q U;refine kD rh ?_;rw[iE iO _];show de _ _ (seqItems? (.ref S) >>= _) _ _ _;refine af (fv H rfl ?_);show de _ _ (tryCatch (wd (.ref I)) _ >>= _) _ _ _;refine af (oD (W.item j _ _ _ (by lia) ⟨it,E kp⟩ λv h' p hP st k'=>?_));have k1:∀a o,a≠I->h.get? a=some o->h'.get? a=some o:=λa o ne e=>k' a o (by simpa using ne) e;have L:=Z kp hI k1;show de _ _ (tryCatch (holding [v] (call (.ref q) [v])) _ >>= _) _ _ _;refine af (oD (i8 (gL (turn j v hP h' p L) (λx s2 he=>?_) λ_ _ z=>z.elim)));obtain ⟨h2,tk2,O,rfl,rfl,k2⟩:=he;have M:=L.trans k2;have u:=k2 S _ (k1 S _ B H);have J:h2.IsKeyIter I d (j+1) y9.length ep:=st.1.at λo e=>k2 _ _ e;show de _ _ (tryCatch (holding [v,.int (Y j) O] (richCompare .Lt (.int (Y j) O) (.int (Y i) tb) >>= _)) _ >>= _) _ _ _;refine af (oD (i8 (af (CmpOf.ints_lt (prog:=prog) (w:=w) (A:=A.in1) (P:=λi v=>∃t,v= .int (Y i) t) Y (λ_ _ y=>y) j i _ _ _ _ _ ⟨O,rfl⟩ ⟨tb,rfl⟩ ?_))));refine af (i8 (k7 (af (qc (aS ?_)))))
  by_cases lt:Y j<Y i
  . simp only[lt,decide_true,if_true];refine af (n9 u rfl (af (qc ?_)));rw[nm];refine aS ⟨l7 iO _,ih (j+1) j _ _ v O _ (by lia) (by lia) (Z M hS (C _)) (get?_update_seq u λ_=>#[v,.int (Y j) O]) (J.at λo e=>C _ _ _ (mw B) e) hP (nE _) λl hl=>?_⟩
    by_cases e:l=j
    . subst e;exact ⟨l8 _,λz=>absurd z (fy _)⟩
    . have:=(U l (by lia)).1;exact ⟨by lia,λ_=>by lia⟩
  . simp only[lt,decide_false,iA,if_false];refine af (qc ?_);rw[nm];refine aS ⟨l7 iO _,ih (j+1) i _ _ D tb c (by lia) (by lia) M u J hv (by lia) λl hl=>?_⟩
    by_cases e:l=j
    . subst e;exact ⟨by lia,λz=>by lia⟩
    . exact U l (by lia)
theorem VD(a v:bg):y6 "min" ⟨[a],[(Str.ofString "key",v)]⟩:=by kernel_rfl
theorem U0(L:Nat->Int)(hh:A.handled=none)(O:(d == gu)=false)(H:s.heap.DictAt knd d y9 ep)(P:0<y9.length)
 (turn:∀i key,Cv knd y9 i key->∀h tk,Kept s.heap h->de (dn prog w) A.in1 (call (.ref q) [key]) (Tells s h (L i)) (λ_ _=>False) { s with heap:=h,toks:=tk })
 (hQ:∀i v h' Z,i<y9.length->Cv knd y9 i v->Pq L i y9.length->Kept s.heap h'->Q v { s with heap:=h',toks:=Z }) :
 de (dn prog w) A (call (.builtin "min") [.ref d] [(Str.ofString "key",.ref q)]) Q E s:=by
 have nm:(toString "min" ++ toString ".loop" : String) = "min.loop" := by decide
 refine kmk_tree PySem.F.kind_min PySem.F.plain_min PySem.F.entry_min (VD _ _) (af (l6 (rfl) (af (aS (af (wpAny_pyIter_dict O H ?_))))));refine af (wpAny_newList ?_ (iS _));rw[nm];generalize p:({ cls:=.type "dict_keyiterator",data:=.fields #[.ref d,.int 0 0,.int y9.length 0,.int ep 0] }:Obj)=oI;have gI:(s.heap.push oI).get? s.heap.objs.size=some oI:=cm _ (by rw[<- p];rfl);have R:(s.heap.push oI).objs.size=s.heap.objs.size+1:=by rw[fF]
 have kp:Kept s.heap ((s.heap.push oI).push (vb "list" #[] 0)):=(Kept.push _).trans (Kept.push _);have j:((s.heap.push oI).push (vb "list" #[] 0)).IsKeyIter s.heap.objs.size d 0 y9.length ep:=⟨oI,Kept.push _ _ _ gI,by rw[<- p],by rw[<- p];rfl⟩;have J:((s.heap.push oI).push (vb "list" #[] 0)).get? (s.heap.push oI).objs.size=some (vb "list" #[] 0):=cm _ rfl;have D:s.heap.get? s.heap.objs.size=none:=sg (ay _);have M:s.heap.get? (s.heap.push oI).objs.size=none:=sg (by rw[R];lia);have Y:(s.heap.push oI).objs.size≠s.heap.objs.size:=by rw[R];lia
 generalize (s.heap.push oI).objs.size=S at J M Y;generalize s.heap.objs.size=I at j D Y;generalize (s.heap.push oI).push (vb "list" #[] 0)=h at kp j J;refine aS ⟨l7 iO _,?_⟩;have hd:s.heap.get? d≠none:=by
  obtain ⟨o,es,ho,_⟩:=H;rw[ho];simp
 have dI:d≠I:=λz=>hd (z ▸ D);have W:=Walks.dictKeys (knd:=knd) (A:=A.in1) hh I d dI y9 ep;have C:∀{h h':Heap}{b:Addr},Kept s.heap h->s.heap.get? b=none->(∀a o,a≠b->h.get? a=some o->h'.get? a=some o)->Kept s.heap h':=λk n x a o e=>x a o (λz=>by rw[z,n] at e;cases e) (k a o e);have B:∀{h:Heap} (f:Array bg->Array bg) (a:Addr) (o:Obj),a≠S->h.get? a=some o->(h.update S (oB f)).get? a=some o:=λf a o ne e=>((fw ..).2 a ne).trans e;refine kD rh ?_;rw[iE iO _];refine af (fv J rfl (af (oD (W.item 0 _ _ _ P ⟨j,H.at' λo e=>kp d o e⟩ λv h' Z U st k'=>?_))));have k1:=λa o ne e=>k' a o (by simpa using ne) e;have u:=C kp D k1;refine af (oD (i8 (gL (turn 0 v U h' Z u) (λx s2 he=>?_) λ_ _ z=>z.elim)));obtain ⟨h2,tk2,t2,rfl,rfl,k2⟩:=he;have r:=k2 S _ (k1 S _ Y J);refine af (n9 r rfl ?_);rw[nm];refine aS ⟨l7 iO _,Wi L hh H D M Y turn hQ _ 1 0 _ _ v t2 _ rfl P (C (u.trans k2) M (B _)) (get?_update_seq r λ_=>#[v,.int (L 0) t2]) ((st.1.at λo e=>k2 _ _ e).at λo e=>B _ _ _ (mw Y) e) U (by decide) λl hl=>?_⟩;have e:l=0:=by lia
 subst e;exact ⟨l8 _,λz=>absurd z (fy _)⟩
end
variable {p p1:Pos}{j:Nat}{y:Str}{ze:Array bg}{h':Heap}{params:Arguments}{scope:tJ}{clos:B1}
section
open PySem.W
section
variable {prog:gi}  {A:gx}
theorem J6:Wb (.Name x p):=λ_ _=>rfl
theorem Lf{i:Int}:Wb (.Constant (.int i) j p):=λ_ _=>rfl
theorem V9{env:Env}{J u C:Pos}{m:Str->B7}{key:bg}{d:Addr}{f:Key->B7}{k:Key}{n:Int}{t:Tok}
 (q:env.scope.kind= .function) (v:env.kindOf x=some .local) (r:env.kindOf y=some .free) (z:env.cells.lookup y=some c) (H:s.heap.Ns env.locals m) (I:m x=some key) (Y:s.heap.IsCell c (some (.ref d)))
 (hd:s.heap.MapOf (bY prog w) d f) (Z:(bY prog w).is k key=true) (D:f k=some (.ref a)) (o:IsTup s.heap a ze) (h0:ze[0]?=some (.int n t)) (B:ze.size<=bt)
 (l:nD x) (e:nD y) (i:(y == ("__classdict__" : Str))=false) (h:∀tk,Q (.int n t) { s with toks:=tk }) :
 de (dn prog w) A (eval (.Subscript (.Subscript (.Name y p1) (.Name x p) J) (.Constant (.int 0) j u) C) env) Q E s:=by
 refine Nj PySem.F.slot_tuple_getitem.lookup Lf (Nj kF.lookup J6 ?_);refine xA (wpAny_loadName_free q r z Y ?_ i) e;refine xA (wpAny_loadName_local q v H I ?_) l;refine ⟨hd.typeIs,wpAny_getItem_of Z hd D (wpAny_Constant_int ?_)⟩;have L:=vh;refine ⟨o.typeIs,getItem_tuple o (by decide) (by decide) ?_ h0 (h _)⟩;have:=(vj.mp h0).1;unfold seqIndex?;simp[this]
structure Yj (h:Heap) (qual:Str) (params:Arguments) (body:Expr) (scope:tJ) (clos:B1) (pm ctv:bg) (q c':Addr):Prop where
 ae3:h.get? q=some (yY "<lambda>" qual params body scope clos pm c' ctv)
 code:h.CodeRec (.ref c') qual
theorem Iv{Y:bg}{q:Str}(k:Kept h h')(x:h.CodeRec Y q):h'.CodeRec Y q:=by
 obtain ⟨c,o,j,i,e,Z,hd,l⟩:=x;exact ⟨c,o,j,i,e,k _ _ Z,hd,l⟩
theorem QB(k:Kept h h')(x:IsTup h a ze):IsTup h' a ze:=by
 obtain ⟨o,e,r⟩:=x;exact ⟨o,k _ _ e,r⟩
theorem Vb{tk:Nat}{Y:Str}{pm q:bg}{U:Addr}{p3 Q R:Pos}{key:bg}{d:Addr}{S:List (Key×bg)}{k:Key}{n:Int}{t:Tok}
 (L:Yj h' Y params (.Subscript (.Subscript (.Name y p1) (.Name x p) p3) (.Constant (.int 0) j Q) R) scope clos pm q T U) (kp:Kept h' h) (i:A.depth<recursionLimit) (v:h'.NoLimit)
 (Z:kA (kla_fn "<lambda>" Y params (.Subscript (.Subscript (.Name y p1) (.Name x p) p3) (.Constant (.int 0) j Q) R) scope clos pm (.ref U) q) ⟨[key],[]⟩=pure [(x,key)])
 (I:scope.isCoroutine=false) (B:scope.isGenerator=false) (hk:scope.kind= .function) (H:∀z∈scope.names,z.2 ≠ .cell) (hx:scope.names.lookup x=some .local) (hy:scope.names.lookup y=some .free) (hc:clos.lookup y=some c)
 (l:h'.IsCell c (some (.ref d))) (hd:h'.DictOf (bY prog w) d S) (u:(bY prog w).is k key=true) (hv:vx S k=some (.ref a)) (ht:IsTup h' a ze) (h0:ze[0]?=some (.int n t)) (D:ze.size<=bt)
 (J:nD x) (M:nD y) (E:(y == ("__classdict__" : Str))=false) :
 de (dn prog w) A (call (.ref T) [key]) (Tells s h n) (λ_ _=>False) { s with heap:=h,toks:=tk }:=by
 refine wpAny_call (kla_callFunE i (kp _ _ L.ae3) rfl I B rfl (Iv kp L.code) ?_);rw[Z];refine aS (wpAny_newFunctionEnv H (λz hz=>by rw[aw.mp hz];exact hx) (λh1 P O=>?_) hk);have k1:=λb o e=>O.extBut b o (en (cx e)) (ax _ e);have C:=kp.trans k1;refine ⟨v.keeps C,kla_codeExpr ?_⟩;refine V9 (d:=d) hk hx hy hc P (by simp) ?_ ?_ u hv (QB C ht) h0 D J M E λtk'=>⟨_,_,t,rfl,rfl,k1⟩
 . obtain ⟨o,e,r⟩:=l;exact ⟨o,C _ _ e,r⟩
 . obtain ⟨o,es,ep,e,r⟩:=hd;exact Heap.DictOf.mapOf ⟨o,es,ep,C _ _ e,r⟩
end
end
variable {pos:Pos}{X:Cx}{y8:A7}{σ:St}{H:Hp}{cd:Addr}
section
open PySem.W
theorem Rf{a b c Z:bg}:∀(l:B8),TriplesOk l->xa pos (l++[a,b,c])=some Z->xa pos l=some Z\/Z=c:=by
 intro l
 fun_induction TriplesOk l with
 | case1=>
  intro _ h;right;rw[eL] at h;unfold xa at h;split at h
  . rename_i e;cases e;split at h
    . exact (Option.some.inj h).symm
    . cases h
  . cases h
 | case2 line u col v p j o=>
  intro Y h;rw[gX,gX,gX] at h;unfold xa at h ⊢;split at h
  . rename_i i;rw[if_pos i];exact .inl h
  . rename_i i;rw[if_neg i];exact o Y h
 | case3=>intro Y;exact Y.elim
theorem Xd{P:Addr}{Y:Expr}(I:zk X y8 σ H s)(i:X.env.code= .ref cd)(hhd:iL X.K cd P=true)(hT:TabAt X.K X.mg P)
 (hq:X.env.qual ++ "<lambda>"= ji) (B:xS scope X.env=pure clos) (U:defaultsOf params X.env=([],[]))
 (h:∀q c' Z H' s',zk X y8 σ H' s'->(H'=H\/(H c'=none/\H'=zw H c' (.own P)))->Yj s'.heap ji params Y scope clos ((X.mg "__name__").getD .none) Z q c'->(∀b o,b≠P->s.heap.get? b=some o->s'.heap.get? b=some o)->Q (.ref q) s') :
 de (dn X.prog X.w) X.A (eval (.Lambda params Y scope pos) X.env) Q E s:=by
 refine kla_eval U ?_;rw[hq];have O:=I.base.lg _ _ (I.ok.tabs P hT);obtain ⟨ps,hP,ht,hcs⟩:=I.zS P _ O;have C:=codeHd_of_K I.kIn hhd;have hg:=I.mod.glob.keeps I.bk;obtain ⟨bm,ob,b1,j,v,b4,b5,b6⟩:=I.mod.bmain;have v:=I.bk _ _ v;have bP:bm≠P:=λz=>by rw[z,hP] at v;cases v;cases b4
 have gP:ff≠P:=λz=>by
  obtain ⟨o,es,ep,e,hd,_⟩:=hg;rw[z,hP] at e;cases e;cases hd
 have bG:bm≠ff:=λz=>by
  obtain ⟨o,es,ep,e,hd,_⟩:=hg;rw[<- z,v] at e;cases e;rw[b6] at hd;cases hd
 have hb:s.heap.BuiltinsAt X.mg P:=⟨bm,ob,b1,j,bG,bP,v,b4,b5,b6⟩
 cases hf:xa pos ps.toList with
 | some cv=>
  obtain ⟨c',oc,vs,t,rfl,hown,ho,hd,l⟩:=hcs pos cv hf;refine kla_makeFunctionHit B I.ok.glob hg i C hP ht hf hb λZ r tk hk hsz=>?_;have keep:∀b o,s.heap.get? b=some o->(r.push (yY "<lambda>" ji params Y scope clos ((X.mg "__name__").getD .none) c' Z)).get? b=some o:=λb o e=>ax _ (hk b o e);exact h _ c' Z H _ (I.un (Un.kept keep) (I.zS.kept keep)) (.inl rfl) ⟨cm _ rfl,⟨c',oc,vs,t,rfl,keep _ _ ho,hd,l⟩⟩ λb o _ e=>keep b o e
 | none=>
  refine kla_makeFunction B I.ok.glob hg i C hP ht hf gP hb λc' Z r tk hx S hlt L htb=>?_;have hc0:=I.zS.fresh S;have nP:∀{b:Addr},H b=none->b≠P:=λn z=>by rw[z,O] at n;cases n
  have D:∀{b:Addr}{o:HO},H b=some o->b≠c':=λe z=>by rw[z,hc0] at e;cases e
  have old:∀b o,b≠P->s.heap.get? b=some o->(r.push (yY "<lambda>" ji params Y scope clos ((X.mg "__name__").getD .none) c' Z)).get? b=some o:=λb o ne e=>ax _ (hx b o ne e);have M:(r.push (yY "<lambda>" ji params Y scope clos ((X.mg "__name__").getD .none) c' Z)).get? P=some (tabObj (ps++#[ia pos.line,ia pos.col,.ref c'])):=ax _ htb;obtain ⟨c2,oc,vs,t,ec,ho,hd,l⟩:=L;cases ec;have p:(r.push (yY "<lambda>" ji params Y scope clos ((X.mg "__name__").getD .none) c' Z)).get? c'=some oc:=ax _ ho;have un:Un X.fs [] H (zw H c' (.own P)) s.heap (r.push (yY "<lambda>" ji params Y scope clos ((X.mg "__name__").getD .none) c' Z)):=by
   refine ⟨λb o e n _ _=>old b o (nP n) e,λb o e n _ _=>⟨o.slots,old b o (nP n) e⟩,λb o e n _=>?_,λb o e _=>?_,λb xs e=>?_,λb o u e=>?_,λb q e=>?_⟩
   . rw[aH (en (eh (cx e) S))];exact n
   . by_cases z:b=P
     . rw[z];exact ⟨_,M⟩
     . exact ⟨o,old b o z e⟩
   . rw[aH (D e)];exact e
   . rw[aH (D e)];exact e
   . rw[aH (D e)];exact e
  have zS:HOk X.prog X.w (zw H c' (.own P)) (r.push (yY "<lambda>" ji params Y scope clos ((X.mg "__name__").getD .none) c' Z)):=λb o e=>by
   by_cases z:b=c'
   . subst z;rw[bc] at e;cases e;exact ⟨oc,p⟩
   . rw[aH z] at e;have J:∀j a,H j=some (.own a)->zw H c' (.own P) j=some (.own a):=λj a q=>by rw[aH (D q)];exact q
     by_cases zP:b=P
     . subst zP;rw[O] at e;cases e;have el:(ps++#[ia pos.line,ia pos.col,hZ c']).toList=ps.toList++[ia pos.line,ia pos.col,.ref c']:=by simp
       refine ⟨_,M,by rw[el];exact TriplesOk_snoc _ _ _ _ ht,λR cv hv=>?_⟩;rw[el] at hv;rcases Rf _ ht hv with hv | hv
       . obtain ⟨c3,ob3,vs3,t3,e1,e2,e3,e4,e5⟩:=hcs R cv hv;exact ⟨c3,ob3,vs3,t3,e1,J _ _ e2,old _ _ (λz=>by rw[z,O] at e2;cases e2) e3,e4,e5⟩
       . exact ⟨c',oc,vs,t,hv,bc,p,hd,l⟩
     . refine (I.zS b o e).stay (λj u hb2 q=>old j u ?_ q) (λj q=>J j b q) λj xs q=>by rw[aH (D q)];exact q
       rcases hb2 with rfl | hb2
       . exact zP
       . exact λz=>by rw[z,O] at hb2;cases hb2
  exact h _ c' Z _ _ (I.un un zS) (.inr ⟨hc0,rfl⟩) ⟨cm _ rfl,⟨c',oc,vs,t,rfl,p,hd,l⟩⟩ old
end
variable {i:Nat}
section
open PySem.W
theorem DN{Y:Type}[DecidableEq Y]:∀{vs:List (Y×bg)}{i:Nat}{k:Y}{x:bg},(vs.map (·.1)).Nodup->vs[i]?=some (k,x)->vx vs k=some x
 | [],i,k,x,_,e=>by simp at e
 | (k0,l)::vs,i,k,x,j,e=>by
  unfold vx;rw[bq,mT] at j
  match i with
  | 0=>
   have e:=Option.some.inj e;cases e;rw[List.find?_cons_of_pos (by simp)];rfl
  | i+1=>
   have e:=by simpa using e
   have Z:k0≠k:=λz=>j.1 (by
    rw[z];exact bX.mpr ⟨_,d6 e,rfl⟩)
   rw[List.find?_cons_of_neg (by simpa using Z)];exact DN j.2 e
theorem Paired.getL{α Y:Type}{F:α->Y->Prop}:∀{l₁:List α}{l₂:List Y}{i:Nat}{b:Y},i6 F l₁ l₂->l₂[i]?=some b->∃a,l₁[i]?=some a/\F a b
 | _,_,i,b,.nil,e=>by simp at e
 | _,_,0,b,.cons r t,e=>by cases (Option.some.inj e);exact ⟨_,rfl,r⟩
 | _,_,i+1,b,.cons r t,e=>Paired.getL (i:=i) t (by simpa using e)
def aeX(K:aE)(i:Nat):TE:=λσ H Q=>∃(d:Addr) (y9:A8) (cs:Nat->Int),σ[i]?=some (some (.ref d))/\H d=some (.dK y9)/\0<y9.length/\(∀l k v,y9[l]?=some (k,v)->∃a xs,v= .ref a/\SqT K H a (.int (cs l)::xs)) /\
 ∀l k v H',y9[l]?=some (k,v)->Pq cs l y9.length->aD H H'->Q (kV k) H'
theorem LR{env:Env}(hs:scope.names=[(x,.local),(y,.free)])(Y:env.cells.lookup y=some c):xS scope env=pure [(y,c)]:=by
 rw[xS,hs];simp[cellOf,Y]
theorem Hj{k:Key}{u:bg}(h:(bY P w).is k u=true):zo (kV k) u:=by
 cases k with
 | inl i=>exact vn h
 | inr x=>exact Value.isStrOf_shape h
theorem Rb{k:Nat}{q1 q2 q3 q4 q5 ae0 kp:Pos}
 (hN:X.N[i]?=some y) (hv:X.env.kindOf y=some .cell) (hr:dJ k X.A) (O:X.env.code= .ref cd) (hhd:iL X.K cd T=true) (hT:TabAt X.K X.mg T) (hq:X.env.qual ++ "<lambda>"= ji)
 (hg:Gl X "min") (hm:X.mg "min"= none) (hs:scope.names=[(x,.local),(y,.free)]) (hco:scope.isCoroutine=false) (hgen:scope.isGenerator=false) (hk:scope.kind= .function) (hdef:defaultsOf params X.env=([],[]))
 (M:∀(pm cv ctv key:bg) (clos:B1) (body:Expr),kA (kla_fn "<lambda>" ji params body scope clos pm cv ctv) ⟨[key],[]⟩=pure [(x,key)]) (hxy:(y == x)=false)
 (hdx:nD x) (hdy:nD y) (U:(y == ("__classdict__" : Str))=false) :
 PE X (.Call (.Name "min" p) [.Name y p1] [⟨some "key",.Lambda params (.Subscript (.Subscript (.Name y q1) (.Name x q2) q3) (.Constant (.int 0) j q4) q5) scope ae0,kp⟩] pos) (aeX X.K i):=by
 rintro y8 s σ H Q I ⟨d,y9,cs,S,hd,hn,E,hQ⟩;have Z:Vis X.env.scope y:=.inr (.inl hv);refine nS (lr I hg hm rfl (callWith_kw ?_));have hpa:PA X [.Name y p1] _:=bN (dO hN Z hdy U) eQ;refine thn (hpa pos y8 s σ H (λvs H1=>vs=[.ref d]/\H1=H) I ⟨.ref d,S,rfl,rfl⟩) λus s1 Vw=>?_;obtain ⟨vs,H1,I1,rv,hvs,hH1⟩:=Vw;subst hvs;subst hH1;obtain ⟨u,J,rfl,ru,rn⟩:∃u J,us=u::J/\u=hZ d/\J=[]:=by
  cases rv with
  | cons r t=>cases t;exact ⟨_,_,rfl,r,rfl⟩
 subst ru;subst rn;obtain ⟨c,hc⟩:=I1.ok.has y (.inl hv);refine kws_cons (Xd I1 O hhd hT hq (LR hs hc) hdef λq c' ctv H' s' R hH' L hkeep=>kws_nil ?_);have sH:aD H1 H':=by
  rcases hH' with rfl | ⟨z,rfl⟩
  . exact aD.refl _
  . exact λb o e=>by rw[aH (λy=>by rw[y,z] at e;cases e)];exact e
 have hd':=sH _ _ hd;obtain ⟨zl,hsm,vs,C,dd⟩:=R.zS d _ hd';obtain ⟨od,es,ep,e1,e2,e3,e4,e5,e6⟩:=id dd;have hat:s'.heap.DictAt (bY X.prog X.w) d vs ep:=⟨od,es,e1,e2,e3,e4,e5,e6⟩;have hl:=C.length;have D:s'.heap.IsCell c (some (.ref d)):=by
  obtain ⟨m,hn',hloc⟩:=R.loc;obtain ⟨u,ru,l⟩:=hloc i y (.ref d) hN S Z;obtain rfl:u=hZ d:=ru;rcases l with ⟨l1,_⟩ | ⟨_,c2,l2,l3⟩
  . rw[hv] at l1;cases l1
  . rw[hc] at l2;cases l2;exact l3
 refine U0 cs hr.hd hsm hat (by lia) (λl key Y h tk kp=>?_) λl v h' tk' hlt Y hb kp=>?_
 . obtain ⟨k,x',hx,P⟩:=Y;obtain ⟨⟨k2,v2⟩,g1,B,g3⟩:=Paired.getL C hx;have B:=B;subst B;obtain ⟨a,xs,ev,hq2⟩:=E l k2 v2 g1;have ev:=ev;subst ev;obtain rfl:x'=hZ a:=g3;obtain ⟨ze,rr,ht,hz⟩:=R.tuple (sH.fZ hq2);obtain ⟨t,its',rfl⟩:∃t its',ze=bg.int (cs l) t::its':=by
    cases rr with
    | cons r t=>obtain ⟨t',rfl⟩:=r;exact ⟨_,_,rfl⟩
   have hz2:=rr.length;refine Vb (t:=t) L kp (by have:=hr.dp;show X.A.depth<_;lia) R.nolimit (M _ _ _ _ _ _) hco hgen hk ?_ ?_ ?_ (by simp) D dd P (DN e6 hx) ht (by simp) (by rw[dA,<- hz2];exact hz) hdx hdy U
   . intro z hz;rw[hs] at hz;rcases b9.mp hz with rfl | hz
     . intro z;cases z
     . rw[aw.mp hz];intro z;cases z
   . rw[hs];simp
   . rw[hs];rw[vv,hxy];simp[vv]
 . obtain ⟨k,x',hx,P⟩:=Y;obtain ⟨⟨k2,v2⟩,g1,B,g3⟩:=Paired.getL C hx;have B:=B;subst B;rw[<- hl] at hb;exact ⟨kV k2,H',R.un (Un.kept kp) (R.zS.kept kp),Hj P,hQ l k2 v2 H' g1 hb sH⟩
end
noncomputable def d9:ab->Option Int
 | .tuple (.int c::_)=>some c
 | _=>none
noncomputable def jJ(k:ab)(c:Int):B0->zi ab
 | []=>.ok k
 | (k',d)::r=>match d9 d with
  | some c'=>if c'<c then jJ k' c' r else jJ k c r
  | none=>.bad
noncomputable def j6:B0->zi ab
 | []=>.bad
 | (k,d)::r=>match d9 d with
  | some c=>jJ k c r
  | none=>.bad
noncomputable def BL(i:Nat):ME:=λΓ=>match gv Γ i with
 | some (.dict y9)=>j6 y9
 | _=>.bad
theorem wM:∀{r:B0}{k:ab}{c:Int}{k2:ab},jJ k c r= .ok k2->(∀q∈r,(d9 q.2).isSome=true) /\
 ((k2=k/\∀(l:Nat) (q:ab×ab) (Z:Int),r[l]?=some q->d9 q.2=some Z->c<=Z)\/∃(l:Nat) (q:ab×ab) (Z:Int),r[l]?=some q/\d9 q.2=some Z/\k2=q.1/\Z<c/\∀(l2:Nat) (o:ab×ab) (j:Int),r[l2]?=some o->d9 o.2=some j->Z<=j/\(l2<l->Z<j))
 | [],k,c,k2,h=>by
  cases h;exact ⟨λ_ q=>(nomatch q),.inl ⟨rfl,λl q Z e=>by simp at e⟩⟩
 | (k',d)::r,k,c,k2,h=>by
  unfold jJ at h
  cases p:d9 d with
  | none=>rw[p] at h;cases h
  | some Z=>
   rw[p] at h;have h:(if Z<c then jJ k' Z r else jJ k c r)= .ok k2:=h
   by_cases lt:Z<c
   . rw[if_pos lt] at h;obtain ⟨B,s⟩:=wM h;refine ⟨λq hq=>?_,.inr ?_⟩
     . rcases b9.mp hq with rfl | hq
       . rw[p];rfl
       . exact B q hq
     . rcases s with ⟨rfl,s⟩ | ⟨l,q,D,H,v,E,u,C⟩
       . refine ⟨0,(k2,d),Z,rfl,p,rfl,lt,λl2 o j i Y=>?_⟩
         match l2 with
         | 0=>
          cases (Option.some.inj i);have Y:=Y;rw[p] at Y;cases Y;exact ⟨l8 _,λz=>absurd z (fy _)⟩
         | l2+1=>exact ⟨s l2 o j (by simpa using i) Y,λz=>absurd z (ll _)⟩
       . refine ⟨l+1,q,D,by simpa using H,v,E,Int.lt_trans u lt,λl2 o j i Y=>?_⟩
         match l2 with
         | 0=>
          cases (Option.some.inj i);have Y:=Y;rw[p] at Y;cases Y;exact ⟨Int.le_of_lt u,λ_=>u⟩
         | l2+1=>
          have:=C l2 o j (by simpa using i) Y;exact ⟨this.1,λz=>this.2 (by lia)⟩
   . rw[if_neg lt] at h;obtain ⟨B,s⟩:=wM h;refine ⟨λq hq=>?_,?_⟩
     . rcases b9.mp hq with rfl | hq
       . rw[p];rfl
       . exact B q hq
     . rcases s with ⟨rfl,s⟩ | ⟨l,q,D,H,v,E,u,C⟩
       . refine .inl ⟨rfl,λl2 o j i Y=>?_⟩
         match l2 with
         | 0=>
          cases (Option.some.inj i);have Y:=Y;rw[p] at Y;cases Y;lia
         | l2+1=>exact s l2 o j (by simpa using i) Y
       . refine .inr ⟨l+1,q,D,by simpa using H,v,E,u,λl2 o j i Y=>?_⟩
         match l2 with
         | 0=>
          cases (Option.some.inj i);have Y:=Y;rw[p] at Y;cases Y;exact ⟨by lia,λ_=>by lia⟩
         | l2+1=>
          have:=C l2 o j (by simpa using i) Y;exact ⟨this.1,λz=>this.2 (by lia)⟩
variable {y9:B0}
theorem Dv{k:ab}(h:j6 y9= .ok k):(∀q∈y9,(d9 q.2).isSome=true)/\∃(l:Nat) (q:ab×ab) (c:Int),y9[l]?=some q/\d9 q.2=some c/\k=q.1/\∀(l2:Nat) (i:ab×ab) (Z:Int),y9[l2]?=some i->d9 i.2=some Z->c<=Z/\(l2<l->c<Z):=by
 match y9,h with
 | (k0,d)::r,h=>
  have h:(match d9 d with
   | some c=>jJ k0 c r
   | none=>.bad)= .ok k:=h
  cases e:d9 d with
  | none=>rw[e] at h;cases h
  | some c=>
   rw[e] at h;obtain ⟨u,o⟩:=wM h;refine ⟨λq hq=>?_,?_⟩
   . rcases b9.mp hq with rfl | hq
     . rw[e];rfl
     . exact u q hq
   . rcases o with ⟨rfl,o⟩ | ⟨l,q,B,D,s,C,p,v⟩
     . refine ⟨0,(k,d),c,rfl,e,rfl,λl2 i Z j Y=>?_⟩
       match l2 with
       | 0=>
        cases (Option.some.inj j);have Y:=Y;rw[e] at Y;cases Y;exact ⟨l8 _,λz=>absurd z (fy _)⟩
       | l2+1=>exact ⟨o l2 i Z (by simpa using j) Y,λz=>absurd z (ll _)⟩
     . refine ⟨l+1,q,B,by simpa using D,s,C,λl2 i Z j Y=>?_⟩
       match l2 with
       | 0=>
        cases (Option.some.inj j);have Y:=Y;rw[e] at Y;cases Y;exact ⟨Int.le_of_lt p,λ_=>p⟩
       | l2+1=>
        have:=v l2 i Z (by simpa using j) Y;exact ⟨this.1,λz=>this.2 (by lia)⟩
variable {A:Hp}
theorem vN:∀{y9:B0}{u:A8}{l:Nat}{key:Key}{v:V},bh K A y9 u->u[l]?=some (key,v)->∃k d,y9[l]?=some (k,d)/\bJ k=some key/\Rp K A d v
 | [],u,l,key,v,h,e=>by rw[bh.nil.mp h] at e;simp at e
 | (k,d)::r,u,l,key,v,h,e=>by
  obtain ⟨Y,z,s,rfl,o,q,Z⟩:=bh.cons.mp h
  match l with
  | 0=>cases (Option.some.inj e);exact ⟨k,d,rfl,o,q⟩
  | l+1=>
   obtain ⟨k2,p,j,i⟩:=vN Z (by simpa using e);exact ⟨k2,p,by simpa using j,i⟩
variable {O:B9}{v:V}
theorem Ww{d:ab}{c:Int}(h:Rp K A d v)(Y:d9 d=some c):∃a xs,v= .ref a/\SqT K A a (.int c::xs):=by
 unfold d9 at Y;split at Y
 . cases Y;obtain ⟨a,j,rfl,Z,i⟩:=Rp.tuple.mp h;obtain ⟨v,r,rfl,e,_⟩:=au.cons.mp i;rw[Rp.int.mp e] at Z;exact ⟨a,r,rfl,Z⟩
 . cases Y
theorem Zm{q1 q2 q3 q4 q5 S kp:Pos}(i:Nat)(hi:isO (fl O i)=true)
 (hN:X.N[i]?=some y) (hv:X.env.kindOf y=some .cell) (hr:dJ ep X.A) (E:X.env.code= .ref cd) (hhd:iL X.K cd T=true) (hT:TabAt X.K X.mg T) (hq:X.env.qual ++ "<lambda>"= ji)
 (hg:Gl X "min") (hm:X.mg "min"= none) (hs:scope.names=[(x,.local),(y,.free)]) (hco:scope.isCoroutine=false) (R:scope.isGenerator=false) (hk:scope.kind= .function) (L:defaultsOf params X.env=([],[]))
 (D:∀(pm cv ctv key:bg) (clos:B1) (body:Expr),kA (PySem.W.kla_fn "<lambda>" ji params body scope clos pm cv ctv) ⟨[key],[]⟩=pure [(x,key)]) (hxy:(y == x)=false:=by decide)
 (hdx:nD x:=by decide) (hdy:nD y:=by decide) (hcy:(y == ("__classdict__" : Str))=false:=by decide) :
 QE X (.Call (.Name "min" p) [.Name y p1] [⟨some "key",.Lambda params (.Subscript (.Subscript (.Name y q1) (.Name x q2) q3) (.Constant (.int 0) j q4) q5) scope S,kp⟩] pos) (tE X.K O (BL i)):=
 QE.imp (Rb hN hv hr E hhd hT hq hg hm hs hco R hk L D hxy hdx hdy hcy) λσ H Q J=>by
  obtain ⟨A,B,Γ,d,r,em,kk⟩:=J;unfold BL at em
  cases I:gv Γ i with
  | none=>rw[I] at em;cases em
  | some dl=>
   rw[I] at em
   cases dl with
   | dict Y=>
    have em:=em;obtain ⟨q,u,e1,h1,h2⟩:=vC r hi I;obtain ⟨M,l0,w0,c0,U,f2,f3,f4⟩:=Dv em;have P:=h2.len;have s:∀l key v,u[l]?=some (key,v)->∃(w:ab×ab) (c:Int),Y[l]?=some w/\d9 w.2=some c/\bJ w.1=some key/\Rp X.K A w.2 v:=λl key v e=>by
     obtain ⟨k1,d1,Z,C,o⟩:=vN h2 e;obtain ⟨c,hc⟩:=h8.mp (M _ (d6 Z));exact ⟨(k1,d1),c,Z,hc,C,o⟩
    refine ⟨q,u,λl=>((Y[l]?).bind λw=>d9 w.2).getD 0,dU e1,h1,?_,λl key v e=>?_,λl key v H' e hb sH=>?_⟩
    . rw[<- P];exact ke (iS _) (a0.mp U).1
    . obtain ⟨w,c,Z,C,o,g4⟩:=s l key v e;obtain ⟨a,xs,rfl,hq⟩:=Ww g4 C;refine ⟨a,xs,rfl,r.a.fZ ?_⟩;show SqT X.K A a (.int (((Y[l]?).bind λw=>d9 w.2).getD 0)::xs);rw[Z];show SqT X.K A a (.int ((d9 w.2).getD 0)::xs);rw[C];exact hq
    . obtain ⟨w,c,Z,C,o,g4⟩:=s l key v e;have hl:=(a0.mp Z).1;have hl0:=(a0.mp U).1;have cl:((Y[l]?).bind λw=>d9 w.2).getD 0=c:=by rw[Z];show (d9 w.2).getD 0=c;rw[C];rfl
      have cl0:((Y[l0]?).bind λw=>d9 w.2).getD 0=c0:=by rw[U];show (d9 w0.2).getD 0=c0;rw[f2];rfl
      have b1:=hb l0 (by lia);have b1:((Y[l]?).bind λw=>d9 w.2).getD 0<=((Y[l0]?).bind λw=>d9 w.2).getD 0/\(l0<l->((Y[l]?).bind λw=>d9 w.2).getD 0<((Y[l0]?).bind λw=>d9 w.2).getD 0):=b1;rw[cl,cl0] at b1;have b2:=f4 l w c Z C;have el:l=l0:=by
       rcases vT l l0 with z | z | z
       . have:=b2.2 z;lia
       . exact z
       . have:=b1.2 z;lia
      subst el;rw[U] at Z;cases Z;refine kk _ A H' ⟨aD.refl _,sH,r.a.trans sH,λ_ h _=>h⟩ ?_;rw[f3]
      cases hw:w0.1 with
      | int n=>rw[hw] at o;cases o;exact Rp.int.mpr rfl
      | str z=>rw[hw] at o;cases o;exact Rp.str.mpr rfl
      | _=>rw[hw] at o;cases o
   | _=>cases em
noncomputable def yE(i:Nat)(f:B4->zi ab)(ms:List ME):MS:=λΓ=>(evs ms Γ).bind λds=>(f ds).bind λr=>match oO r with
 | some (_,dm)=>.ok (.nx (Γ.set i (some dm)))
 | none=>.bad
variable {rm:Rm}{Ol O':B9}
section
variable     {f:B4->zi ab}{ms:List ME}{m:ME}{e:Expr}
theorem J9(i:Nat)(u:QE X e (tM K O i f ms))(hs:hV e none pos.line X.env=pure false:=by rfl):QS X (.Expr e pos) (tS K rm Ol O O (yE i f ms)):=QS.imp (oW u.h hs) λD L H Y=>by
 obtain ⟨A,B,z,o,r,em,k⟩:=Y;obtain ⟨j,J,em⟩:=zi.aq em;obtain ⟨t,Z,em⟩:=zi.aq em
 cases h:oO t with
 | none=>rw[h] at em;cases em
 | some q=>
  obtain ⟨d,I⟩:=q;rw[h] at em;cases em;rw[zF h] at Z;exact ⟨A,B,z,j,d,I,r,J,Z,λv s l C E nw p=>k _ s l C E nw⟩
end
noncomputable def acD(n j:Nat)(m:MS)(ds:B4):zi ab:=(m (ds.map some++aI (n - ds.length) none)).bind λo=>match o with
 | .rt d=>.ok d
 | .nx Γ=>match gv Γ j with
  | some dm=>.ok (.tuple [.none,dm])
  | none=>.bad
 | _=>.bad
variable {N ps:B6}
section
variable     {base:Heap}
theorem U9{st:Stmt}{fs:B9}{O O':Addr->B9}{m:MS}(F:At K mg x st ps)(S:cL N ps (aM st))(hf:fs.length=ps.length)(hn:ps.length<=N.length)
 (I:∀p,fl (O p) j= .fix p) (hO:∀p i,i<fs.length->i≠j->(fl (O p) i= .zD/\fl fs i= .zD)\/fl (O p) i= .zC) (J:∀p,fl (O' p) j= .fix p)
 (hbody:∀(p:Addr) (f:Addr) (Y:bg) (A:gx) (AA:C5) (s:cy) (H:Hp) (E:XK),dJ ep (A.deeper (oy x (aM st) s.heap.objs.size f Y)) ->
  QSs (mK CX0 P w K mg base N x (aM st) f Y A AA s H E).nox (bK st) (tS K (.m p) Ol (O p) (O' p) m)):Def P w K mg base (ep+1) x ps (spM K fs j (acD N.length j m)):=by
 refine F.ok S (λvs H Q E h=>?_) (λf Y A AA s H vs Q E hr h=>?_)
 . obtain ⟨_,_,_,_,_,_,_,_,_,h,_⟩:=h;rw[h,hf]
 . obtain ⟨A',B,ds,d,C,p,o,ha,hb,hv,hd,hj,hp,ap,bp,e,Z,em,q⟩:=h;obtain ⟨out,e1,em⟩:=zi.aq em
   cases out with
   | rt d'=>
    cases em;refine ⟨_,(hbody p f Y A AA s H E hr).h,A',rem H p,_,_,wu ha hb hv hd hj hp ap bp e Z (I p) (hO p) (by lia),e1,λv R U s1 s2 sa nw rv=>?_⟩;obtain ⟨d1,dm1,o1,ed,r1,D,r3,r4⟩:=rv;cases ed;refine q v R U o1 sa s1 (λb u l hu=>s2 b u (by rw[pQ l];exact hu)) (λb M q2=>?_) r3 D r4 r1
    by_cases z:b=p
    . subst z;exact r3
    . exact nw b M (by rw[pQ z];exact q2)
   | nx r=>
    cases L:gv r j with
    | none=>
     have em:(match gv r j with | some C=>zi.ok (ab.tuple [.none,C]) | none=>.bad)= .ok (ab.tuple [d,C]):=em;rw[L] at em;cases em
    | some dm1=>
     have em:(match gv r j with | some C=>zi.ok (ab.tuple [.none,C]) | none=>.bad)= .ok (.tuple [d,C]):=em;rw[L] at em;cases em;refine ⟨_,(hbody p f Y A AA s H E hr).h,A',rem H p,_,_,wu ha hb hv hd hj hp ap bp e Z (I p) (hO p) (by lia),e1,λσ2 R U D sa nw=>?_⟩;obtain ⟨v',ev,sl⟩:=D.slot j C L;rw[J p] at sl;obtain ⟨rfl,p',o',e',h1,h2,_,h4⟩:=sl;cases e';refine q .non R U o' sa D.a (λb u l hu=>D.b b u (by rw[pQ l];exact hu)) (λb M q2=>?_) h2 h1 h4 (Rp.none.mpr rfl)
     by_cases z:b=p
     . subst z;exact h2
     . exact nw b M (by rw[pQ z];exact q2)
   | _=>cases em
end
noncomputable def pF(key:Key)(y9:B0):B0:=y9.filter λkv=>!decide (bJ kv.1=some key)
theorem Fy{key:Key}:∀{y9:B0}{u:A8},bh K A y9 u->bh K A (pF key y9) (sX u key)
 | [],u,h=>by rw[bh.nil] at h;subst h;exact bh.nil.mpr rfl
 | (k,d)::r,u,h=>by
  obtain ⟨Y,v,o,rfl,j,hd,l⟩:=bh.cons.mp h;have Z:=Fy (key:=key) l;unfold pF sX at Z ⊢
  by_cases e:bJ k=some key
  . have i:=(mX j).mp e;rw[iq (by simp[e]),iq (by simp[i])];exact Z
  . have i:¬ Y=key:=λz=>e ((mX j).mpr z);rw[kr (by simp[e]),kr (by simp[i])];exact bh.cons.mpr ⟨Y,v,_,rfl,j,hd,Z⟩
noncomputable def uU(i j t:Nat):MS:=λΓ=>match gv Γ t,gv Γ i,gv Γ j with
 | some kd,some (.dict fs),some (.dict ws)=>(match bJ kd with
  | some key=>(match cD key ws with
   | some d=>gd (fs.length<bt/\i < Γ.length/\j < Γ.length) (.ok (.nx ((Γ.set j (some (.dict (pF key ws)))).set i (some (.dict (gO kd key d fs))))))
   | none=>.bad)
  | none=>.bad)
 | _,_,_=>.bad
variable {tpos apos cpos:Pos}
theorem Tw(i j t:Nat){z:Str}{Q ap:Pos}(hu:X.A.units+66<kb)(hij:i≠j)(hti:t≠i)(htj:t≠j)(hi:isO (fl O i)=true:=by rfl)(hj:isO (fl O j)=true:=by rfl)(ht:fl O t= .zD:=by rfl)
 (R:X.N[i]?=some x:=by rfl) (hNy:X.N[j]?=some y:=by rfl) (J:X.N[t]?=some z:=by rfl)
 (hvx:Vis X.env.scope x:=by first | exact hX rfl | exact sM (hX rfl) | exact sM (sM rfl)) (hvy:Vis X.env.scope y:=by first | exact hX rfl | exact sM (hX rfl) | exact sM (sM rfl)) (e:Vis X.env.scope z:=by first | exact hX rfl | exact sM (hX rfl) | exact sM (sM rfl))
 (hdx:nD x:=by decide) (hcx:(x == ("__classdict__" : Str))=false:=by decide) (hdy:nD y:=by decide) (S:(y == ("__classdict__" : Str))=false:=by decide) (E:nD z:=by decide) (s:(z == ("__classdict__" : Str))=false:=by decide)
 (hm:M1 X (.Name y Q) "pop" apos (.Name z ap) cpos:=by exact ⟨rfl,rfl,rfl,rfl⟩)
 (hs:hV (.Call (.Attribute (.Name y Q) "pop" apos) [.Name z ap] [] cpos) (some (.Subscript (.Name x p) (.Name z p1) tpos)) pos.line X.env=pure false:=by rfl) :
 QS X (.Assign [.Subscript (.Name x p) (.Name z p1) tpos] (.Call (.Attribute (.Name y Q) "pop" apos) [.Name z ap] [] cpos) pos) (tS X.K rm Ol O O (uU i j t)):=by
 refine QS.imp (Nt (by lia) (dO R hvx hdx hcx) (dO J e E s) (XR (dO hNy hvy hdy S) (dO J e E s) hm) hs) λD σ H I=>?_;obtain ⟨A,B,Y,o,r,em,k⟩:=I;unfold uU at em
 cases q:gv Y t with
 | none=>rw[q] at em;cases em
 | some u=>
  cases L:gv Y i with
  | none=>rw[q,L] at em;cases em
  | some di=>
   cases M:gv Y j with
   | none=>rw[q,L,M] at em;cases di <;> cases em
   | some dj=>
    rw[q,L,M] at em
    cases di with
    | dict fs=>
     cases dj with
     | dict ws=>
      have em:(match bJ u with
       | some key=>(match cD key ws with
        | some d=>gd (fs.length<bt/\i<Y.length/\j<Y.length) (zi.ok (Out.nx ((Y.set j (some (.dict (pF key ws)))).set i (some (.dict (gO u key d fs))))))
        | none=>.bad)
       | none=>.bad)= .ok o:=em
      cases P:bJ u with
      | none=>rw[P] at em;cases em
      | some key=>
       rw[P] at em;have em:(match cD key ws with
        | some d=>gd (fs.length<bt/\i<Y.length/\j<Y.length) (zi.ok (Out.nx ((Y.set j (some (.dict (pF key ws)))).set i (some (.dict (gO u key d fs))))))
        | none=>.bad)= .ok o:=em
       cases hl:cD key ws with
       | none=>rw[hl] at em;cases em
       | some d=>
        rw[hl] at em;obtain ⟨⟨hz,hli,U⟩,em⟩:=bO em;cases em;obtain ⟨vt,et,st⟩:=r.slot t u q;rw[ht] at st;have vk:=Rp.key st P;obtain ⟨qj,uj,ej,Z,rj⟩:=vC r hj M;obtain ⟨v,lv,rv⟩:=(rj.look).1 d hl;have r1:=r.change (o':=.dK (sX uj key)) hj U (by rw[M];simp) ej Z (.inr ⟨_,_,rfl,rfl,Fy rj⟩);have C:gv (Y.set j (some (.dict (pF key ws)))) i=some (.dict fs):=by
         have:=L;unfold gv at this ⊢;rw[aQ (mw hij)];exact this
        obtain ⟨qi,ui,ei,l,ri⟩:=vC r1 hi C;refine ⟨.ref qj,dU ej,qj,rfl,.inl ⟨uj,.inl Z⟩,vt,dU et,uj,key,v,Z,vk,lv,.ref qi,dU ei,vt,dU et,qi,_,rfl,by rw[vk];exact xZ.k l (by rw[<- ri.length];exact hz),?_⟩;exact k σ A _ (r1.change hi (by rw[fq];exact hli) (by rw[C];simp) ei l (.inr ⟨_,_,rfl,rfl,bh.put P rv ri⟩)) (aD.refl _) (λ_ h _=>h)
     | _=>cases em
    | _=>cases em
variable {u:A8}{o:Obj}
section
variable      {d:Addr}
theorem zk.aft(I:zk X y8 σ H s)(h:H d=some (.dK u)):∃o,zk X y8 σ (zw H d (.frz o (.dK u))) s:=by
 have hd:=I.zS d _ h;obtain ⟨z,O,Q,C,o,P,S,J,R⟩:=id hd;have ne:∀{b:Addr},H b=none->b≠d:=λl y=>by rw[y,h] at l;cases l
 have nd:∀{b:Addr}{x:HO},H b=some x->x ≠ .dK u->b≠d:=λY j y=>by rw[y,h] at Y;exact j (Option.some.inj Y).symm
 refine ⟨o,⟨I.ok,I.os,I.bare,⟨I.base.keep,I.base.slot,λb i q n j=>?_,I.base.there,λb Z q=>?_,λb i M q=>?_,λb B q=>?_⟩,I.loc,I.cell,?_,λx c q=>?_,λq L=>?_,λb i q=>?_,I.len⟩⟩
 . have:=I.base.free b i q n j;rw[aH (ne this)];exact this
 . have:=I.base.tups b Z q;rw[aH (nd this (by intro z;cases z))];exact this
 . have:=I.base.mF b i M q;rw[aH (nd this (by intro z;cases z))];exact this
 . have:=I.base.lg b B q;rw[aH (nd this (by intro z;cases z))];exact this
 . rw[aH (ne I.free)];exact I.free
 . rw[aH (ne (I.jM x c q))];exact I.jM x c q
 . obtain ⟨D,v,E⟩:=I.pin q L;exact ⟨D,by rw[aH (ne v)];exact v,E⟩
 . have r:∀c a,H c=some (.own a)->zw H d (.frz o (.dK u)) c=some (.own a):=λc a q=>by rw[aH (nd q (by intro z;cases z))];exact q
   have p:∀c Z,H c=some (.tup Z)->zw H d (.frz o (.dK u)) c=some (.tup Z):=λc Z q=>by rw[aH (nd q (by intro z;cases z))];exact q
   by_cases Y:b=d
   . subst Y;rw[bc] at q;cases q;exact ⟨J,hd.stay (λ_ _ _ e=>e) (λc q=>r c _ q) p⟩
   . rw[aH Y] at q;exact (I.zS b i q).stay (λ_ _ _ e=>e) (λc q=>r c _ q) p
theorem zk.acR(I:zk X y8 σ H s)(h:H d=some (.frz o (.dK u)))(l:∀o u,X.H₀ d≠some (.frz o u)):zk X y8 σ (zw H d (.dK u)) s:=by
 have ne:∀{b:Addr},H b=none->b≠d:=λv y=>by rw[y,h] at v;cases v
 have nd:∀{b:Addr}{x:HO},H b=some x->x ≠ .frz o (.dK u)->b≠d:=λY j y=>by rw[y,h] at Y;exact j (Option.some.inj Y).symm
 refine ⟨I.ok,I.os,I.bare,⟨I.base.keep,I.base.slot,λb i q n j=>?_,I.base.there,λb Z q=>?_,λb i E q=>?_,λb C q=>?_⟩,I.loc,I.cell,?_,λx c q=>?_,λq D=>?_,λb i q=>?_,I.len⟩
 . have:=I.base.free b i q n j;rw[aH (ne this)];exact this
 . have:=I.base.tups b Z q;rw[aH (nd this (by intro z;cases z))];exact this
 . have:=I.base.mF b i E q;rw[aH (λz=>by rw[z] at q;exact l _ _ q)];exact this
 . have:=I.base.lg b C q;rw[aH (nd this (by intro z;cases z))];exact this
 . rw[aH (ne I.free)];exact I.free
 . rw[aH (ne (I.jM x c q))];exact I.jM x c q
 . obtain ⟨J,B,L⟩:=I.pin q D;exact ⟨J,by rw[aH (ne B)];exact B,L⟩
 . have r:∀c a,H c=some (.own a)->zw H d (.dK u) c=some (.own a):=λc a q=>by rw[aH (nd q (by intro z;cases z))];exact q
   have p:∀c Z,H c=some (.tup Z)->zw H d (.dK u) c=some (.tup Z):=λc Z q=>by rw[aH (nd q (by intro z;cases z))];exact q
   by_cases Y:b=d
   . subst Y;rw[bc] at q;cases q;exact (I.zS b _ h).2.stay (λ_ _ _ e=>e) (λc q=>r c _ q) p
   . rw[aH Y] at q;exact (I.zS b i q).stay (λ_ _ _ e=>e) (λc q=>r c _ q) p
end
noncomputable def Itk(d:Addr)(o:Obj)(u:A8):It:=⟨λi H=>H d=some (.frz o (.dK u))/\i<u.length,λi H x H'=>H'=H/\∃k v,u[i]?=some (k,v)/\x=kV k,λi H=>H d=some (.frz o (.dK u))/\u.length<=i⟩
variable {es:Array qa}
theorem qH(I:zk X y8 σ H s)(h:H a=some (.frz o (.dK u)))(e:o.data= .dict es ep) :
 (a == gu)=false/\∃vs,KV u vs/\s.heap.DictAt (bY X.prog X.w) a vs ep:=by
 obtain ⟨i,z,Z,vs,Y,B,p,v,l,r,j,q⟩:=I.zS a _ h;rw[i] at l;cases l;rw[e] at j;cases j;exact ⟨Z,vs,Y,o,es,i,r,e,q⟩
variable {tg:Expr}{it:Addr}
theorem Rj(ho:o.data= .dict es ep):Turn P w K tg (Itk a o u) [it] it (λi h=>h.IsKeyIter it a i u.length ep) where
 mem:=by simp
 obj:=λi h st b Z=>by
  have e:=by simpa using Z
  subst e;obtain ⟨o,e,c,a⟩:=st;exact ⟨o,e,λv z=>by rw[a] at z;cases z⟩
 keep:=λi h h' st k=>st.at λo e=>k it (by simp) o e
 item:=by
  intro X Q hw L hc i r s σ H E I C st O;subst Q hw L;obtain ⟨hd,hi⟩:=O;obtain ⟨hsm,S,Y,j⟩:=qH I hd ho;have B:=Y.length;obtain ⟨⟨k,x⟩,hx⟩:∃q,S[i]?=some q:=⟨S[i],av (by lia)⟩;obtain ⟨⟨k2,v2⟩,g1,D,g3⟩:=Paired.getL Y hx;have D:=D;subst D;obtain ⟨R,U,f2,J,M,f5⟩:=C it (by simp);rw[B] at st;refine wpAny_pyNext_dict_item st j hx λkey h' p l sb=>?_;have I1:=I.turned (t':=s.toks) (λb o Z e=>(sb.2 b Z).trans e) R U J M f5;obtain ⟨o2,e,c,dd⟩:=id l;exact ⟨key,rfl,zj e c dd (by decide) ⟨kV k2,H,I1,Hj p,⟨rfl,k2,v2,g1,rfl⟩,by rw[B];exact l,λb Z=>(C b Z).1⟩⟩
 done:=by
  intro X Q hw L hc i r s σ H E I C st O;subst Q hw L;obtain ⟨hd,hi⟩:=O;obtain ⟨hsm,S,Y,j⟩:=qH I hd ho;have B:=Y.length;obtain ⟨R,U,f2,J,M,f5⟩:=C it (by simp);rw[B] at st;exact wpAny_pyNext_dict_end (I.ok.hd hc) st j (by simp;lia) λh' eb=>⟨rfl,I.turned (λb o Z e=>eb b o Z e) R U J M f5⟩
 self:=λ_ _ _ _ _ st h=>wpAny_pyIter_keyiter st h
def ad4(te:TE):TI:=λσ H R=>te σ H λx H1=>∃d o u,x= .ref d/\H1 d=some (.frz o (.dK u))/\R (Itk d o u) H1
theorem aac{l:Expr}{D:TE}(q:PE X l D):PI X tg l (ad4 D):=by
 intro Z s O H R I h;refine thn (q Z s O H _ I h) λv j i=>?_;obtain ⟨x,H1,Y,M,d,o,u,ex,hd,S⟩:=i;subst ex;obtain rfl:v=hZ d:=M;obtain ⟨E,z,r,Q,p,o',J,ep,C,U,B,P⟩:=Y.zS d _ hd;rw[E] at C;cases C;have q:=p.length;refine wpAny_pyIter_dict r ⟨o,J,E,U,B,P⟩ ?_;have kp:∀b ob,j.heap.get? b=some ob->(j.heap.push { cls:=.type "dict_keyiterator",data:=.fields #[.ref d,.int 0 0,.int Q.length 0,.int ep 0] }).get? b=some ob:=λb ob e=>ax _ e;refine ⟨j.heap.objs.size,[j.heap.objs.size],_,Itk d o u,H1,rfl,Y.un (Un.kept kp) (Y.zS.kept kp),Rj B,⟨_,cm _ rfl,rfl,by rw[q];rfl⟩,λb L=>?_,S⟩;rw[aw.mp L];exact Y.qy (ay _) (Y.zS.fresh (ay _))
noncomputable def sw(d:Addr)(y:HO)(F:Hp):Hp:=λb=>if b=d then (F b).map λ_=>y else F b
variable {F:Hp}
theorem km{b:Addr}{y:HO}(h:b≠a):sw a y F b=F b:=if_neg h
variable {z:HO}
theorem tR{y:HO}(h:F a=some z):sw a y F a=some y:=by rw[sw,if_pos rfl,h];rfl
theorem gC:sw a z F c=none↔F c=none:=by
 unfold sw;split
 . exact rk
 . exact Iff.rfl
theorem TJ{d:Addr}{y:HO}(h:F d=some z):sw d y F=zw F d y:=by
 funext b;unfold sw zw;split
 . rename_i e;subst e;rw[h];rfl
 . rfl
theorem Ex{d:Addr}{y:HO}(s:aD A H):aD (sw d y A) (sw d y H):=λb o e=>by
 by_cases Y:b=d
 . subst Y
   cases q:A b with
   | none=>rw[gC.mpr q] at e;cases e
   | some z=>rw[tR q] at e;cases e;exact tR (s _ _ q)
 . rw[km Y] at e ⊢;exact s _ _ e
def IsU(u:A8)(z:HO):Prop:=z= .dK u\/∃o,z= .frz o (.dK u)
theorem IsU.rd{Y:A8}(h:A a=some z)(i:IsU u z)(r:Rd A a (.dK Y)):Y=u:=by
 rcases i with rfl | ⟨o,rfl⟩ <;> rcases r with r | ⟨Z,r⟩ <;> rw[h] at r <;> cases r <;> rfl
theorem IsU.of(h:A a=some z)(i:IsU u z):Rd A a (.dK u):=by
 rcases i with rfl | ⟨o,rfl⟩
 . exact .inl h
 . exact .inr ⟨o,h⟩
variable {B:Hp}{xs:List (B3×Addr×bg)}{Γ:Ev}
section
variable  {d:Addr}  {y:HO}
def AtU(F:Hp)(d:Addr)(u:A8):Prop:=∀z,F d=some z->IsU u z
theorem Uw{xs:C0}(h:AtU F d u)(r:SqL K F a xs):SqL K (sw d y F) a xs:=by
 rcases r with (e | ⟨o,e⟩) | k
 . exact .inl (.inl (by rw[km (λq=>by subst q;rcases h _ e with z | ⟨_,z⟩ <;> cases z)];exact e))
 . exact .inl (.inr ⟨o,by rw[km (λq=>by subst q;rcases h _ e with z | ⟨_,z⟩ <;> cases z)];exact e⟩)
 . exact .inr k
theorem IW{xs:C0}(h:AtU F d u)(r:SqT K F a xs):SqT K (sw d y F) a xs:=by
 rcases r with (e | ⟨o,e⟩) | k
 . exact .inl (.inl (by rw[km (λq=>by subst q;rcases h _ e with z | ⟨_,z⟩ <;> cases z)];exact e))
 . exact .inl (.inr ⟨o,by rw[km (λq=>by subst q;rcases h _ e with z | ⟨_,z⟩ <;> cases z)];exact e⟩)
 . exact .inr k
theorem Tc{w:A8}(h:AtU F d u)(Y:IsU u y)(r:Rd F a (.dK w)):Rd (sw d y F) a (.dK w):=by
 by_cases q:a=d
 . subst q;obtain ⟨z,e⟩:∃z,F a=some z:=by rcases r with e | ⟨o,e⟩ <;> exact ⟨_,e⟩
   rw[IsU.rd e (h _ e) r];exact Y.of (tR e)
 . rcases r with e | ⟨o,e⟩
   . exact .inl (by rw[km q];exact e)
   . exact .inr ⟨o,by rw[km q];exact e⟩
mutual
theorem zz(h:AtU A d u)(hy:IsU u y):∀(x:ab) {v:V},Rp K A x v->Rp K (sw d y A) x v
 | .none,v,r=>by rw[Rp] at r ⊢;exact r
 | .bool _,v,r=>by rw[Rp] at r ⊢;exact r
 | .int _,v,r=>by rw[Rp] at r ⊢;exact r
 | .str _,v,r=>by rw[Rp] at r ⊢;exact r
 | .list ds,v,r=>by
  rw[Rp] at r ⊢;obtain ⟨a,vs,h1,h2,h3⟩:=r;exact ⟨a,vs,h1,Uw h h2,rK h hy ds h3⟩
 | .tuple ds,v,r=>by
  rw[Rp] at r ⊢;obtain ⟨a,vs,h1,h2,h3⟩:=r;exact ⟨a,vs,h1,IW h h2,rK h hy ds h3⟩
 | .dict y9,v,r=>by
  rw[Rp] at r ⊢;obtain ⟨a,w,h1,h2,h3⟩:=r;exact ⟨a,w,h1,Tc h hy h2,zM h hy y9 h3⟩
theorem rK(h:AtU A d u)(hy:IsU u y):∀(ds:B4) {vs:C0},au K A ds vs->au K (sw d y A) ds vs
 | [],vs,r=>by rw[au] at r ⊢;exact r
 | x::ds,vs,r=>by
  rw[au] at r ⊢;obtain ⟨v,t,h1,h2,h3⟩:=r;exact ⟨v,t,h1,zz h hy x h2,rK h hy ds h3⟩
theorem zM(h:AtU A d u)(hy:IsU u y):∀(y9:B0) {w:A8},bh K A y9 w->bh K (sw d y A) y9 w
 | [],w,r=>by rw[bh] at r ⊢;exact r
 | (k,x)::t,w,r=>by
  rw[bh] at r ⊢;obtain ⟨key,v,w',h1,h2,h3,h4⟩:=r;exact ⟨key,v,w',h1,h2,zz h hy x h3,zM h hy t h4⟩
end
theorem aew{x:ab}(e:AtU A d u)(q:AtU B d u)(Z:IsU u y)(p:Pk K A B x v):Pk K (sw d y A) (sw d y B) x v:=by
 rcases p with p | ⟨p,s,r,j,i,l,o⟩ | ⟨p,w,Y,j,i,l,o⟩
 . exact .inl (zz e Z x p)
 . exact .inr (.inl ⟨p,s,r,j,i,Uw q l,rK e Z r o⟩)
 . exact .inr (.inr ⟨p,w,Y,j,i,Tc q Z l,zM e Z Y o⟩)
theorem Np{x:ab}{o:HO}(j:AtU A d u)(i:IsU u y)(h:jb K A x o):jb K (sw d y A) x o:=by
 rcases h with ⟨l,p,e,Z,h⟩ | ⟨Y,w,e,Z,h⟩
 . exact .inl ⟨l,p,e,Z,rK j i l h⟩
 . exact .inr ⟨Y,w,e,Z,zM j i Y h⟩
theorem acP{xs:List (dF×Addr×bg)}(Y:AtU A d u)(Z:IsU u y)(h:RpN K A y9 xs):RpN K (sw d y A) y9 xs:=by
 obtain ⟨e,i,j⟩:=h;exact ⟨e,i.keeps λb l q=>IW Y q,Paired.sO j λ_ _ z=>⟨z.1,zz Y Z _ z.2⟩⟩
theorem adl(Y:AtU A d u)(Z:IsU u y)(h:RpT K A y9 xs):RpT K (sw d y A) y9 xs:=
 Paired.sO h λ_ _ z=>⟨z.1,IW Y z.2.1,z.2.2.imp λv q=>⟨q.1,zz Y Z _ q.2⟩⟩
theorem AtU.sub(s:aD A H)(h:AtU H d u):AtU A d u:=λz e=>h z (s _ _ e)
theorem aY.sw(r:aY K A B H O σ Γ)(M:AtU H d u)(hd:A d≠none\/B d≠none)(I:IsU u y):aY K (sw d y A) (sw d y B) (sw d y H) O σ Γ:=by
 have l:=M.sub r.a;have R:=M.sub r.b;have nd:∀{p:Addr},A p=none->B p=none->p≠d:=λa b z=>by
  subst z;rcases hd with q | q
  . exact q a
  . exact q b
 refine ⟨Ex r.a,Ex r.b,r.len,λi x e=>?_,r.sep⟩;obtain ⟨v,ev,q⟩:=r.slot i x e;refine ⟨v,ev,?_⟩
 cases E:fl O i with
 | zD=>rw[E] at q;exact zz l I x q
 | zC=>rw[E] at q;exact aew l R I q
 | own=>
  rw[E] at q;obtain ⟨p,o,rfl,j,Z,Y,s⟩:=q;exact ⟨p,o,rfl,by rw[km (nd Z Y)];exact j,gC.mpr Z,gC.mpr Y,Np l I s⟩
 | fix U=>
  rw[E] at q;obtain ⟨Q,p,o,rfl,j,Z,Y,s⟩:=q;exact ⟨Q,p,o,rfl,by rw[km (nd Z Y)];exact j,gC.mpr Z,gC.mpr Y,Np l I s⟩
 | kit=>
  rw[E] at q;obtain ⟨p,J,D,j,Z,Y,s⟩:=q;exact ⟨p,J,D,j,Z,by rw[km (λz=>by subst z;rcases l _ Y with z | ⟨_,z⟩ <;> cases z)];exact Y,adl l I s⟩
 | exc C=>
  rw[E] at q;obtain ⟨p,S,j,Z,Y⟩:=q;exact ⟨p,S,j,by rw[km (λz=>by subst z;rcases l _ Z with z | ⟨_,z⟩ <;> cases z)];exact Z,Y⟩
 | nst b=>
  rw[E] at q;intro z;obtain ⟨p,J,D,j,Z,Y,s,L,P⟩:=q z;exact ⟨p,J,D,j,Z,by rw[km (nd s L)];exact Y,gC.mpr s,gC.mpr L,acP l I P⟩
theorem Om{y:HO}(h:∀x,F d=some x->x=z):sw d z (sw d y F)=F:=by
 funext b
 by_cases q:b=d
 . subst q
   cases e:F b with
   | none=>exact gC.mpr (gC.mpr e)
   | some x=>rw[tR (tR e),h x e]
 . rw[km q,km q]
theorem acT{y:HO}(h:New (sw d y A) H (sw d y B)):New A (sw d z H) B:=λp Y Z=>gC.mpr (h p (gC.mpr Y) (λe=>Z (gC.mp e)))
theorem Xj{y:HO}(h:aD (sw d y A) H)(Y:∀x,A d=some x->x=z):aD A (sw d z H):=by
 have:=Ex (d:=d) (y:=z) h;rwa [Om Y] at this
end
def V0(σ:St)(H:Hp)(i:Nat):Prop:=∃d o u,sv σ i=some (.ref d)/\H d=some (.frz o (.dK u))
noncomputable def itK(i:Nat):MI:=λΓ=>match gv Γ i with
 | some (.dict y9)=>.ok (y9.map (·.1))
 | _=>.bad
def ada(K:aE)(O:B9)(i:Nat)(it:MI):TI:=λσ H R=>V0 σ H i/\tIc K O it σ H R
def tSz(K:aE)(rm:Rm)(Ol O O':B9)(i:Nat)(m:MS):TS:=λD σ H=>V0 σ H i/\tS K rm Ol O O' m D σ H
noncomputable def isR:Fl->Bool
 | .zD=>true
 | .zC=>true
 | _=>false
theorem yj(r:aY K A B H O σ Γ)(D:isR (fl O i)=true)(J:gv Γ i=some (.dict y9)) :
 ∃d u z,sv σ i=some (.ref d)/\H d=some z/\IsU u z/\(A d≠none\/B d≠none)/\bh K A y9 u:=by
 obtain ⟨v,ev,q⟩:=r.slot i _ J;have go:∀{F:Hp}{d:Addr}{u:A8},aD F H->Rd F d (.dK u)->F d≠none/\∃z,H d=some z/\IsU u z:=λs rd=>by
  rcases rd with e | ⟨o,e⟩
  . exact ⟨by rw[e];simp,_,s _ _ e,.inl rfl⟩
  . exact ⟨by rw[e];simp,_,s _ _ e,.inr ⟨o,rfl⟩⟩
 have p:Pk K A B (.dict y9) v:=by
  cases l:fl O i with
  | zD=>rw[l] at q;exact .inl q
  | zC=>rwa [l] at q
  | _=>rw[l] at D;cases D
 rcases p with p | ⟨p,L,M,I,j,Y,Z⟩ | ⟨p,w,E,I,j,Y,Z⟩
 . obtain ⟨d,u,rfl,Y,Z⟩:=Rp.dict.mp p;obtain ⟨n,z,e,C⟩:=go r.a Y;exact ⟨d,u,z,ev,e,C,.inl n,Z⟩
 . cases j
 . cases j;subst I;obtain ⟨n,z,e,C⟩:=go r.b Y;exact ⟨p,w,z,ev,e,C,.inr n,Z⟩
theorem RV{xs:B4}(h:itK i Γ = .ok xs):∃y9,gv Γ i=some (.dict y9)/\xs=y9.map (·.1):=by
 unfold itK at h
 cases e:gv Γ i with
 | none=>rw[e] at h;cases h
 | some d=>
  rw[e] at h
  cases d with
  | dict y9=>cases h;exact ⟨y9,rfl,rfl⟩
  | _=>cases h
theorem Ky{k:ab}{key:Key}(h:bJ k=some key):Rp K A k (kV key):=by
 cases k with
 | int i=>cases h;exact Rp.int.mpr rfl
 | str x=>cases h;exact Rp.str.mpr rfl
 | _=>cases h
section
variable  {Ob O1:B9}  {is:B5}{it:MI}{g:MG}{mc me:ME}{elt iter:Expr}{ifs:C1}  {nt:Nat}
theorem aaU(i:Nat)(hi:isR (fl O i)=true:=by rfl)(j:Nm X i x:=by walk_at "nm"):QI X tg (.Name x pos) (ada X.K O i (itK i)):=
 QI.imp (aac (dO j.1 j.2 j.3 j.4)) λσ H R Z=>by
  obtain ⟨⟨d,o,u,q,e⟩,A,B,Γ,xs,r,em,k⟩:=Z;obtain ⟨L,Q,rfl⟩:=RV em;obtain ⟨d',s,z,C,l,J,f4,D⟩:=yj r hi Q;rw[q] at C;cases C;rw[e] at l;cases l;have P:s=u:=by
   rcases J with z | ⟨o',z⟩ <;> cases z;rfl
  subst P;have hl:=D.len;refine ⟨.ref d,dU q,d,o,s,rfl,e,k _ A H (aZ.refl r.a) ⟨λn E M Y p=>⟨Y _ _ e,by rw[ag] at p;lia⟩,λE M Y=>⟨Y _ _ e,by rw[ag];lia⟩,λn A2 E v H3 sa Y s3 p U=>?_⟩⟩;obtain ⟨rfl,key,w,S,rfl⟩:=U;obtain ⟨k1,d1,g1,I,g3⟩:=vN D S;exact ⟨A2,k1,by rw[ba,g1];rfl,aZ.refl Y,Ky I⟩
theorem YC{st:Stmt}{m:MS}(i:Nat)(hi:isR (fl O i)=true)(hm:∀Γ o,m Γ = .ok o->(∃y9,gv Γ i=some (.dict y9))/\∃l,o= .nx l)(h:QS X st (tSz X.K rm Ol O O' i m)):QS X st (tS X.K rm Ol O O' m):=by
 refine ⟨λj s S H D I ⟨A,B,Γ,x,r,em,k⟩=>?_⟩;obtain ⟨⟨y9,hg⟩,l,rfl⟩:=hm Γ x em;obtain ⟨d,u,z,f1,Z,f3,L,f5⟩:=yj r hi hg;rcases f3 with rfl | ⟨o,rfl⟩
 . obtain ⟨o,Q⟩:=I.aft Z;have hH:AtU H d u:=λz e=>by rw[Z] at e;cases e;exact .inl rfl
   have r1:=r.sw hH L (.inr ⟨o,rfl⟩);rw[<- TJ Z] at Q;have eA:∀z,A d=some z->z= .dK u:=λz e=>by have:=r.a _ _ e;rw[Z] at this;cases this;rfl
   have eB:∀z,B d=some z->z= .dK u:=λz e=>by have:=r.b _ _ e;rw[Z] at this;cases this;rfl
   have P:sw d (.frz o (.dK u)) A d≠none\/sw d (.frz o (.dK u)) B d≠none:=by
    rcases L with q | q
    . exact .inl λz=>q (gC.mp z)
    . exact .inr λz=>q (gC.mp z)
   refine thn (h.h j s S _ ⟨λY E=>∃p,aY X.K p (sw d (.frz o (.dK u)) B) E O' Y l/\aD (sw d (.frz o (.dK u)) A) p/\New (sw d (.frz o (.dK u)) A) p (sw d (.frz o (.dK u)) B),λ_ _=>False,λ_ _=>False,λ_ _=>False⟩ Q ⟨⟨d,o,u,f1,tR Z⟩,_,_,Γ,_,r1,em,λY p E J C nw=>⟨p,J,C,nw⟩⟩) λfl s1 q=>?_
   cases fl with
   | next=>
    obtain ⟨Y,E,I2,p,J,C,nw⟩:=q;have M:E d=some (.frz o (.dK u)):=by
     rcases L with q | q
     . cases e:A d with
       | none=>exact absurd e q
       | some z=>exact J.a _ _ (C _ _ (tR e))
     . cases e:B d with
       | none=>exact absurd e q
       | some z=>exact J.b _ _ (tR e)
    have hU:AtU E d u:=λz e=>by rw[M] at e;cases e;exact .inr ⟨o,rfl⟩
    have R:=I2.acR M λo' u' q=>by have:=I.base.mF _ _ _ q;rw[Z] at this;cases this
    rw[<- TJ M] at R;have U:=J.sw hU (by
     rcases P with q | q
     . left;intro z
       cases e:sw d (.frz o (.dK u)) A d with
       | none=>exact q e
       | some x=>rw[C _ _ e] at z;cases z
     . exact .inr q) (.inl rfl)
    rw[Om eB] at U;exact ⟨Y,_,R,k Y _ _ U (Xj C eA) (acT nw)⟩
   | ret v=>
    obtain ⟨_,_,_,_,_,z⟩:=q;exact lb z
   | brk=>obtain ⟨_,_,_,z⟩:=q;exact lb z
   | cont=>obtain ⟨_,_,_,z⟩:=q;exact lb z
 . exact h.h j s S H D I ⟨⟨d,o,u,f1,Z⟩,A,B,Γ,_,r,em,k⟩
theorem Xf(q i:Nat){O2:B9}(l:B6)(ix:B5)(E:isR (fl O q)=true)(P:X.N.Nodup)(s:X.N[i]?=some y)(R:Loc X.env.scope y)(S:iH X scope ix=true)(J:X.calm=true)(I:Ob=m6 l.length ix O)(r:nt=l.length)(B:∀j∈is,j<l.length)(hi:QI X tg iter (ada X.K O q (itK q)))
 (M:∀cl C Y Z fp,QG (X.comp scope l ix cl C Y Z fp) tg (tG X.K Ob O1 is g)) (U:∀cl C Y Z fp,xU (X.comp scope l ix cl C Y Z fp) ifs (tT X.K O1 mc)) (he:∀cl C Y Z fp,QE (X.comp scope l ix cl C Y Z fp) elt (tE X.K O1 me))
 (hl:i<O.length:=by exact of_decide_eq_true rfl) (u:hV (.ListComp elt [⟨tg,iter,ifs,0⟩] scope pos) (some (.Name y p)) p1.line X.env=pure true:=by rfl)
 (hf:X.fn y=true\/X.env.scope.names.lookup y=some .local:=by walk_at "hf")
 (hs:∀x,iP iter X.env x=pure x:=by intro _;rfl) (L:O.set i .own=O2:=by rfl):QS X (.Assign [.Name y p] (.ListComp elt [⟨tg,iter,ifs,0⟩] scope pos) p1) (tS X.K rm Ol O O2 (aU i (bR (itK q) g mc me nt ix))):=
 YC q E (λΓ o h=>by
  obtain ⟨x,Q,h⟩:=zi.aq h;obtain ⟨xs,e2,_⟩:=zi.aq Q;obtain ⟨v,e,_⟩:=RV e2;obtain ⟨_,h⟩:=bO h;cases h;exact ⟨⟨v,e⟩,_,rfl⟩) (L ▸ QS.imp (Mt P s R S J hi.h (λcl C Y Z fp=>(M cl C Y Z fp).h) (λcl C Y Z fp=>(U cl C Y Z fp).h) (λcl C Y Z fp=>(he cl C Y Z fp).h) u hf hs) λD σ H h=>⟨h.1,yc (λσ' H' Q' z=>Av I r B z) hl h.2⟩)
end
section
variable     {base:Heap}
theorem aaj{st:Stmt}{fs:B9}{m:MS}(F:At K mg "ways" st ps)(hT:TabAt K mg T)(S:cL N ps (aM st))(hf:fs.length=ps.length)(hn:ps.length<=N.length)
 (u:∀i,i<fs.length->(fl O i= .zD/\fl fs i= .zD)\/fl O i= .zC)
 (hbody:∀(f cd:Addr) (A:gx) (AA:C5) (s:cy) (H:Hp) (E:XK),iL K cd T=true->dJ ep (A.deeper (oy "ways" (aM st) s.heap.objs.size f (.ref cd))) ->
  QSs (mK CX0 P w K mg base N "ways" (aM st) f (.ref cd) A AA s H E).nox (bK st) (tS K rm Ol O O' m)):Def P w K mg base (ep+1) "ways" ps (spF K fs rm (fnR N.length m)):=by
 obtain ⟨f,fd,F,b,l⟩:=F.ex;refine ⟨f,fd,?_,b,F.kp,l⟩;obtain ⟨oc,od,kV,doc,pm,an,I,ct,C,rfl,lk,Z⟩:=F.ex;obtain ⟨f',o,L,c,j,p,Y,e,z⟩:=hT;rw[l] at j;cases j;rw[lk] at p;cases p;have Y:=Y;cases Y;have e:=e;subst e;refine Yc lk Z S (λM H Q E h=>?_) λA AA s H M Q E hr h=>?_
 . obtain ⟨A,r,d,_,h,_⟩:=h;rw[h.length.1,hf]
 . obtain ⟨U,r,d,ha,h,em,q⟩:=h;obtain ⟨o,J,em⟩:=zi.aq em
   cases o with
   | rt d'=>
    cases em;exact ⟨_,(hbody f c A AA s H E z hr).h.nox,U,H,_,_,p7 ha h u (by lia),J,λv A2 H2 B R D nw rv=>q v A2 H2 ⟨D,R,B,nw⟩ rv⟩
   | _=>cases em
theorem WW{f:Addr}(Z:mg "ways"= some (.ref f))(h:qg K f T=true):TabAt K mg T:=by
 unfold qg at h;rw[dQ] at h;have h:=h.1;split at h
 . rename_i l i fd j e;split at h
   . rename_i c Y;exact ⟨f,_,fd,c,Z,e,rfl,Y,h⟩
   . cases h
 . cases h
end
noncomputable def yV:B4->zi ab
 | [.dict y9]=>gd (y9.length<=bt) (.ok (.list (y9.map (·.1))))
 | _=>.bad
theorem Mr:∀{y9:B0}{u:A8},bh K A y9 u->au K A (y9.map (·.1)) (u.map λq=>kV q.1)
 | [],u,h=>by rw[bh.nil.mp h];exact au.nil.mpr rfl
 | (k,d)::r,u,h=>by
  obtain ⟨key,v,e,rfl,Z,i,Y⟩:=bh.cons.mp h;exact au.cons.mpr ⟨_,_,rfl,Ky Z,Mr Y⟩
theorem Gm{P:gi}{w:kz}:∀{u:A8}{vs:List (Key×bg)}{zd:B8},KV u vs->zd.length=vs.length->(∀(j:Nat) (v:bg),zd[j]?=some v->∃(k:Key) (x:bg),vs[j]?=some (k,x)/\(bY P w).is k v=true)->zv (u.map λq=>kV q.1) zd
 | [],_,[],_,_,_=>.nil
 | [],_,a::zd,.nil,Y,_=>by simp at Y
 | q::u,_,[],.cons r t,Y,_=>by simp at Y
 | q::u,vs,a::zd,h,Y,i=>by
  cases h with
  | @cons _ C _ s r t=>
   obtain ⟨k,x,Z,o⟩:=i 0 a rfl;have Z:=Option.some.inj Z;subst Z;refine .cons ?_ (Gm (P:=P) (w:=w) t (by simpa using Y) λj v e=>?_)
   . show zo (kV q.1) a;rw[r.1];exact Hj o
   . obtain ⟨p,z,B,l⟩:=i (j+1) v (by simpa using e);exact ⟨p,z,by simpa using B,l⟩
theorem QH(J:X.calm=true):fD X (.type "list") (λxs H Q=>∃p u,xs=[.ref p]/\Rd H p (.dK u)/\∀l,H l=none->Q (.ref l) (zw H l (.lst (u.map λq=>kV q.1)))):=by
 rintro D s σ H xs S Q I r ⟨p,u,rfl,P,q⟩;obtain ⟨z,rfl,M⟩:=vals1 r;cases M;obtain ⟨hz,Z,vs,C,O⟩:=qL I.zS P;obtain ⟨ep,i⟩:=O.dictAt;have hl:=C.length;refine PySem.W.kdl_call (PySem.W.kdl_dict Z) (I.ok.hd J) i (by lia) λU tk o c E L Y=>?_;have B:=I.zS.fresh (ay s.heap.objs.size);have R:=Gm C (by rw[e8];exact Y.1) λj v e=>Y.2 j v (by rw[<- fI];exact e);refine ⟨.ref s.heap.objs.size,_,I.un (Un.laid E (ay _) B) (I.zS.laid E (ay _) ?_),rfl,q _ B⟩;exact ⟨by rw[ag];lia,o.toList,c,R,by rw[Array.toArray_toList];exact L⟩
theorem Iw(o:X.calm=true):fD X (.type "list") (rCF X.K yV):=by
 rintro Y s J H M z Q I r ⟨A,B,d,e,i,p,k⟩
 match B,e with
 | [.dict y9],e=>
  obtain ⟨L,e⟩:=bO e;cases e;obtain ⟨v,O,rfl,D,j⟩:=p.cons;obtain rfl:=j.nil;obtain ⟨l,u,rfl,C,E⟩:=D.dict i;exact QH o Y s J H _ z Q I r ⟨l,u,rfl,C,λq Z=>k _ A _ (aZ.lay i Z) ⟨q,_,rfl,Z,bc,i.free Z,.inl ⟨_,_,rfl,rfl,Mr E⟩⟩⟩
def NX(m:MS):Prop:=∀Γ o,m Γ = .ok o->∃Γ',o= .nx Γ'
theorem ac6:NX cP:=λY o h=>by cases h;exact ⟨_,rfl⟩
theorem ac9{a b:MS}(j:NX a)(Z:NX b):NX (aG a b):=λe o h=>by
 obtain ⟨i,l,h⟩:=zi.aq h;obtain ⟨Y,rfl⟩:=j e i l;exact Z Y o h
theorem adP{c:ME}{a b:MS}(e:NX a)(Z:NX b):NX (sIf c a b):=λY o h=>by
 obtain ⟨x,i,h⟩:=zi.aq h
 cases x with
 | bool t=>cases t with
  | true=>exact e Y o h
  | false=>exact Z Y o h
 | _=>cases h
theorem ab0{m:ME}:NX (lN i m):=λY o h=>by
 obtain ⟨d,_,h⟩:=zi.aq h;split at h
 . obtain ⟨_,h⟩:=bO h;cases h;exact ⟨_,rfl⟩
 . cases h
theorem abD{m Y:ME}:NX (je i m Y):=λe o h=>by
 obtain ⟨d,_,h⟩:=zi.aq h;obtain ⟨Z,_,h⟩:=zi.aq h;split at h
 . split at h
   . obtain ⟨_,h⟩:=bO h;cases h;exact ⟨_,rfl⟩
   . cases h
 . cases h
theorem Ny{g:MG}{cl:B5}{b:MS}(e:NX b):∀{xs:B4}{Γ:Ev}{o:Out},forR g cl b xs Γ = .ok o->∃Y,o= .nx Y
 | [],Γ,o,h=>by cases h;exact ⟨_,rfl⟩
 | x::xs,Γ,o,h=>by
  rw[forR] at h;obtain ⟨Z,_,h⟩:=zi.aq h;obtain ⟨i,j,h⟩:=zi.aq h;obtain ⟨Y,rfl⟩:=e Z i j;exact Ny e h
def tIK(K:aE)(O:B9)(i:Nat)(it:MI):TI:=λσ H R=>V0 σ H i/\tI K O it σ H R
noncomputable def Itd(d:Addr)(o:Obj)(u:A8):It:=
 ⟨λi H=>H d=some (.frz o (.dK u))/\i<u.length,λi H x H'=>∃p k v,H p=none/\x= .ref p/\H'=zw H p (.tup [kV k,v])/\u[i]?=some (k,v),λi H=>H d=some (.frz o (.dK u))/\u.length<=i⟩
theorem Zo:entryFor table "dict_itemiterator.__iter__"= some Builtin.«dict_keyiterator.__iter__» := entryFor_alias (id':= "dict_keyiterator.__iter__") (by kernel_rfl) rfl (by decide +kernel) (by kernel_rfl)
theorem PQ{A:gx}{ok Z:bg}(Y:IsItemIter s.heap it a i j ep ok Z)(h:Q (.ref it) s):de (dn P w) A (yv (.ref it)) Q E s:=by
 have hT:s.TypeIs (.ref it) "dict_itemiterator" := ⟨_,Y,rfl⟩;refine rg hT pf (fb pf hT Zo ?_ (PySem.F.args_dict_itemiterator_iter_1 _));exact aS ⟨_,rfl, "dict_itemiterator",_,hT,PySem.F.slot_dict_itemiterator_next.lookup,h⟩
variable {elts:C1}
theorem P0{x1}(ho:o.data= .dict es ep) :
 Turn P w K (.Tuple elts x1 tpos) (Itd a o u) [it] it (λi h=>∃ok Z,IsItemIter h it a i u.length ep ok Z) where
 mem:=by simp
 obj:=λi h st b p=>by
  have e:b=it:=by simpa using p
  subst e;obtain ⟨ok,Z,e⟩:=st;exact ⟨_,e,λv z=>by cases z⟩
 keep:=λi h R st k=>by
  obtain ⟨ok,Z,e⟩:=st;exact ⟨ok,Z,k it (by simp) _ e⟩
 item:=by
  intro X hP hw Q l i B s σ H E I M st S;subst hP hw Q;obtain ⟨ok,Z,st⟩:=st;obtain ⟨hd,hi⟩:=S;obtain ⟨hsm,vs,Y,j⟩:=qH I hd ho;have L:=Y.length;obtain ⟨⟨k,x⟩,hx⟩:∃q,vs[i]?=some q:=⟨vs[i],av (by lia)⟩;obtain ⟨⟨k2,v2⟩,g1,O,g3⟩:=Paired.getL Y hx;have O:k2=k:=O;subst O;have fz:=M it (by simp);rw[L] at st;refine wpAny_pyNext_items_item st j hx λkey R r U hN hsz hk=>?_;refine ⟨_,rfl,?_⟩;refine wpAny_letOwnedTupleGo_items (s:={ s with heap:=R }) U λh2 hz2 D=>?_;have J:H s.heap.objs.size=none:=I.zS.fresh (ay _);have C:s.heap.objs.size≠it:=nN (cx st);have hN2:h2.get? s.heap.objs.size=some { cls:=.type "tuple",data:=.seq #[key,x] }:=D.extBut _ _ C hN;have k3:∀c ob,s.heap.get? c=some ob->c∉[it]->h2.get? c=some ob:=λc ob q l=>D.extBut c ob (λe=>l (by simp[e])) (hk c ob (λe=>l (by simp[e])) q);have I2:=I.zB (tk:=s.toks) M k3 hN2 rfl rfl (Hj r) g3;refine ⟨.ref s.heap.objs.size,_,I2,rfl,⟨_,k2,v2,J,rfl,rfl,g1⟩,⟨key,x,by rw[L];exact hz2⟩,λb p=>?_⟩;have hb':b=it:=by simpa using p
  subst hb';rw[aH (mw C)];exact fz.1
 done:=by
  intro X hP hw Q l i B s σ H E I M st S;subst hP hw Q;obtain ⟨ok,Z,st⟩:=st;obtain ⟨hd,hi⟩:=S;obtain ⟨hsm,vs,Y,j⟩:=qH I hd ho;have L:=Y.length;obtain ⟨f0,f1,f2,f3,f4,f5⟩:=M it (by simp);rw[L] at st;exact wpAny_pyNext_items_end (I.ok.hd l) st j (by simp;lia) λR eb=>⟨rfl,I.turned (t':=s.toks) (λb o p e=>eb b o p e) f0 f1 f3 f4 f5⟩
 self:=λ_ _ _ _ _ st h=>by
  obtain ⟨ok,Z,st⟩:=st;exact PQ st h
def ac3(te:TE):TI:=λσ H R=>te σ H λx H1=>∃d o u,x= .ref d/\H1 d=some (.frz o (.dK u))/\R (Itd d o u) H1
theorem XC{P:TE}{x1}(hl:PE X tg P)(i:l5 tg "items" X.env (eval tg X.env)=eval tg X.env:=by rfl)(Y:(apos.endLine == cpos.line)=true:=by rfl):PI X (.Tuple elts x1 tpos) (.Call (.Attribute tg "items" apos) [] [] cpos) (ac3 P):=by
 intro q s σ H R I h;refine wpAny_Call_method0_late i Y (thn (hl q s σ H _ I h) λv Z r=>?_);obtain ⟨x,H1,j,r1,d,o,u,ex,hd,hR⟩:=r;subst ex;obtain rfl:v=hZ d:=r1;obtain ⟨L,t2,_⟩:=Uv j (.inl ⟨u,.inr ⟨o,hd⟩⟩);obtain ⟨E,z,J,vs,B,o',M,ep,O,S,C,Q⟩:=j.zS d _ hd;rw[E] at O;cases O;have p:=B.length;have dd:Z.heap.DictOf (bY X.prog X.w) d vs:=⟨o,M,ep,E,S,C,Q⟩;refine ⟨"dict", "dict.items",xc,xo,PySem.F.type_dict_items,L,t2,qh rfl (PySem.evalArgs_none (call_meetsIn xo L PySem.F.entry_dict_items (PySem.F.args_dict_items_1 _) (meets_dict_items (bY X.prog X.w) d J) ⟨⟨vs,dd⟩,?_⟩))⟩;have D:(Z.heap.push { cls:=.type "dict_items",data:=.fields #[.ref d] }).DictAt (bY X.prog X.w) d vs ep:=⟨o,M,ax _ E,S,C,Q⟩;refine wpAny_pyIter_items ⟨_,cm _ rfl,rfl,rfl⟩ D ?_;have kp:∀b ob,Z.heap.get? b=some ob->((Z.heap.push { cls:=.type "dict_items",data:=.fields #[.ref d] }).push { cls:=.type "dict_itemiterator",data:=.fields #[.none,.bool false,.ref d,.int 0 0,.int vs.length 0,.int ep 0,.none,.none] }).get? b=some ob:=λb ob e=>ax _ (ax _ e);have l:Z.heap.objs.size<=(Z.heap.push { cls:=.type "dict_items",data:=.fields #[.ref d] }).objs.size:=by rw[fF];lia
 refine ⟨_,[(Z.heap.push { cls:=.type "dict_items",data:=.fields #[.ref d] }).objs.size],_,Itd d o u,H1,rfl,j.un (Un.kept kp) (j.zS.kept kp),P0 C,⟨.none,.none,by rw[p];exact cm _ rfl⟩,λb U=>?_,hR⟩;rw[aw.mp U];exact j.qy l (j.zS.fresh l)
noncomputable def itI(i:Nat):MI:=λΓ=>match gv Γ i with
 | some (.dict y9)=>.ok (y9.map λq=>ab.tuple [q.1,q.2])
 | _=>.bad
theorem Q3{xs:B4}(h:itI i Γ = .ok xs):∃y9,gv Γ i=some (.dict y9)/\xs=y9.map λq=>ab.tuple [q.1,q.2]:=by
 unfold itI at h
 cases e:gv Γ i with
 | none=>rw[e] at h;cases h
 | some d=>
  rw[e] at h
  cases d with
  | dict y9=>cases h;exact ⟨y9,rfl,rfl⟩
  | _=>cases h
section
variable    {is:B5}{g:MG}{cl:B5}{mb:MS}{iter:Expr}{body:C4}
theorem WD(i:Nat){x1}(hi:isR (fl O i)=true:=by rfl)(E:Nm X i x:=by walk_at "nm")(j:l5 (.Name x pos) "items" X.env (eval (.Name x pos) X.env)=eval (.Name x pos) X.env:=by rfl)(Z:(apos.endLine == cpos.line)=true:=by rfl) :
 QI X (.Tuple elts x1 tpos) (.Call (.Attribute (.Name x pos) "items" apos) [] [] cpos) (tIK X.K O i (itI i)):=
 QI.imp (XC (dO E.1 E.2 E.3 E.4) j Z) λσ H R C=>by
  obtain ⟨⟨d,o,u,M,D⟩,A,B,Γ,xs,r,em,k⟩:=C;obtain ⟨y9,hg,rfl⟩:=Q3 em;obtain ⟨d',I,z,Q,J,f3,f4,U⟩:=yj r hi hg;rw[M] at Q;cases Q;rw[D] at J;cases J;have eu:I=u:=by
   rcases f3 with z | ⟨o',z⟩ <;> cases z;rfl
  subst eu;have hl:=U.len;have st:∀Y,aD A Y->aD B Y->Y d=some (.frz o (.dK I)):=λY s l=>by
   rcases f4 with q | q
   . cases e:A d with
     | none=>exact absurd e q
     | some z=>have:=r.a _ _ e;rw[D] at this;cases this;exact s _ _ e
   . cases e:B d with
     | none=>exact absurd e q
     | some z=>have:=r.b _ _ e;rw[D] at this;cases this;exact l _ _ e
  refine ⟨.ref d,dU M,d,o,I,rfl,D,k _ A H (aZ.refl r.a) ⟨λn Y s l L=>⟨st Y s l,by rw[ag] at L;lia⟩,λY s l=>⟨st Y s l,by rw[ag];lia⟩,λn A2 Y v H3 sa l s3 L hy=>?_⟩⟩;obtain ⟨p,key,w,hp,rfl,rfl,e3⟩:=hy;obtain ⟨k1,S,g1,g2,g3⟩:=vN U e3;have P:=aZ.new (o:=.tup [kV key,w]) l hp;exact ⟨_,.tuple [k1,S],by rw[ba,g1];rfl,P,Rp.tuple.mpr ⟨p,_,rfl,SqT.of bc,au.cons.mpr ⟨_,_,rfl,Ky g2,au.one (Rp.mono (sa.trans P.aa) S g3)⟩⟩⟩
theorem Z4(i:Nat)(hri:isR (fl O i)=true)(hnx:NX mb)(hp:tz (dn X.prog X.w) X.A X.env X.xe)(hc:X.calm=true)(cl:B5)(hi:QI X tg iter (tIK X.K O i (itI i)))(hg:QG X tg (tG X.K O O is g))(hb:QSs X body (tS X.K rm O' O O' mb))(hE:pO O O' cl=true)
 (hs:∀x,iP iter X.env x=pure x:=by intro _;rfl):QS X (.For tg iter body [] pos) (tS X.K rm Ol O O (cH (itI i) g cl mb)):=by
 refine YC i hri (λΓ o h=>?_) ?_
 . obtain ⟨Z,e1,h⟩:=zi.aq h;obtain ⟨y9,e,_⟩:=Q3 e1;exact ⟨⟨y9,e⟩,Ny hnx h⟩
 . skip
   refine QS.imp (Ut hp hc hi.h hg.h hb.h hs) λD σ H ⟨fz,A,B,Γ,o,r,em,k⟩=>⟨fz,?_⟩;obtain ⟨Z,e1,em⟩:=zi.aq em;refine ⟨A,B,Γ,Z,r,e1,λJ A1 H1 g1 hj=>?_⟩;refine ⟨λi n M U=>n=Z.length - i/\i<=Z.length/\∃P C,aY X.K P B U O M C/\aD A P/\New A P B/\aD A1 P/\forR g cl mb (Z.drop i) C= .ok o,⟨Z.length,rfl,iS _,A1,Γ,r.grow g1,g1.aa,g1.nB r.b,aD.refl _,em⟩,?_⟩;rintro i n M U ⟨rfl,hi',P,C,z,sa,nw,s,p⟩
   by_cases j:i<Z.length
   . refine .inr ⟨hj.go i U (s.trans z.a) z.b j,λL H''=>i+1<=Z.length/\∃u Y,aY X.K u B H'' O L Y/\aD A u/\New A u B/\aD A1 u/\forR g cl mb (Z.drop (i+1)) Y= .ok o,?_,λx H3 y=>?_⟩
     . rintro L H'' ⟨h1,u,Y,h2⟩;exact ⟨Z.length - (i+1),by lia,rfl,h1,u,Y,h2⟩
     . obtain ⟨u,d,ed,g3,p3⟩:=hj.yld i P U x H3 s z.a z.b j y;have hd:Z.drop i=d::Z.drop (i+1):=by
        rw[mM j];rw[av j] at ed;cases ed;rfl
       rw[hd] at p;obtain ⟨Y,e3,p⟩:=zi.aq p;obtain ⟨o3,e4,p⟩:=zi.aq p;have l:=sa.trans g3.aa;have q:=nw.trans (g3.nB z.b);refine ⟨u,B,C,d,Y,z.grow g3,p3,e3,λσ4 r4 _=>⟨u,B,Y,o3,r4,e4,?_⟩⟩;have sb:∀{D':Ends},tV X.K rm Ol O A B D' o->tV X.K rm Ol O u B D' o:=λh=>h.sub l q
       cases o3 with
       | nx I=>exact λR Q H5 r5 E S=>⟨j,Q,clr cl I,r5.jL hE,l.trans E,q.trans S,s.trans (g3.aa.trans E),p⟩
       | ct I=>exact λR Q H5 r5 E S=>⟨j,Q,clr cl I,r5.jL hE,l.trans E,q.trans S,s.trans (g3.aa.trans E),p⟩
       | bk I=>
        cases p;exact λR Q H5 r5 E S=>k R Q H5 (r5.jL hE) (l.trans E) (q.trans S)
       | rt d'=>
        cases p;exact λv Q H5 q1 q2 E S rv=>k v Q H5 q1 q2 (l.trans E) (q.trans S) rv
   . have e:i=Z.length:=by lia
     subst e;rw[r6] at p;cases p;exact .inl ⟨hj.stop U (s.trans z.a) z.b,k M P U z sa nw⟩
end
inductive MV where
 | ev (m:ME)
 | cl (f:B4->zi ab) (ms:List ME)
noncomputable def mD(j:Nat):List (Int×MV)->Ev->zi (B0×Ev)
 | [],Γ=>.ok ([],Γ)
 | (k,.ev m)::r,Γ=>(m Γ).bind λd=>(mD j r Γ).bind λq=>.ok ((.int k,d)::q.1,q.2)
 | (k,.cl f ms)::r,Γ=>(evs ms Γ).bind λds=>(f ds).bind λt=>match oO t with
  | some (d,dm)=>(mD j r (Γ.set j (some dm))).bind λq=>.ok ((.int k,d)::q.1,q.2)
  | none=>.bad
inductive ik (X:Cx) (O:B9) (j:Nat):List (Option Expr)->C1->List (Int×MV)->Prop
 | nil:ik X O j [] [] []
 | ev {k:Int}{kj}{kp:Pos}{v:Expr}{ks:List (Option Expr)}{vs:C1}{m:ME}{R:List (Int×MV)}:QE X v (tE X.K O m)->ik X O j ks vs R->ik X O j (some (.Constant (.int k) kj kp)::ks) (v::vs) ((k,.ev m)::R)
 | cl {k:Int}{kj}{kp:Pos}{v:Expr}{ks:List (Option Expr)}{vs:C1}{f:B4->zi ab}{ms:List ME}{R:List (Int×MV)}:QE X v (tM X.K O j f ms)->ik X O j ks vs R->ik X O j (some (.Constant (.int k) kj kp)::ks) (v::vs) ((k,.cl f ms)::R)
noncomputable def trM(K:aE)(O:B9)(j:Nat):Int×MV->TE×TE
 | (k,.ev m)=>(tC (.int k),tE K O m)
 | (k,.cl f ms)=>(tC (.int k),tM K O j f ms)
variable {ks:List (Option Expr)}{vs:C1}
theorem ik.pps{R:List (Int×MV)}(h:ik X O j ks vs R):PPs X pos ks vs (R.map (trM X.K O j)):=by
 induction h with
 | nil=>exact Eb
 | ev h _ Y=>exact wO Ir h.h Y
 | cl h _ Y=>exact wO Ir h.h Y
abbrev acY(K:aE)(A:Hp):B0->List (V×V)->Prop:=i6 λp q=>∃i,p.1= .int i/\q.1= .int i/\Rp K A p.2 q.2
theorem New.trans'(h:New A H B)(k:New H F B):New A F B:=λp Z Y=>k p (h p Z Y) Y
theorem Et:∀(R:List (Int×MV)) (Γ Y:Ev) (A H:Hp) (y9:B0) (Q:List (V×V)->Hp->Prop),aY K A B H O σ Γ->mD j R Γ = .ok (y9,Y) ->
 (∀ps A' H',aY K A' B H' O σ Y->aD A A'->New A A' B->acY K A' y9 ps->Q ps H')->uC (R.map (trM K O j)) σ H Q
 | [],Γ,Y,A,H,y9,Q,r,e,k=>by
  cases e;exact k [] A H r (aD.refl _) (λ_ h _=>h) .nil
 | (i,.ev m)::R,Γ,Y,A,H,y9,Q,r,e,k=>by
  obtain ⟨d,o,e⟩:=zi.aq e;obtain ⟨q,z,e⟩:=zi.aq e;cases e;refine ⟨A,B,Γ,d,r,o,λv l C D E=>?_⟩;exact Et R Γ q.2 l C q.1 _ (r.grow D) z λps I J u Z n2 s=>k _ I J u (D.aa.trans Z) ((D.nB r.b).trans' n2) (.cons ⟨i,rfl,rfl,Rp.mono Z _ E⟩ s)
 | (i,.cl f ms)::R,Γ,Y,A,H,y9,Q,r,e,k=>by
  obtain ⟨M,o,e⟩:=zi.aq e;obtain ⟨t,z,e⟩:=zi.aq e
  cases p:oO t with
  | none=>rw[p] at e;cases e
  | some q0=>
   obtain ⟨d,dm⟩:=q0;rw[p] at e;obtain ⟨q,U,e⟩:=zi.aq e;cases e;have L:=zF p;subst L;refine ⟨A,B,Γ,M,d,dm,r,o,z,λv l C S P n1 E=>?_⟩;exact Et R _ q.2 l C q.1 _ S U λps I J u Z n2 s=>k _ I J u (P.trans Z) (n1.trans' n2) (.cons ⟨i,rfl,rfl,Rp.mono Z _ E⟩ s)
theorem aY.guard{p0:Addr}{o:HO}(r:aY K A B H O σ Γ)(s:H p0=none):aY K A (zw B p0 o) (zw H p0 o) O σ Γ:=by
 have hA:=r.a.free s;have hB:=r.b.free s;have U:=aD.new hB o;have l:=aD.new s o;have ne:∀{p:Addr}{u:HO},H p=some u->p≠p0:=λe z=>by rw[z,s] at e;cases e
 refine ⟨r.a.trans l,λb u q=>?_,r.len,λi d e=>?_,r.sep⟩
 . by_cases P:b=p0
   . subst P;rw[bc] at q ⊢;exact q
   . rw[aH P] at q ⊢;exact r.b b u q
 . obtain ⟨v,ev,q⟩:=r.slot i d e;refine ⟨v,ev,?_⟩
   cases Y:fl O i with
   | zD=>rwa [Y] at q
   | zC=>rw[Y] at q;exact Pk.mono (aD.refl _) U q
   | own=>
    rw[Y] at q;obtain ⟨Z,J,rfl,j,D,E,L⟩:=q;exact ⟨Z,J,rfl,l _ _ j,D,by rw[aH (ne j)];exact E,L⟩
   | fix p1=>
    rw[Y] at q;obtain ⟨q0,Z,J,rfl,j,D,E,L⟩:=q;exact ⟨q0,Z,J,rfl,l _ _ j,D,by rw[aH (ne j)];exact E,L⟩
   | exc C=>rwa [Y] at q
   | kit=>rwa [Y] at q
   | nst b=>
    rw[Y] at q;intro z;obtain ⟨Z,R,I,S,Q,M,w4,w5,w6⟩:=q z;exact ⟨Z,R,I,S,Q,l _ _ M,w4,by rw[aH (ne M)];exact w5,w6⟩
noncomputable def Hi:List (Int×MV)->B3:=λR=>R.map (·.1)
noncomputable def Dz(j:Nat)(R:List (Int×MV)):MS:=λΓ=>(mD j R Γ).bind λq=>match gv q.2 j with
 | some dm=>gd ((Hi R).Nodup/\R.length<=15) (.ok (.rt (.tuple [.dict q.1,dm])))
 | none=>.bad
theorem xg:∀{R:List (Int×MV)}{Γ Y:Ev}{y9:B0},mD j R Γ = .ok (y9,Y)->y9.map (·.1)=(Hi R).map ab.int
 | [],Γ,Y,y9,e=>by cases e;rfl
 | (i,.ev m)::R,Γ,Y,y9,e=>by
  obtain ⟨d,p,e⟩:=zi.aq e;obtain ⟨q,l,e⟩:=zi.aq e;cases e;show ab.int i::q.1.map (·.1)=_;rw[xg l];rfl
 | (i,.cl f u)::R,Γ,Y,y9,e=>by
  obtain ⟨r,p,e⟩:=zi.aq e;obtain ⟨t,l,e⟩:=zi.aq e
  cases Z:oO t with
  | none=>rw[Z] at e;cases e
  | some s=>
   rw[Z] at e;obtain ⟨q,o,e⟩:=zi.aq e;cases e;show ab.int i::q.1.map (·.1)=_;rw[xg o];rfl
theorem Gb:∀(more y9:A8),((y9++more).map (·.1)).Nodup->p8 y9 more=y9++more
 | [],y9,_=>by rw[c8];rfl
 | p::r,y9,h=>by
  show p8 (putK y9 p.1 p.2) r=_;have i:(y9.any λY=>decide (Y.1=p.1))=false:=by
   rw[List.any_eq_false];intro q Z z;rw[be,bq] at h;exact (ey.mp h).2.2 q.1 (bX.mpr ⟨q,Z,rfl⟩) p.1 br (of_decide_eq_true z)
  have e:putK y9 p.1 p.2=y9++[(p.1,p.2)]:=by rw[putK,if_neg (by rw[i];exact fo)]
  rw[e,Gb r (y9++[(p.1,p.2)]) (by rw[dy];exact h),dy];rfl
theorem abB{Y:List (V×V)}(h:acY K A y9 Y):∃u:A8,Y=u.map (λZ=>(kV Z.1,Z.2))/\bh K A y9 u/\u.map (·.1)=(y9.filterMap λp=>bJ p.1)/\u.length=y9.length:=by
 induction h with
 | nil=>exact ⟨[],rfl,bh.nil.mpr rfl,rfl,rfl⟩
 | @cons p q Y D h t r=>
  obtain ⟨i,o,B,e⟩:=h;obtain ⟨u,z,l,s,j⟩:=r;obtain ⟨C,d⟩:=p;obtain ⟨x,v⟩:=q;cases o;cases B;refine ⟨(.inl i,v)::u,by rw[z];rfl,bh.cons.mpr ⟨.inl i,v,u,rfl,rfl,e,l⟩,?_,by rw[bo,bo,j]⟩;rw[bq,s];rfl
variable {values:C1}
section
variable   {keys:List (Option Expr)}  {R:List (Int×MV)}{dpos:Pos}
theorem VG(j:Nat)(hj:fl O j= .fix c)(h:ik X O j keys values R)(s:keys.all (·.isSome)=true)(hl:keys.length=values.length)(h0:keys≠[])(h15:keys.length<=15) :
 QS X (.Return (some (.Dict keys values dpos)) pos) (tS X.K (.m c) Ol O O' (Dz j R)):=QS.imp (yp (Nk h.pps s hl h0 h15)) λD σ H I=>by
 obtain ⟨A,B,Γ,o,r,em,k⟩:=I;obtain ⟨q,e1,em⟩:=zi.aq em
 cases p:gv q.2 j with
 | none=>rw[p] at em;cases em
 | some dm=>
  rw[p] at em;obtain ⟨⟨hnd,afC⟩,em⟩:=bO em;cases em;intro p0 M;refine Et R Γ q.2 A _ q.1 _ (r.guard M) e1 λps U H2 E s2 n2 p2=>?_;obtain ⟨u,eu,ru,ku,lu⟩:=abB p2;have hk:u.map (·.1)=(Hi R).map lI:=by
   rw[ku];have:=xg e1;have gen:∀(l:B0) (is:B3),l.map (·.1)=is.map ab.int->l.filterMap (λc=>bJ c.1)=is.map lI:=λl=>by
    induction l with
    | nil=>intro is e;cases is with
     | nil=>rfl
     | cons _ _=>cases e
    | cons x l ih=>intro is e;cases is with
     | nil=>cases e
     | cons i is=>
      rw[bq,bq] at e;injection e with ea eb;rw[lp,ea,ih is eb];rfl
   exact gen _ _ this
  have S:(u.map (·.1)).Nodup:=by
   rw[hk];exact we.map _ (λa b P z=>P (lI.inj z)) hnd
  have C:u.length<=15:=by
   have:=congrArg List.length hk;rw[ag,ag] at this;unfold Hi at this;rw[ag] at this;lia
  refine ⟨E.b _ _ bc,u,eu,C,?_⟩;rw[Gb u [] (by rw[eL];exact S),eL];obtain ⟨dm',p',o',q1,q2,q3,q4,q5,q6⟩:=E.oh (by rw[hj];rfl) (by rw[p];simp);rw[p] at q1;cases q1;obtain ⟨v',ev',qv⟩:=E.slot j _ p;rw[hj] at qv;obtain ⟨rfl,_⟩:=qv;rw[ev'] at q2;cases q2;have v:c≠p0:=λz=>by rw[z,bc] at q5;cases q5
  have L:=r.a.free M;have J:=n2 p0 L (by rw[bc];simp);have Z:=r.b.free M;have Q:aD U (zw U p0 (.dK u)):=aD.new J _;refine k (.ref p0) (zw U p0 (.dK u)) _ (λb w e=>?_) (λb w e=>?_) (s2.trans Q) (λb h1 h2=>?_) ⟨.dict q.1,dm,o',rfl,?_,?_,?_,?_⟩
  . by_cases Y:b=p0
    . subst Y;rw[bc] at e ⊢;exact e
    . rw[aH Y] at e ⊢;exact E.a _ _ e
  . have Y:b≠p0:=λz=>by rw[z,Z] at e;cases e
    rw[aH Y];exact E.b _ _ (by rw[aH Y];exact e)
  . have Y:b≠p0:=λz=>h2 (by rw[z];exact Z);rw[aH Y];exact n2 b h1 (by rw[aH Y];exact h2)
  . rw[Rp];exact ⟨p0,u,rfl,.inl bc,bh.mono Q _ ru⟩
  . rw[aH v];exact q3
  . rw[aH v];exact q4
  . exact q6.mono Q
end
theorem Yz(z:xs.length<=bt)(hd:(a == gu)=false)(s:h'.DictOfH (pV (mu P w)) a xs):gh P w A h' a (j7 a xs):=by
 obtain ⟨o,l,q,e,D,i,j,_,p⟩:=s;exact ⟨⟨z,hd,p,o,l,q,e,D,i,j⟩,⟨o,e⟩,λH E ⟨r,B,u,v,Y,Z,b1,C⟩ k=>⟨r,B,u,v,Y,Z,k _ b1,C⟩⟩
section
variable      {b:Addr}  {u r:bg}{A:gx}   {k:B3}
theorem Yx(I:zk X y8 σ H s)(e:H a=some (j7 a xs))(r:∀x∈xs,SqT X.K H x.2.1 (x.1.map V.int)):xs.length<=bt/\(a == gu)=false/\s.heap.DictOfH (pV (mu X.prog X.w)) a xs:=by
 obtain ⟨⟨z,y,i,o,j,p,q,u,Y,Z⟩,_⟩:=(I.zS a _ e);exact ⟨z,y,o,j,p,q,u,Y,Z,λx l=>zO I (r x l),i⟩
theorem aeo(I:zk X y8 σ H s)(e:H a=some (.dK [])):zk X y8 σ (zw H a (j7 a [])) s:=by
 obtain ⟨z,hd,B,Y,u⟩:=DK I.zS e;cases Y;obtain ⟨o,Z,r,l,v,p,_,j,_⟩:=u
 have i:Z.toList=[]:=by cases h:Z.toList with
  | nil=>rfl
  | cons x t=>rw[h] at j;cases j
 exact mU I (by rw[e];exact ki) ⟨rfl,λ_ _=>rfl⟩ ⟨o,l⟩ (Yz (iS _) hd ⟨o,Z,r,l,v,p,by rw[i];rfl,λx q=>(nomatch q),qE⟩)
theorem stored_new{k:B3}{u:bg}(h:k∉xs.map (·.1)):vE xs k a u=xs++[(k,a,u)]:=by
 have e:pd xs k=none:=by
  rw[pd,rk,n0];exact λx Y z=>h (bX.mpr ⟨x,Y,by simpa using z⟩)
 rw[vE,if_neg (by rw[e];exact λz=>nomatch z)]
theorem aby{ys:C0}{o:HO}(e:H a=some (j7 a xs))(q:SqT K H c ys):SqT K (zw H a o) c ys:=by
 rcases q with q | q
 . have Y:c≠a:=λz=>by
    subst z;rcases q with q | ⟨_,q⟩ <;> (rw[e] at q;cases q)
   left;rcases q with q | ⟨w,q⟩
   . exact .inl (by rw[aH Y];exact q)
   . exact .inr ⟨w,by rw[aH Y];exact q⟩
 . exact .inr q
theorem Nq(v:A.units<kb):∀(ys:List (B3×Addr×bg)) (xs:List (B3×Addr×bg)) (s:cy) (H:Hp) (Q:PUnit->cy->Prop),zk X y8 σ H s->H a=some (j7 a xs)->(∀x∈xs++ys,SqT X.K H x.2.1 (x.1.map V.int))->((xs++ys).map (·.1)).Nodup->(xs++ys).length<=bt ->
 (∀s',zk X y8 σ (zw H a (j7 a (xs++ys))) s'->Q PUnit.unit s')->de (dn X.prog X.w) A (storeAll a (ys.map λx=>(.ref x.2.1,x.2.2))) Q E s
 | [],xs,s,H,Q,I,e,j,Z,p,k=>by
  rw[storeAll,fe,List.forIn_nil];refine aS (k s ?_);rw[c8];have:zw H a (j7 a xs)=H:=by
   funext c
   by_cases u:c=a
   . subst u;rw[bc,e]
   . rw[aH u]
  rw[this];exact I
 | y::ys,xs,s,H,Q,I,e,j,Z,p,k=>by
  rw[storeAll,bq,ya];obtain ⟨z,hd,L⟩:=Yx I e λx i=>j x (da _ i);refine af (af (wpAny_dictSet_heap v (zO I (j y (c6 _ br))) L λB Y C=>aS ?_));have r:=λq=>by
   rw[be,bq] at Z;exact (ey.mp Z).2.2 y.1 q y.1 br rfl
  rw[stored_new r] at Y;have M:∃q,B.get? a=some q:=let ⟨q,_,_,D,_⟩:=Y;⟨q,D⟩;have o:(xs++[(y.1,y.2.1,y.2.2)]).length<=bt:=by
   rw[ai,bo] at p;rw[ai,cK];lia
  have J:=mU (t':=s.toks+(pV (mu X.prog X.w)).draws y.1) I (by rw[e];exact ki) C M (Yz o hd Y);have l:xs++[(y.1,y.2.1,y.2.2)]++ys=xs++y::ys:=by rw[dy];rfl
  refine Nq v ys (xs++[(y.1,y.2.1,y.2.2)]) _ _ Q J bc (λx i=>?_) (by rw[l];exact Z) (by rw[l];exact p) λs' O=>k s' (by rwa [Oh,l] at O);rw[l] at i;exact aby e (j x i)
end
def aeK(K:aE)(trs:List (TE×TE)):TE:=λσ H Q=>∀p,H p=none->uC trs σ (zw H p (.dK [])) λps H2=>H2 p=some (.dK [])/\∃y9:List (B3×Addr×V),ps=y9.map (λkv=>(V.ref kv.2.1,kv.2.2))/\(∀kv∈y9,SqT K H2 kv.2.1 (kv.1.map V.int))/\(y9.map (·.1)).Nodup/\y9.length<=15 /\
 ∀xs,i6 (λ(a:B3×Addr×V) (b:B3×Addr×bg)=>a.1=b.1/\a.2.1=b.2.1/\zo a.2.2 b.2.2) y9 xs->Q (.ref p) (zw H2 p (j7 p xs))
theorem S9:∀{y9:List (B3×Addr×V)}{ws:List (bg×bg)},VV (y9.map λY=>(V.ref Y.2.1,Y.2.2)) ws->∃xs:List (B3×Addr×bg),ws=xs.map (λx=>(.ref x.2.1,x.2.2))/\i6 (λ(a:B3×Addr×V) (b:B3×Addr×bg)=>a.1=b.1/\a.2.1=b.2.1/\zo a.2.2 b.2.2) y9 xs
 | [],_,r=>by rw[fe] at r;cases r;exact ⟨[],rfl,.nil⟩
 | p::y9,_,r=>by
  rw[bq] at r
  cases r with
  | @cons a b as bs h t=>
   obtain ⟨xs,e,q⟩:=S9 t;obtain ⟨b1,i⟩:=b;obtain ⟨Z,j⟩:=h;cases (Z);exact ⟨(p.1,p.2.1,i)::xs,by rw[e];rfl,.cons ⟨rfl,rfl,j⟩ q⟩
theorem JR:∀{y9:List (B3×Addr×V)}{xs:List (B3×Addr×bg)},i6 (λ(a:B3×Addr×V) (b:B3×Addr×bg)=>a.1=b.1/\a.2.1=b.2.1/\zo a.2.2 b.2.2) y9 xs->xs.map (·.1)=y9.map (·.1)/\(∀x∈xs,∃Y∈y9,Y.1=x.1/\Y.2.1=x.2.1)
 | _,_,.nil=>⟨rfl,λx hx=>nomatch hx⟩
 | _,_,.cons h t=>by
  obtain ⟨i,j⟩:=JR t;refine ⟨by rw[bq,bq,i,h.1],λx hx=>?_⟩;rcases b9.mp hx with rfl | hx
  . exact ⟨_,br,h.1,h.2.1⟩
  . obtain ⟨Y,Z,e⟩:=j x hx;exact ⟨Y,cc _ Z,e⟩
theorem abl{Y:List (TE×TE)}(M:X.A.units<kb)(h:PPs X pos ks values Y)(Z:ks.all (·.isSome)=true)(hl:ks.length=values.length)(h0:ks≠[])(B:ks.length<=15) :
 PE X (.Dict ks values pos) (aeK X.K Y):=by
 intro i s R H Q I q;have S:=I.zS.fresh (ay s.heap.objs.size);have L:=I.laid (t':=s.toks) (λ_ _ q=>ax _ q) (ay _) (Bl s.heap I.big);refine wpAny_Dict_any Z hl h0 B (thn (h i _ R _ _ L (q _ S)) λws s2 j=>?_);obtain ⟨ps,H2,I2,l,e,O,ep,hk,v,lk,q2⟩:=j;subst ep;obtain ⟨p,ex,D⟩:=S9 l;subst ex;obtain ⟨k1,k2⟩:=JR D;have P:=aeo I2 e;have u:=by
  have:=congrArg List.length k1;rwa [ag,ag] at this
 have o:∀x∈([]:List (B3×Addr×bg))++p,SqT X.K (zw H2 s.heap.objs.size (j7 s.heap.objs.size [])) x.2.1 (x.1.map V.int):=λx hx=>by
  obtain ⟨E,r,U,e2⟩:=k2 x hx;rw[<- U,<- e2];rcases hk E r with z | z
  . have C:E.2.1≠s.heap.objs.size:=λy=>by
     rw[y] at z;rcases z with z | ⟨_,z⟩ <;> (rw[e] at z;cases z)
    left;rcases z with z | ⟨w,z⟩
    . exact .inl (by rw[aH C];exact z)
    . exact .inr ⟨w,by rw[aH C];exact z⟩
  . exact .inr z
 refine Nq M p [] s2 _ _ P bc o (by rw[eL,k1];exact v) (by rw[eL,u,sizeLine_eq];lia) λs' J=>?_;rw[Oh,eL] at J;exact ⟨.ref s.heap.objs.size,_,J,rfl,q2 p D⟩
noncomputable def zf:List (ME×ME)->Ev->zi B0
 | [],_=>.ok []
 | (mk,mv)::r,Γ=>(mk Γ).bind λkd=>(mv Γ).bind λd=>(zf r Γ).bind λq=>match pM kd with
  | some _=>.ok ((kd,d)::q)
  | none=>.bad
noncomputable def BW(y9:B0):List B3:=y9.filterMap λp=>pM p.1
noncomputable def yU(i:Nat)(R:List (ME×ME)):MS:=λΓ=>(zf R Γ).bind λy9=>gd ((BW y9).Nodup/\y9.length<=15/\i < Γ.length) (.ok (.nx (Γ.set i (some (.dict y9)))))
inductive nu (X:Cx) (O:B9):List (Option Expr)->C1->List (ME×ME)->Prop
 | nil:nu X O [] [] []
 | cons {k v:Expr}{ks:List (Option Expr)}{vs:C1}{mk mv:ME}{R:List (ME×ME)}:QE X k (tE X.K O mk)->QE X v (tE X.K O mv)->nu X O ks vs R->nu X O (some k::ks) (v::vs) ((mk,mv)::R)
theorem nu.pps{R:List (ME×ME)}(h:nu X O ks vs R):PPs X pos ks vs (R.map λp=>(tE X.K O p.1,tE X.K O p.2)):=by
 induction h with
 | nil=>exact Eb
 | cons Y e _ Z=>exact wO Y.h e.h Z
abbrev KQ(K:aE)(A:Hp):B0->List (B3×Addr×V)->Prop:=i6 λp q=>pM p.1=some q.1/\SqT K A q.2.1 (q.1.map V.int)/\Rp K A p.2 q.2.2
theorem Rp.acx{Y:ab}{k:B3}(h:Rp K A Y v)(Z:pM Y=some k):∃b,v= .ref b/\SqT K A b (k.map V.int):=by
 cases Y with
 | tuple l=>
  obtain ⟨a,j,rfl,e,i⟩:=Rp.tuple.mp h;rw[au.Px i Z] at e;exact ⟨a,rfl,e⟩
 | _=>cases Z
theorem Jf:∀(R:List (ME×ME)) (A H:Hp) (y9:B0) (Q:List (V×V)->Hp->Prop),aY K A B H O σ Γ->zf R Γ = .ok y9 ->
 (∀us A' H',aZ A H A' H'->KQ K A' y9 us->Q (us.map λu=>(V.ref u.2.1,u.2.2)) H')->uC (R.map λp=>(tE K O p.1,tE K O p.2)) σ H Q
 | [],A,H,y9,Q,r,e,k=>by cases e;exact k [] A H (aZ.refl r.a) .nil
 | (mk,mv)::R,A,H,y9,Q,r,e,k=>by
  obtain ⟨l,D,e⟩:=zi.aq e;obtain ⟨d,J,e⟩:=zi.aq e;obtain ⟨q,C,e⟩:=zi.aq e
  cases Y:pM l with
  | none=>rw[Y] at e;cases e
  | some key=>
   rw[Y] at e;cases e;refine ⟨A,B,Γ,l,r,D,λU o H1 j L=>⟨o,B,Γ,d,r.grow j,J,λv M P Z E=>?_⟩⟩;obtain ⟨b,rfl,s⟩:=Rp.acx L Y;exact Jf R M P q _ ((r.grow j).grow Z) C λus z I i S=>k ((key,b,v)::us) z I ((j.trans Z).trans i) (.cons ⟨Y,(Z.aa.trans i.aa).fZ s,Rp.mono i.aa _ E⟩ S)
variable {us:List (B3×Addr×V)}
theorem KQ.keys(h:KQ K A y9 us):us.map (·.1)=BW y9/\us.length=y9.length/\∀u∈us,SqT K A u.2.1 (u.1.map V.int):=by
 induction h with
 | nil=>exact ⟨rfl,rfl,λu hu=>nomatch hu⟩
 | @cons p q l j h t e=>
  obtain ⟨Y,i,Z⟩:=e;refine ⟨by unfold BW at Y ⊢;rw[bq,lp,h.1,Y],by rw[bo,bo,i],λu hu=>?_⟩;rcases b9.mp hu with rfl | hu
  . exact h.2.1
  . exact Z u hu
theorem KQ.kit(h:KQ K A y9 us):∀{xs:List (B3×Addr×bg)},i6 (λ(a:B3×Addr×V) (b:B3×Addr×bg)=>a.1=b.1/\a.2.1=b.2.1/\zo a.2.2 b.2.2) us xs->RpT K A y9 xs:=by
 induction h with
 | nil=>intro xs p;cases p;exact .nil
 | @cons p q l j h t i=>
  intro xs Z
  cases Z with
  | @cons _ b _ bs Y e=>
   refine .cons ⟨by rw[<- Y.1];exact h.1,by rw[<- Y.1,<- Y.2.1];exact h.2.1,q.2.2,Y.2.2,h.2.2⟩ (i e)
theorem aY.uy{d:ab}(r:aY K A B H O σ Γ)(C:i < Γ.length)(s:i<O.length)(p:qm K A d v):aY K A B H (O.set i .kit) (σ.set i (some v)) (Γ.set i (some d)):=by
 have E:i < σ.length:=by rw[<- r.len];exact C
 refine ⟨r.a,r.b,by rw[fq,fq];exact r.len,λj=>?_,λj k u Z l o q=>?_⟩
 . by_cases Y:i=j
   . subst Y;unfold fl gv sv;rw[bF s,bF C,bF E];exact λI e=>by cases e;exact ⟨v,rfl,p⟩
   . unfold fl gv sv;rw[aQ Y,aQ Y,aQ Y];exact r.slot j
 . have Y:i≠j:=λz=>by subst z;unfold fl at Z;rw[bF s] at Z;cases Z
   have D:i≠k:=λz=>by subst z;unfold fl at l;rw[bF s] at l;cases l
   unfold fl at Z l;unfold gv at o q;rw[aQ Y] at Z o;rw[aQ D] at l q;unfold sv;rw[aQ Y,aQ D];exact r.sep j k u Z l o q
section
variable    {keys:List (Option Expr)}  {R:List (ME×ME)}{dpos pos':Pos}
theorem acw(i:Nat){O2:B9}(S:X.A.units+66<kb)(hN:X.N.Nodup)(hi:X.N[i]?=some y)(hx:Loc X.env.scope y)(h:nu X O keys values R)(j:keys.all (·.isSome)=true)(hl:keys.length=values.length)(h0:keys≠[])(Q:keys.length<=15)(M:i<O.length)
 (hs:hV (.Dict keys values dpos) (some (.Name y pos')) pos.line X.env=pure false:=by rfl) (hf:X.fn y=true\/X.env.scope.names.lookup y=some .local:=by walk_at "hf") (hO:O.set i .kit=O2:=by rfl) :
 QS X (.Assign [.Name y pos'] (.Dict keys values dpos) pos) (tS X.K rm Ol O O2 (yU i R)):=
 hO ▸ QS.imp (Dt hN hi hx (abl (by lia) h.pps j hl h0 Q) hs hf) λD σ H l=>by
  obtain ⟨A,B,Γ,o,r,em,k⟩:=l;obtain ⟨e,e1,em⟩:=zi.aq em;obtain ⟨⟨P,hkl,J⟩,em⟩:=bO em;cases em;intro p C;have g0:aZ A H A (zw H p (.dK [])):=aZ.lay r.a C;refine Jf R A _ e _ (r.grow g0) e1 λus L H2 Z pk=>?_;obtain ⟨k1,k2,k3⟩:=pk.keys;have pa:=Z.nw p (r.a.free C) (by rw[bc];simp);refine ⟨Z.hh _ _ bc,us,rfl,λu S=>Z.ah.fZ (k3 u S),by rw[k1];exact P,by lia,λs px=>?_⟩;have I:aD L (zw L p (j7 p s)):=aD.new pa _;have E:aZ A H (zw L p (j7 p s)) (zw H2 p (j7 p s)):=by
   refine ⟨Z.aa.trans I,λb o q=>?_,λb o q=>?_,λb q1 U=>?_⟩
   . have Y:=cZ q C;rw[aH Y];exact Z.hh _ _ (by rw[aH Y];exact q)
   . by_cases Y:b=p
     . subst Y;rw[bc] at q ⊢;exact q
     . rw[aH Y] at q ⊢;exact Z.ah _ _ q
   . have Y:b≠p:=λz=>U (z ▸ C);rw[aH Y];exact Z.nw b q1 (by rw[aH Y];exact U)
  exact k _ _ _ ((r.grow E).uy J M ⟨p,s,e,rfl,rfl,bc,Paired.sO (pk.kit px) λ_ _ z=>⟨z.1,I.fZ z.2.1,z.2.2.imp λv y=>⟨y.1,Rp.mono I _ y.2⟩⟩⟩) E.aa (E.nB r.b)
end
noncomputable def zT(key:B3):B0->Option ab
 | []=>none
 | (k,d)::r=>if pM k=some key then some d else zT key r
noncomputable def JL(i:Nat)(m:ME):ME:=λΓ=>(m Γ).bind λkd=>match gv Γ i with
 | some (.dict y9)=>match pM kd with
  | some key=>match zT key y9 with
   | some d=>.ok d
   | none=>.bad
  | none=>.bad
 | _=>.bad
theorem RpT.look{key:B3}{d:ab}(h:RpT K A y9 xs)(e:zT key y9=some d):∃p v,pd xs key=some p/\zo v p.2/\Rp K A d v:=by
 induction h with
 | nil=>cases e
 | @cons p q H D h t u=>
  obtain ⟨l,E⟩:=p;obtain ⟨i,I,v,j,o⟩:=h;unfold zT at e
  by_cases Y:pM l=some key
  . rw[if_pos Y] at e;cases e;have Z:=Option.some.inj (i.symm.trans Y);exact ⟨q.2,v,by simp[pd,hY,Z],j,o⟩
  . rw[if_neg Y] at e;obtain ⟨r,B,C,s⟩:=u e;have Z:¬ q.1=key:=λz=>Y (i.trans (by rw[z]));exact ⟨r,B,by rw[<- C];simp[pd,hY,Z],s⟩
theorem RpT.all(h:RpT K A y9 xs):∀x∈xs,SqT K A x.2.1 (x.1.map V.int):=by
 induction h with
 | nil=>intro x hx;exact nomatch hx
 | cons h t Y=>
  intro x hx;rcases b9.mp hx with rfl | hx
  . exact h.2.1
  . exact Y x hx
section
variable   {m:ME}{a:Expr}{xp:Pos}
def aa6(K:aE):R2:=λx y H Q=>∃p b xs k q v,x= .ref p/\y= .ref b/\H p=some (j7 p xs)/\(∀z∈xs,SqT K H z.2.1 (z.1.map V.int))/\SqT K H b (k.map V.int)/\pd xs k=some q/\zo v q.2/\Q v H
theorem afb(R:X.A.units+66<kb):IxR X (aa6 X.K):=by
 intro e i Z s z H x y v u Q I J D h M;obtain ⟨p,b,S,k,w,O,rfl,rfl,L,E,B,C,P,q⟩:=h;cases (J);cases (D);have o:=(Yx I L E).2.2;have hT:=o.typeIs;refine af ?_;rw[mB hT.not_modules];refine af (j1 hT kF.lookup ?_);have j:=show X.A.units+1<kb by lia
 have fin:de (dn X.prog X.w) X.A (oz i false (.ref p) (.ref b)) (λr Y=>de (dn X.prog X.w) X.A (qr e (.ref p) r >>= λ_=>pure r) (EP X Z z Q) X.xe Y) X.xe s:=by
  rw[M];exact pw (gL (uu j (zO I B) o C (⟨O,H,I.tok _,P,q⟩:EP X Z z Q w.2 _)) (λr Y l=>af (ng (aS l))) λ_ _ x=>x)
 first
  | exact aS (af fin)
  | exact af (aS (af fin))
  | exact af fin
theorem acZ(i:Nat)(M:X.A.units+66<kb)(ha:QE X a (tE X.K O m))(hs:lH a)(U:fl O i= .kit:=by rfl)(j:Nm X i x:=by walk_at "nm"):QE X (.Subscript (.Name x xp) a pos) (tE X.K O (JL i m)):=
 QE.imp (Df (afb M) (dO j.1 j.2 j.3 j.4) ha.h hs) λσ H Q e=>by
  obtain ⟨A,B,u,d,r,em,k⟩:=e;obtain ⟨D,S,em⟩:=zi.aq em
  cases l:gv u i with
  | none=>rw[l] at em;cases em
  | some dl=>
   rw[l] at em
   cases dl with
   | dict Z=>
    have em:=em
    cases s:pM D with
    | none=>rw[s] at em;cases em
    | some key=>
     rw[s] at em;have em:(match zT key Z with | some d=>zi.ok d | none=>.bad)= .ok d:=em
     cases o:zT key Z with
     | none=>rw[o] at em;cases em
     | some d0=>
      rw[o] at em;cases em;obtain ⟨v,ev,q⟩:=r.slot i _ l;rw[U] at q;obtain ⟨p,R,E,rfl,e2,P,C⟩:=q;cases e2;obtain ⟨w,v0,I,L,h5⟩:=RpT.look C o;refine ⟨.ref p,dU ev,A,B,u,D,r,S,λv J H1 Y p1=>?_⟩;obtain ⟨b,rfl,nt⟩:=Rp.acx p1 s;exact ⟨p,b,R,key,w,v0,rfl,rfl,Y.hh _ _ (r.a _ _ P),λz hz=>(Y.aa.trans Y.ah).fZ (RpT.all C z hz),Y.ah.fZ nt,I,L,k _ J H1 Y (Rp.mono Y.aa _ h5)⟩
   | _=>cases em
end
def spT(K:aE)(f0:Fl)(rm:Rm)(f:B4->zi ab):Sp:=λvs H Q _=>∃A d0 dk d v0 v1,aD A H/\vs=[v0,v1]/\Bf K A H f0 d0 v0/\qm K A dk v1/\f [d0,dk]= .ok d/\∀v A' H',aZ A H A' H'->Vo K rm H A' H' d v->Q v H'
section
variable     {base:Heap}
theorem Qp{f0 o0:Fl}{o l:ab}{q:V}(z:aD A H)(h0:Bf K A H f0 o v)(u:qm K A l q)(r:(o0= .zD/\f0= .zD)\/(o0= .zC/\f0= .zC))(D:2<=N.length) :
 aY K A H H (o0 :: .kit::O) (Zq.start N [v,q]) ([o,l].map some++aI (N.length - 2) none):=by
 have Z:∀i,2<=i->gv ([o,l].map some++aI (N.length - 2) none) i=none:=λi s=>by
  rw[gv,ae,bE (by simpa using s),ij];split <;> rfl
 refine ⟨z,aD.refl _,?_,λi d e=>?_,λi j B Y E p C=>?_⟩
 . unfold Zq.start;simp
 . match i,e with
   | 0,e=>
    cases e;refine ⟨v,rfl,?_⟩;rcases r with ⟨rfl,rfl⟩ | ⟨rfl,rfl⟩
    . exact h0
    . exact h0
   | 1,e=>cases e;exact ⟨q,rfl,u⟩
   | i+2,e=>rw[Z (i+2) (by lia)] at e;cases e
 . match i,Y,p with
   | 0,Y,_=>
    have Y:=Y;rcases r with ⟨rfl,_⟩ | ⟨rfl,_⟩ <;> cases Y
   | 1,Y,_=>cases Y
   | i+2,_,p=>exact absurd (Z (i+2) (by lia)) p
theorem Uk{st:Stmt}{f0 o0:Fl}{m:MS}(F:At K mg x st ps)(S:cL N ps (aM st))(I:ps.length=2)(l:2<=N.length)(Z:(o0= .zD/\f0= .zD)\/(o0= .zC/\f0= .zC))
 (hbody:∀(f:Addr) (Y:bg) (A:gx) (AA:C5) (s:cy) (H:Hp) (E:XK),dJ ep (A.deeper (oy x (aM st) s.heap.objs.size f Y)) ->
  QSs (mK CX0 P w K mg base N x (aM st) f Y A AA s H E).nox (bK st) (tS K rm Ol (o0 :: .kit::O) O' m)):Def P w K mg base (ep+1) x ps (spT K f0 rm (fnR N.length m)):=by
 refine F.ok S (λz H Q E h=>?_) (λf Y A AA s H z Q E U h=>?_)
 . obtain ⟨A,R,C,d,u,v1,_,rfl,_⟩:=h;rw[I];rfl
 . obtain ⟨D,R,C,d,u,v1,J,rfl,j,e,em,q⟩:=h;obtain ⟨o,r,em⟩:=zi.aq em
   cases o with
   | rt d'=>
    cases em;refine ⟨_,(hbody f Y A AA s H E U).h,D,H,_,_,Qp J j e Z l,r,λv L H2 i B p nw M=>q v L H2 ⟨p,B,i,nw⟩ M⟩
   | _=>cases em
end
section
variable   {k:Nat}{fn:Str}  {f:B4->zi ab}{m:ME}{e:Expr}{p2:Pos}
noncomputable def Ku(f:B4->zi ab)(m:ME)(i:Nat):ME:=λΓ=>(m Γ).bind λd=>match gv Γ i with
 | some dk=>f [d,dk]
 | none=>.bad
theorem Xy(i:Nat)(E:fl O i= .kit)(F:Def X.prog X.w X.K X.mg X.base k fn ps (spT X.K .zC .f f))(U:dJ k X.A)(S:Gl X fn)(P:QE X e (tP X.K O m))(l:nD fn:=by decide)(s:As e=true:=by rfl)(j:Nm X i y:=by walk_at "nm") :
 QE X (.Call (.Name fn p) [e,.Name y p2] [] pos) (tE X.K O (Ku f m i)):=
 QE.imp (BZ F U S (bN P.h (bN (dO j.1 j.2 j.3 j.4) eQ (cz rfl)) (cz s)) l (cz s) (iY rfl)) λσ H Q Z=>by
  obtain ⟨A,B,u,d,r,em,k⟩:=Z;obtain ⟨z,e1,em⟩:=zi.aq em
  cases Y:gv u i with
  | none=>rw[Y] at em;cases em
  | some M=>
   rw[Y] at em;refine ⟨A,B,u,z,r,e1,λI D H1 o R=>?_⟩;obtain ⟨C,ev,q⟩:=r.slot i _ Y;rw[E] at q;refine ⟨C,dU ev,?_⟩;exact ⟨D,z,M,d,I,C,o.ah,rfl,R,qm.mono o.aa q,em,λv L J g p=>k v L J (o.trans g) p⟩
end
noncomputable def aV(xs:B3):Int:=xs.foldr (λf n=>2*n+f) 0
theorem cQ(x:Int)(xs:B3):aV (x::xs)=2*aV xs+x:=rfl
theorem j4:∀{xs:B3},(∀x∈xs,0<=x)->0<=aV xs
 | [],_=>l8 0
 | x::xs,h=>by
  have Z:=h x (by simp);have e:=j4 λy Y=>h y (cc _ Y);rw[cQ];lia
theorem two_pos(n:Nat):(0:Int)<2^n:=Int.pow_pos (by decide)
theorem GC(xs:B3)(y:Int):aV (xs++[y])=aV xs+2^xs.length*y:=by
 induction xs with
 | nil=>simp[aV]
 | cons x xs Y=>
  rw[gX,cQ,Y,cQ,bo,j3];have:(2:Int)^xs.length*2*y=2*(2^xs.length*y):=by rw[tp (2^xs.length) 2,pj]
  rw[this];lia
theorem Xe(xs:B3):xs.reverse.foldl (λn f=>2*n+f) 0=aV xs:=by
 rw[List.foldl_reverse];rfl
noncomputable def ak(b p:Int):Int:=b / 2^p.toNat % 2
theorem aL(b p:Int):ak b p=0\/ak b p=1:=by unfold ak;lia
theorem K8(b p:Int):0<=ak b p:=by unfold ak;lia
theorem Zu(b p:Int):ak b p<=1:=by unfold ak;lia
noncomputable def bu(k r:Nat):B3:=(List.range k).map λj=>((r / 2^j % 2:Nat):Int)
theorem bB(k r:Nat):(bu k r).length=k:=by simp[bu]
variable {r:Nat}
theorem lA{x:Int}(h:x∈bu ep r):x=0\/x=1:=by
 obtain ⟨j,_,e⟩:=bX.mp h;lia
theorem ur(k r:Nat):bu (k+1) r=bu k r++[((r / 2^k % 2:Nat):Int)]:=by
 rw[bu,kC,be];rfl
theorem ug(k r:Nat):aV (bu k r)=((r % 2^k:Nat):Int):=by
 induction k with
 | zero=>simp[bu,aV,Nat.mod_one]
 | succ k Y=>
  rw[ur,GC,Y,bB,tq,Nat.mod_mul];have e:((2:Int)^k)=(((2^k:Nat)):Int):=by simp
  rw[e,<- Int.natCast_mul];lia
theorem bW(h:r<2^ep):aV (bu ep r)=(r:Int):=by
 rw[ug,xt h]
noncomputable def gather(b:Int):Nat->Int
 | 0=>0
 | n+1=>gather b n+2^n*ak b n
theorem Pb(b:Int)(n:Nat):gather b n=b % 2^n:=by
 induction n with
 | zero=>simp[gather,Int.emod_one]
 | succ n l=>
  have Z:=two_pos n;rw[gather,l,ak,dS,j3];have r:=Int.emod_add_mul_ediv b (2^n);have o:=Int.emod_add_mul_ediv (b / 2^n) 2;have i:b=(b % 2^n+2^n*(b / 2^n % 2))+2^n*2*(b / 2^n / 2):=by
   have e:2^n*(b / 2^n)=2^n*(b / 2^n % 2)+2^n*2*(b / 2^n / 2):=by
    rw[pj,<- Int.mul_add,o]
   lia
  have p:=lj b (Int.ne_of_gt Z);have q:=kL b Z;have Y:(b / 2^n % 2=0)\/(b / 2^n % 2=1):=by lia
  have j:=by
   have e:=congrArg (· % (2^n*2)) i;simp only[Int.add_mul_emod_self_left] at e;exact e.symm
  rw[<- j];refine (Int.emod_eq_of_lt ?_ ?_).symm
  . rcases Y with h | h <;> rw[h] <;> lia
  . rcases Y with h | h <;> rw[h] <;> lia
variable {b:Int}
theorem Pg(h0:0<=b)(Y:b<2^ep):gather b ep=b:=by
 rw[Pb,Int.emod_eq_of_lt h0 Y]
def bH(xs:B3):Prop:=∀x∈xs,x=0\/x=1
theorem bH.nn{xs:B3}(h:bH xs):∀x∈xs,0<=x:=λx Y=>by rcases h x Y with z | z <;> lia
theorem bH.tail{xs:B3}(h:bH (b::xs)):bH xs:=λy Y=>h y (cc _ Y)
theorem bH.map{α:Type}{l:List α}{f:α->Int}(h:∀a∈l,f a=0\/f a=1):bH (l.map f):=λx Y=>by
 obtain ⟨a,Z,rfl⟩:=bX.mp Y;exact h a Z
theorem bH.bits{α:Type}{l:List α}{f g:α->Int}:bH (l.map λa=>ak (f a) (g a)):=bH.map λa _=>aL _ _
theorem uK:∀{xs:B3},bH xs->aV xs<2^xs.length
 | [],_=>by decide
 | x::xs,h=>by
  have Y:=uK h.tail;have Z:=h x (by simp);rw[cQ,bo,j3];lia
theorem kY(b:Int):ak b 0=b % 2:=by unfold ak;simp
theorem kJ(b:Int)(n:Nat):ak b ((n+1:Nat):Int)=ak (b / 2) (n:Nat):=by
 unfold ak;rw[dS,dS,Nat.add_comm,Int.pow_add,Int.Vl ,<- Int.ediv_ediv_of_nonneg (by decide)]
where
 Int.Vl:(2:Int)^1=2:=by decide
theorem wA:∀{xs:B3}{r:Nat}{x:Int},bH xs->xs[r]?=some x->ak (aV xs) (r:Nat)=x
 | [],r,x,_,h=>by simp at h
 | y::xs,0,x,h,e=>by
  have Z:=h y (by simp);have i:=by simpa using e
  rw[cQ];show ak (2*aV xs+y) 0=x;rw[kY];lia
 | y::xs,r+1,x,h,e=>by
  have Z:=h y (by simp);rw[cQ,kJ];have Y:(2*aV xs+y) / 2=aV xs:=by lia
  rw[Y];exact wA h.tail (by simpa using e)
variable {m:Nat}
theorem Gh(h0:0<=b)(Y:b<2^m):aV ((List.range m).map λr=>ak b ((r:Nat):Int))=b:=by
 have key:∀m:Nat,aV ((List.range m).map λr=>ak b ((r:Nat):Int))=gather b m:=by
  intro m
  induction m with
  | zero=>rfl
  | succ m Z=>
   rw[kC,be,List.map_singleton,GC,Z,ag,cq];rfl
 rw[key,Pg h0 Y]
theorem Wq{c:Int}(h0:0<=b)(Z:b<2^m)(k0:0<=c)(k1:c<2^m)(h:∀r:Nat,r<m->ak b (r:Nat)=ak c (r:Nat)):b=c:=by
 rw[<- Gh h0 Z,<- Gh k0 k1];congr 1;exact cp λr Y=>h r (er.mp Y)
noncomputable def tab(m:Nat)(f:Nat->Int):Int:=aV ((List.range m).map f)
theorem HQ{f:Nat->Int}(h:∀r,f r=0\/f r=1):bH ((List.range m).map f):=bH.map λa _=>h a
theorem lB{f:Nat->Int}(h:∀r,f r=0\/f r=1):0<=tab m f:=j4 (HQ h).nn
theorem u0{f:Nat->Int}(h:∀r,f r=0\/f r=1):tab m f<2^m:=by
 have:=uK (HQ (m:=m) h);rwa [ag,cq] at this
theorem gB{f:Nat->Int}(h:∀r,f r=0\/f r=1){r:Nat}(Y:r<m):ak (tab m f) (r:Nat)=f r:=
 wA (HQ h) (by rw[ba,eg Y];rfl)
theorem De{f:Nat->Int}(h:∀r,f r=0\/f r=1)(h0:0<=b)(Z:b<2^m)(e:∀r,r<m->f r=ak b (r:Nat)):tab m f=b:=
 Wq (lB h) (u0 h) h0 Z λr Y=>by rw[gB h Y,e r Y]
theorem bU{f g:Nat->Int}(e:∀r,r<m->f r=g r):tab m f=tab m g:=by
 unfold tab;congr 1;exact cp λr Y=>e r (er.mp Y)
theorem RK:∀{m r:Nat},0<=b->b<2^m->r<m->ak (2^m - 1 - b) (r:Nat)=1 - ak b (r:Nat):=by
 intro m
 induction m generalizing b with
 | zero=>intro r _ _ h;lia
 | succ m Z=>
  intro r i Y j;rw[j3] at Y ⊢;have l:=two_pos m
  cases r with
  | zero=>
   show ak _ 0=1 - ak _ 0;rw[kY,kY];lia
  | succ r=>
   rw[kJ,kJ];have e:(2^m*2 - 1 - b) / 2=2^m - 1 - b / 2:=by lia
   rw[e];exact Z (by lia) (by lia) (by lia)
noncomputable def gF(n j:Nat):Int:=tab (2^n) λr=>ak (r:Nat) (j:Nat)
noncomputable def bZ(b:Int)(ts:B3)(n:Nat):Int:=tab (2^n) λr=>ak b (aV (ts.map λt=>ak t (r:Nat)))
theorem yH(h:r<2^ep):ak (gF ep j) (r:Nat)=ak (r:Nat) (j:Nat):=gB (λ_=>aL _ _) h
theorem yl(n j:Nat):0<=gF n j:=lB λ_=>aL _ _
theorem JK(n j:Nat):gF n j<2^2^n:=u0 λ_=>aL _ _
theorem Hw{ts:B3}(h:r<2^ep):ak (bZ b ts ep) (r:Nat)=ak b (aV (ts.map λt=>ak t (r:Nat))):=gB (λ_=>aL _ _) h
theorem Ak(b:Int)(ts:B3)(n:Nat):0<=bZ b ts n:=lB λ_=>aL _ _
theorem MP(b:Int)(ts:B3)(n:Nat):bZ b ts n<2^2^n:=u0 λ_=>aL _ _
theorem Bo(r j:Nat):ak (r:Nat) (j:Nat)=((r / 2^j % 2:Nat):Int):=by
 rw[ak,dS];simp
theorem Aa:(List.range ep).map (λj=>ak (r:Nat) (j:Nat))=bu ep r:=by
 exact cp λj _=>Bo r j
theorem uB{xs:B3}(h:bH xs):bu xs.length (aV xs).toNat=xs:=by
 refine List.ext_getElem (bB _ _) λj l i=>?_;have Z:=wA h (av i);have Y:=j4 h.nn;have e:(bu xs.length (aV xs).toNat)[j]=ak (((aV xs).toNat:Nat):Int) (j:Nat):=by
  simp only[bu,List.getElem_map,List.getElem_range,Bo]
 rw[e,oQ Y];exact Z
theorem Dy{xs:B3}(h:bH xs):∃r:Nat,r<2^xs.length/\aV xs=(r:Nat)/\bu xs.length r=xs:=by
 have Y:=j4 h.nn;have Z:=uK h;refine ⟨(aV xs).toNat,?_,(oQ Y).symm,uB h⟩;have e:((2:Int)^xs.length)=(((2^xs.length:Nat)):Int):=by simp
 lia
theorem bH.bu:bH (bu ep r):=λ_ Y=>lA Y
noncomputable def rJ(xs:B3):B3:=xs.map λx=>1 - x
theorem Cz(r:Int):ak 0 r=0:=by unfold ak;simp
noncomputable def lF(j:Nat)(w:Int)(xs:B3):B3:=xs.take j++w::xs.drop j
theorem Uo(f:Int->Int)(j:Nat)(w:Int)(xs:B3):(lF j w xs).map f=lF j (f w) (xs.map f):=by
 unfold lF;rw[be,bq,List.map_take,List.map_drop]
theorem JG{xs:B3}(h:j<=xs.length):(lF j b xs).length=xs.length+1:=by
 rw[lF,ai,bo,dc,l9];lia
noncomputable def WN(n:Nat)(w:Int):Int:=if w=1 then 2^2^n - 1 else 0
theorem Wr(h:r<m):ak (2^m - 1) (r:Nat)=1:=by
 have e:=RK (l8 0) (two_pos m) h;rw[Cz] at e;simpa using e
theorem UW{w:Int}(Y:w=0\/w=1)(h:r<2^ep):ak (WN ep w) (r:Nat)=w:=by
 unfold WN;rcases Y with rfl | rfl
 . rw[if_neg (by decide)];exact Cz _
 . rw[if_pos rfl];exact Wr h
noncomputable def eV(n:Nat)(b:Int)(j:Nat)(w:Int):Int:=bZ b (lF j (WN n w) ((List.range n).map λi=>gF n i)) n
theorem Qe(n:Nat)(b:Int)(j:Nat)(w:Int):0<=eV n b j w:=Ak _ _ _
theorem ab5(n:Nat)(b:Int)(j:Nat)(w:Int):eV n b j w<2^2^n:=MP _ _ _
theorem Zd{w:Int}(Z:w=0\/w=1)(Y:r<2^ep):ak (eV ep b j w) (r:Nat)=ak b (aV (lF j w (bu ep r))):=by
 rw[eV,Hw Y,Uo,UW Z Y,c9,<- Aa];congr 3;exact cp λi _=>yH Y
noncomputable def yS:ab:=(.tuple [(.int 2),(.int 8)])
noncomputable def qe:ab:=(.tuple [(.str "low"),(.str "high"),(.str "turn"),(.str "rise"),(.str "even")])
noncomputable def dZ:ab:=(.tuple [(.int 2),(.int 7)])
noncomputable def gr:ab:=(.tuple [(.int 1),(.int 1)])
noncomputable def ql:List (Str×ab):=[("low",(.tuple [(.int 1),(.tuple [(.int 0)])])),("high",(.tuple [(.int 1),(.tuple [(.int 1)])])),("turn",(.tuple [(.int 2),(.tuple [(.int 1),(.int 2)])])),("rise",(.tuple [(.int 2),(.tuple [(.int 0),(.int 2),(.int 3)])])),("even",(.tuple [(.int 4),(.tuple [(.int 0),(.int 3),(.int 5),(.int 6),(.int 9),(.int 10),(.int 12),(.int 15)])]))]
noncomputable def jP:B4->zi ab:=fnR 1 (bA (Bh (O7 "int" (aj 0)) (IK (O7 "bool" (aj 0)))))
noncomputable def gU:B4->zi ab:=fnR 3 (aG (aU 1 (eC (.int 1)))
 (aG (cH (jH (aj 0)) (gN 2) [2] (aU 1 (ao xj (eC (.int 2)) (aj 1))))
 (bA (aj 1))))
noncomputable def mz:B4->zi ab:=fnR 3 (aG (aU 1 (eC (.int 2)))
 (aG (cH (jH (aj 0)) (gN 2) [2] (aU 1 (ao xj (aj 1) (aj 1))))
 (bA (aj 1))))
noncomputable def gZ:B4->zi ab:=fnR 1 (bA (ao jl (aF mz [(aj 0)]) (eC (.int 1))))
noncomputable def Cj:B4->zi ab:=fnR 2 (bA (ao wJ (ao Jm (aj 0) (aj 1)) (eC (.int 1))))
noncomputable def pL:B4->zi ab:=fnR 3 (aG (aU 1 (eC (.int 0)))
 (aG (cH (itV (aj 0)) (gN 2) [2] (aU 1 (ao c7 (ao xj (eC (.int 2)) (aj 1)) (aj 2))))
 (bA (aj 1))))
noncomputable def mC:B4->zi ab:=fnR 2 (bA (aF pL [(bR (jH (aF gU [(aj 0)])) (gN 0) (eC (.bool true)) (aF Cj [(aj 0),(aj 1)]) 1 [1])]))
noncomputable def fc:B4->zi ab:=fnR 1 (bA (bR (jH (aj 0)) (gN 0) (eC (.bool true)) (aF mC [(aj 1),(aj 0)]) 1 [0]))
noncomputable def qd:B4->zi ab:=fnR 5 (aG (aU 3 (bR (jH (aF gU [(ao zI (aj 0) (eC (.int 0)))])) (gN 0) (eC (.bool true)) (ao xj (aj 1) (aF Cj [(ao zI (aj 2) (eC (.int 1))),(aj 0)])) 1 [2,0]))
 (aG (cH (itL (aj 1)) (gN 4) [4] (aU 3 (bR (Bd (eC (.int 0)) (eFn il [(aj 3)]) (eC (.int 2))) (gN 0) (eC (.bool true)) (ao orD (ao wJ (ao zI (aj 1) (aj 0)) (eUn aca (aj 2))) (ao wJ (ao zI (aj 1) (ao c7 (aj 0) (eC (.int 1)))) (aj 2))) 1 [3,4])))
 (bA (ao zI (aj 3) (eC (.int 0))))))
noncomputable def nO:B4->zi ab:=fnR 3 (bA (aF qd [(aj 0),(aj 1),(aF gZ [(aj 2)])]))
noncomputable def jG:B4->zi ab:=fnR 5 (aG (aU 3 (ao jl (ao zI (aj 0) (eC (.int 0))) (eC (.int 1))))
 (aG (aU 4 (aF fc [(aj 3)]))
 (aG (O9 4 (aj 1) (eIf (ao eqD (aj 2) (eC (.int 1))) (aF gZ [(aj 3)]) (eC (.int 0))))
 (bA (cI [(aj 3),(aF nO [(aj 0),(aj 4),(aj 3)])])))))
noncomputable def zg:B4->zi ab:=fnR 4 (aG (aU 1 (ao zI (aj 0) (eC (.int 0))))
 (aG (aU 2 (aF fc [(aj 1)]))
 (aG (cH (itL (ao zI (aj 0) (eC (.int 1)))) (gN 3) [3] (lN 2 (aF nO [(ao zI (aj 3) (eC (.int 0))),(bR (itL (ao zI (aj 3) (eC (.int 1)))) (gN 0) (eC (.bool true)) (ao zI (aj 1) (aj 0)) 1 [2]),(aj 1)])))
 (bA (aj 2)))))
noncomputable def tO:B4->zi ab:=fnR 1 (bA (cI [(ao zI (aj 0) (eC (.int 0))),(ao zI (aF zg [(aj 0)]) (ao zI (aj 0) (eC (.int 2))))]))
noncomputable def jB:B4->zi ab:=fnR 2 (bA (cI [(ao zI (aj 0) (eC (.int 0))),(eFn fB [(bR (itL (ao zI (aj 0) (eC (.int 1)))) (gN 0) (eC (.bool true)) (ao ixY (aj 1) (aj 0)) 1 [1])])]))
noncomputable def dq:B4->zi ab:=fnR 6 (aG (aU 4 (eFn Qs [(aj 3)]))
 (aG (cH (itL (ao zI (aj 2) (eC (.int 1)))) (gN 5) [5] (aG (lN 0 (aF jB [(aj 5),(aj 4)]))
 (lN 4 (ao jl (ao c7 (aj 1) (eFn il [(aj 0)])) (eC (.int 1))))))
 (Cg 0 (ao zI (aj 4) (ao zI (aj 2) (eC (.int 2)))))))
noncomputable def nC:B4->zi ab:=fnR 6 (aG (aU 2 (ao zI (aj 0) (eC (.int 0))))
 (aG (aU 3 (eUn lrD (aj 2)))
 (aG (aU 4 (bV []))
 (aG (cH (itL (ao zI (aj 0) (eC (.int 1)))) (gN 5) [5] (Ho 3 4 dq [(aj 4),(aj 2),(JL 1 (ao zI (aj 5) (eC (.int 0)))),(bR (itL (ao zI (aj 5) (eC (.int 1)))) (gN 0) (eC (.bool true)) (ao zI (aj 1) (aj 0)) 1 [3])]))
 (bA (cI [(aj 2),(eFn fB [(aj 4)]),(ao zI (aj 3) (ao zI (aj 0) (eC (.int 2))))]))))))
noncomputable def jf:B4->zi ab:=fnR 7 (aG (aU 1 (ao zI (aj 0) (eC (.int 0))))
 (aG (aU 2 (eUn lrD (aj 1)))
 (aG (aU 3 (bV []))
 (aG (aU 4 (mG []))
 (aG (cH (itL (ao zI (aj 0) (eC (.int 1)))) (gN 5) [5,6] (aG (aU 6 (aF jB [(aj 5),(aj 2)]))
 (aG (sIf (zm 4 (aj 6)) (aG (Hk 4 (aj 6) (ao c7 (aj 1) (eFn il [(aj 3)])))
 (lN 3 (aj 6))) cP)
 (lN 2 (Ow 4 (aj 6))))))
 (bA (cI [(aj 1),(eFn fB [(aj 3)]),(ao zI (aj 2) (ao zI (aj 0) (eC (.int 2))))])))))))
noncomputable def nU:B4->zi ab:=fnR 6 (aG (aU 1 (ao zI (aj 0) (eC (.int 0))))
 (aG (aU 2 (ao zI (aj 0) (eC (.int 1))))
 (aG (aU 3 (Hq (ao zI (aj 0) (eC (.int 2))) (eC (.bool true))))
 (aG (cH (Bd (ao jl (eFn il [(aj 2)]) (eC (.int 1))) (eUn JZ (eC (.int 1))) (eUn JZ (eC (.int 1)))) (gN 4) [4,5] (sIf (ao inY (ao c7 (aj 1) (aj 4)) (aj 3)) (cH (itL (ao zI (ao zI (aj 2) (aj 4)) (eC (.int 1)))) (gN 5) [5] (je 3 (aj 5) (eC (.bool true)))) cP))
 (bA (aj 3))))))
noncomputable def fY:B4->zi ab:=fnR 8 (aG (aU 1 (ao zI (aj 0) (eC (.int 0))))
 (aG (aU 2 (aF nU [(aj 0)]))
 (aG (aU 3 (mG []))
 (aG (cH (jH (aj 1)) (gN 4) [4] (je 3 (aj 4) (aj 4)))
 (aG (aU 5 (bV []))
 (aG (cH (itE (ao zI (aj 0) (eC (.int 1)))) (gT [(gN 6),(gN 7)]) [6,7] (sIf (ao inY (ao c7 (aj 1) (aj 6)) (aj 2)) (aG (lN 5 (aF jB [(aj 7),(aj 3)]))
 (je 3 (ao c7 (aj 1) (aj 6)) (ao jl (ao c7 (aj 1) (eFn il [(aj 5)])) (eC (.int 1))))) cP))
 (bA (cI [(aj 1),(eFn fB [(aj 5)]),(ao ixY (aj 3) (ao zI (aj 0) (eC (.int 2))))]))))))))
noncomputable def o6:B4->zi ab:=fnR 1 (bA (aF fY [(aF jf [(aj 0)])]))
noncomputable def jR:Nat->B4->zi ab
 | 0=>λ_=>.bad
 | fu+1=>fnR 5 (aG (sIf (eUn EY (aF jP [(aj 2)])) (Cg 0 (aj 2)) cP)
  (aG (aU 3 (bV []))
  (aG (cH (itL (ao zI (aj 2) (eC (.int 1)))) (gN 4) [4] (Ho 3 0 (jR fu) [(aj 0),(aj 1),(aj 4)]))
  (aG (lN 0 (cI [(ao zI (aj 2) (eC (.int 0))),(eFn fB [(aj 3)])]))
  (Cg 0 (ao jl (ao c7 (aj 1) (eFn il [(aj 0)])) (eC (.int 1))))))))
noncomputable def jo:B4->zi ab:=fnR 4 (aG (aU 2 (bV []))
 (aG (Dk 3 2 (jR 100) [(aj 2),(aj 1),(aj 0)])
 (bA (cI [(aj 1),(eFn fB [(aj 2)]),(aj 3)]))))
noncomputable def nJ:B4->zi ab:=fnR 2 (bA (cI [(aj 0),(eFn fB [(eFn m9 [(aj 1)])])]))
noncomputable def wQ:B4->zi ab:=fnR 3 (aG (aU 1 (mG []))
 (aG (cH (itL (aj 0)) (gN 2) [2] (je 1 (aj 2) (eC (.bool true))))
 (bA (aj 1))))
noncomputable def qW:B4->zi ab:=fnR 3 (bA (aF qd [(aj 0),(aj 1),(ao jl (aF gU [(aj 2)]) (eC (.int 1)))]))
noncomputable def zV:B4->zi ab:=fnR 4 (aG (aU 2 (eC (.int 1)))
 (aG (cH (jH (aj 1)) (gN 3) [3] (aU 2 (ao xj (aj 0) (aj 2))))
 (bA (aj 2))))
noncomputable def jx:B4->zi ab:=fnR 2 (bA (eFn Jq [(bR (itL (aj 1)) (gN 0) (eC (.bool true)) (aF zV [(aj 1),(ao zI (aj 0) (eC (.int 0)))]) 1 [0])]))
noncomputable def iK:B4->zi ab:=fnR 6 (aG (aU 1 (bV [(bV [])]))
 (aG (cH (itL (aj 0)) (gN 2) [2,3,4,5] (aG (aU 3 (bV []))
 (aG (cH (itL (aj 1)) (gN 4) [4,5] (cH (itL (aj 2)) (gN 5) [5] (lN 3 (ao c7 (aj 4) (bV [(aj 5)])))))
 (aU 1 (aj 3)))))
 (bA (aj 1))))
noncomputable def oV:B4->zi ab:=fnR 6 (aG (aU 2 (ao zI (aj 1) (eC (.int 0))))
 (aG (aU 3 (ao zI (aj 1) (eC (.int 1))))
 (aG (sIf (ao gtD (aF jx [(eFn il [(aj 3)]),(bV [(aj 0)])]) (eC (.int 20000))) Em cP)
 (aG (aU 4 (aF wQ [(aj 3)]))
 (aG (cH (itL (aF iK [(ao v9 (bV [(aj 3)]) (ao zI (aj 0) (eC (.int 0))))])) (gN 5) [5] (sIf (ao jX (aF qW [(aj 0),(aj 5),(aj 2)]) (aj 4)) (bA (aj 5)) cP))
 (bA (eC .none)))))))
noncomputable def iy:B4->zi ab:=fnR 2 (bA (ao uo (aF oV [(aj 0),(aj 1)]) (eC .none)))
noncomputable def my:B4->zi ab:=fnR 5 (aG (aU 3 (bV []))
 (aG (cH (jH (aj 2)) (gN 4) [4] (sE 3 (aF iK [(ao c7 (ao c7 (ao v9 (bV [(aj 0)]) (aj 4)) (bV [(aj 1)])) (ao v9 (bV [(ao c7 (aj 0) (aj 1))]) (ao jl (ao jl (aj 2) (aj 4)) (eC (.int 1)))))])))
 (bA (aj 3))))
noncomputable def fK:B4->zi ab:=fnN 2 (sIf (eOr (ao gtD (aj 0) (eC (.int 128))) (ao gtD (aF jx [(aj 0),(aj 1)]) (eC (.int 20000)))) Em cP)
noncomputable def mY:B4->zi ab:=acD 3 0 (sIf (eOr (ao jX (aj 1) (aj 0)) (ao ltD (ao zI (aj 2) (eC (.int 0))) (ao zI (ao ixY (aj 0) (aj 1)) (eC (.int 0))))) (je 0 (aj 1) (aj 2)) cP)
noncomputable def kE:B4->zi ab:=fnR 5 (aG (aU 2 (mG []))
 (aG (cH (itL (aF fc [(aj 1)])) (gN 3) [3] (yE 2 mY [(aj 2),(aj 3),(cI [(eC (.int 0)),(eC .none),(cI [])])]))
 (aG (cH (itL (aj 0)) (gN 4) [4] (sIf (ao eqD (ao zI (aj 4) (eC (.int 0))) (eC (.int 0))) (yE 2 mY [(aj 2),(aF nO [(aj 4),(bV []),(aj 1)]),(cI [(eC (.int 1)),(aj 4),(cI [])])]) cP))
 (bA (aj 2)))))
noncomputable def j0:B4->zi ab:=fnR 9 (aG (aU 4 (bR (itK 0) (gN 0) (ao neD (aj 0) (aj 1)) (aj 0) 1 [1]))
 (aG (aU 5 (bV []))
 (aG (cH (itL (aF my [(aj 4),(bV [(aj 1)]),(ao zI (aj 2) (eC (.int 0)))])) (gN 6) [6,7,8] (aG (aU 7 (aF nO [(aj 2),(aj 6),(aj 3)]))
 (sIf (ao jX (aj 7) (aj 0)) (aG (aU 8 (ao c7 (eC (.int 1)) (eFn Jq [(bR (itL (aj 6)) (gN 0) (eC (.bool true)) (ao zI (ao ixY (aj 1) (aj 0)) (eC (.int 0))) 1 [0])])))
 (lN 5 (cI [(aj 7),(cI [(aj 8),(aj 2),(eFn fB [(aj 6)])])]))) cP)))
 (bA (aj 5)))))
noncomputable def nY:B4->zi ab:=fnR 8 (aG (aU 2 (mG []))
 (aG (aU 3 (aF kE [(aj 0),(aj 1)]))
 (aG (mZ 1000000 (ao gtD (eFn ud [(aj 3)]) (eC (.int 0))) [4,5,6,7] (aG (aU 4 (BL 3))
 (aG (uU 2 3 4)
 (aG (sEx (aF fK [(eFn ud [(aj 2)]),(aj 0)]))
 (cH (itL (aj 0)) (gN 5) [5,6,7] (cH (itL (aF j0 [(aj 2),(aj 4),(aj 5),(aj 1)])) (gT [(gN 6),(gN 7)]) [6,7] (yE 3 mY [(aj 3),(aj 6),(aj 7)])))))))
 (bA (aj 2)))))
noncomputable def fP:B4->zi ab:=fnR 7 (aG (aU 3 (mG []))
 (aG (aU 4 (bV []))
 (aG (cH (itI 0) (gT [(gN 5),(gN 6)]) [5,6] (aG (je 3 (aj 5) (eFn ud [(aj 3)]))
 (sIf (ao Dl (ao zI (aj 6) (eC (.int 1))) (eC .none)) (lN 4 (cI [(ao zI (aj 6) (eC (.int 1))),(eFn fB [(bR (itL (ao zI (aj 6) (eC (.int 2)))) (gN 0) (eC (.bool true)) (ao ixY (aj 1) (aj 0)) 1 [3])])])) cP)))
 (bA (aF fY [(cI [(aj 2),(eFn fB [(aj 4)]),(ao ixY (aj 3) (aj 1))])])))))
noncomputable def Kf:B4->zi ab:=fnR 1 (bA (eUn (Wf ql) (aj 0)))
noncomputable def jk:B4->zi ab:=fnR 5 (aG (cH (itE (aj 0)) (gT [(gN 2),(gN 3)]) [2,3,4] (aG (aU 4 (aF oV [(aj 3),(aj 1)]))
 (sIf (ao Dl (aj 4) (eC .none)) (bA (cI [(aj 2),(aj 4)])) cP)))
 (bA (eC .none)))
noncomputable def uH:B4->zi ab:=fnR 1 (bA (bR (itL (eC qe)) (gN 0) (eC (.bool true)) (aF jk [(aj 1),(aF Kf [(aj 0)])]) 1 [0]))
noncomputable def pG:B4->zi ab:=fnR 1 (bA (ao jX (eC .none) (aF uH [(aj 0)])))
noncomputable def jN:B4->zi ab:=fnR 2 (Dz 0 [(10,.ev (eC (.int 0))),(12,.ev (eC (.int 1))),(5,.cl dq [(aj 0),(eC (.int 2)),(ao zI (aj 1) (eC (.int 1))),(bV [(eC (.int 0))])]),(3,.cl dq [(aj 0),(eC (.int 2)),(ao zI (aj 1) (eC (.int 1))),(bV [(eC (.int 1))])]),(0,.cl dq [(aj 0),(eC (.int 2)),(ao zI (aj 1) (eC (.int 0))),(bV [(eC (.int 0))])]),(15,.cl dq [(aj 0),(eC (.int 2)),(ao zI (aj 1) (eC (.int 3))),(bV [(eC (.int 0))])])])
noncomputable def jw:B4->zi ab:=fnR 4 (aG (cH (itL (aj 1)) (gN 3) [3] (sIf (ao eqD (aF nO [(aj 0),(aj 3),(eC (.int 2))]) (aj 2)) (bA (aj 3)) cP))
 (bA (eC .none)))
noncomputable def gb:B4->zi ab:=fnR 8 (aG (aU 2 (bV []))
 (aG (Dk 3 2 jN [(aj 2),(aj 1)])
 (aG (aU 4 (aF iK [(ao v9 (bV [(eFn yV [(aj 3)])]) (ao zI (aj 0) (eC (.int 0))))]))
 (aG (aU 5 (aF jw [(aj 0),(aj 4),(ao zI (eC dZ) (eC (.int 1)))]))
 (aG (aU 6 (eIf (ao uo (aj 5) (eC .none)) (aF jw [(aj 0),(aj 4),(ao zI (eC yS) (eC (.int 1)))]) (aj 5)))
 (aG (lN 2 (cI [(aj 0),(eFn fB [(bR (itL (aj 6)) (gN 0) (eC (.bool true)) (ao ixY (aj 1) (aj 0)) 1 [3])])]))
 (aG (aU 7 (ao c7 (eFn il [(aj 2)]) (eC (.int 1))))
 (aG (sIf (ao uo (aj 5) (eC .none)) (Dk 7 2 dq [(aj 2),(eC (.int 2)),(ao zI (aj 1) (eC (.int 1))),(bV [(aj 7)])]) cP)
 (bA (aF o6 [(cI [(eC (.int 2)),(eFn fB [(aj 2)]),(aj 7)])]))))))))))
noncomputable def cF:B4->zi ab:=fnR 1 (aG (sIf (Bh (IK (eUn EY (aF jP [(aj 0)]))) (ao eqD (ao zI (aj 0) (eC (.int 0))) (eC gr))) (bA (ao zI (ao zI (aj 0) (eC (.int 1))) (eC (.int 0)))) cP)
 (bA (cI [(eC gr),(cI [(aj 0)])])))
noncomputable def rF(pt:B4->zi ab):B4->zi ab:=fnR 2 (aG (sIf (ao eqD (ao zI (aj 0) (eC (.int 1))) (eC (.int 0))) (bA (bV [])) cP)
 (aG (sIf (ao eqD (ao zI (aj 0) (eC (.int 1))) (aF gZ [(ao zI (aj 0) (eC (.int 0)))])) (bA (bV [(aF cF [(aj 1)])])) cP)
 (bA (bV [(cI [(eC dZ),(cI [(aj 1),(aF pt [(aj 0)])])])]))))
noncomputable def cG:Nat->B4->zi ab
 | 0=>λ_=>.bad
 | fu+1=>fnR 5 (aG (aU 1 (ao jl (ao zI (aj 0) (eC (.int 0))) (eC (.int 1))))
  (aG (aU 2 (aF jG [(aj 0),(aj 1),(eC (.int 0))]))
  (aG (aU 3 (aF jG [(aj 0),(aj 1),(eC (.int 1))]))
  (aG (sIf (ao eqD (aj 2) (aj 3)) (bA (aF (cG fu) [(aj 2)])) cP)
  (aG (aU 4 (ao c7 (aF (rF (cG fu)) [(aj 2),(aF cF [(aj 1)])]) (aF (rF (cG fu)) [(aj 3),(aj 1)])))
  (aG (sIf (ao eqD (eFn il [(aj 4)]) (eC (.int 1))) (bA (aF cF [(ao zI (aj 4) (eC (.int 0)))])) cP)
  (bA (cI [(eC dZ),(eFn fB [(aj 4)])]))))))))
noncomputable def pC:B4->zi ab:=fnR 2 (aG (aU 1 (cI [(eC dZ),(cI [(eC (.int 0)),(aF cF [(eC (.int 0))])])]))
 (aG (sIf (ao eqD (ao zI (aj 0) (eC (.int 1))) (aF gZ [(ao zI (aj 0) (eC (.int 0)))])) (bA (aj 1)) cP)
 (bA (eIf (ao eqD (ao zI (aj 0) (eC (.int 1))) (eC (.int 0))) (aF cF [(aj 1)]) (aF (cG 8) [(aj 0)])))))
noncomputable def za:B4->zi ab:=fnR 9 (aG (aU 2 (aF uH [(aj 0)]))
 (aG (cH (Wz (eC qe) (aj 2)) (gT [(gN 3),(gN 4)]) [3,4] (sIf (ao uo (aj 4) (eC .none)) Em cP))
 (aG (aU 5 (aF nY [(aj 0),(eC (.int 1))]))
 (aG (aU 6 (bR (jH (eC (.int 4))) (gN 0) (eC (.bool true)) (aF fP [(aj 1),(aj 0),(eC (.int 1))]) 1 [5]))
 (aG (aU 7 (ao zI (aj 0) (ao zI (ao zI (aj 2) (eC (.int 4))) (eC (.int 0)))))
 (aG (yU 8 [((eC gr),(ao zI (aj 6) (eC (.int 1)))),((eC dZ),(aF gb [(aj 7),(aj 6)]))])
 (bA (aF o6 [(Ku nC (aF jo [(aF pC [(aj 1)]),(ao zI (aj 1) (eC (.int 0)))]) 8)]))))))))
noncomputable def nW:B4->zi ab:=fnR 4 (aG (aU 2 (ao zI (aj 1) (eC (.int 0))))
 (aG (sIf (Bh (ao gtD (aj 2) (eC (.int 0))) (eUn EY (aF pG [(aj 0)]))) (bA (cI [(eC (.str "made")),(aF za [(aj 0),(aj 1)])])) cP)
 (aG (aU 3 (aF nY [(aj 0),(aj 2)]))
 (aG (sIf (ao inY (ao zI (aj 1) (eC (.int 1))) (aj 3)) (bA (cI [(eC (.str "made")),(aF fP [(aj 3),(ao zI (aj 1) (eC (.int 1))),(aj 2)])])) cP)
 (bA (cI [(eC (.str "cant")),(aF nJ [(aF gU [(aj 2)]),(eFn yV [(aj 3)])]),(aF fc [(aj 2)])]))))))
end Zq
theorem Zq.sizeLine_eq:bt=16777216:=by decide
namespace Zq
open PySem PySem.Spec PyProof.Rows
variable {o:Option ab}{Γ:Ev}
theorem aaP:gv (o::Γ) 0=o:=rfl
variable {i:Nat}
theorem aax:gv (o::Γ) (i+1)=gv Γ i:=rfl
theorem R9{d:ab}:aj 0 (some d::Γ)= .ok d:=rfl
theorem Sv:aj (i+1) (o::Γ)=aj i Γ:=rfl
theorem CG{d:ab}:eC d Γ = .ok d:=rfl
theorem KY{f:C7}{a b:ME}:ao f a b Γ=(a Γ).bind λx=>(b Γ).bind λy=>f x y:=rfl
theorem Zv{f:C8}{a:ME}:eUn f a Γ=(a Γ).bind f:=rfl
variable {ms:List ME}
theorem aaG{f:B4->zi ab}:eFn f ms Γ=(evs ms Γ).bind f:=rfl
theorem mV{f:B4->zi ab}:aF f ms Γ=(evs ms Γ).bind f:=rfl
theorem aal:evs [] Γ = .ok []:=rfl
variable {m:ME}
theorem Bv:evs (m::ms) Γ=(m Γ).bind λd=>(evs ms Γ).bind λds=>.ok (d::ds):=rfl
theorem Xg:cI ms Γ=(evs ms Γ).bind λds=>.ok (.tuple ds):=rfl
theorem Wl:bV ms Γ=(evs ms Γ).bind λds=>.ok (.list ds):=rfl
theorem Wv{T:String}:O7 T m Γ=(m Γ).bind λd=>.ok (.bool (vR T d)):=rfl
noncomputable def bT(x:ab)(a b:zi ab):zi ab:=match x with
 | .bool true=>a
 | .bool false=>b
 | _=>.bad
noncomputable def bS(x:ab)(a b:zi Out):zi Out:=match x with
 | .bool true=>a
 | .bool false=>b
 | _=>.bad
theorem Z7{a b:zi ab}:bT (.bool true) a b=a:=rfl
theorem Vp{a b:zi ab}:bT (.bool false) a b=b:=rfl
theorem aag{a b:zi Out}:bS (.bool true) a b=a:=rfl
theorem VN{a b:zi Out}:bS (.bool false) a b=b:=rfl
theorem UG{c:Bool}{a b:zi Out}:bS (.bool c) a b=if c=true then a else b:=by cases c <;> rfl
variable {c:ME}
theorem ZS{b:ME}:eIf c m b Γ=(c Γ).bind λx=>bT x (m Γ) (b Γ):=by
 rfl
theorem Vd:Bh m c Γ=(m Γ).bind λx=>bT x (c Γ) (.ok (.bool false)):=by
 rfl
theorem aar{a b:ME}:eOr a b Γ=(a Γ).bind λx=>bT x (.ok (.bool true)) (b Γ):=by
 unfold eOr;congr 1;funext x;cases x <;> first | rfl | (rename_i b;cases b <;> rfl)
noncomputable def abi:ab->zi ab
 | .bool t=>.ok (.bool (!t))
 | _=>.bad
theorem Vg{t:Bool}:abi (.bool t)= .ok (.bool (!t)):=rfl
theorem W8:IK m Γ=(m Γ).bind abi:=rfl
noncomputable def XQ(b:MS):Out->zi Out
 | .nx Γ'=>b Γ'
 | .rt d=>.ok (.rt d)
 | .bk Γ'=>.ok (.bk Γ')
 | .ct Γ'=>.ok (.ct Γ')
theorem lJ{b:MS}:XQ b (.nx Γ)=b Γ:=rfl
theorem Zg{b:MS}{d:ab}:XQ b (.rt d)= .ok (.rt d):=rfl
theorem gf{a b:MS}:aG a b Γ=(a Γ).bind (XQ b):=by
 rfl
theorem Zc{α:Type}{r:zi α}:gd True r=r:=rfl
theorem wB:aU i m Γ=(m Γ).bind λd=>gd (i < Γ.length) (.ok (.nx (Γ.set i (some d)))):=rfl
theorem NB{a b:MS}:sIf c a b Γ=(c Γ).bind λx=>bS x (a Γ) (b Γ):=by
 rfl
theorem Xn:bA m Γ=(m Γ).bind λd=>.ok (.rt d):=rfl
theorem Vm:cP Γ = .ok (.nx Γ):=rfl
variable {it:MI}{g:MG}{cl:B5}
theorem VR{b:MS}:cH it g cl b Γ=(it Γ).bind λxs=>forR g cl b xs Γ:=rfl
noncomputable def fin:Out->zi ab
 | .rt d=>.ok d
 | _=>.bad
theorem acQ{d:ab}:fin (.rt d)= .ok d:=rfl
variable {ds:B4}
theorem MN{m:MS}:fnR i m ds=(m (ds.map some++aI (i - ds.length) none)).bind fin:=by
 rfl
noncomputable def abu:Out->zi ab
 | .rt d=>.ok d
 | .nx _=>.ok .none
 | _=>.bad
theorem Zr:abu (.nx Γ)= .ok .none:=rfl
theorem Zk{m:MS}:fnN i m ds=(m (ds.map some++aI (i - ds.length) none)).bind abu:=by
 rfl
noncomputable def acO(Γ:Ev)(i:Nat)(d:ab):Option ab->zi Out
 | some (.list ds)=>gd (ds.length<bt/\i < Γ.length) (.ok (.nx (Γ.set i (some (.list (ds++[d]))))))
 | _=>.bad
theorem WY{d:ab}:acO Γ i d (some (.list ds))=gd (ds.length<bt/\i < Γ.length) (.ok (.nx (Γ.set i (some (.list (ds++[d])))))):=rfl
theorem XD:lN i m Γ=(m Γ).bind λd=>acO Γ i d (gv Γ i):=by
 rfl
theorem BJ{d:ab}:gN i d Γ=gd (i < Γ.length) (.ok (Γ.set i (some d))):=rfl
theorem acv{gs:List MG}:gT gs (.tuple ds) Γ=gTs gs ds Γ:=rfl
theorem aaY:gTs [] [] Γ = .ok Γ:=rfl
theorem Vu{gs:List MG}{d:ab}:gTs (g::gs) (d::ds) Γ=(g d Γ).bind λΓ'=>gTs gs ds Γ':=rfl
noncomputable def Bc:ab->zi B4
 | .list ds=>.ok ds
 | .tuple ds=>.ok ds
 | _=>.bad
theorem Sy:Bc (.list ds)= .ok ds:=rfl
theorem Qy:Bc (.tuple ds)= .ok ds:=rfl
theorem Og:itL m Γ=(m Γ).bind Bc:=by
 rfl
noncomputable def upN(n:Nat):B4:=(List.range n).map λi=>ab.int (i:Nat)
noncomputable def Qz:ab->zi B4
 | .int j=>gd (-(2^62)<=j/\j<2^62) (.ok (upN j.toNat))
 | _=>.bad
theorem Wh{j:Int}:Qz (.int j)=gd (-(2^62)<=j/\j<2^62) (.ok (upN j.toNat)):=rfl
theorem fG(h:i<2^62):Qz (.int (i:Nat))= .ok (upN i):=by
 rw[Wh,bj (by lia),dS]
theorem W4:jH m Γ=(m Γ).bind Qz:=by
 unfold jH;congr 1;funext d
 cases d with
 | int j=>show gd _ _=gd _ _;congr 2;unfold upN;simp only[Int.zero_add]
 | _=>rfl
noncomputable def abX:ab->zi B4
 | .list ds=>.ok ds.reverse
 | _=>.bad
theorem Wy:abX (.list ds)= .ok ds.reverse:=rfl
theorem YL:itV m Γ=(m Γ).bind abX:=by
 rfl
theorem YZ:clr [] Γ=Γ:=rfl
theorem WX:clr (i::cl) Γ=clr cl (Γ.set i none):=rfl
variable {a b:Int}
theorem UL:c7 (.int a) (.int b)= .ok (.int (a+b)):=rfl
theorem W9:jl (.int a) (.int b)= .ok (.int (a - b)):=rfl
theorem Vr:xj (.int a) (.int b)=gd (wF a b) (.ok (.int (a*b))):=rfl
theorem R8:t6 (.int a) (.int b)=gd (Ey a b) (.ok (.int (a / b))):=rfl
theorem V4:mJ (.int a) (.int b)=gd (0<b) (.ok (.int (a % b))):=rfl
theorem Xr:WR (.int a) (.int b)=gd (Ba a b) (.ok (.int (a*2^b.toNat))):=rfl
theorem Xz:Jm (.int a) (.int b)=gd (0<=b) (.ok (.int (a / 2^b.toNat))):=rfl
theorem Xk:wJ (.int a) (.int b)= .ok (.int (fE a b)):=rfl
theorem Zi:orD (.int a) (.int b)= .ok (.int (i7 a b)):=rfl
theorem aaq:ltD (.int a) (.int b)= .ok (.bool (decide (a<b))):=rfl
theorem aaz:gtD (.int a) (.int b)= .ok (.bool (decide (b<a))):=rfl
theorem qG:d5 (.int a)=true:=by rw[d5,kB,ab.depth];rfl
theorem ZM:eqD (.int a) (.int b)= .ok (.bool (decide (a=b))):=by
 rw[eqD,bj ⟨qG,qG⟩,fT];congr 2
theorem Y0:neD (.int a) (.int b)= .ok (.bool (!decide (a=b))):=by
 rw[neD,bj ⟨qG,qG⟩,fT];congr 2
mutual
noncomputable def plain:ab->Bool
 | .int _=>true
 | .none=>true
 | .list ds=>iI ds
 | .tuple ds=>iI ds
 | .bool _=>false
 | .str _=>false
 | .dict _=>false
noncomputable def iI:B4->Bool
 | []=>true
 | d::ds=>plain d&&iI ds
end
mutual
theorem GQ:∀(d:ab),plain d=true->d.canLay0=true
 | .int _,_=>by rw[kB]
 | .none,_=>by rw[kB]
 | .list ds,h=>by rw[kB];exact vq ds (by rwa [plain] at h)
 | .tuple ds,h=>by rw[kB];exact vq ds (by rwa [plain] at h)
 | .bool _,h=>by rw[plain] at h;cases h
 | .str _,h=>by rw[plain] at h;cases h
 | .dict _,h=>by rw[plain] at h;cases h
theorem vq:∀(ds:B4),iI ds=true->ib ds=true
 | [],_=>by rw[ib]
 | d::ds,h=>by
  rw[iI,dQ] at h;rw[ib,GQ d h.1,vq ds h.2];rfl
end
mutual
theorem mW:∀(d e:ab),plain d=true->plain e=true->(fT d e=true↔d=e)
 | .int a,.int b,_,_=>by rw[fT];simp
 | .none,.none,_,_=>by rw[fT];simp
 | .list ds,.list es,h,g=>by
  rw[plain] at h g;rw[fT,vB ds es h g];exact ⟨λz=>by rw[z],λz=>by cases z;rfl⟩
 | .tuple ds,.tuple es,h,g=>by
  rw[plain] at h g;rw[fT,vB ds es h g];exact ⟨λz=>by rw[z],λz=>by cases z;rfl⟩
 | .int _,.none,_,_ | .int _,.list _,_,_ | .int _,.tuple _,_,_ | .none,.int _,_,_ | .none,.list _,_,_ | .none,.tuple _,_,_
 | .list _,.int _,_,_ | .list _,.none,_,_ | .list _,.tuple _,_,_ | .tuple _,.int _,_,_ | .tuple _,.none,_,_ | .tuple _,.list _,_,_=>by
  rw[fT];exact ⟨(λz=>nomatch z),(λz=>nomatch z)⟩
 | .bool _,_,h,_=>by rw[plain] at h;cases h
 | .str _,_,h,_=>by rw[plain] at h;cases h
 | .dict _,_,h,_=>by rw[plain] at h;cases h
 | _,.bool _,_,h=>by rw[plain] at h;cases h
 | _,.str _,_,h=>by rw[plain] at h;cases h
 | _,.dict _,_,h=>by rw[plain] at h;cases h
theorem vB:∀(ds es:B4),iI ds=true->iI es=true->(sf ds es=true↔ds=es)
 | [],[],_,_=>by rw[sf];simp
 | [],_::_,_,_=>by rw[sf];simp
 | _::_,[],_,_=>by rw[sf];simp
 | d::ds,e::es,h,g=>by
  rw[iI,dQ] at h g;rw[sf,dQ,mW d e h.1 g.1,vB ds es h.2 g.2];simp
end
theorem iM{d:ab}(h:plain d=true)(hd:d.depth<=64):d5 d=true:=by
 rw[d5,GQ d h,decide_eq_true hd];rfl
theorem G3{a b:ab}(Y:plain a=true)(Z:plain b=true)(j:a.depth<=64)(i:b.depth<=64):(eqD a b= .ok (.bool true)↔a=b)/\(eqD a b= .ok (.bool false)↔a≠b)/\(neD a b= .ok (.bool true)↔a≠b)/\(neD a b= .ok (.bool false)↔a=b):=by
 unfold eqD neD;rw[bj ⟨iM Y j,iM Z i⟩,bj ⟨iM Y j,iM Z i⟩];have h:=mW a b Y Z
 cases q:fT a b with
 | true=>have e:=h.mp q;simp[e]
 | false=>
  have e:a≠b:=λz=>by rw[h.mpr z] at q;cases q
  simp[e]
theorem uv:∀ns:B3,iI (ns.map ab.int)=true
 | []=>by rw[fe,iI]
 | n::ns=>by rw[bq,iI,plain,uv ns];rfl
theorem vJ(ns:B3):plain (.list (ns.map ab.int))=true:=by rw[plain];exact uv ns
theorem Le(ns:B3):plain (.tuple (ns.map ab.int))=true:=by rw[plain];exact uv ns
theorem tB(ns:B3):(ab.list (ns.map ab.int)).depth<=64:=by rw[ab.depth,qT];decide
theorem Ax(ns:B3):(ab.tuple (ns.map ab.int)).depth<=64:=by rw[ab.depth,qT];decide
theorem LK{a b:B3}(h:a.map ab.int=b.map ab.int):a=b:=by
 have:=nH a;rw[h,nH] at this;exact (Option.some.inj this).symm
theorem Uu{a b:B3}:neD (.list (a.map ab.int)) (.list (b.map ab.int))= .ok (.bool (!decide (a=b))):=by
 have h:=G3 (vJ a) (vJ b) (tB a) (tB b)
 by_cases e:a=b
 . subst e;rw[h.2.2.2.mpr rfl];simp
 . rw[h.2.2.1.mpr λz=>e (LK (ab.list.inj z))];simp[e]
noncomputable def jL(cl:B5):Out->zi Out
 | .nx Γ=>.ok (.nx (clr cl Γ))
 | .ct Γ=>.ok (.nx (clr cl Γ))
 | .bk Γ=>.ok (.bk (clr cl Γ))
 | .rt d=>.ok (.rt d)
theorem Z0:jL cl (.nx Γ)= .ok (.nx (clr cl Γ)):=rfl
def Goes(r:zi Out)(P:Ev->Prop):Prop:=∃Γ,r= .ok (.nx Γ)/\P Γ
variable {P:Ev->Prop}
theorem YM:Goes (.ok (.nx Γ)) P↔P Γ:=⟨λY=>by obtain ⟨Z,e,h⟩:=Y;cases e;exact h,λh=>⟨Γ,rfl,h⟩⟩
variable {x:ab}{xs:B4}
theorem N7{b:MS}{Γ':Ev}(h:((g x Γ).bind b).bind (jL cl)= .ok (.nx Γ')):forR g cl b (x::xs) Γ=forR g cl b xs Γ':=by
 obtain ⟨o,i,j⟩:=zi.aq h;obtain ⟨e,Y,Z⟩:=zi.aq i;rw[forR,Y,zi.bf,Z,zi.bf];cases o <;> cases j <;> rfl
theorem vp{b:MS}(I:Nat->Ev->Prop):∀{xs:B4}{Γ:Ev},I 0 Γ ->
 (∀i x Γ,xs[i]?=some x->I i Γ->Goes (((g x Γ).bind b).bind (jL cl)) (I (i+1)))->∃Γ',forR g cl b xs Γ = .ok (.nx Γ')/\I xs.length Γ':=by
 intro xs
 induction xs generalizing I with
 | nil=>intro Γ Y _;exact ⟨Γ,rfl,Y⟩
 | cons x xs o=>
  intro Γ Y Z;obtain ⟨p,e,r⟩:=Z 0 x Γ rfl Y;obtain ⟨Γ',q,l⟩:=o (λi=>I (i+1)) r λi y Γ j h=>Z (i+1) y Γ (by simpa using j) h;refine ⟨Γ',?_,l⟩;rw[N7 e];exact q
theorem Od{b:MS}(S:Nat->Ev)(h0:Γ=S 0)
 (h:∀i x,xs[i]?=some x->((g x (S i)).bind b).bind (jL cl)= .ok (.nx (S (i+1)))):forR g cl b xs Γ = .ok (.nx (S xs.length)):=by
 obtain ⟨Y,e,Z⟩:=vp (λi Γ=>Γ=S i) h0 λi x Γ j l=>by
  subst l;exact ⟨_,h i x j,rfl⟩
 rw[e,Z]
theorem bI{α:Type}{b:MS}{f:Out->zi α}{r:zi α}(S:Nat->Ev)(h0:Γ=S 0)
 (h:∀i x,xs[i]?=some x->((g x (S i)).bind b).bind (jL cl)= .ok (.nx (S (i+1)))) (k:f (.nx (S xs.length))=r):(forR g cl b xs Γ).bind f=r:=by
 rw[Od S h0 h];exact k
theorem zi.bind_assoc{α Y Z:Type}{r:zi α}{f:α->zi Y}{g:Y->zi Z}:(r.bind f).bind g=r.bind λa=>(f a).bind g:=by cases r <;> rfl
variable {e:ME}
theorem FQ(F:ab->ab):∀{xs:B4},(∀x∈xs,(g x Γ).bind e= .ok (F x))->tZ g (eC (.bool true)) e Γ xs= .ok (xs.map F)
 | [],_=>rfl
 | x::xs,h=>by
  obtain ⟨i,j,Z⟩:=zi.aq (h x br);rw[tZ,j,zi.bf,CG,zi.bf,Z,zi.bf,FQ F λy Y=>h y (cc _ Y)];rfl
variable {nt:Nat}{ix:B5}
theorem G4(F:ab->ab)(Y:it Γ = .ok xs)(Z:xs.length<bt)(h:∀x∈xs,(g x (jr nt ix Γ)).bind e= .ok (F x)) :
 bR it g (eC (.bool true)) e nt ix Γ = .ok (.list (xs.map F)):=by
 rw[bR,Y,zi.bf,bj Z,FQ F h];rfl
theorem mQ{n:Nat}(F:Nat->ab)(Y:it Γ = .ok (upN n))(j:n<bt)(h:∀i,i<n->(g (.int (i:Nat)) (jr nt ix Γ)).bind e= .ok (F i)) :
 bR it g (eC (.bool true)) e nt ix Γ = .ok (.list ((List.range n).map F)):=by
 have l:(upN n).map (λd=>match d with | .int i=>F i.toNat | _=>.none)=(List.range n).map F:=by
  rw[upN,c9];refine cp λi _=>?_;show F ((i:Nat):Int).toNat=F i;rw[dS]
 rw[<- l];refine G4 _ Y (by rw[upN,ag,cq];exact j) λx Z=>?_;obtain ⟨i,Y,rfl⟩:=bX.mp Z;show _=zi.ok (F ((i:Nat):Int).toNat);rw[dS];exact h i (er.mp Y)
variable {ns:B3}
theorem DG(F:Int->ab)(Y:it Γ = .ok (ns.map ab.int))(j:ns.length<bt)(h:∀x∈ns,(g (.int x) (jr nt ix Γ)).bind e= .ok (F x)) :
 bR it g (eC (.bool true)) e nt ix Γ = .ok (.list (ns.map F)):=by
 have l:(ns.map ab.int).map (λd=>match d with | .int i=>F i | _=>.none)=ns.map F:=by
  rw[c9];rfl
 rw[<- l];refine G4 _ Y (by rw[ag];exact j) λx Z=>?_;obtain ⟨i,Y,rfl⟩:=bX.mp Z;exact h i Y
theorem lC(h:(upN nt)[i]?=some x):i<nt/\x= .int (i:Nat):=by
 unfold upN at h;rw[ba] at h;rcases fx i nt with hi | hi
 . rw[eg hi] at h;exact ⟨hi,(Option.some.inj h).symm⟩
 . rw[d3 (by rw[cq];exact hi)] at h;cases h
theorem iR(n:Nat):(upN n).length=n:=by rw[upN,ag,cq]
theorem ints_get(h:(ns.map ab.int)[i]?=some x):∃v,x= .int v/\ns[i]?=some v:=by
 rw[ba] at h
 cases e:ns[i]? with
 | none=>rw[e] at h;cases h
 | some v=>rw[e] at h;exact ⟨v,(Option.some.inj h).symm,rfl⟩
theorem Oq:jr nt ix Γ=aI nt none++ix.map (gv Γ):=rfl
theorem ie{d:ab}(h:ds[i]?=some d):zI (.list ds) (.int (i:Nat))= .ok d:=by
 show (match Zq.atI ds (i:Nat) with | some d=>zi.ok d | none=>.bad)=_;rw[Zq.Nu h]
theorem tD{d:ab}(h:ds[i]?=some d):zI (.tuple ds) (.int (i:Nat))= .ok d:=by
 show (match Zq.atI ds (i:Nat) with | some d=>zi.ok d | none=>.bad)=_;rw[Zq.Nu h]
theorem Fz:il [.list ds]= .ok (.int ds.length):=rfl
theorem vA:il [.tuple ds]= .ok (.int ds.length):=rfl
theorem Pr:Qs [.list ds]= .ok (.list ds):=rfl
theorem Ly:fB [.list ds]= .ok (.tuple ds):=rfl
theorem TX{b:Bool}:EY (.bool b)= .ok (.bool b):=rfl
noncomputable def Xb(Γ:Ev)(i:Nat)(k d:ab):Option ab->zi Out
 | some (.list ds)=>match k with
  | .int j=>gd (0<=j/\j<=ds.length/\ds.length<1000/\i < Γ.length) (.ok (.nx (Γ.set i (some (.list (ds.take j.toNat++d::ds.drop j.toNat))))))
  | _=>.bad
 | _=>.bad
theorem U7:Xb Γ i (.int a) x (some (.list ds))=gd (0<=a/\a<=ds.length/\ds.length<1000/\i < Γ.length) (.ok (.nx (Γ.set i (some (.list (ds.take a.toNat++x::ds.drop a.toNat)))))):=rfl
theorem XJ:O9 i m c Γ=(m Γ).bind λk=>(c Γ).bind λd=>Xb Γ i k d (gv Γ i):=by
 unfold O9 Xb;congr 1;funext k;congr 1;funext d
 cases gv Γ i with
 | none=>rfl
 | some x=>cases x <;> cases k <;> rfl
noncomputable def VF:ab->zi B4
 | .list ds=>.ok (gw ds)
 | .tuple ds=>.ok (gw ds)
 | _=>.bad
theorem VM:VF (.list ds)= .ok (gw ds):=rfl
theorem Wa:VF (.tuple ds)= .ok (gw ds):=rfl
theorem aaC:itE m Γ=(m Γ).bind VF:=by
 rfl
theorem Jv(Y:B4):(gw Y).length=Y.length:=by rw[gw,ag,cq]
theorem Ue(h:(gw ds)[i]?=some x):∃d,ds[i]?=some d/\x= .tuple [.int (i:Nat),d]:=by
 unfold gw at h;rw[ba] at h;rcases fx i ds.length with hi | hi
 . rw[eg hi] at h;refine ⟨ds[i],av hi,?_⟩;have e:ab.tuple [.int (i:Nat),ds.getD i .none]=x:=Option.some.inj h;rw[<- e,ae,av hi];rfl
 . rw[d3 (by rw[cq];exact hi)] at h;cases h
theorem Ld:vR "int" (.int a)=true:=rfl
theorem Hc:vR "int" (.tuple ds)=false:=rfl
theorem KR:vR "bool" (.int a)=false:=rfl
theorem Ep:vR "bool" (.tuple ds)=false:=rfl
theorem yJ(h:ds.length+xs.length<=bt):c7 (.list ds) (.list xs)= .ok (.list (ds++xs)):=bj h
theorem Tt(h:ds.length+xs.length<=bt):Qn (.list ds) (.list xs)= .ok (.list (ds++xs)):=bj h
theorem GF{α:Type}(enc:α->ab)(p:α->Bool)(F:α->ab):∀{xs:List α},(∀a∈xs,(g (enc a) Γ).bind c= .ok (.bool (p a)))->(∀a∈xs,p a=true->(g (enc a) Γ).bind e= .ok (F a))->tZ g c e Γ (xs.map enc)= .ok ((xs.filter p).map F)
 | [],_,_=>rfl
 | x::xs,h,i=>by
  obtain ⟨r,o,q⟩:=zi.aq (h x br);rw[bq,tZ,o,zi.bf,q,zi.bf];have l:=GF enc p F (λy Y=>h y (cc _ Y)) (λy Y=>i y (cc _ Y))
  cases Z:p x with
  | true=>
   have j:=i x br Z;rw[o,zi.bf] at j;rw[j,zi.bf,l,kr Z];rfl
  | false=>
   rw[l,iq (by rw[Z];exact fo)]
theorem jF{α:Type}{xs:List α}(enc:α->ab)(p:α->Bool)(F:α->ab)(Y:it Γ = .ok (xs.map enc))(Z:xs.length<bt)
 (h:∀a∈xs,(g (enc a) (jr nt ix Γ)).bind c= .ok (.bool (p a))) (h':∀a∈xs,p a=true->(g (enc a) (jr nt ix Γ)).bind e= .ok (F a)):bR it g c e nt ix Γ = .ok (.list ((xs.filter p).map F)):=by
 rw[bR,Y,zi.bf,bj (by rw[ag];exact Z),GF enc p F h h'];rfl
theorem jz{α:Type}{xs:List α}(enc:α->ab)(F:α->ab)(Z:it Γ = .ok (xs.map enc))(j:xs.length<bt)
 (h:∀a∈xs,(g (enc a) (jr nt ix Γ)).bind e= .ok (F a)):bR it g (eC (.bool true)) e nt ix Γ = .ok (.list (xs.map F)):=by
 rw[jF enc (λ_=>true) F Z j (λa Y=>?_) λa Y _=>h a Y,List.filter_eq_self.mpr λ_ _=>rfl];obtain ⟨i,l,o⟩:=zi.aq (h a Y);rw[l];rfl
theorem cU{α:Type}{enc:α->ab}{xs:List α}(h:(xs.map enc)[i]?=some x):∃a,xs[i]?=some a/\x=enc a:=by
 rw[ba] at h
 cases e:xs[i]? with
 | none=>rw[e] at h;cases h
 | some v=>rw[e] at h;exact ⟨v,rfl,(Option.some.inj h).symm⟩
def Gives{α:Type}(r:zi α)(P:α->Prop):Prop:=∃a,r= .ok a/\P a
theorem U5{α:Type}{a:α}{P:α->Prop}:Gives (.ok a) P↔P a:=⟨λY=>by obtain ⟨b,e,h⟩:=Y;cases e;exact h,λh=>⟨a,rfl,h⟩⟩
theorem vO{α:Type}{b:MS}{f:Out->zi α}{P:α->Prop}(I:Nat->Ev->Prop)(h0:I 0 Γ)
 (h:∀i x Γ,xs[i]?=some x->I i Γ->Goes (((g x Γ).bind b).bind (jL cl)) (I (i+1))) (k:∀Γ,I xs.length Γ->Gives (f (.nx Γ)) P):Gives ((forR g cl b xs Γ).bind f) P:=by
 obtain ⟨Y,e,Z⟩:=vp I h0 h;rw[e];exact k Y Z
theorem Tf{b:MS}{f:Out->zi Out}(I:Nat->Ev->Prop)(h0:I 0 Γ)
 (h:∀i x Γ,xs[i]?=some x->I i Γ->Goes (((g x Γ).bind b).bind (jL cl)) (I (i+1))) (k:∀Γ,I xs.length Γ->Goes (f (.nx Γ)) P):Goes ((forR g cl b xs Γ).bind f) P:=by
 obtain ⟨Y,e,Z⟩:=vp I h0 h;rw[e];exact k Y Z
theorem abA{a:ab}:zI (.tuple (a::ds)) (.int 0)= .ok a:=tD rfl
theorem acH{b:ab}:zI (.tuple (x::b::ds)) (.int 1)= .ok b:=tD rfl
theorem adw{b c:ab}:zI (.tuple (x::b::c::ds)) (.int 2)= .ok c:=tD rfl
noncomputable def dG(n:Nat)(b:Int):ab:=.tuple [.int (n:Nat),.int b]
noncomputable def dL(ns:B3):ab:=.list (ns.map ab.int)
theorem ix0:zI (dG i b) (.int 0)= .ok (.int (i:Nat)):=rfl
theorem ix1:zI (dG i b) (.int 1)= .ok (.int b):=rfl
theorem Y4:il [dL ns]= .ok (.int ns.length):=by rw[dL,Fz,ag]
theorem YX:Bc (dL ns)= .ok (ns.map ab.int):=rfl
theorem Ug{b:B3}:neD (dL ns) (dL b)= .ok (.bool (!decide (ns=b))):=Uu
theorem Bg:plain (dG i b)=true:=Le [i,b]
theorem J4:(dG i b).depth<=64:=Ax [i,b]
theorem ado{m:Nat}(z:dG i a=dG m b):i=m/\a=b:=by
 injection z with z;injection z with z1 z2;injection z2 with z3 z4;injection z1 with z5;injection z3 with z6;exact ⟨by lia,z6⟩
theorem Io{m:Nat}:eqD (dG i a) (dG m b)= .ok (.bool (decide (i=m/\a=b))):=by
 have h:=G3 (a:=dG i a) (b:=dG m b) Bg Bg J4 J4
 by_cases e:i=m/\a=b
 . obtain ⟨rfl,rfl⟩:=e;rw[h.1.mpr rfl];simp
 . rw[h.2.1.mpr λz=>e (ado z)];simp[e]
noncomputable def rtM(d:ab):Option ab->zi Out
 | some dm=>.ok (.rt (.tuple [d,dm]))
 | none=>.bad
variable {dm:ab}
theorem Zy:rtM x (some dm)= .ok (.rt (.tuple [x,dm])):=rfl
theorem RN:Cg i m Γ=(m Γ).bind λd=>rtM d (gv Γ i):=by
 rfl
noncomputable def stM(Γ:Ev)(x i:Nat)(r:ab):zi Out:=match oO r with
 | some (d,dm)=>gd (x < Γ.length) (.ok (.nx ((Γ.set i (some dm)).set x (some d))))
 | none=>.bad
theorem Zt:stM Γ nt i (.tuple [x,dm])=gd (nt < Γ.length) (.ok (.nx ((Γ.set i (some dm)).set nt (some x)))):=rfl
theorem RG{f:B4->zi ab}:Dk nt i f ms Γ=(evs ms Γ).bind λds=>(f ds).bind (stM Γ nt i):=rfl
noncomputable def apM(Γ:Ev)(k i:Nat)(o:Option ab)(r:ab):zi Out:=match oO r,o with
 | some (d,dm),some (.list es)=>gd (es.length<bt) (.ok (.nx ((Γ.set i (some dm)).set k (some (.list (es++[d]))))))
 | _,_=>.bad
theorem aaa:apM Γ nt i (some (.list ds)) (.tuple [x,dm])=gd (ds.length<bt) (.ok (.nx ((Γ.set i (some dm)).set nt (some (.list (ds++[x])))))):=rfl
theorem Te{f:B4->zi ab}:Ho nt i f ms Γ=(evs ms Γ).bind λds=>(f ds).bind (apM Γ nt i (gv Γ nt)):=rfl
theorem Z2:lrD (.int a)=gd (-(2^20)<=a/\a<=2^20) (.ok (.list (upN a.toNat))):=rfl
end Zq
set_option hygiene false in
local macro_rules | `(tactic| ext)=>`(tactic| simp (config:={ decide:=true,implicitDefEqProofs:=false }) only[Zq.MN,Zq.Zk,Zq.gf,Zq.lJ,Zq.Zg,Zq.Zc,Zq.Wy,Zq.wB,Zq.NB,Zq.Xn,Zq.Vm,Zq.VR,Zq.XD,Zq.WY,Zq.XJ,Zq.U7,Zq.RN,Zq.Zy,Zq.RG,Zq.Zt,Zq.Te,Zq.aaa,Zq.Z2,Zq.aaC,Zq.VM,Zq.aaP,Zq.aax,Zq.R9,Zq.Sv,Zq.CG,Zq.KY,Zq.Zv,Zq.aaG,Zq.mV,Zq.aal,Zq.Bv,Zq.Xg,Zq.Wl,Zq.Wv,Zq.ZS,Zq.Vd,Zq.aar,Zq.W8,Zq.Ld,Zq.Hc,Zq.KR,Zq.Ep,Zq.Vg,Zq.Og,Zq.W4,Zq.YL,Zq.Sy,Zq.Qy,Zq.BJ,Zq.acv,Zq.aaY,Zq.Vu,Zq.YZ,Zq.Z0,Zq.YM,Zq.U5,Zq.WX,Zq.Oq,Zq.zi.bf,Zq.zi.bind_assoc,Zq.acQ,Zq.Zr,Zq.Z7,Zq.Vp,Zq.aag,Zq.VN,Zq.UL,Zq.W9,Zq.Vr,Zq.R8,Zq.V4,Zq.Xr,Zq.Xz,Zq.Xk,Zq.Zi,Zq.aaq,Zq.aaz,Zq.ZM,Zq.Y0,Zq.abA,Zq.acH,Zq.adw,Zq.ix0,Zq.ix1,Zq.Y4,Zq.YX,Zq.Ug,Zq.Io,Zq.Fz,Zq.vA,Zq.Pr,Zq.Ly,Zq.TX,decide_false,decide_true,if_true,if_false,Bool.not_true,Bool.not_false,and_true,true_and,bq,fe,bo,jS,ag,cq,fh,lx,gX,eL,List.set_cons_zero,List.set_cons_succ,Nat.reduceSub,Nat.reduceAdd,x4])
set_option hygiene false in
local macro_rules | `(tactic| walk_at "gd")=>`(tactic| (rw[Zq.bj (by first | omega (config:={}) | (unfold Zq.wF;omega (config:={})) | (unfold Zq.Ey;omega (config:={})) | (unfold Zq.Ba;omega (config:={})) | (simp (config:={ decide:=true }) only[Zq.sizeLine_eq,ai,ag,cq,dc,l9,bo,jS];omega (config:={})))]))
set_option hygiene false in
local macro_rules | `(tactic| walk_at "go")=>`(tactic| (repeat (first | ext | walk_at "gd")))
namespace Zq
open PySem PySem.Spec PyProof.Rows
theorem Yt{a p:Int}(Y:0<=p):Cj [.int a,.int p]= .ok (.int (ak a p)):=by
 unfold Cj;ext;rw[bj Y];ext;rw[rl];rfl
variable {xs:B3}
theorem Mi:pL [dL xs]= .ok (.int (aV xs)):=by
 unfold pL dL;ext;refine bI (λi=>[some (.list (xs.map ab.int)),some (.int ((xs.reverse.take i).foldl (λn f=>2*n+f) 0)),none]) rfl (λi x Y=>?_) ?_
 rotate_left
 . ext;rw[nv,ag,<- nv,d4,Xe]
 . rw[<- List.map_reverse] at Y;obtain ⟨v,rfl,Z⟩:=ints_get Y;ext;rw[bj (.inl ⟨by decide,by decide⟩)];ext;rw[nk,Z,fg];rfl
theorem pN{n:Nat}(Z:n<=100):gU [.int (n:Nat)]= .ok (.int (2^n)):=by
 unfold gU;ext;rw[fG (by lia)];ext;refine bI (λi=>[some (.int n),some (.int (2^i)),none]) rfl (λi x Y=>?_) ?_
 . obtain ⟨_,rfl⟩:=lC Y;ext;rw[bj (.inl ⟨by decide,by decide⟩)];ext;rw[show (2:Int)*2^i=2^(i+1) by rw[j3,tp]]
 . rw[iR];ext
theorem Hg{n:Nat}(Z:n<=4):mz [.int (n:Nat)]= .ok (.int (2^2^n)):=by
 unfold mz;ext;rw[fG (by lia)];ext;refine bI (λi=>[some (.int n),some (.int (2^2^i)),none]) rfl (λi x Y=>?_) ?_
 . obtain ⟨j,rfl⟩:=lC Y;ext;have e:(2:Int)^2^i<=65536/\0<(2:Int)^2^i:=by
    have:i=0\/i=1\/i=2\/i=3:=by lia
    rcases this with rfl | rfl | rfl | rfl <;> decide
   rw[bj (.inl ⟨by lia,by lia⟩)];ext;rw[show (2:Int)^2^i*2^2^i=2^2^(i+1) by rw[<- Int.pow_add,tq];congr 1;lia]
 . rw[iR];ext
theorem gW{n:Nat}(Y:n<=4):gZ [.int (n:Nat)]= .ok (.int (2^2^n - 1)):=by
 unfold gZ;ext;rw[Hg Y];ext
theorem tK{n:Nat}(h:n<=4):2^n<=16:=by
 have:n=0\/n=1\/n=2\/n=3\/n=4:=by lia
 rcases this with rfl | rfl | rfl | rfl | rfl <;> decide
theorem Kv{n:Nat}(h:n<=4):Qz (.int (2^n))= .ok (upN (2^n)):=by
 have e:((2:Int)^n)=(((2^n:Nat)):Int):=by simp
 have:=tK h;rw[e,fG (by lia)]
theorem Jh{n:Nat}(h:n<=4):2^n<bt:=by
 have:=tK h;exact ke this (by decide)
theorem Au{n:Nat}(h:n<=100000):n<bt:=ke h (by decide)
theorem yQ{n:Nat}{f:Nat->Int}:(List.range n).map (λi=>ab.int (f i))=((List.range n).map f).map ab.int:=by rw[c9];rfl
variable {j:Nat}
theorem G8{n:Nat}(Y:n<=4):mC [.int (n:Nat),.int (j:Nat)]= .ok (.int (gF n j)):=by
 unfold mC;ext;rw[mQ (λi=>.int (ak i j)) ?_ (Jh Y) λi _=>?_]
 . ext;rw[yQ];exact (congrArg (λr=>r.bind λd=>zi.ok d) (Mi)).trans rfl
 . ext;rw[pN (by lia)];ext;exact Kv Y
 . ext;rw[Yt (by lia)]
theorem lG{n:Nat}(Y:n<=4):fc [.int (n:Nat)]= .ok (dL ((List.range n).map λj=>gF n j)):=by
 unfold fc;ext;rw[mQ (n:=n) (λj=>.int (gF n j)) ?_ (Au (by lia)) λi _=>?_]
 . ext;rw[yQ];rfl
 . ext;exact fG (by lia)
 . ext;rw[G8 Y]
theorem mj(x y:Int):fE x y / 2=fE (x / 2) (y / 2)/\fE x y % 2=(x % 2)*(y % 2):=by
 have h:=PySem.W.kbt_halves x y;have hx:x % 2=0\/x % 2=1:=by lia
 have hy:y % 2=0\/y % 2=1:=by lia
 rcases hx with hx | hx <;> rcases hy with hy | hy <;> simp only[hy] at h ⊢ <;> (try simp at h) <;> lia
theorem pK(x:Int):gS x / 2=gS (x / 2)/\gS x % 2=1 - x % 2:=by
 unfold gS;lia
theorem wH(x y:Int):i7 x y / 2=i7 (x / 2) (y / 2)/\i7 x y % 2=1 - (1 - x % 2)*(1 - y % 2):=by
 unfold i7;obtain ⟨j,l⟩:=pK (fE (gS x) (gS y));obtain ⟨b1,o⟩:=mj (gS x) (gS y);obtain ⟨e,Z⟩:=pK x;obtain ⟨Y,i⟩:=pK y;rw[j,l,b1,o,e,Z,Y,i];exact ⟨rfl,rfl⟩
noncomputable def xV(x y t:Int):Int:=i7 (fE x (gS t)) (fE y t)
theorem Qg(x y t:Int):xV x y t / 2=xV (x / 2) (y / 2) (t / 2)/\xV x y t % 2=if t % 2=1 then y % 2 else x % 2:=by
 unfold xV;obtain ⟨j,l⟩:=wH (fE x (gS t)) (fE y t);obtain ⟨b1,o⟩:=mj x (gS t);obtain ⟨Z,e⟩:=mj y t;obtain ⟨Y,i⟩:=pK t;rw[j,l,b1,o,Z,e,Y,i];refine ⟨rfl,?_⟩;have ht:t % 2=0\/t % 2=1:=by lia
 rcases ht with ht | ht <;> rw[ht] <;> simp <;> lia
theorem xK(x:Int):fE 0 x=0:=by
 have:=PySem.W.kbt_mask' x 0;simpa using this
variable {W:Nat}
theorem jO{f:Nat->Int}:tab (W+1) f=2*tab W (λr=>f (r+1))+f 0:=by
 rw[tab,List.range_succ_eq_map,bq,cQ,c9];rfl
theorem My{f g:Nat->Int}(t:Int)(Z:∀r,f r=0\/f r=1)(Y:∀r,g r=0\/g r=1):∀W:Nat,xV (tab W f) (tab W g) t=tab W λr=>if ak t (r:Nat)=1 then g r else f r
 | 0=>by
  show xV 0 0 t=0;rw[xV,xK,xK];rfl
 | W+1=>by
  have i:=My (f:=λr=>f (r+1)) (g:=λr=>g (r+1)) (t / 2) (λr=>Z (r+1)) (λr=>Y (r+1)) W;rw[jO,jO,jO];have o:=Z 0;have p:=Y 0;obtain ⟨j,l⟩:=Qg (2*tab W (λr=>f (r+1))+f 0) (2*tab W (λr=>g (r+1))+g 0) t;rw[show (2*tab W (λr=>f (r+1))+f 0) / 2=tab W (λr=>f (r+1)) by lia,show (2*tab W (λr=>g (r+1))+g 0) / 2=tab W (λr=>g (r+1)) by lia,i] at j;rw[show (2*tab W (λr=>f (r+1))+f 0) % 2=f 0 by lia,show (2*tab W (λr=>g (r+1))+g 0) % 2=g 0 by lia] at l;have e:(λr:Nat=>if ak t ((r+1:Nat):Int)=1 then g (r+1) else f (r+1))=λr:Nat=>if ak (t / 2) (r:Nat)=1 then g (r+1) else f (r+1):=by
   funext r;rw[kJ]
  rw[e,show ak t ((0:Nat):Int)=t % 2 from kY t];lia
theorem jA(c:Int):∀W:Nat,tab W (λ_=>c)=(2^W - 1)*c
 | 0=>by simp[tab,aV]
 | W+1=>by
  rw[jO,jA c W,j3];have:(2^W*2 - 1)*c=2*((2^W - 1)*c)+c:=by
   rw[Int.sub_mul,Int.sub_mul,Int.mul_sub,pj,Int.mul_left_comm (2^W) 2 c];lia
  rw[this]
variable {x:Int}
theorem nj(h0:0<=x)(Y:x<4000):oq x=true:=by
 rw[oq,decide_eq_true (show -(2^63)<=x by lia),decide_eq_true (show x<2^63 by lia)];rfl
theorem V2(h:j<1000):Ec (.int 0) (.int ((2*j:Nat):Int)) (.int 2)= .ok ((List.range j).map λ(k:Nat)=>ab.int (((2*k:Nat)):Int)):=by
 have e:dt 0 ((2*j:Nat):Int) 2=(j:Nat):=by
  rw[dt,if_pos (by decide)];split <;> lia
 have i:Builtin.Range.small 0 ((2*j:Nat):Int) 2=true:=by
  rw[Builtin.Range.small,e,nj (by decide) (by decide),nj (by lia) (by lia),nj (by decide) (by decide),nj (by lia) (by lia),if_pos (by decide),nj (by lia) (by lia),Bool.or_true];rfl
 have Y:Ec (.int 0) (.int ((2*j:Nat):Int)) (.int 2)=gd ((2:Int)≠0/\(2:Int).natAbs<1073741824/\Builtin.Range.small 0 ((2*j:Nat):Int) 2=true/\0<=dt 0 ((2*j:Nat):Int) 2) (.ok ((List.range (dt 0 ((2*j:Nat):Int) 2).toNat).map λk=>ab.int (0+(k:Nat)*2))):=rfl;have Z:(2:Int)≠0/\(2:Int).natAbs<1073741824/\Builtin.Range.small 0 ((2*j:Nat):Int) 2=true/\0<=dt 0 ((2*j:Nat):Int) 2:=⟨by lia,by lia,i,by rw[e];lia⟩;refine Y.trans ((bj Z).trans ?_);rw[e,dS];refine congrArg zi.ok (cp λk _=>congrArg ab.int ?_);lia
noncomputable def JB(W N:Nat)(F:Int->Nat->Int):B3:=(List.range N).map λp=>tab W (F (p:Nat))
variable {p:Nat}
theorem Ej{F:Int->Nat->Int}(h:p<j):((JB W j F).map ab.int)[p]?=some (.int (tab W (F (p:Nat)))):=by
 rw[JB,c9,ba,eg h];rfl
noncomputable def Hs(t:Int)(F:Int->Nat->Int):Int->Nat->Int:=λp r=>F (2*p+ak t (r:Nat)) r
noncomputable def lE:B3->(Int->Nat->Int)->Int->Nat->Int
 | [],F=>F
 | t::ts,F=>lE ts (Hs t F)
theorem Jy:∀{ts:B3}{F:Int->Nat->Int},(∀p r,F p r=0\/F p r=1)->∀p r,lE ts F p r=0\/lE ts F p r=1
 | [],F,h=>h
 | t::ts,F,h=>Jy (ts:=ts) λp r=>h _ r
theorem Cr:∀{ts:B3}{t:Int}{F:Int->Nat->Int},lE (ts++[t]) F=Hs t (lE ts F)
 | [],t,F=>rfl
 | u::ts,t,F=>Cr (ts:=ts)
theorem JF:∀{ts:B3}{F:Int->Nat->Int}{p:Int}{r:Nat},lE ts F p r=F (2^ts.length*p+aV (ts.map λt=>ak t (r:Nat))) r
 | [],F,p,r=>by show F p r=F (2^0*p+0) r;simp
 | t::ts,F,p,r=>by
  show lE ts (Hs t F) p r=_;rw[JF];rw[Hs,bq,cQ,bo,j3];congr 1;rw[tp (2^ts.length) 2,pj];lia
variable {m:Nat}{b:Int}{ts:B3}
theorem Gf(j:ts.length=m)(Z:m<=4):qd [dG m b,dL ts,.int (2^W - 1)]= .ok (.int (tab W λr=>ak b (aV (ts.map λt=>ak t (r:Nat))))):=by
 have q:=λi=>by have:=tK (n:=m - i) (by lia);lia
 unfold qd;ext;rw[mQ (λp=>.int (tab W λ_=>ak b p)) ?_ (Jh Z) λi _=>?_]
 rotate_left
 . ext;rw[pN (by lia)];ext;exact Kv Z
 . ext;rw[Yt (by lia)];ext;have o:wF (2^W - 1) (ak b (i:Nat)):=.inr ⟨by have:=K8 b i;lia,by have:=Zu b i;lia⟩;rw[bj o,jA]
 ext;rw[yQ];refine bI (λi=>[some (dG m b),some (dL ts),some (.int (2^W - 1)),some (dL (JB W (2^(m - i)) (lE (ts.take i) λp r=>ak b p))),none]) rfl (λi x s=>?_) ?_
 rotate_left
 . rw[ag,j,ka,<- j,d4];unfold dL;ext;rw[show (ab.int 0)= .int ((0:Nat):Int) from rfl,ie (Ej (by decide))];ext;congr 2;refine bU λr z=>?_;rw[JF];congr 1;simp
 . obtain ⟨t,rfl,e⟩:=ints_get s;have C:=(a0.mp e).1;have u:2^(m - i)=2*2^(m - (i+1)):=by rw[show m - i=(m - (i+1))+1 by lia,tq];lia
   have B:=q (i+1);have Y:∀p r,lE (ts.take i) (λp r=>ak b p) p r=0\/lE (ts.take i) (λp r=>ak b p) p r=1:=Jy λp r=>aL b p;ext;rw[jz (xs:=List.range (2^(m - (i+1)))) (λk=>.int ((2*k:Nat):Int)) (λk=>.int (tab W (lE (ts.take (i+1)) (λp r=>ak b p) k))) ?_ (Au (by rw[cq];lia)) λk v=>?_]
   . ext;rw[yQ];rfl
   . unfold Bd;ext;rw[show (JB W (2^(m - i)) (lE (ts.take i) λp r=>ak b p)).length=2*2^(m - (i+1)) by rw[JB,ag,cq,u]];exact V2 (by lia)
   . have l:=er.mp v;unfold dL;ext;rw[ie (Ej (by lia)),show ((2*k:Nat):Int)+1=((2*k+1:Nat):Int) by lia,ie (Ej (by lia))];ext;show zi.ok (ab.int (xV (tab W _) (tab W _) t))=_;rw[My t (Y _) (Y _)];congr 2;refine bU λr z=>?_;rw[nk,e];show _=lE (ts.take i++[t]) _ _ _;rw[Cr];rcases aL t r with h | h <;> rw[h]
     . rw[if_neg (by decide)];congr 1 <;> lia
     . rw[if_pos rfl];congr 1 <;> lia
theorem BR(e:ts.length=m)(Z:m<=4)(Y:j<=4):nO [dG m b,dL ts,.int (j:Nat)]= .ok (.int (bZ b ts j)):=by
 unfold nO;ext;rw[gW Y];ext;rw[Gf e Z];rfl
theorem Ce{n:Nat}(e:n<=3)(Z:j<=n)(i:x=0\/x=1):jG [dG (n+1) b,.int (j:Nat),.int x]= .ok (dG n (eV n b j x)):=by
 have Y:n<=4:=by lia
 unfold jG;ext;have l:(((n+1:Nat):Nat):Int) - 1=(n:Nat):=by lia
 rw[l,lG Y];unfold dL;ext;have ins:∀t:Int,((((List.range n).map λj=>gF n j).map ab.int).take ((j:Nat):Int).toNat++ab.int t::(((List.range n).map λj=>gF n j).map ab.int).drop ((j:Nat):Int).toNat)=(lF j t ((List.range n).map λj=>gF n j)).map ab.int:=λt=>by
  rw[lF,dS,be,List.map_take,bq,List.map_drop]
 have len:(((List.range n).map λj=>gF n j).map ab.int).length=n:=by simp
 have fin:∀t:Int,nO [dG (n+1) b,.list ((lF j t ((List.range n).map λj=>gF n j)).map ab.int),.int (n:Nat)]= .ok (.int (bZ b (lF j t ((List.range n).map λj=>gF n j)) n)):=λt=>
  BR (by rw[JG (by simpa using Z)];simp) (by lia) Y
 rcases i with rfl | rfl
 . ext;walk_at "gd";ext;rw[ins,fin];rfl
 . ext;rw[gW Y];ext;walk_at "gd";ext;rw[ins,fin];rfl
theorem yx(a:Int){m:Int}(h:0<m):∃n:Nat,a % m=(n:Nat)/\(n:Int)<m:=
 ⟨(a % m).toNat,by have:=lj a (show m≠0 by lia);lia,by have:=kL a h;have:=lj a (show m≠0 by lia);lia⟩
structure aA where
 m:Nat
 b:Int
 ws:B5
noncomputable def dN(ks:B5):B4:=ks.map λk=>ab.int (k:Nat)
noncomputable def aA.d(s:aA):ab:=.tuple [dG s.m s.b,.tuple (dN s.ws)]
structure aA.Ok (t:Nat) (s:aA):Prop where
 m4:s.m<=4
 len:s.ws.length=s.m
 lt:∀k∈s.ws,k<t
 b0:0<=s.b
 b1:s.b<2^2^s.m
def aP(n:Nat)(ss:List aA):Prop:=∀(i:Nat) (s:aA),ss[i]?=some s->s.Ok (n+i)
noncomputable def dC(n:Nat)(ss:List aA)(o:Nat):ab:=.tuple [.int (n:Nat),.tuple (ss.map aA.d),.int (o:Nat)]
noncomputable def zH(n:Nat)(ts:B3)(s:aA):B3:=ts++[bZ s.b (s.ws.map λk=>ts.getD k 0) n]
noncomputable def cA(n:Nat)(ss:List aA):B3:=ss.foldl (zH n) ((List.range n).map λj=>gF n j)
noncomputable def stepV(vs:B3)(s:aA):B3:=vs++[ak s.b (aV (s.ws.map λk=>vs.getD k 0))]
noncomputable def b8(n:Nat)(ss:List aA)(r:Nat):B3:=ss.foldl stepV (bu n r)
variable {ss:List aA}{s:aA}
theorem qJ:cA j (ss++[s])=zH j (cA j ss) s:=by rw[cA,fg];rfl
variable {r:Nat}
theorem iW:b8 j (ss++[s]) r=stepV (b8 j ss r) s:=by rw[b8,fg];rfl
theorem snoc_ind{α:Type}{P:List α->Prop}(h0:P [])(h:∀l a,P l->P (l++[a]))(l:List α):P l:=by
 have:∀k:Nat,∀l:List α,l.length=k->P l:=by
  intro k
  induction k with
  | zero=>intro l Y;rw[ip.mp Y];exact h0
  | succ k e=>
   intro l Y;have Z:l≠[]:=λz=>by rw[z] at Y;cases Y
   rw[<- sN Z];exact h _ _ (e _ (by rw[List.length_dropLast,Y];rfl))
 exact this _ l rfl
theorem yu:(cA j ss).length=j+ss.length:=by
 induction ss using snoc_ind with
 | h0=>unfold cA;simp
 | h l a Y=>rw[qJ];rw[zH,ai,Y,ai];simp;lia
theorem gR{n:Nat}:(b8 n ss r).length=n+ss.length:=by
 induction ss using snoc_ind with
 | h0=>unfold b8;simp[bB]
 | h l a Y=>rw[iW];rw[stepV,ai,Y,ai];simp;lia
theorem uM:bH (b8 j ss r):=by
 induction ss using snoc_ind with
 | h0=>exact bH.bu
 | h l a Y=>
  rw[iW];unfold stepV;intro x Z;rcases ck.mp Z with z | z
  . exact Y x z
  . rw[aw.mp z];exact aL _ _
theorem o8(h:bH xs)(k:Nat):xs.getD k 0=0\/xs.getD k 0=1:=by
 rw[ae]
 cases e:xs[k]? with
 | none=>exact .inl rfl
 | some x=>exact h x (d6 e)
theorem Mh{n:Nat}:∀t∈cA n ss,0<=t/\t<2^2^n:=by
 induction ss using snoc_ind with
 | h0=>
  intro t Y;obtain ⟨j,_,rfl⟩:=bX.mp Y;exact ⟨yl _ _,JK _ _⟩
 | h l a Z=>
  rw[qJ];unfold zH;intro t Y;rcases ck.mp Y with z | z
  . exact Z t z
  . rw[aw.mp z];exact ⟨Ak _ _ _,MP _ _ _⟩
theorem O4(Y:r<2^W):(cA W ss).map (λt=>ak t (r:Nat))=b8 W ss r:=by
 induction ss using snoc_ind with
 | h0=>
  show ((List.range W).map λj=>gF W j).map _=bu W r;rw[c9,<- Aa];exact cp λj _=>yH Y
 | h l a Z=>
  rw[qJ,iW];unfold zH stepV;rw[be,Z];congr 1;show [ak (bZ _ _ W) (r:Nat)]=_;rw[Hw Y,c9];congr 3;refine cp λk _=>?_;show ak ((cA W l).getD k 0) (r:Nat)=(b8 W l r).getD k 0;rw[<- Z,ae,ae,ba]
  cases (cA W l)[k]? with
  | none=>exact Cz _
  | some x=>rfl
variable {i:Nat}
theorem tH{n:Nat}:(cA n ss).getD i 0=tab (2^n) λr=>(b8 n ss r).getD i 0:=by
 have Y:0<=(cA n ss).getD i 0/\(cA n ss).getD i 0<2^2^n:=by
  rw[ae]
  cases e:(cA n ss)[i]? with
  | none=>exact ⟨l8 _,two_pos _⟩
  | some x=>exact Mh x (d6 e)
 refine (De (λr=>o8 uM i) Y.1 Y.2 λr Z=>?_).symm;rw[<- O4 Z,ae,ae,ba]
 cases (cA n ss)[i]? with
 | none=>exact (Cz _).symm
 | some x=>rfl
theorem aP.nil:aP j []:=λi s h=>by cases h
theorem aP.snoc(h:aP j ss)(hs:s.Ok (j+ss.length)):aP j (ss++[s]):=λi t Y=>by
 rcases fx i ss.length with hi | hi
 . rw[cE hi] at Y;exact h i t Y
 . rw[bE hi] at Y;have:=by
    have:=(a0.mp Y).1;simp at this;lia
   rw[this] at Y;have e:=Option.some.inj Y;subst e;rw[show i=ss.length by lia];exact hs
theorem Fp(h:j<ts.length):zI (dL ts) (.int (j:Nat))= .ok (.int (ts.getD j 0)):=by
 refine ie ?_;rw[ba,ae,av h];rfl
theorem nQ(h:ss[i]?=some s):ss.take (i+1)=ss.take i++[s]:=by
 rw[nk,h];rfl
theorem ZL{o:ab}(e:j<=4)(hs:aP j ss)(r:ss.length<=10000):zg [.tuple [.int (j:Nat),.tuple (ss.map aA.d),o]]= .ok (dL (cA j ss)):=by
 unfold zg;ext;rw[lG e];ext;refine bI (λi=>[some (.tuple [.int j,.tuple (ss.map aA.d),o]),some (.int j),some (dL (cA j (ss.take i))),none]) rfl (λi x l=>?_) ?_
 . obtain ⟨s,Y,rfl⟩:=cU l;have ok:=hs i s Y;have q:=(a0.mp Y).1;have Z:(cA j (ss.take i)).length=j+i:=by rw[yu,dc];lia
   have m4:=ok.m4;unfold aA.d;ext;rw[jz (λk=>.int (k:Nat)) (λk=>.int ((cA j (ss.take i)).getD k 0)) ?_ (Au (by rw[ok.len];lia)) λk p=>?_]
   . rw[show s.ws.map (λk=>ab.int ((cA j (ss.take i)).getD k 0))=(s.ws.map λk=>(cA j (ss.take i)).getD k 0).map ab.int by rw[c9];rfl,show ab.list ((s.ws.map λk=>(cA j (ss.take i)).getD k 0).map ab.int)=dL (s.ws.map λk=>(cA j (ss.take i)).getD k 0) from rfl];ext;rw[BR (by rw[ag,ok.len]) (by lia) e];unfold dL;ext;rw[bj (Au (by rw[Z];lia))];ext;rw[nQ Y,qJ];rw[zH,be];rfl
   . ext;rfl
   . have:=ok.lt k p;ext;rw[Fp (by rw[Z];lia)]
 . rw[ag,d4];ext
variable {o:Nat}
theorem RL(Z:j<=4)(hs:aP j ss)(e:ss.length<=10000)(Y:o<j+ss.length):tO [dC j ss o]= .ok (dG j ((cA j ss).getD o 0)):=by
 unfold tO dC;ext;rw[ZL Z hs e];ext;rw[Fp (by rw[yu];exact Y)];ext;rfl
theorem Gy:Jq [.list (xs.map ab.int)]= .ok (.int xs.sum):=by
 show (match intsOf (xs.map ab.int) with | some ns=>zi.ok (ab.int ns.sum) | none=>.bad)=_;rw[nH]
theorem Aj:∀{ds:B4},(∀d∈ds,d.depth<=j)->lh ds<=j
 | [],_=>by rw[lh];exact iS _
 | d::ds,h=>by
  rw[lh];exact Nat.max_le.mpr ⟨h d br,Aj λe Y=>h e (cc _ Y)⟩
variable {ds:B4}
theorem xW{k:Nat}(h:∀d∈ds,d.depth<=k):(ab.tuple ds).depth<=k+1:=by
 rw[ab.depth];have:=Aj h;lia
theorem Gp(h:∀d∈ds,plain d=true):iI ds=true:=by
 induction ds with
 | nil=>rw[iI]
 | cons d ds Z=>rw[iI,h d br,Z λe Y=>h e (cc _ Y)];rfl
theorem Sq(h:∀d∈ds,plain d=true):plain (.tuple ds)=true:=by rw[Zq.plain];exact Gp h
theorem uO:plain (.int x)=true:=by rw[Zq.plain]
theorem uL:(ab.int x).depth<=0:=by rw[ab.depth];exact ay _
theorem RC:(dG j b).depth<=1:=xW λd hd=>by
 rcases b9.mp hd with rfl | hd
 . exact uL
 . rw[aw.mp hd];exact uL
theorem Py:zI (dC j ss o) (.int 0)= .ok (.int (j:Nat)):=rfl
theorem JM:zI (dC j ss o) (.int 1)= .ok (.tuple (ss.map aA.d)):=rfl
theorem Qc:zI (dC j ss o) (.int 2)= .ok (.int (o:Nat)):=rfl
theorem xN(xs:B3):aV (rJ xs)=2^xs.length - 1 - aV xs:=by
 induction xs with
 | nil=>rfl
 | cons x xs Y=>
  show aV ((1 - x)::rJ xs)=_;rw[cQ,Y,cQ,bo,j3];lia
theorem aP.init(h:aP j (ss++[s])):aP j ss/\s.Ok (j+ss.length):=by
 refine ⟨λi t e=>h i t ?_,h ss.length s ?_⟩
 . rw[cE (a0.mp e).1];exact e
 . rw[bE (ay _),ka];rfl
noncomputable def cV(b:Int)(ts:B3)(w:Nat):Int:=tab w λc=>ak b (aV (ts.map λt=>ak t (c:Nat)))
variable {w:Nat}
theorem Li:0<=cV b ts w:=lB λ_=>aL _ _
theorem aaF:cV b ts w<2^w:=u0 λ_=>aL _ _
theorem QF(Z:ts.length=m)(Y:m<=4)(e:w<=100):qW [dG m b,dL ts,.int (w:Nat)]= .ok (.int (cV b ts w)):=by
 unfold qW;ext;rw[pN e];ext;rw[Gf Z Y];rfl
theorem take_snoc{α:Type}{l:List α}{x:α}(h:l[i]?=some x):l.take (i+1)=l.take i++[x]:=by
 rw[List.take_succ,h];rfl
noncomputable def dT(m:Nat)(b:Int)(ds:B4):ab:=.tuple [dG m b,.tuple ds]
def m8(n:Nat):Nat->ab->Prop
 | 0,d=>∃i:Nat,i<n/\d= .int (i:Nat)
 | k+1,d=>(∃i:Nat,i<n/\d= .int (i:Nat))\/∃(m:Nat) (b:Int) (ds:B4),m<=4/\0<=b/\b<2^2^m/\ds.length=m/\d=dT m b ds/\∀e∈ds,m8 n k e
theorem m8.inp{n k i:Nat}(h:i<n):m8 n k (.int (i:Nat)):=by
 cases k with
 | zero=>exact ⟨i,h,rfl⟩
 | succ k=>exact .inl ⟨i,h,rfl⟩
noncomputable def Iz(r:Nat):Nat->ab->Int
 | _,.int i=>ak (r:Nat) i
 | k+1,.tuple [.tuple [_,.int b],.tuple ds]=>ak b (aV (ds.map (Iz r k)))
 | _,_=>0
noncomputable def jE:Nat->ab->Int
 | _,.int _=>0
 | k+1,.tuple [_,.tuple ds]=>1+(ds.map (jE k)).sum
 | _,_=>0
theorem JW{i:Int}:Iz r j (.int i)=ak (r:Nat) i:=by cases j <;> rfl
theorem yN:Iz r (j+1) (dT m b ds)=ak b (aV (ds.map (Iz r j))):=rfl
theorem Ao:jE j (.int x)=0:=by cases j <;> rfl
theorem t7:jE (j+1) (dT m b ds)=1+(ds.map (jE j)).sum:=rfl
theorem Vs{α:Type}{xs:List α}{f:α->Int}{x:α}(h:xs[i]?=some x):((xs.take (i+1)).map f).sum=((xs.take i).map f).sum+f x:=by
 rw[List.take_succ,h,be,sQ];simp
theorem uZ:jP [.int x]= .ok (.bool true):=by
 unfold jP;ext
theorem oJ:jP [.tuple ds]= .ok (.bool false):=by
 unfold jP;ext
noncomputable def ren(n1 t:Nat)(hs:B5)(w:Nat):Nat:=if w<n1 then hs.getD w 0 else t+(w - n1)
noncomputable def mv(n1 t:Nat)(hs:B5)(s:aA):aA:=⟨s.m,s.b,s.ws.map (ren n1 t hs)⟩
theorem Ca{ks:B5}(h:w<ks.length):zI (.list (dN ks)) (.int (w:Nat))= .ok (.int (ks.getD w 0:Nat)):=by
 refine ie ?_;rw[dN,ba,av h,ae,av h];rfl
theorem yL{a b:B5}:dN (a++b)=dN a++dN b:=by unfold dN;rw[be]
theorem uV{a:B5}:(dN a).length=a.length:=by rw[dN,ag]
variable {hs:B5}{n1:Nat}
theorem BP(hh:hs.length=n1)(Y:w<n1+i):(hs++(List.range i).map (j + ·)).getD w 0=ren n1 j hs w:=by
 rw[ren,ae]
 by_cases h:w<n1
 . rw[if_pos h,cE (by lia),ae]
 . rw[if_neg h,bE (by lia),ba,eg (by lia),hh];rfl
theorem G6(Z:∀w∈s.ws,w<hs.length)(e:s.ws.length<=100):jB [s.d,.list (dN hs)]= .ok (aA.mk s.m s.b (s.ws.map λw=>hs.getD w 0)).d:=by
 unfold jB aA.d;ext;rw[jz (xs:=s.ws) (λw=>ab.int w) (λw=>.int (hs.getD w 0:Nat)) ?_ (Au (by lia)) λw Y=>?_]
 rotate_left
 . ext;rfl
 . ext;exact Ca (Z w Y)
 ext;rw[dN,c9];rfl
variable {zd:List aA}
theorem p_add{n:Nat}(Z:aP n1 ss)(hh:hs.length=n1)(E:zd.length<=5000)(D:ss.length<=5000)(u:o<n1+ss.length)(B:n1<=100) :
 dq [.list (zd.map aA.d),.int (n:Nat),dC n1 ss o,.list (dN hs)]= .ok (.tuple [.int (ren n1 (n+zd.length) hs o:Nat),.list ((zd++ss.map (mv n1 (n+zd.length) hs)).map aA.d)]):=by
 unfold dq;ext;rw[JM];ext;refine bI (λi=>[some (.list ((zd++(ss.take i).map (mv n1 (n+zd.length) hs)).map aA.d)),some (.int n),some (dC n1 ss o),some (.list (dN hs)),some (.list (dN (hs++(List.range i).map (n+zd.length + ·)))),none]) ?_ (λi x q=>?_) ?_
 . rw[mm,fe,c8,List.range_zero,fe,c8]
 . obtain ⟨s,e,rfl⟩:=cU q;have ok:=Z i s e;have C:=(a0.mp e).1;have m4:=ok.m4;have z:=ok.len;ext;rw[G6 (λw Y=>by have:=ok.lt w Y;rw[ai,ag,cq];lia) (by lia)];have l:(aA.mk s.m s.b (s.ws.map λw=>(hs++(List.range i).map (n+zd.length + ·)).getD w 0))=mv n1 (n+zd.length) hs s:=by
    congr 1;exact cp λw Y=>BP hh (ok.lt w Y)
   have r:(zd++(ss.take i).map (mv n1 (n+zd.length) hs)).length=zd.length+i:=by
    rw[ai,ag,dc];lia
   rw[l];ext;rw[bj (Au (by lia))];ext;rw[bj (Au (by rw[uV,ai,ag,cq];lia))];ext;have j:((n:Nat):Int)+(((zd++(ss.take i).map (mv n1 (n+zd.length) hs)).map aA.d++[(mv n1 (n+zd.length) hs s).d]).length:Nat) - 1=((n+zd.length+i:Nat):Nat):=by
    rw[ai,ag,r,cK];lia
   have p:(zd++(ss.take (i+1)).map (mv n1 (n+zd.length) hs)).map aA.d=(zd++(ss.take i).map (mv n1 (n+zd.length) hs)).map aA.d++[(mv n1 (n+zd.length) hs s).d]:=by
    rw[nQ e,be (f:=mv n1 (n+zd.length) hs),<- dy];exact be
   have v:dN (hs++(List.range (i+1)).map (n+zd.length + ·))=dN (hs++(List.range i).map (n+zd.length + ·))++[.int (n+zd.length+i:Nat)]:=by
    rw[kC,be,<- dy];exact yL
   rw[j,p,v]
 . rw[ag,d4];ext;rw[Qc];ext;rw[Ca (by rw[ai,ag,cq];lia),BP hh u];ext
theorem Bk{n:Nat}(Z:w<n)(ss:List aA):(b8 n ss r).getD w 0=(bu n r).getD w 0:=by
 induction ss using snoc_ind with
 | h0=>rfl
 | h ss s Y=>
  rw[iW,<- Y];unfold stepV;have:=gR (n:=n) (ss:=ss) (r:=r);rw[ae,cE (by lia),ae]
variable {ys:B3}
theorem tu(h:w<xs.length):(xs++ys).getD w 0=xs.getD w 0:=by
 rw[ae,cE h,ae]
theorem getD_map{α:Type}{f:Nat->Int}(h:w<hs.length):(hs.map f).getD w 0=f (hs.getD w 0):=by
 rw[ae,ba,av h,ae,av h];rfl
theorem NT{w:Nat}(hh:hs.length=n1)(Y:∀x∈hs,x<xs.length)(i:ts.length=n1+j)(Z:∀w,w<n1->ts.getD w 0=xs.getD (hs.getD w 0) 0)(l:w<n1+j) :
 (xs++ts.drop n1).getD (ren n1 xs.length hs w) 0=ts.getD w 0:=by
 unfold ren
 by_cases h:w<n1
 . have e:hs.getD w 0<xs.length:=by
    rw[ae,av (by lia)];exact Y _ (fA _)
   rw[if_pos h,Z w h,tu e]
 . rw[if_neg h,ae,bE (by lia),List.getElem?_drop,ae];congr 2;lia
theorem Za{n:Nat}(hh:hs.length=n1)(Y:∀x∈hs,x<n+zd.length)(o:bu n1 j=hs.map λw=>(b8 n zd r).getD w 0)(ss:List aA) :
 aP n1 ss->b8 n (zd++ss.map (mv n1 (n+zd.length) hs)) r=b8 n zd r++(b8 n1 ss j).drop n1:=by
 have e:=gR (n:=n) (ss:=zd) (r:=r)
 induction ss using snoc_ind with
 | h0=>
  intro _;rw[fe,c8,show b8 n1 [] j=bu n1 j from rfl,x6 (by rw[bB];exact ay _),c8]
 | h ss s v=>
  intro h;obtain ⟨l,p⟩:=h.init;have z:=gR (n:=n1) (ss:=ss) (r:=j);rw[be,bq,fe,<- dy,iW,iW,v l];unfold stepV;have key:=λw Z=>by
   have:=NT hh (λx q=>by rw[e];exact Y x q) z (λu i=>by rw[Bk i,o,getD_map (α:=Nat) (by lia)]) (p.lt w Z);rwa [e] at this
  rw[dy,List.drop_append_of_le_length (by lia)];congr 2;show [ak s.b (aV ((s.ws.map (ren n1 (n+zd.length) hs)).map λk=>_))]=_;rw[c9];congr 3;exact cp λw Z=>key w Z
theorem ad8{n:Nat}(p:aP n zd)(o:aP n1 ss)(hh:hs.length=n1)(Y:∀x∈hs,x<n+zd.length):aP n (zd++ss.map (mv n1 (n+zd.length) hs)):=λi s e=>by
 by_cases h:i<zd.length
 . rw[cE h] at e;exact p i s e
 . rw[bE (by lia),ba] at e
   cases q:ss[i - zd.length]? with
   | none=>rw[q] at e;cases e
   | some j=>
    rw[q] at e;cases e;have ok:=o _ _ q;refine ⟨ok.m4,by show (j.ws.map _).length=j.m;rw[ag,ok.len],λw r=>?_,ok.b0,ok.b1⟩;obtain ⟨u,l,rfl⟩:=bX.mp r;have:=ok.lt u l;unfold ren
    by_cases Z:u<n1
    . rw[if_pos Z,ae,av (by lia)];have:=Y _ (fA (n:=u) (by lia));show hs[u]<_;lia
    . rw[if_neg Z];lia
theorem aco{k:Nat}(hh:hs.length=n1)(Y:∀x∈hs,x<j)(e:w<n1+k):ren n1 j hs w<j+k:=by
 unfold ren
 by_cases Z:w<n1
 . rw[if_pos Z,ae,av (by lia)];have:=Y _ (fA (n:=w) (by lia));show hs[w]<_;lia
 . rw[if_neg Z];lia
noncomputable abbrev Part:=List aA×Nat
structure Part.Ok (n:Nat) (p:Part):Prop where
 st:aP n p.1
 le:p.1.length<=600
 lt:p.2<n+p.1.length
noncomputable def fV(f:List aA->ab->List aA×Nat)(zd:List aA)(ds:B4):List aA×B5:=ds.foldl (λa d=>((f a.1 d).1,a.2++[(f a.1 d).2])) (zd,[])
noncomputable def dM(n:Nat):Nat->List aA->ab->List aA×Nat
 | 0=>λzd d=>match d with
  | .int i=>(zd,i.toNat)
  | _=>(zd,0)
 | k+1=>λzd d=>match d with
  | .int i=>(zd,i.toNat)
  | .tuple [.tuple [.int m,.int b],.tuple ds]=>((fV (dM n k) zd ds).1++[⟨m.toNat,b,(fV (dM n k) zd ds).2⟩],n+(fV (dM n k) zd ds).1.length)
  | _=>(zd,0)
theorem Aq:dM j W zd (.int (i:Nat))=(zd,i):=by cases W <;> rfl
theorem t8:dM j (W+1) zd (dT m b ds)=((fV (dM j W) zd ds).1++[⟨m,b,(fV (dM j W) zd ds).2⟩],j+(fV (dM j W) zd ds).1.length):=rfl
theorem Gu{f:List aA->ab->List aA×Nat}{d:ab}:fV f zd (ds++[d])=((f (fV f zd ds).1 d).1,(fV f zd ds).2++[(f (fV f zd ds).1 d).2]):=by
 rw[fV,fg];rfl
noncomputable def cM{β:Type}(φ:Nat->Int->List β->β)(z:β)(base:List β)(ss:List aA):List β:=ss.foldl (λxs s=>xs++[φ s.m s.b (s.ws.map λw=>xs.getD w z)]) base
section
variable {β:Type}{φ:Nat->Int->List β->β}{z:β}{base:List β}{n:Nat}
theorem mL:cM φ z base (ss++[s])=cM φ z base ss++[φ s.m s.b (s.ws.map λw=>(cM φ z base ss).getD w z)]:=by rw[cM,fg];rfl
theorem lV(Y:base.length=n):(cM φ z base ss).length=n+ss.length:=by
 induction ss using snoc_ind with
 | h0=>exact Y
 | h ss s Z=>rw[mL,ai,Z,ai];rfl
theorem Cd{xs Y:List β}(h:w<xs.length):(xs++Y).getD w z=xs.getD w z:=by
 rw[ae,cE h,ae]
theorem o5(Y:base.length=n)(i:w<n+zd.length)(more:List aA):(cM φ z base (zd++more)).getD w z=(cM φ z base zd).getD w z:=by
 induction more using snoc_ind with
 | h0=>rw[c8]
 | h e s Z=>
  rw[<- dy,mL,Cd (by rw[lV Y,ai];lia),Z]
structure Kid (φ:Nat->Int->List β->β) (z:β) (base:List β) (n:Nat) (zd:List aA) (q:List aA×Nat) (g:β) (c:Int):Prop where
 pre:∃more,q.1=zd++more
 ok:aP n q.1
 lt:q.2<n+q.1.length
 val:(cM φ z base q.1).getD q.2 z=g
 len:((q.1.length:Nat):Int)=zd.length+c
structure abS (φ:Nat->Int->List β->β) (z:β) (base:List β) (n:Nat) (zd:List aA) (q:List aA×B5) (gs:List β) (c:Int):Prop where
 pre:∃more,q.1=zd++more
 ok:aP n q.1
 lt:∀w∈q.2,w<n+q.1.length
 val:(q.2.map λw=>(cM φ z base q.1).getD w z)=gs
 len:((q.1.length:Nat):Int)=zd.length+c
theorem Nx(D:base.length=n){f:List aA->ab->List aA×Nat}{G:ab->β}{C:ab->Int}(v:aP n zd)(Y:B4) :
 (∀d∈Y,∀zd,aP n zd->Kid φ z base n zd (f zd d) (G d) (C d))->abS φ z base n zd (fV f zd Y) (Y.map G) (Y.map C).sum:=by
 induction Y using snoc_ind with
 | h0=>exact λ_=>⟨⟨[],(c8 _).symm⟩,v,λw hw=>(nomatch hw),rfl,by show ((zd.length:Nat):Int)=zd.length+(0:Int);lia⟩
 | h Y d u=>
  intro h;obtain ⟨⟨E,r⟩,p,i,s,n1⟩:=u λe B=>h e (da _ B);obtain ⟨⟨m2,Z⟩,j,o,l,n2⟩:=h d (c6 _ (aw.mpr rfl)) _ p;rw[Gu];generalize fV f zd Y=a at r p i s n1 Z j o l n2;generalize f a.1 d=q at Z j o l n2;refine ⟨⟨E++m2,by rw[Z,r,dy]⟩,j,λw hw=>?_,?_,?_⟩
  . rcases ck.mp hw with hw | hw
    . have:=i w hw;rw[Z,ai];lia
    . rw[aw.mp hw];exact o
  . rw[be,be,<- s,bq,fe,bq,fe,<- l];congr 1;refine cp λw hw=>?_;rw[Z];exact o5 D (i w hw) _
  . rw[n2,n1,be,sQ];show _=_+(_+(C d+0));lia
theorem Fe(j:base.length=n){G:Nat->ab->β}(h0:∀k i:Nat,i<n->G k (.int (i:Nat))=base.getD i z)(s:∀k m b ds,G (k+1) (dT m b ds)=φ m b (ds.map (G k))) :
 ∀{k:Nat}{d:ab}{zd:List aA},m8 n k d->aP n zd->Kid φ z base n zd (dM n k zd d) (G k d) (jE k d):=by
 have inp:∀{k i:Nat}{zd:List aA},i<n->aP n zd->Kid φ z base n zd (dM n k zd (.int (i:Nat))) (G k (.int (i:Nat))) (jE k (.int (i:Nat))):=λ{k i zd} e Y=>by
  rw[Aq,Ao,h0 k i e];refine ⟨⟨[],(c8 _).symm⟩,Y,by lia,?_,by show ((zd.length:Nat):Int)=zd.length+(0:Int);lia⟩;have:=o5 (φ:=φ) (z:=z) j (zd:=[]) (by lia) zd;exact this
 intro k
 induction k with
 | zero=>
  intro d zd h Y;obtain ⟨i,e,rfl⟩:=h;exact inp e Y
 | succ k u=>
  intro d zd h Y;rcases h with ⟨i,e,rfl⟩ | ⟨m,b,ds,B,b0,b1,D,rfl,r⟩
  . exact inp e Y
  . obtain ⟨⟨v,q⟩,p,o,l,n1⟩:=Nx j (C:=jE k) Y ds λd hd zd Y=>u (r d hd) Y;rw[t8,t7,s];have Z:(fV (dM n k) zd ds).2.length=m:=by
     have:=congrArg List.length l;rw[ag,ag] at this;lia
    generalize fV (dM n k) zd ds=a at q p o l n1 Z;refine ⟨⟨v++[⟨m,b,a.2⟩],by rw[q,dy]⟩,p.snoc ⟨B,Z,o,b0,b1⟩,by rw[ai];show _<_+(_+1);lia,?_,?_⟩
    . rw[mL,ae,bE (by rw[lV j];exact ay _),lV j,ka];show φ m b (a.2.map λw=>(cM φ z base a.1).getD w z)=_;rw[l]
    . rw[ai,cK];lia
end
theorem Qu:∀{k:Nat}{d:ab}{zd:List aA}{fu:Nat},m8 j k d->aP j zd->k<fu->((zd.length:Nat):Int)+jE k d<=5000 ->
 jR fu [.list (zd.map aA.d),.int (j:Nat),d]= .ok (.tuple [.int ((dM j k zd d).2:Nat),.list ((dM j k zd d).1.map aA.d)]):=by
 have o:∀{k:Nat}{d:ab}{zd:List aA},m8 j k d->aP j zd->Kid (λ_ _ z=>1+z.sum) 0 (aI j (0:Int)) j zd (dM j k zd d) (jE k d) (jE k d):=
  Fe cf (λk i r=>by rw[Ao,ae,hJ r];rfl) λk m b Y=>t7
 have inp:∀(k i fu:Nat) (zd:List aA),jR (fu+1) [.list (zd.map aA.d),.int (j:Nat),.int (i:Nat)]= .ok (.tuple [.int ((dM j k zd (.int (i:Nat))).2:Nat),.list ((dM j k zd (.int (i:Nat))).1.map aA.d)]):=λk i fu zd=>by
  rw[Aq];unfold jR;ext;rw[uZ];ext
 intro k
 induction k with
 | zero=>
  intro d zd fu h s J E;obtain ⟨i,r,rfl⟩:=h;obtain ⟨fu,rfl⟩:∃f,fu=f+1:=⟨fu - 1,by lia⟩;exact inp 0 i fu zd
 | succ k C=>
  intro d zd fu h s J E;obtain ⟨fu,rfl⟩:∃f,fu=f+1:=⟨fu - 1,by lia⟩;rcases h with ⟨i,r,rfl⟩ | ⟨m,b,Y,P,b0,b1,Q,rfl,u⟩
  . exact inp (k+1) i fu zd
  . rw[t7] at E;rw[t8];unfold jR dT;ext;rw[oJ];ext;have H:∀i,abS (λ_ _ z=>1+z.sum) 0 (aI j (0:Int)) j zd (fV (dM j k) zd (Y.take i)) ((Y.take i).map (jE k)) ((Y.take i).map (jE k)).sum:=λi=>
     Nx cf s _ λd hd zd s=>o (u d (oP hd)) s
    have v:∀i,((Y.take i).map (jE k)).sum<=(Y.map (jE k)).sum:=λi=>by
     have e:Y.map (jE k)=(Y.take i).map (jE k)++(Y.drop i).map (jE k):=by rw[<- be,mE]
     have p:∀(l:B3),(∀x∈l,0<=x)->0<=l.sum:=λl=>by
      induction l with
      | nil=>exact λ_=>l8 _
      | cons x l C=>intro h;rw[ja];have:=h x br;have:=C λy M=>h y (cc _ M);lia
     have q:=p ((Y.drop i).map (jE k)) λx Z=>by
      obtain ⟨d,hd,rfl⟩:=bX.mp Z;have K:=o (u d (List.mem_of_mem_drop hd)) (aP.nil);have:=K.len;have R:((([]:List aA).length:Nat):Int)=0:=rfl;lia
     rw[e,sQ];lia
    refine bI (λi=>[some (.list ((fV (dM j k) zd (Y.take i)).1.map aA.d)),some (.int j),some (.tuple [dG m b,.tuple Y]),some (.list (dN (fV (dM j k) zd (Y.take i)).2)),none]) rfl (λi x Z=>?_) ?_
    . have r:=(a0.mp Z).1;have K:=H i;have I:=v (i+1);rw[Vs Z] at I;have L:=by
       have:=congrArg List.length K.val;rw[ag,ag,dc] at this;lia
      have O:Y.take (i+1)=Y.take i++[x]:=by rw[nk,Z];rfl
      rw[O,Gu];have B:=K.len;have D:=K.ok;generalize fV (dM j k) zd (Y.take i)=a at B D L;ext;rw[C (u x (d6 Z)) D (by lia) (by lia)];ext;rw[bj (Au (by rw[uV];lia))];ext;rw[yL];rfl
    . rw[d4];have K:=H Y.length;rw[d4] at K;have B:=K.len;generalize fV (dM j k) zd Y=a at B;ext;rw[bj (Au (by lia))];ext;rw[show ((j:Nat):Int)+((a.1.map aA.d++[ab.tuple [dG m b,.tuple (dN a.2)]]).length:Nat) - 1=((j+a.1.length:Nat):Nat) by rw[ai,ag,cK];lia,be];rfl
theorem Fb{d:ab}(h:m8 j W d)(Y:W<100)(Z:jE W d<=5000):jo [d,.int (j:Nat)]= .ok (dC j (dM j W [] d).1 (dM j W [] d).2):=by
 unfold jo;ext;rw[show ab.list []= .list (([]:List aA).map aA.d) from rfl,Qu h aP.nil Y (by show ((0:Nat):Int)+_<=_;lia)];ext;rfl
noncomputable def kS(s:aA):dF:=[[(s.m:Int),s.b],s.ws.map λw=>((w:Nat):Int)]
theorem Jb:∀{a b:B5},(a.map λw=>((w:Nat):Int))=(b.map λw=>((w:Nat):Int))->a=b
 | [],[],_=>rfl
 | [],_::_,e=>by cases e
 | _::_,[],e=>by cases e
 | x::Y,y::Z,e=>by
  rw[bq,bq] at e;injection e with e1 e2;rw[y7.inj e1,Jb e2]
theorem adt{t:aA}(h:kS s=kS t):s=t:=by
 obtain ⟨m,b,ws⟩:=s;obtain ⟨Z,e,Y⟩:=t;injection h with h1 h2;injection h1 with h3 h4;injection h4 with h5 _;injection h2 with h6 _;rw[show m=Z from y7.inj h3,show b=e from h5,show ws=Y from Jb h6]
theorem J5:∀ks:B5,nF (dN ks)=some (ks.map λw=>((w:Nat):Int))
 | []=>rfl
 | k::ks=>by
  show (match nF (dN ks) with | some l=>some (((k:Nat):Int)::l) | none=>none)=_;rw[J5 ks];rfl
theorem rG(s:aA):jD s.d=some (kS s):=by
 show (match nF [ab.int (s.m:Nat),.int s.b],sY [.tuple (dN s.ws)] with | some a,some b=>some (a::b) | _,_=>none)=_;have e:sY [.tuple (dN s.ws)]=some [s.ws.map λw=>((w:Nat):Int)]:=by
  show (match nF (dN s.ws),sY [] with | some a,some b=>some (a::b) | _,_=>none)=_;rw[J5];rfl
 rw[e];rfl
noncomputable def stK:Nat->List aA->B0
 | _,[]=>[]
 | k,s::r=>(s.d,.int (k:Nat))::stK (k+1) r
noncomputable def plc(t:aA):List aA->Option Nat
 | []=>none
 | s::r=>if kS s=kS t then some 0 else (plc t r).map (· + 1)
theorem Be(t:aA):∀(k:Nat) (zd:List aA),j5 (kS t) (stK k zd)=(plc t zd).map λi=>ab.int ((k+i:Nat):Int)
 | k,[]=>rfl
 | k,s::r=>by
  unfold stK j5 plc
  by_cases h:kS s=kS t
  . rw[if_pos (by rw[rG,h]),if_pos h];rfl
  . rw[if_neg (by rw[rG];exact λz=>h (Option.some.inj z)),if_neg h,Be t (k+1) r,Option.map_map];congr 1;funext i;congr 2;simp;lia
theorem M4(t:aA):∀(k:Nat) (zd:List aA),Am (kS t) (stK k zd)=(plc t zd).isSome
 | k,[]=>rfl
 | k,s::r=>by
  unfold stK Am plc
  by_cases h:kS s=kS t
  . rw[if_pos (by rw[rG,h]),if_pos h];rfl
  . rw[if_neg (by rw[rG];exact λz=>h (Option.some.inj z)),if_neg h,M4 t (k+1) r,iX]
theorem Ik(t:aA):∀(k:Nat) (zd:List aA),stK k (zd++[t])=stK k zd++[(t.d,ab.int ((k+zd.length:Nat):Int))]
 | k,[]=>rfl
 | k,s::r=>by
  rw[gX,stK,Ik t (k+1) r,stK,gX,bo];congr 4;congr 2;lia
theorem Ni:∀(k:Nat) (zd:List aA),(stK k zd).length=zd.length
 | k,[]=>rfl
 | k,s::r=>by rw[stK,bo,Ni,bo]
theorem Fv{t:aA}:∀{zd:List aA}{i:Nat},plc t zd=some i->zd[i]?=some t
 | [],i,h=>by cases h
 | s::r,i,h=>by
  unfold plc at h
  by_cases e:kS s=kS t
  . rw[if_pos e] at h;cases h;rw[adt e];rfl
  . rw[if_neg e] at h;obtain ⟨j,Y,rfl⟩:=lS.mp h;rw[List.getElem?_cons_succ];exact Fv Y
noncomputable def rnS(ks:B5)(s:aA):aA:=⟨s.m,s.b,s.ws.map λw=>ks.getD w 0⟩
noncomputable def Bm(n:Nat)(a:List aA×B5)(s:aA):List aA×B5:=match plc (rnS a.2 s) a.1 with
 | some i=>(a.1,a.2++[n+i])
 | none=>(a.1++[rnS a.2 s],a.2++[n+a.1.length])
noncomputable def eX(n:Nat)(ss:List aA):List aA×B5:=ss.foldl (Bm n) ([],List.range n)
theorem sU:eX j (ss++[s])=Bm j (eX j ss) s:=by rw[eX,fg];rfl
theorem fold_at{Y:Type}{φ:Nat->Int->List Y->Y}{z:Y}{base:List Y}(p:base.length=j)(l:List aA):aP j l->∀i t,l[i]?=some t->(cM φ z base l).getD (j+i) z=φ t.m t.b (t.ws.map λk=>(cM φ z base l).getD k z):=by
 refine snoc_ind (P:=λl=>aP j l->∀i t,l[i]?=some t->(cM φ z base l).getD (j+i) z=φ t.m t.b (t.ws.map λk=>(cM φ z base l).getD k z)) (λ_ i t h=>by cases h) (λl s v Z i t h=>?_) l;have zS:=Z i t h;obtain ⟨o,_⟩:=aP.init Z;have q:=(a0.mp h).1;rw[ai,cK] at q;have B:(cM φ z base l).length=j+l.length:=lV p;have e:(t.ws.map λk=>(cM φ z base (l++[s])).getD k z)=t.ws.map λk=>(cM φ z base l).getD k z:=cp λk u=>by
  have:=zS.lt k u;rw[mL];exact Cd (by lia)
 rw[e,mL]
 by_cases r:i<l.length
 . rw[cE r] at h;rw[Cd (by lia)];exact v o i t h
 . have C:i=l.length:=by lia
   subst C;rw[bE (ay _),ka] at h;cases h;rw[<- B,ae,bE (ay _),ka];rfl
theorem K1(h:w<hs.length):(hs++[j]).getD w 0=hs.getD w 0:=Cd h
theorem Dg{Y:Type}{z:Y}{xs:List Y}{y:Y}:(xs++[y]).getD xs.length z=y:=by
 rw[ae,bE (ay _),ka];rfl
theorem zN{xs:B5}(h:w<xs.length):xs.getD w 0∈xs:=by
 rw[ae,av h];exact fA h
theorem xX{Y:Type}{φ:Nat->Int->List Y->Y}{z:Y}{base:List Y}(Z:base.length=j):(cM φ z base (ss++[s])).getD (j+ss.length) z=φ s.m s.b (s.ws.map λk=>(cM φ z base ss).getD k z):=by
 rw[mL,<- lV Z];exact Dg
theorem aa7{a:List aA×B5}(zS:s.Ok (j+ss.length))(Y:a.2.length=j+ss.length)(i:∀x∈a.2,x<j+a.1.length):(rnS a.2 s).Ok (j+a.1.length):=⟨zS.m4,by show (s.ws.map _).length=_;rw[ag];exact zS.len,λk Z=>by
 obtain ⟨w,e,rfl⟩:=bX.mp Z;exact i _ (zN (by rw[Y];exact zS.lt w e)),zS.b0,zS.b1⟩
theorem zq(ss:List aA):aP j ss->aP j (eX j ss).1/\(eX j ss).2.length=j+ss.length/\(eX j ss).1.length<=ss.length/\(∀x∈(eX j ss).2,x<j+(eX j ss).1.length):=by
 refine snoc_ind (P:=λss=>aP j ss->aP j (eX j ss).1/\(eX j ss).2.length=j+ss.length/\(eX j ss).1.length<=ss.length/\(∀x∈(eX j ss).2,x<j+(eX j ss).1.length)) ?_ ?_ ss
 . exact λ_=>⟨aP.nil,by show (List.range j).length=_;rw[cq];rfl,ay _,λx hx=>by have:=er.mp hx;exact this⟩
 . intro ss s u p;obtain ⟨o,zS⟩:=aP.init p;obtain ⟨l,Y,q,Z⟩:=u o;rw[sU];generalize eX j ss=a at l Y q Z;have e:=aa7 zS Y Z;unfold Bm
   cases r:plc (rnS a.2 s) a.1 with
   | none=>
    refine ⟨l.snoc e,by simp[Y];lia,by simp;lia,λx hx=>?_⟩;rw[ai,cK];rcases ck.mp hx with hx | hx
    . have:=Z x hx;lia
    . rw[aw.mp hx];lia
   | some i=>
    have v:=(a0.mp (Fv r)).1;refine ⟨l,by simp[Y];lia,by simp;lia,λx hx=>?_⟩;rcases ck.mp hx with hx | hx
    . exact Z x hx
    . rw[aw.mp hx];show j+i<j+a.1.length;lia
theorem Rc{o:Type}{φ:Nat->Int->List o->o}{z:o}{base:List o}{n:Nat}(j:base.length=n)(ss:List aA):aP n ss->∀w,w<n+ss.length->(cM φ z base (eX n ss).1).getD ((eX n ss).2.getD w 0) z=(cM φ z base ss).getD w z:=by
 refine snoc_ind (P:=λss=>aP n ss->∀w,w<n+ss.length->(cM φ z base (eX n ss).1).getD ((eX n ss).2.getD w 0) z=(cM φ z base ss).getD w z) ?_ ?_ ss
 . intro _ w Y;show (cM φ z base []).getD ((List.range n).getD w 0) z=_;have Y:w<n:=Y;rw[ae (l:=List.range n),eg Y];rfl
 . intro ss s C D w Y;obtain ⟨v,zS⟩:=aP.init D;have p:=C v;obtain ⟨r,q,E,B⟩:=zq ss v;rw[sU];generalize eX n ss=a at r q E B p;have H:((rnS a.2 s).ws.map λk=>(cM φ z base a.1).getD k z)=s.ws.map λk=>(cM φ z base ss).getD k z:=by
    show (s.ws.map _).map _=_;rw[c9];exact cp λw Y=>p w (zS.lt w Y)
   have I:∀w,w<n+ss.length->a.2.getD w 0<n+a.1.length:=λw Y=>B _ (zN (by rw[q];exact Y));rw[ai,cK] at Y
   by_cases Z:w<n+ss.length
   . rw[o5 j Z,<- p w Z];unfold Bm
     cases u:plc (rnS a.2 s) a.1 with
     | none=>
      rw[K1 (by lia),o5 j (I w Z)]
     | some i=>
      rw[K1 (by lia)]
   . have e:w=n+ss.length:=by lia
     subst e;rw[xX j,<- q,<- H];unfold Bm
     cases u:plc (rnS a.2 s) a.1 with
     | none=>
      rw[Dg,xX j];rfl
     | some i=>
      rw[Dg,fold_at j a.1 r i _ (Fv u)];rfl
variable {Γ:Ev}
section
variable {k:Nat}{m m':ME}  {t:aA}
theorem SM(h:m Γ = .ok t.d)(Y:gv Γ i=some (.dict (stK k zd))):zm i m Γ = .ok (.bool (!(plc t zd).isSome)):=by
 rw[zm,h,zi.bf,Y];rw[rG];show zi.ok (ab.bool (!(j5 (kS t) (stK k zd)).isSome))=_;rw[Be,iX]
theorem Ri(h:m Γ = .ok t.d)(Y:gv Γ i=some (.dict (stK k zd)))(Z:plc t zd=some j):Ow i m Γ = .ok (.int ((k+j:Nat):Int)):=by
 rw[Ow,h,zi.bf,Y];rw[rG];show (match j5 (kS t) (stK k zd) with | some d=>zi.ok d | none=>.bad)=_;rw[Be,Z];rfl
theorem YG(h:m Γ = .ok t.d)(h':m' Γ = .ok (.int ((k+zd.length:Nat):Int)))(Y:gv Γ i=some (.dict (stK k zd)))(Z:plc t zd=none)(j:zd.length<=100000)(e:i < Γ.length):Hk i m m' Γ = .ok (.nx (Γ.set i (some (.dict (stK k (zd++[t])))))):=by
 rw[Hk,h',zi.bf,h,zi.bf,Y];rw[rG];show gd ((stK k zd).length<bt/\i < Γ.length) (zi.ok (Out.nx (Γ.set i (some (.dict (putN t.d (kS t) _ (stK k zd)))))))=_;rw[bj ⟨by rw[Ni];exact ke j (by rw[Zq.sizeLine_eq];decide),e⟩];rw[putN,M4,Z,if_neg (by decide),Ik]
end
theorem Mz{t:aA}:∀{zd:List aA},plc t zd=none->plc t (zd++[t])=some zd.length
 | [],_=>by show (if kS t=kS t then some 0 else _)=_;rw[if_pos rfl];rfl
 | s::r,h=>by
  unfold plc at h
  by_cases e:kS s=kS t
  . rw[if_pos e] at h;cases h
  . rw[if_neg e] at h;show (if kS s=kS t then some 0 else (plc t (r++[t])).map (· + 1))=_;rw[if_neg e,Mz (rk.mp h)];rfl
theorem RT(hs:aP W ss)(D:W<=100)(C:ss.length<=5000)(u:o<W+ss.length):jf [dC W ss o]= .ok (dC W (eX W ss).1 ((eX W ss).2.getD o 0)):=by
 unfold jf;ext;rw[Py];ext;rw[bj (by lia)];ext;rw[JM];ext;refine bI (λi=>[some (dC W ss o),some (.int W),some (.list (dN (eX W (ss.take i)).2)),some (.list ((eX W (ss.take i)).1.map aA.d)),some (.dict (stK W (eX W (ss.take i)).1)),none,none]) ?_ (λi x r=>?_) ?_
 . rw[mm,dS];rfl
 . obtain ⟨s,e,rfl⟩:=cU r;have ok:=hs i s e;have z:=(a0.mp e).1;have m4:=ok.m4;have B:=ok.len;obtain ⟨_,Y,l,q⟩:=zq (ss.take i) λj t h=>by
    rw[List.getElem?_take] at h;split at h
    . exact hs j t h
    . cases h
   rw[dc,Nat.min_eq_left (by lia)] at Y l;rw[nQ e,sU];generalize eX W (ss.take i)=a at Y l q;ext;rw[G6 (λw v=>by have:=ok.lt w v;rw[Y];exact this) (by lia),show aA.mk s.m s.b (s.ws.map λw=>a.2.getD w 0)=rnS a.2 s from rfl];generalize p:rnS a.2 s=t;ext;rw[SM rfl rfl];rw[Bm,p]
   cases Z:plc t a.1 with
   | none=>
    rw[show (ab.bool !(none:Option Nat).isSome)= .bool true from rfl];ext;rw[YG rfl (by ext;rfl) rfl Z (by lia) (of_decide_eq_true rfl)];ext;rw[bj (Au (by lia))];ext;rw[Ri rfl rfl (Mz Z)];ext;rw[bj (Au (by rw[uV];lia))];ext;rw[yL,be];rfl
   | some j=>
    rw[show (ab.bool !(some j).isSome)= .bool false from rfl];ext;rw[Ri rfl rfl Z];ext;rw[bj (Au (by rw[uV];lia))];ext;rw[yL];rfl
 . rw[ag,d4];ext;rw[Qc];ext;rw[Ca (by rw[(zq ss hs).2.1];exact u)];rfl
noncomputable def mk(ks:B3):B0:=ks.map λk=>(ab.int k,ab.bool true)
noncomputable def rT(x:Int)(ks:B3):B3:=if x∈ks then ks else ks++[x]
theorem Rw:∀ks:B3,oM (.inl x) (mk ks)=decide (x∈ks)
 | []=>rfl
 | k::ks=>by
  show (if bJ (ab.int k)=some (.inl x) then true else oM (.inl x) (mk ks))=_;rw[Rw ks]
  by_cases h:k=x
  . subst h;rw[if_pos (show bJ (ab.int k)=some (.inl k) from rfl),decide_eq_true br]
  . rw[if_neg (show ¬ (bJ (ab.int k)=some (.inl x)) from λz=>h (lI.inj (Option.some.inj z)))];have:(x∈k::ks)↔x∈ks:=⟨λz=>(b9.mp z).resolve_left (λe=>h e.symm),cc _⟩;exact decide_eq_decide.mpr this.symm
theorem Ew:∀ks:B3,(cD (.inl x) (mk ks)).isSome=decide (x∈ks)
 | []=>rfl
 | k::ks=>by
  show (if bJ (ab.int k)=some (.inl x) then some (ab.bool true) else cD (.inl x) (mk ks)).isSome=_
  by_cases h:k=x
  . subst h;rw[if_pos (show bJ (ab.int k)=some (.inl k) from rfl),decide_eq_true br];rfl
  . rw[if_neg (show ¬ (bJ (ab.int k)=some (.inl x)) from λz=>h (lI.inj (Option.some.inj z))),Ew ks];have:(x∈k::ks)↔x∈ks:=⟨λz=>(b9.mp z).resolve_left (λe=>h e.symm),cc _⟩;exact decide_eq_decide.mpr this.symm
theorem T8:∀ks:B3,uy (.inl x) (.bool true) (mk ks)=mk ks
 | []=>rfl
 | k::ks=>by
  show (if bJ (ab.int k)=some (.inl x) then (ab.int k,ab.bool true) else (ab.int k,ab.bool true))::uy (.inl x) (.bool true) (mk ks)=(ab.int k,ab.bool true)::mk ks;rw[T8 ks,ite_self]
variable {ks:B3}
theorem abR:gO (.int x) (.inl x) (.bool true) (mk ks)=mk (rT x ks):=by
 unfold gO rT;rw[Rw]
 by_cases h:x∈ks
 . rw[if_pos (decide_eq_true h),if_pos h,T8]
 . rw[if_neg (by rw[decide_eq_true_eq];exact h),if_neg h];unfold mk;rw[be];rfl
theorem JX:(rT x ks).length<=ks.length+1:=by
 unfold rT;split
 . lia
 . rw[ai];exact ay _
variable {y:Int}
theorem J1:y∈rT x ks↔y=x\/y∈ks:=by
 unfold rT;split
 . rename_i h;exact ⟨.inr,λz=>z.elim (λe=>e ▸ h) id⟩
 . rw[ck,aw];exact Or.comm
theorem adk:(mk ks).length=ks.length:=by rw[mk,ag]
variable {m1 m2:ME}
theorem Jk(o:m2 Γ = .ok (.bool true))(l:m1 Γ = .ok (.int x))(Z:gv Γ i=some (.dict (mk ks)))(j:ks.length<=100000)(e:i < Γ.length):je i m1 m2 Γ = .ok (.nx (Γ.set i (some (.dict (mk (rT x ks)))))):=by
 rw[je,o,l];show (match gv Γ i with
  | some (.dict Y)=>(match bJ (.int x) with
   | some key=>gd (Y.length<bt/\i < Γ.length) (.ok (Out.nx (Γ.set i (some (.dict (gO (.int x) key (.bool true) Y))))))
   | none=>.bad)
  | _=>zi.bad)=_
 rw[Z];show gd ((mk ks).length<bt/\i < Γ.length) (.ok (Out.nx (Γ.set i (some (.dict (gO (.int x) (.inl x) (.bool true) (mk ks)))))))=_;rw[bj ⟨Au (by rw[adk];exact j),e⟩,abR]
theorem J8(h:ks.length<64):zR [.list (ks.map ab.int)]= .ok (.list ((srt ks).map ab.int)):=by
 show (match intsOf (ks.map ab.int) with
  | some Y=>gd (Y.length<64) (zi.ok (ab.list ((srt Y).map ab.int)))
  | none=>.bad)=_
 rw[nH];exact bj h
noncomputable def dR(rs:B3):ab:=.tuple (rs.map ab.int)
theorem Pn(Y:B3):(Y.map ab.int).all d5=true:=by
 rw[gc];intro d hd;obtain ⟨x,_,rfl⟩:=bX.mp hd;exact iM uO (cS uL (by decide))
theorem Wm(rs:B3):inB (.int x) (rs.map ab.int)=decide (x∈rs):=by
 unfold inB;have e:∀y:Int,fT (.int y) (.int x)=decide (y=x):=λy=>sR.mpr ((mW _ _ uO uO).trans ⟨λz=>decide_eq_true (ab.int.inj z),λz=>congrArg ab.int (of_decide_eq_true z)⟩)
 induction rs with
 | nil=>rfl
 | cons r rs Y=>
  rw[bq,kQ,Y,e]
  by_cases h:r=x
  . subst h;rw[decide_eq_true rfl,decide_eq_true br];rfl
  . rw[decide_eq_false h,Bool.false_or];have:(x∈r::rs)↔x∈rs:=⟨λz=>(b9.mp z).resolve_left (λe=>h e.symm),cc _⟩;exact decide_eq_decide.mpr this.symm
variable {rs:B3}
theorem Jz:jX (.int x) (dL rs)= .ok (.bool (!decide (x∈rs))):=by
 show gd (d5 (.int x)=true/\(rs.map ab.int).all d5=true) (zi.ok (ab.bool (!inB (.int x) (rs.map ab.int))))=_;rw[bj ⟨iM uO (cS uL (by decide)),Pn rs⟩,Wm]
theorem V5:jX (.int x) (.dict (mk ks))= .ok (.bool (!decide (x∈ks))):=by
 show zi.ok (ab.bool (!(cD (.inl x) (mk ks)).isSome))=_;rw[Ew]
noncomputable def jc(rs:B3)(ls:List B3):List B3:=ls.flatMap λc=>rs.map λr=>c++[r]
noncomputable def lR(rs:B3):Nat->List B3
 | 0=>[[]]
 | m+1=>jc rs (lR rs m)
theorem sZ:∀ls:List B3,(jc rs ls).length=ls.length*rs.length
 | []=>by show 0=0*_;lia
 | c::ls=>by
  show ((rs.map λr=>c++[r])++jc rs ls).length=_;rw[ai,ag,sZ ls,bo,xI];lia
theorem GX:∀m,∀c∈lR rs m,c.length=m
 | 0,c,h=>by rw[aw.mp h];rfl
 | m+1,c,h=>by
  obtain ⟨Y,Z,e⟩:=kx.mp h;obtain ⟨r,_,rfl⟩:=bX.mp e;rw[ai,GX m Y Z];rfl
variable {ls:List B3}{c:B3}
theorem CW:jc rs (ls++[c])=jc rs ls++rs.map λr=>c++[r]:=by
 unfold jc;rw[oS];show _++((rs.map λr=>c++[r])++[])=_;rw[c8]
theorem abW{r:Int}(h:c.length<=100):c7 (dL c) (.list [.int r])= .ok (dL (c++[r])):=by
 unfold dL;rw[yJ (gp (Au (by rw[ag,cK];lia))),be];rfl
variable {cl:B5}
theorem qP{α:Type}{g:MG}{b:MS}(enc D:α->ab)(p:α->Bool):∀{xs:List α},(∀a∈xs,((g (enc a) Γ).bind b).bind (jL cl)=if p a=true then .ok (.rt (D a)) else .ok (.nx Γ)) ->
 forR g cl b (xs.map enc) Γ=match xs.find? p with | some a=>.ok (.rt (D a)) | none=>.ok (.nx Γ)
 | [],_=>rfl
 | x::xs,h=>by
  have Y:=h x br;have l:=qP enc D p λa q=>h a (cc _ q);rw[bq]
  cases Z:p x with
  | true=>
   rw[if_pos Z] at Y;obtain ⟨o,s,e⟩:=zi.aq Y;obtain ⟨r,i,j⟩:=zi.aq s;rw[hY,Z,forR,i,zi.bf,j,zi.bf];cases o <;> cases e;rfl
  | false=>
   rw[if_neg (by rw[Z];exact fo)] at Y;rw[N7 Y,l,hY,Z]
theorem aaH(h : -(2^63)<=x/\x<2^63/\ds.length*x.toNat<=bt):v9 (.list ds) (.int x)= .ok (.list (aI x.toNat ds).flatten):=bj h
theorem rep1{x:ab}(Y:j<=100):v9 (.list [x]) (.int (j:Nat))= .ok (.list (aI j x)):=by
 rw[aaH ⟨by lia,by lia,by rw[dS,cK,Nat.one_mul];exact gp (Au (by lia))⟩,dS];congr 2;clear Y
 induction j with
 | zero=>rfl
 | succ j Z=>rw[fh,k8,Z,fh];rfl
noncomputable def markL(rs:B3):B3:=rs.foldl (λks r=>rT r ks) []
theorem vM{r:Int}:markL (rs++[r])=rT r (markL rs):=by rw[markL,fg];rfl
theorem Rv(rs:B3):x∈markL rs↔x∈rs:=by
 induction rs using snoc_ind with
 | h0=>exact Iff.rfl
 | h rs r Y=>rw[vM,J1,Y,ck,aw];exact Or.comm
theorem Tr(Y:B3):(markL Y).length<=Y.length:=by
 induction Y using snoc_ind with
 | h0=>exact ay _
 | h Y r Z=>rw[vM,ai];exact cS JX (Nat.succ_le_succ Z)
theorem W3(e:rs.length<=1000):wQ [dR rs]= .ok (.dict (mk (markL rs))):=by
 unfold wQ;ext;rw[show Bc (dR rs)= .ok (rs.map ab.int) from rfl,show mG [] [some (dR rs),none,none]= .ok (.dict []) from rfl];ext;refine bI (λi=>[some (dR rs),some (.dict (mk (markL (rs.take i)))),none]) rfl (λi x Y=>?_) ?_
 . obtain ⟨r,Z,rfl⟩:=cU Y;ext;rw[Jk rfl rfl rfl (cS (Tr _) (by rw[dc];lia)) (of_decide_eq_true rfl)];ext;rw[take_snoc Z,vM]
 . rw[ag,d4];ext
theorem Yq{c:ME}{b:MS}(I:Nat->Ev->Prop)(h:∀k Γ,I k Γ->c Γ = .ok (.bool false)\/(c Γ = .ok (.bool true)/\∃i Z,i<k/\b Γ = .ok (.nx Z)/\I i (clr cl Z))) :
 ∀n k Γ,I k Γ->k<n->∃i Y,whR c cl b n Γ = .ok (.nx Y)/\I i Y/\c Y= .ok (.bool false)
 | 0,k,Γ,_,o=>absurd o (ll _)
 | n+1,k,Γ,l,o=>by
  rcases h k Γ l with e | ⟨e,i,Z,u,r,j⟩
  . exact ⟨k,Γ,by rw[whR,e];rfl,l,e⟩
  . obtain ⟨k2,Y,q,s,p⟩:=Yq I h n i (clr cl Z) j (by lia);refine ⟨k2,Y,?_,s,p⟩;rw[whR,e,zi.bf,r];exact q
noncomputable def cJ(cs:List B3):List B3:=cs.foldl (λls rs=>jc rs ls) [[]]
theorem nM(cs:List B3)(Y:B3):cJ (cs++[Y])=jc Y (cJ cs):=by rw[cJ,fg];rfl
theorem Sd:c∈jc rs ls↔∃d∈ls,∃r∈rs,c=d++[r]:=by
 rw[jc,kx];constructor
 . rintro ⟨d,hd,h⟩;obtain ⟨r,Y,rfl⟩:=bX.mp h;exact ⟨d,hd,r,Y,rfl⟩
 . rintro ⟨d,hd,r,Y,rfl⟩;exact ⟨d,hd,bX.mpr ⟨r,Y,rfl⟩⟩
variable {cs:List B3}
theorem pY:c∈cJ cs↔c.length=cs.length/\∀i,i<cs.length->c.getD i 0∈cs.getD i []:=by
 induction cs using snoc_ind generalizing c with
 | h0=>
  constructor
  . intro h;rw[aw.mp h];exact ⟨rfl,λi Y=>absurd Y (ll _)⟩
  . rintro ⟨h,_⟩;rw[ip.mp h];exact aw.mpr rfl
 | h cs u p=>
  rw[nM,Sd];constructor
  . rintro ⟨d,hd,r,s,rfl⟩;obtain ⟨Z,j⟩:=p.mp hd;refine ⟨by rw[ai,ai,Z];rfl,λi Y=>?_⟩;rw[ai] at Y;have Y:i<cs.length+1:=Y;rcases fx i cs.length with q | q
    . have:=j i q;rw[ae,ae] at this ⊢;rw[cE (l₁:=d) (by lia),cE q];exact this
    . have e:i=cs.length:=by lia
      subst e;rw[ae,ae,bE (l₁:=d) (by lia),bE (ay _),Z,ka];exact s
  . rintro ⟨Z,j⟩;rw[ai] at Z;have Z:c.length=cs.length+1:=Z;have o:cs.length<c.length:=by lia
    refine ⟨c.take cs.length,p.mpr ⟨by rw[dc];lia,λi Y=>?_⟩,c.getD cs.length 0,?_,?_⟩
    . have:=j i (by rw[ai];exact rf Y);rw[ae,ae] at this ⊢;rw[cE Y] at this;rw[List.getElem?_take,if_pos Y];exact this
    . have:=j cs.length (by rw[ai];exact nE _);rwa [ae (l:=cs++[u]),bE (ay _),ka] at this
    . rw[ae,av o];show c=c.take cs.length++[c[cs.length]];have v:c.take (cs.length+1)=c.take cs.length++[c[cs.length]]:=by rw[nk,av o];rfl
      rw[<- v,iN (by lia)]
theorem Cm(h:c∈cJ cs):c.length=cs.length:=(pY.mp h).1
variable {B:Nat}
theorem xu:∀{cs:List B3},(∀rs∈cs,rs.length<=B)->(cJ cs).length<=B^cs.length:=λ{cs}=>by
 induction cs using snoc_ind with
 | h0=>exact λ_=>ay _
 | h cs rs e=>
  intro Y;rw[nM,sZ,ai];show _<=B^(cs.length+1);rw[tq];exact k6 (e λr Z=>Y r (da _ Z)) (Y rs (by simp))
theorem sV(Y:B3):∀m,lR Y m=cJ (aI m Y)
 | 0=>rfl
 | m+1=>by
  rw[sj,nM,<- sV Y m];rfl
theorem mH:c∈lR rs m↔c.length=m/\∀x∈c,x∈rs:=by
 rw[sV,pY,cf];constructor
 . rintro ⟨Z,e⟩;refine ⟨Z,λx j=>?_⟩;obtain ⟨i,Y,rfl⟩:=eK.mp j;have:=e i (by lia);rwa [ae,ae,av Y,hJ (by lia)] at this
 . rintro ⟨Z,e⟩;refine ⟨Z,λi Y=>?_⟩;rw[ae,ae,av (l:=c) (by lia),hJ Y];exact e _ (fA _)
theorem afi(Z:j<=16)(Y:m<=4):j^m<=65536:=cS (ly Z m) (cS (ew (by decide) Y) (by decide))
variable {enc:B3->ab}
theorem CK(u:∀rs,Bc (enc rs)= .ok (rs.map ab.int))(o:∀rs∈cs,rs.length<=16)(z:cs.length<=4):iK [.list (cs.map enc)]= .ok (.list ((cJ cs).map dL)):=by
 unfold iK;ext;refine bI (λi=>[some (.list (cs.map enc)),some (.list ((cJ (cs.take i)).map dL)),none,none,none,none]) rfl (λi x Z=>?_) ?_
 . obtain ⟨rs,Y,rfl⟩:=cU Z;have B:=(a0.mp Y).1;have e:=o rs (d6 Y);have v:(cJ (cs.take i)).length<=65536:=cS (xu λr q=>o r (oP q)) (afi (ay _) (by rw[dc];lia));ext;refine bI (λj=>[some (.list (cs.map enc)),some (.list ((cJ (cs.take i)).map dL)),some (enc rs),some (.list ((jc rs ((cJ (cs.take i)).take j)).map dL)),none,none]) rfl (λj x Z=>?_) ?_
   . obtain ⟨c,l,rfl⟩:=cU Z;have s:=Cm (d6 l);rw[dc] at s;have D:(jc rs ((cJ (cs.take i)).take j)).length<=1100000:=by
      rw[sZ,dc];exact cS (k6 (cS (Nat.min_le_right _ _) v) e) (by decide)
     ext;rw[u];ext;refine bI (λk=>[some (.list (cs.map enc)),some (.list ((cJ (cs.take i)).map dL)),some (enc rs),some (.list ((jc rs ((cJ (cs.take i)).take j)++(rs.take k).map λr=>c++[r]).map dL)),some (dL c),none]) ?_ (λk x Z=>?_) ?_
     . rw[mm,fe,c8]
     . obtain ⟨r,p,rfl⟩:=cU Z;have C:=(a0.mp p).1;ext;rw[abW (by lia)];ext;rw[bj (ke (show _<=1200000 by rw[ai,ag,dc];lia) (by decide))];ext;rw[take_snoc p,be (f:=λr=>c++[r]),<- dy,be (l₂:=List.map (λr=>c++[r]) [r])];rfl
     . rw[ag,d4];ext;rw[take_snoc l,CW]
   . rw[ag,d4];ext;rw[take_snoc Y,nM]
 . rw[ag,d4];ext
theorem Zf(l:j<=100000)(o:m<=4):zV [.int (j:Nat),.int (m:Nat)]= .ok (.int ((j^m:Nat):Int)):=by
 unfold zV;ext;rw[fG (by lia)];ext;refine bI (λi=>[some (.int j),some (.int m),some (.int ((j^i:Nat):Int)),none]) rfl (λi x Y=>?_) ?_
 . obtain ⟨Z,rfl⟩:=lC Y;have e:((j^(i+1):Nat):Int)=(j:Nat)*((j^i:Nat):Int):=by rw[tq,Nat.mul_comm,Int.natCast_mul]
   rw[e];generalize j^i=q;walk_at "go"
 . rw[iR];ext
noncomputable abbrev A0(g:Nat×Int):ab:=dG g.1 g.2
theorem Fj{m:ME}{es:B4}(j:m Γ = .ok (.list es))(Y:gv Γ i=some (.list ds))(e:ds.length+es.length<=bt)(Z:i < Γ.length):sE i m Γ = .ok (.nx (Γ.set i (some (.list (ds++es))))):=by
 rw[sE,j];show (match gv Γ i,ab.list es with
  | some (.list ds),.list es=>gd (ds.length+es.length<=bt/\i < Γ.length) (.ok (Out.nx (Γ.set i (some (.list (ds++es))))))
  | _,_=>zi.bad)=_
 rw[Y];exact bj ⟨e,Z⟩
noncomputable def gJ(old fresh:B3)(n p:Nat):List B3:=aI p old++[fresh]++aI (n - p - 1) (old++fresh)
noncomputable def lq(old fresh:B3)(n:Nat):List B3:=(List.range n).flatMap λp=>cJ (gJ old fresh n p)
variable {old:B3}
theorem iV{n:Nat}(h:p<n):(gJ old xs n p).length=n:=by
 rw[gJ,ai,ai,cf,cf,cK];lia
theorem yh{fresh:B3}(h:p<j)(Y:i<j):(gJ old fresh j p).getD i []=if i<p then old else if i=p then fresh else old++fresh:=by
 rw[gJ,ae];rcases vT i p with q | q | q
 . rw[if_pos q,dy,cE (by rw[cf];exact q),hJ q];rfl
 . subst q;rw[if_neg (fy _),if_pos rfl,dy,bE (by rw[cf];exact ay _),cf,ka];rfl
 . rw[if_neg (by lia),if_neg (by lia),bE (by rw[ai,cf,cK];lia),ai,cf,cK,hJ (by lia)];rfl
theorem sy{fresh:B3}(h:c∈lq old fresh j):c.length=j/\∀x∈c,x∈old++fresh:=by
 obtain ⟨p,Y,h⟩:=kx.mp h;have Y:=er.mp Y;obtain ⟨Z,e⟩:=pY.mp h;rw[iV Y] at Z e;refine ⟨Z,λx o=>?_⟩;obtain ⟨i,l,rfl⟩:=eK.mp o;have:=e i (by lia);rw[yh Y (by lia),ae,av l] at this;have this:=this;split at this
 . exact da _ this
 . split at this
   . exact c6 _ this
   . exact this
theorem OJ{fresh:B3}{n:Nat}(o:c.length=n)(r:∀x∈c,x∈old++fresh)(p:∃x∈c,x∉old):c∈lq old fresh n:=by
 have e:c.findIdx (λx=>!decide (x∈old))<c.length:=List.findIdx_lt_length.mpr (by
  obtain ⟨x,s,u⟩:=p;exact ⟨x,s,by rw[decide_eq_false u];rfl⟩)
 have l:=List.findIdx_getElem (w:=e);refine kx.mpr ⟨c.findIdx (λx=>!decide (x∈old)),er.mpr (by lia),pY.mpr ⟨by rw[iV (by lia),o],λi j=>?_⟩⟩;rw[iV (by lia)] at j;rw[yh (by lia) j,ae,av (by lia)];have Y:=r _ (fA (show i<c.length by lia));split
 . rename_i q;have:=List.not_of_lt_findIdx q;simp only[Bool.not_eq_false'] at this;exact of_decide_eq_true this
 . split
   . rename_i q;subst q;have Z:c[c.findIdx (λx=>!decide (x∈old))]∉old:=by
      intro z;rw[decide_eq_true z] at l;cases l
     exact (ck.mp Y).resolve_left Z
   . exact Y
theorem qC{b:B4}(h:ds.length+b.length<=1000):c7 (.list ds) (.list b)= .ok (.list (ds++b)):=yJ (gp (Au (by lia)))
noncomputable def jj(n:Nat)(gs:A9):Nat:=(gs.map λg=>n^g.1).sum
variable {gs:A9}
theorem rH{n:Nat}(j:n<=100000)(e:gs.length<=100)(Z:∀g∈gs,g.1<=4):jx [.int (n:Nat),.list (gs.map A0)]= .ok (.int (jj n gs:Nat)):=by
 unfold jx;ext;rw[jz (xs:=gs) A0 (λg=>.int ((n^g.1:Nat):Int)) ?_ (Au (by lia)) λg h=>?_]
 . ext;rw[show gs.map (λg=>ab.int ((n^g.1:Nat):Int))=(gs.map λg=>((n^g.1:Nat):Int)).map ab.int by rw[c9];rfl];have:∀Y:B3,Jq [.list (Y.map ab.int)]= .ok (.int Y.sum):=λY=>Gy;rw[this];ext;unfold jj;congr 2
   induction gs with
   | nil=>rfl
   | cons g gs l=>
    rw[bq,ja,bq,ja,yk,l (by rw[bo] at e;lia) λq i=>Z q (cc _ i)]
 . ext
 . ext;rw[Zf j (Z g h)]
theorem Mq(i:j<=128)(Y:gs.length<=100)(Z:∀g∈gs,g.1<=4)(e:jj j gs<=20000):fK [.int (j:Nat),.list (gs.map A0)]= .ok .none:=by
 unfold fK;ext;rw[decide_eq_false (by lia)];ext;rw[rH (by lia) Y Z];ext;rw[decide_eq_false (by lia)];ext
variable {ns:B3}
theorem Gd(h:(ddl ns).length<64):m9 [dL ns]= .ok (dL (srt (ddl ns))):=by
 show (match intsOf (ns.map ab.int) with
  | some ns=>gd ((ddl ns).length<64) (zi.ok (ab.list ((srt (ddl ns)).map ab.int)))
  | none=>.bad)=_
 rw[nH];exact bj h
theorem Ot{w:ab}(h:(ddl ns).length<64):nJ [w,dL ns]= .ok (.tuple [w,dR (srt (ddl ns))]):=by
 unfold nJ;ext;rw[Gd h];unfold dL;ext;rfl
theorem ph:∀{N:Nat}{l:B3},l.Nodup->(∀x∈l,0<=x/\x<N)->l.length<=N
 | 0,l,e,Z=>by
  cases l with
  | nil=>exact ay _
  | cons x l=>have:=Z x br;lia
 | N+1,l,e,Z=>by
  have j:(l.erase (N:Int)).length<=N:=ph (e.erase _) λx Y=>by
   have Y:=(e.mem_erase_iff).mp Y;have:=Z x Y.2;have o:=Y.1;lia
  by_cases i:(N:Int)∈l
  . rw[List.length_erase_of_mem i] at j;lia
  . rw[List.erase_of_not_mem i] at j;lia
theorem KD{l:B3}(h:l.Nodup):ddl l=l:=by
 have key:∀(l Y:B3),(Y++l).Nodup->l.foldl jK Y=Y++l:=λl=>by
  induction l with
  | nil=>intro Y _;rw[c8];rfl
  | cons x l e=>
   intro Y h;have Z:=λz=>(ey.mp h).2.2 x z x br rfl;rw[jI,show jK Y x=Y++[x] from if_neg Z,e (Y++[x]) (by rw[dy];exact h),dy];rfl
 exact key l [] (by simpa using h)
theorem fM{l:B3}:x∈srt l↔x∈l:=(g8 l).mem_iff
theorem acq{m:ME}{d:ab}(h:m Γ = .ok d):sEx m Γ = .ok (.nx Γ):=by rw[sEx,h];rfl
theorem Xq{α:Type}{c:ME}{b:MS}{f:Out->zi α}{P:α->Prop}(I:Nat->Ev->Prop)(k:Nat)(h0:I k Γ)(p:k<j)
 (h:∀k Γ,I k Γ->c Γ = .ok (.bool false)\/(c Γ = .ok (.bool true)/\∃Z i,Z<k/\b Γ = .ok (.nx i)/\I Z (clr cl i))) (o:∀Z Y,I Z Y->c Y= .ok (.bool false)->Gives (f (.nx Y)) P):Gives ((mZ j c cl b Γ).bind f) P:=by
 obtain ⟨Z,Y,e,l,q⟩:=Yq I h j k Γ h0 p;show Gives ((whR c cl b j Γ).bind f) P;rw[e];exact o Z Y l q
theorem SJ(h:∀g∈gs,j^g.1<=B):jj j gs<=gs.length*B:=by
 unfold jj
 induction gs with
 | nil=>simp
 | cons g gs Z=>
  rw[bq,ja,bo,xI];have e:=h g br;have i:=Z λq Y=>h q (cc _ Y);lia
noncomputable def nG(w:Nat)(rs:B3):ab:=.tuple [.int (w:Nat),dR rs]
noncomputable def brk(b:Int)(w:Nat)(rs:B3)(m:Nat):Option B3:=(lR rs m).find? λc=>!decide (cV b c w∈rs)
noncomputable def ye:Option B3->ab
 | none=>.none
 | some c=>dL c
theorem Ka(i:rs.length<=16)(Z:m<=4)(l:rs.length^m<=20000)(j:w<=100):oV [dG m b,nG w rs]= .ok (ye (brk b w rs m)):=by
 unfold oV nG;ext;rw[show il [dR rs]= .ok (.int (rs.length:Nat)) by rw[dR,vA,ag]];ext;have Y:=rH (n:=rs.length) (gs:=[(m,b)]) (by lia) (by simp) λg e=>by rw[aw.mp e];exact Z
 rw[show ab.list [dG m b]= .list ([(m,b)].map A0) from rfl,Y,show jj rs.length [(m,b)]=rs.length^m by unfold jj;simp];ext;rw[decide_eq_false (by lia)];ext;rw[W3 (by lia)];ext;rw[rep1 (by lia)];ext;rw[show aI m (dR rs)=(aI m rs).map dR by rw[kM],CK (λ_=>rfl) (λr h=>by rw[(pT.mp h).2];exact i) (by rw[cf];exact Z),<- sV];ext;rw[qP dL dL (λc=>!decide (cV b c w∈rs)) λc Y=>?_]
 . unfold brk
   cases (lR rs m).find? λc=>!decide (cV b c w∈rs) with
   | none=>ext;rfl
   | some c=>ext;rfl
 . ext;rw[QF (by rw[GX m c Y]) Z j];ext;rw[V5,decide_eq_decide.mpr (Rv rs)];ext;rw[UG]
   by_cases h:cV b c w∈rs
   . rw[decide_eq_true h];rfl
   . rw[decide_eq_false h];rfl
theorem Zx(Y:rs.length<=16)(Z:m<=4)(i:rs.length^m<=20000)(e:w<=100):iy [dG m b,nG w rs]= .ok (.bool (brk b w rs m).isNone):=by
 unfold iy;ext;rw[Ka Y Z i e];ext;cases brk b w rs m <;> rfl
theorem V6:(brk b w rs m).isNone=(lR rs m).all λc=>decide (cV b c w∈rs):=by
 unfold brk
 cases h:(lR rs m).find? λc=>!decide (cV b c w∈rs) with
 | none=>
  have:=n0.mp h;symm;show _=true;rw[gc];intro c Z;have:=this c Z;simpa using this
 | some c=>
  have Y:=tf h;have e:=mP h;symm;show _=false;rw[<- Bool.not_eq_true,gc];intro z;have:=z c e;rw[this] at Y;cases Y
theorem Yk:inY (.int x) (.dict (mk ks))= .ok (.bool (decide (x∈ks))):=by
 show zi.ok (ab.bool ((cD (.inl x) (mk ks)).isSome))=_;rw[Ew]
theorem Tq(h:W<=100000):Ec (.int (((W:Nat):Int) - 1)) (.int (-1)) (.int (-1))= .ok ((List.range W).map λi=>ab.int (((W:Nat):Int) - 1 - (i:Nat))):=by
 have e:dt (((W:Nat):Int) - 1) (-1) (-1)=((W:Nat):Int):=by
  unfold dt;simp;lia
 show gd ((-1:Int)≠0/\(-1:Int).natAbs<1073741824/\Builtin.Range.small (((W:Nat):Int) - 1) (-1) (-1)=true/\0<=dt (((W:Nat):Int) - 1) (-1) (-1)) (zi.ok ((List.range (dt (((W:Nat):Int) - 1) (-1) (-1)).toNat).map λj=>ab.int (((W:Nat):Int) - 1+(j:Nat)*(-1))))=_;rw[e,bj ⟨by decide,by decide,by unfold Builtin.Range.small;simp only[oq];simp;lia,by lia⟩,dS];congr 1;exact cp λi _=>by congr 1;lia
noncomputable def lY(U:B3)(ws:B5):B3:=ws.foldl (λU w=>rT ((w:Nat):Int) U) U
variable {U:B3}
theorem ux:lY U (hs++[w])=rT ((w:Nat):Int) (lY U hs):=by rw[lY,fg];rfl
theorem wy(ws:B5):x∈lY U ws↔x∈U\/∃w∈ws,x=((w:Nat):Int):=by
 induction ws using snoc_ind with
 | h0=>simp[lY]
 | h ws w Y=>
  rw[ux,J1,Y];constructor
  . rintro (rfl | h | ⟨v,hv,rfl⟩)
    . exact .inr ⟨w,by simp,rfl⟩
    . exact .inl h
    . exact .inr ⟨v,by simp[hv],rfl⟩
  . rintro (h | ⟨v,hv,rfl⟩)
    . exact .inr (.inl h)
    . rcases ck.mp hv with hv | hv
      . exact .inr (.inr ⟨v,hv,rfl⟩)
      . rw[aw.mp hv];exact .inl rfl
theorem wR(ws:B5):(lY U ws).length<=U.length+ws.length:=by
 induction ws using snoc_ind with
 | h0=>exact ay _
 | h ws w Y=>rw[ux,ai,cK];have:=JX (x:=((w:Nat):Int)) (ks:=lY U ws);lia
noncomputable def dB(n:Nat)(ss:List aA)(o:Nat):Nat->B3
 | 0=>[((o:Nat):Int)]
 | i+1=>if ((n+(ss.length - 1 - i):Nat):Int)∈dB n ss o i then lY (dB n ss o i) ((ss[ss.length - 1 - i]?.map aA.ws).getD []) else dB n ss o i
theorem Jg{o:Nat}(hs:aP j ss):∀i,(dB j ss o i).length<=1+4*i
 | 0=>ay _
 | i+1=>by
  have Y:=Jg (o:=o) hs i;unfold dB;split
  . cases e:ss[ss.length - 1 - i]? with
    | none=>have:=wR (U:=dB j ss o i) [];simp at this ⊢;lia
    | some s=>
     have:=wR (U:=dB j ss o i) s.ws;have ok:=hs _ s e;have:=ok.len;have:=ok.m4;simp;lia
  . lia
theorem adi(hs:aP W ss)(E:ss.length<=5000):nU [dC W ss o]= .ok (.dict (mk (dB W ss o ss.length))):=by
 unfold nU;ext;rw[Py];ext;rw[JM];ext;rw[show ∀Y:Ev,gv Y 0=some (dC W ss o)->Hq (ao zI (aj 0) (eC (.int 2))) (eC (.bool true)) Y= .ok (.dict (mk [((o:Nat):Int)])) from λY h=>by
  rw[Hq,show (ao zI (aj 0) (eC (.int 2))) Y= .ok (.int (o:Nat)) by unfold ao aj;rw[h];rfl];rfl]
 . ext;rw[show ∀Y:Ev,gv Y 2=some (.tuple (ss.map aA.d))->Bd (ao jl (eFn il [(aj 2)]) (eC (.int 1))) (eUn JZ (eC (.int 1))) (eUn JZ (eC (.int 1))) Y= .ok ((List.range ss.length).map λi=>ab.int (((ss.length:Nat):Int) - 1 - (i:Nat))) from λY h=>by
    rw[Bd,show (ao jl (eFn il [(aj 2)]) (eC (.int 1))) Y= .ok (.int ((ss.length:Int) - 1)) by
     show ((eFn il [(aj 2)]) Y).bind _=_;rw[show (eFn il [(aj 2)]) Y= .ok (.int ss.length) by
      unfold eFn evs aj;rw[h];show il [.tuple (ss.map aA.d)]=_;rw[vA,ag]]
     rfl]
    exact Tq (by lia)]
   . ext;refine bI (λi=>[some (dC W ss o),some (.int W),some (.tuple (ss.map aA.d)),some (.dict (mk (dB W ss o i))),none,none]) rfl (λi x l=>?_) ?_
     . obtain ⟨v,C,rfl⟩:=cU l;obtain ⟨D,q⟩:i<ss.length/\v=i:=by
        have:=(a0.mp C);obtain ⟨r,u⟩:=this;rw[cq] at r;rw[List.getElem_range] at u;exact ⟨r,u.symm⟩
       rw[q];have z:=Jg (o:=o) hs i;ext;rw[show (W:Int)+((ss.length:Int) - 1 - i)=((W+(ss.length - 1 - i):Nat):Int) by lia,Yk,show dB W ss o (i+1)=if ((W+(ss.length - 1 - i):Nat):Int)∈dB W ss o i then lY (dB W ss o i) ((ss[ss.length - 1 - i]?.map aA.ws).getD []) else dB W ss o i from rfl]
       by_cases e:((W+(ss.length - 1 - i):Nat):Int)∈dB W ss o i
       . rw[if_pos e,decide_eq_true e];generalize dB W ss o i=U at z;have p:ss.length - 1 - i<ss.length:=by lia
         have Z:=av p;generalize ss[ss.length - 1 - i]=s at Z;have ok:=hs _ s Z;have H:=ok.len;have m4:=ok.m4;ext;rw[show (ss.length:Int) - 1 - i=((ss.length - 1 - i:Nat):Int) by lia,tD (by rw[ba,Z];rfl),Z];ext;rw[show zI s.d (.int 1)= .ok (.tuple (dN s.ws)) from rfl];ext;refine bI (λj=>[some (dC W ss o),some (.int W),some (.tuple (ss.map aA.d)),some (.dict (mk (lY U (s.ws.take j)))),some (.int ((ss.length - 1 - i:Nat):Int)),none]) rfl (λj x l=>?_) ?_
         . obtain ⟨w,B,rfl⟩:=cU l;have:=wR (U:=U) (s.ws.take j);rw[dc] at this;ext;rw[Jk rfl rfl rfl (by lia) (of_decide_eq_true rfl)];ext;rw[take_snoc B,ux]
         . rw[uV,d4];ext;rfl
       . rw[if_neg e,decide_eq_false e];ext
     . rw[ag,cq];ext
   . rfl
 . rfl
section
variable {n:Nat}
theorem Ga(h:x∈dB n ss o i):x∈dB n ss o (i+1):=by
 unfold dB;split
 . exact (wy _).mpr (.inl h)
 . exact h
theorem Gk:∀d,x∈dB n ss o i->x∈dB n ss o (i+d)
 | 0,h=>h
 | d+1,h=>Ga (Gk d h)
theorem wL:∀i,((o:Nat):Int)∈dB n ss o i
 | 0=>aw.mpr rfl
 | i+1=>Ga (wL i)
theorem Bq(hs:aP n ss):∀d,i+d<=ss.length->x∈dB n ss o (i+d)->x∈dB n ss o i\/x<((n+(ss.length - 1 - i):Nat):Int)
 | 0,_,h=>.inl h
 | d+1,hd,h=>by
  have h:x∈dB n ss o (i+d+1):=h;unfold dB at h;split at h
  . rcases (wy _).mp h with h | ⟨w,Z,rfl⟩
    . exact Bq hs d (by lia) h
    . have Y:ss.length - 1 - (i+d)<ss.length:=by lia
      rw[av Y] at Z;have:=(hs _ _ (av Y)).lt w Z;right;lia
  . exact Bq hs d (by lia) h
theorem uw(hs:aP n ss)(e:ss[j]?=some s)(h:((n+j:Nat):Int)∈dB n ss o ss.length):∀w∈s.ws,((w:Nat):Int)∈dB n ss o ss.length:=λw l=>by
 have r:=(a0.mp e).1;obtain ⟨i,q⟩:∃i,i=ss.length - 1 - j:=⟨_,rfl⟩;have Y:ss.length - 1 - i=j:=by lia
 have Z:((n+j:Nat):Int)∈dB n ss o i:=by
  rcases Bq hs (i:=i) (ss.length - i) (by lia) (by rw[show i+(ss.length - i)=ss.length by lia];exact h) with h | h
  . exact h
  . rw[Y] at h;lia
 have p:((w:Nat):Int)∈dB n ss o (i+1):=by
  rw[dB,Y,if_pos Z,e];exact (wy _).mpr (.inr ⟨w,l,rfl⟩)
 have:=Gk (ss.length - (i+1)) p;rwa [show i+1+(ss.length - (i+1))=ss.length by lia] at this
end
noncomputable def dP(ps:List (Nat×Nat)):B0:=ps.map λp=>(ab.int (p.1:Nat),ab.int (p.2:Nat))
noncomputable def lkP(w:Nat):List (Nat×Nat)->Option Nat
 | []=>none
 | p::r=>if p.1=w then some p.2 else lkP w r
theorem Ed(w:Nat):∀ps:List (Nat×Nat),cD (.inl ((w:Nat):Int)) (dP ps)=(lkP w ps).map λv=>ab.int (v:Nat)
 | []=>rfl
 | p::r=>by
  show (if bJ (ab.int (p.1:Nat))=some (.inl ((w:Nat):Int)) then some (ab.int (p.2:Nat)) else cD (.inl ((w:Nat):Int)) (dP r))=_;unfold lkP
  by_cases h:p.1=w
  . rw[if_pos (by rw[h];rfl),if_pos h];rfl
  . rw[if_neg (show ¬ (bJ (ab.int (p.1:Nat))=some (.inl ((w:Nat):Int))) from λz=>h (y7.inj (lI.inj (Option.some.inj z)))),if_neg h,Ed w r]
theorem RJ(w:Nat):∀ps:List (Nat×Nat),oM (.inl ((w:Nat):Int)) (dP ps)=(lkP w ps).isSome
 | []=>rfl
 | p::r=>by
  show (if bJ (ab.int (p.1:Nat))=some (.inl ((w:Nat):Int)) then true else oM (.inl ((w:Nat):Int)) (dP r))=_;unfold lkP
  by_cases h:p.1=w
  . rw[if_pos (by rw[h];rfl),if_pos h];rfl
  . rw[if_neg (show ¬ (bJ (ab.int (p.1:Nat))=some (.inl ((w:Nat):Int))) from λz=>h (y7.inj (lI.inj (Option.some.inj z)))),if_neg h,RJ w r]
theorem uI:∀{ps:List (Nat×Nat)},lkP w (ps++[(j,W)])=match lkP w ps with | some u=>some u | none=>if j=w then some W else none
 | []=>rfl
 | p::r=>by
  show (if p.1=w then some p.2 else lkP w (r++[(j,W)]))=match (if p.1=w then some p.2 else lkP w r) with | some u=>some u | none=>if j=w then some W else none
  by_cases h:p.1=w
  . rw[if_pos h,if_pos h]
  . rw[if_neg h,if_neg h,uI]
variable {ps:List (Nat×Nat)}
theorem aa3{v:Nat}{m:ME}(h:m Γ = .ok (.int (j:Nat)))(h':m1 Γ = .ok (.int (v:Nat)))(Y:gv Γ i=some (.dict (dP ps)))(l:lkP j ps=none)(e:ps.length<=100000)(Z:i < Γ.length) :
 je i m m1 Γ = .ok (.nx (Γ.set i (some (.dict (dP (ps++[(j,v)])))))):=by
 rw[je,h',zi.bf,h,zi.bf,Y];show gd ((dP ps).length<bt/\i < Γ.length) (zi.ok (Out.nx (Γ.set i (some (.dict (gO (.int (j:Nat)) (.inl ((j:Nat):Int)) (.int (v:Nat)) (dP ps)))))))=_;rw[bj ⟨Au (by rw[dP,ag];exact e),Z⟩];rw[gO,RJ,l,if_neg (by decide)];unfold dP;rw[be];rfl
noncomputable def rnP(ps:List (Nat×Nat))(s:aA):aA:=⟨s.m,s.b,s.ws.map λw=>(lkP w ps).getD 0⟩
theorem Qa(Z:∀w∈s.ws,(lkP w ps).isSome=true)(i:s.ws.length<=100):jB [s.d,.dict (dP ps)]= .ok (rnP ps s).d:=by
 unfold jB aA.d;ext;rw[jz (xs:=s.ws) (λw=>ab.int w) (λw=>.int ((lkP w ps).getD 0:Nat)) ?_ (Au (by lia)) λw Y=>?_]
 rotate_left
 . ext;rfl
 . ext;show (match cD (.inl ((w:Nat):Int)) (dP ps) with | some d=>zi.ok d | none=>.bad)=_;rw[Ed];obtain ⟨v,e⟩:=h8.mp (Z w Y);rw[e];rfl
 ext;unfold rnP dN;rw[c9];rfl
noncomputable def gq(n:Nat)(U:B3)(ss:List aA):Nat->List aA×List (Nat×Nat)
 | 0=>([],(List.range n).map λj=>(j,j))
 | i+1=>if ((n+i:Nat):Int)∈U then ((gq n U ss i).1++[rnP (gq n U ss i).2 (ss.getD i ⟨0,0,[]⟩)],(gq n U ss i).2++[(n+i,n+(gq n U ss i).1.length)]) else gq n U ss i
theorem sG:∀l:B5,lkP w (l.map λj=>(j,j))=if w∈l then some w else none
 | []=>rfl
 | j::r=>by
  show (if j=w then some j else lkP w (r.map λj=>(j,j)))=_;rw[sG r]
  by_cases h:j=w
  . rw[if_pos h,if_pos (by rw[h];exact br),h]
  . rw[if_neg h]
    by_cases Y:w∈r
    . rw[if_pos Y,if_pos (cc _ Y)]
    . rw[if_neg Y,if_neg (λz=>(b9.mp z).elim (λz=>h z.symm) Y)]
theorem zU(h:((j+i:Nat):Int)∈U):gq j U ss (i+1)=((gq j U ss i).1++[rnP (gq j U ss i).2 (ss.getD i ⟨0,0,[]⟩)],(gq j U ss i).2++[(j+i,j+(gq j U ss i).1.length)]):=by
 show (if _ then _ else _)=_;rw[if_pos h]
theorem wj(h:((j+i:Nat):Int)∉U):gq j U ss (i+1)=gq j U ss i:=by
 show (if _ then _ else _)=_;rw[if_neg h]
structure adM (n:Nat) (U:B3) (i:Nat) (a:List aA×List (Nat×Nat)):Prop where
 st:aP n a.1
 len:a.1.length<=i
 pl:a.2.length<=n+i
 has:∀w,w<n+i->(w<n\/((w:Nat):Int)∈U)->∃v,lkP w a.2=some v/\v<n+a.1.length
 new:∀w,n+i<=w->lkP w a.2=none
noncomputable def HY(n:Nat)(U:B3)(ss:List aA):Prop:=∀j s,ss[j]?=some s->((n+j:Nat):Int)∈U->∀w∈s.ws,w<n\/((w:Nat):Int)∈U
theorem rz(hs:aP W ss)(u:HY W U ss):∀i,i<=ss.length->adM W U i (gq W U ss i)
 | 0,_=>by
  refine ⟨aP.nil,ay _,by show ((List.range W).map _).length<=_;rw[ag,cq];exact ay _,λw Y _=>⟨w,?_,Y⟩,λw Y=>?_⟩
  . show lkP w ((List.range W).map λj=>(j,j))=_;rw[sG,if_pos (er.mpr (show w<W from Y))]
  . show lkP w ((List.range W).map λj=>(j,j))=_;rw[sG,if_neg (λz=>by have:=er.mp z;lia)]
 | i+1,H=>by
  obtain ⟨p,E,D,o,Z⟩:=rz hs u i (by lia)
  by_cases h:((W+i:Nat):Int)∈U
  . have l:ss[i]?=some ss[i]:=av (by lia);rw[zU h,show ss.getD i ⟨0,0,[]⟩=ss[i] by rw[ae,l];rfl];generalize ss[i]=s at l;have ok:=hs i s l;have cl:=u i s l h;generalize gq W U ss i=a at p E D o Z;refine ⟨p.snoc ⟨ok.m4,by show (s.ws.map _).length=_;rw[ag];exact ok.len,λk C=>?_,ok.b0,ok.b1⟩,by simp;lia,by simp;lia,λw Y hu=>?_,λw Y=>?_⟩
    . obtain ⟨w,Y,rfl⟩:=bX.mp C;obtain ⟨v,e,B⟩:=o w (ok.lt w Y) (cl w Y);rw[e];exact B
    . rw[ai,cK]
      by_cases r:w<W+i
      . obtain ⟨v,e,B⟩:=o w r hu;exact ⟨v,by rw[uI,e],by lia⟩
      . have q:w=W+i:=by lia
        subst q;exact ⟨W+a.1.length,by rw[uI,Z _ (ay _),if_pos rfl],by lia⟩
    . rw[uI,Z w (by lia),if_neg (by lia)]
  . rw[wj h];refine ⟨p,by lia,by lia,λw Y hu=>o w ?_ hu,λw Y=>Z w (by lia)⟩;rcases fx w (W+i) with z | z
    . exact z
    . have q:w=W+i:=by lia
      subst q;rcases hu with hu | hu
      . lia
      . exact absurd hu h
theorem xm{q:Type}{φ:Nat->Int->List q->q}{z:q}{base:List q}(l:base.length=W)(hs:aP W ss)(r:HY W U ss):∀i,i<=ss.length->∀w v,w<W+i->(w<W\/((w:Nat):Int)∈U)->lkP w (gq W U ss i).2=some v->(cM φ z base (gq W U ss i).1).getD v z=(cM φ z base ss).getD w z
 | 0,_,w,v,Y,_,e=>by
  have e:lkP w ((List.range W).map λj=>(j,j))=some v:=e;rw[sG,if_pos (er.mpr (show w<W from Y))] at e;cases e;have:=o5 (φ:=φ) (z:=z) l (zd:=[]) Y ss;exact this.symm
 | i+1,L,w,v,Y,hu,e=>by
  obtain ⟨H,J,I,u,C⟩:=rz hs r i (by lia);have p:=xm (φ:=φ) (z:=z) l hs r i (by lia)
  by_cases h:((W+i:Nat):Int)∈U
  . have Z:ss[i]?=some ss[i]:=av (by lia);rw[zU h,show ss.getD i ⟨0,0,[]⟩=ss[i] by rw[ae,Z];rfl] at e ⊢;generalize ss[i]=s at Z e;have ok:=hs i s Z;have cl:=r i s Z h;generalize gq W U ss i=a at H J I u C p e;rw[uI] at e
    by_cases o:w<W+i
    . obtain ⟨M,E,D⟩:=u w o hu;rw[E] at e;cases e;rw[o5 l D];exact p w v o hu E
    . have B:w=W+i:=by lia
      subst B;rw[C _ (ay _),if_pos rfl] at e;cases e;rw[xX l,fold_at l ss hs i s Z];show φ s.m s.b ((s.ws.map _).map _)=_;rw[c9];congr 1;refine cp λw Y=>?_;obtain ⟨v,e,D⟩:=u w (ok.lt w Y) (cl w Y);show (cM φ z base a.1).getD ((lkP w a.2).getD 0) z=_;rw[e];exact p w v (ok.lt w Y) (cl w Y) e
  . rw[wj h] at e ⊢;refine p w v ?_ hu e;rcases fx w (W+i) with y | y
    . exact y
    . have B:w=W+i:=by lia
      subst B;rcases hu with hu | hu
      . lia
      . exact absurd hu h
theorem Ip{n:Nat}(hs:aP n ss)(I:n<=100)(B:ss.length<=5000)(E:o<n+ss.length) :
 fY [dC n ss o]= .ok (dC n (gq n (dB n ss o ss.length) ss ss.length).1 ((lkP o (gq n (dB n ss o ss.length) ss ss.length).2).getD 0)):=by
 have l:HY n (dB n ss o ss.length) ss:=λj s e h w p=>.inr (uw hs e h w p);have Y:=wL (n:=n) (ss:=ss) (o:=o) ss.length;unfold fY;ext;rw[Py];ext;rw[adi hs B];generalize dB n ss o ss.length=U at l Y;ext;rw[fG (by lia)];ext;refine bI (λi=>[some (dC n ss o),some (.int n),some (.dict (mk U)),some (.dict (dP ((List.range i).map λj=>(j,j)))),none,none,none,none]) rfl (λi x q=>?_) ?_
 . obtain ⟨r,rfl⟩:=lC q;ext;rw[aa3 rfl rfl rfl (by rw[sG,if_neg (λz=>by have:=er.mp z;lia)]) (by rw[ag,cq];lia) (of_decide_eq_true rfl)];ext;rw[kC,be];rfl
 . rw[iR];ext;rw[JM];ext;rw[Wa];ext;refine bI (λi=>[some (dC n ss o),some (.int n),some (.dict (mk U)),some (.dict (dP (gq n U ss i).2)),none,some (.list ((gq n U ss i).1.map aA.d)),none,none]) rfl (λi x q=>?_) ?_
   . obtain ⟨d,hd,rfl⟩:=Ue q;obtain ⟨s,Z,rfl⟩:=cU hd;have r:=(a0.mp Z).1;have ok:=hs i s Z;have m4:=ok.m4;have H:=ok.len;have u:=rz hs l i (by lia);have C:=u.len;have D:=u.pl;ext;rw[show (n:Int)+i=((n+i:Nat):Int) by lia,Yk]
     by_cases h:((n+i:Nat):Int)∈U
     . rw[decide_eq_true h,zU h,show ss.getD i ⟨0,0,[]⟩=s by rw[ae,Z];rfl];have cl:=l i s Z h;generalize gq n U ss i=a at u C D;ext;rw[Qa (λw p=>by obtain ⟨v,e,_⟩:=u.has w (ok.lt w p) (cl w p);rw[e];rfl) (by lia)];ext;rw[bj (Au (by lia))];ext;rw[aa3 (v:=n+a.1.length) (by ext;congr 1) (by ext;congr 2;rw[ai,ag,cK];lia) rfl (u.new _ (ay _)) (by lia) (of_decide_eq_true rfl)];ext;rw[be];rfl
     . rw[decide_eq_false h,wj h];ext
   . rw[Jv,ag];have u:=rz hs l ss.length (ay _);obtain ⟨v,e,_⟩:=u.has o E (.inr Y);ext;rw[Qc];ext;rw[show ixY (.dict (dP (gq n U ss ss.length).2)) (.int (o:Nat))= .ok (.int (v:Nat)) from by
      show (match cD (.inl ((o:Nat):Int)) (dP (gq n U ss ss.length).2) with | some d=>zi.ok d | none=>.bad)=_;rw[Ed,e];rfl,e]
     rfl
structure Alike (n:Nat) (ss:List aA) (o:Nat) (ss':List aA) (o':Nat):Prop where
 ok:aP n ss'
 lt:o'<n+ss'.length
 same:∀{β:Type} (φ:Nat->Int->List β->β) (z:β) (base:List β),base.length=n->(cM φ z base ss').getD o' z=(cM φ z base ss).getD o z
theorem Xa(h:j^m<=B)(Z:1<=B)(e:i<=m):j^i<=B:=by
 by_cases Y:j=0
 . subst Y;exact cS (by cases i with | zero=>exact ay _ | succ i=>rw[Nat.zero_pow (Nat.succ_pos i)];exact iS _) Z
 . exact cS (ew (Nat.pos_of_ne_zero Y) e) h
theorem Lp(u:∀rs,Bc (enc rs)= .ok (rs.map ab.int))(v:∀rs∈cs,rs.length<=256)(B:cs.length<=4)(s:∀i,i<cs.length->(cJ (cs.take i)).length<=20000):iK [.list (cs.map enc)]= .ok (.list ((cJ cs).map dL)):=by
 unfold iK;ext;refine bI (λi=>[some (.list (cs.map enc)),some (.list ((cJ (cs.take i)).map dL)),none,none,none,none]) rfl (λi x Z=>?_) ?_
 . obtain ⟨rs,Y,rfl⟩:=cU Z;have q:=(a0.mp Y).1;have e:=v rs (d6 Y);have z:=s i q;ext;refine bI (λj=>[some (.list (cs.map enc)),some (.list ((cJ (cs.take i)).map dL)),some (enc rs),some (.list ((jc rs ((cJ (cs.take i)).take j)).map dL)),none,none]) rfl (λj x Z=>?_) ?_
   . obtain ⟨c,l,rfl⟩:=cU Z;have p:=Cm (d6 l);rw[dc] at p;have D:(jc rs ((cJ (cs.take i)).take j)).length<=5200000:=by
      rw[sZ,dc];exact cS (k6 (cS (Nat.min_le_right _ _) z) e) (by decide)
     ext;rw[u];ext;refine bI (λk=>[some (.list (cs.map enc)),some (.list ((cJ (cs.take i)).map dL)),some (enc rs),some (.list ((jc rs ((cJ (cs.take i)).take j)++(rs.take k).map λr=>c++[r]).map dL)),some (dL c),none]) ?_ (λk x Z=>?_) ?_
     . rw[mm,fe,c8]
     . obtain ⟨r,o,rfl⟩:=cU Z;have C:=(a0.mp o).1;ext;rw[abW (by lia)];ext;rw[bj (ke (show _<=5300000 by rw[ai,ag,dc];lia) (by decide))];ext;rw[take_snoc o,be (f:=λr=>c++[r]),<- dy,be (l₂:=List.map (λr=>c++[r]) [r])];rfl
     . rw[ag,d4];ext;rw[take_snoc l,CW]
   . rw[ag,d4];ext;rw[take_snoc Y,nM]
 . rw[ag,d4];ext
theorem sW(h:rs∈gJ old xs j p):rs.length<=old.length+xs.length:=by
 rcases ck.mp h with h | h
 . rcases ck.mp h with h | h
   . rw[(pT.mp h).2];lia
   . rw[aw.mp h];lia
 . rw[(pT.mp h).2,ai];exact ay _
theorem Ra(Z:∀rs∈cs,rs.length<=B)(e:B^cs.length<=20000)(Y:i<=cs.length):(cJ (cs.take i)).length<=20000:=by
 have:=xu (cs:=cs.take i) (λrs h=>Z rs (oP h));rw[dc,Nat.min_eq_left Y] at this;exact cS this (Xa e (by decide) Y)
theorem Kg(Y:∀rs∈cs,rs.length<=B)(Z:B^cs.length<=20000):(cJ cs).length<=20000:=cS (xu Y) Z
theorem places_len(Y:(old.length+xs.length)^j<=20000):∀k,k<=j->(((List.range k).flatMap λp=>cJ (gJ old xs j p))).length<=k*20000:=λk=>by
 induction k with
 | zero=>intro _;simp
 | succ k Z=>
  intro i;rw[kC,oS,ai,xI];have l:=Z (by lia);have q:(cJ (gJ old xs j k)).length<=20000:=Kg (λo h=>sW h) (by rw[iV (by lia)];exact Y);have e:([k].flatMap λp=>cJ (gJ old xs j p)).length=(cJ (gJ old xs j k)).length:=by simp
  rw[e];lia
theorem Es(u:old.length+xs.length<=128)(q:W<=4)(e:(old.length+xs.length)^W<=20000):my [dL old,dL xs,.int (W:Nat)]= .ok (.list ((lq old xs W).map dL)):=by
 unfold my;ext;rw[fG (by lia)];ext;refine bI (λi=>[some (dL old),some (dL xs),some (.int W),some (.list (((List.range i).flatMap λp=>cJ (gJ old xs W p)).map dL)),none]) rfl (λi x l=>?_) ?_
 . obtain ⟨Y,rfl⟩:=lC l;have s:(W:Int) - (i:Nat) - 1=((W - i - 1:Nat):Int):=by lia
   have o:evs [ao c7 (ao c7 (ao v9 (bV [aj 0]) (aj 4)) (bV [aj 1])) (ao v9 (bV [ao c7 (aj 0) (aj 1)]) (ao jl (ao jl (aj 2) (aj 4)) (eC (.int 1))))] [some (dL old),some (dL xs),some (.int (W:Nat)),some (.list (((List.range i).flatMap λp=>cJ (gJ old xs W p)).map dL)),some (.int (i:Nat))]= .ok [.list ((gJ old xs W i).map dL)]:=by
    ext;rw[s,rep1 (by lia)];ext;rw[qC (by rw[cf];show i+1<=1000;lia)];ext;rw[show c7 (dL old) (dL xs)= .ok (dL (old++xs)) by unfold dL;rw[qC (by rw[ag,ag];lia),be]];ext;rw[rep1 (by lia)];ext;rw[qC (by rw[ai,cf,cf];show i+1+_<=1000;lia)];rw[gJ,be,be,kM,kM];rfl
   have v:=places_len e i (by lia);have z:=Kg (λZ h=>sW h) (by rw[iV Y];exact e);rw[BJ];ext;rw[Fj (es:=(cJ (gJ old xs W i)).map dL) ?_ rfl ?_ (of_decide_eq_true rfl)]
   . ext;rw[kC,oS,be];simp
   . rw[mV,o,zi.bf];exact Lp (λZ=>rfl) (λZ h=>cS (sW h) (by lia)) (by rw[iV Y];exact q) (λj r=>Ra (λZ h=>sW h) (by rw[iV Y];exact e) (gp r))
   . rw[ag,ag];exact cS (show _<=400000 by lia) (by decide)
 . rw[iR];ext;rfl
def iT(n:Nat)(gs:A9):Prop:=128<n\/20000<jj n gs
theorem SQ(h:j<=W)(gs:A9):jj j gs<=jj W gs:=by
 unfold jj
 induction gs with
 | nil=>exact ay _
 | cons g gs Y=>
  rw[bq,ja,bq,ja];exact Nat.add_le_add (ly h _) Y
variable {g:Nat×Int}
theorem Wc(h:g∈gs):j^g.1<=jj j gs:=by
 unfold jj
 induction gs with
 | nil=>cases h
 | cons q gs Y=>
  rw[bq,ja];rcases b9.mp h with rfl | h
  . lia
  . have:=Y h;lia
noncomputable def gtC:ME:=eOr (ao gtD (aj 0) (eC (.int 128))) (ao gtD (aF jx [(aj 0),(aj 1)]) (eC (.int 20000)))
theorem aaK(h:iT j gs)(Z:gs.length<=100)(e:∀g∈gs,g.1<=4):gtC [some (.int (j:Nat)),some (.list (gs.map A0))]= .ok (.bool true):=by
 unfold gtC;ext
 by_cases Y:128<j
 . rw[decide_eq_true (show (128:Int)<j by lia)];ext
 . rw[decide_eq_false (show ¬ (128:Int)<j by lia)];ext;rw[rH (by lia) Z e];ext;rcases h with h | h
   . exact absurd h Y
   . rw[decide_eq_true (show (20000:Int)<(jj j gs:Nat) by lia)]
theorem ac0{c:ME}(h:c Γ = .ok (.bool true)):sIf c Em cP Γ = .bad:=by
 rw[NB,h];rfl
theorem K9(h:iT j gs)(Y:gs.length<=100)(Z:∀g∈gs,g.1<=4):fK [.int (j:Nat),.list (gs.map A0)]= .bad:=by
 show zi.bind (sIf gtC Em cP [some (.int (j:Nat)),some (.list (gs.map A0))]) _=_;rw[ac0 (aaK h Y Z)];rfl
structure Way where
 c:Nat
 g:Option (Nat×Int)
 ts:B3
abbrev A6:=List (Int×Way)
noncomputable def gD:Option (Nat×Int)->ab
 | none=>.none
 | some g=>A0 g
noncomputable def wD(w:Way):ab:=.tuple [.int (w.c:Nat),gD w.g,dR w.ts]
noncomputable def Ap(ws:A6):B0:=ws.map λq=>(ab.int q.1,wD q.2)
noncomputable def lk(t:Int):A6->Option Way
 | []=>none
 | (k,w)::r=>if k=t then some w else lk t r
theorem Jl:∀ws:A6,cD (.inl x) (Ap ws)=(lk x ws).map wD
 | []=>rfl
 | (k,w)::r=>by
  show (if bJ (.int k)=some (.inl x) then some (wD w) else cD (.inl x) (Ap r))=_;unfold lk
  by_cases h:k=x
  . subst h;rw[if_pos (show bJ (.int k)=some (.inl k) from rfl),if_pos rfl];rfl
  . rw[if_neg (show ¬ bJ (.int k)=some (.inl x) from λz=>h (lI.inj (Option.some.inj z))),if_neg h];exact Jl r
theorem CV{w:Way}:∀{ws:A6},lk x ws=some w->(x,w)∈ws
 | (k,Y)::r,h=>by
  unfold lk at h
  by_cases e:k=x
  . rw[if_pos e] at h;cases h;subst e;exact br
  . rw[if_neg e] at h;exact cc _ (CV h)
theorem oF:∀{ws:A6},(lk x ws).isSome=true↔x∈ws.map (·.1)
 | []=>by simp[lk]
 | (k,Y)::r=>by
  unfold lk
  by_cases e:k=x
  . rw[if_pos e];simp[e]
  . rw[if_neg e,oF];simp[mw e]
variable {ws:A6}
theorem uF:lk x ws=none↔x∉ws.map (·.1):=by
 rw[<- oF];cases lk x ws <;> simp
theorem qI{w:Way}:∀{ws:A6},(ws.map (·.1)).Nodup->(x,w)∈ws->lk x ws=some w
 | (k,Z)::r,Y,h=>by
  unfold lk;rw[bq,mT] at Y;rcases b9.mp h with e | h
  . cases e;rw[if_pos rfl]
  . rw[if_neg (λz=>Y.1 (by rw[z];exact bX.mpr ⟨_,h,rfl⟩))];exact qI Y.2 h
noncomputable def xT(t:Int)(w:Way)(ws:A6):A6:=ws.map λq=>if q.1=t then (q.1,w) else q
noncomputable def iw(t:Int)(w:Way)(ws:A6):A6:=if (lk t ws).isSome=true then xT t w ws else ws++[(t,w)]
theorem RB:∀ws:A6,oM (.inl x) (Ap ws)=(lk x ws).isSome
 | []=>rfl
 | (k,w)::r=>by
  show (if bJ (.int k)=some (.inl x) then true else oM (.inl x) (Ap r))=_;unfold lk
  by_cases h:k=x
  . subst h;rw[if_pos (show bJ (.int k)=some (.inl k) from rfl),if_pos rfl];rfl
  . rw[if_neg (show ¬ bJ (.int k)=some (.inl x) from λz=>h (lI.inj (Option.some.inj z))),if_neg h];exact RB r
theorem Ur{w:Way}:∀ws:A6,uy (.inl x) (wD w) (Ap ws)=Ap (xT x w ws)
 | []=>rfl
 | (k,Y)::r=>by
  show (if bJ (.int k)=some (.inl x) then (ab.int k,wD w) else (.int k,wD Y))::uy (.inl x) (wD w) (Ap r)=_;rw[Ur r];show _=(ab.int (if k=x then (k,w) else (k,Y)).1,wD (if k=x then (k,w) else (k,Y)).2)::Ap (xT x w r)
  by_cases h:k=x
  . subst h;rw[if_pos (show bJ (.int k)=some (.inl k) from rfl),if_pos rfl]
  . rw[if_neg (show ¬ bJ (.int k)=some (.inl x) from λz=>h (lI.inj (Option.some.inj z))),if_neg h]
theorem Yh{w:Way}:gO (.int x) (.inl x) (wD w) (Ap ws)=Ap (iw x w ws):=by
 unfold gO iw;rw[RB];split
 . exact Ur ws
 . unfold Ap;rw[be];rfl
noncomputable def cB(ws:A6)(q:Int×Way):A6:=match lk q.1 ws with
 | none=>iw q.1 q.2 ws
 | some w0=>if q.2.c<w0.c then iw q.1 q.2 ws else ws
theorem zQ:(Ap ws).length=ws.length:=by rw[Ap,ag]
theorem Yb{w:Way}(l:m2 Γ = .ok (wD w))(j:m1 Γ = .ok (.int x))(Y:gv Γ i=some (.dict (Ap ws)))(e:ws.length<=100000)(Z:i < Γ.length):je i m1 m2 Γ = .ok (.nx (Γ.set i (some (.dict (Ap (iw x w ws)))))):=by
 rw[je,l,zi.bf,j,zi.bf,Y];show gd ((Ap ws).length<bt/\i < Γ.length) (zi.ok (Out.nx (Γ.set i (some (.dict (gO (.int x) (.inl x) (wD w) (Ap ws)))))))=_;rw[bj ⟨by rw[zQ];exact Au e,Z⟩,Yh]
theorem Ys{w:Way}(h:lk x ws=some w):ixY (.dict (Ap ws)) (.int x)= .ok (wD w):=by
 show (match cD (.inl x) (Ap ws) with
  | some d=>zi.ok d
  | none=>.bad)=_
 rw[Jl,h];rfl
theorem M6:jX (.int x) (.dict (Ap ws))= .ok (.bool (!(lk x ws).isSome)):=by
 show zi.ok (ab.bool (!(cD (.inl x) (Ap ws)).isSome))=_;rw[Jl,iX]
theorem aeE:inY (.int x) (.dict (Ap ws))= .ok (.bool ((lk x ws).isSome)):=by
 show zi.ok (ab.bool ((cD (.inl x) (Ap ws)).isSome))=_;rw[Jl,iX]
theorem Ou{w:Way}:zI (wD w) (.int 0)= .ok (.int (w.c:Nat)):=rfl
theorem aaT{w:Way}(Z:ws.length<=100000):mY [.dict (Ap ws),.int x,wD w]= .ok (.tuple [.none,.dict (Ap (cB ws (x,w)))]):=by
 show zi.bind (sIf _ _ _ [some (.dict (Ap ws)),some (.int x),some (wD w)]) _=_;ext;rw[M6];ext;unfold cB
 cases h:lk x ws with
 | none=>
  ext;rw[show (!(none:Option Way).isSome)=true from rfl];ext;rw[Yb rfl rfl rfl Z (of_decide_eq_true rfl)];rfl
 | some Y=>
  rw[show (!(some Y:Option Way).isSome)=false from rfl];ext;rw[Ou,Ys h];ext;rw[Ou];ext
  by_cases lt:w.c<Y.c
  . rw[if_pos lt,decide_eq_true (show (w.c:Int)<(Y.c:Int) by lia)];ext;rw[Yb rfl rfl rfl Z (of_decide_eq_true rfl)];rfl
  . rw[if_neg lt,decide_eq_false (show ¬ (w.c:Int)<(Y.c:Int) by lia)];ext
theorem Bp{Y:List ME}{w:Way}(h:evs Y Γ = .ok [.dict (Ap ws),.int x,wD w])(Z:ws.length<=100000):yE i mY Y Γ = .ok (.nx (Γ.set i (some (.dict (Ap (cB ws (x,w))))))):=by
 rw[yE,h,zi.bf,aaT Z];rfl
variable {q:Int×Way}
theorem Wx:(cB ws q).length<=ws.length+1:=by
 have Y:(iw q.1 q.2 ws).length<=ws.length+1:=by
  unfold iw xT;split
  . rw[ag];lia
  . rw[ai];exact ay _
 unfold cB;split
 . exact Y
 . split
   . exact Y
   . lia
noncomputable def cj(n:Nat):B3:=(List.range n).map λj=>gF n j
noncomputable def fQ:Way:=⟨0,none,[]⟩
noncomputable def wz(n:Nat):A6:=((cj n).map λt=>(t,fQ)).foldl cB []
noncomputable def qu(gs:A9)(n:Nat):A6:=(gs.filter λg=>decide (g.1=0)).map λg=>(bZ g.2 [] n,⟨1,some g,[]⟩)
noncomputable def nA(gs:A9)(n:Nat):A6:=(qu gs n).foldl cB (wz n)
theorem vH:∀{qs ws:A6},(qs.foldl cB ws).length<=ws.length+qs.length
 | [],ws=>ay _
 | q::qs,ws=>by
  rw[jI,bo];have Y:=vH (qs:=qs) (ws:=cB ws q);have Z:=Wx (ws:=ws) (q:=q);lia
theorem Ko{n:Nat}(o:n<=4)(z:gs.length<=100):kE [.list (gs.map A0),.int (n:Nat)]= .ok (.dict (Ap (nA gs n))):=by
 unfold kE;ext;rw[show mG [] [some (.list (gs.map A0)),some (.int (n:Nat)),none,none,none]= .ok (.dict (Ap [])) from rfl];ext;rw[lG o];ext;have v:(cj n).length=n:=by rw[cj,ag,cq]
 refine bI (xs:=(cj n).map ab.int) (λi=>[some (.list (gs.map A0)),some (.int n),some (.dict (Ap ((((cj n).take i).map λt=>(t,fQ)).foldl cB []))),none,none]) rfl (λi x e=>?_) ?_
 . obtain ⟨t,p,rfl⟩:=cU e;have s:=(a0.mp p).1;have Z:=vH (qs:=((cj n).take i).map λt=>(t,fQ)) (ws:=[]);rw[ag,dc,jS] at Z;rw[BJ];show zi.bind (zi.bind (zi.ok ([some (.list (gs.map A0)),some (.int (n:Nat)),some (.dict (Ap ((((cj n).take i).map λt=>(t,fQ)).foldl cB []))),some (.int t),none]:Ev)) _) _=_;rw[zi.bf,Bp (w:=fQ) rfl (by lia),take_snoc p,be,fg];rfl
 . rw[ag,d4];ext;refine bI (λi=>[some (.list (gs.map A0)),some (.int n),some (.dict (Ap ((qu (gs.take i) n).foldl cB (wz n)))),none,none]) rfl (λi x e=>?_) ?_
   . obtain ⟨g,l,rfl⟩:=cU e;have s:=(a0.mp l).1;have Y:=vH (qs:=(cj n).map λt=>(t,fQ)) (ws:=[]);rw[ag,jS] at Y;have j:(wz n).length<=n:=by show (((cj n).map λt=>(t,fQ)).foldl cB []).length<=n;lia
     have q:(qu (gs.take i) n).length<=i:=by
      rw[qu,ag];exact cS (mx _ _) (by rw[dc];exact Nat.min_le_left _ _)
     have Z:=vH (qs:=qu (gs.take i) n) (ws:=wz n);have r:qu (gs.take (i+1)) n=qu (gs.take i) n++if g.1=0 then [(bZ g.2 [] n,⟨1,some g,[]⟩)] else []:=by
      rw[qu,take_snoc l,List.filter_append,be];congr 1
      by_cases h:g.1=0
      . rw[kr (by simpa using h),if_pos h];rfl
      . rw[iq (by simpa using h),if_neg h];rfl
     rw[r,fg];generalize (qu (gs.take i) n).foldl cB (wz n)=ws at Z ⊢;rw[BJ];show zi.bind (zi.bind (zi.ok ([some (.list (gs.map A0)),some (.int (n:Nat)),some (.dict (Ap ws)),none,some (dG g.1 g.2)]:Ev)) _) _=_;rw[zi.bf];ext
     by_cases h:g.1=0
     . rw[decide_eq_true (show (g.1:Int)=0 by lia),if_pos h];ext;have u:evs [(aj 2),(aF nO [(aj 4),(bV []),(aj 1)]),(cI [(eC (.int 1)),(aj 4),(cI [])])] [some (.list (gs.map A0)),some (.int (n:Nat)),some (.dict (Ap ws)),none,some (dG g.1 g.2)]= .ok [.dict (Ap ws),.int (bZ g.2 [] n),wD ⟨1,some g,[]⟩]:=by
        ext;rw[show ab.list []=dL [] from rfl,BR (by rw[h];rfl) (by lia) o];ext;rfl
       rw[Bp u (by lia)];rfl
     . rw[decide_eq_false (show ¬ (g.1:Int)=0 by lia),if_neg h];ext;rfl
   . rw[ag,d4];ext;rfl
noncomputable def aK(ws:A6):B3:=ws.map (·.1)
noncomputable def lD(fs:A6)(t:Int):Nat:=((lk t fs).map (·.c)).getD 0
noncomputable def kh(fs:A6)(c:B3):Nat:=(c.map λp=>lD fs p).sum
noncomputable def lz(fs:A6)(t:Int):B3:=(aK fs).filter λk=>!decide (k=t)
noncomputable def qQ(fs:A6)(g:Nat×Int)(n:Nat)(c:B3):Option (Int×Way):=if (lk (bZ g.2 c n) fs).isSome=true then none else some (bZ g.2 c n,⟨1+kh fs c,some g,c⟩)
noncomputable def wK(fs:A6)(t:Int)(g:Nat×Int)(n:Nat):A6:=(lq (lz fs t) [t] g.1).filterMap (qQ fs g n)
noncomputable def qD(q:Int×Way):ab:=.tuple [.int q.1,wD q.2]
theorem KZ:∀ns:B5,(ns.map λk=>((k:Nat):Int)).sum=((ns.sum:Nat):Int)
 | []=>rfl
 | k::ns=>by rw[bq,ja,KZ ns,ja,yk]
theorem XS{a b:ab}{q:List (Option ab)}(Z:ws.length<=128):bR (itK 0) (gN 0) (ao neD (aj 0) (aj 1)) (aj 0) 1 [1] (some (.dict (Ap ws))::some (.int x)::q)= .ok (dL (lz ws x)):=by
 rw[jF (xs:=aK ws) ab.int (λk=>!decide (k=x)) ab.int ?_ (Au (by rw[aK,ag];lia)) (λk Y=>?_) λk Y h=>?_]
 . rfl
 . show zi.ok ((Ap ws).map (·.1))=_;unfold Ap aK;rw[c9,c9];rfl
 . ext
 . ext
theorem ady{α Y:Type}{f:α->Option Y}{a:α}:List.filterMap f [a]=(f a).toList:=by cases h:f a <;> simp[h]
theorem Lx{fs:A6}(z:fs.length<=128)(u:g.1<=4)(H:j<=4)(D:(lz fs y).length+1<=fs.length)(C:fs.length^g.1<=20000)(v:y∈aK fs) :
 j0 [.dict (Ap fs),.int y,dG g.1 g.2,.int (j:Nat)]= .ok (.list ((wK fs y g j).map qD)):=by
 have e:((lz fs y).length+[y].length)^g.1<=20000:=cS (ly D _) C;have E:(lq (lz fs y) [y] g.1).length<=80000:=by
  have:=places_len e g.1 (ay _);show ((List.range g.1).flatMap λp=>cJ (gJ (lz fs y) [y] g.1 p)).length<=_;lia
 unfold j0;ext;rw[XS (a:=.none) (b:=.none) z];ext;rw[show ab.list [.int y]=dL [y] from rfl,Es (by show (lz fs y).length+1<=128;lia) u e];ext;refine bI (λi=>[some (.dict (Ap fs)),some (.int y),some (dG g.1 g.2),some (.int j),some (dL (lz fs y)),some (.list ((((lq (lz fs y) [y] g.1).take i).filterMap (qQ fs g j)).map qD)),none,none,none]) rfl (λi x B=>?_) ?_
 . obtain ⟨c,o,rfl⟩:=cU B;have I:=(a0.mp o).1;obtain ⟨l,q⟩:=sy (d6 o);have r:=λp Y=>by
    have:p∈aK fs:=by
     rcases ck.mp (q p Y) with h | h
     . exact (iF.mp h).1
     . rw[aw.mp h];exact v
    exact h8.mp (oF.mpr this)
   ext;rw[BR l u H];ext;rw[M6,take_snoc o,List.filterMap_append];ext;rw[ady];have Z:(((lq (lz fs y) [y] g.1).take i).filterMap (qQ fs g j)).length<=80000:=cS (List.length_filterMap_le _ _) (by rw[dc];lia);generalize ((lq (lz fs y) [y] g.1).take i).filterMap (qQ fs g j)=L at Z ⊢;unfold qQ
   by_cases h:(lk (bZ g.2 c j) fs).isSome=true
   . rw[if_pos h,h];ext;rw[show (none:Option (Int×Way)).toList=[] from rfl,c8]
   . rw[if_neg h,ot.mpr h];ext;rw[jz (xs:=c) ab.int (λp=>.int ((lD fs p:Nat):Int)) ?_ (Au (by lia)) λp Y=>?_]
     rotate_left
     . ext
     . obtain ⟨w,s⟩:=r p Y;ext;rw[Ys s];ext;rw[Ou];rw[lD,s];rfl
     ext;rw[show c.map (λp=>ab.int ((lD fs p:Nat):Int))=((c.map λp=>lD fs p).map λk=>((k:Nat):Int)).map ab.int by rw[c9,c9];rfl,Gy,KZ];ext;rw[show fB [dL c]= .ok (dR c) from rfl];ext;rw[bj (ke Z (by decide))];ext;rw[be,show (1:Int)+(((c.map λp=>lD fs p).sum:Nat):Int)=((1+kh fs c:Nat):Int) by rw[yk];rfl];rfl
 . rw[ag,d4];ext;rfl
theorem Tn{w:Way}:aK (xT x w ws)=aK ws:=by
 unfold aK xT;rw[c9];refine cp λq _=>?_;show (if q.1=x then (q.1,w) else q).1=q.1;split <;> rfl
theorem Um{t:Int}{w:Way}(h:(aK ws).Nodup):(aK (iw t w ws)).Nodup:=by
 unfold iw;split
 . rw[Tn];exact h
 . rename_i Z;rw[aK,be];refine ey.mpr ⟨h,by simp,λa i b Y e=>?_⟩;have:=by simpa using Y
   subst this;subst e;exact Z (oF.mpr i)
theorem Wj{t:Int}{w:Way}(h:q∈iw t w ws):(q∈ws/\q.1≠t)\/q=(t,w):=by
 unfold iw at h;split at h
 . obtain ⟨r,Y,e⟩:=bX.mp h
   by_cases z:r.1=t
   . rw[if_pos z] at e;subst e;exact .inr (by rw[z])
   . rw[if_neg z] at e;subst e;exact .inl ⟨Y,z⟩
 . rename_i Z;rcases ck.mp h with h | h
   . refine .inl ⟨h,λz=>Z (oF.mpr ?_)⟩;exact bX.mpr ⟨q,h,z⟩
   . exact .inr (aw.mp h)
theorem KC{t:Int}{w:Way}:(t,w)∈iw t w ws:=by
 unfold iw;split
 . rename_i h;obtain ⟨Y,Z⟩:=h8.mp h;exact bX.mpr ⟨(t,Y),CV Z,by rw[if_pos rfl]⟩
 . exact c6 _ (aw.mpr rfl)
theorem U6{w:Way}(h:q∈ws)(Y:q.1≠x):q∈iw x w ws:=by
 unfold iw;split
 . exact bX.mpr ⟨q,h,by rw[if_neg Y]⟩
 . exact da _ h
structure yW (ws:A6) (qs:A6) (ws':A6):Prop where
 nd:(aK ws').Nodup
 mem:∀q∈ws',q∈ws\/q∈qs
 old:∀q∈ws,∃w',(q.1,w')∈ws'/\w'.c<=q.2.c
 new:∀q∈qs,∃w',(q.1,w')∈ws'/\w'.c<=q.2.c
theorem aa9(h:(aK ws).Nodup):yW ws [q] (cB ws q):=by
 obtain ⟨t,w⟩:=q;have put:(∀Z,(t,Z)∈ws->w.c<=Z.c)->yW ws [(t,w)] (iw t w ws):=λj=>by
  refine ⟨Um h,λr Y=>?_,λr Y=>?_,λr Y=>?_⟩
  . rcases Wj Y with z | z
    . exact .inl z.1
    . exact .inr (aw.mpr z)
  . by_cases z:r.1=t
    . refine ⟨w,by rw[z];exact KC,j r.2 ?_⟩;rw[<- z];exact Y
    . exact ⟨r.2,U6 Y z,ay _⟩
  . rw[aw.mp Y];exact ⟨w,KC,ay _⟩
 unfold cB
 cases e:lk t ws with
 | none=>exact put λZ i=>absurd (bX.mpr ⟨_,i,rfl⟩) (uF.mp e)
 | some Z=>
  show yW ws [(t,w)] (if w.c<Z.c then iw t w ws else ws)
  by_cases lt:w.c<Z.c
  . rw[if_pos lt];refine put λo l=>?_;have:=qI h l;rw[e] at this;cases this;lia
  . rw[if_neg lt];refine ⟨h,λr Y=>.inl Y,λr Y=>⟨r.2,Y,ay _⟩,λr Y=>?_⟩;rw[aw.mp Y];exact ⟨Z,CV e,kn lt⟩
theorem oH:∀{qs ws:A6},(aK ws).Nodup->yW ws qs (qs.foldl cB ws)
 | [],ws,h=>⟨h,λr hr=>.inl hr,λr hr=>⟨r.2,hr,ay _⟩,λr hr=>nomatch hr⟩
 | q::qs,ws,h=>by
  have a:=aa9 (q:=q) h;have b:=oH (qs:=qs) a.nd;rw[jI];refine ⟨b.nd,λr hr=>?_,λr hr=>?_,λr hr=>?_⟩
  . rcases b.mem r hr with z | z
    . rcases a.mem r z with y | y
      . exact .inl y
      . exact .inr (by rw[aw.mp y];exact br)
    . exact .inr (cc _ z)
  . obtain ⟨l,e,Z⟩:=a.old r hr;obtain ⟨Y,j,i⟩:=b.old _ e;exact ⟨Y,j,cS i Z⟩
  . rcases b9.mp hr with rfl | hr
    . obtain ⟨l,e,Z⟩:=a.new _ (aw.mpr rfl);obtain ⟨Y,j,i⟩:=b.old _ e;exact ⟨Y,j,cS i Z⟩
    . exact b.new r hr
def VW(gs:A9)(n:Nat)(fs:A6)(q:Int×Way):Prop:=
 (q.2=fQ/\q.1∈cj n)\/∃g∈gs,q.2.g=some g/\q.2.ts.length=g.1/\(∀p∈q.2.ts,p∈aK fs)/\bZ g.2 q.2.ts n=q.1/\q.2.c=1+kh fs q.2.ts
theorem UJ{fs:A6}(h:x∈aK fs):lk x (fs++ws)=lk x fs:=by
 induction fs with
 | nil=>cases h
 | cons q fs Y=>
  obtain ⟨k,w⟩:=q;show lk x ((k,w)::(fs++ws))=_;unfold lk
  by_cases e:k=x
  . rw[if_pos e,if_pos e]
  . rw[if_neg e,if_neg e];refine Y ?_;rcases b9.mp h with z | z
    . exact absurd z.symm e
    . exact z
theorem G5{gs:A6}(h:∀p∈c,p∈aK ws):kh (ws++gs) c=kh ws c:=by
 unfold kh;congr 1;refine cp λp Y=>?_;unfold lD;rw[UJ (h p Y)]
theorem VW.app{hs:A6}(h:VW gs j ws q):VW gs j (ws++hs) q:=by
 rcases h with h | ⟨g,o,r,Z,Y,i,e⟩
 . exact .inl h
 . exact .inr ⟨g,o,r,Z,λp l=>by rw[aK,be];exact da _ (Y p l),i,by rw[G5 Y];exact e⟩
structure dX (gs:A9) (n:Nat) (fs ws:A6):Prop where
 nd:(aK fs++aK ws).Nodup
 bd:∀t∈aK fs++aK ws,0<=t/\t<2^2^n
 vf:∀(i:Nat) (q:Int×Way),fs[i]?=some q->VW gs n (fs.take i) q
 vw:∀q∈ws,VW gs n fs q
 inp:∀t∈cj n,∃w,(t,w)∈fs++ws/\w.c=0
 cl:∀g∈gs,∀c:B3,c.length=g.1->(∀p∈c,p∈aK fs)->∃w,(bZ g.2 c n,w)∈fs++ws/\w.c<=1+kh fs c
 mo:∀q∈fs,∀r∈ws,q.2.c<=r.2.c
theorem YT{n:Nat}:∀t∈cj n,0<=t/\t<2^2^n:=λt Y=>by
 obtain ⟨j,_,rfl⟩:=bX.mp Y;exact ⟨yl _ _,JK _ _⟩
theorem Nh{n:Nat}:0<=bZ b ts n/\bZ b ts n<2^2^n:=⟨lB λ_=>aL _ _,u0 λ_=>aL _ _⟩
theorem VW.bd{n:Nat}(h:VW gs n ws q):0<=q.1/\q.1<2^2^n:=by
 rcases h with ⟨_,h⟩ | ⟨g,_,_,_,_,h,_⟩
 . exact YT _ h
 . rw[<- h];exact Nh
theorem Us:dX gs j [] (nA gs j):=by
 have a:yW [] ((cj j).map λt=>(t,fQ)) (wz j):=oH qE;have b:yW (wz j) (qu gs j) (nA gs j):=oH a.nd;have z:∀q∈nA gs j,VW gs j [] q:=λq Z=>by
  rcases b.mem q Z with h | h
  . rcases a.mem q h with h | h
    . cases h
    . obtain ⟨t,Y,rfl⟩:=bX.mp h;exact .inl ⟨rfl,Y⟩
  . obtain ⟨g,l,rfl⟩:=bX.mp h;obtain ⟨l,E⟩:=iF.mp l;exact .inr ⟨g,l,rfl,(of_decide_eq_true E).symm,(λp H=>nomatch H),rfl,rfl⟩
 refine ⟨b.nd,λt Y=>?_,λi q e=>by simp at e,z,λt Y=>?_,λg l c B D=>?_,λq Z=>nomatch Z⟩
 . obtain ⟨q,Z,rfl⟩:=bX.mp (Y);exact (z q Z).bd
 . obtain ⟨v,r,o⟩:=a.new (t,fQ) (bX.mpr ⟨t,Y,rfl⟩);obtain ⟨s,I,u⟩:=b.old _ r;have o:v.c<=0:=o;have u:s.c<=v.c:=u;exact ⟨s,I,by lia⟩
 . have e:=List.eq_nil_iff_forall_not_mem.mpr λx C=>nomatch D x C
   subst e;obtain ⟨w,r,o⟩:=b.new (bZ g.2 [] j,⟨1,some g,[]⟩) (bX.mpr ⟨g,iF.mpr ⟨l,decide_eq_true B.symm⟩,rfl⟩);exact ⟨w,r,o⟩
theorem S6{fresh:B3}(h:c∈lq old fresh j):∃x∈c,x∈fresh:=by
 obtain ⟨p,Y,h⟩:=kx.mp h;have Y:=er.mp Y;obtain ⟨i,e⟩:=pY.mp h;rw[iV Y] at i e;have Z:=e p Y;rw[yh Y Y,if_neg (fy _),if_pos rfl] at Z;refine ⟨_,?_,Z⟩;rw[ae,av (by lia)];exact fA _
noncomputable def gH(gs:A9)(fs:A6)(t:Int)(n:Nat):A6:=gs.flatMap λg=>wK fs t g n
theorem DQ{fs:A6}:∀{c:B3},x∈c->lD fs x<=kh fs c
 | a::c,h=>by
  rw[kh,bq,ja];rcases b9.mp h with rfl | h
  . lia
  . have:=DQ (fs:=fs) h;unfold kh at this;lia
theorem dX.step{n:Nat}{fs:A6}{t:Int}{w:Way}(I:dX gs n fs ws)(h:(t,w)∈ws)(P:∀q∈ws,w.c<=q.2.c) :
 dX gs n (fs++[(t,w)]) ((gH gs (fs++[(t,w)]) t n).foldl cB (ws.filter λq=>!decide (q.1=t))):=by
 obtain ⟨nd,bd,vf,vw,inp,cl,mo⟩:=I;have ndf:=(ey.mp nd).1;have D:=(ey.mp nd).2.1;have Q:=(ey.mp nd).2.2;have S:t∈aK ws:=bX.mpr ⟨_,h,rfl⟩;have htf:=λz=>Q t z t S rfl;have k1:aK (fs++[(t,w)])=aK fs++[t]:=by rw[aK,be];rfl
 have U:(aK (fs++[(t,w)])).Nodup:=by
  rw[k1];exact ey.mpr ⟨ndf,by simp,λa ha b hb e=>by rw[aw] at hb;subst hb;subst e;exact htf ha⟩
 have u:∀q,q∈ws.filter (λq=>!decide (q.1=t))↔q∈ws/\q.1≠t:=λq=>by simp
 have M:(aK (ws.filter λq=>!decide (q.1=t))).Nodup:=by
  exact List.Sublist.nodup (List.Sublist.map _ (List.filter_sublist)) D
 have O:=oH (qs:=gH gs (fs++[(t,w)]) t n) M;have cw:lD (fs++[(t,w)]) t=w.c:=by
  rw[lD,qI U (c6 _ (aw.mpr rfl))];rfl
 have j:∀q∈gH gs (fs++[(t,w)]) t n,∃g∈gs,∃c∈lq (lz (fs++[(t,w)]) t) [t] g.1,q=(bZ g.2 c n,⟨1+kh (fs++[(t,w)]) c,some g,c⟩)/\bZ g.2 c n∉aK (fs++[(t,w)]):=λq Z=>by
  obtain ⟨g,H,Z⟩:=kx.mp Z;obtain ⟨c,l,e⟩:=ma.mp Z;unfold qQ at e;split at e
  . cases e
  . rename_i hs;cases e;exact ⟨g,H,c,l,rfl,λz=>hs (oF.mpr z)⟩
 have hck:∀{g:Nat×Int}{c:B3},c∈lq (lz (fs++[(t,w)]) t) [t] g.1->∀p∈c,p∈aK (fs++[(t,w)]):=λl p hp=>by
  rcases ck.mp ((sy l).2 p hp) with z | z
  . exact (iF.mp z).1
  . rw[aw.mp z,k1];exact c6 _ (aw.mpr rfl)
 have L:∀q∈gH gs (fs++[(t,w)]) t n,VW gs n (fs++[(t,w)]) q:=λq Z=>by
  obtain ⟨g,H,c,l,rfl,_⟩:=j q Z;exact .inr ⟨g,H,rfl,(sy l).1,hck l,rfl,rfl⟩
 have C:∀q∈(gH gs (fs++[(t,w)]) t n).foldl cB (ws.filter λq=>!decide (q.1=t)),VW gs n (fs++[(t,w)]) q:=λq Z=>by
  rcases O.mem q Z with z | z
  . exact (vw q ((u q).mp z).1).app
  . exact L q z
 have mv:∀{v:Int}{s:Way}{k:Nat},(v,s)∈fs++ws->s.c<=k->∃B,(v,B)∈(fs++[(t,w)])++(gH gs (fs++[(t,w)]) t n).foldl cB (ws.filter λq=>!decide (q.1=t))/\B.c<=k:=λ{v s k} hv hk=>by
  rcases ck.mp hv with z | z
  . exact ⟨s,da _ (da _ z),hk⟩
  . by_cases e:v=t
    . subst e;have:=qI D z;rw[qI D h] at this;cases this;exact ⟨w,da _ (c6 _ (aw.mpr rfl)),hk⟩
    . obtain ⟨B,J,c2⟩:=O.old (v,s) ((u _).mpr ⟨z,e⟩);exact ⟨B,c6 _ J,cS c2 hk⟩
 refine ⟨?_,λx Y=>?_,λi q e=>?_,C,λx Y=>?_,λg H c hl l=>?_,λq Z r hr=>?_⟩
 . refine ey.mpr ⟨U,O.nd,λa ha b hb e=>?_⟩;subst e;obtain ⟨q,Z,rfl⟩:=bX.mp hb;rcases O.mem q Z with z | z
   . obtain ⟨z1,z2⟩:=(u q).mp z;rw[k1] at ha;rcases ck.mp ha with y | y
     . exact Q _ y _ (bX.mpr ⟨q,z1,rfl⟩) rfl
     . exact z2 (aw.mp y)
   . obtain ⟨g,_,c,_,rfl,hn⟩:=j q z;exact hn ha
 . rcases ck.mp Y with z | z
   . rw[k1] at z;rcases ck.mp z with y | y
     . exact bd x (da _ y)
     . rw[aw.mp y];exact bd t (c6 _ S)
   . obtain ⟨q,Z,rfl⟩:=bX.mp z;exact (C q Z).bd
 . rcases fx i fs.length with hi | hi
   . rw[cE hi] at e;rw[nL (gp hi)];exact vf i q e
   . have R:=(a0.mp e).1;rw[ai] at R;have hie:i=fs.length:=by
      have:i<fs.length+1:=R;lia
     subst hie;rw[bE (ay _),ka] at e;have e:=Option.some.inj e;subst e;rw[nL (ay _),d4];exact vw _ h
 . obtain ⟨s,h1,J⟩:=inp x Y;obtain ⟨B,h3,h4⟩:=mv (k:=0) h1 (by lia);exact ⟨B,h3,by lia⟩
 . by_cases o:∀p∈c,p∈aK fs
   . obtain ⟨s,h1,J⟩:=cl g H c hl o;rw[G5 o];exact mv h1 J
   . have Y:∃x∈c,x∉aK fs:=f6 λz=>o λx Y=>f6 λz'=>z ⟨x,Y,z'⟩;obtain ⟨x,Y,hxn⟩:=Y;have E:x=t:=by
      have:=l x Y;rw[k1] at this;rcases ck.mp this with y | y
      . exact absurd y hxn
      . exact aw.mp y
     subst E;have hct:w.c<=kh (fs++[(x,w)]) c:=by rw[<- cw];exact DQ Y
     have hno:x∉lz (fs++[(x,w)]) x:=λz=>by
      have:=(iF.mp z).2;simp at this
     have hcf:=OJ hl (λp hp=>by
      by_cases e:p=x
      . exact c6 _ (aw.mpr e)
      . exact da _ (iF.mpr ⟨l p hp,by simp[e]⟩)) ⟨x,Y,hno⟩
     by_cases hv:(lk (bZ g.2 c n) (fs++[(x,w)])).isSome=true
     . obtain ⟨s,hw'⟩:=h8.mp hv;have hm:=CV hw';refine ⟨s,da _ hm,?_⟩;rcases ck.mp hm with z | z
       . have:=mo _ z _ h;have:s.c<=w.c:=this;lia
       . have:=aw.mp z;cases this;lia
     . obtain ⟨B,J,c2⟩:=O.new (bZ g.2 c n,⟨1+kh (fs++[(x,w)]) c,some g,c⟩) (kx.mpr ⟨g,H,ma.mpr ⟨c,hcf,by rw[qQ,if_neg hv]⟩⟩);exact ⟨B,c6 _ J,c2⟩
 . have hq':q.2.c<=w.c:=by
    rcases ck.mp Z with z | z
    . exact mo q z _ h
    . rw[aw.mp z];exact ay _
   rcases O.mem r hr with z | z
   . exact cS hq' (P r ((u r).mp z).1)
   . obtain ⟨g,_,c,l,rfl,_⟩:=j r z;obtain ⟨x,Y,E⟩:=S6 l;rw[aw.mp E] at Y;have:=DQ (fs:=fs++[(t,w)]) Y;rw[cw] at this;show q.2.c<=1+kh (fs++[(t,w)]) c;lia
theorem DX:∀{ws:A6}{t:Int}{c:Int},∃t',jJ (.int t) c (Ap ws)= .ok (.int t')
 | [],t,c=>⟨t,rfl⟩
 | (k,w)::r,t,c=>by
  show ∃t',(if ((w.c:Nat):Int)<c then jJ (.int k) (w.c:Nat) (Ap r) else jJ (.int t) c (Ap r))= .ok (.int t')
  by_cases h:(w.c:Int)<c
  . rw[if_pos h];exact DX
  . rw[if_neg h];exact DX
theorem aem(h:ws≠[]):∃t w,j6 (Ap ws)= .ok (.int t)/\(t,w)∈ws/\∀q∈ws,w.c<=q.2.c:=by
 cases ws with
 | nil=>exact absurd rfl h
 | cons q r=>
  obtain ⟨k,w⟩:=q;obtain ⟨t,o⟩:∃e,j6 (Ap ((k,w)::r))= .ok (.int e):=by
   exact DX
  obtain ⟨_,l,q,c,j,Y,C,u⟩:=Dv o;unfold Ap at j;rw[ba] at j;obtain ⟨⟨e,p⟩,B,Z⟩:=lS.mp j;subst Z;cases C;have Y:some ((p.c:Nat):Int)=some c:=Y;cases Y;refine ⟨e,p,o,d6 B,λq v=>?_⟩;obtain ⟨s,i,Z⟩:=eK.mp v;have z:(Ap ((k,w)::r))[s]?=some (ab.int q.1,wD q.2):=by
   rw[Ap,ba,av i,Z];rfl
  have:=(u s _ (q.2.c:Int) z rfl).1;lia
theorem Tg{t:Int}:∀{ws:A6},pF (.inl t) (Ap ws)=Ap (ws.filter λq=>!decide (q.1=t))
 | []=>rfl
 | (k,w)::r=>by
  have Y:=Tg (t:=t) (ws:=r);unfold pF at Y;unfold pF;show ((ab.int k,wD w)::Ap r).filter _=_
  by_cases e:k=t
  . subst e;rw[iq (by simp[bJ]),iq (by simp)];exact Y
  . rw[kr (by simp[bJ,e]),kr (by simp[e]),Y];rfl
theorem Y5{qs:A6}(e:j<=4)(h:(aK ws).Nodup)(i:∀q∈ws,0<=q.1/\q.1<2^2^j)(l:∀q∈qs,0<=q.1/\q.1<2^2^j):(qs.foldl cB ws).length<=65536:=by
 have O:=oH (qs:=qs) h;have o:2^2^j<=2^2^4:=ew (by decide) (ew (by decide) e);have:=ph O.nd λx Y=>by
  rw[show ((2^2^j:Nat):Int)=2^2^j by simp];obtain ⟨q,Z,rfl⟩:=bX.mp Y;rcases O.mem q Z with z | z
  . exact i q z
  . exact l q z
 unfold aK at this;rw[ag] at this;lia
noncomputable def wCn:ME:=ao gtD (eFn ud [(aj 3)]) (eC (.int 0))
noncomputable def wRf:MS:=sEx (aF fK [(eFn ud [(aj 2)]),(aj 0)])
noncomputable def wFr:MS:=cH (itL (aj 0)) (gN 5) [5,6,7] (cH (itL (aF j0 [(aj 2),(aj 4),(aj 5),(aj 1)])) (gT [(gN 6),(gN 7)]) [6,7] (yE 3 mY [(aj 3),(aj 6),(aj 7)]))
noncomputable def wBd:MS:=aG (aU 4 (BL 3)) (aG (uU 2 3 4) (aG wRf wFr))
noncomputable def wG(gs:A9)(n:Nat)(fs ws:A6):Ev:=[some (.list (gs.map A0)),some (.int (n:Nat)),some (.dict (Ap fs)),some (.dict (Ap ws)),none,none,none,none]
noncomputable def wG2(gs:A9)(n:Nat)(fs ws:A6)(t:Int):Ev:=[some (.list (gs.map A0)),some (.int (n:Nat)),some (.dict (Ap fs)),some (.dict (Ap ws)),some (.int t),none,none,none]
section
variable  {n:Nat}{fs:A6}
theorem aa0(Y:ws≠[]):wCn (wG gs n fs ws)= .ok (.bool true):=by
 unfold wCn wG;ext;rw[show ud [.dict (Ap ws)]= .ok (.int ((Ap ws).length:Nat)) from rfl,zQ];ext;rw[decide_eq_true (show (0:Int)<((ws.length:Nat):Int) by have:=List.length_pos_iff.mpr Y;lia)]
theorem abO:wCn (wG gs n fs [])= .ok (.bool false):=by
 unfold wCn wG;ext;rfl
theorem Ij:evs [(eFn ud [(aj 2)]),(aj 0)] (wG2 gs n fs ws x)= .ok [.int (fs.length:Nat),.list (gs.map A0)]:=by
 unfold wG2;ext;rw[show ud [.dict (Ap fs)]= .ok (.int ((Ap fs).length:Nat)) from rfl,zQ];ext
theorem abH{w:Way}(i:j6 (Ap ws)= .ok (.int x))(I:dX gs n fs ws)(h:(x,w)∈ws)(e:fs.length<=100000):∃Γ,aU 4 (BL 3) (wG gs n fs ws)= .ok (.nx Γ)/\uU 2 3 4 Γ = .ok (.nx (wG2 gs n (fs++[(x,w)]) (ws.filter λq=>!decide (q.1=x)) x)):=by
 have Y:=(ey.mp I.nd).2.1;have Z:=λz=>(ey.mp I.nd).2.2 x z x (bX.mpr ⟨_,h,rfl⟩) rfl;refine ⟨[some (.list (gs.map A0)),some (.int n),some (.dict (Ap fs)),some (.dict (Ap ws)),some (.int x),none,none,none],?_,?_⟩
 . rw[wB];show zi.bind (j6 (Ap ws)) _=_;rw[i];rfl
 . show (match cD (.inl x) (Ap ws) with
    | some d=>gd ((Ap fs).length<bt/\2<8/\3<8) (zi.ok (Out.nx [some (.list (gs.map A0)),some (.int n),some (.dict (gO (.int x) (.inl x) d (Ap fs))),some (.dict (pF (.inl x) (Ap ws))),some (.int x),none,none,none]))
    | none=>.bad)=_
   rw[Jl,qI Y h];show gd ((Ap fs).length<bt/\2<8/\3<8) _=_;rw[bj ⟨by rw[zQ];exact Au e,by decide,by decide⟩,Yh,Tg];rw[iw,uF.mpr Z];rfl
theorem acy(h:iT fs.length gs)(Z:gs.length<=8)(Y:∀g∈gs,g.1<=4):wRf (wG2 gs n fs ws x)= .bad:=by
 unfold wRf sEx;rw[mV,Ij,zi.bf,K9 h (by lia) Y];rfl
theorem abJ(h:¬ iT fs.length gs)(i:gs.length<=8)(Y:∀g∈gs,g.1<=4):wRf (wG2 gs n fs ws x)= .ok (.nx (wG2 gs n fs ws x)):=by
 have Z:=kn λz=>h (.inl z);have e:=kn λz=>h (.inr z);refine acq (d:=.none) ?_;rw[mV,Ij,zi.bf,Mq Z (by lia) Y e]
theorem ace(v:n<=4)(P:gs.length<=8)(J:∀g∈gs,g.1<=4)(h:¬ iT fs.length gs)(H:(lz fs b).length+1<=fs.length)(B:b∈aK fs)(hd:(aK ws).Nodup)(I:∀q∈ws,0<=q.1/\q.1<2^2^n) :
 wFr (wG2 gs n fs ws b)= .ok (.nx (wG2 gs n fs ((gH gs fs b n).foldl cB ws) b)):=by
 have E:=kn λz=>h (.inl z);have M:=kn λz=>h (.inr z);have o:∀g:Nat×Int,∀q∈wK fs b g n,0<=q.1/\q.1<2^2^n:=λg q o=>by
  obtain ⟨c,_,e⟩:=ma.mp o;unfold qQ at e;split at e
  . cases e
  . cases e;exact Nh
 have r:∀gs:A9,∀q∈gH gs fs b n,0<=q.1/\q.1<2^2^n:=λgs q Y=>by
  obtain ⟨g,_,h⟩:=kx.mp Y;exact o g q h
 unfold wFr wG2;ext;have step:∀(i:Nat) (x:ab),(gs.map A0)[i]?=some x->((gN 5 x (wG2 gs n fs ((gH (gs.take i) fs b n).foldl cB ws) b)).bind (cH (itL (aF j0 [(aj 2),(aj 4),(aj 5),(aj 1)])) (gT [(gN 6),(gN 7)]) [6,7] (yE 3 mY [(aj 3),(aj 6),(aj 7)]))).bind (jL [5,6,7])= .ok (.nx (wG2 gs n fs ((gH (gs.take (i+1)) fs b n).foldl cB ws) b)):=λi x p=>by
  obtain ⟨g,u,rfl⟩:=cU p;have l:=d6 u;unfold wG2;ext;rw[Lx E (J g l) v H (cS (Wc l) M) B];ext;have O:=oH (qs:=gH (gs.take i) fs b n) hd;have Z:∀q∈(gH (gs.take i) fs b n).foldl cB ws,0<=q.1/\q.1<2^2^n:=λq Y=>by
   rcases O.mem q Y with z | z
   . exact I q z
   . exact r _ q z
  have L:gH (gs.take (i+1)) fs b n=gH (gs.take i) fs b n++wK fs b g n:=by
   unfold gH;rw[take_snoc u,oS];simp
  rw[L,fg];have s:=O.nd;generalize (gH (gs.take i) fs b n).foldl cB ws=ws1 at Z s ⊢;refine bI (λj=>[some (.list (gs.map A0)),some (.int n),some (.dict (Ap fs)),some (.dict (Ap (((wK fs b g n).take j).foldl cB ws1))),some (.int b),some (dG g.1 g.2),none,none]) rfl (λj x p=>?_) ?_
  . obtain ⟨q,C,rfl⟩:=cU p;have D:=Y5 (qs:=(wK fs b g n).take j) v s Z (λq Y=>o g q (oP Y));rw[take_snoc C,fg];generalize ((wK fs b g n).take j).foldl cB ws1=ws2 at D ⊢;show zi.bind (zi.bind (zi.ok ([some (.list (gs.map A0)),some (.int (n:Nat)),some (.dict (Ap fs)),some (.dict (Ap ws2)),some (.int b),some (dG g.1 g.2),some (.int q.1),some (wD q.2)]:Ev)) _) _=_;rw[zi.bf,Bp rfl (by lia)];rfl
  . rw[ag,d4];rfl
 have e:=Od (λi=>wG2 gs n fs ((gH (gs.take i) fs b n).foldl cB ws) b) rfl step;rwa [ag,d4] at e
theorem aah{w:Way}:(lz (ws++[(x,w)]) x).length+1<=(ws++[(x,w)]).length:=by
 unfold lz aK;rw[be,List.filter_append,ai,ai];have Y:=mx (λk=>!decide (k=x)) (ws.map (·.1));rw[ag] at Y;have Z:(([(x,w)]:A6).map (·.1)).filter (λk=>!decide (k=x))=[]:=by simp
 rw[Z];simp only[jS,cK];lia
theorem dX.len(I:dX gs n fs ws)(Z:n<=4):fs.length+ws.length<=65536:=by
 have e:2^2^n<=2^2^4:=ew (by decide) (ew (by decide) Z);have:=ph I.nd λx Y=>by
  rw[show ((2^2^n:Nat):Int)=2^2^n by simp];exact I.bd x Y
 unfold aK at this;rw[ai,ag,ag] at this;lia
theorem ac2{w:Way}(I:dX gs n fs ws)(l:n<=4)(i:gs.length<=8)(o:∀g∈gs,g.1<=4)(v:j6 (Ap ws)= .ok (.int x))(h:(x,w)∈ws)(p:¬ iT (fs.length+1) gs) :
 ∃Z,wBd (wG gs n fs ws)= .ok (.nx Z)/\clr [4,5,6,7] Z=wG gs n (fs++[(x,w)]) ((gH gs (fs++[(x,w)]) x n).foldl cB (ws.filter λq=>!decide (q.1=x))):=by
 have j:=I.len l;obtain ⟨z,u,s⟩:=abH v I h (by lia);have Y:¬ iT (fs++[(x,w)]).length gs:=by rw[ai];exact p
 have e:=(ey.mp I.nd).2.1;refine ⟨wG2 gs n (fs++[(x,w)]) ((gH gs (fs++[(x,w)]) x n).foldl cB (ws.filter λq=>!decide (q.1=x))) x,?_,rfl⟩;rw[wBd,gf,u,zi.bf,lJ,gf,s,zi.bf,lJ,gf,abJ Y i o,zi.bf,lJ];refine ace l i o Y aah ?_ ?_ ?_
 . rw[aK,be];exact c6 _ (aw.mpr rfl)
 . exact List.Sublist.nodup (List.Sublist.map _ (List.filter_sublist)) e
 . exact λq r=>(I.vw q (iF.mp r).1).bd
theorem adv{w:Way}(I:dX gs n fs ws)(l:n<=4)(i:gs.length<=8)(q:∀g∈gs,g.1<=4)(p:j6 (Ap ws)= .ok (.int x))(h:(x,w)∈ws)(e:iT (fs.length+1) gs):wBd (wG gs n fs ws)= .bad:=by
 have Z:=I.len l;obtain ⟨r,o,j⟩:=abH p I h (by lia);have Y:iT (fs++[(x,w)]).length gs:=by rw[ai];exact e
 rw[wBd,gf,o,zi.bf,lJ,gf,j,zi.bf,lJ,gf,acy Y i q];rfl
theorem Uh(J:A6->A6->Prop)(H:∀fs ws t w,J fs ws->dX gs n fs ws->j6 (Ap ws)= .ok (.int t)->(t,w)∈ws->J (fs++[(t,w)]) ((gH gs (fs++[(t,w)]) t n).foldl cB (ws.filter λq=>!decide (q.1=t))))(o:n<=4)(s:gs.length<=8)(u:∀g∈gs,g.1<=4):∀(m k:Nat) (fs ws:A6),J fs ws->dX gs n fs ws->(fs=[]\/¬ iT fs.length gs)->k+fs.length=65536->k<m ->
 (∃L,whR wCn [4,5,6,7] wBd m (wG gs n fs ws)= .ok (.nx (wG gs n L []))/\dX gs n L []/\J L []/\(L=[]\/¬ iT L.length gs)) \/
 (whR wCn [4,5,6,7] wBd m (wG gs n fs ws)= .bad/\(∀(Y:MZ) (T:Str),(∀fs ws t w,dX gs n fs ws->j6 (Ap ws)= .ok (.int t)->(t,w)∈ws->iT (fs.length+1) gs->Y (wG gs n fs ws)= .ok T)->uh wCn [4,5,6,7] wBd Y m (wG gs n fs ws)= .ok T)/\∃fs ws,dX gs n fs ws/\iT fs.length gs)
 | 0,k,fs,ws,_,_,_,_,h=>absurd h (ll _)
 | m+1,k,fs,ws,j,I,S,U,Q=>by
  by_cases r:ws=[]
  . subst r;left;refine ⟨fs,?_,I,j,S⟩;rw[whR,abO];rfl
  . have p:=aa0 (gs:=gs) (n:=n) (fs:=fs) r;have M:=List.length_pos_iff.mpr r;have C:=I.len o;obtain ⟨t,w,e,h,l⟩:=aem r;have z:=I.step h l;have E:=H fs ws t w j I e h
    by_cases Z:iT (fs.length+1) gs
    . right;have B:=adv I o s u e h Z;refine ⟨?_,λY T O=>?_,_,_,z,by rw[ai];exact Z⟩
      . rw[whR,p,zi.bf,B];rfl
      . rw[uh,p,zi.bf];show (match wBd (wG gs n fs ws) with
         | .ok (.nx Γ2)=>uh wCn [4,5,6,7] wBd Y m (clr [4,5,6,7] Γ2)
         | _=>Y (wG gs n fs ws))=_
        rw[B];exact O fs ws t w I e h Z
    . obtain ⟨i,D,v⟩:=ac2 I o s u e h Z;generalize (gH gs (fs++[(t,w)]) t n).foldl cB (ws.filter λq=>!decide (q.1=t))=ws' at z E v;have R:whR wCn [4,5,6,7] wBd (m+1) (wG gs n fs ws)=whR wCn [4,5,6,7] wBd m (wG gs n (fs++[(t,w)]) ws'):=by
       rw[whR,p,zi.bf,D,zi.bf];show whR wCn [4,5,6,7] wBd m (clr [4,5,6,7] i)=_;rw[v]
      have P:∀Y:MZ,uh wCn [4,5,6,7] wBd Y (m+1) (wG gs n fs ws)=uh wCn [4,5,6,7] wBd Y m (wG gs n (fs++[(t,w)]) ws'):=λY=>by
       rw[uh,p,zi.bf];show (match wBd (wG gs n fs ws) with
        | .ok (.nx Γ2)=>uh wCn [4,5,6,7] wBd Y m (clr [4,5,6,7] Γ2)
        | _=>Y (wG gs n fs ws))=_
       rw[D];show uh wCn [4,5,6,7] wBd Y m (clr [4,5,6,7] i)=_;rw[v]
      rw[R];simp only[P];exact Uh J H o s u m (k - 1) (fs++[(t,w)]) ws' E z (.inr (by rw[ai];exact Z)) (by rw[ai];show k - 1+(fs.length+1)=_;lia) (by lia)
theorem O5(J:A6->A6->Prop)(o:∀fs ws t w,J fs ws->dX gs n fs ws->j6 (Ap ws)= .ok (.int t)->(t,w)∈ws->J (fs++[(t,w)]) ((gH gs (fs++[(t,w)]) t n).foldl cB (ws.filter λq=>!decide (q.1=t))))(h0:J [] (nA gs n))(l:n<=4)(p:gs.length<=8)(r:∀g∈gs,g.1<=4) :
 (∃L,nY [.list (gs.map A0),.int (n:Nat)]= .ok (.dict (Ap L))/\dX gs n L []/\J L []/\(L=[]\/¬ iT L.length gs)) \/
 (nY [.list (gs.map A0),.int (n:Nat)]= .bad/\mZ 1000000 wCn [4,5,6,7] wBd (wG gs n [] (nA gs n))= .bad/\(∀(i:MZ) (T:Str),(∀fs ws t w,dX gs n fs ws->j6 (Ap ws)= .ok (.int t)->(t,w)∈ws->iT (fs.length+1) gs->i (wG gs n fs ws)= .ok T)->adf 1000000 wCn [4,5,6,7] wBd i (wG gs n [] (nA gs n))= .ok T)/\∃fs ws,dX gs n fs ws/\iT fs.length gs):=by
 have j:nY [.list (gs.map A0),.int (n:Nat)]=zi.bind (aG (mZ 1000000 wCn [4,5,6,7] wBd) (bA (aj 2)) (wG gs n [] (nA gs n))) fin:=by
  unfold nY;show zi.bind (aG (aU 2 (mG [])) _ [some (.list (gs.map A0)),some (.int (n:Nat)),none,none,none,none,none,none]) fin=_;rw[gf,show aU 2 (mG []) [some (.list (gs.map A0)),some (.int (n:Nat)),none,none,none,none,none,none]= .ok (.nx [some (.list (gs.map A0)),some (.int (n:Nat)),some (.dict (Ap [])),none,none,none,none,none]) from rfl,zi.bf,lJ,gf,show aU 3 (aF kE [(aj 0),(aj 1)]) [some (.list (gs.map A0)),some (.int n),some (.dict (Ap [])),none,none,none,none,none]= .ok (.nx (wG gs n [] (nA gs n))) by
   rw[wB,mV,show evs [(aj 0),(aj 1)] [some (.list (gs.map A0)),some (.int (n:Nat)),some (.dict (Ap [])),none,none,none,none,none]= .ok [.list (gs.map A0),.int (n:Nat)] from rfl,zi.bf,Ko l (by lia)];rfl,zi.bf,lJ]
  rfl
 rcases Uh J o l p r 1000000 65536 [] (nA gs n) h0 Us (.inl rfl) rfl (by decide) with ⟨L,Y,e,Z⟩ | ⟨Y,e,Z⟩
 . left;have Y:mZ 1000000 wCn [4,5,6,7] wBd (wG gs n [] (nA gs n))=_:=Y;refine ⟨L,?_,e,Z⟩;rw[j,gf,Y,zi.bf,lJ];rfl
 . right;have Y:mZ 1000000 wCn [4,5,6,7] wBd (wG gs n [] (nA gs n))= .bad:=Y;refine ⟨?_,Y,e,Z⟩;rw[j,gf,Y];rfl
end
structure Yn (gs:A9) (n:Nat) (ts:B3) (f:Int->Nat):Prop where
 nd:ts.Nodup
 so:ts.Pairwise (· <= ·)
 bd:∀t∈ts,0<=t/\t<2^2^n
 inp:∀t∈cj n,t∈ts
 zer:∀t∈ts,(f t=0↔t∈cj n)
 cl:∀g∈gs,∀c:B3,c.length=g.1->(∀p∈c,p∈ts)->bZ g.2 c n∈ts/\f (bZ g.2 c n)<=1+(c.map f).sum
 ju:∀t∈ts,0<f t->∃g∈gs,∃c:B3,c.length=g.1/\(∀p∈c,p∈ts)/\bZ g.2 c n=t/\f t=1+(c.map f).sum
variable {L:A6}
theorem vI{w:Way}(h:(aK L).Nodup)(Y:(x,w)∈L):lD L x=w.c:=by
 rw[lD,qI h Y];rfl
theorem dX.whole(I:dX gs j L []):Yn gs j (srt (aK L)) (lD L):=by
 obtain ⟨nd,bd,vf,vw,inp,cl,mo⟩:=I;rw[show aK L++aK []=aK L from c8 _] at nd bd;rw[c8] at inp cl;have u:∀{t w},(t,w)∈L->t∈srt (aK L):=λh=>fM.mpr (bX.mpr ⟨_,h,rfl⟩);have r:∀t∈aK L,∃w,(t,w)∈L/\VW gs j L (t,w):=λt l=>by
  obtain ⟨⟨D,w⟩,s,rfl⟩:=bX.mp l;obtain ⟨i,E,e⟩:=eK.mp s;have Y:=vf i (D,w) (by rw[av E,e]);have Z:=Y.app (hs:=L.drop i);rw[mE] at Z;exact ⟨w,s,Z⟩
 refine ⟨(g8 _).nodup_iff.mpr nd,qO _,λt l=>bd t (fM.mp l),λt l=>?_,λt l=>?_,λg C c H v=>?_,λt l o=>?_⟩
 . obtain ⟨w,Y,_⟩:=inp t l;exact u Y
 . constructor
   . intro o;obtain ⟨w,Y,Z⟩:=r t (fM.mp l);rw[vI nd Y] at o;rcases Z with ⟨_,h⟩ | ⟨g,_,_,_,_,_,h⟩
     . exact h
     . have h:w.c=_:=h;lia
   . intro h;obtain ⟨w,Y,Z⟩:=inp t h;rw[vI nd Y];exact Z
 . obtain ⟨w,Y,Z⟩:=cl g C c H λp q=>fM.mp (v p q);refine ⟨u Y,?_⟩;rw[vI nd Y];exact Z
 . obtain ⟨w,Y,Z⟩:=r t (fM.mp l);have e:=vI nd Y;rcases Z with ⟨h,_⟩ | ⟨g,k1,k2,z,J,B,M⟩
   . have h:w=fQ:=h;rw[e,h] at o;exact absurd o (fy 0)
   . refine ⟨g,k1,w.ts,z,λp q=>fM.mpr (J p q),B,?_⟩;rw[e];exact M
noncomputable def kvC(ts:B3)(f:Int->Nat):B0:=ts.map λt=>(ab.int t,ab.int (f t:Nat))
theorem RW{f:Int->Nat}:∀{ts:B3},cD (.inl x) (kvC ts f)=if x∈ts then some (.int (f x:Nat)) else none
 | []=>rfl
 | k::ts=>by
  show (if bJ (.int k)=some (.inl x) then some (ab.int (f k:Nat)) else cD (.inl x) (kvC ts f))=_
  by_cases h:k=x
  . subst h;rw[if_pos (show bJ (.int k)=some (.inl k) from rfl),if_pos br]
  . rw[if_neg (show ¬ bJ (.int k)=some (.inl x) from λz=>h (lI.inj (Option.some.inj z))),RW];simp only[b9,show ¬ x=k from λz=>h z.symm,false_or]
theorem Yv{f:Int->Nat}(h:x∈ts):ixY (.dict (kvC ts f)) (.int x)= .ok (.int (f x:Nat)):=by
 show (match cD (.inl x) (kvC ts f) with
  | some d=>zi.ok d
  | none=>.bad)=_
 rw[RW,if_pos h]
theorem YD{f:Int->Nat}:∀{ts:B3},oM (.inl x) (kvC ts f)=decide (x∈ts)
 | []=>rfl
 | k::ts=>by
  show (if bJ (.int k)=some (.inl x) then true else oM (.inl x) (kvC ts f))=_
  by_cases h:k=x
  . subst h;rw[if_pos (show bJ (.int k)=some (.inl k) from rfl)];simp
  . rw[if_neg (show ¬ bJ (.int k)=some (.inl x) from λz=>h (lI.inj (Option.some.inj z))),YD];simp only[b9,show ¬ x=k from λz=>h z.symm,false_or]
theorem aeg{f:Int->Nat}(h:x∉ts):gO (.int x) (.inl x) (.int (f x:Nat)) (kvC ts f)=kvC (ts++[x]) f:=by
 rw[gO,YD,decide_eq_false h];unfold kvC;rw[be];rfl
theorem adZ{f:Int->Nat}(o:m2 Γ = .ok (.int (f x:Nat)))(Y:m1 Γ = .ok (.int x))(Z:gv Γ i=some (.dict (kvC ts f)))(l:x∉ts)(j:ts.length<=100000)(e:i < Γ.length):je i m1 m2 Γ = .ok (.nx (Γ.set i (some (.dict (kvC (ts++[x]) f))))):=by
 rw[je,o,zi.bf,Y,zi.bf,Z];show gd ((kvC ts f).length<bt/\i < Γ.length) (zi.ok (Out.nx (Γ.set i (some (.dict (gO (.int x) (.inl x) (.int (f x:Nat)) (kvC ts f)))))))=_;rw[bj ⟨by rw[kvC,ag];exact Au j,e⟩,aeg l]
theorem JS{n:Nat}(J:A6->A6->Prop)(o:∀fs ws t w,J fs ws->dX gs n fs ws->j6 (Ap ws)= .ok (.int t)->(t,w)∈ws->J (fs++[(t,w)]) ((gH gs (fs++[(t,w)]) t n).foldl cB (ws.filter λq=>!decide (q.1=t))))(h0:J [] (nA gs n))(r:n<=2)(p:gs.length<=8)(s:∀g∈gs,g.1<=4)(u:jj (2^2^n) gs<=20000):∃L,nY [.list (gs.map A0),.int (n:Nat)]= .ok (.dict (Ap L))/\dX gs n L []/\J L []/\L.length<=16:=by
 have Z:2^2^n<=2^2^2:=ew (by decide) (ew (by decide) r);have len:∀{fs ws:A6},dX gs n fs ws->fs.length<=2^2^n:=λ{fs ws} I=>by
  have:=ph (ey.mp I.nd).1 λx i=>by
   rw[show ((2^2^n:Nat):Int)=2^2^n by simp];exact I.bd x (da _ i)
  unfold aK at this;rwa [ag] at this
 rcases O5 J o h0 (by lia) p s with ⟨L,l,Y,j,_⟩ | ⟨_,_,_,fs,ws,Y,h3⟩
 . exact ⟨L,l,Y,j,cS (len Y) Z⟩
 . have e:=len Y;rcases h3 with h3 | h3
   . lia
   . have:=SQ e gs;lia
noncomputable def inW(ts:B3):A6:=ts.map λt=>(t,fQ)
structure pJ (n:Nat) (fs ws:A6):Prop where
 few:fs.length<n->fs=inW ((cj n).take fs.length)/\∃rest,ws=inW ((cj n).drop fs.length)++rest/\∀q∈rest,1<=q.2.c
 all:n<=fs.length->fs.take n=inW (cj n)
theorem Q6:∀{ts:B3},x∈ts->lk x (inW ts)=some fQ
 | k::ts,h=>by
  show (if k=x then some fQ else lk x (inW ts))=_
  by_cases e:k=x
  . rw[if_pos e]
  . rw[if_neg e];exact Q6 ((b9.mp h).resolve_left λz=>e z.symm)
theorem vQ:aK (inW ts)=ts:=by unfold aK inW;rw[c9];exact List.map_id' ts
theorem Eh:∀{a b:A6},x∉aK a->lk x (a++b)=lk x b
 | [],b,_=>rfl
 | (k,w)::a,b,h=>by
  show (if k=x then some w else lk x (a++b))=_;rw[if_neg (λz=>h (by rw[<- z];exact br)),Eh λz=>h (cc _ z)]
variable {rest:A6}
theorem abh(e:∀r∈rest,1<=r.2.c)(l:1<=q.2.c):∃Y,cB (inW ts++rest) q=inW ts++Y/\∀r∈Y,1<=r.2.c:=by
 by_cases j:q.1∈ts
 . refine ⟨rest,?_,e⟩;rw[cB,UJ (by rw[vQ];exact j),Q6 j];show (if q.2.c<fQ.c then iw q.1 q.2 (inW ts++rest) else inW ts++rest)=_;rw[if_neg (show ¬ q.2.c<fQ.c from ll _)]
 . have Z:q.1∉aK (inW ts):=by rw[vQ];exact j
   have i:∃Y,iw q.1 q.2 (inW ts++rest)=inW ts++Y/\∀r∈Y,1<=r.2.c:=by
    rw[iw,Eh Z];split
    . refine ⟨xT q.1 q.2 rest,?_,λr h=>?_⟩
      . rw[xT,be];congr 1;refine (cp λr h=>?_).trans (sk _);rw[if_neg (λz=>Z (bX.mpr ⟨r,h,z⟩))];rfl
      . obtain ⟨p,i,rfl⟩:=bX.mp h;split
        . exact l
        . exact e p i
    . refine ⟨rest++[(q.1,q.2)],by rw[dy],λr h=>?_⟩;rcases ck.mp h with z | z
      . exact e r z
      . rw[aw.mp z];exact l
   rw[cB,Eh Z];split
   . exact i
   . split
     . exact i
     . exact ⟨rest,rfl,e⟩
theorem Fq:∀{qs rest:A6},(∀r∈rest,1<=r.2.c)->(∀q∈qs,1<=q.2.c)->∃Y,qs.foldl cB (inW ts++rest)=inW ts++Y/\∀r∈Y,1<=r.2.c
 | [],rest,Z,_=>⟨rest,rfl,Z⟩
 | q::qs,rest,Z,e=>by
  obtain ⟨o,l,j⟩:=abh Z (e q br);rw[jI,l];exact Fq j λp i=>e p (cc _ i)
theorem J2:∀{ts us:B3},(us++ts).Nodup->(ts.map λt=>(t,fQ)).foldl cB (inW us)=inW (us++ts)
 | [],us,_=>by rw[c8];rfl
 | t::ts,us,h=>by
  have Z:=λz=>(ey.mp h).2.2 t z t br rfl;have Y:t∉aK (inW us):=by rw[vQ];exact Z
  rw[bq,jI,show cB (inW us) (t,fQ)=inW (us++[t]) by
   rw[cB,uF.mpr Y];rw[iw,uF.mpr Y];unfold inW;rw[be];rfl,J2 (by rw[dy];exact h),dy]
  rfl
theorem Ad(i:(cj j).Nodup):pJ j [] (nA gs j):=by
 have e:wz j=inW (cj j):=by
  show ((cj j).map λt=>(t,fQ)).foldl cB (inW [])=_;rw[J2 (by rw[eL];exact i),eL]
 obtain ⟨rest,Y,l⟩:=Fq (qs:=qu gs j) (rest:=[]) (λr h=>nomatch h) λq Z=>by
  obtain ⟨g,_,rfl⟩:=bX.mp Z;exact ay _
 rw[c8] at Y;refine ⟨λ_=>⟨rfl,rest,?_,l⟩,λh=>?_⟩
 . show (qu gs j).foldl cB (wz j)=_;rw[e,Y];rfl
 . have h:=Nat.le_zero.mp h;subst h;rfl
theorem kI{n:Nat}:(cj n).length=n:=by rw[cj,ag,cq]
theorem Zw(h:x∉ts)(Y:x∉aK rest):(inW (x::ts)++rest).filter (λq=>!decide (q.1=x))=inW ts++rest:=by
 show ((x,fQ)::(inW ts++rest)).filter _=_;rw[iq (by simp)];refine List.filter_eq_self.mpr λq Z=>?_;rcases ck.mp Z with z | z
 . obtain ⟨u,i,rfl⟩:=bX.mp z;simp only[v3,decide_eq_false_iff_not];exact λz=>h (z ▸ i)
 . simp only[v3,decide_eq_false_iff_not];exact λe=>Y (bX.mpr ⟨q,z,e⟩)
theorem Dm{k:ab}:∀{r:A6},jJ k 0 (Ap r)= .ok k
 | []=>rfl
 | (u,w)::r=>by
  show (if ((w.c:Nat):Int)<0 then jJ (.int u) (w.c:Nat) (Ap r) else jJ k 0 (Ap r))=_;rw[if_neg (by lia)];exact Dm
theorem pJ.step{w:Way}(F:pJ j L ws)(I:dX gs j L ws)(r:j6 (Ap ws)= .ok (.int x))(h:(x,w)∈ws)(hn:(cj j).Nodup) :
 pJ j (L++[(x,w)]) ((gH gs (L++[(x,w)]) x j).foldl cB (ws.filter λq=>!decide (q.1=x))):=by
 have v:(L++[(x,w)]).length=L.length+1:=by rw[ai];rfl
 by_cases Y:L.length<j
 . obtain ⟨U,rest,C,R⟩:=F.few Y;obtain ⟨b,D⟩:∃b,(cj j)[L.length]?=some b:=⟨_,av (by rw[kI];exact Y)⟩;have P:(cj j).drop L.length=b::(cj j).drop (L.length+1):=by
    rw[mM (by rw[kI];exact Y)];rw[av (by rw[kI];exact Y)] at D;rw[Option.some.inj D]
   rw[P] at C;have Z:=(ey.mp I.nd).2.1;have o:ws=(b,fQ)::(inW ((cj j).drop (L.length+1))++rest):=C;have E:=by
    rw[o] at r;have r:jJ (.int b) 0 (Ap (inW ((cj j).drop (L.length+1))++rest))= .ok (.int x):=r;rw[Dm] at r;exact (ab.int.inj (zi.ok.inj r)).symm
   subst E;have O:=by
    have p:=qI Z h;have u:=qI Z (show (x,fQ)∈ws by rw[o];exact br);rw[p] at u;exact Option.some.inj u
   subst O;have s:x∉(cj j).drop (L.length+1)/\x∉aK rest:=by
    rw[o] at Z;have p:(x::(aK (inW ((cj j).drop (L.length+1)))++aK rest)).Nodup:=by
     have:aK ((x,fQ)::(inW ((cj j).drop (L.length+1))++rest))=x::(aK (inW ((cj j).drop (L.length+1)))++aK rest):=by
      unfold aK;rw[bq,be]
     rwa [this] at Z
    rw[vQ] at p;have u:=(mT.mp p).1;exact ⟨λz=>u (da _ z),λz=>u (c6 _ z)⟩
   have Q:ws.filter (λq=>!decide (q.1=x))=inW ((cj j).drop (L.length+1))++rest:=by
    rw[C];exact Zw s.1 s.2
   have J:L++[(x,fQ)]=inW ((cj j).take (L.length+1)):=by
    have p:=take_snoc D;rw[p];rw[inW,be];show L++_=inW ((cj j).take L.length)++_;rw[<- U];rfl
   obtain ⟨l,S,H⟩:=Fq (qs:=gH gs (L++[(x,fQ)]) x j) R λq B=>by
    obtain ⟨g,_,B⟩:=kx.mp B;obtain ⟨c,_,e⟩:=ma.mp B;unfold qQ at e;split at e
    . cases e
    . cases e;exact Nat.le_add_right _ _
   rw[Q,S];refine ⟨λ_=>⟨by rw[v];exact J,l,by rw[v],H⟩,λi=>?_⟩;rw[v] at i;have M:j=L.length+1:=by lia
   rw[J,<- M,iN (by rw[inW,ag,dc];lia),iN (by rw[kI];exact ay _)]
 . have i:=kn Y;refine ⟨λz=>absurd z (by lia),λ_=>?_⟩;rw[nL i];exact F.all i
section
variable  {n:Nat}
theorem tW(F:pJ n L []):L.take n=inW (cj n)/\n<=L.length:=by
 have h:=kn λz=>by
  obtain ⟨_,Z,e,_⟩:=F.few z;have Y:=congrArg List.length e;rw[jS,ai] at Y;unfold inW at Y;rw[ag,l9,kI] at Y;lia
 exact ⟨F.all h,h⟩
theorem aeb(I:dX gs n L [])(F:pJ n L [])(s:L[i]?=some q)(r:q.1∈cj n):i<n/\q.1=gF n i:=by
 obtain ⟨e,v⟩:=tW F;have nd:=by have:=I.nd;rwa [show aK L++aK []=aK L from c8 _] at this
 obtain ⟨j,Y,l⟩:=eK.mp r;rw[kI] at Y;have p:(L.take n)[j]?=some (q.1,fQ):=by
  rw[e];rw[inW,ba,av (by rw[kI];exact Y),l];rfl
 rw[kN Y] at p;have u:(aK L)[j]?=(aK L)[i]?:=by
  rw[aK,ba,ba,p,s];rfl
 have Z:=(List.getElem?_inj (by rw[aK,ag];lia) nd).mp u;subst Z;refine ⟨Y,?_⟩;have o:(cj n)[j]?=some (gF n j):=by rw[cj,ba,eg Y];rfl
 rw[av (by rw[kI];exact Y),l] at o;exact Option.some.inj o
end
theorem Fg{f:Nat->Int}(t:Int)(Y:∀r,f r=0\/f r=1):∀W:Nat,fE (tab W f) t=tab W λr=>if ak t (r:Nat)=1 then f r else 0
 | 0=>by show fE 0 t=0;exact xK t
 | W+1=>by
  have j:=Fg (f:=λr=>f (r+1)) (t / 2) (λr=>Y (r+1)) W;rw[jO,jO];have l:=Y 0;obtain ⟨i,Z⟩:=mj (2*tab W (λr=>f (r+1))+f 0) t;rw[show (2*tab W (λr=>f (r+1))+f 0) / 2=tab W (λr=>f (r+1)) by lia,j] at i;rw[show (2*tab W (λr=>f (r+1))+f 0) % 2=f 0 by lia] at Z;have e:(λr:Nat=>if ak t ((r+1:Nat):Int)=1 then f (r+1) else 0)=λr:Nat=>if ak (t / 2) (r:Nat)=1 then f (r+1) else 0:=by
   funext r;rw[kJ]
  rw[e,show ak t ((0:Nat):Int)=t % 2 from kY t];have ht:t % 2=0\/t % 2=1:=by lia
  rcases ht with ht | ht <;> rw[ht] at Z ⊢
  . rw[if_neg (by decide)];lia
  . rw[if_pos rfl];lia
theorem Ua{f g:Nat->Int}(Y:∀r,f r=0\/f r=1)(Z:∀r,g r=0\/g r=1):∀W:Nat,i7 (tab W f) (tab W g)=tab W λr=>1 - (1 - f r)*(1 - g r)
 | 0=>by show i7 0 0=0;unfold i7 gS;decide +kernel
 | W+1=>by
  have i:=Ua (f:=λr=>f (r+1)) (g:=λr=>g (r+1)) (λr=>Y (r+1)) (λr=>Z (r+1)) W;rw[jO,jO,jO];have l:=Y 0;have o:=Z 0;obtain ⟨e,j⟩:=wH (2*tab W (λr=>f (r+1))+f 0) (2*tab W (λr=>g (r+1))+g 0);rw[show (2*tab W (λr=>f (r+1))+f 0) / 2=tab W (λr=>f (r+1)) by lia,show (2*tab W (λr=>g (r+1))+g 0) / 2=tab W (λr=>g (r+1)) by lia,i] at e;rw[show (2*tab W (λr=>f (r+1))+f 0) % 2=f 0 by lia,show (2*tab W (λr=>g (r+1))+g 0) % 2=g 0 by lia] at j;lia
theorem K4(x y:Int):kT x y / 2=kT (x / 2) (y / 2)/\kT x y % 2=(x % 2+y % 2) % 2:=by
 unfold kT;obtain ⟨e,Z⟩:=wH x y;obtain ⟨b1,Y⟩:=mj x y;have hx:x % 2=0\/x % 2=1:=by lia
 have hy:y % 2=0\/y % 2=1:=by lia
 rcases hx with hx | hx <;> rcases hy with hy | hy <;> rw[hx,hy] at Z Y <;> rw[hx,hy] <;> simp at Z Y <;> lia
theorem Mx:∀(W r:Nat) (t:Int),r<W->ak (kT (2^W - 1) t) (r:Nat)=1 - ak t (r:Nat)
 | 0,r,t,h=>absurd h (ll _)
 | W+1,r,t,h=>by
  obtain ⟨Y,Z⟩:=K4 (2^(W+1) - 1) t;have e:((2:Int)^(W+1) - 1) / 2=2^W - 1:=by rw[j3];lia
  have i:((2:Int)^(W+1) - 1) % 2=1:=by rw[j3];lia
  rw[e] at Y;rw[i] at Z
  cases r with
  | zero=>rw[show ((0:Nat):Int)=0 from rfl,kY,kY,Z];lia
  | succ r=>rw[kJ,kJ,Y];exact Mx W r (t / 2) (by lia)
noncomputable def b01(b:Bool):Int:=if b=true then 1 else 0
theorem Du(b:Bool):b01 b=0\/b01 b=1:=by cases b;exact .inl rfl;exact .inr rfl
noncomputable def lU(ts:B3)(ρ r:Nat):Nat->Bool
 | 0=>true
 | k+1=>lU ts ρ r k&&decide (ak (ts.getD k 0) (r:Nat)=ak (ρ:Nat) (k:Nat))
variable {ρ:Nat}
theorem KJ:∀{k:Nat},lU ts ρ r k=true↔∀j,j<k->ak (ts.getD j 0) (r:Nat)=ak (ρ:Nat) (j:Nat)
 | 0=>⟨λ_ j h=>absurd h (ll _),λ_=>rfl⟩
 | k+1=>by
  rw[lU,dQ,KJ,decide_eq_true_eq];constructor
  . rintro ⟨Z,e⟩ j Y;rcases Nat.lt_succ_iff_lt_or_eq.mp Y with h | h
    . exact Z j h
    . rw[h];exact e
  . exact λh=>⟨λj Y=>h j (by lia),h k (by lia)⟩
theorem Ng(i:ts.length=m)(Y:ρ < 2^m):lU ts ρ r m=decide ((ρ:Int)=aV (ts.map λt=>ak t (r:Nat))):=by
 have e:bH (ts.map λt=>ak t (r:Nat)):=bH.map λa _=>aL _ _;rw[sR,KJ,decide_eq_true_eq];constructor
 . intro h;rw[<- bW Y];congr 1;unfold bu;refine k9 λj=>?_;rw[ba,ba]
   by_cases Z:j<m
   . rw[eg Z,av (by lia)];have:=h j Z;rw[ae,av (by lia),Bo] at this;exact congrArg some this.symm
   . rw[d3 (by rw[cq];lia),d3 (by lia)];rfl
 . intro h j Z;rw[h,wA e ?_];rw[ba,ae,av (by lia)];rfl
noncomputable def lQ(ts:B3)(b:Int)(m r i:Nat):Bool:=(List.range i).any λρ=>lU ts ρ r m&&decide (ak b (ρ:Nat)=1)
theorem aaO(j:ts.length=m):b01 (lQ ts b m r (2^m))=ak b (aV (ts.map λt=>ak t (r:Nat))):=by
 have i:bH (ts.map λt=>ak t (r:Nat)):=bH.map λa _=>aL _ _;have o:0<=aV (ts.map λt=>ak t (r:Nat)):=j4 i.nn;have l:=uK i;rw[ag,j] at l;obtain ⟨ρ,Y⟩:∃ρ:Nat,aV (ts.map λt=>ak t (r:Nat))=ρ:=⟨_,(oQ o).symm⟩;rw[Y] at l ⊢;have Z:ρ < 2^m:=by
  have:((2^m:Nat):Int)=2^m:=by simp
  lia
 unfold lQ b01;rcases aL b (ρ:Nat) with hb | hb
 . rw[hb,if_neg];rw[r9];rintro ⟨x,p,h⟩;rw[Ng j (er.mp p),dQ,decide_eq_true_eq,decide_eq_true_eq,Y] at h;have e:x=ρ:=by have:=h.1;lia
   rw[e,hb] at h;exact absurd h.2 (by decide)
 . rw[hb,if_pos];rw[r9];exact ⟨ρ,er.mpr Z,by rw[Ng j Z,Y,decide_eq_true rfl,hb];rfl⟩
theorem X7(h:ak (ρ:Nat) (j:Nat)=1):fE (tab W λr=>b01 (lU ts ρ r j)) (ts.getD j 0)=tab W λr=>b01 (lU ts ρ r (j+1)):=by
 rw[Fg _ λr=>Du _];refine bU λr Z=>?_;show _=b01 (lU ts ρ r j&&decide (ak (ts.getD j 0) (r:Nat)=ak (ρ:Nat) (j:Nat)));rw[h]
 by_cases Y:ak (ts.getD j 0) r=1
 . rw[if_pos Y,decide_eq_true Y,w9]
 . rw[if_neg Y,decide_eq_false Y,qV];rfl
theorem Rt(h:ak (ρ:Nat) (j:Nat)=0):fE (tab W λr=>b01 (lU ts ρ r j)) (kT (2^W - 1) (ts.getD j 0))=tab W λr=>b01 (lU ts ρ r (j+1)):=by
 rw[Fg _ λr=>Du _];refine bU λr Y=>?_;show _=b01 (lU ts ρ r j&&decide (ak (ts.getD j 0) (r:Nat)=ak (ρ:Nat) (j:Nat)));rw[h,Mx W r _ Y];rcases aL (ts.getD j 0) r with hb | hb
 . rw[hb,if_pos (by decide),decide_eq_true rfl,w9]
 . rw[hb,if_neg (by decide),decide_eq_false (by decide),qV];rfl
theorem aad(h:ak b (i:Nat)=1):i7 (tab W λr=>b01 (lQ ts b m r i)) (tab W λr=>b01 (lU ts i r m))=tab W λr=>b01 (lQ ts b m r (i+1)):=by
 rw[Ua (λr=>Du _) λr=>Du _];refine bU λr Y=>?_;have e:lQ ts b m r (i+1)=(lQ ts b m r i||lU ts i r m):=by
  unfold lQ;rw[kC,List.any_append,kQ,List.any_nil,wq,decide_eq_true h,w9]
 rw[e];cases lQ ts b m r i <;> cases lU ts i r m <;> rfl
theorem Vq(h:ak b (i:Nat)=0):lQ ts b m r (i+1)=lQ ts b m r i:=by
 unfold lQ;rw[kC,List.any_append,kQ,List.any_nil,wq,decide_eq_false (by rw[h];decide),qV,wq]
noncomputable def Kp(b:Int)(w:Nat)(rs:B3)(m:Nat):Prop:=∀c:B3,c.length=m->(∀x∈c,x∈rs)->cV b c w∈rs
theorem vW:(brk b w rs m).isNone=true↔Kp b w rs m:=by
 rw[V6,gc];exact ⟨λh c Z e=>of_decide_eq_true (h c (mH.mpr ⟨Z,e⟩)),λh c Y=>decide_eq_true (h c (mH.mp Y).1 (mH.mp Y).2)⟩
theorem adN(f:Nat->Int):tab 1 f=f 0:=by show 2*0+f 0=_;lia
theorem Yw(f:Nat->Int):tab 2 f=f 0+2*f 1:=by show 2*(2*0+f 1)+f 0=_;lia
theorem Yo(f:Nat->Int):tab 4 f=f 0+2*f 1+4*f 2+8*f 3:=by show 2*(2*(2*(2*0+f 3)+f 2)+f 1)+f 0=_;lia
theorem iU:∀m,aV (aI m 0)=0
 | 0=>rfl
 | m+1=>by rw[fh,cQ,iU m];rfl
theorem xJ:∀m,aV (aI m 1)=2^m - 1
 | 0=>rfl
 | m+1=>by rw[fh,cQ,xJ m,j3];lia
noncomputable abbrev col(c:B3)(j:Nat):B3:=c.map λt=>ak t (j:Nat)
theorem CZ(c:B3)(j:Nat):bH (col c j):=bH.map λ_ _=>aL _ _
theorem Tz:cV b c 1=ak b (aV (col c 0)):=adN _
theorem Dj:cV b c 2=ak b (aV (col c 0))+2*ak b (aV (col c 1)):=Yw _
theorem Q5:cV b c 4=ak b (aV (col c 0))+2*ak b (aV (col c 1))+4*ak b (aV (col c 2))+8*ak b (aV (col c 3)):=Yo _
theorem abP:Kp b 1 [0] m↔ak b 0=0:=by
 have e:cV b (aI m 0) 1=ak b 0:=by
  rw[Tz];show ak b (aV ((aI m 0).map _))=_;rw[kM];show ak b (aV (aI m 0))=_;rw[iU]
 constructor
 . intro h;have:=h (aI m 0) cf λx Y=>aw.mpr (kR Y);rwa [e,aw] at this
 . intro h c Z i;have:=rL.mpr ⟨Z,λx Y=>aw.mp (i x Y)⟩;rw[this,e,h];exact aw.mpr rfl
theorem ZV:Kp b 1 [1] m↔ak b (2^m - 1)=1:=by
 have e:cV b (aI m 1) 1=ak b (2^m - 1):=by
  rw[Tz];show ak b (aV ((aI m 1).map _))=_;rw[kM];show ak b (aV (aI m 1))=_;rw[xJ]
 constructor
 . intro h;have:=h (aI m 1) cf λx Y=>aw.mpr (kR Y);rwa [e,aw] at this
 . intro h c Z i;have:=rL.mpr ⟨Z,λx Y=>aw.mp (i x Y)⟩;rw[this,e,h];exact aw.mpr rfl
theorem Kz:x∈([1,2]:B3)↔x=1\/x=2:=by simp
theorem aay:Kp b 2 [1,2] m↔∀r:Nat,r<2^m->ak b (r:Nat)≠ak b (2^m - 1 - (r:Nat)):=by
 constructor
 . intro h r Z;have k:=h ((bu m r).map λx=>2 - x) (by rw[ag,bB]) λx Y=>by
    obtain ⟨y,o,rfl⟩:=bX.mp Y;rcases lA o with z | z <;> rw[z] <;> simp
   rw[Dj,Kz] at k;have p:col ((bu m r).map λx=>2 - x) 0=bu m r:=by
    rw[col,c9];refine (cp λx Y=>?_).trans (sk _);rcases lA Y with z | z <;> rw[z] <;> rfl
   have j:col ((bu m r).map λx=>2 - x) 1=rJ (bu m r):=by
    unfold col rJ;rw[c9];refine cp λx Y=>?_;rcases lA Y with z | z <;> rw[z] <;> rfl
   rw[p,j,xN,bB,bW Z] at k;have e:=aL b r;have i:=aL b (2^m - 1 - r);lia
 . intro h c e i;have j:col c 1=rJ (col c 0):=by
    unfold rJ col;rw[c9];refine cp λx Y=>?_;rcases Kz.mp (i x Y) with z | z <;> rw[z] <;> rfl
   obtain ⟨r,Z,q,_⟩:=Dy (CZ c 0);have l:(col c 0).length=m:=by rw[ag,e]
   rw[l] at Z;have k:=h r Z;rw[Dj,j,xN,l,q,Kz];have e:=aL b r;have i:=aL b (2^m - 1 - r);lia
theorem yZ:x∈([0,2,3]:B3)↔x=0\/x=2\/x=3:=by simp
theorem DR(n i:Nat):ak (n:Nat) (i:Nat)=if n.testBit i then 1 else 0:=by
 rw[ak,dS,Nat.testBit_eq_decide_div_mod_eq];have:(n:Int) / 2^i % 2=((n / 2^i % 2:Nat):Int):=by push_cast;rfl
 rw[this]
 by_cases h:n / 2^i % 2=1
 . rw[h];simp
 . have:n / 2^i % 2=0:=by lia
   rw[this];simp
theorem qN:bu m r=(List.range m).map λj=>ak (r:Nat) (j:Nat):=by
 refine cp λj _=>?_;rw[ak,dS]
 push_cast
 rfl
theorem Er{k:Nat}(e:k<m):bu m (r ||| 2^k)=(bu m r).set k 1:=by
 rw[qN,qN];refine k9 λi=>?_;rw[wa,ba,ba,ag,cq]
 by_cases Z:i<m
 . rw[eg Z];simp only[DR,Nat.testBit_two_pow]
   by_cases Y:k=i
   . subst Y;simp[e]
   . simp[Y]
 . have:(List.range m)[i]?=none:=by rw[List.getElem?_eq_none_iff,cq];lia
   rw[this,if_neg (by lia)];rfl
inductive Below:B3->B3->Prop
 | nil:Below [] []
 | cons {x y:Int}{xs ys:B3}:(x=0/\y=0)\/(x=0/\y=1)\/(x=1/\y=1)->Below xs ys->Below (x::xs) (y::ys)
theorem Gq:∀{c:B3},(∀x∈c,x∈([0,2,3]:B3))->Below (col c 0) (col c 1)
 | [],_=>.nil
 | x::c,h=>.cons (by
  rcases yZ.mp (h x br) with z | z | z <;> rw[z] <;> decide) (Gq λy Y=>h y (cc _ Y))
theorem bH.app(h:bH xs)(h':bH ys):bH (xs++ys):=λx Y=>by
 rcases ck.mp Y with z | z
 . exact h x z
 . exact h' x z
theorem Below.left(h:Below xs ys):bH xs:=by
 induction h with
 | nil=>exact λx Y=>nomatch Y
 | cons h _ Z=>exact λx Y=>by rcases b9.mp Y with z | z;(· lia);exact Z x z
theorem ZR(h:∀r k:Nat,r<2^m->k<m->ak b (r:Nat)<=ak b ((r ||| 2^k:Nat)))(Z:Below xs ys):∀pre,bH pre->pre.length+xs.length=m->ak b (aV (pre++xs))<=ak b (aV (pre++ys)):=by
 induction Z with
 | nil=>intro pre _ _;exact l8 _
 | @cons x y xs ys j Z E=>
  intro pre q C;rw[bo] at C;have p:bH (pre++x::xs):=q.app λz l=>by rcases b9.mp l with e | e;(· lia);exact Z.left z e
  have v:ak b (aV (pre++x::xs))<=ak b (aV (pre++y::xs)):=by
   rcases j with ⟨rfl,rfl⟩ | ⟨rfl,rfl⟩ | ⟨rfl,rfl⟩
   . exact l8 _
   . obtain ⟨r,o,H,s⟩:=Dy p;have B:(pre++0::xs).length=m:=by rw[ai,bo];lia
     rw[B] at o s;have k:=h r pre.length o (by lia);have Y:=Er (m:=m) (r:=r) (k:=pre.length) (by lia);rw[s] at Y;have D:(pre++0::xs).set pre.length 1=pre++1::xs:=by
      rw[List.set_append_right _ _ (ay _),ka];rfl
     rw[D] at Y;have i:r ||| 2^pre.length<2^m:=wb o (sm (by decide) (by lia))
     rw[H,<- Y,bW i];exact k
   . exact l8 _
  have u:=E (pre++[y]) (q.app λz l=>by rw[aw.mp l];lia) (by rw[ai];show pre.length+1+xs.length=m;lia);rw[dy,dy] at u;exact Int.le_trans v u
theorem Z5:Kp b 2 [0,2,3] m↔∀r k:Nat,r<2^m->k<m->ak b (r:Nat)<=ak b ((r ||| 2^k:Nat)):=by
 constructor
 . intro h r k l p;have i:=wb l (sm (by decide) p);have mem:∀j:Nat,(ak (r:Nat) (j:Nat)=0/\ak ((r ||| 2^k:Nat)) (j:Nat)=0)\/(ak (r:Nat) (j:Nat)=0/\ak ((r ||| 2^k:Nat)) (j:Nat)=1)\/(ak (r:Nat) (j:Nat)=1/\ak ((r ||| 2^k:Nat)) (j:Nat)=1):=λj=>by
    rw[DR,DR,Nat.testBit_or];cases r.testBit j <;> cases (2^k).testBit j <;> simp
   have o:=h ((List.range m).map λj=>ak r (j:Nat)+2*ak ((r ||| 2^k:Nat)) j) (by rw[ag,cq]) λx e=>by
    obtain ⟨j,_,rfl⟩:=bX.mp e;rw[yZ];have:=mem j;lia
   have q:col ((List.range m).map λj=>ak (r:Nat) (j:Nat)+2*ak ((r ||| 2^k:Nat)) (j:Nat)) 0=bu m r:=by
    rw[qN];rw[col,c9];refine cp λj _=>?_;show ak (ak (r:Nat) (j:Nat)+2*ak ((r ||| 2^k:Nat)) (j:Nat)) ((0:Nat):Int)=ak (r:Nat) (j:Nat);rcases mem j with ⟨Z,Y⟩ | ⟨Z,Y⟩ | ⟨Z,Y⟩ <;> rw[Z,Y] <;> rfl
   have s:col ((List.range m).map λj=>ak (r:Nat) (j:Nat)+2*ak ((r ||| 2^k:Nat)) (j:Nat)) 1=bu m (r ||| 2^k):=by
    rw[qN];rw[col,c9];refine cp λj _=>?_;show ak (ak (r:Nat) (j:Nat)+2*ak ((r ||| 2^k:Nat)) (j:Nat)) ((1:Nat):Int)=ak ((r ||| 2^k:Nat)) (j:Nat);rcases mem j with ⟨Z,Y⟩ | ⟨Z,Y⟩ | ⟨Z,Y⟩ <;> rw[Z,Y] <;> rfl
   rw[Dj,q,s,bW l,bW i,yZ] at o;have Z:=aL b r;have Y:=aL b ((r ||| 2^k:Nat));lia
 . intro h c Z Y;have k:=ZR h (Gq Y) [] (λx e=>nomatch e) (by show 0+_=m;rw[ag];lia);rw[eL,eL] at k;rw[Dj,yZ];have Z:=aL b (aV (col c 0));have Y:=aL b (aV (col c 1));lia
noncomputable def jd:B3:=[0,3,5,6,9,10,12,15]
theorem RQ:x∈jd↔x=0\/x=3\/x=5\/x=6\/x=9\/x=10\/x=12\/x=15:=by simp[jd]
noncomputable def wgt(b:Int)(k:Nat):Int:=ak b (2^k)+ak b 0
noncomputable def ir(b:Int):Nat->B3->Int
 | _,[]=>0
 | k,x::xs=>x*wgt b k+ir b (k+1) xs
noncomputable def Qm(b:Int)(r:Nat):Nat->Int
 | 0=>ak b 0
 | k+1=>Qm b r k+ak (r:Nat) (k:Nat)*wgt b k
theorem GK(b:Int)(y:Int):∀(xs:B3) (k:Nat),ir b k (xs++[y])=ir b k xs+y*wgt b (k+xs.length)
 | [],k=>by show y*wgt b k+0=0+y*wgt b k;lia
 | x::xs,k=>by
  show x*wgt b k+ir b (k+1) (xs++[y])=x*wgt b k+ir b (k+1) xs+y*wgt b (k+(xs.length+1));rw[GK b y xs (k+1),show k+1+xs.length=k+(xs.length+1) by lia];lia
theorem vY(b:Int)(r:Nat):∀m,Qm b r m=ak b 0+ir b 0 (bu m r)
 | 0=>by show ak b 0=ak b 0+0;lia
 | m+1=>by
  show Qm b r m+ak (r:Nat) (m:Nat)*wgt b m=_;have e:ak (r:Nat) (m:Nat)=((r / 2^m % 2:Nat):Int):=by
   rw[ak,dS]
   push_cast
   rfl
  rw[vY b r m,ur,GK,bB,e,x4];lia
theorem HS(b:Int):∀(c:B3) (k:Nat),(∀x∈c,x∈jd)->(ir b k (col c 0)+ir b k (col c 1)+ir b k (col c 2)+ir b k (col c 3)) % 2=0
 | [],k,_=>rfl
 | x::c,k,h=>by
  have o:=HS b c (k+1) λy Y=>h y (cc _ Y);show (ak x ((0:Nat):Int)*wgt b k+ir b (k+1) (col c 0)+(ak x ((1:Nat):Int)*wgt b k+ir b (k+1) (col c 1))+(ak x ((2:Nat):Int)*wgt b k+ir b (k+1) (col c 2))+(ak x ((3:Nat):Int)*wgt b k+ir b (k+1) (col c 3))) % 2=0;generalize ir b (k+1) (col c 0)=l0 at *
  generalize ir b (k+1) (col c 1)=l1 at *
  generalize ir b (k+1) (col c 2)=l2 at *
  generalize ir b (k+1) (col c 3)=l3 at *
  generalize wgt b k=w at *
  have bits:∀v:Int,v∈jd->(ak v ((0:Nat):Int)=0\/ak v ((0:Nat):Int)=1)/\(ak v ((1:Nat):Int)=0\/ak v ((1:Nat):Int)=1)/\(ak v ((2:Nat):Int)=0\/ak v ((2:Nat):Int)=1)/\(ak v ((3:Nat):Int)=0\/ak v ((3:Nat):Int)=1)/\(ak v ((0:Nat):Int)+ak v ((1:Nat):Int)+ak v ((2:Nat):Int)+ak v ((3:Nat):Int)) % 2=0:=by decide
  obtain ⟨i,e,l,Z,j⟩:=bits x (h x br);rcases i with z0 | z0 <;> rcases e with z1 | z1 <;> rcases l with z2 | z2 <;> rcases Z with z3 | z3 <;> rw[z0,z1,z2,z3] at j ⊢ <;> first | lia
theorem Gg{c:Int}(e:x=0\/x=1)(Z:b=0\/b=1)(Y:c=0\/c=1)(hd:y=0\/y=1):x+2*b+4*c+8*y∈jd↔(x+b+c+y) % 2=0:=by
 rcases e with rfl | rfl <;> rcases Z with rfl | rfl <;> rcases Y with rfl | rfl <;> rcases hd with rfl | rfl <;> decide
theorem uP{α Y:Type}(f:α->Y)(x:α)(n:Nat):(aI n x).map f=aI n (f x):=kM
theorem Nz(h:Kp b 4 jd m):∀(xs:B3) (k:Nat),bH xs->k+xs.length=m->ak b (aV (aI k 0++xs)) % 2=(ak b 0+ir b k xs) % 2
 | [],k,_,_=>by
  rw[c8,iU];show _=(ak b 0+0) % 2;lia
 | x::xs,k,Z,E=>by
  rw[bo] at E;have i:=Nz h xs (k+1) Z.tail (by lia);have I:aI (k+1) (0:Int)++xs=aI k 0++0::xs:=by
   rw[sj,dy];rfl
  rw[I] at i;show _=(ak b 0+(x*wgt b k+ir b (k+1) xs)) % 2;rcases Z x br with rfl | rfl
  . rw[i];lia
  . have p:=h (aI k 0++5::xs.map λy=>3*y) (by simp;lia) λy C=>by
     rw[RQ];rcases ck.mp C with z | z
     . exact .inl (kR z)
     . rcases b9.mp z with z | z
       . lia
       . obtain ⟨v,Y,rfl⟩:=bX.mp z;rcases Z.tail v Y with e | e <;> lia
    have J:col (aI k 0++5::xs.map λy=>3*y) 0=aI k 0++1::xs:=by
     rw[col,be,uP,bq,c9];congr 2;refine (cp λv Y=>?_).trans (sk _);rcases Z.tail v Y with e | e <;> rw[e] <;> rfl
    have D:col (aI k 0++5::xs.map λy=>3*y) 1=aI k 0++0::xs:=by
     rw[col,be,uP,bq,c9];congr 2;refine (cp λv Y=>?_).trans (sk _);rcases Z.tail v Y with e | e <;> rw[e] <;> rfl
    have l:∀j:Nat,(j=2\/j=3)->(xs.map λy=>3*y).map (λt=>ak t (j:Nat))=aI xs.length 0:=λj q=>by
     rw[c9];refine rL.mpr ⟨by rw[ag],λv Y=>?_⟩;obtain ⟨u,r,rfl⟩:=bX.mp Y;rcases q with rfl | rfl <;> rcases Z.tail u r with e | e <;> rw[e] <;> rfl
    have s:col (aI k 0++5::xs.map λy=>3*y) 2=aI k 0++1::aI xs.length 0:=by
     rw[col,be,uP,bq,l 2 (.inl rfl)];rfl
    have L:col (aI k 0++5::xs.map λy=>3*y) 3=aI k 0++0::aI xs.length 0:=by
     rw[col,be,uP,bq,l 3 (.inr rfl)];rfl
    have o:∀(k:Nat) (ys:B3),aV (aI k 0++ys)=2^k*aV ys:=λk ys=>by
     induction k with
     | zero=>rw[lx,eL];lia
     | succ k i=>rw[fh,gX,cQ,i,j3,tp (2^k) 2,pj];lia
    have B:aV (aI k 0++1::aI xs.length 0)=2^k:=by
     rw[o,cQ,iU];lia
    have H:aV (aI k 0++0::aI xs.length 0)=0:=by
     rw[o,cQ,iU];lia
    rw[Q5,J,D,s,L,B,H,Gg (aL _ _) (aL _ _) (aL _ _) (aL _ _)] at p;unfold wgt;lia
theorem aaQ:Kp b 4 jd m↔∀r:Nat,r<2^m->Qm b r m % 2=ak b (r:Nat):=by
 constructor
 . intro h r Y;have k:=Nz h (bu m r) 0 bH.bu (by rw[bB];lia);rw[lx,eL,bW Y,<- vY] at k;have:=aL b r;lia
 . intro h c o p;rw[Q5,Gg (aL _ _) (aL _ _) (aL _ _) (aL _ _)];have e:∀j,ak b (aV (col c j))=(ak b 0+ir b 0 (col c j)) % 2:=λj=>by
    obtain ⟨r,Y,i,Z⟩:=Dy (CZ c j);have l:(col c j).length=m:=by rw[ag,o]
    rw[l] at Y Z;rw[i,<- h r Y,vY,Z]
   rw[e 0,e 1,e 2,e 3];have:=HS b c 0 p;lia
noncomputable def ym(c:B3)(w:Nat)(ss:List aA)(i:Nat):Int:=tab w λj=>(ss.foldl stepV (col c j)).getD i 0
theorem Ws:(ss.foldl stepV xs).length=xs.length+ss.length:=by
 induction ss generalizing xs with
 | nil=>rfl
 | cons s ss Y=>rw[jI,Y,bo];rw[stepV,ai,cK];lia
theorem Xp:∀{vs:B3},bH vs->bH (ss.foldl stepV vs):=by
 induction ss with
 | nil=>intro vs h;exact h
 | cons s ss Y=>
  intro vs h;rw[jI];exact Y (h.app λx Z=>by rw[aw.mp Z];exact aL _ _)
theorem aaB(l:∀x∈rs,0<=x/\x<2^w)(v:c.length=W)(H:∀x∈c,x∈rs):aP W ss->(∀s∈ss,Kp s.b w rs s.m)->∀i,i<W+ss.length->ym c w ss i∈rs:=by
 refine snoc_ind (P:=λss=>aP W ss->(∀s∈ss,Kp s.b w rs s.m)->∀i,i<W+ss.length->ym c w ss i∈rs) (λ_ _ i Y=>?_) (λss s E B z i Y=>?_) ss
 . have Y:i<c.length:=by rw[v];exact Y
   have Z:=H _ (fA Y);have:ym c w [] i=c[i]:=by
    refine (bU λj _=>?_).trans (De (λ_=>aL _ _) (l _ Z).1 (l _ Z).2 λ_ _=>rfl);show (col c j).getD i 0=_;rw[ae,ba,av Y];rfl
   rw[this];exact Z
 . have p:=λk t o=>B k t (by rw[cE (a0.mp o).1];exact o);have C:=E p λt o=>z t (da _ o);have fl:∀j,(ss++[s]).foldl stepV (col c j)=stepV (ss.foldl stepV (col c j)) s:=λj=>by rw[fg];rfl
   have q:∀j,(ss.foldl stepV (col c j)).length=W+ss.length:=λj=>by rw[Ws,ag,v]
   by_cases h:i<W+ss.length
   . have:ym c w (ss++[s]) i=ym c w ss i:=by
      refine bU λj _=>?_;rw[fl,show stepV (ss.foldl stepV (col c j)) s=ss.foldl stepV (col c j)++[ak s.b (aV (s.ws.map λk=>(ss.foldl stepV (col c j)).getD k 0))] from rfl];rw[ae,cE (by rw[q];exact h),<- ae]
     rw[this];exact C i h
   . have u:i=W+ss.length:=by rw[ai,cK] at Y;lia
     have so:=B ss.length s (by rw[bE (ay _),ka];rfl);have:ym c w (ss++[s]) i=cV s.b (s.ws.map λk=>ym c w ss k) w:=by
      refine bU λj D=>?_;rw[fl,show stepV (ss.foldl stepV (col c j)) s=ss.foldl stepV (col c j)++[ak s.b (aV (s.ws.map λk=>(ss.foldl stepV (col c j)).getD k 0))] from rfl];rw[ae,bE (by rw[q];lia),q,u,ka];show ak s.b (aV (s.ws.map λk=>(ss.foldl stepV (col c j)).getD k 0))=_;rw[c9];congr 2;refine cp λk e=>?_;show _=ak (tab w λj=>(ss.foldl stepV (col c j)).getD k 0) (j:Nat);rw[gB (λr=>o8 (Xp (CZ c r)) k) D]
     rw[this];refine z s (c6 _ br) _ (by rw[ag];exact so.len) λx Z=>?_;obtain ⟨k,e,rfl⟩:=bX.mp Z;exact C k (so.lt k e)
theorem MT{n:Nat}(Y:∀x∈rs,0<=x/\x<2^w)(hs:aP n ss)(u:∀s∈ss,Kp s.b w rs s.m)(p:o<n+ss.length):Kp ((cA n ss).getD o 0) w rs n:=by
 intro c i v;have e:cV ((cA n ss).getD o 0) c w=ym c w ss o:=by
  refine bU λj _=>?_;obtain ⟨r,Z,z,l⟩:=Dy (CZ c j);have q:(col c j).length=n:=by rw[ag,i]
  rw[q] at Z l;rw[z,tH,gB (λr=>o8 uM o) Z];rw[b8,l]
 rw[e];exact aaB Y i v hs u o p
structure Fam (gs:A9) (F:Int->Prop):Prop where
 clo:∀g∈gs,∀ts:B3,ts.length=g.1->(∀t∈ts,F t)->F (cV g.2 ts 4)
 x:F 10
 y:F 12
noncomputable def eU(t:Int):Int:=tab 4 λr=>1 - ak t (r:Nat)
noncomputable def uf(p q:Int):Int:=tab 4 λr=>ak p (r:Nat)*ak q (r:Nat)
variable {v:Int}
section
variable  {F:Int->Prop}
theorem Sw(h:v=0\/v=1):aV (aI m v)=if v=0 then 0 else 2^m - 1:=by
 rcases h with rfl | rfl
 . rw[iU,if_pos rfl]
 . rw[xJ,if_neg (by decide)]
theorem Fam.one(h:Fam gs F)(i:g∈gs)(Y:F b):F (tab 4 λr=>if ak b (r:Nat)=0 then ak g.2 0 else ak g.2 (2^g.1 - 1)):=by
 have k:=h.clo g i (aI g.1 b) cf λx Z=>by rw[kR Z];exact Y
 have e:cV g.2 (aI g.1 b) 4=tab 4 λr=>if ak b (r:Nat)=0 then ak g.2 0 else ak g.2 (2^g.1 - 1):=by
  refine bU λr _=>?_;rw[uP,Sw (aL _ _)];split <;> rfl
 rwa [e] at k
theorem Fam.not_of(h:Fam gs F)(Z:g∈gs)(h0:ak g.2 0=1)(i:ak g.2 (2^g.1 - 1)=0){t:Int}(Y:F t):F (eU t):=by
 have k:=h.one Z Y;have e:(tab 4 λr=>if ak t (r:Nat)=0 then ak g.2 0 else ak g.2 (2^g.1 - 1))=eU t:=by
  refine bU λr _=>?_;rw[h0,i];rcases aL t r with z | z <;> rw[z] <;> rfl
 rwa [e] at k
theorem Fam.JQ(h:Fam gs F)(Y:g∈gs)(h0:ak g.2 0=v)(Z:ak g.2 (2^g.1 - 1)=v):F (tab 4 λ_=>v):=by
 have k:=h.one Y h.x;have e:(tab 4 λr=>if ak 10 (r:Nat)=0 then ak g.2 0 else ak g.2 (2^g.1 - 1))=tab 4 λ_=>v:=by
  refine bU λr _=>?_;rw[h0,Z];split <;> rfl
 rwa [e] at k
theorem tab0:(tab 4 λ_=>(0:Int))=0:=by decide
theorem acC:(tab 4 λ_=>(1:Int))=15:=by decide
theorem zL(Y:r<4):ak (eU x) (r:Nat)=1 - ak x (r:Nat):=gB (λr=>by rcases aL x r with z | z <;> lia) Y
theorem Fam.Ck(h:Fam gs F)(o:∀t,F t->F (eU t))(s:g∈gs)(Y:¬ Kp g.2 2 [1,2] g.1):F 0/\F 15:=by
 rw[aay] at Y;have ⟨r,Y⟩:=fi.mp Y;have ⟨p,Y⟩:=fi.mp Y;have Y:=Classical.not_not.mp Y;have j:=o _ h.x;have k:=h.clo g s ((bu g.1 r).map λv=>if v=1 then 10 else eU 10) (by rw[ag,bB]) λt q=>by
  obtain ⟨v,_,rfl⟩:=bX.mp q;split
  . exact h.x
  . exact j
 have e:cV g.2 ((bu g.1 r).map λv=>if v=1 then 10 else eU 10) 4=tab 4 λ_=>ak g.2 (r:Nat):=by
  refine bU λZ i=>?_;rw[c9];rcases aL 10 Z with z | z
  . have:(bu g.1 r).map ((λt=>ak t (Z:Nat))∘λv=>if v=1 then 10 else eU 10)=rJ (bu g.1 r):=by
     refine cp λv l=>?_;show ak (if v=1 then 10 else eU 10) (Z:Nat)=1 - v;rcases lA l with e | e
     . rw[e,if_neg (by decide),zL i,z]
     . rw[e,if_pos rfl,z];rfl
    rw[this,xN,bB,bW p,Y]
  . have:(bu g.1 r).map ((λt=>ak t (Z:Nat))∘λv=>if v=1 then 10 else eU 10)=bu g.1 r:=by
     refine (cp λv l=>?_).trans (sk _);show ak (if v=1 then 10 else eU 10) (Z:Nat)=v;rcases lA l with e | e
     . rw[e,if_neg (by decide),zL i,z];rfl
     . rw[e,if_pos rfl,z]
    rw[this,bW p]
 rw[e] at k;rcases aL g.2 r with z | z
 . rw[z,tab0] at k;exact ⟨k,by have:=o _ k;rwa [show eU 0=15 by decide] at this⟩
 . rw[z,acC] at k;exact ⟨by have:=o _ k;rwa [show eU 15=0 by decide] at this,k⟩
theorem afk:ak 0 (r:Nat)=0:=by rw[ak,y2];rfl
theorem ael(h:r<4):ak 15 (r:Nat)=1:=by
 have:∀r<4,ak 15 ((r:Nat):Int)=1:=by decide
 exact this r h
noncomputable def cst(v:Int):Int:=if v=1 then 15 else 0
theorem aai(h:v=0\/v=1)(Y:r<4):ak (cst v) (r:Nat)=v:=by
 unfold cst;rcases h with rfl | rfl
 . rw[if_neg (by decide),afk]
 . rw[if_pos rfl,ael Y]
theorem Dw(h0:F 0)(Y:F 15)(v:Int):F (cst v):=by
 unfold cst;split
 . exact Y
 . exact h0
theorem oZ(h:bH xs)(Y:r<4):(xs.map cst).map (λt=>ak t (r:Nat))=xs:=by
 rw[c9];exact (cp λv Z=>aai (h v Z) Y).trans (sk _)
theorem Fam.Vh(h:Fam gs F)(h0:F 0)(D:F 15)(E:g∈gs)(Z:¬ Kp g.2 2 [0,2,3] g.1):∀t,F t->F (eU t):=by
 rw[Z5] at Z;have ⟨r,Z⟩:=fi.mp Z;have ⟨k,Z⟩:=fi.mp Z;have ⟨o,Z⟩:=fi.mp Z;have ⟨Y,Z⟩:=fi.mp Z;have b1:=aL g.2 r;have L:=aL g.2 ((r ||| 2^k:Nat));have J:ak g.2 (r:Nat)=1:=by lia
 have p:ak g.2 ((r ||| 2^k:Nat))=0:=by lia
 have j:=wb o (sm (by decide) Y);have q:(bu g.1 r).getD k 0=0:=by
  rcases o8 (bH.bu) k with z | z
  . exact z
  . exfalso
    have:bu g.1 (r ||| 2^k)=bu g.1 r:=by
     rw[Er Y];refine k9 λi=>?_;rw[wa]
     by_cases e:k=i
     . subst e;rw[if_pos rfl,if_pos (by rw[bB];exact Y)];rw[ae,av (by rw[bB];exact Y)] at z;rw[av (by rw[bB];exact Y)];exact congrArg some z.symm
     . rw[if_neg e]
    have:=congrArg aV this;rw[bW j,bW o] at this;rw[this] at p;lia
 have s:(bu g.1 r).set k 0=bu g.1 r:=by
  refine k9 λi=>?_;rw[wa]
  by_cases e:k=i
  . subst e;rw[if_pos rfl,if_pos (by rw[bB];exact Y)];rw[ae,av (by rw[bB];exact Y)] at q;rw[av (by rw[bB];exact Y)];exact congrArg some q.symm
  . rw[if_neg e]
 intro t H;have B:=h.clo g E (((bu g.1 r).map cst).set k t) (by rw[fq,ag,bB]) λu C=>by
  rcases List.mem_or_eq_of_mem_set C with z | z
  . obtain ⟨v,_,rfl⟩:=bX.mp z;exact Dw h0 D v
  . rw[z];exact H
 have e:cV g.2 (((bu g.1 r).map cst).set k t) 4=eU t:=by
  refine bU λI l=>?_;rw[List.map_set,oZ bH.bu l];rcases aL t I with z | z
  . rw[z,s,bW o,J];rfl
  . rw[z,<- Er Y,bW j,p];rfl
 rwa [e] at B
noncomputable def Ea(b:Int)(pre mid suf:B3):Int:=ak b (aV (pre++0::(mid++0::suf)))+ak b (aV (pre++1::(mid++0::suf)))+ak b (aV (pre++0::(mid++1::suf)))+ak b (aV (pre++1::(mid++1::suf)))
theorem JP(k:Nat)(ys:B3):aI (k+1) (0:Int)++ys=aI k 0++0::ys:=by
 rw[sj,dy];rfl
theorem acp(k:Nat):bH (aI k 0):=λx Y=>.inl (kR Y)
theorem Jx(h:∀pre Y Z:B3,bH pre->bH Y->bH Z->pre.length+Y.length+Z.length+2=m->Ea b pre Y Z % 2=0)(k:Nat):∀(ys:B3) (j:Nat),bH ys->k+1+j+ys.length=m ->
 (ak b (aV (aI k 0++1::(aI j 0++ys)))+ak b (aV (aI k 0++0::(aI j 0++ys)))) % 2=(ak b (aV (aI k 0++1::aI (j+ys.length) 0))+ak b (aV (aI k 0++0::aI (j+ys.length) 0))) % 2
 | [],j,_,_=>by rw[c8];rfl
 | y::ys,j,e,l=>by
  rw[bo] at l;have i:=Jx h k ys (j+1) e.tail (by lia);rw[JP,show j+1+ys.length=j+(y::ys).length by rw[bo];lia] at i;rcases e y br with rfl | rfl
  . exact i
  . have d:=h (aI k 0) (aI j 0) ys (acp k) (acp j) e.tail (by rw[cf,cf];lia);unfold Ea at d;rw[<- i];lia
theorem z8(h:∀pre Z e:B3,bH pre->bH Z->bH e->pre.length+Z.length+e.length+2=m->Ea b pre Z e % 2=0):Kp b 4 jd m:=by
 have up:∀(Y:B3) (k:Nat),bH Y->k+Y.length=m->ak b (aV (aI k 0++Y)) % 2=(ak b 0+ir b k Y) % 2:=by
  intro Y
  induction Y with
  | nil=>
   intro k _ _;rw[c8,iU];show _=(ak b 0+0) % 2;lia
  | cons x Y i=>
   intro k j o;rw[bo] at o;have i:=i (k+1) j.tail (by lia);rw[JP] at i;show _=(ak b 0+(x*wgt b k+ir b (k+1) Y)) % 2;rcases j x br with rfl | rfl
   . rw[i];lia
   . have d:=Jx h k Y 0 j.tail (by lia);rw[lx,eL,x4] at d;have l:∀(k:Nat) (ys:B3),aV (aI k 0++ys)=2^k*aV ys:=λk ys=>by
      induction k with
      | zero=>rw[lx,eL];lia
      | succ k i=>rw[fh,gX,cQ,i,j3,tp (2^k) 2,pj];lia
     rw[show aV (aI k 0++1::aI Y.length 0)=2^k by rw[l,cQ,iU];lia,show aV (aI k 0++0::aI Y.length 0)=0 by rw[l,cQ,iU];lia] at d;unfold wgt;lia
 rw[aaQ];intro r p;have k:=up (bu m r) 0 bH.bu (by rw[bB];lia);rw[lx,eL,bW p,<- vY] at k;have:=aL b r;lia
theorem Fam.odd(h:Fam gs F)(h0:F 0)(j:F 15)(B:g∈gs)(i:¬ Kp g.2 4 jd g.1):∃H:Int->Int->Int,(∀a b,H a b=0\/H a b=1)/\(H 0 0+H 1 0+H 0 1+H 1 1) % 2=1/\∀p q,F p->F q->F (tab 4 λr=>H (ak p (r:Nat)) (ak q (r:Nat))):=by
 have i:=λz=>i (z8 z);have ⟨pre,i⟩:=fi.mp i;have ⟨Y,i⟩:=fi.mp i;have ⟨Z,i⟩:=fi.mp i;have ⟨u,i⟩:=fi.mp i;have ⟨E,i⟩:=fi.mp i;have ⟨C,i⟩:=fi.mp i;have ⟨I,i⟩:=fi.mp i;refine ⟨λa b=>ak g.2 (aV (pre++a::(Y++b::Z))),λ_ _=>aL _ _,?_,λp q D s=>?_⟩
 . unfold Ea at i;show (ak g.2 (aV (pre++0::(Y++0::Z)))+ak g.2 (aV (pre++1::(Y++0::Z)))+ak g.2 (aV (pre++0::(Y++1::Z)))+ak g.2 (aV (pre++1::(Y++1::Z)))) % 2=1;lia
 . have k:=h.clo g B (pre.map cst++p::(Y.map cst++q::Z.map cst)) (by simp;lia) λt o=>by
    simp only[ck,b9,bX] at o;rcases o with ⟨v,_,rfl⟩ | rfl | ⟨v,_,rfl⟩ | rfl | ⟨v,_,rfl⟩
    . exact Dw h0 j v
    . exact D
    . exact Dw h0 j v
    . exact s
    . exact Dw h0 j v
   have e:cV g.2 (pre.map cst++p::(Y.map cst++q::Z.map cst)) 4=tab 4 λr=>ak g.2 (aV (pre++ak p (r:Nat)::(Y++ak q (r:Nat)::Z))):=by
    refine bU λr l=>?_;rw[be,bq,be,bq,oZ u l,oZ E l,oZ C l]
   rwa [e] at k
theorem Fam.and(C:∀t,F t->F (eU t)){H:Int->Int->Int}(l:∀a b,H a b=0\/H a b=1)(J:(H 0 0+H 1 0+H 0 1+H 1 1) % 2=1)(L:∀p q,F p->F q->F (tab 4 λr=>H (ak p (r:Nat)) (ak q (r:Nat)))):∀p q,F p->F q->F (uf p q):=by
 intro p q E I;have go:∀(n1 n2 n3:Bool),(∀a b:Int,(a=0\/a=1)->(b=0\/b=1)->(if n3=true then 1 - H (if n1=true then 1 - a else a) (if n2=true then 1 - b else b) else H (if n1=true then 1 - a else a) (if n2=true then 1 - b else b))=a*b)->F (uf p q):=λn1 n2 n3 hh=>by
  have B:F (if n1=true then eU p else p):=by split;(· exact C p E);exact E
  have u:F (if n2=true then eU q else q):=by split;(· exact C q I);exact I
  have k:=L _ _ B u;have P:∀r:Nat,r<4->ak (if n1=true then eU p else p) (r:Nat)=if n1=true then 1 - ak p (r:Nat) else ak p (r:Nat):=λr o=>by
   split
   . exact zL o
   . rfl
  have Q:∀r:Nat,r<4->ak (if n2=true then eU q else q) (r:Nat)=if n2=true then 1 - ak q (r:Nat) else ak q (r:Nat):=λr o=>by
   split
   . exact zL o
   . rfl
  have e:(tab 4 λr=>H (ak (if n1=true then eU p else p) (r:Nat)) (ak (if n2=true then eU q else q) (r:Nat)))=tab 4 λr=>H (if n1=true then 1 - ak p (r:Nat) else ak p (r:Nat)) (if n2=true then 1 - ak q (r:Nat) else ak q (r:Nat)):=bU λr o=>by rw[P r o,Q r o]
  rw[e] at k
  cases n3 with
  | false=>
   have:(tab 4 λr=>H (if n1=true then 1 - ak p (r:Nat) else ak p (r:Nat)) (if n2=true then 1 - ak q (r:Nat) else ak q (r:Nat)))=uf p q:=bU λr _=>by
    have:=hh _ _ (aL p r) (aL q r);rwa [if_neg (by decide)] at this
   rwa [this] at k
  | true=>
   have k:=C _ k;have:eU (tab 4 λr=>H (if n1=true then 1 - ak p (r:Nat) else ak p (r:Nat)) (if n2=true then 1 - ak q (r:Nat) else ak q (r:Nat)))=uf p q:=by
    refine bU λr o=>?_;rw[gB (λr=>l _ _) o];have:=hh _ _ (aL p r) (aL q r);rwa [if_pos rfl] at this
   rwa [this] at k
 have fill:∀(n1 n2 n3:Bool) (Y i j Z:Int),H 0 0=Y->H 1 0=i->H 0 1=j->H 1 1=Z ->
  ((if n3=true then 1 - (if n1=true then (if n2=true then Z else i) else (if n2=true then j else Y)) else (if n1=true then (if n2=true then Z else i) else (if n2=true then j else Y)))=0) ->
  ((if n3=true then 1 - (if n1=true then (if n2=true then j else Y) else (if n2=true then Z else i)) else (if n1=true then (if n2=true then j else Y) else (if n2=true then Z else i)))=0) ->
  ((if n3=true then 1 - (if n1=true then (if n2=true then i else Z) else (if n2=true then Y else j)) else (if n1=true then (if n2=true then i else Z) else (if n2=true then Y else j)))=0) ->
  ((if n3=true then 1 - (if n1=true then (if n2=true then Y else j) else (if n2=true then i else Z)) else (if n1=true then (if n2=true then Y else j) else (if n2=true then i else Z)))=1)->F (uf p q):=by
  intro n1 n2 n3 Y i j Z e00 e10 e01 e11 v D z s;refine go n1 n2 n3 λa b O M=>?_;cases n1 <;> cases n2 <;> cases n3 <;> rcases O with rfl | rfl <;> rcases M with rfl | rfl <;> simp[e10,e11] at v D z s ⊢ <;> lia
 rcases l 0 0 with e00 | e00 <;> rcases l 1 0 with e10 | e10 <;> rcases l 0 1 with e01 | e01 <;> rcases l 1 1 with e11 | e11 <;> rw[e00,e10,e01,e11] at J <;> first
  | exact absurd J (by decide)
  | exact fill false false false _ _ _ _ e00 e10 e01 e11 (by decide) (by decide) (by decide) (by decide)
  | exact fill false false true _ _ _ _ e00 e10 e01 e11 (by decide) (by decide) (by decide) (by decide)
  | exact fill false true false _ _ _ _ e00 e10 e01 e11 (by decide) (by decide) (by decide) (by decide)
  | exact fill false true true _ _ _ _ e00 e10 e01 e11 (by decide) (by decide) (by decide) (by decide)
  | exact fill true false false _ _ _ _ e00 e10 e01 e11 (by decide) (by decide) (by decide) (by decide)
  | exact fill true false true _ _ _ _ e00 e10 e01 e11 (by decide) (by decide) (by decide) (by decide)
  | exact fill true true false _ _ _ _ e00 e10 e01 e11 (by decide) (by decide) (by decide) (by decide)
  | exact fill true true true _ _ _ _ e00 e10 e01 e11 (by decide) (by decide) (by decide) (by decide)
theorem Fam.full(h:Fam gs F)(k1:∃g∈gs,¬ Kp g.2 1 [0] g.1)(k2:∃g∈gs,¬ Kp g.2 1 [1] g.1)(O:∃g∈gs,¬ Kp g.2 2 [1,2] g.1)(k4:∃g∈gs,¬ Kp g.2 2 [0,2,3] g.1)(k5:∃g∈gs,¬ Kp g.2 4 jd g.1):∀n:Nat,n<16->F (n:Nat):=by
 have base:(F 0/\F 15)/\∀t,F t->F (eU t):=by
  obtain ⟨e,I,P⟩:=k1;obtain ⟨l,C,h1⟩:=k2;obtain ⟨g3,B,u⟩:=O;obtain ⟨g4,m4,J⟩:=k4;rw[abP] at P;rw[ZV] at h1;have z:ak e.2 0=1:=by have:=aL e.2 0;lia
  have E:ak l.2 (2^l.1 - 1)=0:=by have:=aL l.2 (2^l.1 - 1);lia
  by_cases c0:ak e.2 (2^e.1 - 1)=0
  . have Y:∀t,F t->F (eU t):=λt r=>h.not_of I z c0 r;exact ⟨h.Ck Y B u,Y⟩
  . by_cases S:ak l.2 0=1
    . have Y:∀t,F t->F (eU t):=λt r=>h.not_of C S E r;exact ⟨h.Ck Y B u,Y⟩
    . have d0:ak e.2 (2^e.1 - 1)=1:=by have:=aL e.2 (2^e.1 - 1);lia
      have d1:ak l.2 0=0:=by have:=aL l.2 0;lia
      have Z:=h.JQ I z d0;have o:=h.JQ C d1 E;rw[acC] at Z;rw[tab0] at o;exact ⟨⟨o,Z⟩,h.Vh o Z m4 J⟩
 obtain ⟨⟨o,Z⟩,Y⟩:=base;obtain ⟨g5,m5,h5⟩:=k5;obtain ⟨H,s,ho,hc⟩:=h.odd o Z m5 h5;have p:=Fam.and Y s ho hc;have j:=h.x;have i:=h.y;have D:=by have:=Y _ j;rwa [show eU 10=5 by decide] at this
 have v:=by have:=Y _ i;rwa [show eU 12=3 by decide] at this
 have L:=by have:=p _ _ j i;rwa [show uf 10 12=8 by decide] at this
 have f2:=by have:=p _ _ j v;rwa [show uf 10 3=2 by decide] at this
 have Q:=by have:=p _ _ D i;rwa [show uf 5 12=4 by decide] at this
 have f1:=by have:=p _ _ D v;rwa [show uf 5 3=1 by decide] at this
 have R:=by have:=Y _ L;rwa [show eU 8=7 by decide] at this
 have f13:=by have:=Y _ f2;rwa [show eU 2=13 by decide] at this
 have f11:=by have:=Y _ Q;rwa [show eU 4=11 by decide] at this
 have q:=by have:=Y _ f1;rwa [show eU 1=14 by decide] at this
 have M:=by have:=p _ _ R q;rwa [show uf 7 14=6 by decide] at this
 have f9:=by have:=Y _ M;rwa [show eU 6=9 by decide] at this
 intro n U;have:n=0\/n=1\/n=2\/n=3\/n=4\/n=5\/n=6\/n=7\/n=8\/n=9\/n=10\/n=11\/n=12\/n=13\/n=14\/n=15:=by lia
 rcases this with rfl | rfl | rfl | rfl | rfl | rfl | rfl | rfl | rfl | rfl | rfl | rfl | rfl | rfl | rfl | rfl <;> assumption
end
inductive qx (n:Nat):ab->(Nat->Int)->Nat->Nat->Prop
 | inp {i:Nat} (hi:i<n):qx n (.int (i:Nat)) (λr=>ak (r:Nat) (i:Nat)) 0 0
 | not {d:ab}{v:Nat->Int}{w k:Nat} (h:qx n d v w k):qx n (dT 1 1 [d]) (λr=>1 - v r) (w+3) (k+1)
 | v5 {d e:ab}{v u:Nat->Int}{w x k l:Nat} (h:qx n d v w k) (h':qx n e u x l):qx n (dT 2 7 [d,e]) (λr=>1 - v r*u r) (w+x+16) (max k l+1)
noncomputable def wt(s:aA):Nat:=if s.m=1 then 3 else 16
noncomputable def stW(ss:List aA):Nat:=(ss.map wt).sum
noncomputable def NNs(ss:List aA):Prop:=∀s∈ss,(s.m=1/\s.b=1)\/(s.m=2/\s.b=7)
variable {a:List aA}
theorem NNs.app(h:NNs a)(h':NNs ss):NNs (a++ss):=λs Y=>(ck.mp Y).elim (h s) (h' s)
theorem uX{b:List aA}:stW (a++b)=stW a+stW b:=by unfold stW;rw[be,sQ]
theorem qx.v01{d:ab}{v:Nat->Int}(h:qx j d v w W):∀r,v r=0\/v r=1:=by
 induction h with
 | inp l=>exact λr=>aL _ _
 | not h e=>exact λr=>by rcases e r with z | z <;> simp only[z] <;> decide
 | v5 h i Z Y=>exact λr=>by rcases Z r with z | z <;> rcases Y r with y | y <;> simp only[z,y] <;> decide
theorem aav(h:x=0\/x=1):ak 1 (aV [x])=1 - x:=by
 rcases h with rfl | rfl <;> decide
theorem VJ(h:x=0\/x=1)(h':y=0\/y=1):ak 7 (aV [x,y])=1 - x*y:=by
 rcases h with rfl | rfl <;> rcases h' with rfl | rfl <;> decide
theorem qx.ok{d:ab}{v:Nat->Int}(h:qx j d v w W):∀K,W<=K->m8 j K d/\(∀r,Iz r K d=v r)/\∀zd,∃more,(dM j K zd d).1=zd++more/\NNs more/\stW more<=w:=by
 induction h with
 | inp P=>exact λK _=>⟨m8.inp P,λr=>JW,λzd=>⟨[],by rw[Aq,c8],(λs Y=>by cases Y),ay _⟩⟩
 | @not d v w W h R=>
  intro K H;obtain ⟨K,rfl⟩:∃q,K=q+1:=⟨K - 1,by lia⟩;obtain ⟨o,Z,z⟩:=R K (by lia);refine ⟨.inr ⟨1,1,[d],by decide,by decide,by decide,rfl,rfl,λe S=>by rw[aw.mp S];exact o⟩,λr=>?_,λzd=>?_⟩
  . rw[yN,bq,fe,Z r];exact aav (h.v01 r)
  . obtain ⟨more,e,p,O⟩:=z zd;rw[t8,show fV (dM j K) zd [d]=((dM j K zd d).1,[(dM j K zd d).2]) from rfl,e];exact ⟨more++[⟨1,1,[(dM j K zd d).2]⟩],dy _ _ _,p.app λs Y=>by rw[aw.mp Y];exact .inl ⟨rfl,rfl⟩,by rw[uX];show stW more+3<=_;lia⟩
 | @v5 d e v u w x W l h J i E=>
  intro K H;obtain ⟨K,rfl⟩:∃q,K=q+1:=⟨K - 1,by lia⟩;obtain ⟨o,Z,z⟩:=i K (by lia);obtain ⟨D,I,L⟩:=E K (by lia);refine ⟨.inr ⟨2,7,[d,e],by decide,by decide,by decide,rfl,rfl,λf hf=>?_⟩,λr=>?_,λzd=>?_⟩
  . rcases b9.mp hf with rfl | hf
    . exact o
    . rw[aw.mp hf];exact D
  . rw[yN,bq,bq,fe,Z r,I r];exact VJ (h.v01 r) (J.v01 r)
  . obtain ⟨B,M,p,O⟩:=z zd;obtain ⟨m2,Q,C,U⟩:=L (dM j K zd d).1;rw[t8,show fV (dM j K) zd [d,e]=((dM j K (dM j K zd d).1 e).1,[(dM j K zd d).2,(dM j K (dM j K zd d).1 e).2]) from rfl,Q,M];exact ⟨B++(m2++[⟨2,7,_⟩]),by rw[dy,dy],p.app (C.app λs Y=>by rw[aw.mp Y];exact .inr ⟨rfl,rfl⟩),by rw[uX,uX];show stW B+(stW m2+16)<=_;lia⟩
noncomputable def gQ(n:Nat)(d:ab)(u:Nat->Int)(x l:Nat):Prop:=∃v w k,qx n d v w k/\(∀r,v r=u r)/\w<=x/\k<=l
theorem gQ.inp{n i:Nat}(Y:i<n):gQ n (.int (i:Nat)) (λr=>ak (r:Nat) (i:Nat)) 0 0:=⟨_,_,_,.inp Y,λ_=>rfl,ay _,ay _⟩
variable {u:Nat->Int}
theorem gQ.ext{d:ab}{v:Nat->Int}(h:gQ j d u W i)(e:∀r,u r=v r)(z:W<=p)(s:i<=m):gQ j d v p m:=by
 obtain ⟨Y,w,k,Z,l,o,q⟩:=h;exact ⟨Y,w,k,Z,λr=>(l r).trans (e r),by lia,by lia⟩
theorem gQ.v5{n:Nat}{d e:ab}{u v:Nat->Int}{x y l m:Nat}(h:gQ n d u x l)(h':gQ n e v y m):gQ n (dT 2 7 [d,e]) (λr=>1 - u r*v r) (x+y+16) (max l m+1):=by
 obtain ⟨B,q,k1,Y,Z,s,p⟩:=h;obtain ⟨z,j,k2,b1,i,o,C⟩:=h';exact ⟨_,_,_,.v5 Y b1,λr=>by simp only[Z r,i r],by lia,by lia⟩
theorem lK{d:ab}(h:gQ j d u W p):∃e,cF [d]= .ok e/\gQ j e (λr=>1 - u r) (W+3) (p+1):=by
 obtain ⟨v,w,k,q,Z,C,B⟩:=h;have ne:∀{d:ab},cF [d]= .ok (dT 1 1 [d])->qx j d v w k->∃e,cF [d]= .ok e/\gQ j e (λr=>1 - u r) (W+3) (p+1):=λe a=>⟨_,e,_,_,_,.not a,λr=>by simp only[Z r],by lia,by lia⟩
 cases q with
 | @inp i l=>
  refine ne ?_ (.inp l);unfold cF;ext;rw[uZ];ext;rfl
 | @not d Y s o a=>
  refine ⟨d,?_,Y,s,o,a,λr=>?_,by lia,by lia⟩
  . unfold cF dT;ext;rw[oJ];ext;rw[show eqD (dG 1 1) gr= .ok (.bool true) by unfold gr;exact Io];ext
  . have:1 - Y r=u r:=Z r;show Y r=1 - u r;lia
 | @v5 d e H E D z k1 k2 a b=>
  refine ne ?_ (.v5 a b);unfold cF dT;ext;rw[oJ];ext;rw[show eqD (dG 2 7) gr= .ok (.bool false) by unfold gr;exact Io];ext;rfl
theorem Vi:bu j (r % 2^j)=bu j r:=by
 have h:=uB (xs:=bu j r) λx Y=>lA Y;rwa [bB,ug,dS] at h
theorem Je(Y:b=0\/b=1)(h:((r / 2^j % 2:Nat):Int)=b):ak (eV j x j b) ((r % 2^j:Nat):Int)=ak x ((r % 2^(j+1):Nat):Int):=by
 rw[Zd Y (ve _ (yA (by decide))),Vi];have e:lF j b (bu j r)=bu (j+1) r:=by
  rw[lF,ur,h,iN (by rw[bB];exact ay _),x6 (by rw[bB];exact ay _)]
 rw[e,ug]
theorem HR:ak (r:Nat) (j:Nat)=((r / 2^j % 2:Nat):Int):=by
 rw[ak,dS,Int.natCast_emod,Int.natCast_ediv,Int.natCast_pow];rfl
theorem Pz{r:Int}:ak 0 r=0:=by rw[ak,y2];rfl
noncomputable def wN:Nat->Nat
 | 0=>0
 | 1=>9
 | n+2=>2*wN (n+1)+51
theorem adD:∀n,wN n<=wN (n+1)
 | 0=>by decide
 | n+1=>by rw[show wN (n+1+1)=2*wN (n+1)+51 from rfl];lia
theorem aab{n:Nat}{p:Prop}[Decidable p](Y:j<=3)(h:n=0->¬ p):(if p then j+wN n+16 else j+3)+3<=wN (n+1):=by
 match n with
 | 0=>
  rw[if_neg (h rfl)];show j+3+3<=9;lia
 | n+1=>
  rw[show wN (n+1+1)=2*wN (n+1)+51 from rfl];split <;> lia
theorem aaL{n:Nat}{p q:Prop}[Decidable p][Decidable q](h:n≠0):(if p then 0+3+wN n+16 else 0+3+3)+(if q then 0+wN n+16 else 0+3)+16<=wN (n+1):=by
 match n with
 | 0=>exact absurd rfl h
 | n+1=>
  rw[show wN (n+1+1)=2*wN (n+1)+51 from rfl];split <;> split <;> lia
theorem TF{there:ab}(C:W<=3)(h0:0<=x)(B:x<2^2^W)(i:gQ j there u p m)
 (s:0<x->x<2^2^W - 1->∃d,cG w [dG W x]= .ok d/\gQ j d (λr=>ak x ((r % 2^W:Nat):Int)) (wN W) (3*W)) :
 ∃ds,rF (cG w) [dG W x,there]= .ok (.list ds)/\((x=0/\ds=[])\/(x≠0/\∃d,ds=[d]/\gQ j d (λr=>1 - u r*ak x ((r % 2^W:Nat):Int)) (if x<2^2^W - 1 then p+wN W+16 else p+3) (max m (3*W)+1))):=by
 unfold rF
 by_cases Y:x=0
 . subst Y;refine ⟨[],?_,.inl ⟨rfl,rfl⟩⟩;ext
 . by_cases Z:x<2^2^W - 1
   . obtain ⟨d,e,hd⟩:=s (by lia) Z;refine ⟨[dT 2 7 [there,d]],?_,.inr ⟨Y,_,rfl,?_⟩⟩
     . ext;rw[decide_eq_false Y];ext;rw[gW (by lia)];ext;rw[decide_eq_false (by lia)];ext;rw[e];ext;rfl
     . rw[if_pos Z];exact (i.v5 hd).ext (λ_=>rfl) (ay _) (ay _)
   . have l:x=2^2^W - 1:=by lia
     obtain ⟨o,q,v⟩:=lK i;refine ⟨[o],?_,.inr ⟨Y,_,rfl,?_⟩⟩
     . ext;rw[decide_eq_false Y];ext;rw[gW (by lia)];ext;rw[decide_eq_true l];ext;rw[q];ext
     . rw[if_neg Z];refine v.ext (λr=>?_) (ay _) (by lia);have:ak x ((r % 2^W:Nat):Int)=1:=by
        rw[l];have z:(2:Int)^2^W - 1=tab (2^W) λ_=>1:=by rw[jA,sh]
        rw[z];exact gB (λ_=>.inr rfl) (ve _ (yA (by decide)))
       rw[this,sh]
theorem sS:cG (j+1) ds=fnR 5 (aG (aU 1 (ao jl (ao zI (aj 0) (eC (.int 0))) (eC (.int 1))))
 (aG (aU 2 (aF jG [(aj 0),(aj 1),(eC (.int 0))]))
 (aG (aU 3 (aF jG [(aj 0),(aj 1),(eC (.int 1))]))
 (aG (sIf (ao eqD (aj 2) (aj 3)) (bA (aF (cG j) [(aj 2)])) cP)
 (aG (aU 4 (ao c7 (aF (rF (cG j)) [(aj 2),(aF cF [(aj 1)])]) (aF (rF (cG j)) [(aj 3),(aj 1)])))
 (aG (sIf (ao eqD (eFn il [(aj 4)]) (eC (.int 1))) (bA (aF cF [(ao zI (aj 4) (eC (.int 0)))])) cP)
 (bA (cI [(eC dZ),(eFn fB [(aj 4)])])))))))) ds:=rfl
theorem DW{N:Nat}:∀(n fu:Nat) (t:Int),n<=4->n<=N->n<=fu->0<t->t<2^2^n - 1->∃d,cG fu [dG n t]= .ok d/\gQ N d (λr=>ak t ((r % 2^n:Nat):Int)) (wN n) (3*n)
 | 0,fu,t,_,_,_,h0,C=>by
  have C:=C;lia
 | n+1,0,t,_,_,M,_,_=>by lia
 | n+1,fu+1,t,hn,hN,M,h0,C=>by
  have lt:=λw=>ab5 n t n w;have nn:=λw=>Qe n t n w;have L:∀r:Nat,ak (r:Nat) (n:Nat)=0\/ak (r:Nat) (n:Nat)=1:=λr=>aL _ _;have p:∀r:Nat,ak (r:Nat) (n:Nat)=0->ak t ((r % 2^(n+1):Nat):Int)=ak (eV n t n 0) ((r % 2^n:Nat):Int):=λr h=>(Je (.inl rfl) (by rw[<- HR];exact h)).symm;have s:∀r:Nat,ak (r:Nat) (n:Nat)=1->ak t ((r % 2^(n+1):Nat):Int)=ak (eV n t n 1) ((r % 2^n:Nat):Int):=λr h=>(Je (.inr rfl) (by rw[<- HR];exact h)).symm;rw[sS];have J:=Ce (b:=t) (j:=n) (by lia) (ay _) (.inl rfl);have e2:=Ce (b:=t) (j:=n) (by lia) (ay _) (.inr rfl);have n1:((n+1:Nat):Int) - 1=((n:Nat):Int):=by lia
  by_cases Y:eV n t n 0=eV n t n 1
  . have u:∀r:Nat,ak t ((r % 2^(n+1):Nat):Int)=ak (eV n t n 0) ((r % 2^n:Nat):Int):=λr=>by
     rcases L r with h | h
     . exact p r h
     . rw[s r h,Y]
    have B:∀v:Int,(∀r:Nat,ak (eV n t n 0) ((r % 2^n:Nat):Int)=v)->t=(2^2^(n+1) - 1)*v:=λv hv=>by
     have e0:tab (2^(n+1)) (λr=>ak t (r:Nat))=t:=De (λr=>aL _ _) (by lia) (by lia) λr _=>rfl;rw[<- e0,<- jA];exact bU λr hr=>by
      have:=u r;rw[xt hr] at this;rw[this,hv r]
    have E:eV n t n 0≠0:=λz=>by
     have:=B 0 λr=>by rw[z];rw[ak,y2];rfl
     lia
    have a1:eV n t n 0<2^2^n - 1:=by
     have:=lt 0;refine f6 λz=>?_;have H:eV n t n 0=2^2^n - 1:=by lia
     have:=B 1 λr=>by
      have J:(2:Int)^2^n - 1=tab (2^n) λ_=>1:=by rw[jA,sh]
      rw[H,J];exact gB (λ_=>.inr rfl) (ve _ (yA (by decide)))
     lia
    obtain ⟨d,e,hd⟩:=DW (N:=N) n fu (eV n t n 0) (by lia) (by lia) (by lia) (by have:=nn 0;lia) a1;refine ⟨d,?_,hd.ext (λr=>(u r).symm) ?_ (by lia)⟩
    . ext;rw[n1,J];ext;rw[e2];ext;rw[decide_eq_true Y];ext;rw[e];rfl
    . exact adD n
  . obtain ⟨o,eo,ho⟩:=lK (gQ.inp (n:=N) (i:=n) (by lia));have ih:∀w:Int,0<eV n t n w->eV n t n w<2^2^n - 1->∃d,cG fu [dG n (eV n t n w)]= .ok d/\gQ N d (λr=>ak (eV n t n w) ((r % 2^n:Nat):Int)) (wN n) (3*n):=λw P U=>DW n fu _ (by lia) (by lia) (by lia) P U;obtain ⟨l,ea,ha⟩:=TF (by lia) (nn 0) (lt 0) ho (ih 0);obtain ⟨Z,eb,O⟩:=TF (by lia) (nn 1) (lt 1) (gQ.inp (i:=n) (by lia)) (ih 1);have go:∀{q:ab},(l.length+Z.length=1->cF [(l++Z).getD 0 .none]= .ok q)->(l.length+Z.length≠1->q= .tuple [dZ,.tuple (l++Z)])->cG (fu+1) [dG (n+1) t]= .ok q:=λ{q} P U=>by
     have hl:(l++Z).length<=2:=by
      rcases ha with ⟨_,rfl⟩ | ⟨_,d,rfl,_⟩ <;> rcases O with ⟨_,rfl⟩ | ⟨_,S,rfl,_⟩ <;> simp
     rw[sS];ext;rw[n1,J];ext;rw[e2];ext;rw[decide_eq_false Y];ext;rw[eo];ext;rw[ea];ext;rw[eb];ext;rw[yJ (gp (Au (by rw[<- ai];lia)))];ext
     by_cases C:l.length+Z.length=1
     . rw[decide_eq_true (by rw[ai];lia)];ext;have hx:(l++Z)[0]?=some ((l++Z).getD 0 .none):=by
        rw[ae,av (by rw[ai];lia)];rfl
       rw[show zI (.list (l++Z)) (.int 0)= .ok ((l++Z).getD 0 .none) from ie (i:=0) hx];ext;rw[P C];rfl
     . rw[decide_eq_false (by rw[ai];lia),U C];ext
    rw[<- sS];have H:n=0->∀w,eV n t n w≠0->eV n t n w=1/\¬ eV n t n w<2^2^n - 1:=λz w hw=>by
     subst z;have C:eV 0 t 0 w<2:=lt w;have h2:=nn w;have h3:eV 0 t 0 w=1:=by lia
     exact ⟨h3,by rw[h3];decide⟩
    have hw:∀(w:Int) (I:Nat),I<=3->eV n t n w≠0->(if eV n t n w<2^2^n - 1 then I+wN n+16 else I+3)+3<=wN (n+1):=λw I hwy h=>aab hwy λz=>(H z w h).2;rcases ha with ⟨E,rfl⟩ | ⟨E,d,rfl,hd⟩
    . rcases O with ⟨b0,rfl⟩ | ⟨b0,S,rfl,D⟩
      . exact absurd (E.trans b0.symm) Y
      . obtain ⟨q,Q,R⟩:=lK D;refine ⟨q,go (λ_=>Q) (λz=>absurd rfl z),R.ext (λr=>?_) (hw 1 0 (by lia) b0) (by lia)⟩;rcases L r with h | h
        . rw[p r h,E,h,Pz];lia
        . rw[s r h,h];have:=aL (eV n t n 1) ((r % 2^n:Nat):Int);lia
    . rcases O with ⟨b0,rfl⟩ | ⟨b0,S,rfl,D⟩
      . obtain ⟨q,Q,R⟩:=lK hd;refine ⟨q,go (λ_=>Q) (λz=>absurd rfl z),R.ext (λr=>?_) (hw 0 3 (by lia) E) (by lia)⟩;rcases L r with h | h
        . rw[p r h,h];have:=aL (eV n t n 0) ((r % 2^n:Nat):Int);lia
        . rw[s r h,b0,h,Pz];lia
      . refine ⟨dT 2 7 [d,S],go (λz=>by cases z) (λ_=>rfl),(hd.v5 D).ext (λr=>?_) ?_ (by lia)⟩
        . have y0:=aL (eV n t n 0) ((r % 2^n:Nat):Int);have y1:=aL (eV n t n 1) ((r % 2^n:Nat):Int);rcases L r with h | h
          . rw[p r h,h];rcases y0 with z | z <;> rcases y1 with z' | z' <;> rw[z,z'] <;> decide
          . rw[s r h,h];rcases y0 with z | z <;> rcases y1 with z' | z' <;> rw[z,z'] <;> decide
        . exact aaL λz=>Y ((H z 0 E).1.trans (H z 1 b0).1.symm)
theorem Lg(D:j<=4)(v:1<=j)(h0:0<=x)(I:x<2^2^j):∃d,pC [dG j x]= .ok d/\gQ j d (λr=>ak x ((r % 2^j:Nat):Int)) 429 12:=by
 have u:gQ j (.int ((0:Nat):Int)) (λr=>ak (r:Nat) ((0:Nat):Int)) 0 0:=gQ.inp (by lia);obtain ⟨o,Y,C⟩:=lK u;have Y:cF [.int 0]= .ok o:=Y;have Z:=u.v5 C;have i:∀r:Nat,1 - ak (r:Nat) ((0:Nat):Int)*(1 - ak (r:Nat) ((0:Nat):Int))=1:=λr=>by
  rcases aL r ((0:Nat):Int) with z | z <;> rw[z] <;> decide
 unfold pC
 by_cases l:x=2^2^j - 1
 . refine ⟨dT 2 7 [.int 0,o],?_,Z.ext (λr=>?_) (by decide) (by decide)⟩
   . ext;rw[Y];ext;rw[gW (by lia)];ext;rw[decide_eq_true l];ext;rfl
   . rw[i r,l];have H:(2:Int)^2^j - 1=tab (2^j) λ_=>1:=by rw[jA,sh]
     rw[H];exact (gB (λ_=>.inr rfl) (ve _ (yA (by decide)))).symm
 . by_cases s:x=0
   . obtain ⟨q,p,B⟩:=lK Z;have p:cF [.tuple [dZ,.tuple [.int 0,o]]]= .ok q:=p;refine ⟨q,?_,B.ext (λr=>?_) (by decide) (by decide)⟩
     . ext;rw[Y];ext;rw[gW (by lia)];ext;rw[decide_eq_false l];ext;rw[decide_eq_true s];ext;rw[p];rfl
     . rw[i r,s,Pz];decide
   . obtain ⟨d,e,hd⟩:=DW j 8 x D (ay _) (by lia) (by lia) (by lia);have E:wN j<=429:=by
      rcases (by lia:j=1\/j=2\/j=3\/j=4) with rfl | rfl | rfl | rfl <;> decide
     refine ⟨d,?_,hd.ext (λ_=>rfl) E (by lia)⟩;ext;rw[Y];ext;rw[gW (by lia)];ext;rw[decide_eq_false l];ext;rw[decide_eq_false s];ext;rw[e];rfl
structure fU (gs:A9) (n:Nat) (t:Int) (k:Nat) (ss:List aA) (o:Nat):Prop where
 ok:aP n ss
 lt:o<n+ss.length
 gin:∀s∈ss,(s.m,s.b)∈gs
 val:∀r,r<2^n->(b8 n ss r).getD o 0=ak t (r:Nat)
 len:ss.length<=k
noncomputable def Bw(ss' ss:List aA):Prop:=∀s∈ss',∃t∈ss,s.m=t.m/\s.b=t.b
theorem Eg{n:Nat}{U:B3}{ss:List aA}:∀i,i<=ss.length->Bw (gq n U ss i).1 ss
 | 0,_=>λs Y=>by cases Y
 | i+1,e=>by
  have Z:=Eg (n:=n) (U:=U) (ss:=ss) i (by lia)
  by_cases h:((n+i:Nat):Int)∈U
  . rw[zU h];intro s Y;rcases ck.mp Y with z | z
    . exact Z s z
    . rw[aw.mp z];refine ⟨ss.getD i ⟨0,0,[]⟩,?_,rfl,rfl⟩;rw[ae,av (show i<ss.length by lia)];exact fA _
  . rw[wj h];exact Z
theorem Zn{n:Nat}(ss:List aA):Bw (eX n ss).1 ss:=by
 induction ss using snoc_ind with
 | h0=>intro s j;cases j
 | h ss s l=>
  rw[sU];unfold Bm;intro x Y;have old:∀y∈(eX n ss).1,∃t∈ss++[s],y.m=t.m/\y.b=t.b:=λy Z=>by
   obtain ⟨t,i,e⟩:=l y Z;exact ⟨t,da _ i,e⟩
  revert Y;split
  . exact λY=>old x Y
  . intro Y;rcases ck.mp Y with z | z
    . exact old x z
    . rw[aw.mp z];exact ⟨s,c6 _ br,rfl,rfl⟩
theorem Bw.trans{c:List aA}(h:Bw a ss)(k:Bw ss c):Bw a c:=λs e=>by
 obtain ⟨t,Y,o,i⟩:=h s e;obtain ⟨u,j,l,Z⟩:=k t Y;exact ⟨u,j,o.trans l,i.trans Z⟩
theorem Su{n:Nat}(hs:aP n ss)(I:n<=100)(L:ss.length<=5000)(C:o<n+ss.length) :
 ∃(Z:List aA) (o':Nat),o6 [dC n ss o]= .ok (dC n Z o')/\Alike n ss o Z o'/\Z.length<=ss.length/\Bw Z ss:=by
 obtain ⟨l,M,H,R⟩:=zq ss hs;have B:∀{r:Type} (p:Nat->Int->List r->r) (z:r) (base:List r),base.length=n->(cM p z base (eX n ss).1).getD ((eX n ss).2.getD o 0) z=(cM p z base ss).getD o z:=λp z base q=>Rc q ss hs o C;have J:=Zn (n:=n) ss;have Y:=R _ (zN (by rw[M];exact C));have D:=RT hs I L C;generalize (eX n ss).2.getD o 0=o1 at B Y D;generalize (eX n ss).1=s1 at l H B J Y D;have O:=Ip l I (by lia) Y;have E:HY n (dB n s1 o1 s1.length) s1:=λj s e h w Q=>.inr (uw l e h w Q);have i:=wL (n:=n) (ss:=s1) (o:=o1) s1.length;have u:=rz l E s1.length (ay _);obtain ⟨v,ev,P⟩:=u.has o1 Y (.inr i);refine ⟨(gq n (dB n s1 o1 s1.length) s1 s1.length).1,v,?_,⟨u.st,P,λp z base q=>?_⟩,cS u.len H,(Eg s1.length (ay _)).trans J⟩
 . unfold o6;ext;rw[D];ext;rw[O,ev];ext;rfl
 . rw[<- B p z base q];exact xm q l E _ (ay _) o1 v Y (.inr i) ev
theorem pR:b8 j ss r=cM (λ_ b xs=>ak b (aV xs)) 0 (bu j r) ss:=rfl
theorem Alike.vals(h:Alike j ss o a W):(b8 j a r).getD W 0=(b8 j ss r).getD o 0:=by
 rw[pR,pR];exact h.same _ 0 _ (bB j r)
theorem fU.shared(h:fU gs j x W ss o)(v:j<=100)(B:W<=5000):∃Y o',o6 [dC j ss o]= .ok (dC j Y o')/\fU gs j x W Y o':=by
 obtain ⟨Y,o',e,a,l,g⟩:=Su h.ok v (by have:=h.len;lia) h.lt;refine ⟨Y,o',e,a.ok,a.lt,λs p=>?_,λr q=>by rw[a.vals];exact h.val r q,cS l h.len⟩;obtain ⟨u,i,z,Z⟩:=g s p;rw[z,Z];exact h.gin u i
theorem fU.unused{n:Nat}(h:fU gs n b W ss o)(C:n<=100)(H:W<=5000):∃Z o',fY [dC n ss o]= .ok (dC n Z o')/\fU gs n b W Z o':=by
 have i:HY n (dB n ss o ss.length) ss:=λj s e hh w D=>.inr (uw h.ok e hh w D);have Y:=wL (n:=n) (ss:=ss) (o:=o) ss.length;have u:=rz h.ok i ss.length (ay _);obtain ⟨v,ev,B⟩:=u.has o h.lt (.inr Y);have e:=Ip h.ok C (by have:=h.len;lia) h.lt;rw[ev] at e;refine ⟨_,v,e,u.st,B,λs q=>?_,λr z=>?_,cS u.len h.len⟩
 . obtain ⟨x,l,E,p⟩:=Eg ss.length (ay _) s q;rw[E,p];exact h.gin x l
 . rw[<- h.val r z,pR,pR];exact xm (bB n r) h.ok i _ (ay _) o v h.lt (.inr Y) ev
theorem wC:bu m r=(List.range m).map λj=>ak (r:Nat) (j:Nat):=by
 refine cp λj _=>?_;rw[ak,dS,Int.natCast_emod,Int.natCast_ediv,Int.natCast_pow];rfl
section
variable  {n:Nat}
noncomputable def iZ(L:A6)(t:Int):Nat:=(aK L).idxOf t
noncomputable def uD(L:A6)(q:Int×Way):Option aA:=q.2.g.map λg=>⟨g.1,g.2,q.2.ts.map (iZ L)⟩
noncomputable def cX(L:A6)(i:Nat):List aA:=(L.take i).filterMap (uD L)
theorem pos_at(nd:(aK L).Nodup)(h:L[i]?=some q):iZ L q.1=i:=by
 have j:=(a0.mp h).1;have Z:(aK L)[i]?=some q.1:=by rw[aK,ba,h];rfl
 have Y:=d6 Z;have e:(aK L)[iZ L q.1]?=some q.1:=by
  rw[iZ,av (tw Y),List.getElem_idxOf]
 exact (List.getElem?_inj (tw Y) nd).mp (e.trans Z.symm)
theorem Cw(nd:(aK L).Nodup){p:Int}(h:p∈aK (L.take i)):iZ L p<i/\∃q,L[iZ L p]?=some q/\q.1=p:=by
 obtain ⟨q,Z,rfl⟩:=bX.mp h;obtain ⟨j,l,e⟩:=eK.mp Z;rw[dc] at l;have Y:L[j]?=some q:=by
  rw[av (by lia)];rw[oo] at e;rw[e]
 rw[pos_at nd Y];exact ⟨by lia,q,Y,rfl⟩
theorem uq(h:L[i]?=some q):cX L (i+1)=cX L i++(match uD L q with | some s=>[s] | none=>[]):=by
 rw[cX,take_snoc h,List.filterMap_append];congr 1;rw[lp,List.filterMap_nil];cases uD L q <;> rfl
structure ae4 (gs:A9) (n:Nat) (L:A6) (i:Nat):Prop where
 len:(cX L i).length=i - n
 ok:aP n (cX L i)
 gin:∀s∈cX L i,(s.m,s.b)∈gs
 val:n<=i->∀j q,j<i->L[j]?=some q->∀r,r<2^n->(b8 n (cX L i) r).getD j 0=ak q.1 (r:Nat)
theorem Wg(I:dX gs n L [])(F:pJ n L [])(U:∀g∈gs,g.1<=4/\0<=g.2/\g.2<2^2^g.1):∀i,i<=L.length->ae4 gs n L i
 | 0,_=>⟨by rw[cX,mm];show 0=0 - n;lia,by exact aP.nil,(λs o=>by cases o),λ_ j q S _=>by lia⟩
 | i+1,hi=>by
  have nd:=by have:=I.nd;rwa [show aK L++aK []=aK L from c8 _] at this
  have C:=Wg I F U i (by lia);obtain ⟨q,B⟩:∃q,L[i]?=some q:=⟨_,av (by lia)⟩;rcases I.vf i q B with ⟨Q,hb⟩ | ⟨g,l,P,h3,R,h5,h6⟩
  . obtain ⟨hin,hu⟩:=aeb I F B hb;have e:cX L (i+1)=cX L i:=by
     rw[uq B];rw[uD,Q];exact c8 _
    have hl:=C.len;have h0:cX L i=[]:=ip.mp (by lia);rw[h0] at e;refine ⟨by rw[e];show 0=_;lia,by rw[e];exact aP.nil,λs o=>(by rw[e] at o;cases o),λhn j q' S Y r H=>?_⟩;rw[e];show (bu n r).getD j 0=_;have v:j<n:=by lia
    have D:q'.1=gF n j:=by
     obtain ⟨O,_⟩:=tW F;have l:(L.take n)[j]?=some q':=by rw[kN v];exact Y
     rw[O] at l;unfold inW cj at l;rw[ba,ba,eg v] at l;cases l;rfl
    rw[D];rw[gF,gB (λ_=>aL _ _) H,wC,ae,ba,eg v];rfl
  . obtain ⟨g1,g2,g3⟩:=U g l;have E:n<=i:=by
     refine kn λz=>?_;obtain ⟨O,_⟩:=tW F;have Z:(L.take n)[i]?=some q:=by rw[kN z];exact B
     rw[O] at Z;unfold inW at Z;rw[ba] at Z;obtain ⟨x,hx,e2⟩:=lS.mp Z;have:q.2=fQ:=by rw[<- e2]
     rw[this] at P;cases P
    have es:uD L q=some ⟨g.1,g.2,q.2.ts.map (iZ L)⟩:=by rw[uD,P];rfl
    have e:cX L (i+1)=cX L i++[⟨g.1,g.2,q.2.ts.map (iZ L)⟩]:=by rw[uq B,es]
    have hl:=C.len;have J:∀w∈q.2.ts.map (iZ L),w<n+(cX L i).length:=λw Q=>by
     obtain ⟨p,M,rfl⟩:=bX.mp Q;have:=(Cw nd (R p M)).1;lia
    refine ⟨by rw[e,ai,cK];lia,by rw[e];exact C.ok.snoc ⟨g1,by rw[ag];exact h3,J,g2,g3⟩,λs o=>?_,λ_ j q' S Y r H=>?_⟩
    . rw[e] at o;rcases ck.mp o with z | z
      . exact C.gin s z
      . rw[aw.mp z];exact l
    . rw[e,iW];unfold stepV;have hvl:=gR (n:=n) (ss:=cX L i) (r:=r)
      by_cases u:j<i
      . rw[tu (by lia)];exact C.val E j q' u Y r H
      . have u:j=i:=by lia
        subst u;rw[B] at Y;cases Y;rw[ae,bE (by lia),show j - (b8 n (cX L j) r).length=0 by lia];show ak g.2 (aV ((q.2.ts.map (iZ L)).map _))=_;rw[<- h5];rw[bZ,gB (λ_=>aL _ _) H,c9];congr 2;refine cp λp M=>?_;obtain ⟨a1,q2,a2,a3⟩:=Cw nd (R p M);show (b8 n (cX L j) r).getD (iZ L p) 0=_;rw[C.val E _ q2 a1 a2 r H,a3]
theorem acS{f:Int->Nat}:ud [.dict (kvC ts f)]= .ok (.int (ts.length:Nat)):=by
 show zi.ok (ab.int ((kvC ts f).length:Nat))=_;rw[kvC,ag]
theorem wW(I:dX gs n L [])(F:pJ n L [])(s:∀g∈gs,g.1<=4/\0<=g.2/\g.2<2^2^g.1)(hL:L.length<=1000)(S:n<=100)(P:b∈aK L) :
 ∃ss o,fP [.dict (Ap L),.int b,.int (n:Nat)]= .ok (dC n ss o)/\fU gs n b (L.length - n) ss o:=by
 have nd:=by have:=I.nd;rwa [show aK L++aK []=aK L from c8 _] at this
 have W:=Wg I F s L.length (ay _);obtain ⟨_,v⟩:=tW F;have H:b∈aK (L.take L.length):=by rw[d4];exact P
 obtain ⟨p1,q,p2,p3⟩:=Cw nd H;have C:fU gs n b (L.length - n) (cX L L.length) (iZ L b):=⟨W.ok,by rw[W.len];lia,W.gin,λr hr=>by rw[W.val v _ q p1 p2 r hr,p3],by rw[W.len];exact ay _⟩;obtain ⟨ss,o,e,hC⟩:=C.unused S (by lia);refine ⟨ss,o,?_,hC⟩;unfold fP;ext;rw[show ∀R,mG [] R= .ok (.dict (kvC [] (iZ L))) from λ_=>rfl];ext;rw[show itI 0 [some (.dict (Ap L)),some (.int b),some (.int n),some (.dict (kvC [] (iZ L))),some (.list []),none,none]= .ok (L.map λq=>ab.tuple [.int q.1,wD q.2]) by
  show zi.ok ((Ap L).map (λq=>ab.tuple [q.1,q.2]))=_;rw[Ap,c9];rfl,zi.bf]
 refine bI (λi=>[some (.dict (Ap L)),some (.int b),some (.int n),some (.dict (kvC (aK (L.take i)) (iZ L))),some (.list ((cX L i).map aA.d)),none,none]) rfl (λi x hx=>?_) ?_
 . obtain ⟨⟨u,w⟩,Z,rfl⟩:=cU hx;have hi:=(a0.mp Z).1;have j:(aK (L.take i)).length=i:=by rw[aK,ag,dc];lia
   have B:iZ L u=i:=pos_at nd Z;have E:u∉aK (L.take i):=λz=>by have:=(Cw nd z).1;lia
   have Y:aK (L.take (i+1))=aK (L.take i)++[u]:=by rw[take_snoc Z];rw[aK,be];rfl
   show zi.bind (zi.bind (zi.ok ([some (.dict (Ap L)),some (.int b),some (.int (n:Nat)),some (.dict (kvC (aK (L.take i)) (iZ L))),some (.list ((cX L i).map aA.d)),some (.int u),some (wD w)]:Ev)) _) _=_;rw[zi.bf,gf,adZ (by
    ext;rw[acS,j,B]) rfl rfl E (by lia) (of_decide_eq_true rfl)]
   rw[<- Y];have O:=uq Z;rcases I.vf i (u,w) Z with ⟨J,hb⟩ | ⟨g,Q,D,M,l,h5,h6⟩
   . have J:=J;subst J;rw[show cX L (i+1)=cX L i by rw[O];exact c8 _];unfold wD fQ gD;ext;rw[show Dl .none .none= .ok (.bool false) from rfl];ext
   . obtain ⟨wc,wg,wt⟩:=w;have D:=D;have M:wt.length=g.1:=M;have l:=l;subst D;have m4:=(s g Q).1;have hsl:=(Wg I F s i (by lia)).len;rw[show cX L (i+1)=cX L i++[⟨g.1,g.2,wt.map (iZ L)⟩] by rw[O];rfl,be];unfold wD gD;ext;rw[show Dl (A0 g) .none= .ok (.bool true) from rfl];ext;rw[DG (ns:=wt) (λp=>.int (iZ L p:Nat)) ?_ (Au (by lia)) λp U=>?_]
     rotate_left
     . ext;rfl
     . ext;rw[Yv (by rw[Y];exact da _ (l p U))]
     ext;rw[bj (Au (by lia))];ext;unfold aA.d dN;rw[c9];rfl
 . rw[ag,d4];ext;rw[Yv P];ext;rw[show ab.tuple [.int (n:Nat),.tuple ((cX L L.length).map aA.d),.int (iZ L b:Nat)]=dC n (cX L L.length) (iZ L b) from rfl,e];ext
end
theorem MJ{n:Nat}(C:fU gs m b j ss o)(H:aP n zd)(i:∀s∈zd,(s.m,s.b)∈gs)(hh:hs.length=m)(Y:∀x∈hs,x<n+zd.length) :
 aP n (zd++ss.map (mv m (n+zd.length) hs))/\(∀s∈zd++ss.map (mv m (n+zd.length) hs),(s.m,s.b)∈gs)/\ren m (n+zd.length) hs o<n+(zd++ss.map (mv m (n+zd.length) hs)).length/\(zd++ss.map (mv m (n+zd.length) hs)).length<=zd.length+j /\
 ∀r,(∀w,w<n+zd.length->(b8 n (zd++ss.map (mv m (n+zd.length) hs)) r).getD w 0=(b8 n zd r).getD w 0)/\(b8 n (zd++ss.map (mv m (n+zd.length) hs)) r).getD (ren m (n+zd.length) hs o) 0=ak b (aV (hs.map λw=>(b8 n zd r).getD w 0)):=by
 have L:=C.len;refine ⟨ad8 H C.ok hh Y,λs l=>?_,?_,by rw[ai,ag];lia,λr=>?_⟩
 . rcases ck.mp l with z | z
   . exact i s z
   . obtain ⟨t,v,rfl⟩:=bX.mp z;exact C.gin t v
 . rw[ai,ag,<- se];exact aco hh Y C.lt
 . have Z:bH (hs.map λw=>(b8 n zd r).getD w 0):=bH.map λw _=>o8 uM w;have p:=uB Z;rw[ag,hh] at p;have I:=Za hh Y p ss C.ok;have q:=gR (n:=n) (ss:=zd) (r:=r);rw[I];refine ⟨λw M=>tu (by lia),?_⟩;have key:=NT hh (λx B=>by rw[q];exact Y x B) gR (λu D=>by rw[Bk D,p,getD_map (α:=Nat) (by lia)]) C.lt;rw[q] at key;have J:=j4 (Z.nn);have E:(aV (hs.map λw=>(b8 n zd r).getD w 0)).toNat<2^m:=by
    have:=uK Z;rw[ag,hh] at this;have e:((2^m:Nat):Int)=2^m:=by simp
    lia
   rw[key,C.val _ E,oQ J]
structure Rpl (gs:A9) (n:Nat) (ss:List aA) (i:Nat) (zd:List aA) (names:B5):Prop where
 nl:names.length=n+i
 ok:aP n zd
 gin:∀s∈zd,(s.m,s.b)∈gs
 lt:∀x∈names,x<n+zd.length
 val:∀r w,w<n+i->(b8 n zd r).getD (names.getD w 0) 0=(b8 n (ss.take i) r).getD w 0
 len:zd.length<=stW (ss.take i)
noncomputable def Fd(ssN:List aA)(oN:Nat)(ssA:List aA)(oA:Nat):ab:=.dict [(gr,dC 1 ssN oN),(dZ,dC 2 ssA oA)]
variable {ssN ssA:List aA}
theorem kit_at(p:fU gs 1 1 3 ssN j)(l:fU gs 2 7 16 ssA W)(h:(s.m=1/\s.b=1)\/(s.m=2/\s.b=7)) :
 ∃ss o,fU gs s.m s.b (wt s) ss o/\∀(Γ:Ev) (m:ME) (i:Nat),m Γ = .ok (dG s.m s.b)->gv Γ i=some (Fd ssN j ssA W)->JL i m Γ = .ok (dC s.m ss o):=by
 obtain ⟨m,b,ws⟩:=s;rcases h with ⟨Y,Z⟩ | ⟨Y,Z⟩
 . have Y:=Y;have Z:=Z;subst Y Z;exact ⟨ssN,j,p,λΓ m i e g=>by rw[JL,e,zi.bf,g];rfl⟩
 . have Y:=Y;have Z:=Z;subst Y Z;exact ⟨ssA,W,l,λΓ m i e g=>by rw[JL,e,zi.bf,g];rfl⟩
theorem Z8(h:ss[i]?=some s):stW (ss.take (i+1))=stW (ss.take i)+wt s:=by
 rw[nQ h,uX];rfl
theorem Qj{n:Nat}(hN:fU gs 1 1 3 ssN j)(Q:fU gs 2 7 16 ssA W)(hs:aP n ss)(O:NNs ss)(Z:stW ss<=4000)(hn:n<=100)(ho:o<n+ss.length) :
 ∃zd o',nC [dC n ss o,Fd ssN j ssA W]= .ok (dC n zd o')/\aP n zd/\(∀s∈zd,(s.m,s.b)∈gs)/\o'<n+zd.length/\zd.length<=stW ss/\∀r,(b8 n zd r).getD o' 0=(b8 n ss r).getD o 0:=by
 have M:∀l:List aA,l.length<=stW l:=λl=>by
  induction l with
  | nil=>exact ay _
  | cons s l ih=>
   have:stW (s::l)=wt s+stW l:=by unfold stW;rw[bq,ja]
   have h3:3<=wt s:=by unfold wt;split <;> lia
   rw[bo];lia
 have L:=λi=>by
  have:=uX (a:=ss.take i) (b:=ss.drop i);rw[mE] at this;lia
 have hsl:=M ss
 suffices hG:Gives (nC [dC n ss o,Fd ssN j ssA W]) λd=>∃zd o',d=dC n zd o'/\aP n zd/\(∀s∈zd,(s.m,s.b)∈gs)/\o'<n+zd.length/\zd.length<=stW ss/\∀r,(b8 n zd r).getD o' 0=(b8 n ss r).getD o 0 by
  obtain ⟨d,e,zd,o',rfl,h⟩:=hG;exact ⟨zd,o',e,h⟩
 unfold nC;ext;rw[Py];ext;rw[bj (by lia),dS,show upN n=dN (List.range n) from rfl];ext;rw[JM];ext;refine vO (λi I=>∃zd Y,I=[some (dC n ss o),some (Fd ssN j ssA W),some (.int n),some (.list (dN Y)),some (.list (zd.map aA.d)),none]/\Rpl gs n ss i zd Y) ⟨[],List.range n,rfl,?_⟩ (λi x I p C=>?_) λI C=>?_
 . refine ⟨by rw[cq];rfl,aP.nil,(λs hs=>by cases hs),λx p=>?_,λr w Z=>?_,iS _⟩
   . have:=er.mp p;lia
   . rw[mm,show (List.range n).getD w 0=w by rw[ae,eg (by lia)];rfl]
 . obtain ⟨zd,Y,rfl,R⟩:=C;obtain ⟨s,u,rfl⟩:=cU p;have ok:=hs i s u;have hi:=(a0.mp u).1;have U:=R.len;have q:=R.nl;have H:=L i;obtain ⟨ssK,oK,v,B⟩:=kit_at hN Q (O s (d6 u));have S:=v.len;have P:wt s<=16:=by unfold wt;split <;> lia
   have hh:(s.ws.map λw=>Y.getD w 0).length=s.m:=by rw[ag];exact ok.len
   have J:∀x∈s.ws.map λw=>Y.getD w 0,x<n+zd.length:=λx p=>by
    obtain ⟨w,Z,rfl⟩:=bX.mp p;exact R.lt _ (zN (by rw[q];exact ok.lt w Z))
   obtain ⟨a1,a2,a3,a4,a5⟩:=MJ v R.ok R.gin hh J;have e1:=p_add (n:=n) (zd:=zd) v.ok hh (by lia) (by lia) v.lt (by have:=ok.m4;lia);have m4:=ok.m4;have wl:=ok.len;show Goes (zi.bind (zi.bind (zi.ok ([some (dC n ss o),some (Fd ssN j ssA W),some (.int (n:Nat)),some (.list (dN Y)),some (.list (zd.map aA.d)),some s.d]:Ev)) _) _) _;rw[zi.bf];ext;rw[B _ _ 1 (by unfold aA.d;ext) rfl];ext;rw[jz (xs:=s.ws) (λw=>ab.int (w:Int)) (λw=>.int (Y.getD w 0:Nat)) ?_ (Au (by lia)) λw Z=>?_]
   rotate_left
   . ext;rfl
   . ext;rw[Ca (by rw[q];exact ok.lt w Z)]
   rw[show ab.list (s.ws.map λw=>ab.int (Y.getD w 0:Nat))= .list (dN (s.ws.map λw=>Y.getD w 0)) by rw[dN,c9];rfl];ext;rw[e1];ext;rw[bj (Au (by rw[uV];lia))];ext;refine ⟨_,Y++[ren s.m (n+zd.length) (s.ws.map λw=>Y.getD w 0) oK],by rw[yL];rfl,⟨by rw[ai,cK];lia,a1,a2,λx p=>?_,λr w Z=>?_,by rw[Z8 u];lia⟩⟩
   . rcases ck.mp p with z | z
     . have:=R.lt x z;rw[ai];lia
     . rw[aw.mp z];exact a3
   . obtain ⟨b1,b2⟩:=a5 r;rw[nQ u,iW];unfold stepV;have D:=gR (n:=n) (ss:=ss.take i) (r:=r);rw[dc] at D
     by_cases E:w<n+i
     . rw[K1 (by lia),tu (by lia),b1 _ (R.lt _ (zN (by lia)))];exact R.val r w E
     . have:w=n+i:=by lia
       subst this;rw[show n+i=Y.length by lia,Dg,b2,ae,bE (by lia),show Y.length - (b8 n (ss.take i) r).length=0 by lia,c9];congr 2;exact cp λw Z=>R.val r w (ok.lt w Z)
 . obtain ⟨zd,Y,rfl,R⟩:=C;rw[ag] at R;have q:=R.nl;have H:=R.len;rw[d4] at H;ext;rw[Qc];ext;rw[Ca (by lia)];ext;refine ⟨zd,Y.getD o 0,rfl,R.ok,R.gin,R.lt _ (zN (by lia)),H,λr=>?_⟩;have:=R.val r o ho;rwa [d4] at this
inductive K5:Str->Nat->B3->Prop
 | low:K5 "low" 1 [0]
 | high:K5 "high" 1 [1]
 | turn:K5 "turn" 2 [1,2]
 | rise:K5 "rise" 2 [0,2,3]
 | even:K5 "even" 4 jd
variable {nm:Str}
theorem aaX(N:K5 nm w rs):Kf [.str nm]= .ok (nG w rs):=by
 cases N <;> rfl
noncomputable def m7(gs:A9)(w:Nat)(rs:B3):Bool:=gs.all λg=>(brk g.2 w rs g.1).isNone
theorem Vn:m7 gs w rs=true↔∀g∈gs,Kp g.2 w rs g.1:=by
 rw[m7,gc];exact ⟨λh g Y=>vW.mp (h g Y),λh g Y=>vW.mpr (h g Y)⟩
theorem K5.small(N:K5 nm w rs):rs.length<=8/\w<=100:=by cases N <;> decide
theorem RM(N:K5 nm w rs)(Y:m<=4):oV [dG m b,nG w rs]= .ok (ye (brk b w rs m)):=
 Ka (by have:=N.small;lia) Y (cS (ly N.small.1 _) (cS (ew (by decide) Y) (by decide))) N.small.2
theorem Fx:(List.range gs.length).find? (λi=>!(brk (gs.getD i (0,0)).2 w rs (gs.getD i (0,0)).1).isNone)=none↔m7 gs w rs=true:=by
 rw[n0];rw[m7,gc];constructor
 . intro h g Z;obtain ⟨i,Y,e⟩:=eK.mp Z;have:=h i (er.mpr Y);rw[ae,av Y] at this;simpa[e] using this
 . intro h i Y;have Y:=er.mp Y;rw[ae,av Y];have:=h gs[i] (fA Y);simp[this]
noncomputable def Ks5:List (Str×Nat×B3):=[("low",1,[0]),("high",1,[1]),("turn",2,[1,2]),("rise",2,[0,2,3]),("even",4,jd)]
theorem Uq{k:Str×Nat×B3}(h:k∈Ks5):K5 k.1 k.2.1 k.2.2:=by
 simp only[Ks5,b9,rX,or_false] at h;rcases h with rfl | rfl | rfl | rfl | rfl
 . exact .low
 . exact .high
 . exact .turn
 . exact .rise
 . exact .even
theorem Vk(N:K5 nm w rs)(p:∀g∈gs,g.1<=4):∃d,jk [.list (gs.map A0),nG w rs]= .ok d/\((d= .none/\m7 gs w rs=true)\/((∃(i:Nat) (c:B3) (g:Nat×Int),d= .tuple [.int (i:Nat),dL c]/\gs[i]?=some g/\¬ Kp g.2 w rs g.1)/\m7 gs w rs=false)):=by
 unfold jk;ext;have e:gw (gs.map A0)=(List.range gs.length).map λi=>ab.tuple [.int (i:Nat),(gs.map A0).getD i .none]:=by
  rw[gw,ag]
 rw[e,qP (λi=>ab.tuple [.int (i:Nat),(gs.map A0).getD i .none]) (λi=>.tuple [.int i,ye (brk (gs.getD i (0,0)).2 w rs (gs.getD i (0,0)).1)]) (λi=>!(brk (gs.getD i (0,0)).2 w rs (gs.getD i (0,0)).1).isNone) λi Y=>?_]
 . cases Z:(List.range gs.length).find? (λi=>!(brk (gs.getD i (0,0)).2 w rs (gs.getD i (0,0)).1).isNone) with
   | none=>
    ext;exact ⟨_,rfl,.inl ⟨rfl,Fx.mp Z⟩⟩
   | some i=>
    have j:=tf Z;ext;refine ⟨_,rfl,.inr ⟨⟨i,?_⟩,ot.mpr λz=>by rw[Fx.mpr z] at Z;cases Z⟩⟩;have Y:=er.mp (mP Z);have l:gs[i]?=some (gs.getD i (0,0)):=by rw[ae,av Y];rfl
    have q:¬ Kp (gs.getD i (0,0)).2 w rs (gs.getD i (0,0)).1:=λz=>by rw[vW.mpr z] at j;cases j
    cases o:brk (gs.getD i (0,0)).2 w rs (gs.getD i (0,0)).1 with
    | none=>rw[o] at j;cases j
    | some c=>exact ⟨c,_,rfl,l,q⟩
 . have Y:=er.mp Y;have r:(gs.map A0).getD i .none=A0 (gs.getD i (0,0)):=by
    rw[ae,ba,ae,av Y];rfl
   have l:gs.getD i (0,0)∈gs:=by
    rw[ae,av Y];exact fA Y
   rw[r];generalize gs.getD i (0,0)=g at *
   ext;rw[RM N (p g l)];ext;cases brk g.2 w rs g.1 <;> rfl
structure Brs (gs:A9) (F:Str×Nat×B3->ab):Prop where
 h:∀k∈Ks5,(F k= .none/\m7 gs k.2.1 k.2.2=true)\/((∃(i:Nat) (c:B3) (g:Nat×Int),F k= .tuple [.int (i:Nat),dL c]/\gs[i]?=some g/\¬ Kp g.2 k.2.1 k.2.2 g.1)/\m7 gs k.2.1 k.2.2=false)
theorem Jj(e:∀g∈gs,g.1<=4):∃F,uH [.list (gs.map A0)]= .ok (.list (Ks5.map F))/\Brs gs F:=by
 have H:∀k:Str×Nat×B3,∃d,k∈Ks5->jk [.list (gs.map A0),nG k.2.1 k.2.2]= .ok d/\((d= .none/\m7 gs k.2.1 k.2.2=true)\/((∃(i:Nat) (c:B3) (g:Nat×Int),d= .tuple [.int (i:Nat),dL c]/\gs[i]?=some g/\¬ Kp g.2 k.2.1 k.2.2 g.1)/\m7 gs k.2.1 k.2.2=false)):=λk=>by
  by_cases h:k∈Ks5
  . obtain ⟨d,j,l⟩:=Vk (Uq h) e;exact ⟨d,λ_=>⟨j,l⟩⟩
  . exact ⟨.none,λz=>absurd z h⟩
 have Z:=λk Y=>Classical.choose_spec (H k) Y;refine ⟨λk=>xi (H k),?_,⟨λk Y=>(Z k Y).2⟩⟩;unfold uH;ext;rw[jz (xs:=Ks5) (λk=>ab.str k.1) (λk=>xi (H k)) rfl (Au (by decide)) λk Y=>?_]
 . rfl
 . ext;rw[aaX (Uq Y)];ext;exact (Z k Y).1
noncomputable def tY(gs:A9):Bool:=Ks5.all λk=>!m7 gs k.2.1 k.2.2
theorem Qv{F:Str×Nat×B3->ab}(l:Brs gs F):jX .none (.list (Ks5.map F))= .ok (.bool (tY gs)):=by
 have pl:∀(i:Nat) (c:B3),plain (.tuple [.int (i:Nat),dL c])=true:=λi c=>Sq λd hd=>by
  rcases b9.mp hd with rfl | hd
  . exact uO
  . rw[aw.mp hd];exact vJ c
 have pn:plain .none=true:=by rw[Zq.plain]
 have o:∀k∈Ks5,d5 (F k)=true:=λk Y=>by
  rcases l.h k Y with ⟨e,_⟩ | ⟨⟨i,c,_,e,_,_⟩,_⟩
  . rw[e];decide
  . rw[e];refine iM (pl i c) (cS (xW (k:=1) λd hd=>?_) (by decide));rcases b9.mp hd with rfl | hd
    . exact cS uL (by decide)
    . rw[aw.mp hd];show (ab.list (c.map ab.int)).depth<=1;rw[ab.depth,qT];exact ay _
 have ev:∀k∈Ks5,fT (F k) .none=m7 gs k.2.1 k.2.2:=λk Y=>by
  rcases l.h k Y with ⟨e,j⟩ | ⟨⟨i,c,_,e,_,_⟩,j⟩
  . rw[e,j];exact (mW _ _ pn pn).mpr rfl
  . rw[e,j];exact ot.mpr λz=>nomatch (mW _ _ (pl i c) pn).mp z
 show gd (d5 .none=true/\(Ks5.map F).all d5=true) (zi.ok (ab.bool (!inB .none (Ks5.map F))))=_;rw[bj ⟨by decide,gc.mpr λd hd=>by obtain ⟨k,Y,rfl⟩:=bX.mp hd;exact o k Y⟩];have p:inB .none (Ks5.map F)=Ks5.any λk=>m7 gs k.2.1 k.2.2:=by
  rw[inB,List.any_map,sR,r9,r9];exact ⟨λZ=>by obtain ⟨k,Y,e⟩:=Z;exact ⟨k,Y,by rw[<- ev k Y];exact e⟩,λZ=>by obtain ⟨k,Y,e⟩:=Z;exact ⟨k,Y,by rw[<- ev k Y] at e;exact e⟩⟩
 rw[p];rw[tY,List.not_any_eq_all_not]
theorem Hz(Y:∀g∈gs,g.1<=4):pG [.list (gs.map A0)]= .ok (.bool (tY gs)):=by
 obtain ⟨F,Z,e⟩:=Jj Y;unfold pG;ext;rw[Z];ext;rw[Qv e];rfl
theorem Xx(h:tY gs=true):(∃g∈gs,¬ Kp g.2 1 [0] g.1)/\(∃g∈gs,¬ Kp g.2 1 [1] g.1)/\(∃g∈gs,¬ Kp g.2 2 [1,2] g.1)/\(∃g∈gs,¬ Kp g.2 2 [0,2,3] g.1)/\∃g∈gs,¬ Kp g.2 4 jd g.1:=by
 have ex:∀{w:Nat}{Y:B3},((!m7 gs w Y)=true)->∃g∈gs,¬ Kp g.2 w Y g.1:=λ{w Y} z=>by
  rw[v3,ot,ne_eq,Vn] at z;exact f6 λy=>z λg Z=>f6 λx=>y ⟨g,Z,x⟩
 unfold tY Ks5 at h;simp only[wo,List.all_nil,w9,dQ] at h;exact ⟨ex h.1,ex h.2.1,ex h.2.2.1,ex h.2.2.2.1,ex h.2.2.2.2⟩
noncomputable def fC:B3:=[10,12,5,3,0,15]
theorem Bs:cst v∈fC:=by unfold cst;split <;> decide
theorem Rx(O:¬ Kp g.2 4 jd g.1):∃c:B3,c.length=g.1/\(∀p∈c,p∈fC)/\(bZ g.2 c 2=7\/bZ g.2 c 2=8):=by
 have hd:∃pre Y Z:B3,bH pre/\bH Y/\bH Z/\pre.length+Y.length+Z.length+2=g.1/\Ea g.2 pre Y Z % 2≠0:=f6 λz=>O (z8 λpre Y Z o u l E=>f6 λy=>z ⟨pre,Y,Z,o,u,l,E,y⟩);obtain ⟨pre,Y,Z,o,u,l,E,L⟩:=hd;have put:∀p q:Int,bZ g.2 (pre.map cst++p::(Y.map cst++q::Z.map cst)) 2=tab 4 λr=>ak g.2 (aV (pre++ak p (r:Nat)::(Y++ak q (r:Nat)::Z))):=λp q=>by
  refine bU λr C=>?_;rw[be,bq,be,bq,oZ o C,oZ u C,oZ l C]
 have e:∀p q:Int,p∈fC->q∈fC->(pre.map cst++p::(Y.map cst++q::Z.map cst)).length=g.1/\∀x∈pre.map cst++p::(Y.map cst++q::Z.map cst),x∈fC:=λp q i j=>by
  refine ⟨by simp;lia,λx M=>?_⟩;rcases ck.mp M with z | z
  . obtain ⟨y,_,rfl⟩:=bX.mp z;exact Bs
  rcases b9.mp z with rfl | z
  . exact i
  rcases ck.mp z with z | z
  . obtain ⟨y,_,rfl⟩:=bX.mp z;exact Bs
  rcases b9.mp z with rfl | z
  . exact j
  obtain ⟨y,_,rfl⟩:=bX.mp z;exact Bs
 have fin:∀p q:Int,p∈fC->q∈fC->(bZ g.2 (pre.map cst++p::(Y.map cst++q::Z.map cst)) 2=7\/bZ g.2 (pre.map cst++p::(Y.map cst++q::Z.map cst)) 2=8)->∃c:B3,c.length=g.1/\(∀p∈c,p∈fC)/\(bZ g.2 c 2=7\/bZ g.2 c 2=8):=λp q i j h=>⟨_,(e p q i j).1,(e p q i j).2,h⟩;have b:=λ(x y:Int)=>aL g.2 (aV (pre++x::(Y++y::Z)));unfold Ea at L;have val:∀p q:Int,bZ g.2 (pre.map cst++p::(Y.map cst++q::Z.map cst)) 2=ak g.2 (aV (pre++ak p 0::(Y++ak q 0::Z)))+2*ak g.2 (aV (pre++ak p 1::(Y++ak q 1::Z)))+4*ak g.2 (aV (pre++ak p 2::(Y++ak q 2::Z)))+8*ak g.2 (aV (pre++ak p 3::(Y++ak q 3::Z))):=λp q=>by rw[put,Yo];rfl
 have D:=val 10 12;have s:=val 5 12;have B:=val 10 3;have v:=val 5 3;rw[show ak 10 0=0 by decide,show ak 10 1=1 by decide,show ak 10 2=0 by decide,show ak 10 3=1 by decide] at D B;rw[show ak 5 0=1 by decide,show ak 5 1=0 by decide,show ak 5 2=1 by decide,show ak 5 3=0 by decide] at s v;rw[show ak 12 0=0 by decide,show ak 12 1=0 by decide,show ak 12 2=1 by decide,show ak 12 3=1 by decide] at D s;rw[show ak 3 0=1 by decide,show ak 3 1=1 by decide,show ak 3 2=0 by decide,show ak 3 3=0 by decide] at B v;have J:=b 0 0;have I:=b 1 0;have b01:=b 0 1;have H:=b 1 1;generalize ak g.2 (aV (pre++0::(Y++0::Z)))=a00 at *
 generalize ak g.2 (aV (pre++1::(Y++0::Z)))=a10 at *
 generalize ak g.2 (aV (pre++0::(Y++1::Z)))=a01 at *
 generalize ak g.2 (aV (pre++1::(Y++1::Z)))=a11 at *
 have:(a00+2*a10+4*a01+8*a11=7\/a00+2*a10+4*a01+8*a11=8)\/(a10+2*a00+4*a11+8*a01=7\/a10+2*a00+4*a11+8*a01=8)\/(a01+2*a11+4*a00+8*a10=7\/a01+2*a11+4*a00+8*a10=8)\/(a11+2*a01+4*a10+8*a00=7\/a11+2*a01+4*a10+8*a00=8):=by lia
 rcases this with h | h | h | h
 . exact fin 10 12 (by decide) (by decide) (by rw[D];exact h)
 . exact fin 5 12 (by decide) (by decide) (by rw[s];exact h)
 . exact fin 10 3 (by decide) (by decide) (by rw[B];exact h)
 . exact fin 5 3 (by decide) (by decide) (by rw[v];exact h)
noncomputable def pB(t:Int):Int:=ak t 0+2*ak t 3
theorem Wt:pB (cV b ts 4)=bZ b (ts.map pB) 1:=by
 have i:bZ b (ts.map pB) 1=tab 2 λr=>ak b (aV ((ts.map pB).map λt=>ak t (r:Nat))):=rfl;have Y:∀r:Nat,r<4->ak (cV b ts 4) (r:Nat)=ak b (aV (ts.map λt=>ak t (r:Nat))):=λr e=>gB (λ_=>aL _ _) e;have Z:∀t:Int,ak (pB t) 0=ak t 0:=λt=>by
  unfold pB;rcases aL t 0 with z | z <;> rcases aL t 3 with y | y <;> rw[z,y] <;> decide
 have j:∀t:Int,ak (pB t) 1=ak t 3:=λt=>by
  unfold pB;rcases aL t 0 with z | z <;> rcases aL t 3 with y | y <;> rw[z,y] <;> decide
 rw[i,Yw];rw[pB,show ak (cV b ts 4) 0=_ from Y 0 (by decide),show ak (cV b ts 4) 3=_ from Y 3 (by decide),c9,c9];congr 3
 . congr 1;exact funext λt=>(Z t).symm
 . congr 2;exact funext λt=>(j t).symm
theorem XF{f:Int->Nat}(W:Yn gs 1 ts f)(l:tY gs=true):∀t:Int,0<=t->t<4->t∈ts:=by
 obtain ⟨k1,k2,o,j,r⟩:=Xx l;have Y:Fam gs (λt=>pB t∈ts):=⟨λg s v Z i=>by
  rw[Wt];exact (W.cl g s _ (by rw[ag];exact Z) λp u=>by
   obtain ⟨q,e,rfl⟩:=bX.mp u;exact i q e).1,W.inp _ (by decide +kernel),W.inp _ (by decide +kernel)⟩
 have all:=Y.full k1 k2 o j r;intro t B z;rcases (by lia:t=0\/t=1\/t=2\/t=3) with rfl | rfl | rfl | rfl
 . exact all 0 (by decide)
 . exact all 1 (by decide)
 . exact all 10 (by decide)
 . exact all 15 (by decide)
structure WAt (zd:List aA) (w:Nat) (t:Int):Prop where
 lt:w<2+zd.length
 val:∀r,r<4->(b8 2 zd r).getD w 0=ak t (r:Nat)
structure CQ (gs:A9) (zd:List aA):Prop where
 ok:aP 2 zd
 gin:∀s∈zd,(s.m,s.b)∈gs
theorem V1:aV [x]=x:=by simp[aV]
theorem rR{u:Int}(C:fU gs 1 b 3 ss o)(A:CQ gs zd)(l:WAt zd w u)(E:zd.length<=1000)(B:∀r,r<4->ak b (ak u (r:Nat))=ak v (r:Nat)) :
 ∃Y j,dq [.list (zd.map aA.d),.int 2,dC 1 ss o,.list [.int (w:Nat)]]= .ok (.tuple [.int (j:Nat),.list (Y.map aA.d)])/\CQ gs Y/\Y.length<=zd.length+3/\WAt Y j v/\∀x y,WAt zd x y->WAt Y x y:=by
 have e:∀x∈[w],x<2+zd.length:=λx p=>by rw[aw.mp p];exact l.lt
 obtain ⟨q,D,z,s,i⟩:=MJ C A.ok A.gin rfl e;refine ⟨_,_,p_add (hs:=[w]) C.ok rfl (by lia) (by have:=C.len;lia) C.lt (by decide),⟨q,D⟩,s,⟨z,λr Z=>?_⟩,λx y h=>⟨by rw[ai];have:=h.lt;lia,λr Z=>by rw[(i r).1 x h.lt];exact h.val r Z⟩⟩;rw[(i r).2,bq,fe,l.val r Z,<- B r Z];congr 1;rw[V1]
theorem Cq{t:Int}(Y:i<2)(h:∀r:Nat,r<4->ak (r:Nat) (i:Nat)=ak t (r:Nat)):WAt zd i t:=⟨by lia,λr Z=>by
 rw[Bk Y,wC,ae,ba,eg Y,<- h r Z];rfl⟩
theorem qU{P:Nat->Prop}(h0:P 0)(e:P 1)(i:P 2)(Y:P 3):∀r,r<4->P r:=λr Z=>by
 rcases (by lia:r=0\/r=1\/r=2\/r=3) with rfl | rfl | rfl | rfl <;> assumption
structure VB (gs:A9) (C:Nat->List aA×Nat):Prop where
 h:∀j,j<4->fU gs 1 (j:Nat) 3 (C j).1 (C j).2
noncomputable def j9(C:Nat->List aA×Nat):ab:=.list ((List.range 4).map λj=>dC 1 (C j).1 (C j).2)
variable {C:Nat->List aA×Nat}
theorem uN(Y:j<4):zI (j9 C) (.int (j:Nat))= .ok (dC 1 (C j).1 (C j).2):=ie (by rw[ba,eg Y];rfl)
noncomputable def yI(w5 w3 w0 w15:Nat):ab:=.dict [(.int 10,.int 0),(.int 12,.int 1),(.int 5,.int (w5:Nat)),(.int 3,.int (w3:Nat)),(.int 0,.int (w0:Nat)),(.int 15,.int (w15:Nat))]
theorem Wk(L:VB gs C):∃zd w5 i l Y,jN [.list [],j9 C]= .ok (.tuple [yI w5 i l Y,.list (zd.map aA.d)])/\CQ gs zd/\zd.length<=12/\WAt zd w5 5/\WAt zd i 3/\WAt zd l 0/\WAt zd Y 15:=by
 have U:CQ gs []:=⟨aP.nil,λs hs=>by cases hs⟩;have p:∀zd,WAt zd 0 10:=λzd=>Cq (by decide) (qU (by decide) (by decide) (by decide) (by decide));have x1:∀zd,WAt zd 1 12:=λzd=>Cq (by decide) (qU (by decide) (by decide) (by decide) (by decide));obtain ⟨a1,w5,u,P,l1,Z,u1⟩:=rR (v:=5) (L.h 1 (by decide)) U (p []) (by decide) (qU (by decide) (by decide) (by decide) (by decide));obtain ⟨a2,i,D,A2,l2,e,S⟩:=rR (v:=3) (L.h 1 (by decide)) P (x1 a1) (by have:([]:List aA).length=0:=rfl;lia) (qU (by decide) (by decide) (by decide) (by decide));obtain ⟨a3,l,r,A3,l3,o,J⟩:=rR (v:=0) (L.h 0 (by decide)) A2 (p a2) (by have:([]:List aA).length=0:=rfl;lia) (qU (by decide) (by decide) (by decide) (by decide));obtain ⟨a4,Y,B,A4,l4,Q,E⟩:=rR (v:=15) (L.h 3 (by decide)) A3 (p a3) (by have:([]:List aA).length=0:=rfl;lia) (qU (by decide) (by decide) (by decide) (by decide));refine ⟨a4,w5,i,l,Y,?_,A4,by have:([]:List aA).length=0:=rfl;lia,E _ _ (J _ _ (S _ _ Z)),E _ _ (J _ _ e),E _ _ o,Q⟩;have I:zI (j9 C) (.int 1)= .ok (dC 1 (C 1).1 (C 1).2):=uN (by decide);have i0:zI (j9 C) (.int 0)= .ok (dC 1 (C 0).1 (C 0).2):=uN (by decide);have i3:zI (j9 C) (.int 3)= .ok (dC 1 (C 3).1 (C 3).2):=uN (by decide);have u:=u;have D:=D;have r:=r;have B:=B;have cl:∀{k:Int}{f:B4->zi ab}{M:List ME}{R:List (Int×MV)}{Γ:Ev}{H:B4}{d O:ab}{q:B0×Ev},evs M Γ = .ok H->f H= .ok (.tuple [d,O])->mD 0 R (Γ.set 0 (some O))= .ok q->mD 0 ((k,.cl f M)::R) Γ = .ok ((.int k,d)::q.1,q.2):=λZ e o=>by
  rw[mD,Z,zi.bf,e,zi.bf];show zi.bind (mD 0 _ _) _=_;rw[o];rfl
 have ev:∀{k:Int}{m:ME}{R:List (Int×MV)}{Γ:Ev}{d:ab}{q:B0×Ev},m Γ = .ok d->mD 0 R Γ = .ok q->mD 0 ((k,.ev m)::R) Γ = .ok ((.int k,d)::q.1,q.2):=λZ e=>by
  rw[mD,Z,zi.bf,e];rfl
 have ar:∀{x y z:ab}{j k:Int},zI (j9 C) (.int j)= .ok z->evs [aj 0,eC (.int 2),ao zI (aj 1) (eC (.int j)),bV [eC (.int k)]] [some x,some (j9 C)]= .ok [x,.int 2,z,.list [.int k]]:=λh=>by
  ext;rw[h];ext
 have run:=ev (k:=10) (m:=eC (.int 0)) (Γ:=[some (.list []),some (j9 C)]) rfl (ev (k:=12) (m:=eC (.int 1)) rfl (cl (k:=5) (ar (y:=.none) (k:=0) I) u (cl (k:=3) (ar (y:=.none) (k:=1) I) D (cl (k:=0) (ar (y:=.none) (k:=0) i0) r (cl (k:=15) (ar (y:=.none) (k:=0) i3) B (R:=[]) rfl)))));rw[jN,MN];show zi.bind (Dz 0 _ [some (.list []),some (j9 C)]) fin=_;rw[Dz,run,zi.bf];show zi.bind (gd _ _) fin=_;rw[bj (by decide)];rfl
theorem vd{w:Int}(e:g.1<=4)(Z:∀c∈cs,c.length=g.1):jw [dG g.1 g.2,.list (cs.map dL),.int w]= .ok (ye (cs.find? λc=>decide (bZ g.2 c 2=w))):=by
 unfold jw;ext;rw[qP dL dL (λc=>decide (bZ g.2 c 2=w)) λc Y=>?_]
 . cases cs.find? λc=>decide (bZ g.2 c 2=w) with
   | none=>ext;rfl
   | some c=>ext;rfl
 . ext;rw[show nO [dG g.1 g.2,dL c,.int 2]= .ok (.int (bZ g.2 c 2)) from BR (Z c Y) e (by decide)];ext;cases decide (bZ g.2 c 2=w) <;> rfl
theorem LQ:yV [yI j W p m]= .ok (dL fC):=by
 show gd (6<=bt) _=_;rw[bj (by decide)];rfl
noncomputable def gn(w5 w3 w0 w15:Nat)(t:Int):Nat:=if t=10 then 0 else if t=12 then 1 else if t=5 then w5 else if t=3 then w3 else if t=0 then w0 else w15
theorem Wo(h:x∈fC):ixY (yI j W p m) (.int x)= .ok (.int (gn j W p m x:Nat)):=by
 have:=by simpa[fC] using h
 rcases this with rfl | rfl | rfl | rfl | rfl | rfl <;> rfl
theorem acM(L:VB gs C)(hg:g∈gs)(hG:g.1<=4/\0<=g.2/\g.2<2^2^g.1)(S:¬ Kp g.2 4 jd g.1):∃ss o,gb [dG g.1 g.2,j9 C]= .ok (dC 2 ss o)/\fU gs 2 7 16 ss o:=by
 obtain ⟨Y,w5,i,j,Z,et,A,hl,h5,h3,h0,h15⟩:=Wk L;obtain ⟨m4,b0,b1⟩:=hG;have I:∀t∈fC,WAt Y (gn w5 i j Z t) t:=λt p=>by
  have:=by simpa[fC] using p
  rcases this with rfl | rfl | rfl | rfl | rfl | rfl
  . exact (show WAt Y 0 10 from Cq (by decide) (qU (by decide) (by decide) (by decide) (by decide)))
  . exact (show WAt Y 1 12 from Cq (by decide) (qU (by decide) (by decide) (by decide) (by decide)))
  . exact h5
  . exact h3
  . exact h0
  . exact h15
 have E:∀c∈lR fC g.1,c.length=g.1:=λc l=>(mH.mp l).1;have f7:=vd (w:=7) m4 E;have f8:=vd (w:=8) m4 E;have lay:∀(c:B3) (v:Int),c∈lR fC g.1->bZ g.2 c 2=v->CQ gs (Y++[⟨g.1,g.2,c.map (gn w5 i j Z)⟩])/\WAt (Y++[⟨g.1,g.2,c.map (gn w5 i j Z)⟩]) (2+Y.length) v:=λc v l B=>by
  obtain ⟨c1,M⟩:=mH.mp l;have ok:aP 2 (Y++[⟨g.1,g.2,c.map (gn w5 i j Z)⟩]):=A.ok.snoc ⟨m4,by rw[ag];exact c1,λk S=>by
   obtain ⟨t,p,rfl⟩:=bX.mp S;exact (I t (M t p)).lt,b0,b1⟩
  refine ⟨⟨ok,λs H=>?_⟩,by rw[ai,cK];lia,λr hr=>?_⟩
  . rcases ck.mp H with z | z
    . exact A.gin s z
    . rw[aw.mp z];exact hg
  . rw[iW];unfold stepV;have hvl:=gR (n:=2) (ss:=Y) (r:=r);rw[ae,bE (by lia),show 2+Y.length - (b8 2 Y r).length=0 by lia,<- B];show ak g.2 (aV ((c.map (gn w5 i j Z)).map _))=_;rw[bZ,gB (λ_=>aL _ _) hr,c9];congr 2;exact cp λt p=>(I t (M t p)).val r hr
 have hk6:fC.length<=16:=by decide
 have comp:∀(c:B3) (u:Ev),c∈lR fC g.1->gv u 3=some (yI w5 i j Z)->gv u 6=some (dL c)->bR (itL (aj 6)) (gN 0) (eC (.bool true)) (ao ixY (aj 1) (aj 0)) 1 [3] u= .ok (.list (dN (c.map (gn w5 i j Z)))):=λc u l g3 g6=>by
  obtain ⟨c1,M⟩:=mH.mp l;rw[DG (ns:=c) (λt=>.int (gn w5 i j Z t:Nat)) ?_ (Au (by lia)) λt p=>?_]
  . rw[dN,c9];rfl
  . rw[Og,show aj 6 u= .ok (dL c) by rw[aj,g6]];rfl
  . have eb:jr 1 [3] u=[none,some (yI w5 i j Z)]:=by rw[<- g3];rfl
    rw[eb];ext;rw[Wo (M t p)]
 have i1:zI (j9 C) (.int 1)= .ok (dC 1 (C 1).1 (C 1).2):=uN (by decide);have fin:∀(c:B3) (v:Int),c∈lR fC g.1->bZ g.2 c 2=v->aA.d ⟨g.1,g.2,c.map (gn w5 i j Z)⟩= .tuple [dG g.1 g.2,.tuple (dN (c.map (gn w5 i j Z)))]:=λc v _ _=>rfl;unfold gb;ext;rw[et];ext;rw[LQ];ext;rw[rep1 (by lia)];ext;rw[show aI g.1 (dL fC)=(aI g.1 fC).map dL by rw[kM],CK (enc:=dL) (λ_=>rfl) (λq hq=>by rw[(pT.mp hq).2];exact hk6) (by rw[cf];exact m4),<- sV];ext;rw[show zI dZ (.int 1)= .ok (.int 7) from rfl];ext;rw[f7]
 cases h7:(lR fC g.1).find? (λc=>decide (bZ g.2 c 2=7)) with
 | some c=>
  have l:=mP h7;have H:=tf h7;have B:bZ g.2 c 2=7:=of_decide_eq_true H;obtain ⟨P,J⟩:=lay c 7 l B;ext;rw[show uo (ye (some c)) .none= .ok (.bool false) from rfl];ext;rw[comp c _ l rfl rfl];ext;rw[bj (Au (by lia))];ext;rw[show uo (ye (some c)) .none= .ok (.bool false) from rfl];ext;have eC:ab.tuple [.int 2,.tuple (Y.map aA.d++[.tuple [dG g.1 g.2,.tuple (dN (c.map (gn w5 i j Z)))]]),.int ((((Y.map aA.d++[ab.tuple [dG g.1 g.2,.tuple (dN (c.map (gn w5 i j Z)))]]).length:Nat):Int)+1)]=dC 2 (Y++[⟨g.1,g.2,c.map (gn w5 i j Z)⟩]) (2+Y.length):=by
   rw[dC,be];congr 3;rw[ai,ag,cK];congr 2;lia
  rw[eC];have Cc:fU gs 2 7 16 (Y++[⟨g.1,g.2,c.map (gn w5 i j Z)⟩]) (2+Y.length):=⟨P.ok,J.lt,P.gin,J.val,by rw[ai,cK];lia⟩;obtain ⟨ss,o,e,U⟩:=Cc.shared (by decide) (by decide);rw[e];exact ⟨ss,o,rfl,U⟩
 | none=>
  have n7:∀c∈lR fC g.1,bZ g.2 c 2≠7:=λc l z=>by
   have:=n0.mp h7 c l;rw[decide_eq_true z] at this;exact this rfl
  obtain ⟨O,q1,q2,q3⟩:=Rx S;have D:O∈lR fC g.1:=mH.mpr ⟨q1,q2⟩;have h80:bZ g.2 O 2=8:=q3.resolve_left (n7 O D);ext;rw[show uo (ye none) .none= .ok (.bool true) from rfl];ext;rw[show zI yS (.int 1)= .ok (.int 8) from rfl];ext;rw[f8]
  cases R:(lR fC g.1).find? (λc=>decide (bZ g.2 c 2=8)) with
  | none=>
   have:=n0.mp R O D;rw[decide_eq_true h80] at this;exact absurd rfl this
  | some c=>
   have l:=mP R;have H:=tf R;have B:bZ g.2 c 2=8:=of_decide_eq_true H;obtain ⟨P,J⟩:=lay c 8 l B;obtain ⟨Q,w2,e2,A2,l2,W2,_⟩:=rR (v:=7) (L.h 1 (by decide)) P J (by rw[ai,cK];lia) (qU (by decide) (by decide) (by decide) (by decide));rw[ai,cK] at l2;ext;rw[comp c _ l rfl rfl];ext;rw[bj (Au (by lia))];ext;rw[show uo (ye none) .none= .ok (.bool true) from rfl];ext;rw[i1];ext;have eA:dq [.list (Y.map aA.d++[.tuple [dG g.1 g.2,.tuple (dN (c.map (gn w5 i j Z)))]]),.int 2,dC 1 (C 1).1 (C 1).2,.list [.int ((((Y.map aA.d++[ab.tuple [dG g.1 g.2,.tuple (dN (c.map (gn w5 i j Z)))]]).length:Nat):Int)+1)]]= .ok (.tuple [.int (w2:Nat),.list (Q.map aA.d)]):=by
    rw[<- e2,be];have ee:(((Y.map aA.d++[ab.tuple [dG g.1 g.2,.tuple (dN (c.map (gn w5 i j Z)))]]).length:Nat):Int)+1=((2+Y.length:Nat):Int):=by
     rw[ai,ag,cK];lia
    rw[ee];rfl
   rw[eA];ext;have Cc:fU gs 2 7 16 Q w2:=⟨A2.ok,W2.lt,A2.gin,W2.val,by lia⟩;obtain ⟨ss,o,e,U⟩:=Cc.shared (by decide) (by decide);rw[show ab.tuple [.int 2,.tuple (Q.map aA.d),.int (w2:Nat)]=dC 2 Q w2 from rfl,e];exact ⟨ss,o,rfl,U⟩
theorem Nr:(cj 1).Nodup:=by decide +kernel
theorem gQ.aeL{d:ab}{l:Nat}(h:gQ j d u W l)(P:l<=90)(Q:W<=4000):∃ss o,jo [d,.int (j:Nat)]= .ok (dC j ss o)/\aP j ss/\NNs ss/\stW ss<=W/\o<j+ss.length/\∀r,r<2^j->(b8 j ss r).getD o 0=u r:=by
 obtain ⟨v,w,k,E,I,B,O⟩:=h;obtain ⟨Y,J,C⟩:=E.ok k (ay _);obtain ⟨more,e,L,m2⟩:=C [];rw[eL] at e;have Z:=Fe (φ:=λ_ _ p=>1+p.sum) (z:=(0:Int)) cf (λk i q=>by rw[Ao,ae,hJ q];rfl) (λk m b D=>t7) Y (aP.nil);have H:=by
  have:∀l:List aA,l.length<=stW l:=λl=>by
   induction l with
   | nil=>exact ay _
   | cons s l R=>
    have:stW (s::l)=wt s+stW l:=by unfold stW;rw[bq,ja]
    have B:3<=wt s:=by unfold wt;split <;> lia
    rw[bo];lia
  exact this more
 have M:=Z.len;rw[e] at M;have U:((([]:List aA).length:Nat):Int)=0:=rfl;refine ⟨_,_,Fb Y (by lia) (by lia),Z.ok,by rw[e];exact L,by rw[e];lia,Z.lt,λr S=>?_⟩;have KV:=Fe (φ:=λ_ b p=>ak b (aV p)) (z:=(0:Int)) (bB j r) (λk i q=>by
  rw[JW,wC,ae,ba,eg q];rfl) (λk m b D=>yN) Y (aP.nil)
 rw[pR,KV.val,J r,I r]
theorem aaW{n:Nat}(P:∀g∈gs,g.1<=4/\0<=g.2/\g.2<2^2^g.1)(u:gs.length<=8)(hf:tY gs=true)(hn:n<=4)(R:1<=n)(h0:0<=b)(h1:b<2^2^n) :
 ∃ss o,za [.list (gs.map A0),dG n b]= .ok (dC n ss o)/\fU gs n b 429 ss o:=by
 have hm:=λg h=>(P g h).1;have Q:jj (2^2^1) gs<=20000:=by
  have J:jj (2^2^1) gs<=gs.length*256:=SJ λg O=>by
   have h6:(2^2^1)^g.1<=(2^2^1)^4:=ew (by decide) (hm g O);exact cS h6 (by decide)
  have e3:gs.length*256<=8*256:=Nat.mul_le_mul_right _ u;lia
 obtain ⟨W,J,I,F,hL⟩:=JS (pJ 1) (λfs ws b w j I e h=>j.step I e h Nr) (Ad Nr) (by decide) u hm Q;have J:nY [.list (gs.map A0),.int 1]= .ok (.dict (Ap W)):=J;have nd:=by have:=I.nd;rwa [show aK W++aK []=aK W from c8 _] at this
 have hW4:=by
  have:=ph (N:=4) nd λx S=>I.bd x (da _ S);unfold aK at this;rwa [ag] at this
 have E:=XF I.whole hf;have l:∀j:Nat,∃q:List aA×Nat,j<4->fP [.dict (Ap W),.int (j:Nat),.int ((1:Nat):Int)]= .ok (dC 1 q.1 q.2)/\fU gs 1 (j:Nat) 3 q.1 q.2:=λj=>by
  by_cases p:j<4
  . obtain ⟨ss,o,e,Z⟩:=wW I F P (by lia) (by decide) (fM.mp (E j (by lia) (by lia)));exact ⟨(ss,o),λ_=>⟨e,Z.ok,Z.lt,Z.gin,Z.val,cS Z.len (by lia)⟩⟩
  . exact ⟨([],0),λz=>absurd z p⟩
 obtain ⟨C,Z⟩:∃C:Nat->List aA×Nat,∀j,j<4->fP [.dict (Ap W),.int (j:Nat),.int (1:Int)]= .ok (dC 1 (C j).1 (C j).2)/\fU gs 1 j 3 (C j).1 (C j).2:=⟨λj=>(l j).choose,λj p=>(l j).choose_spec p⟩;have L:VB gs C:=⟨λj p=>(Z j p).2⟩;obtain ⟨B,ek,hB⟩:=Jj hm;have H:∀k∈Ks5,∃(i:Nat) (c:B3) (g:Nat×Int),B k= .tuple [.int (i:Nat),dL c]/\gs[i]?=some g/\¬ Kp g.2 k.2.1 k.2.2 g.1:=λk M=>by
  rcases hB.h k M with ⟨_,z⟩ | ⟨h,_⟩
  . have:=gc.mp hf k M;rw[z] at this;cases this
  . exact h
 obtain ⟨i5,c5,v,b5,q5,k5⟩:=H ("even",4,jd) (by decide);have D:=d6 q5;obtain ⟨s,U,eA,hA⟩:=acM L D (P v D) k5;obtain ⟨d,ed,hd⟩:=Lg hn R h0 h1;obtain ⟨sT,oT,eT,T1,T2,T3,T4,T5⟩:=hd.aeL (by decide) (by decide);obtain ⟨zd,o',eR,R1,R2,R3,R4,R5⟩:=Qj (L.h 1 (by decide)) hA T1 T2 (by lia) (by lia) T4;have Cc:fU gs n b 429 zd o':=⟨R1,R3,R2,λr hr=>by rw[R5,T5 r hr,xt hr],by lia⟩;obtain ⟨ss,o,eS,hS⟩:=Cc.shared (by lia) (by decide);refine ⟨ss,o,?_,hS⟩;unfold za;ext;rw[ek];ext;rw[show Wz (eC qe) (aj 2) [some (.list (gs.map A0)),some (dG n b),some (.list (Ks5.map B)),none,none,none,none,none,none]= .ok (Ks5.map λk=>ab.tuple [.str k.1,B k]) from rfl,zi.bf];refine bI (λ_=>[some (.list (gs.map A0)),some (dG n b),some (.list (Ks5.map B)),none,none,none,none,none,none]) rfl (λi x S=>?_) ?_
 . obtain ⟨k,M,rfl⟩:=cU S;obtain ⟨i,c,g,e,_,_⟩:=H k (d6 M);rw[e];ext;rw[show uo (.tuple [.int (i:Nat),dL c]) .none= .ok (.bool false) from rfl];ext
 ext;rw[J];ext;rw[show ab.int 4= .int ((4:Nat):Int) from rfl,mQ (n:=4) (λj=>dC 1 (C j).1 (C j).2) ?_ (Au (by decide)) λj p=>?_]
 rotate_left
 . ext;rw[fG (by decide)]
 . ext;rw[(Z j p).1]
 ext;rw[show ab.int ((4:Nat):Int)= .int 4 from rfl,show zI (.list (Ks5.map B)) (.int 4)= .ok (.tuple [.int (i5:Nat),dL c5]) by rw[<- b5];rfl];ext;rw[ie (by rw[ba,q5];rfl)];ext;rw[show ab.list ((List.range 4).map λj=>dC 1 (C j).1 (C j).2)=j9 C from rfl];have kit:∀Y:Ev,gv Y 6=some (j9 C)->gv Y 7=some (dG v.1 v.2)->8<Y.length->yU 8 [((eC gr),(ao zI (aj 6) (eC (.int 1)))),((eC dZ),(aF gb [(aj 7),(aj 6)]))] Y= .ok (.nx (Y.set 8 (some (Fd (C 1).1 (C 1).2 s U)))):=λY g6 g7 hl=>by
  have v6:aj 6 Y= .ok (j9 C):=by rw[aj,g6]
  have v7:aj 7 Y= .ok (dG v.1 v.2):=by rw[aj,g7]
  have a1:ao zI (aj 6) (eC (.int 1)) Y= .ok (dC 1 (C 1).1 (C 1).2):=by
   rw[KY,v6];ext;exact uN (by decide)
  have a2:aF gb [(aj 7),(aj 6)] Y= .ok (dC 2 s U):=by
   rw[mV,Bv,v7,zi.bf,Bv,v6];exact eA
  rw[yU,show zf [((eC gr),(ao zI (aj 6) (eC (.int 1)))),((eC dZ),(aF gb [(aj 7),(aj 6)]))] Y= .ok [(gr,dC 1 (C 1).1 (C 1).2),(dZ,dC 2 s U)] by
   rw[zf,CG,zi.bf,a1,zi.bf,zf,CG,zi.bf,a2];rfl,zi.bf,bj ⟨show (BW [(gr,ab.none),(dZ,ab.none)]).Nodup by decide,Nat.le_of_ble_eq_true rfl,hl⟩]
  rfl
 rw[kit _ rfl rfl (of_decide_eq_true rfl)];ext;unfold Ku;ext;rw[ed];ext;rw[eT];ext;rw[eR];ext;rw[eS];rfl
theorem aao(Z:ws.length<=100000):yV [.dict (Ap ws)]= .ok (dL (aK ws)):=by
 have Y:(Ap ws).length<=bt:=by rw[Ap,ag];exact gp (Au Z)
 show gd ((Ap ws).length<=bt) (zi.ok (ab.list ((Ap ws).map (·.1))))=_;rw[bj Y];unfold Ap aK dL;rw[c9,c9];rfl
inductive Told (gs:A9) (n:Nat) (t:Int) (d:ab):Prop
 | made (ss:List aA) (o:Nat) (e:d= .tuple [.str "made",dC n ss o]) (h:fU gs n t 429 ss o):Told gs n t d
 | cant (W:A6) (e:d= .tuple [.str "cant",nG (2^n) (srt (aK W)),dL (cj n)]) (I:dX gs n W []) (hl:W.length<=16) (ht:t∉aK W):Told gs n t d
theorem S8(q:∀g∈gs,g.1<=4/\0<=g.2/\g.2<2^2^g.1)(Z:gs.length<=8)(L:p<=2)(E:jj (2^2^p) gs<=20000)(h0:0<=x)(H:x<2^2^p) :
 ∃d,nW [.list (gs.map A0),dG p x]= .ok d/\Told gs p x d:=by
 have s:=λg h=>(q g h).1
 by_cases i:0<p/\tY gs=true
 . obtain ⟨l,o,D,Y⟩:=aaW q Z i.2 (by lia) i.1 h0 H;refine ⟨_,?_,.made l o rfl Y⟩;unfold nW;ext;rw[Hz s,i.2,decide_eq_true (show (0:Int)<p by lia)];ext;rw[D];rfl
 have nd:(cj p).Nodup:=by
  have:p=0\/p=1\/p=2:=by lia
  rcases this with rfl | rfl | rfl <;> decide +kernel
 obtain ⟨W,B,I,F,C⟩:=JS (pJ p) (λfs ws x w j I e h=>j.step I e h nd) (Ad nd) L Z s E;have u:=by have:=I.nd;rwa [show aK W++aK []=aK W from c8 _] at this
 have go:nW [.list (gs.map A0),dG p x]=(aG (sIf (ao inY (ao zI (aj 1) (eC (.int 1))) (aj 3)) (bA (cI [(eC (.str "made")),(aF fP [(aj 3),(ao zI (aj 1) (eC (.int 1))),(aj 2)])])) cP)
  (bA (cI [(eC (.str "cant")),(aF nJ [(aF gU [(aj 2)]),(eFn yV [(aj 3)])]),(aF fc [(aj 2)])])) [some (.list (gs.map A0)),some (dG p x),some (.int (p:Nat)),some (.dict (Ap W))]).bind fin:=by
  unfold nW;ext
  by_cases r:0<p
  . have J:=ot.mpr λz=>i ⟨r,z⟩;rw[Hz s,J,decide_eq_true (show (0:Int)<p by lia)];ext;rw[B];ext
  . rw[decide_eq_false (show ¬ (0:Int)<p by lia)];ext;rw[B];ext
 rw[go];ext;rw[aeE]
 cases v:lk x W with
 | some w=>
  obtain ⟨l,o,e,Y⟩:=wW I F q (by lia) (by lia) (oF.mp (by rw[v];rfl));refine ⟨_,?_,.made l o rfl ⟨Y.ok,Y.lt,Y.gin,Y.val,cS Y.len (by lia)⟩⟩;ext;rw[e];rfl
 | none=>
  refine ⟨_,?_,.cant W rfl I C λz=>?_⟩
  . rw[show (none:Option Way).isSome=false from rfl];ext;rw[pN (by lia)];ext;rw[aao (by lia)];ext;rw[Ot (by rw[KD u];rw[aK,ag];lia),KD u];ext;rw[lG (by lia)];ext;unfold nG cj;rw[show ((2^p:Nat):Int)=2^p by simp]
  . exact uF.mp v z
theorem J3{t:Int}(h0:0<=t)(Y:t<2^j):tab j (λr=>ak t (r:Nat))=t:=De (λ_=>aL _ _) h0 Y λ_ _=>rfl
theorem fU.table{t:Int}(C:fU gs j t W ss o)(h0:0<=t)(Z:t<2^2^j):(cA j ss).getD o 0=t:=by
 rw[tH,bU λr Y=>C.val r Y];exact J3 h0 Z
theorem fU.kept{n:Nat}(C:fU gs n y j ss o)(h0:0<=y)(Z:y<2^2^n)(Y:∀x∈rs,0<=x/\x<2^w)(i:∀g∈gs,Kp g.2 w rs g.1):Kp y w rs n:=by
 rw[<- C.table h0 Z];exact MT Y C.ok (λs e=>i (s.m,s.b) (C.gin s e)) C.lt
theorem Zz{t:Int}(h0:0<=t)(Z:t<2^2^W):cV t (cj W) (2^W)=t:=by
 refine (bU λr Y=>?_).trans (J3 h0 Z);congr 1;rw[cj,c9];have e:aV ((List.range W).map λj=>ak (r:Nat) (j:Nat))=(r:Nat):=by rw[<- wC];exact bW Y
 exact (congrArg aV (cp λj _=>yH Y)).trans e
theorem dX.kept(I:dX gs j ws []):∀g∈gs,Kp g.2 (2^j) (srt (aK ws)) g.1:=λg Z c e l=>by
 obtain ⟨w,Y,_⟩:=I.cl g Z c e λp i=>fM.mp (l p i);rw[c8] at Y;exact fM.mpr (bX.mpr ⟨_,Y,rfl⟩)
theorem dX.rows{n:Nat}(I:dX gs n ws []):∀x∈srt (aK ws),0<=x/\x<2^2^n:=λx Y=>I.bd x (da _ (fM.mp Y))
theorem dX.own{W:A6}(I:dX gs j W [])(h0:0<=b)(e:b<2^2^j)(h:Kp b (2^j) (srt (aK W)) j):b∈aK W:=by
 have:=h (cj j) (by rw[cj,ag,cq]) λx Z=>by
  obtain ⟨w,Y,_⟩:=I.inp x Z;rw[c8] at Y;exact fM.mpr (bX.mpr ⟨_,Y,rfl⟩)
 rw[Zz h0 e] at this;exact fM.mp this
noncomputable def b7:B4->zi ab:=fnR 2 (aG (sIf (ao ltD (aj 1) (eFn il [(aj 0)])) (bA (ao zI (aj 0) (aj 1))) cP)
 (bA (eC (.int 0))))
noncomputable def iJ:B4->zi ab:=fnR 3 (aG (aU 1 (ao mJ (aj 0) (eC (.int 7))))
 (aG (aU 2 (ao t6 (aj 0) (eC (.int 7))))
 (aG (sIf (ao eqD (aj 1) (eC (.int 0))) (bA (cI [(eC (.int 0)),(ao mJ (aj 2) (eC (.int 2)))])) cP)
 (aG (sIf (ao ltD (aj 1) (eC (.int 3))) (bA (cI [(eC (.int 1)),(ao mJ (aj 2) (eC (.int 4)))])) cP)
 (bA (cI [(eC (.int 2)),(ao mJ (aj 2) (eC (.int 16)))]))))))
noncomputable def eH:B4->zi ab:=fnR 7 (aG (aU 3 (eC (.int 0)))
 (aG (cH (jH (ao zI (bV [(eC (.int 1)),(eC (.int 2)),(eC (.int 4)),(eC (.int 8)),(eC (.int 16))]) (ao zI (aj 0) (eC (.int 0))))) (gN 4) [4,5,6] (aG (aU 5 (aj 2))
 (aG (cH (jH (ao zI (aj 0) (eC (.int 0)))) (gN 6) [6] (sIf (ao eqD (ao wJ (ao Jm (aj 4) (aj 6)) (eC (.int 1))) (eC (.int 1))) (aU 5 (ao wJ (aj 5) (ao zI (aj 1) (aj 6)))) (aU 5 (ao wJ (aj 5) (ao W5 (aj 2) (ao zI (aj 1) (aj 6)))))))
 (sIf (ao eqD (ao wJ (ao Jm (ao zI (aj 0) (eC (.int 1))) (aj 4)) (eC (.int 1))) (eC (.int 1))) (aU 3 (ao orD (aj 3) (aj 5))) cP))))
 (bA (aj 3))))
noncomputable def jn:B4->zi ab:=fnR 12 (aG (aU 2 (aF b7 [(aj 0),(eC (.int 5))]))
 (aG (aU 3 (ao c7 (eC (.int 1)) (ao mJ (aj 2) (eC (.int 3)))))
 (aG (aU 4 (ao jl (ao WR (eC (.int 1)) (aj 3)) (eC (.int 1))))
 (aG (aU 5 (bV []))
 (aG (cH (jH (ao mJ (ao t6 (aj 2) (eC (.int 3))) (eC (.int 4)))) (gN 6) [6,7] (aG (aU 7 (ao mJ (aF b7 [(aj 0),(ao c7 (eC (.int 6)) (aj 6))]) (ao c7 (aj 4) (eC (.int 1)))))
 (sIf (ao jX (aj 7) (aj 5)) (lN 5 (aj 7)) cP)))
 (aG (aU 8 (eC (.bool true)))
 (aG (mZ 1000000 (eUn EY (aj 8)) [9,10,11] (aG (aU 9 (bR (itL (aj 1)) (gN 0) (ao eqD (ao zI (aj 0) (eC (.int 0))) (eC (.int 0))) (aF eH [(aj 0),(bV []),(aj 1)]) 1 [4]))
 (aG (cH (itL (aj 5)) (gN 10) [10,11] (aG (sE 9 (bR (itL (aj 1)) (gN 0) (ao eqD (ao zI (aj 0) (eC (.int 0))) (eC (.int 1))) (aF eH [(aj 0),(bV [(aj 1)]),(aj 2)]) 1 [10,4]))
 (cH (itL (aj 5)) (gN 11) [11] (sE 9 (bR (itL (aj 1)) (gN 0) (ao eqD (ao zI (aj 0) (eC (.int 0))) (eC (.int 2))) (aF eH [(aj 0),(bV [(aj 1),(aj 2)]),(aj 3)]) 1 [10,11,4])))))
 (aG (aU 9 (bR (itL (eFn m9 [(aj 9)])) (gN 0) (ao jX (aj 0) (aj 1)) (aj 0) 1 [5]))
 (aG (aU 5 (ao Qn (aj 5) (aj 9)))
 (aU 8 (ao neD (aj 9) (bV []))))))))
 (bA (cI [(aj 3),(eFn fB [(eFn zR [(aj 5)])])])))))))))
noncomputable def jU:B4->zi ab:=fnR 9 (aG (aU 2 (aF b7 [(aj 0),(eC (.int 10))]))
 (aG (aU 3 (ao c7 (eC (.int 1)) (ao mJ (aj 2) (eC (.int 3)))))
 (aG (aU 4 (bV []))
 (aG (cH (jH (ao mJ (ao t6 (aj 2) (eC (.int 3))) (eC (.int 9)))) (gN 5) [5,6,7,8] (aG (aU 6 (aF b7 [(aj 0),(ao c7 (eC (.int 11)) (aj 5))]))
 (aG (aU 7 (ao zI (aj 1) (ao mJ (aj 6) (eFn il [(aj 1)]))))
 (aG (aU 8 (bR (jH (ao zI (aj 7) (eC (.int 0)))) (gN 0) (eC (.bool true)) (ao mJ (ao t6 (ao t6 (aj 1) (eC (.int 5))) (ao c7 (eC (.int 1)) (ao xj (eC (.int 6)) (aj 0)))) (ao c7 (aj 2) (aj 3))) 1 [6,3,5]))
 (lN 4 (cI [(aj 7),(eFn fB [(aj 8)])]))))))
 (bA (cI [(aj 3),(eFn fB [(aj 4)]),(eFn maxD [(eC (.int 0)),(ao jl (ao jl (ao c7 (aj 3) (eFn il [(aj 4)])) (eC (.int 1))) (ao mJ (ao t6 (aj 2) (eC (.int 27))) (eC (.int 2))))])]))))))
noncomputable def vy:B4->zi ab:=fnR 7 (aG (aU 1 (bR (jH (ao c7 (eC (.int 1)) (ao mJ (aF b7 [(aj 0),(eC (.int 0))]) (eC (.int 4))))) (gN 0) (eC (.bool true)) (aF iJ [(aF b7 [(aj 1),(ao c7 (eC (.int 1)) (aj 0))])]) 1 [0]))
 (aG (aU 2 (aF jn [(aj 0),(aj 1)]))
 (aG (aU 3 (aF jU [(aj 0),(aj 1)]))
 (aG (aU 4 (aF tO [(aj 3)]))
 (aG (sIf (ao neD (bR (itL (ao c7 (aj 1) (bV [(aj 4)]))) (gN 0) (ao zr (aF iy [(aj 0),(aj 1)]) (eC (.bool true))) (aj 0) 1 [2]) (bV [])) (bA (eC (.bool false))) cP)
 (aG (sIf (Bh (ao ltD (ao zI (aj 4) (eC (.int 0))) (eC (.int 3))) (ao neD (ao zI (aF nW [(aj 1),(aj 4)]) (eC (.int 0))) (eC (.str "made")))) (bA (eC (.bool false))) cP)
 (aG (aU 5 (aF iJ [(aF b7 [(aj 0),(eC (.int 20))])]))
 (aG (aU 6 (aF nW [(aj 1),(aj 5)]))
 (aG (sIf (ao eqD (ao zI (aj 6) (eC (.int 0))) (eC (.str "made"))) (bA (ao Ff (aF iy [(aj 5),(aj 2)]) (eC (.bool true)))) cP)
 (aG (sIf (eOr (ao neD (ao zI (aj 6) (eC (.int 0))) (eC (.str "cant"))) (ao zr (aF iy [(aj 5),(ao zI (aj 6) (eC (.int 1)))]) (eC (.bool false)))) (bA (eC (.bool false))) cP)
 (bA (eOr (ao gtD (ao zI (aj 4) (eC (.int 0))) (eC (.int 2))) (ao Ff (aF iy [(aj 4),(ao zI (aj 6) (eC (.int 1)))]) (eC (.bool true)))))))))))))))
noncomputable def cell(ns:B3)(k:Nat):Int:=ns.getD k 0
theorem rO{k:Nat}:b7 [dL ns,.int (k:Nat)]= .ok (.int (cell ns k)):=by
 unfold b7 dL;ext;rw[UG]
 by_cases h:k<ns.length
 . rw[if_pos (by simp;lia),ie (by rw[ba,av h];rfl)];ext;rw[cell,ae,av h];rfl
 . rw[if_neg (by simp;lia)];ext;rw[cell,ae,d3 (by lia)];rfl
theorem ad7(Y:m<=4):zI (.list [.int 1,.int 2,.int 4,.int 8,.int 16]) (.int (m:Nat))= .ok (.int ((2^m:Nat):Int)):=by
 rcases (by lia:m=0\/m=1\/m=2\/m=3\/m=4) with rfl | rfl | rfl | rfl | rfl <;> exact ie rfl
theorem adG(Z:m<=4)(j:ts.length=m):eH [dG m b,dL ts,.int (2^W - 1)]= .ok (.int (cV b ts W)):=by
 have e:=tK Z;unfold eH;ext;rw[ad7 Z];ext;rw[fG (by lia)];ext;refine bI (λi=>[some (dG m b),some (dL ts),some (.int (2^W - 1)),some (.int (tab W λr=>b01 (lQ ts b m r i))),none,none,none]) ?_ (λi x Y=>?_) ?_
 . rw[show (λr=>b01 (lQ ts b m r 0))=λ_=>(0:Int) from rfl,jA,Int.mul_zero]
 . obtain ⟨l,rfl⟩:=lC Y;ext;rw[fG (show m<2^62 by lia)];ext;refine bI (λk=>[some (dG m b),some (dL ts),some (.int (2^W - 1)),some (.int (tab W λr=>b01 (lQ ts b m r i))),some (.int i),some (.int (tab W λr=>b01 (lU ts i r k))),none]) ?_ (λk x Y=>?_) ?_
   . rw[show (λr=>b01 (lU ts i r 0))=λ_=>(1:Int) from rfl,jA,sh]
   . obtain ⟨o,rfl⟩:=lC Y;walk_at "go";rw[rl,show ((i:Nat):Int) / 2^((k:Nat):Int).toNat % 2=ak (i:Nat) (k:Nat) from rfl,Fp (by lia)];rcases aL i k with h | h
     . rw[h];ext;rw[show W5 (.int (2^W - 1)) (.int (ts.getD k 0))= .ok (.int (kT (2^W - 1) (ts.getD k 0))) from rfl];ext;rw[Rt h]
     . rw[h];ext;rw[X7 h]
   . rw[iR];walk_at "go";rw[rl,show b / 2^((i:Nat):Int).toNat % 2=ak b (i:Nat) from rfl];rcases aL b i with h | h
     . rw[h];ext;rw[show (λr=>b01 (lQ ts b m r (i+1)))=λr=>b01 (lQ ts b m r i) from funext λr=>by rw[Vq h]]
     . rw[h];ext;rw[aad h]
 . rw[iR];ext;congr 2;exact bU λr _=>aaO j
theorem vU(gs:A9):plain (.list (gs.map A0))=true:=by
 rw[Zq.plain];exact Gp λd hd=>by obtain ⟨g,_,rfl⟩:=bX.mp hd;exact Bg
theorem Xi(h:∀d∈ds,d.depth<=j)(Z:j<=8):(ab.list ds).depth<=64:=by
 have e:=xW h;have i:(ab.tuple ds).depth=lh ds+1:=by rw[ab.depth]
 have Y:(ab.list ds).depth=lh ds+1:=by rw[ab.depth]
 lia
theorem JV(gs:A9):(ab.list (gs.map A0)).depth<=64:=Xi (λd hd=>by obtain ⟨g,_,rfl⟩:=bX.mp hd;exact RC) (by decide)
theorem R0(c:Int):∃(m:Nat) (b:Int),m<=2/\0<=b/\b<2^2^m/\iJ [.int c]= .ok (dG m b):=by
 unfold iJ;ext
 by_cases Y:c % 7=0
 . rw[decide_eq_true Y];ext;exact ⟨0,_,by decide,lj _ (by decide),kL _ (by decide),rfl⟩
 . rw[decide_eq_false Y];ext
   by_cases Z:c % 7<3
   . rw[decide_eq_true Z];ext;exact ⟨1,_,by decide,lj _ (by decide),kL _ (by decide),rfl⟩
   . rw[decide_eq_false Z];ext;exact ⟨2,_,by decide,lj _ (by decide),kL _ (by decide),rfl⟩
structure GOk (g:Nat×Int):Prop where
 m2:g.1<=2
 b0:0<=g.2
 b1:g.2<2^2^g.1
structure Fr (gs:A9) (w:Nat) (rows:B3) (i:Nat) (F:B3):Prop where
 bd:∀x∈F,0<=x/\x<2^w
 k0:∀g∈gs,g.1=0->cV g.2 [] w∈F
 k1:∀a∈rows.take i,∀g∈gs,g.1=1->cV g.2 [a] w∈F
 k2:∀a∈rows.take i,∀b∈rows,∀g∈gs,g.1=2->cV g.2 [a,b] w∈F
 len:F.length<=gs.length+i*(gs.length+rows.length*gs.length)
noncomputable def rowsOf(gs:A9)(m w:Nat)(c:B3):B3:=(gs.filter λg=>decide (g.1=m)).map λg=>cV g.2 c w
theorem qX:x∈rowsOf gs m w c↔∃g∈gs,g.1=m/\cV g.2 c w=x:=by
 unfold rowsOf;simp[iF,and_assoc]
theorem vz:(rowsOf gs m w c).length<=gs.length:=by
 rw[rowsOf,ag];exact mx ..
theorem xq:∀x∈rowsOf gs m w c,0<=x/\x<2^w:=λx Y=>by
 obtain ⟨g,_,_,rfl⟩:=qX.mp Y;exact ⟨Li,aaF⟩
variable {a9 a11:Option ab}
section
variable   {rows:B3}{c:Int}{a6 a7 a8:Option ab}
theorem ar(g:Nat×Int)(k:Nat):decide (((g.1:Nat):Int)=(k:Nat))=decide (g.1=k):=decide_eq_decide.mpr (by lia)
theorem pt(Z:∀g∈gs,GOk g){g:Nat×Int}(Y:g∈gs)(e:decide (g.1=ts.length)=true):eH [A0 g,dL ts,.int (2^w - 1)]= .ok (.int (cV g.2 ts w)):=by
 have e:=of_decide_eq_true e;exact adG (by have:=(Z g Y).m2;lia) e.symm
theorem cm0(e:∀g∈gs,GOk g)(j:gs.length<=8){Z:Option ab}:bR (itL (aj 1)) (gN 0) (ao eqD (ao zI (aj 0) (eC (.int 0))) (eC (.int 0))) (aF eH [(aj 0),(bV []),(aj 1)]) 1 [4] [some (dL ns),some (.list (gs.map A0)),some (.int c),some (.int (w:Nat)),some (.int (2^w - 1)),some (dL rows),a6,a7,a8,a9,Z,a11]= .ok (dL (rowsOf gs 0 w [])):=by
 rw[jF A0 (λg=>decide (g.1=0)) (λg=>.int (cV g.2 [] w)) rfl (Au (by lia)) (λg _=>?_) λg Y i=>?_]
 . unfold rowsOf dL;rw[c9];rfl
 . ext;exact congrArg (λt=>zi.ok (ab.bool t)) (ar g 0)
 . ext;exact pt e Y (ts:=[]) i
theorem cm1(Z:∀g∈gs,GOk g)(i:gs.length<=8):bR (itL (aj 1)) (gN 0) (ao eqD (ao zI (aj 0) (eC (.int 0))) (eC (.int 1))) (aF eH [(aj 0),(bV [(aj 1)]),(aj 2)]) 1 [10,4] [some (dL ns),some (.list (gs.map A0)),some (.int c),some (.int (w:Nat)),some (.int (2^w - 1)),some (dL rows),a6,a7,a8,a9,some (.int x),a11]= .ok (dL (rowsOf gs 1 w [x])):=by
 rw[jF A0 (λg=>decide (g.1=1)) (λg=>.int (cV g.2 [x] w)) rfl (Au (by lia)) (λg _=>?_) λg Y e=>?_]
 . unfold rowsOf dL;rw[c9];rfl
 . ext;exact congrArg (λt=>zi.ok (ab.bool t)) (ar g 1)
 . ext;exact pt Z Y (ts:=[x]) e
theorem cm2(Z:∀g∈gs,GOk g)(i:gs.length<=8):bR (itL (aj 1)) (gN 0) (ao eqD (ao zI (aj 0) (eC (.int 0))) (eC (.int 2))) (aF eH [(aj 0),(bV [(aj 1),(aj 2)]),(aj 3)]) 1 [10,11,4] [some (dL ns),some (.list (gs.map A0)),some (.int c),some (.int (w:Nat)),some (.int (2^w - 1)),some (dL rows),a6,a7,a8,a9,some (.int x),some (.int y)]= .ok (dL (rowsOf gs 2 w [x,y])):=by
 rw[jF A0 (λg=>decide (g.1=2)) (λg=>.int (cV g.2 [x,y] w)) rfl (Au (by lia)) (λg _=>?_) λg Y e=>?_]
 . unfold rowsOf dL;rw[c9];rfl
 . ext;exact congrArg (λt=>zi.ok (ab.bool t)) (ar g 2)
 . ext;exact pt Z Y (ts:=[x,y]) e
theorem adR(H:∀g∈gs,GOk g)(s:gs.length<=8)(J:rows.length<=8):∃F:B3,Fr gs w rows rows.length F /\
 forR (gN 10) [10,11] (aG (sE 9 (bR (itL (aj 1)) (gN 0) (ao eqD (ao zI (aj 0) (eC (.int 0))) (eC (.int 1))) (aF eH [(aj 0),(bV [(aj 1)]),(aj 2)]) 1 [10,4]))
 (cH (itL (aj 5)) (gN 11) [11] (sE 9 (bR (itL (aj 1)) (gN 0) (ao eqD (ao zI (aj 0) (eC (.int 0))) (eC (.int 2))) (aF eH [(aj 0),(bV [(aj 1),(aj 2)]),(aj 3)]) 1 [10,11,4])))) (rows.map ab.int)
 [some (dL ns),some (.list (gs.map A0)),some (.int c),some (.int (w:Nat)),some (.int (2^w - 1)),some (dL rows),a6,a7,a8,some (dL (rowsOf gs 0 w [])),none,none]= .ok (.nx [some (dL ns),some (.list (gs.map A0)),some (.int c),some (.int (w:Nat)),some (.int (2^w - 1)),some (dL rows),a6,a7,a8,some (dL F),none,none]):=by
 have L:∀i,i<=rows.length->i*(gs.length+rows.length*gs.length)<=8*72:=λi Q=>by
  have h1:=k6 J s;exact k6 (by lia) (by lia)
 obtain ⟨P,e,F,rfl,l⟩:=vp (g:=gN 10) (cl:=[10,11]) (b:=aG (sE 9 (bR (itL (aj 1)) (gN 0) (ao eqD (ao zI (aj 0) (eC (.int 0))) (eC (.int 1))) (aF eH [(aj 0),(bV [(aj 1)]),(aj 2)]) 1 [10,4]))
  (cH (itL (aj 5)) (gN 11) [11] (sE 9 (bR (itL (aj 1)) (gN 0) (ao eqD (ao zI (aj 0) (eC (.int 0))) (eC (.int 2))) (aF eH [(aj 0),(bV [(aj 1),(aj 2)]),(aj 3)]) 1 [10,11,4])))) (xs:=rows.map ab.int) (λi q=>∃F:B3,q=[some (dL ns),some (.list (gs.map A0)),some (.int c),some (.int w),some (.int (2^w - 1)),some (dL rows),a6,a7,a8,some (dL F),none,none]/\Fr gs w rows i F)
  ⟨rowsOf gs 0 w [],rfl,xq,λg Y e=>qX.mpr ⟨g,Y,e,rfl⟩,(λa Z=>nomatch Z),(λa Z=>nomatch Z),by have:=vz (gs:=gs) (m:=0) (w:=w) (c:=[]);lia⟩ λi x q R O=>by
   obtain ⟨F,rfl,l⟩:=O;obtain ⟨x,ex,rfl⟩:=cU R;have Q:=(a0.mp ex).1;have M:=d6 ex;have S:=vz (gs:=gs) (m:=1) (w:=w) (c:=[x]);have fl:=l.len;have q1:=L i (by lia);have q2:=k6 J s;have I:=take_snoc ex;ext;rw[Fj (cm1 H s) rfl (gp (Au (by rw[ag,ag];lia))) (of_decide_eq_true rfl)];ext;refine Tf (λj q=>∃G:B3,q=[some (dL ns),some (.list (gs.map A0)),some (.int c),some (.int w),some (.int (2^w - 1)),some (dL rows),a6,a7,a8,some (dL G),some (.int x),none]/\(∀y∈G,0<=y/\y<2^w)/\(∀y∈F++rowsOf gs 1 w [x],y∈G)/\(∀b∈rows.take j,∀g∈gs,g.1=2->cV g.2 [x,b] w∈G)/\G.length<=(F++rowsOf gs 1 w [x]).length+j*gs.length) ⟨F++rowsOf gs 1 w [x],by unfold dL;rw[be],λy r=>?_,λy r=>r,(λb o=>nomatch o),by lia⟩ (λj y q r D=>?_) λq D=>?_
   . rcases ck.mp r with z | z
     . exact l.bd y z
     . exact xq y z
   . obtain ⟨G,rfl,B,p,u,v⟩:=D;obtain ⟨y,E,rfl⟩:=cU r;have U:=(a0.mp E).1;have l2:=vz (gs:=gs) (m:=2) (w:=w) (c:=[x,y]);have q3:j*gs.length<=8*8:=k6 (by lia) s;rw[ai] at v;ext;rw[Fj (cm2 H s) rfl (gp (Au (by rw[ag,ag];lia))) (of_decide_eq_true rfl)];ext;refine ⟨G++rowsOf gs 2 w [x,y],by unfold dL;rw[be],λz C=>?_,λz C=>da _ (p z C),λb o g Y e=>?_,?_⟩
     . rcases ck.mp C with z' | z'
       . exact B z z'
       . exact xq z z'
     . rw[take_snoc E] at o;rcases ck.mp o with z | z
       . exact da _ (u b z g Y e)
       . rw[aw.mp z];exact c6 _ (qX.mpr ⟨g,Y,e,rfl⟩)
     . rw[ai,ai,Nat.add_mul];lia
   . obtain ⟨G,rfl,B,p,u,v⟩:=D;rw[ag,ai] at v;rw[ag,d4] at u;ext;refine ⟨G,rfl,B,λg Y e=>p _ (da _ (l.k0 g Y e)),λa Z g Y e=>?_,λa Z b o g Y e=>?_,?_⟩
     . rw[I] at Z;rcases ck.mp Z with z | z
       . exact p _ (da _ (l.k1 a z g Y e))
       . rw[aw.mp z];exact p _ (c6 _ (qX.mpr ⟨g,Y,e,rfl⟩))
     . rw[I] at Z;rcases ck.mp Z with z | z
       . exact p _ (da _ (l.k2 a z b o g Y e))
       . rw[aw.mp z];exact u b o g Y e
     . rw[Nat.add_mul];lia
 rw[ag] at l;exact ⟨F,l,e⟩
end
theorem ack(Y:w<=3):2^w<=8:=cS (ew (by decide) Y) (by decide)
theorem Jt(Y:w<=3)(nd:xs.Nodup)(bd:∀x∈xs,0<=x/\x<2^w):xs.length<=8:=by
 have:=ph nd λx Z=>by
  rw[show ((2^w:Nat):Int)=2^w by simp];exact bd x Z
 have:=ack Y;lia
structure Clo (gs:A9) (w:Nat) (rows:B3):Prop where
 nd:rows.Nodup
 bd:∀x∈rows,0<=x/\x<2^w
theorem aet(ns:B3)(P:∀g∈gs,GOk g)(S:gs.length<=8):∃(w:Nat) (rs:B3),jn [dL ns,.list (gs.map A0)]= .ok (nG w rs)/\w<=3/\rs.length<=8/\(∀x∈rs,0<=x/\x<2^w)/\∀g∈gs,Kp g.2 w rs g.1:=by
 suffices z:Gives (jn [dL ns,.list (gs.map A0)]) λd=>∃(w:Nat) (rs:B3),d=nG w rs/\w<=3/\rs.length<=8/\(∀x∈rs,0<=x/\x<2^w)/\∀g∈gs,Kp g.2 w rs g.1 by
  obtain ⟨d,e,w,rs,rfl,h⟩:=z;exact ⟨w,rs,e,h⟩
 obtain ⟨q,eq,hq⟩:=yx (cell ns 5) (m:=3) (by decide);obtain ⟨p,ep,hp⟩:=yx (cell ns 5 / 3) (m:=4) (by decide);generalize hw:1+q=w;have o:w<=3:=by lia
 have w8:=ack o;have pp:(0:Int)<2^w:=Int.pow_pos (by decide);unfold jn;ext;rw[show b7 [dL ns,.int 5]= .ok (.int (cell ns 5)) from rO (k:=5)];ext;rw[eq,show (1:Int)+(q:Nat)=(w:Nat) by lia];rw[bj (show Ba _ _ from ⟨by lia,by lia,by lia⟩)];ext;rw[show (1:Int)*2^((w:Nat):Int).toNat=2^w by rw[Int.one_mul,dS]];walk_at "go";rw[ep,fG (by lia)];ext;refine vO (λi E=>∃rows:B3,E=[some (dL ns),some (.list (gs.map A0)),some (.int (cell ns 5)),some (.int (w:Nat)),some (.int (2^w - 1)),some (dL rows),none,none,none,none,none,none]/\Clo gs w rows) ⟨[],rfl,qE,λx j=>nomatch j⟩ (λi x E j D=>?_) λE D=>?_
 . obtain ⟨rows,rfl,Z⟩:=D;obtain ⟨hi,rfl⟩:=lC j;have I:=Jt o Z.nd Z.bd;ext;rw[show (6:Int)+(i:Nat)=((6+i:Nat):Int) by lia,rO];ext;rw[show (2:Int)^w - 1+1=2^w by lia,bj (by lia)];ext;have r0:0<=cell ns (6+i) % 2^w:=lj _ (by lia);have U:cell ns (6+i) % 2^w<2^w:=kL _ pp;generalize cell ns (6+i) % 2^w=r at r0 U ⊢;rw[Jz]
   by_cases h:r∈rows
   . rw[decide_eq_true h];ext;exact ⟨rows,rfl,Z⟩
   . rw[decide_eq_false h];unfold dL;ext;rw[bj (Au (by lia))];ext;refine ⟨rows++[r],by rw[be];rfl,ey.mpr ⟨Z.nd,xh _ r,λa L b B e=>h (by rw[<- aw.mp B,<- e];exact L)⟩,λx j=>?_⟩;rcases ck.mp j with z | z
     . exact Z.bd x z
     . rw[aw.mp z];exact ⟨r0,U⟩
 . obtain ⟨v,rfl,Q⟩:=D;ext;refine Xq (λk E=>∃(rows:B3) (b:Bool),E=[some (dL ns),some (.list (gs.map A0)),some (.int (cell ns 5)),some (.int (w:Nat)),some (.int (2^w - 1)),some (dL rows),none,none,some (.bool b),none,none,none]/\Clo gs w rows/\(b=false->∀g∈gs,Kp g.2 w rows g.1)/\k=2*(8 - rows.length)+b.toNat) (2*(8 - v.length)+1) ⟨v,true,rfl,Q,(λz=>nomatch z),rfl⟩ (by lia) (λk E D=>?_) λk E D J=>?_
   . obtain ⟨rows,b,rfl,Z,B,rfl⟩:=D
     cases b with
     | false=>exact .inl rfl
     | true=>
      have I:=Jt o Z.nd Z.bd;obtain ⟨F,H,eF⟩:=adR (gs:=gs) (w:=w) (ns:=ns) (rows:=rows) (c:=cell ns 5) (a6:=none) (a7:=none) (a8:=some (.bool true)) P S I;have fl:=H.len;have q2:rows.length*(gs.length+rows.length*gs.length)<=8*72:=k6 I (by have:rows.length*gs.length<=8*8:=k6 I S;lia);have fN:((srt (ddl F)).filter λx=>!decide (x∈rows)).Nodup:=List.Pairwise.filter _ ((g8 _).nodup_iff.mpr (Ge F));have M:∀x,x∈((srt (ddl F)).filter λx=>!decide (x∈rows))↔x∈F/\x∉rows:=λx=>by
       rw[iF,fM,M9];simp
      have dl:=Hd F;have d8:=Jt o (Ge F) λx j=>H.bd x (M9.mp j);have sl:(srt (ddl F)).length<=F.length:=by rw[(g8 _).length_eq];exact dl
      have fL:((srt (ddl F)).filter λx=>!decide (x∈rows)).length<=F.length:=cS (mx ..) sl;have ef:∀{a8:Option ab},bR (itL (eFn m9 [(aj 9)])) (gN 0) (ao jX (aj 0) (aj 1)) (aj 0) 1 [5] [some (dL ns),some (.list (gs.map A0)),some (.int (cell ns 5)),some (.int (w:Nat)),some (.int (2^w - 1)),some (dL rows),none,none,a8,some (dL F),none,none]= .ok (dL ((srt (ddl F)).filter λx=>!decide (x∈rows))):=λ{a8}=>by
       rw[jF (xs:=srt (ddl F)) ab.int (λx=>!decide (x∈rows)) ab.int ?_ (Au (by lia)) (λx _=>?_) λx _ _=>?_]
       . rfl
       . ext;rw[Gd (by lia)];rfl
       . ext;exact Jz
       . ext
      generalize ((srt (ddl F)).filter λx=>!decide (x∈rows))=Y at *
      refine .inr ⟨rfl,2*(8 - (rows++Y).length)+(!decide (Y=[])).toNat,[some (dL ns),some (.list (gs.map A0)),some (.int (cell ns 5)),some (.int (w:Nat)),some (.int (2^w - 1)),some (dL (rows++Y)),none,none,some (.bool (!decide (Y=[]))),some (dL Y),none,none],?_,?_,rows++Y,!decide (Y=[]),rfl,?_,?_,rfl⟩
      . have n8:(rows++Y).length<=8:=Jt o (ey.mpr ⟨Z.nd,fN,λa L b B e=>((M b).mp B).2 (by rw[<- e];exact L)⟩) λx j=>by
         rcases ck.mp j with z | z
         . exact Z.bd x z
         . exact H.bd x ((M x).mp z).1
        rw[ai] at n8 ⊢
        cases Y with
        | nil=>simp
        | cons x Y=>
         rw[decide_eq_false (show ¬ (x::Y=[]) from λz=>nomatch z)];rw[bo] at n8 ⊢;simp only[Bool.not_false,Bool.toNat_true];lia
      . rw[gf,wB,cm0 P S];ext;rw[eF];ext;rw[ef];ext;rw[show Qn (dL rows) (dL Y)= .ok (dL (rows++Y)) by unfold dL;rw[Tt (gp (Au (by rw[ag,ag];lia))),be]];ext;rw[show ab.list []=dL [] from rfl,Ug];ext
      . refine ⟨ey.mpr ⟨Z.nd,fN,λa L b B e=>((M b).mp B).2 (by rw[<- e];exact L)⟩,λx j=>?_⟩;rcases ck.mp j with z | z
        . exact Z.bd x z
        . exact H.bd x ((M x).mp z).1
      . intro O g s c u C;have O:Y=[]:=by
         cases Y with
         | nil=>rfl
         | cons x Y=>rw[decide_eq_false (show ¬ (x::Y=[]) from λz=>nomatch z)] at O;cases O
        subst O;rw[c8] at C ⊢;have R:cV g.2 c w∈F->cV g.2 c w∈rows:=λz=>f6 λy=>nomatch (M _).mpr ⟨z,y⟩
        refine R ?_;have t:=d4 (l:=rows);have m2:=(P g s).m2
        match c,u,C with
        | [],u,_=>exact H.k0 g s u.symm
        | [a],u,C=>exact H.k1 a (by rw[t];exact C a (by simp)) g s u.symm
        | [a,b],u,C=>exact H.k2 a (by rw[t];exact C a (by simp)) b (C b (by simp)) g s u.symm
        | _::_::_::_,u,_=>simp only[bo] at u;lia
   . obtain ⟨rows,b,rfl,Z,B,rfl⟩:=D;have B:=B (by
      have J:zi.ok (ab.bool b)= .ok (.bool false):=J;injection J with J;injection J)
     have I:=Jt o Z.nd Z.bd;ext;rw[show zR [dL rows]= .ok (dL (srt rows)) from J8 (by lia)];ext;refine ⟨_,rfl,w,srt rows,rfl,o,by rw[(g8 _).length_eq];exact I,λx j=>Z.bd x (fM.mp j),λg s c u C=>fM.mpr (B g s c u λx j=>fM.mp (C x j))⟩
theorem aee:maxD [.int 0,.int x]= .ok (.int (if 0<x then x else 0)):=rfl
theorem ab9(ns:B3)(E:∀g∈gs,GOk g)(h1:1<=gs.length)(hl:gs.length<=8):∃(n:Nat) (ss:List aA) (o:Nat),jU [dL ns,.list (gs.map A0)]= .ok (dC n ss o)/\n<=3/\aP n ss/\(∀s∈ss,(s.m,s.b)∈gs)/\ss.length<=8/\o<n+ss.length:=by
 suffices z:Gives (jU [dL ns,.list (gs.map A0)]) λd=>∃(n:Nat) (ss:List aA) (o:Nat),d=dC n ss o/\n<=3/\aP n ss/\(∀s∈ss,(s.m,s.b)∈gs)/\ss.length<=8/\o<n+ss.length by
  obtain ⟨d,e,n,ss,o,rfl,h⟩:=z;exact ⟨n,ss,o,e,h⟩
 obtain ⟨q,P,hq⟩:=yx (cell ns 10) (m:=3) (by decide);obtain ⟨p,R,hp⟩:=yx (cell ns 10 / 3) (m:=9) (by decide);obtain ⟨u,O,hu⟩:=yx (cell ns 10 / 27) (m:=2) (by decide);generalize hn:1+q=n;unfold jU;ext;rw[show b7 [dL ns,.int 10]= .ok (.int (cell ns 10)) from rO];walk_at "go";rw[P,show (1:Int)+q=n by lia,R,fG (by lia)];ext;refine vO (λi H=>∃ss:List aA,H=[some (dL ns),some (.list (gs.map A0)),some (.int (cell ns 10)),some (.int n),some (.list (ss.map aA.d)),none,none,none,none]/\ss.length=i/\aP n ss/\∀s∈ss,(s.m,s.b)∈gs) ⟨[],rfl,rfl,aP.nil,λs r=>nomatch r⟩ (λi x H Q D=>?_) λH D=>?_
 . obtain ⟨ss,rfl,r,ok,l⟩:=D;obtain ⟨hi,rfl⟩:=lC Q;obtain ⟨j,S,C⟩:=yx (cell ns (11+i)) (m:=((gs.length:Nat):Int)) (by lia);have C:j<gs.length:=by lia
   have Z:=fA C;have m2:=(E _ Z).m2;ext;rw[show 11+i=((11+i:Nat):Int) by lia,rO];ext;rw[bj (by lia)];ext;rw[S,ie (by rw[ba,av C];rfl)];ext;have I:∀v:Nat,v<gs[j].1->∃k:Nat,cell ns (11+i) / 5 / (1+6*(v:Nat)) % ((n:Nat)+(i:Nat))=(k:Nat)/\k<n+i:=λv Y=>by
    obtain ⟨k,U,L⟩:=yx (cell ns (11+i) / 5 / (1+6*v)) (m:=(n:Nat)+(i:Nat)) (by lia);exact ⟨k,U,by lia⟩
   obtain ⟨K,J⟩:∃K:Nat->Nat,∀v,v<gs[j].1->cell ns (11+i) / 5 / (1+6*v) % (n+i)=(K v:Nat)/\K v<n+i:=⟨λv=>if Y:v<gs[j].1 then (I v Y).choose else 0,λv Y=>by
    have:=(I v Y).choose_spec;simpa only[dif_pos Y] using this⟩
   rw[mQ (n:=gs[j].1) (λv=>.int (K v:Nat)) ?_ (Au (by lia)) λv Y=>?_]
   rotate_left
   . ext;exact fG (by lia)
   . ext;rw[bj (⟨by decide,by decide⟩),bj (.inl ⟨by lia,by lia⟩)];ext;rw[bj (⟨by lia,by lia⟩)];ext;rw[bj (by lia),(J v Y).1]
   ext;rw[bj (Au (by lia))];ext;refine ⟨ss++[⟨gs[j].1,gs[j].2,(List.range gs[j].1).map K⟩],?_,by rw[ai,cK,r],ok.snoc ⟨cS m2 (by decide),by rw[ag,cq],λk L=>?_,(E _ Z).b0,(E _ Z).b1⟩,λs B=>?_⟩
   . have e:aA.d ⟨gs[j].1,gs[j].2,(List.range gs[j].1).map K⟩= .tuple [A0 gs[j],.tuple ((List.range gs[j].1).map λv=>.int (K v:Nat))]:=by
      unfold aA.d dN;rw[c9];rfl
     rw[be,bq,fe,e]
   . obtain ⟨v,Y,rfl⟩:=bX.mp L;rw[r];exact (J v (er.mp Y)).2
   . rcases ck.mp B with z | z
     . exact l s z
     . rw[aw.mp z];exact Z
 . obtain ⟨ss,rfl,r,ok,l⟩:=D;rw[iR] at r;walk_at "go";rw[O,aee]
   by_cases M:(0:Int)<(n:Nat)+(ss.length:Nat) - 1 - (u:Nat)
   . rw[if_pos M];refine ⟨_,rfl,n,ss,n+ss.length - 1 - u,?_,by lia,ok,l,by lia,by lia⟩;rw[dC,show ((n+ss.length - 1 - u:Nat):Int)=(n:Nat)+(ss.length:Nat) - 1 - (u:Nat) by lia]
   . rw[if_neg M];exact ⟨_,rfl,n,ss,0,rfl,by lia,ok,l,by lia,by lia⟩
theorem Eu{a b:ab}(Z:d5 a=true)(e:d5 b=true)(Y:fT a b=true):neD a b= .ok (.bool false):=by
 rw[neD,bj ⟨Z,e⟩,Y];rfl
theorem qS{y:Str}{t:Bool}(Z:d5 (.str nm)=true)(e:d5 (.str y)=true)(Y:fT (.str nm) (.str y)=t):eqD (.str nm) (.str y)= .ok (.bool t):=by
 rw[eqD,bj ⟨Z,e⟩,Y]
theorem aeD:eqD (.str "made") (.str "made")= .ok (.bool true):=qS (by decide +kernel) (by decide +kernel) (by decide +kernel)
theorem ae9:eqD (.str "cant") (.str "made")= .ok (.bool false):=qS (by decide +kernel) (by decide +kernel) (by decide +kernel)
theorem aey:neD (.str "made") (.str "made")= .ok (.bool false):=Eu (by decide +kernel) (by decide +kernel) (by decide +kernel)
theorem afp:neD (.str "cant") (.str "cant")= .ok (.bool false):=Eu (by decide +kernel) (by decide +kernel) (by decide +kernel)
theorem acW:neD (.list []) (.list [])= .ok (.bool false):=
 Eu (iM (vU []) (JV [])) (iM (vU []) (JV [])) ((mW _ _ (vU []) (vU [])).mpr rfl)
theorem zy{t:Bool}(Y:rs.length<=16)(e:m<=3)(j:w<=100)(Z:t=true↔Kp b w rs m):iy [dG m b,nG w rs]= .ok (.bool t):=by
 have i:=cS (ly Y _) (ew (by decide) e);rw[Zx Y (by lia) (cS i (by decide)) j,sR.mpr (vW.trans Z.symm)]
theorem main(ns:B3)(h:ns.length<=63):vy [.list (ns.map ab.int)]= .ok (.bool true):=by
 show vy [dL ns]=_;obtain ⟨q,eq,hq⟩:=yx (cell ns 0) (m:=4) (by decide);have H:∀i:Nat,∃g:Nat×Int,GOk g/\iJ [.int (cell ns (1+i))]= .ok (A0 g):=λi=>by
  obtain ⟨m,b,h1,h2,h3,e⟩:=R0 (cell ns (1+i));exact ⟨(m,b),⟨h1,h2,h3⟩,e⟩
 obtain ⟨G,hG⟩:∃G:Nat->Nat×Int,∀i,GOk (G i)/\iJ [.int (cell ns (1+i))]= .ok (A0 (G i)):=⟨λi=>(H i).choose,λi=>(H i).choose_spec⟩;generalize egs:(List.range (1+q)).map G=gs;have gl:gs.length=1+q:=by rw[<- egs,ag,cq]
 have hg:∀g∈gs,GOk g:=λg hgg=>by
  rw[<- egs] at hgg;obtain ⟨i,_,rfl⟩:=bX.mp hgg;exact (hG i).1
 have hg4:∀g∈gs,g.1<=4/\0<=g.2/\g.2<2^2^g.1:=λg z=>⟨cS (hg g z).m2 (by decide),(hg g z).b0,(hg g z).b1⟩;have cn:∀n:Nat,n<=2->jj (2^2^n) gs<=20000:=λn hn=>by
  have e1:jj (2^2^n) gs<=gs.length*256:=SJ λg hgg=>by
   have h4:2^2^n<=2^2^2:=ew (by decide) (ew (by decide) hn);exact cS (ly h4 _) (cS (ew (by decide) (hg g hgg).m2) (by decide))
  have e3:gs.length*256<=8*256:=Nat.mul_le_mul_right _ (by lia);lia
 obtain ⟨w,rs,eR,hw,hrl,hrb,hrk⟩:=aet ns hg (by lia);obtain ⟨n,ss,o,eCi,hn,ok,hgn,hsl,ho⟩:=ab9 ns hg (by lia) (by lia);have T0:0<=(cA n ss).getD o 0:=by rw[tH];exact lB λr=>o8 uM o
 have T1:(cA n ss).getD o 0<2^2^n:=by rw[tH];exact u0 λr=>o8 uM o
 have TK:∀{w:Nat}{rs:B3},(∀x∈rs,0<=x/\x<2^w)->(∀g∈gs,Kp g.2 w rs g.1)->Kp ((cA n ss).getD o 0) w rs n:=λh1 h2=>MT h1 ok (λs hs=>h2 (s.m,s.b) (hgn s hs)) ho;have eG:=RL (by lia) ok (by lia) ho;generalize (cA n ss).getD o 0=T at *
 obtain ⟨m,b,m2,b0,b1,eW⟩:=R0 (cell ns 20);obtain ⟨dw,eM,hM⟩:=S8 hg4 (by lia) m2 (cn m m2) b0 b1;have mid:∀{y:Option ab},bR (itL (ao c7 (aj 1) (bV [(aj 4)]))) (gN 0) (ao zr (aF iy [(aj 0),(aj 1)]) (eC (.bool true))) (aj 0) 1 [2] [some (dL ns),some (.list (gs.map A0)),some (nG w rs),y,some (dG n T),none,none]= .ok (.list []):=λ{y}=>by
  rw[jF (xs:=gs++[(n,T)]) A0 (λ_=>false) A0 ?_ (Au (by rw[ai,cK];lia)) (λg hgg=>?_) λg _ _=>?_]
  . rw[List.filter_eq_nil_iff.mpr λ_ _=>by decide];rfl
  . ext;rw[qC (by rw[ag];show _+1<=_;lia),be];rfl
  . have hk:g.1<=3/\Kp g.2 w rs g.1:=by
     rcases ck.mp hgg with z | z
     . exact ⟨cS (hg g z).m2 (by decide),hrk g z⟩
     . rw[aw.mp z];exact ⟨hn,TK hrb hrk⟩
    ext;rw[zy (by lia) hk.1 (by lia) ⟨λ_=>hk.2,λ_=>rfl⟩];rfl
  . ext
 have mad:n<3->∃d,nW [.list (gs.map A0),dG n T]= .ok d/\zI d (.int 0)= .ok (.str "made"):=λhn2=>by
  obtain ⟨d,e,hT⟩:=S8 hg4 (by lia) (by lia) (cn n (by lia)) T0 T1;refine ⟨d,e,?_⟩
  cases hT with
  | made ss o e h=>rw[e];rfl
  | cant W e I hl ht=>exact absurd (I.own T0 T1 (TK I.rows I.kept)) ht
 unfold vy;ext;rw[mQ (n:=1+q) (λi=>A0 (G i)) ?_ (Au (by lia)) λi hi=>?_]
 rotate_left
 . ext;rw[show b7 [dL ns,.int 0]= .ok (.int (cell ns 0)) from rO];ext;rw[eq,show 1+q=((1+q:Nat):Int) by lia];exact fG (by lia)
 . ext;rw[show 1+i=((1+i:Nat):Int) by lia,rO];ext;exact (hG i).2
 rw[show (List.range (1+q)).map (λi=>A0 (G i))=gs.map A0 by rw[<- egs,c9];rfl];ext;rw[eR];ext;rw[eCi];ext;rw[eG];ext;rw[mid];ext;rw[acW];ext;have back:∀Γ:Ev,Γ=[some (dL ns),some (.list (gs.map A0)),some (nG w rs),some (dC n ss o),some (dG n T),none,none]->(aG (aU 5 (aF iJ [aF b7 [aj 0,eC (ab.int 20)]]))
  (aG (aU 6 (aF nW [aj 1,aj 5]))
   (aG
    (sIf (ao eqD (ao zI (aj 6) (eC (ab.int 0))) (eC (ab.str "made")))
     (bA (ao Ff (aF iy [aj 5,aj 2]) (eC (ab.bool true)))) cP)
    (aG
     (sIf
      (eOr
       (ao neD (ao zI (aj 6) (eC (ab.int 0))) (eC (ab.str "cant")))
       (ao zr (aF iy [aj 5,ao zI (aj 6) (eC (ab.int 1))])
        (eC (ab.bool false))))
      (bA (eC (ab.bool false))) cP)
     (bA
      (eOr (ao gtD (ao zI (aj 4) (eC (ab.int 0))) (eC (ab.int 2)))
       (ao Ff (aF iy [aj 4,ao zI (aj 6) (eC (ab.int 1))])
        (eC (ab.bool true)))))))) Γ).bind fin= .ok (.bool true):=λΓ e=>by
  subst e;ext;rw[show b7 [dL ns,.int 20]= .ok (.int (cell ns 20)) from rO];ext;rw[eW];ext;rw[eM]
  cases hM with
  | made ss o e C=>
   subst e;ext;rw[aeD];ext;rw[zy (by lia) (by lia) (by lia) ⟨λ_=>C.kept b0 b1 hrb hrk,λ_=>rfl⟩];rfl
  | cant W e I hl ht=>
   subst e;have wl:(srt (aK W)).length<=16:=by rw[(g8 _).length_eq];rw[aK,ag];exact hl
   have w4:2^m<=100:=cS (ew (by decide) m2) (by decide);ext;rw[ae9];ext;rw[afp];ext;rw[zy (t:=false) wl (by lia) w4 ⟨(λz=>nomatch z),λz=>absurd (I.own b0 b1 z) ht⟩];ext;rw[show zr (.bool false) (.bool false)= .ok (.bool false) from rfl];ext;rw[zy (t:=true) wl hn w4 ⟨λ_=>TK I.rows I.kept,λ_=>rfl⟩,show ((zi.ok (ab.bool true)).bind λx=>Ff x (ab.bool true))= .ok (.bool true) from rfl];cases decide ((2:Int)<(n:Nat)) <;> rfl
 by_cases h3:n<3
 . rw[decide_eq_true (show ((n:Nat):Int)<3 by lia)];obtain ⟨d,e1,e2⟩:=mad h3;ext;rw[e1];ext;rw[e2];ext;rw[aey];exact back _ rfl
 . rw[decide_eq_false (show ¬ ((n:Nat):Int)<3 by lia)];exact back _ rfl
noncomputable def top(i:Nat):Stmt:=PySem.Challenge.pw_gatekin_k34_whole_kept_by_what_is_made.main.body.getD i (.Pass ⟨0,0,0,0⟩)
noncomputable abbrev dE(x:Str)(n:Nat):Str×Nat:=(x,n)
noncomputable def defs:List (Str×Nat):=[dE "is_whole" 5,dE "row_count" 6,dE "table_limit" 7,dE "full_table" 8,dE "bit" 9,dE "number_of" 10,dE "input_table" 11,dE "input_tables" 12,dE "put_all" 13,dE "put" 14,dE "with_set" 15,dE "wires" 17,dE "gate_of" 18,dE "renamed" 20,dE "add_circuit" 21,dE "replaced" 22,dE "without_doubles" 23,dE "used_wires" 24,dE "without_unused" 25,dE "shared" 26,dE "gathered" 30,dE "marked" 31,dE "put_rows" 32,dE "power" 33,dE "list_count" 34,dE "lists_of" 35,dE "broken" 36,dE "keeps" 37,dE "fresh_lists" 38,dE "refuse_too_many" 39,dE "kind" 43,dE "first_breach" 44,dE "kinds" 45,dE "add_tree" 47,dE "tree_circuit" 48,dE "offer" 50,dE "first_ways" 51,dE "ways_from" 52,dE "way_circuit" 54,dE "makes_all" 59,dE "opposite" 60,dE "side" 61,dE "plain_tree" 62,dE "wish_tree" 63,dE "tables_at_hand" 64,dE "first_giving" 65,dE "nand_circuit" 66,dE "build" 67,dE "made" 69,dE "_law_cell_at" 71,dE "_law_gate" 72,dE "_law_put" 73,dE "_law_relation" 74,dE "_law_circuit" 75]
noncomputable def Xu:B6:=["bool", "enumerate", "int", "isinstance", "len", "list", "max", "min", "range", "reversed", "set", "sorted", "sum", "tuple", "zip"]
inductive Bb (K:aE):List (Str×Nat)->Prop
 | nil:Bb K []
 | cons {x:Str}{i:Nat}{l:List (Str×Nat)} (a:Fnd K x (top i)) (t:Bb K l):Bb K ((x,i)::l)
variable {K:aE}
theorem Bb.get{l:List (Str×Nat)}(h:Bb K l)(m:(nm,i)∈l):Fnd K nm (top i):=by
 induction h with
 | nil=>cases m
 | cons a t Y=>
  cases m with
  | head=>exact a
  | tail _ m=>exact Y m
inductive Bj (K:aE):B6->Prop
 | nil:Bj K []
 | cons {x:Str}{l:B6} (a:j2 K ff x=some none) (t:Bj K l):Bj K (x::l)
theorem Bj.get{l:B6}(h:Bj K l)(m:nm∈l):j2 K ff nm=some none:=by
 induction h with
 | nil=>cases m
 | cons a t Y=>
  cases m with
  | head=>exact a
  | tail _ m=>exact Y m
structure Ctx (K:aE) (mg:Str->B7) where
 h:Heap
 X:K.In h
 G:h.Ns ff mg
 F:Bb K defs
 N:Bj K Xu
 W:At K mg "ways" (top 53) ["gates", "inputs"]
 CP:bg
 aev:mg "AND"= some CP
 BX:lO K 9 yS CP=true
 uG:bg
 Mw:mg "KINDS"= some uG
 rA:lO K 9 qe uG=true
 pX:bg
 yO:mg "MOST_CLOSED_ROWS"= some pX
 xG:zo (.int 128) pX
 xr:bg
 xY:mg "MOST_LISTS"= some xr
 yG:zo (.int 20000) xr
 yz:bg
 yP:mg "NAND"= some yz
 nT:lO K 9 dZ yz=true
 Di:bg
 O6:mg "NOT"= some Di
 vX:lO K 9 gr Di=true
 Ab:Addr
 Lq:mg "RELATIONS"= some (.ref Ab)
 lW:Jr K Ab ql=true
 T:Addr
 hT:TabAt K mg T
variable {mg:Str->B7}
theorem Ctx.n(C:Ctx K mg)(m:nm∈Xu:=by decide +kernel):mg nm=none:=PySem.W.mg_none_of C.X C.G (C.N.get m)
theorem Ctx.f{n:Nat}{ps:B6}(C:Ctx K mg)(m:(nm,n)∈defs:=by decide +kernel)
 (b:∀(kV Y pm:bg) (e:C3) (Z ct:bg) (us:B8),us.length=ps.length->kA (eJ nm nm (cC (top n)) (bK (top n)) (aM (top n)) .none kV Y pm e Z ct) ⟨us,[]⟩=pure (ps.zip us):=by first | exact abv (by intros;rfl) rfl | exact WK (by intros;rfl) rfl | exact abo (by intros;rfl) rfl | exact acK (by intros;rfl) rfl):At K mg nm (top n) ps:=(C.F.get m).at C.X C.G b
theorem aaA:eI "bool"= some (.type "bool"):=by decide +kernel
theorem abQ:eI "int"= some (.type "int"):=by decide +kernel
theorem ig:eI "len"= some (.builtin "len"):=by decide +kernel
theorem uE:eI "list"= some (.type "list"):=by decide +kernel
theorem acJ:eI "max"= some (.builtin "max"):=by decide +kernel
theorem Hy:eI "range"= some (.type "range"):=by decide +kernel
theorem Tu:eI "sorted"= some (.builtin "sorted"):=by decide +kernel
theorem Ru:eI "sum"= some (.builtin "sum"):=by decide +kernel
theorem d7:eI "tuple"= some (.type "tuple"):=by decide +kernel
section
variable {P:gi}{w:kz}   {base:Heap}
theorem Af(C:Ctx K mg):Def P w K mg base 1 "is_whole" ["thing"] (spF K [.zC] .f jP):=
 bL (top 5) ["thing"] [.zC] C.f λnd Y=>
 (aC (bw (adz (RZ ZX rfl C.n (az 0) (Yi rfl C.n abQ)) (TQ (abN (RZ W0 rfl C.n (az 0) (Yi rfl C.n aaA)))))))
theorem nq(C:Ctx K mg):Def P w K mg base 1 "row_count" ["inputs"] (spF K [.zC] .f gU):=
 bL (top 6) ["inputs", "count", "j"] [.zC,.zD,.zD] C.f λnd Y=>
 (bx (bC 1 nd fJ)
  (bx (gk [2] (iC rfl C.n (az 0)) (cW 2 nd) (aC (bC 1 nd (aR uY sI (az 1)))))
  (aC (bw (aO 1)))))
theorem Ft(C:Ctx K mg):Def P w K mg base 1 "table_limit" ["inputs"] (spF K [.zC] .f mz):=
 bL (top 7) ["inputs", "limit", "j"] [.zC,.zD,.zD] C.f λnd Y=>
 (bx (bC 1 nd fJ)
  (bx (gk [2] (iC rfl C.n (az 0)) (cW 2 nd) (aC (bC 1 nd (aR uY (az 1) (az 1)))))
  (aC (bw (aO 1)))))
theorem mq(C:Ctx K mg):Def P w K mg base 2 "full_table" ["inputs"] (spF K [.zC] .f gZ):=
 bL (top 8) ["inputs"] [.zC] C.f λnd Y=>
 (aC (bw (aR jy (sp (bD (Ft C) Y (aN 0 aB))) sI)))
theorem Q8(C:Ctx K mg):Def P w K mg base 1 "bit" ["number", "place"] (spF K [.zC,.zC] .f Cj):=
 bL (top 9) ["number", "place"] [.zC,.zC] C.f λnd Y=>
 (aC (bw (aR rZ (sp (aR HX (az 0) (az 1))) sI)))
theorem Ju(C:Ctx K mg):Def P w K mg base 1 "number_of" ["figures"] (spF K [.zC] .f pL):=
 bL (top 10) ["figures", "number", "figure"] [.zC,.zD,.zD] C.f λnd Y=>
 (bx (bC 1 nd fJ)
  (bx (gk [2] (acI rfl C.n (gM 0)) (cW 2 nd) (aC (bC 1 nd (aR cT (sp (aR uY sI (az 1))) (az 2)))))
  (aC (bw (aO 1)))))
theorem Fo(C:Ctx K mg):Def P w K mg base 2 "input_table" ["inputs", "j"] (spF K [.zC,.zC] .f mC):=
 bL (top 11) ["inputs", "j"] [.zC,.zC] C.f λnd Y=>
 (aC (bw (bD (Ju C) Y (bz (sfp (fW ["row"] [1] rfl rfl rfl rfl (by decide) (mO rfl C.n (sp (bD (nq C) Y (aN 0 aB)))) (λ_ _ _ _ _=>(cY 0 (show g9 (["row", "j"]:B6) by decide +kernel) rfl (hX rfl))) (λ_ _ _ _ _=>eY) (λ_ _ _ _ _=>(bD (Q8 C) Y (aN 0 (aN 1 aB)))))) aB))))
theorem j8(C:Ctx K mg):Def P w K mg base 3 "input_tables" ["inputs"] (spF K [.zC] .t fc):=
 bL (top 12) ["inputs"] [.zC] C.f λnd Y=>
 (aC (vo (fW ["j"] [0] rfl rfl rfl rfl (by decide) (mO rfl C.n (az 0)) (λ_ _ _ _ _=>(cY 0 (show g9 (["j", "inputs"]:B6) by decide +kernel) rfl (hX rfl))) (λ_ _ _ _ _=>eY) (λ_ _ _ _ _=>(bD (Fo C) Y (aN 1 (aN 0 aB)))))))
theorem Cp(C:Ctx K mg):Def P w K mg base 2 "put_all" ["gate", "numbers", "full"] (spF K [.zC,.zC,.zC] .f qd):=
 bL (top 13) ["gate", "numbers", "full", "given", "number"] [.zC,.zC,.zC,.zD,.zD] C.f λnd Y=>
 (bx (bC 3 nd (sfe (fW ["place"] [2,0] rfl rfl rfl rfl (by decide) (mO rfl C.n (sp (bD (nq C) Y (bz (sp (sx 0)) aB)))) (λ_ _ _ _ _=>(cY 0 (show g9 (["place", "full", "gate"]:B6) by decide +kernel) rfl (hX rfl))) (λ_ _ _ _ _=>eY) (λ_ _ _ _ _=>(aR uY (az 1) (sp (bD (Q8 C) Y (bz (sp (sx 2)) (aN 0 aB)))))))))
  (bx (gk [4] (eZ (gM 1)) (cW 4 nd) (aC (bC 3 nd (sfe (fW ["k"] [3,4] rfl rfl rfl rfl (by decide) (Ry rfl C.n sI (sp (dD jV rfl C.n ig (aN 3 aB))) sI) (λ_ _ _ _ _=>(cY 0 (show g9 (["k", "given", "number"]:B6) by decide +kernel) rfl (hX rfl))) (λ_ _ _ _ _=>eY) (λ_ _ _ _ _=>(aR Yg (sp (aR rZ (sp (gY (az 1) (az 0))) (sp (acX (az 2))))) (sp (aR rZ (sp (gY (az 1) (sp (aR cT (az 0) sI)))) (az 2))))))))))
  (aC (bw (sx 3)))))
theorem yo(C:Ctx K mg):Def P w K mg base 3 "put" ["gate", "tables", "inputs"] (spF K [.zC,.zC,.zC] .f nO):=
 bL (top 14) ["gate", "tables", "inputs"] [.zC,.zC,.zC] C.f λnd Y=>
 (aC (bw (bD (Cp C) Y (aN 0 (aN 1 (bz (sp (bD (mq C) Y (aN 2 aB))) aB))))))
theorem Ah(C:Ctx K mg):Def P w K mg base 4 "with_set" ["gate", "j", "w"] (spF K [.zC,.zD,.zC] .f jG):=
 bL (top 15) ["gate", "j", "w", "inputs", "tables"] [.zC,.zD,.zC,.zD,.own] C.f λnd Y=>
 (bx (bC 3 nd (aR jy (sp (sx 0)) sI))
  (bx (eE 4 nd (ou (j8 C) Y (aN 3 aB)))
  (bx (abZ 4 (aO 1) (Qf (dH (iG Y.units) (az 2) sI) (bD (mq C) Y (aN 3 aB)) fJ))
  (aC (bw (bQ (aJ (aO 3) (aJ (bD (yo C) Y (aN 0 (aN 4 (aN 3 aB)))) aX))))))))
theorem V8(C:Ctx K mg):Def P w K mg base 4 "wires" ["circuit"] (spF K [.zC] .t zg):=
 bL (top 17) ["circuit", "inputs", "tables", "step"] [.zC,.zD,.own,.zD] C.f λnd Y=>
 (bx (bC 1 nd (sx 0))
  (bx (eE 2 nd (ou (j8 C) Y (aN 1 aB)))
  (bx (gk [3] (eZ (sq (sx 0))) (cW 3 nd) (aC (jh 2 (bD (yo C) Y (bz (sp (sx 3)) (bz (sfp (fW ["wire"] [2] rfl rfl rfl rfl (by decide) (jg (sp (sx 3))) (λ_ _ _ _ _=>(cY 0 (show g9 (["wire", "tables"]:B6) by decide +kernel) rfl (hX rfl))) (λ_ _ _ _ _=>eY) (λ_ _ _ _ _=>(gY (az 1) (az 0))))) (aN 1 aB)))))))
  (aC (oY 2)))))
theorem QJ(C:Ctx K mg):Def P w K mg base 5 "gate_of" ["circuit"] (spF K [.zC] .f tO):=
 bL (top 18) ["circuit"] [.zC] C.f λnd Y=>
 (aC (bw (bQ (aJ (sx 0) (aJ (gY (sfp (ou (V8 C) Y (aN 0 aB))) (sp (sx 0))) aX)))))
theorem wI(C:Ctx K mg):Def P w K mg base 1 "renamed" ["step", "names"] (spF K [.zC,.zC] .f jB):=
 bL (top 20) ["step", "names"] [.zC,.zC] C.f λnd Y=>
 (aC (bw (bQ (aJ (sx 0) (aJ (dz dY rfl C.n d7 (bz (sfp (fW ["wire"] [1] rfl rfl rfl rfl (by decide) (jg (sp (sx 0))) (λ_ _ _ _ _=>(cY 0 (show g9 (["wire", "names"]:B6) by decide +kernel) rfl (hX rfl))) (λ_ _ _ _ _=>eY) (λ_ _ _ _ _=>(rP Y.cN (az 1) (az 0) (λ_ _=>rfl))))) aB)) aX)))))
theorem pq:cL ["steps", "inputs", "circuit", "starts", "names", "step"] ["steps", "inputs", "circuit", "starts"] (aM (top 21)):=sck
theorem gV(C:Ctx K mg):Def P w K mg base 2 "add_circuit" ["steps", "inputs", "circuit", "starts"] (spM K [.zC,.zC,.zC,.zC] 0 dq):=
 En (N:=["steps", "inputs", "circuit", "starts", "names", "step"]) (fs:=[.zC,.zC,.zC,.zC]) (O:=λp=>[.fix p,.zC,.zC,.zC,.own,.zD]) (O':=λ_=>[]) (Ol:=[]) (j:=0) (C.f (n:=21)) pq rfl (by decide) (λ_=>rfl) (λp=>of_decide_eq_true rfl) λp f Z A AA s H E Y=>
 (aW (eE 4 pq.nd (xH ZP rfl C.n uE (aN 3 aB)))
  (aW (iD fk rfl [5] (eZ (sq (sx 2))) (cW 5 pq.nd) (aW (jh 0 (bD (wI C) Y (aN 5 (aN 4 aB))))
  (aC (jh 4 (aR jy (sp (aR cT (az 1) (sp (dD jV rfl C.n ig (aN 0 aB))))) sI)))) Cy)
  (aC (Ez 0 rfl (gY (az 4) (sp (sx 2)))))))
theorem lZ:cL ["circuit", "kit", "inputs", "names", "steps", "step"] ["circuit", "kit"] (aM (top 22)):=sck
theorem Lb(C:Ctx K mg):Def P w K mg base 3 "replaced" ["circuit", "kit"] (spT K .zC .f nC):=
 Uk (N:=["circuit", "kit", "inputs", "names", "steps", "step"]) (f0:=.zC) (o0:=.zC) (O:=[.zD,.own,.own,.zD]) (O':=[]) (Ol:=[]) (rm:=.f) (C.f (n:=22)) lZ rfl (by decide) (.inr ⟨rfl,rfl⟩) λf Z A AA s H E Y=>
 (aW (bC 2 lZ.nd (sx 0))
  (aW (eE 3 lZ.nd (GP rfl rfl C.n uE rfl C.n Hy (az 2)))
  (aW (eE 4 lZ.nd (bM aX))
  (aW (iD fk rfl [5] (eZ (sq (sx 0))) (cW 5 lZ.nd) (aC (M5 3 4 (by decide) (iB 4 (gV C) (Y.mono (by decide)) rfl (jT 4 (eO (gM 2) (eO (sq (acZ 1 Y.cN (sx 5) (λ_ _=>rfl))) (eO (sq (sfe (fW ["wire"] [3] rfl rfl rfl rfl (by decide) (jg (sp (sx 5))) (λ_ _ _ _ _=>(cY 0 (show g9 (["wire", "names"]:B6) by decide +kernel) rfl (hX rfl))) (λ_ _ _ _ _=>eY) (λ_ _ _ _ _=>(gY (az 1) (az 0)))))) jW)))) rfl rfl rfl (by decide)))) (by decide))
  (aC (bw (bQ (aJ (aO 2) (aJ (dz dY rfl C.n d7 (aN 4 aB)) (aJ (gY (az 3) (sp (sx 0))) aX))))))))))
theorem xQ(C:Ctx K mg):Def P w K mg base 2 "without_doubles" ["circuit"] (spF K [.zC] .f jf):=
 bL (top 23) ["circuit", "inputs", "names", "steps", "stayed", "old", "step"] [.zC,.zD,.own,.own,.own,.zD,.zD] C.f λnd Y=>
 (aW (bC 1 nd (sx 0))
  (aW (eE 2 nd (GP rfl rfl C.n uE rfl C.n Hy (az 1)))
  (aW (eE 3 nd (bM aX))
  (aW (Y9 4 (O1:=[.zC,.zD,.own,.own,.own,.zD,.zD]) (eE 4 nd q8))
  (aW (iD fk rfl [5,6] (eZ (sq (sx 0))) (cW 5 nd) (aW (bC 6 nd (bD (wI C) Y (aN 5 (aN 2 aB))))
  (aW (cR (Ul 4 Y.cN (aO 6)) (aW (YK 4 Y.cN (aO 6) (aR cT (az 1) (sp (dD jV rfl C.n ig (aN 3 aB)))))
  (aC (jh 3 (aO 6)))) cu)
  (aC (jh 2 (abG 4 Y.cN (aO 6) (λ_ _=>rfl)))))) (by decide))
  (aC (bw (bQ (aJ (aO 1) (aJ (dz dY rfl C.n d7 (aN 3 aB)) (aJ (gY (az 2) (sp (sx 0))) aX)))))))))))
theorem Hh(C:Ctx K mg):Def P w K mg base 1 "used_wires" ["circuit"] (spF K [.zC] .t nU):=
 bL (top 24) ["circuit", "inputs", "steps", "used", "s", "wire"] [.zC,.zD,.zD,.own,.zD,.zD] C.f λnd Y=>
 (bx (bC 1 nd (sx 0))
  (bx (bC 2 nd (sx 0))
  (bx (eE 3 nd (YH (sx 0) nR))
  (bx (gk [4,5] (R6 rfl C.n (sp (aR jy (sp (dD jV rfl C.n ig (aN 2 aB))) sI)) (sp (Sg sI)) (sp (Sg sI))) (cW 4 nd) (aC (cR (n6 (Ii Y.cN) (sp (aR cT (az 1) (az 4))) (az 3) rfl) (aC (gk [5] (eZ (sq (gY (sp (gY (az 2) (az 4))) sI))) (cW 5 nd) (aC (qY 3 Y.cN (aO 5) nR)))) cu)))
  (aC (oY 3))))))
theorem qz(C:Ctx K mg):Def P w K mg base 2 "without_unused" ["circuit"] (spF K [.zC] .f fY):=
 bL (top 25) ["circuit", "inputs", "used", "names", "j", "steps", "s", "step"] [.zC,.zD,.zD,.own,.zD,.own,.zD,.zD] C.f λnd Y=>
 (bx (bC 1 nd (sx 0))
  (bx (bC 2 nd (sfe (ou (Hh C) Y (aN 0 aB))))
  (bx (eE 3 nd q8)
  (bx (gk [4] (iC rfl C.n (az 1)) (cW 4 nd) (aC (qY 3 Y.cN (aO 4) (aO 4))))
  (bx (eE 5 nd (bM aX))
  (bx (gk [6,7] (MF rfl C.n (sq (sx 0))) (xR rfl (tX (cW 6 nd) (tX (cW 7 nd) vm))) (aC (cR (n6 (Ii Y.cN) (sp (aR cT (az 1) (az 6))) (az 2) rfl) (bx (jh 5 (bD (wI C) Y (aN 7 (aN 3 aB))))
  (aC (qY 3 Y.cN (aR cT (az 1) (az 6)) (aR jy (sp (aR cT (az 1) (sp (dD jV rfl C.n ig (aN 5 aB))))) sI)))) cu)))
  (aC (bw (bQ (aJ (aO 1) (aJ (dz dY rfl C.n d7 (aN 5 aB)) (aJ (rP Y.cN (az 3) (sp (sx 0)) (λ_ _=>rfl)) aX))))))))))))
theorem FW(C:Ctx K mg):Def P w K mg base 3 "shared" ["circuit"] (spF K [.zC] .f o6):=
 bL (top 26) ["circuit"] [.zC] C.f λnd Y=>
 (aC (bw (bD (qz C) Y (bz (sp (bD (xQ C) Y (aN 0 aB))) aB))))
theorem Ma(C:Ctx K mg):Def P w K mg base 1 "gathered" ["width", "rows"] (spF K [.zD,.zC] .f nJ):=
 bL (top 30) ["width", "rows"] [.zD,.zC] C.f λnd Y=>
 (aC (bw (bQ (aJ (aO 0) (aJ (dz dY rfl C.n d7 (bz (sfp (Fw rfl rfl C.n rfl C.n (az 1))) aB)) aX)))))
theorem Rz(C:Ctx K mg):Def P w K mg base 1 "marked" ["rows"] (spF K [.zC] .t wQ):=
 bL (top 31) ["rows", "marks", "row"] [.zC,.own,.zD] C.f λnd Y=>
 (bx (eE 1 nd q8)
  (bx (gk [2] (eZ (gM 0)) (cW 2 nd) (aC (qY 1 Y.cN (aO 2) nR)))
  (aC (oY 1))))
theorem K6(C:Ctx K mg):Def P w K mg base 3 "put_rows" ["gate", "rows", "width"] (spF K [.zC,.zC,.zC] .f qW):=
 bL (top 32) ["gate", "rows", "width"] [.zC,.zC,.zC] C.f λnd Y=>
 (aC (bw (bD (Cp C) Y (aN 0 (aN 1 (bz (sp (aR jy (sp (bD (nq C) Y (aN 2 aB))) sI)) aB))))))
theorem X5(C:Ctx K mg):Def P w K mg base 1 "power" ["base", "exponent"] (spF K [.zC,.zC] .f zV):=
 bL (top 33) ["base", "exponent", "product", "j"] [.zC,.zC,.zD,.zD] C.f λnd Y=>
 (bx (bC 2 nd fJ)
  (bx (gk [3] (iC rfl C.n (az 1)) (cW 3 nd) (aC (bC 2 nd (aR uY (az 0) (az 2)))))
  (aC (bw (aO 2)))))
theorem xf(C:Ctx K mg):Def P w K mg base 2 "list_count" ["count", "gates"] (spF K [.zC,.zC] .f jx):=
 bL (top 34) ["count", "gates"] [.zC,.zC] C.f λnd Y=>
 (aC (bw (dD (Uy rfl) rfl C.n Ru (bz (sfp (fW ["gate"] [0] rfl rfl rfl rfl (by decide) (jg (az 1)) (λ_ _ _ _ _=>(cY 0 (show g9 (["gate", "count"]:B6) by decide +kernel) rfl (hX rfl))) (λ_ _ _ _ _=>eY) (λ_ _ _ _ _=>(bD (X5 C) Y (aN 1 (bz (sp (sx 0)) aB)))))) aB))))
theorem uA(C:Ctx K mg):Def P w K mg base 1 "lists_of" ["choices"] (spF K [.zC] .f iK):=
 bL (top 35) ["choices", "lists", "rows", "longer", "chosen", "row"] [.zC,.zD,.zD,.own,.zD,.zD] C.f λnd Y=>
 (aW (bC 1 nd (sfe (bM (aJ (sfe (bM aX)) aX))))
  (aW (iD fk rfl [2,3,4,5] (eZ (gM 0)) (cW 2 nd) (aW (eE 3 nd (bM aX))
  (aW (iD fk rfl [4,5] (eZ (gM 1)) (cW 4 nd) (aC (iD fk rfl [5] (eZ (gM 2)) (cW 5 nd) (aC (jh 3 (aR cT (az 4) (sfp (bM (aJ (aO 5) aX)))))) (by decide))) (by decide))
  (aC (Jo 3 (O2:=[.zC,.zD,.zD,.zD,.zD,.zD]) (bC 1 nd (aO 3)))))) (by decide))
  (aC (bw (aO 1)))))
theorem Gx(C:Ctx K mg):Def P w K mg base 4 "broken" ["gate", "relation"] (spF K [.zD,.zC] .f oV):=
 bL (top 36) ["gate", "relation", "width", "rows", "marks", "chosen"] [.zD,.zC,.zD,.zD,.zD,.zD] C.f λnd Y=>
 (bx (bC 2 nd (sx 1))
  (bx (bC 3 nd (sx 1))
  (bx (cR (dH zu (sp (bD (xf C) Y (bz (sp (dD jV rfl C.n ig (aN 3 aB))) (bz (sfp (bM (aJ (aO 0) aX))) aB)))) (sp (zK rfl C.xY C.yG (λ_=>Rp.int.mpr rfl)))) (aC Il) cu)
  (bx (bC 4 nd (sfe (ou (Rz C) Y (aN 3 aB))))
  (bx (gk [5] (eZ (sq (bD (uA C) Y (bz (sfp (Dr (bM (aJ (aO 3) aX)) (sp (sx 0)))) aB)))) (cW 5 nd) (aC (cR (n6 (mR Y.cN) (sp (bD (K6 C) Y (aN 0 (aN 5 (aN 2 aB))))) (az 4) rfl) (aC (bw (aO 5))) cu)))
  (aC (bw kZ)))))))
theorem wV(C:Ctx K mg):Def P w K mg base 5 "keeps" ["gate", "relation"] (spF K [.zD,.zC] .f iy):=
 bL (top 37) ["gate", "relation"] [.zD,.zC] C.f λnd Y=>
 (aC (bw (uJ Dq (sp (bD (Gx C) Y (cO (aO 0) (aN 1 aB)))) (sp kZ) (u9 _))))
theorem Ef(C:Ctx K mg):Def P w K mg base 2 "fresh_lists" ["old", "fresh", "length"] (spF K [.zD,.zD,.zC] .t my):=
 bL (top 38) ["old", "fresh", "length", "lists", "place"] [.zD,.zD,.zC,.own,.zD] C.f λnd Y=>
 (bx (eE 3 nd (bM aX))
  (bx (gk [4] (iC rfl C.n (az 2)) (cW 4 nd) (aC (Z3 3 (bD (uA C) Y (bz (sp (aR cT (sp (aR cT (sfp (Dr (bM (aJ (aO 0) aX)) (az 4))) (sfp (bM (aJ (aO 1) aX))))) (sfp (Dr (bM (aJ (aR cT (az 0) (az 1)) aX)) (sp (aR jy (sp (aR jy (az 2) (az 4))) sI)))))) aB)))))
  (aC (oY 3))))
theorem yd:cL ["count", "gates"] ["count", "gates"] (aM (top 39)):=sck
theorem yt(C:Ctx K mg):Def P w K mg base 3 "refuse_too_many" ["count", "gates"] (spF K [.zC,.zC] .f fK):=
 Zh (N:=["count", "gates"]) (fs:=[.zC,.zC]) (O:=[.zC,.zC]) (O':=[.zC,.zC]) (Ol:=[]) (rm:=.f) (C.f (n:=39)) yd rfl (by decide) (by decide) (hrm:=rfl) (hbody:=λf Z A AA s H E Y=>
 (aC (cR (zp (PL (dH zu (az 0) (sp (zK rfl C.yO C.xG (λ_=>Rp.int.mpr rfl)))) (Kd (dH zu (sp (bD (xf C) Y (aN 0 (aN 1 aB)))) (sp (zK rfl C.xY C.yG (λ_=>Rp.int.mpr rfl))))))) (aC Il) cu)))
theorem Y7(C:Ctx K mg):Def P w K mg base 1 "kind" ["name"] (spF K [.zC] .f Kf):=
 bL (top 43) ["name"] [.zC] C.f λnd Y=>
 (aC (bw (acV rfl C.Lq C.lW (az 0) (λ_ _=>rfl))))
theorem Dd(C:Ctx K mg):Def P w K mg base 5 "first_breach" ["gates", "relation"] (spF K [.zC,.zC] .f jk):=
 bL (top 44) ["gates", "relation", "number", "gate", "rows"] [.zC,.zC,.zD,.zD,.zD] C.f λnd Y=>
 (bx (gk [2,3,4] (MF rfl C.n (gM 0)) (xR rfl (tX (cW 2 nd) (tX (cW 3 nd) vm))) (bx (bC 4 nd (bD (Gx C) Y (cO (aO 3) (aN 1 aB))))
  (aC (cR (dH Oi (az 4) (sp kZ)) (aC (bw (bQ (aJ (aO 2) (aJ (aO 4) aX))))) cu))))
  (aC (bw kZ)))
theorem JC(C:Ctx K mg):Def P w K mg base 6 "kinds" ["gates"] (spF K [.zC] .t uH):=
 bL (top 45) ["gates"] [.zC] C.f λnd Y=>
 (aC (vo (fW ["name"] [0] rfl rfl rfl rfl (by decide) (jg (sp (kO rfl C.Mw C.rA))) (λ_ _ _ _ _=>(cY 0 (show g9 (["name", "gates"]:B6) by decide +kernel) rfl (hX rfl))) (λ_ _ _ _ _=>eY) (λ_ _ _ _ _=>(bD (Dd C) Y (aN 1 (bz (sp (bD (Y7 C) Y (aN 0 aB))) aB)))))))
theorem pI:cL ["steps", "inputs", "tree", "ends", "part"] ["steps", "inputs", "tree"] (aM (top 47)):=sck
theorem Ai(C:Ctx K mg):∀fu:Nat,Def P w K mg base (2+fu) "add_tree" ["steps", "inputs", "tree"] (spM K [.zC,.zC,.zD] 0 (jR fu))
 | 0=>We (k:=1) (C.f (n:=47)) pI
 | fu+1=>have Y:=Ai C fu
 En (k:=2+fu) (N:=["steps", "inputs", "tree", "ends", "part"]) (fs:=[.zC,.zC,.zD]) (O:=λp=>[.fix p,.zC,.zD,.own,.zD]) (O':=λ_=>[]) (Ol:=[]) (j:=0) (C.f (n:=47)) pI rfl (by decide) (λ_=>rfl) (λp=>of_decide_eq_true rfl) λp f e A AA s H E Z=>
 (aW (cR (Dn (sp (jZ (Af C) (Z.mono (by lia)) rfl (aN 2 aB)))) (aC (Ez 0 rfl (aO 2))) cu)
  (aW (eE 3 pI.nd (bM aX))
  (aW (iD fk rfl [4] (eZ (sq (sx 2))) (cW 4 pI.nd) (aC (M5 3 0 (by decide) (iB 0 Y (Z.mono (by lia)) rfl (jT 0 (eO (gM 1) (pW (aO 4) jW))) rfl rfl rfl (by decide)))) Cy)
  (aW (jh 0 (bQ (aJ (sx 2) (aJ (dz dY rfl C.n d7 (aN 3 aB)) aX))))
  (aC (Ez 0 rfl (aR jy (sp (aR cT (az 1) (sp (dD jV rfl C.n ig (aN 0 aB))))) sI)))))))
theorem Ci(C:Ctx K mg):Def P w K mg base 103 "tree_circuit" ["tree", "inputs"] (spF K [.zD,.zD] .f jo):=
 bL (top 48) ["tree", "inputs", "steps", "out"] [.zD,.zD,.own,.zD] C.f λnd Y=>
 (bx (eE 2 nd (bM aX))
  (bx (El 3 2 nd rfl (hX rfl) (iB 2 (Ai C 100) (Y.mono (by decide)) rfl (jT 2 (eO (gM 1) (pW (aO 0) jW))) rfl rfl rfl (by decide)) (of_decide_eq_true rfl))
  (aC (bw (bQ (aJ (aO 1) (aJ (dz dY rfl C.n d7 (aN 2 aB)) (aJ (aO 3) aX))))))))
theorem Xw:cL ["waiting", "table", "way"] ["waiting", "table", "way"] (aM (top 50)):=sck
theorem Bu(C:Ctx K mg):Def P w K mg base 1 "offer" ["waiting", "table", "way"] (spM K [.zC,.zD,.zD] 0 mY):=
 U9 (N:=["waiting", "table", "way"]) (fs:=[.zC,.zD,.zD]) (O:=λp=>[.fix p,.zD,.zD]) (O':=λp=>[.fix p,.zD,.zD]) (Ol:=[]) (j:=0) (C.f (n:=50)) Xw rfl (by decide) (λ_=>rfl) (λp=>of_decide_eq_true rfl) (λ_=>rfl) λp f Z A AA s H E Y=>
 (aC (cR (zp (PL (n6 (mR Y.cN) (az 1) (az 0) rfl) (Kd (dH Hu (sp (sx 2)) (sp (gY (sp (rP Y.cN (az 0) (az 1) (λ_ _=>rfl))) sI)))))) (aC (qY 0 Y.cN (aO 1) (aO 2))) cu))
theorem Hb(C:Ctx K mg):Def P w K mg base 4 "first_ways" ["gates", "inputs"] (spF K [.zC,.zC] .t kE):=
 bL (top 51) ["gates", "inputs", "waiting", "table", "gate"] [.zC,.zC,.own,.zD,.zD] C.f λnd Y=>
 (bx (eE 2 nd q8)
  (bx (gk [3] (eZ (sq (sfe (ou (j8 C) Y (aN 1 aB))))) (cW 3 nd) (aC (J9 2 (iB 2 (Bu C) (Y.mono (by decide)) rfl (jT 2 (pW (aO 3) (pW (bQ (lM (aJ kZ (aJ (bQ aX) aX)))) jW))) rfl rfl rfl (by decide)))))
  (bx (gk [4] (eZ (gM 0)) (cW 4 nd) (aC (cR (dH (iG Y.units) (sp (sx 4)) sI) (aC (J9 2 (iB 2 (Bu C) (Y.mono (by decide)) rfl (jT 2 (pW (bD (yo C) Y (aN 4 (bz (sfp (bM aX)) (aN 1 aB)))) (pW (bQ (lM (aJ (aO 4) (aJ (bQ aX) aX)))) jW))) rfl rfl rfl (by decide)))) cu)))
  (aC (oY 2)))))
theorem J7(C:Ctx K mg):Def P w K mg base 4 "ways_from" ["found", "table", "gate", "inputs"] (spF K [.zC,.zD,.zD,.zC] .t j0):=
 bL (top 52) ["found", "table", "gate", "inputs", "old", "told", "chosen", "given", "cost"] [.zC,.zD,.zD,.zC,.zD,.own,.zD,.zD,.zD] C.f λnd Y=>
 (aW (Xf 0 4 ["known"] [1] rfl nd rfl (hX rfl) rfl rfl rfl rfl (by decide) (aaU 0) (λ_ _ _ _ _=>(cY 0 (show g9 (["known", "table"]:B6) by decide +kernel) rfl (hX rfl))) (λ_ _ _ _ _=>(oU (dH (Ds Y.units) (az 0) (az 1)))) (λ_ _ _ _ _=>(aO 0)))
  (aW (eE 5 nd (bM aX))
  (aW (Jo 4 (O2:=[.zC,.zD,.zD,.zC,.zD,.own,.zD,.zD,.zD]) (iD fk rfl [6,7,8] (eZ (sq (sfe (ou (Ef C) Y (cO (aO 4) (cO (sfe (bM (aJ (aO 1) aX))) (bz (sp (sx 2)) aB))))))) (cW 6 nd) (aW (bC 7 nd (bD (yo C) Y (aN 2 (aN 6 (aN 3 aB)))))
  (aC (cR (n6 (mR Y.cN) (az 7) (az 0) rfl) (aW (bC 8 nd (aR cT sI (sp (dD (Uy rfl) rfl C.n Ru (bz (sfp (fW ["part"] [0] rfl rfl rfl rfl (by decide) (jg (az 6)) (λ_ _ _ _ _=>(cY 0 (show g9 (["part", "found"]:B6) by decide +kernel) rfl (hX rfl))) (λ_ _ _ _ _=>eY) (λ_ _ _ _ _=>(gY (sp (rP Y.cN (az 1) (az 0) (λ_ _=>rfl))) sI)))) aB)))))
  (aC (jh 5 (bQ (aJ (aO 7) (aJ (bQ (aJ (aO 8) (aJ (aO 2) (aJ (dz dY rfl C.n d7 (aN 6 aB)) aX)))) aX)))))) cu))) (by decide)))
  (aC (oY 5)))))
theorem pg:cL ["gates", "inputs", "found", "waiting", "table", "gate", "given", "way"] ["gates", "inputs"] (aM (top 53)):=sck
theorem Mu(C:Ctx K mg):Def P w K mg base 5 "ways" ["gates", "inputs"] (spF K [.zC,.zC] .t nY):=
 aaj (N:=["gates", "inputs", "found", "waiting", "table", "gate", "given", "way"]) (fs:=[.zC,.zC]) (O:=[.zC,.zC,.own,.own,.zD,.zD,.zD,.zD]) (O':=[]) (Ol:=[]) (rm:=.t) C.W C.hT pg rfl (by decide) (by decide) λf e A AA s H E Z Y=>
 (bx (eE 2 pg.nd q8)
  (bx (eE 3 pg.nd (ou (Hb C) Y (aN 0 (aN 1 aB))))
  (bx (ad3 1000000 [4,5,6,7] (dH zu (sp (dD Fi rfl C.n ig (aN 3 aB))) sI) (bx (bC 4 pg.nd (Zm 3 rfl rfl rfl Y rfl Z C.hT rfl rfl C.n rfl rfl rfl rfl rfl (λ_ _ _ _ _ _=>rfl)))
  (bx (Tw 2 3 4 Y.cN (by decide) (by decide) (by decide))
  (bx (ad6 (sp (bD (yt C) Y (bz (sp (dD Fi rfl C.n ig (aN 2 aB))) (aN 0 aB)))))
  (aC (gk [5,6,7] (eZ (gM 0)) (cW 5 pg.nd) (aC (gk [6,7] (eZ (sq (sfe (ou (J7 C) Y (aN 2 (cO (aO 4) (cO (aO 5) (aN 1 aB)))))))) (xR rfl (tX (cW 6 pg.nd) (tX (cW 7 pg.nd) vm))) (aC (J9 3 (iB 3 (Bu C) (Y.mono (by decide)) rfl (jT 3 (pW (aO 6) (pW (aO 7) jW))) rfl rfl rfl (by decide))))))))))))
  (aC (oY 2)))))
theorem uT(C:Ctx K mg):Def P w K mg base 3 "way_circuit" ["found", "table", "inputs"] (spF K [.zC,.zC,.zD] .f fP):=
 bL (top 54) ["found", "table", "inputs", "wires", "steps", "known", "way"] [.zC,.zC,.zD,.own,.own,.zD,.zD] C.f λnd Y=>
 (bx (eE 3 nd q8)
  (bx (eE 4 nd (bM aX))
  (bx (Z4 0 rfl (by repeat first | exact afA | exact ac6 | exact ab0 | exact abD | apply ac9 | apply adP) fk rfl [5,6] (WD 0) (xR rfl (tX (cW 5 nd) (tX (cW 6 nd) vm))) (bx (qY 3 Y.cN (aO 5) (dD Fi rfl C.n ig (aN 3 aB)))
  (aC (cR (dH Oi (sp (sx 6)) (sp kZ)) (aC (jh 4 (bQ (aJ (sx 6) (aJ (dz dY rfl C.n d7 (bz (sfp (fW ["part"] [3] rfl rfl rfl rfl (by decide) (jg (sp (sx 6))) (λ_ _ _ _ _=>(cY 0 (show g9 (["part", "wires"]:B6) by decide +kernel) rfl (hX rfl))) (λ_ _ _ _ _=>eY) (λ_ _ _ _ _=>(rP Y.cN (az 1) (az 0) (λ_ _=>rfl))))) aB)) aX))))) cu))) (by decide))
  (aC (bw (bD (qz C) Y (bz (sp (bQ (aJ (aO 2) (aJ (dz dY rfl C.n d7 (aN 4 aB)) (aJ (rP Y.cN (az 3) (az 1) (λ_ _=>rfl)) aX))))) aB)))))))
theorem Kc(C:Ctx K mg):Def P w K mg base 7 "makes_all" ["gates"] (spF K [.zC] .f pG):=
 bL (top 59) ["gates"] [.zC] C.f λnd Y=>
 (aC (bw (uJ (mR Y.cN) (sp kZ) (sfp (ou (JC C) Y (aN 0 aB))) rfl)))
theorem lX(C:Ctx K mg):Def P w K mg base 2 "opposite" ["tree"] (spF K [.zD] .f cF):=
 bL (top 60) ["tree"] [.zD] C.f λnd Y=>
 (bx (cR (zp (Kw (adm (Dn (sp (bD (Af C) Y (aN 0 aB))))) (Ek (dH (iG Y.units) (sp (sx 0)) (sp (kO rfl C.O6 C.vX)))))) (aC (bw (gY (sp (sx 0)) sI))) cu)
  (aC (bw (bQ (aJ (kO rfl C.O6 C.vX) (aJ (bQ (aJ (aO 0) aX)) aX))))))
theorem aae(C:Ctx K mg){pt:B4->zi ab}{kk:Nat}(e:5<=kk)(Y:Def P w K mg base kk "plain_tree" ["wish"] (spF K [.zC] .f pt)):Def P w K mg base (kk+1) "side" ["half", "there"] (spF K [.zC,.zD] .t (rF pt)):=
 bL (k:=kk) (top 61) ["half", "there"] [.zC,.zD] C.f λnd Z=>
 (bx (cR (dH (iG Z.units) (sp (sx 0)) sI) (aC (vo (bM aX))) cu)
  (bx (cR (dH (iG Z.units) (sp (sx 0)) (sp (jZ (mq C) (Z.mono (by lia)) rfl (bz (sp (sx 0)) aB)))) (aC (vo (bM (aJ (jZ (lX C) (Z.mono (by lia)) rfl (cO (aO 1) aB)) aX)))) cu)
  (aC (vo (bM (aJ (bQ (aJ (kO rfl C.yP C.nT) (aJ (bQ (aJ (aO 1) (aJ (jZ Y (Z.mono (by lia)) rfl (aN 0 aB)) aX))) aX))) aX))))))
theorem G9:cL ["wish", "last", "low", "high", "sides"] ["wish"] (aM (top 62)):=sck
theorem wY(C:Ctx K mg):∀fu:Nat,Def P w K mg base (5+2*fu) "plain_tree" ["wish"] (spF K [.zC] .f (cG fu))
 | 0=>aaw (k:=4) (C.f (n:=62)) G9
 | fu+1=>have Y:=wY C fu
 have Z:=aae C (kk:=5+2*fu) (by lia) Y
 bL (k:=5+2*fu+1) (top 62) ["wish", "last", "low", "high", "sides"] [.zC,.zD,.zD,.zD,.zD] C.f λnd e=>
 (bx (bC 1 nd (aR jy (sp (sx 0)) sI))
  (bx (bC 2 nd (jZ (Ah C) (e.mono (by lia)) rfl (aN 0 (cO (aO 1) (bz sI aB)))))
  (bx (bC 3 nd (jZ (Ah C) (e.mono (by lia)) rfl (aN 0 (cO (aO 1) (bz sI aB)))))
  (bx (cR (dH (iG e.units) (az 2) (az 3)) (aC (bw (jZ Y (e.mono (by lia)) rfl (aN 2 aB)))) cu)
  (bx (bC 4 nd (aR cT (sfp (DY Z (e.mono (by lia)) rfl (aN 2 (cO (jZ (lX C) (e.mono (by lia)) rfl (cO (aO 1) aB)) aB)))) (sfp (DY Z (e.mono (by lia)) rfl (aN 3 (cO (aO 1) aB))))))
  (bx (cR (dH (iG e.units) (sp (dD jV rfl C.n ig (aN 4 aB))) sI) (aC (bw (jZ (lX C) (e.mono (by lia)) rfl (cO (sx 4) aB)))) cu)
  (aC (bw (bQ (aJ (kO rfl C.yP C.nT) (aJ (dz dY rfl C.n d7 (aN 4 aB)) aX)))))))))))
theorem JN(C:Ctx K mg):Def P w K mg base 22 "wish_tree" ["wish"] (spF K [.zC] .f pC):=
 bL (top 63) ["wish", "always"] [.zC,.zD] C.f λnd Y=>
 (bx (bC 1 nd (bQ (aJ (kO rfl C.yP C.nT) (aJ (bQ (lM (aJ (bD (lX C) Y (cO fJ aB)) aX))) aX))))
  (bx (cR (dH (iG Y.units) (sp (sx 0)) (sp (bD (mq C) Y (bz (sp (sx 0)) aB)))) (aC (bw (aO 1))) cu)
  (aC (bw (Qf (dH (iG Y.units) (sp (sx 0)) sI) (bD (lX C) Y (cO (aO 1) aB)) (bD (wY C 8) Y (aN 0 aB)))))))
theorem zZ:cL ["steps", "lone"] ["steps", "lone"] (aM (top 64)):=sck
theorem zY(C:Ctx K mg):Def P w K mg base 3 "tables_at_hand" ["steps", "lone"] (spM K [.zC,.zC] 0 jN):=
 En (N:=["steps", "lone"]) (fs:=[.zC,.zC]) (O:=λp=>[.fix p,.zC]) (O':=λ_=>[]) (Ol:=[]) (j:=0) (C.f (n:=64)) zZ rfl (by decide) (λ_=>rfl) (λp=>of_decide_eq_true rfl) λp f Z A AA s H E Y=>
 (aC (VG 0 rfl (ik.ev fJ (ik.ev fJ (ik.cl (iB 0 (gV C) (Y.mono (by decide)) rfl (jT 0 (eO (sq fJ) (eO (sq (sx 1)) (eO (sq (sfe (bM (lM aX)))) jW)))) rfl rfl rfl (by decide)) (ik.cl (iB 0 (gV C) (Y.mono (by decide)) rfl (jT 0 (eO (sq fJ) (eO (sq (sx 1)) (eO (sq (sfe (bM (lM aX)))) jW)))) rfl rfl rfl (by decide)) (ik.cl (iB 0 (gV C) (Y.mono (by decide)) rfl (jT 0 (eO (sq fJ) (eO (sq (sx 1)) (eO (sq (sfe (bM (lM aX)))) jW)))) rfl rfl rfl (by decide)) (ik.cl (iB 0 (gV C) (Y.mono (by decide)) rfl (jT 0 (eO (sq fJ) (eO (sq (sx 1)) (eO (sq (sfe (bM (lM aX)))) jW)))) rfl rfl rfl (by decide)) ik.nil)))))) rfl rfl (λz=>nomatch z) (by decide)))
theorem tU(C:Ctx K mg):Def P w K mg base 4 "first_giving" ["gate", "lists", "wanted"] (spF K [.zC,.zC,.zC] .f jw):=
 bL (top 65) ["gate", "lists", "wanted", "chosen"] [.zC,.zC,.zC,.zD] C.f λnd Y=>
 (bx (gk [3] (eZ (gM 1)) (cW 3 nd) (aC (cR (dH (iG Y.units) (sp (bD (yo C) Y (aN 0 (aN 3 (bz sI aB))))) (az 2)) (aC (bw (aO 3))) cu)))
  (aC (bw kZ)))
theorem BK(C:Ctx K mg):Def P w K mg base 5 "nand_circuit" ["gate", "lone"] (spF K [.zD,.zC] .f gb):=
 bL (top 66) ["gate", "lone", "steps", "wires", "lists", "direct", "chosen", "out"] [.zD,.zC,.own,.zD,.zD,.zD,.zD,.zD] C.f λnd Y=>
 (bx (eE 2 nd (bM aX))
  (bx (El 3 2 nd rfl (sM rfl) (iB 2 (zY C) (Y.mono (by decide)) rfl (jT 2 (eO (gM 1) jW)) rfl rfl rfl (by decide)) (of_decide_eq_true rfl))
  (bx (bC 4 nd (bD (uA C) Y (bz (sfp (Dr (bM (aJ (sfe (xH (Iw rfl) rfl C.n uE (aN 3 aB))) aX)) (sp (sx 0)))) aB)))
  (bx (bC 5 nd (bD (tU C) Y (aN 0 (aN 4 (bz (sp (gY (sp (kO rfl C.yP C.nT)) sI)) aB)))))
  (bx (bC 6 nd (Qf (dH Dq (az 5) (sp kZ)) (bD (tU C) Y (aN 0 (aN 4 (bz (sp (gY (sp (kO rfl C.aev C.BX)) sI)) aB)))) (aO 5)))
  (bx (jh 2 (bQ (aJ (aO 0) (aJ (dz dY rfl C.n d7 (bz (sfp (fW ["table"] [3] rfl rfl rfl rfl (by decide) (jg (az 6)) (λ_ _ _ _ _=>(cY 0 (show g9 (["table", "wires"]:B6) by decide +kernel) rfl (hX rfl))) (λ_ _ _ _ _=>eY) (λ_ _ _ _ _=>(rP Y.cN (az 1) (az 0) (λ_ _=>rfl))))) aB)) aX))))
  (bx (bC 7 nd (aR cT (sp (dD jV rfl C.n ig (aN 2 aB))) sI))
  (bx (cR (dH Dq (az 5) (sp kZ)) (aC (El 7 2 nd rfl (hX rfl) (iB 2 (gV C) (Y.mono (by decide)) rfl (jT 2 (eO (sq fJ) (eO (sq (sx 1)) (eO (sq (sfe (bM (aJ (aO 7) aX)))) jW)))) rfl rfl rfl (by decide)) (of_decide_eq_true rfl))) cu)
  (aC (bw (bD (FW C) Y (bz (sp (bQ (lM (aJ (dz dY rfl C.n d7 (aN 2 aB)) (aJ (aO 7) aX))))) aB))))))))))))
theorem WM(C:Ctx K mg):Def P w K mg base 104 "build" ["gates", "wish"] (spF K [.zC,.zC] .f za):=
 bL (top 67) ["gates", "wish", "breaches", "name", "breach", "found", "lone", "breaker", "kit"] [.zC,.zC,.zD,.zD,.zD,.zD,.zD,.zD,.zD] C.f λnd Y=>
 (aW (bC 2 nd (sfe (ou (JC C) Y (aN 0 aB))))
  (aW (iD fk rfl [3,4] (Y8 rfl C.n (kO rfl C.Mw C.rA) (aO 2)) (xR rfl (Br (cW 3 nd) (Br (cW 4 nd) vm))) (aC (cR (dH Dq (az 4) (sp kZ)) (aC Il) cu)) (by decide))
  (aW (bC 5 nd (sfe (ou (Mu C) Y (aN 0 (bz sI aB)))))
  (aW (uQ 6 ["table"] [5] nd rfl (hX rfl) rfl rfl rfl rfl (by decide) (mO rfl C.n sI) (λ_ _ _ _ _=>(cY 0 (show g9 (["table", "found"]:B6) by decide +kernel) rfl (hX rfl))) (λ_ _ _ _ _=>eY) (λ_ _ _ _ _=>(bD (uT C) Y (aN 1 (aN 0 (cO fJ aB))))))
  (aW (bC 7 nd (gY (az 0) (sp (gY (sp (sx 2)) sI))))
  (aW (acw 8 Y.cN nd rfl (hX rfl) (nu.cons (kO rfl C.O6 C.vX) (sx 6) (nu.cons (kO rfl C.yP C.nT) (bD (BK C) Y (cO (aO 7) (aN 6 aB))) nu.nil)) rfl rfl (λz=>nomatch z) (by decide) (of_decide_eq_true rfl))
  (aC (bw (bD (FW C) Y (bz (sp (Xy 8 rfl (Lb C) (Y.mono (by decide)) rfl (sp (bD (Ci C) Y (cO (bD (JN C) Y (aN 1 aB)) (cO (sx 1) aB)))))) aB))))))))))
theorem NQ(C:Ctx K mg):Def P w K mg base 105 "made" ["gates", "wish"] (spF K [.zC,.zC] .f nW):=
 bL (top 69) ["gates", "wish", "inputs", "found"] [.zC,.zC,.zD,.zD] C.f λnd Y=>
 (bx (bC 2 nd (sx 1))
  (bx (cR (zp (Kw (dH zu (az 2) sI) (Ek (Dn (sp (bD (Kc C) Y (aN 0 aB))))))) (aC (bw (bQ (aJ uW (aJ (bD (WM C) Y (aN 0 (aN 1 aB))) aX))))) cu)
  (bx (bC 3 nd (sfe (ou (Mu C) Y (aN 0 (aN 2 aB)))))
  (bx (cR (n6 (Ii Y.cN) (sp (sx 1)) (az 3) rfl) (aC (bw (bQ (aJ uW (aJ (bD (uT C) Y (aN 3 (bz (sp (sx 1)) (cO (aO 2) aB)))) aX))))) cu)
  (aC (bw (bQ (aJ uW (aJ (bD (Ma C) Y (cO (bD (nq C) Y (aN 2 aB)) (bz (sfp (xH (Iw rfl) rfl C.n uE (aN 3 aB))) aB))) (aJ (sfe (ou (j8 C) Y (aN 2 aB))) aX))))))))))
theorem fX(C:Ctx K mg):Def P w K mg base 1 "_law_cell_at" ["_law_script", "_law_k"] (spF K [.zC,.zC] .f b7):=
 bL (top 71) ["_law_script", "_law_k"] [.zC,.zC] C.f λnd Y=>
 (bx (cR (dH Hu (az 1) (sp (dD jV rfl C.n ig (aN 0 aB)))) (aC (bw (gY (az 0) (az 1)))) cu)
  (aC (bw fJ)))
theorem Ag(C:Ctx K mg):Def P w K mg base 1 "_law_gate" ["_law_cell"] (spF K [.zC] .f iJ):=
 bL (top 72) ["_law_cell", "_law_way", "_law_some"] [.zC,.zD,.zD] C.f λnd Y=>
 (bx (bC 1 nd (aR jt (az 0) sI))
  (bx (bC 2 nd (aR qZ (az 0) sI))
  (bx (cR (dH (iG Y.units) (az 1) sI) (aC (bw (bQ (lM (aJ (aR jt (az 2) sI) aX))))) cu)
  (bx (cR (dH Hu (az 1) sI) (aC (bw (bQ (lM (aJ (aR jt (az 2) sI) aX))))) cu)
  (aC (bw (bQ (lM (aJ (aR jt (az 2) sI) aX)))))))))
theorem vD(C:Ctx K mg):Def P w K mg base 1 "_law_put" ["_law_gate_here", "_law_tables", "_law_full"] (spF K [.zC,.zC,.zD] .f eH):=
 bL (top 73) ["_law_gate_here", "_law_tables", "_law_full", "_law_found", "_law_row", "_law_part", "_law_k"] [.zC,.zC,.zD,.zD,.zD,.zD,.zD] C.f λnd Y=>
 (bx (bC 3 nd fJ)
  (bx (gk [4,5,6] (iC rfl C.n (sp (gY (sfp (bM (lM (lM (lM (lM (lM aX))))))) (sp (sx 0))))) (cW 4 nd) (bx (bC 5 nd (aO 2))
  (bx (gk [6] (iC rfl C.n (sp (sx 0))) (cW 6 nd) (aC (cR (dH (iG Y.units) (sp (aR rZ (sp (aR HX (az 4) (az 6))) sI)) sI) (aC (bC 5 nd (aR rZ (az 5) (sp (gY (az 1) (az 6)))))) (aC (bC 5 nd (aR rZ (az 5) (sp (aR ac7 (az 2) (sp (gY (az 1) (az 6)))))))))))
  (aC (cR (dH (iG Y.units) (sp (aR rZ (sp (aR HX (sp (sx 0)) (az 4))) sI)) sI) (aC (bC 3 nd (aR Yg (az 3) (az 5)))) cu)))))
  (aC (bw (aO 3)))))
theorem Bx(C:Ctx K mg):Def P w K mg base 2 "_law_relation" ["_law_script", "_law_gates"] (spF K [.zC,.zC] .f jn):=
 bL (top 74) ["_law_script", "_law_gates", "_law_cell", "_law_width", "_law_full", "_law_rows", "_law_k", "_law_row", "_law_more", "_law_fresh", "_law_one", "_law_other"] [.zC,.zC,.zD,.zD,.zD,.own,.zD,.zD,.zD,.own,.zD,.zD] C.f λnd Y=>
 (aW (bC 2 nd (bD (fX C) Y (aN 0 (bz sI aB))))
  (aW (bC 3 nd (aR cT sI (sp (aR jt (az 2) sI))))
  (aW (bC 4 nd (aR jy (sp (aR acr sI (az 3))) sI))
  (aW (eE 5 nd (bM aX))
  (aW (iD fk rfl [6,7] (iC rfl C.n (sp (aR jt (sp (aR qZ (az 2) sI)) sI))) (cW 6 nd) (aW (bC 7 nd (aR jt (sp (bD (fX C) Y (aN 0 (bz (sp (aR cT sI (az 6))) aB)))) (sp (aR cT (az 4) sI))))
  (aC (cR (n6 (mR Y.cN) (az 7) (az 5) rfl) (aC (jh 5 (aO 7))) cu))) (by decide))
  (aW (bC 8 nd nR)
  (aW (HD fk 1000000 [9,10,11] (Dn (az 8)) (aW (uQ 9 ["_law_gate_here"] [4] nd rfl (hX rfl) rfl rfl rfl rfl (by decide) (jg (az 1)) (λ_ _ _ _ _=>(cY 0 (show g9 (["_law_gate_here", "_law_full"]:B6) by decide +kernel) rfl (hX rfl))) (λ_ _ _ _ _=>(oU (dH (iG Y.units) (sp (sx 0)) sI))) (λ_ _ _ _ _=>(bD (vD C) Y (aN 0 (bz (sfp (bM aX)) (cO (aO 1) aB))))))
  (aW (Jo 5 (O2:=[.zC,.zC,.zD,.zD,.zD,.zD,.zD,.zD,.zD,.own,.zD,.zD]) (iD fk rfl [10,11] (eZ (gM 5)) (cW 10 nd) (aW (TY 9 (fW ["_law_gate_here"] [10,4] rfl rfl rfl rfl (by decide) (jg (az 1)) (λ_ _ _ _ _=>(cY 0 (show g9 (["_law_gate_here", "_law_one", "_law_full"]:B6) by decide +kernel) rfl (hX rfl))) (λ_ _ _ _ _=>(oU (dH (iG Y.units) (sp (sx 0)) sI))) (λ_ _ _ _ _=>(bD (vD C) Y (aN 0 (bz (sfp (bM (aJ (aO 1) aX))) (cO (aO 2) aB)))))))
  (aC (iD fk rfl [11] (eZ (gM 5)) (cW 11 nd) (aC (TY 9 (fW ["_law_gate_here"] [10,11,4] rfl rfl rfl rfl (by decide) (jg (az 1)) (λ_ _ _ _ _=>(cY 0 (show g9 (["_law_gate_here", "_law_one", "_law_other", "_law_full"]:B6) by decide +kernel) rfl (hX rfl))) (λ_ _ _ _ _=>(oU (dH (iG Y.units) (sp (sx 0)) sI))) (λ_ _ _ _ _=>(bD (vD C) Y (aN 0 (bz (sfp (bM (aJ (aO 1) (aJ (aO 2) aX)))) (cO (aO 3) aB)))))))) (by decide)))) (by decide)))
  (aW (uQ 9 ["_law_row"] [5] nd rfl (hX rfl) rfl rfl rfl rfl (by decide) (jg (sfp (Fw rfl rfl C.n rfl C.n (az 9)))) (λ_ _ _ _ _=>(cY 0 (show g9 (["_law_row", "_law_rows"]:B6) by decide +kernel) rfl (hX rfl))) (λ_ _ _ _ _=>(oU (n6 (mR Y.cN) (az 0) (az 1) rfl))) (λ_ _ _ _ _=>(aO 0)))
  (aW (eE 5 nd (acs abk (az 5) (az 9)))
  (aC (bC 8 nd (uJ (Ds Y.units) (az 9) (sfp (bM aX)) (u9 _)))))))) (by decide))
  (aC (bw (bQ (aJ (aO 3) (aJ (dz dY rfl C.n d7 (bz (sfp (Vy Ss rfl C.n Tu (aN 5 aB))) aB)) aX))))))))))))
theorem Eo(C:Ctx K mg):Def P w K mg base 2 "_law_circuit" ["_law_script", "_law_gates"] (spF K [.zC,.zC] .f jU):=
 bL (top 75) ["_law_script", "_law_gates", "_law_cell", "_law_inputs", "_law_steps_laid", "_law_k", "_law_more", "_law_gate_here", "_law_spots"] [.zC,.zC,.zD,.zD,.own,.zD,.zD,.zD,.zD] C.f λnd Y=>
 (aW (bC 2 nd (bD (fX C) Y (aN 0 (bz sI aB))))
  (aW (bC 3 nd (aR cT sI (sp (aR jt (az 2) sI))))
  (aW (eE 4 nd (bM aX))
  (aW (iD fk rfl [5,6,7,8] (iC rfl C.n (sp (aR jt (sp (aR qZ (az 2) sI)) sI))) (cW 5 nd) (aW (bC 6 nd (bD (fX C) Y (aN 0 (bz (sp (aR cT sI (az 5))) aB))))
  (aW (bC 7 nd (gY (az 1) (sp (aR jt (az 6) (sp (dD jV rfl C.n ig (aN 1 aB)))))))
  (aW (uQ 8 ["_law_j"] [6,3,5] nd rfl (hX rfl) rfl rfl rfl rfl (by decide) (mO rfl C.n (sp (sx 7))) (λ_ _ _ _ _=>(cY 0 (show g9 (["_law_j", "_law_more", "_law_inputs", "_law_k"]:B6) by decide +kernel) rfl (hX rfl))) (λ_ _ _ _ _=>eY) (λ_ _ _ _ _=>(aR jt (sp (aR qZ (sp (aR qZ (az 1) sI)) (sp (aR cT sI (sp (aR uY sI (az 0))))))) (sp (aR cT (az 2) (az 3))))))
  (aC (jh 4 (bQ (aJ (aO 7) (aJ (dz dY rfl C.n d7 (aN 8 aB)) aX)))))))) (by decide))
  (aC (bw (bQ (aJ (aO 3) (aJ (dz dY rfl C.n d7 (aN 4 aB)) (aJ (dD (adb rfl) rfl C.n acJ (bz sI (bz (sp (aR jy (sp (aR jy (sp (aR cT (az 3) (sp (dD jV rfl C.n ig (aN 4 aB))))) sI)) (sp (aR jt (sp (aR qZ (az 2) sI)) sI)))) aB))) aX))))))))))
theorem sJ:cL ["_law_script", "_law_gates", "_law_kept", "_law_circuit_here", "_law_whole", "_law_wish", "_law_found"] ["_law_script"] (aM (top 76)):=sck
theorem aci(C:Ctx K mg){Z:Addr}{fd:nz}(F:Fun K "law" "law" (top 76) Z fd):rM P w K mg base CX0 106 Z fd ["_law_script"] (spF K [.zC] .f vy):=
 YJ (N:=["_law_script", "_law_gates", "_law_kept", "_law_circuit_here", "_law_whole", "_law_wish", "_law_found"]) (fs:=[.zC]) (O:=[.zC,.zD,.zD,.zD,.zD,.zD,.zD]) (O':=[]) (Ol:=[]) (rm:=.f) F sJ rfl (by decide) (by decide) λf e A AA s H E Y=>
 (aW (uQ 1 ["_law_k"] [0] sJ.nd rfl (hX rfl) rfl rfl rfl rfl (by decide) (mO rfl C.n (sp (aR cT sI (sp (aR jt (sp (bD (fX C) Y (aN 0 (bz sI aB)))) sI))))) (λ_ _ _ _ _=>(cY 0 (show g9 (["_law_k", "_law_script"]:B6) by decide +kernel) rfl (hX rfl))) (λ_ _ _ _ _=>eY) (λ_ _ _ _ _=>(bD (Ag C) Y (bz (sp (bD (fX C) Y (aN 1 (bz (sp (aR cT sI (az 0))) aB)))) aB))))
  (aW (bC 2 sJ.nd (bD (Bx C) Y (aN 0 (aN 1 aB))))
  (aW (bC 3 sJ.nd (bD (Eo C) Y (aN 0 (aN 1 aB))))
  (aW (bC 4 sJ.nd (bD (QJ C) Y (aN 3 aB)))
  (aW (cR (dH (Ds Y.units) (sfp (fW ["_law_gate_here"] [2] rfl rfl rfl rfl (by decide) (jg (sp (aR cT (az 1) (sfp (bM (aJ (aO 4) aX)))))) (λ_ _ _ _ _=>(cY 0 (show g9 (["_law_gate_here", "_law_kept"]:B6) by decide +kernel) rfl (hX rfl))) (λ_ _ _ _ _=>(oU (dH Oj (sp (bD (wV C) Y (cO (aO 0) (aN 1 aB)))) (sp nR)))) (λ_ _ _ _ _=>(aO 0)))) (sfp (bM aX))) (aC (bw nR)) cu)
  (aW (cR (zp (Kw (dH Hu (sp (sx 4)) sI) (Ek (dH (Ds Y.units) (sp (gY (sp (bD (NQ C) Y (aN 1 (aN 4 aB)))) sI)) (sp uW))))) (aC (bw nR)) cu)
  (aW (bC 5 sJ.nd (bD (Ag C) Y (bz (sp (bD (fX C) Y (aN 0 (bz sI aB)))) aB)))
  (aW (bC 6 sJ.nd (bD (NQ C) Y (aN 1 (aN 5 aB))))
  (aW (cR (dH (iG Y.units) (sp (sx 6)) (sp uW)) (aC (bw (uJ R7 (sp (bD (wV C) Y (cO (aO 5) (aN 2 aB)))) (sp nR) (u9 _)))) cu)
  (aW (cR (zp (PL (dH (Ds Y.units) (sp (sx 6)) (sp uW)) (Kd (dH Oj (sp (bD (wV C) Y (cO (aO 5) (bz (sp (sx 6)) aB)))) (sp nR))))) (aC (bw nR)) cu)
  (aC (bw (aep (uJ zu (sp (sx 4)) sI (u9 _)) (TQ (uJ R7 (sp (bD (wV C) Y (cO (aO 4) (bz (sp (sx 6)) aB)))) (sp nR) (u9 _))))))))))))))))
end
variable {l:xw}
theorem all_mk{w:kz}{h:Heap}{fa:Addr}(X:K.In h)(G:h.Ns ff mg)(hfa:mg "law"= some (.ref fa))
 {z:Addr}{afu aex:C3}{Q:Array B7}{U aeI aez aeN C R:bg}
 {J:Addr}{afm B:C3}{S:Array B7}{P I E H q D:bg}
 {CP:bg}
 {uG:bg}
 {Y:Tok}
 {j:Tok}
 {yz:bg}
 {Di:bg}
 {i:Addr}
 {T:Addr}
 (F:Bb K defs)
 (N:Bj K Xu)
 (M:j2 K ff "ways"= some (some (.ref z))) (l38:K.lookup z=some ⟨U,afu,.func (eJ "ways" "ways" (cC (top 53)) (bK (top 53)) (aM (top 53)) .none aeI aez aeN aex C R),Q⟩) (c38:md K C "ways"= true) (k38:kU K (.ref z)=true)
 (a55:j2 K ff "law"= some (some (.ref J))) (l55:K.lookup J=some ⟨P,afm,.func (eJ "law" "law" (cC (top 76)) (bK (top 76)) (aM (top 76)) .none I E H B q D),S⟩) (c55:md K q "law"= true) (k55:kU K (.ref J)=true)
 (O:j2 K ff "AND"= some (some CP)) (BX:lO K 9 yS CP=true)
 (r:j2 K ff "KINDS"= some (some uG)) (rA:lO K 9 qe uG=true)
 (Z:j2 K ff "MOST_CLOSED_ROWS"= some (some (.int 128 Y)))
 (o:j2 K ff "MOST_LISTS"= some (some (.int 20000 j)))
 (u:j2 K ff "NAND"= some (some yz)) (nT:lO K 9 dZ yz=true)
 (L:j2 K ff "NOT"= some (some Di)) (vX:lO K 9 gr Di=true)
 (p:j2 K ff "RELATIONS"= some (some (.ref i))) (lW:Jr K i ql=true)
 (yT:qg K z T=true) :
 ∃fd:nz,(∀(s:cy) (v:bg),BindsTo s fd ⟨[v],[]⟩ [("_law_script",v)])/\(∃f,mg "ways"= some (.ref f)/\qg K f T=true)/\∀base:Heap,K.In base->base.Ns ff mg->rM l.prog w K mg base CX0 106 fa fd ["_law_script"] (spF K [.zC] .f vy):=by
 have e:=hfa.symm.trans (i9 X G a55);cases e;refine ⟨eJ "law" "law" (cC (top 76)) (bK (top 76)) (aM (top 76)) .none I E H B q D,λs v=>.of_eq rfl,⟨_,i9 X G M,yT⟩,λbase _ _=>aci ⟨_,X,G,F,N,At.mk' (i9 X G M) l38 c38 k38 (WK (λ_ _ _ _ _ _ _ _=>rfl) rfl),_,i9 X G O,BX,_,i9 X G r,rA,_,i9 X G Z,⟨_,rfl⟩,_,i9 X G o,⟨_,rfl⟩,_,i9 X G u,nT,_,i9 X G L,vX,_,i9 X G p,lW,_,WW (i9 X G M) yT⟩ (HN (st:=top 76) l55 c55 k55)⟩
theorem walk{q:gi}{Y:B6}{r:(Str->B7)->Heap->Prop}{d:DefRec}{K:Params->aE}{as:C2}{e:∀P,as=(K P).map (·.1)}{T:Addr}(v:l.most=some 63)(Z:d.params.defaults=[])
 (F:∀(w:kz) (mg:Str->B7) (i:Addr) (h:Heap),(K w.params).In h->h.Ns ff mg->mg d.name=some (.ref i) ->
  ∃fd:nz,(∀(s:cy) (u:bg),BindsTo s fd ⟨[u],[]⟩ [("_law_script",u)])/\(∃f,mg "ways"= some (.ref f)/\qg (K w.params) f T=true)/\∀base:Heap,(K w.params).In base->base.Ns ff mg->rM l.prog w (K w.params) mg base CX0 106 i fd ["_law_script"] (spF (K w.params) [.zC] .f vy)) :
 PySem.W.WalkO q Y r (PySem.W.kmHook K as e [T]).says l.row.toRowW d [] (λf vs=>PySem.call f vs):=
 Zq.U4 (n:=63) (k:=106) (x:= "_law_script") (CX:=λ_=>CX0) (sp:=λw=>spF (K w.params) [.zC] .f vy) v (by decide) Z ⟨rfl,by decide,by decide⟩ F (λ_ H a p j o=>Qq (main p j) o) λ_ _ _ _ _ z=>z
end Zq
open PySem PySem.W PyProof.Rows
local macro_rules | `(tactic| walk_at "kf")=>`(tactic| exact Zq.Fnd.mk (by k_is) (by k_is) (by k_is) (by k_is))
structure PySem.W.Fast:Prop where(tw15996854260010431178 tw3729890498644643340 tw2259245316827630607 tw6683153633742407487 tw12251766062581123116 tw4931078749726377998 tw13484167379686940322 tw1101281859931358075 tw7356903800922383554 tw6283775782274594898 tw564684792297493148 tw14242320651545602417 tw16890015234714548068 tw14835725315972156142 tw12086350934842345413 tw3870011333404643692 tw17654328442137715123 tw14160707250212849188 tw12711860590705554399 tw4135092379601230727 tw7772772239944017831 tw17388735201018645124 tw11799387813657508238 tw6332356756035848336 tw12622420446899668365 tw14142225617154118348 tw12589432467179605727 tw14415099307476898544 tw11063838356961963728 tw122685463103258977 tw7616864665921650100 tw11995680665799271956 tw498170375569579853 tw4352792061341410176 tw6262490535892833520 tw14229924978212109433 tw7771230174487299824 tw9386566512865119937 tw3594026384215927691 tw10268707350305806062 tw3499193550886983359 tw3848000514339078864 tw3245535498335210963 tw2427034029451598095 tw381378375863060692 tw12944571147079138024 tw87439901557941879 tw6665606711791391443 tw5037649206700289256 tw12441168655622914651 tw2287972388816800386 tw833799032314977396 tw6964726303509224433 tw8626620385869598383 tw8512795018459143746 tw7301707426644812641 tw17526151304007145935 tw10620921420801290265 tw10622718957017354764 tw16383872336881973306 tw585612278656681226 tw11355278012417835393 tw1514391516491138405 tw51785488240692803 tw5671211492802700981 tw182296223120696672 tw10805031605238481214 tw2574720081679103248 tw2764861411147851273 tw3378136322141543366 tw6648828037272566066 tw7568529294948583199 tw5240612023135263059 tw10031409435741657056 tw7401042068923348497 tw10209121248005628802 tw6471056453851233719 tw7583194550824648042 tw16648585508840846456 tw14853188062037892311 tw7198379952144296610 tw12007187803448857342 tw654544501769491982 tw9073944359754591129 tw1177076064024268511 tw13782218771548559219 tw16044335118928899054 tw4430963818090574133 tw5266534234205601598 tw17004141462242581087 tw14925878244768273577 tw7821692974134086280 tw6681716551363745595 tw3206176235161560372 tw4921347220284146612 tw5225261695330171520 tw13272505298741058246 tw7842062593866929101 tw11784493102422714662 tw4151211953556715263 tw10492759522250649998 tw4066435878121619699 tw7491175517040646863 tw7652146697269000767 tw16634076045884222963 tw9023157408532405128 tw13112618602439242114 tw17279088434494723007 tw2202111991283746254 tw16586715897307492598 tw763383434485568050 tw14406084660382522975 tw5912293630062007410 tw8825621851468575478 tw8931286634154033113 tw4185532382285564398 tw11631649581340620059 tw3158130621216123395 tw9141517671574202854 tw7821821117900469406 tw14477758962770774543 tw168806011285577772 tw12151354028141788381 tw4520640604252155239 tw16287980225614231793 tw6629019391736852086 tw8890299589495652890 tw13352849039464039513 tw13110926403684608111 tw7035052085736110297 tw5713380521407920583 tw4675036947256926615 tw13507221973172895208 tw11494477139676269562 tw17283568301381377339 tw6968728301387867956 tw10871793314047568126 tw11707297994833124633 tw10809556829036109486 tw14112094044958226896 tw6620337815174572958 tw12572809163809890147 tw10804702820825772436 tw1288429181644059303 tw9450021519970717118 tw16453833672692042265 tw606086037882616053 tw10302826229128658801 tw16235012534925270182 tw18095023952267037319 tw10012386124670201200 tw5974891412062579865 tw10833494295293349929 tw11278902111049258106 tw854316596457282905 tw10717180479467266691 tw10423158655801538172 tw5005224816816000593 tw10292281710051123493 tw949842877738698814 tw16655183249847298828 tw1788463298736919414 tw3852454356363402347 tw17705586013849950643 tw428151255580222717 tw12766904633434638823 tw739438554862861529 tw11868206742126830510 tw11136116059760193528 tw10379164186360468518 tw7921955638869801723 tw5257489888105875911 tw12256531930598558586 tw9641786376059610367 tw5426731408073034118 tw3152610984470209257 tw4144187383718316310 tw18309793516779281013 tw5955815438377088327 tw5157065223405293105 tw1656848352598261650 tw11133241099305337317 tw17044283098327802603 tw8561681288575245087 tw2426658345313330607 tw5457898120173272112 tw5652278098082683558 tw358644908459399077 tw17524199647901724446 tw11568930560734875900 tw1061761105991685026 tw2188801252603215305 tw1217903292231649267 tw12285937822492422263 tw9831822311608748444 tw5368868630025376074 tw2135950534783994971 tw18384517782263050850 tw16494724648763531999 tw13150543926061171370 tw12089047609667965932 tw10077963194250016154 tw7934189036383209229 tw7235354011597296899 tw10020498635200599981 tw983519894117637719 tw17879407393810284339 tw7448040362057589950 tw15530472245425439593 tw11370529639151156932 tw6982905396227900308 tw631567449310593366 tw2551183442282464981 tw14203458855987454205 tw6264164720137187846 tw6051999459287471481 tw14049679743949469800 tw14684717362738177847 tw5656951927712810088 tw9950137443011519994 tw5609873510466910575 tw17288084964233852376 tw16584703181628807389 tw6358160949740166500 tw4033772171523391763 tw1713396163546856393 tw16286610336071268862 tw7623026197301746681 tw17451498004537034057 tw7332891201670679632 tw11599695281654033407 tw1596653077421354198 tw13472601341885739396 tw7954699596171358989 tw16354702651531356199 tw10560757899689655785 tw17809053303107308765 tw3320653338003531280 tw15912780585074938556 tw14560796857992797526 tw12666079541489853165 tw10686042095991611946 tw8406162374888094231 tw2420554222590396063 tw12090624429795505288 tw6148384573062673267 tw18242825713244618810 tw14673364098107900828 tw4051002891487800032 tw10707059981526591263 tw2729310890698936714 tw2474854802460709890 tw9311128134030201447 tw5516940114932700325 tw12587014147613610536 tw31462753759451014 tw16861849704278316453 tw5212645968846940362 tw9789724927064786846 tw5517315364401439597 tw13895848313196653276:True)
set_option maxRecDepth 100000 in
set_option maxHeartbeats 0 in
theorem PySem.Challenge.cw_gatekin_k34_whole_kept_by_what_is_made_holds : PySem.Challenge.rw_gatekin_k34_whole_kept_by_what_is_made.Holds := by
 w_on; o_law; k_head; (case hw => w_witness2)
 k_fill
 refine Zq.walk (l := PySem.Challenge.rw_gatekin_k34_whole_kept_by_what_is_made) rfl rfl ?F
 case F =>
  intro w mg fa h KX G hmg
  refine' Zq.all_mk KX G hmg ?hFF ?hNN ?a38 ?l38 ?c38 ?k38 ?a55 ?l55 ?c55 ?k55 ?aeh ?BX ?ZD ?rA ?yF ?Kl ?abm ?nT ?aes ?vX ?Ml ?lW ?yT
  (case hFF => ((repeat refine .cons (by walk_at "kf") ?_); exact .nil))
  (case hNN => ((repeat refine .cons (by k_is) ?_); exact .nil))
  (case a38 => k_is)
  (case l38 => k_is)
  (case c38 => k_is)
  (case k38 => k_is)
  (case a55 => k_is)
  (case l55 => k_is)
  (case c55 => k_is)
  (case k55 => k_is)
  (case aeh => k_is)
  (case BX => rfl)
  (case ZD => k_is)
  (case rA => rfl)
  (case yF => k_is)
  (case Kl => k_is)
  (case abm => k_is)
  (case nT => rfl)
  (case aes => k_is)
  (case vX => rfl)
  (case Ml => k_is)
  (case lW => rfl)
  (case yT => rfl)
