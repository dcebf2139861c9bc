import PyProof.Rows.All
import Wide.All
import OpenK.AllK
import Wide.FinOn
import Lean
import PyProof.EqAt
import PyProof.EqKinds
import PyProof.TupleCall
import PySem.Challenge.RW_gatekin_k44_every_wish_built
open PySem renaming PyData->ab,wpAny_bind->ag,Value->a0,wpAny_pure->a9,sizeLine->ba,Shared->cq,starEach->dc,wpAny->de,model->dt,mainGlobals->d5,bootBuiltins->eh,compareOp->eD,wpAny_seqItems->eW,sysModules->fb,mem_of_lookup->fe,wpAny_callSpecial?_slot->fh,wpAny_call_entry->fi,Program->fq,binaryOp->fv,wpAny_mono->fy,swapsWith->fR,Around->g9,wpAny_truthy_bool->hJ,foldedSetIterable->hV,wpAny_field->hW,Paired->hX,cLine->h7,bindArgs->iA,NameKind->iE,wpAny_specialOf->iS,cellsFrom->i4,World->i8,wpAny_newObj_type->j3,wpAny_holding->kF,wpAny_setField_rec->kP,getitemInPython_of_ne->kQ,wpAny_passesOwn->kX,wpAny_letTemporaryGo->k9,assignEach->lh,attributeBase->ll,FuncData->lP,backTo->lS,wpAny_pyIter_tuple->md,behindInMarks->mm,IsPair->mn,subscripted->mI,wpAny_tryCatch->mP,intKind->mT,wpAny_isInstance->nc,atKey->nz,Keyword->nK,getItem->nL,wpAny_operating->nS,builtinsNs->n3,wpAny_Call_Name_kw->n5,tupleKind_room_in1->oe,tupleKind->oi,keywordEach->oj,sliceBounds->oo,DictEntry->oq,wpAny_letGo->ot,wpAny_pyIter_enum->oB,letTemporaryGo->oC,tupleKeyHash->oD,SetTable->oS,isSubtype_tuple_tuple->pE,wpAny_forIn_list->p4,wpAny_updateSeq_pair->qh,wpAny_execs_nil->qr,rawInt->qA,wpAny_loadPart'->qV,wpAny_updateSeq->rh,PassesOwn->rV,Scope->rX,wpAny_rule->r9,wpAny_getItem_heap->sd,wpAny_tupleItemsOf->se,wpAny_sequenceKey->sj,valueAt->sm,storedH->sA,wpAny_pyIter_list->sC,wpAny_onRaise->sQ,plainId_quiet->sR,codeAmong->ti,backToKw->tj,noFill_tuple_add->tm,IsZip->tJ,wpAny_Name->ub,codeAny->uu,concat_meets->uS,IsPart->u7,wpAny_typeOf->va,closureFor->vi,reduceHash->vj,letOwnedTupleGo->vx,codeAny_builtin->vS,callerA->wd,isTrue->wq
open List renaming getD_eq_getElem?_getD->ae,length_map->af,getElem?_eq_getElem->ai,length_append->ar,replicate->aw,mem_singleton->ay,getElem?_eq_some_iff->aI,map_append->aS,length_cons->a6,map_cons->a7,getElem?_map->a8,getElem?_append_right->be,mem_cons_self->bg,mem_map->bo,mem_cons_of_mem->bq,length_replicate->br,map_congr_left->bt,mem_cons->bE,getElem?_append_left->bX,length_singleton->b9,mem_append->cf,mem_append_right->ck,length_take->cp,length_range->cx,map_map->cy,mem_range->cE,append_nil->cK,size_toArray->c8,append_assoc->da,take_length->dn,mem_append_left->dy,mem_of_getElem?->dA,getElem?_range->dQ,all_eq_true->d3,nil_append->d6,getElem?_eq_none->eg,replicate_succ->en,map_nil->ew,nodup_append->ey,length_set->eJ,getElem_mem->eL,foldl_append->e8,cons_append->fk,filter_cons_of_neg->fm,Nodup->fo,getElem?_replicate_of_lt->fw,take_of_length_le->fA,find?_cons->fI,getElem?_replicate->gu,filter_cons_of_pos->gx,sum_cons->hY,mem_flatMap->ij,mem_iff_getElem->ip,any_cons->iq,mem_filter->iO,lookup_cons->i6,map_replicate->i7,getElem?_take_of_lt->ja,eq_of_mem_replicate->jI,mem_of_mem_take->j1,flatten_cons->ka,length_eq_zero_iff->kb,length_nil->ko,range_succ->kr,filterMap_cons->kx,replicate_zero->ky,getElem?_set_self->kB,mem_filterMap->kH,take_zero->kN,drop_eq_getElem_cons->kT,mem_of_find?_eq_some->kU,nodup_cons->k6,length_reverse->lI,length_drop->lT,not_mem_nil->l5,any_eq_true->l7,eq_nil_of_length_eq_zero->l8,take_append_of_le_length->l9,find?_eq_none->mf,take_add_one->mu,getElem?_set_ne->mx,flatMap_append->nr,foldl_cons->nN,sum_append->n0,pairwise_cons->n9,mem_replicate->og,ext_getElem?->oQ,any_eq_false->pe,filter_eq_nil_iff->pv,length_filter_le->pz,take_append_drop->pS,eq_replicate_iff->pT,all_cons->qa,replicate_succ'->qo,map_id->qq,dropLast_concat_getLast->rg,find?_some->rq,idxOf_lt_length_of_mem->rS,drop_zero->sg,lookup->sk,getElem?_set->sF,Pairwise->sM,drop_length->tw,range_succ_eq_map->vn,drop_of_length_le->vr,of_mem_zip->vE,forIn_cons->vF,nodup_nil->wa,map_take->wm
open PySem.W renaming Frag->av,fnOf->d4,mg_of->fT,nsIn->gp,codeHdIn->gL,keepIn->jS,codeIn->kK,kia_one->k7,cellsFrom_some->ma,kitOne->mM,OpenLaw->ua,kla_obj->we
open Nat renaming le_refl->ax,le_trans->cS,lt_of_lt_of_le->dS,ne_of_lt->ef,pow_le_pow_right->eI,lt_or_ge->ff,lt_irrefl->ft,lt_of_le_of_lt->h9,le_of_not_lt->ib,sub_self->iN,zero_le->iP,pow_lt_pow_right->j2,le_of_lt->kA,pow_le_pow_left->nv,not_lt_zero->nX,ne_of_gt->ow,or_lt_two_pow->pj,lt_succ_self->pV,add_assoc->p9,min_eq_left->ro,pow_succ->rL,pow_pos->sL,min_le_right->tp,mod_eq_of_lt->t9,succ_mul->ve,mul_le_mul->wb,not_lt->wx,mod_lt->w9,zero_add->xc
open PySem.Heap renaming get?_push_of_some->aE,lt_size->cm,get?_push_size->cn,size_push->gy,SameBut->m3,get?_none_of_le->qf
open Int renaming toNat_natCast->cc,emod_lt_of_pos->gE,emod_nonneg->hZ,pow_succ->jv,natCast_pow->k8,le_refl->la,one_mul->mS,toNat_of_nonneg->nk,mul_assoc->nI,mul_comm->pf,fdiv_eq_ediv_of_nonneg->r6,mul_one->si,natCast_add->vT,ofNat->wh,zero_ediv->wo,le_trans->xb
open PySem.Builtin.Range renaming rangeSize->c6,rangeFitsLong->mw
open Bool renaming and_eq_true->c9,false_ne_true->dV,eq_false_iff->lb,eq_iff_iff->nV,or_eq_true->qB,not_eq_true'->sD,false_or->sN,true_and->tf,true_or->xa
open PySem.SeqAt renaming shaped->dr,canLay_of_shaped->kD
open Classical renaming not_forall->er,byContradiction->fx,choose->tz
open PySem.Builtin.Tuple renaming tupleHashOf->eK,tupleExact->lj,tupleItemsOf->mE
open PyProof.Rows renaming slot_tuple_getitem->eM,callWith_type1->gc,bitAnd_m1->gX,envOfC->mB,K->mN,AllBare->sh,IsTup->vv
open PySem.PyData renaming eqv->eP,canLayAll0->gi,canLay0->iL,depthAll->kn,eqvAll->qc
open PySem.PassesOwn renaming never->fg
open PySem.Builtin renaming bitAnd->fE,bitNot->fF,bitOr->i9
open PySem.Value renaming ref->fN,type->ke,isInt->v3
open Option renaming isSome_iff_exists->fS,isSome_map->iF,map_eq_some_iff->kC,map_eq_none_iff->pd
open Or renaming inl->gz,inr->rf
open PySem.F renaming plain_min_loop->gS,slot_dict_getitem->iX,slot_tuple_iterator_next->kM,plainAttrs_list->l6,args_tuple_add_2->ny,slot_dict_itemiterator_iter->nE,entry_tuple_add->om,slot_tuple_add->ox,slot_list_append->oz,slot_tuple_hash->oP,entry_min_loop->pb,args_tuple_iterator_next_1->qE,slot_tuple_eq->ra,slot_zip_next->rl,type_list_append->sP,plainAttrs_dict->tq,slot_dict_items->tN
open True renaming intro->ia
open False renaming elim->ki
open Sum renaming inl->kz,inr->mr
open PySem.NameKind renaming cell->kG
open PySem.Builtin.List renaming listFitsIndex->kL,listTooLong->lp
open PySem.Builtin.Slice renaming slicePlaces->kR,sliceAdjust->ng
open Ne renaming symm->lx
open Array renaming length_toList->ly,forIn_toList->sf
open ForInStep renaming yield->mi
open PySem.Heap.SameBut renaming update->nh
open PySem.Calls renaming callWith_builtin->oy
open PySem.Around renaming under_plainId->qk
open PyProof renaming noPylong_small->uk
open PySem.Obj renaming mapSeq->vb
set_option compiler.extract_closed false
set_option Elab.async false
set_option linter.all false
set_option maxRecDepth 100000
local macro_rules | `(tactic| lia) => `(tactic| first | lia (config := {}) | omega)
namespace Zq
open PySem PySem.Spec PyProof.Rows
abbrev A7:=List (Addr×Obj)
abbrev A9:=List (Nat×Int)
abbrev B0:=List (ab×ab)
abbrev B1:=List (Str×Addr)
abbrev B2:=a0->cq->Prop
abbrev B3:=List Int
abbrev B4:=List ab
abbrev B5:=List Nat
abbrev B6:=List Str
abbrev B7:=Option a0
abbrev B8:=List a0
abbrev C1:=List Expr
abbrev C2:=List Addr
abbrev C3:=Option Int
abbrev C4:=Option Addr
abbrev C5:=List Stmt
abbrev C6:=List Env
abbrev nD(x:Str):Prop:=(x == ("__debug__" : Str))=false
end Zq
local macro_rules | `(tactic| walk_at "hf")=>`(tactic| first | exact .inl rfl | exact .inr rfl | assumption)
namespace Zq
open PySem PySem.Spec PyProof.Rows
abbrev Key:=Sum Int Str
abbrev C7:=List Key
noncomputable def zx:Key->a0->Bool
 | .inl k,v=>v3 k v
 | .inr x,v=>Value.isStrOf x v
noncomputable def afU(w:i8):Key->Int
 | .inl k=>hashInt k
 | .inr x=>hashStr w x
theorem fU:∀{k:Key}{v:a0},zx k v=true->(∃i t,k=kz i/\v=a0.int i t)\/(∃x t,k=mr x/\v=a0.str x t)
 | .inl i,v,h=>by
  obtain ⟨t,e⟩:=Value.isInt_shape h;exact .inl ⟨i,t,rfl,e⟩
 | .inr x,v,h=>by
  obtain ⟨t,e⟩:=Value.isStrOf_shape h;exact .inr ⟨x,t,rfl,e⟩
theorem Uw(i:Int)(t:Tok):zx (.inl i) (.int i t)=true:=by simp[zx,v3]
theorem Tj(x:Str)(t:Tok):zx (.inr x) (.str x t)=true:=by simp[zx,Value.isStrOf]
theorem abh(a b:Int):decide ((kz a:Key)=kz b)=(a == b):=by
 by_cases e:a=b
 . subst e;simp
 . have h:¬ (kz a:Key)=kz b:=λq=>e (kz.inj q);rw[decide_eq_false h];exact (beq_eq_false_iff_ne.mpr e).symm
theorem adx(a b:Str):decide ((mr a:Key)=mr b)=decide (a=b):=by
 by_cases e:a=b
 . subst e;simp
 . have h:¬ (mr a:Key)=mr b:=λq=>e (mr.inj q);rw[decide_eq_false h,decide_eq_false e]
theorem acU(a:Int)(b:Str):decide ((kz a:Key)=mr b)=false:=decide_eq_false (λq=>nomatch q)
theorem ac7(a:Str)(b:Int):decide ((mr a:Key)=kz b)=false:=decide_eq_false (λq=>nomatch q)
noncomputable def bZ(prog:fq)(w:i8):PySem.KeyKind prog w Key where
 is:=zx
 hash:=afU w
 inj:=λv a b ha hb=>by
  rcases fU ha with ⟨i,t,rfl,rfl⟩ | ⟨x,t,rfl,rfl⟩
  . rcases fU hb with ⟨j,u,rfl,e⟩ | ⟨y,u,rfl,e⟩
    . injection e with e1 _;rw[e1]
    . exact nomatch e
  . rcases fU hb with ⟨j,u,rfl,e⟩ | ⟨y,u,rfl,e⟩
    . exact nomatch e
    . injection e with e1 _;rw[e1]
 byValue:=λk v h=>by
  rcases fU h with ⟨i,t,rfl,rfl⟩ | ⟨x,t,rfl,rfl⟩ <;> rfl
 pyHash:=λhv h=>by
  rcases fU hv with ⟨i,t,rfl,rfl⟩ | ⟨x,t,rfl,rfl⟩
  . exact wpAny_pyHash_int h
  . exact wpAny_pyHash_str h
 eqBool:=λhu hv h=>by
  rcases fU hu with ⟨i,t,rfl,rfl⟩ | ⟨x,t,rfl,rfl⟩
  . rcases fU hv with ⟨j,u,rfl,rfl⟩ | ⟨y,u,rfl,rfl⟩
    . rw[abh] at h;exact wpAny_eqBool_int h
    . rw[acU] at h;exact SeqAt.EqAt.int_str i t y u _ _ _ _ h
  . rcases fU hv with ⟨j,u,rfl,rfl⟩ | ⟨y,u,rfl,rfl⟩
    . rw[ac7] at h;exact SeqAt.EqAt.str_int x t j u _ _ _ _ h
    . rw[adx] at h;exact wpAny_eqBool_str h
 «strs» := λk x t v h=>by
  rcases fU h with ⟨i,u,rfl,e⟩ | ⟨y,u,rfl,e⟩
  . exact nomatch e
  . injection e with e1 _;subst e1;cases v <;> rfl
theorem Mw(prog:fq)(w:i8)(i:Int)(t:Tok):(bZ prog w).is (.inl i) (.int i t)=true:=Uw i t
theorem Mm(prog:fq)(w:i8)(x:Str)(t:Tok):(bZ prog w).is (.inr x) (.str x t)=true:=Tj x t
inductive V where
 | non | bl (b:Bool) | int (i:Int) | str (x:Str) | byt (b:Array UInt8) | flt (b:UInt64) | ref (a:Addr) | ty (n:String)
 deriving DecidableEq
abbrev A8:=List (Key×V)
abbrev C0:=List V
def xh:V->a0->Prop
 | .non,u=>u=a0.none
 | .bl b,u=>u=a0.bool b
 | .int i,u=>∃t,u=a0.int i t
 | .str x,u=>∃t,u=a0.str x t
 | .byt b,u=>∃t,u=Value.bytes b t
 | .flt b,u=>∃t,u=Value.float b t
 | .ref a,u=>u=fN a
 | .ty n,u=>u=ke n
abbrev xi:C0->B8->Prop:=hX xh
variable {xs:C0}{us:B8}
theorem xi.length(r:xi xs us):xs.length=us.length:=hX.length r
theorem xi.get:∀{xs:C0}{us:B8}{i:Nat}{x:V},xi xs us->xs[i]?=some x->∃u,us[i]?=some u/\xh x u
 | _,_,_,_,.nil,e=>by simp at e
 | _,_,0,_,.cons r _,e=>by simp at e;subst e;exact ⟨_,rfl,r⟩
 | _,_,i+1,x,.cons _ t,e=>by
  obtain ⟨u,Z,Y⟩:=xi.get t (by simpa using e);exact ⟨u,by simpa using Z,Y⟩
theorem xi.append:∀{xs ys:C0}{us ws:B8},xi xs us->xi ys ws->xi (xs++ys) (us++ws)
 | _,_,_,_,.nil,s=>s
 | _,_,_,_,.cons r t,s=>.cons r (xi.append t s)
theorem xi.take:∀{xs:C0}{us:B8} (n:Nat),xi xs us->xi (xs.take n) (us.take n)
 | _,_,0,_=>.nil
 | _,_,_+1,.nil=>.nil
 | _,_,n+1,.cons r t=>.cons r (xi.take n t)
theorem xi.drop:∀{xs:C0}{us:B8} (n:Nat),xi xs us->xi (xs.drop n) (us.drop n)
 | _,_,0,r=>r
 | _,_,_+1,.nil=>.nil
 | _,_,n+1,.cons _ t=>xi.drop n t
def nU:Option V->B7->Prop
 | some v,some u=>xh v u
 | none,none=>True
 | _,_=>False
def KV{κ:Type}:List (κ×V)->List (κ×a0)->Prop:=hX λ(p:κ×V) (q:κ×a0)=>p.1=q.1/\xh p.2 q.2
noncomputable def kV:Key->V
 | .inl i=>.int i
 | .inr x=>.str x
inductive HO where
 | lst (xs:C0)
 | tup (xs:C0)
 | dK (x3:A8) | dT (x3:List (C7×V))
 | set (S:Int->Bool) (n:Nat)
 | ins (C dx:Addr) (fs:List (Str×V))
 | own (x:Addr)
 | xd (fs:List (Str×V))
 | met (f x:Addr)
 | rng (lo hi:Int)
 | frz (o:Obj) (u:HO)
 | tbl (q:Str)
 | ext (φ:Heap->Prop)
abbrev Hp:=Addr->Option HO
noncomputable def xk(H:Hp)(a:Addr)(o:HO):Hp:=λb=>if b=a then some o else H b
variable {H:Hp}{a:Addr}{o:HO}
theorem aX:xk H a o a=some o:=by rw[xk,if_pos rfl]
variable {b:Addr}
theorem aG(h:b≠a):xk H a o b=H b:=by rw[xk,if_neg h]
theorem Nj{u:HO}:xk (xk H a o) a u=xk H a u:=by
 funext b;unfold xk;split <;> rfl
theorem aez{u:HO}(h:H a=some o)(Y:H b=some u)(d:o≠u):a≠b:=by
 intro e;subst e;rw[h] at Y;exact d (Option.some.inj Y)
theorem cU(h:H a=some o)(Y:H b=none):a≠b:=by
 intro e;subst e;rw[h] at Y;cases Y
section
variable (P:fq) (w:i8)
def fV(H:Hp)(h:Heap)(a:Addr):HO->Prop
 | .lst xs=>xs.length<=ba/\∃(x5:B8) (n:Nat),xi xs x5/\h.get? a=some { cls:=.type "list",data:=.seq x5.toArray n }
 | .tup xs=>xs.length<=ba/\∃x5:B8,xi xs x5/\vv h a x5.toArray
 | .dK x3=>x3.length<=ba/\(a == fb)=false/\∃vs,KV x3 vs/\h.DictOf (bZ P w) a vs
 | .dT x3=>x3.length<=ba/\(a == fb)=false/\∃xs:List (C7×Addr×a0),
  hX (λ(p:C7×V) (q:C7×Addr×a0)=>p.1=q.1/\H q.2.1=some (.tup (p.1.map kV))/\xh p.2 q.2.2) x3 xs /\
  ∃o es ep,h.get? a=some o/\o.ExactDict/\o.data= .dict es ep/\es.toList=xs.map (entryOfKey (oi (bZ P w)))/\(xs.map (·.1)).Nodup
 | .set S n=>h.SetOf (mT P w) a S n
 | .ins C dx fs=>H dx=some (.own a)/\fs.length<=1000/\dx≠a/\h.get? a=some (PySem.W.instObj C dx) /\
  ∃mA,h.Ns1 dx mA/\(∀f,nU (fs.lookup f) (mA f))/\PySem.Within mA (fs.map (·.1))
 | .own _=>∃o,h.get? a=some o
 | .xd fs=>∃mA,h.Ns1 a mA/\∀f,nU (fs.lookup f) (mA f)
 | .rng lo hi=>∃t u v,h.get? a=some { cls:=.type "range",data:=.fields #[.int lo t,.int hi u,.int 1 v] }
 | .frz o u=>h.get? a=some o/\fV H h a u
 | .tbl q=>∃ps:Array a0,h.get? a=some { cls:=.none,data:=.fields ps }/\TriplesOk ps.toList/\∀(pos:Pos) (cv:a0),ti pos ps.toList=some cv->∃c ob vs t,cv= .ref c/\H c=some (.own a)/\h.get? c=some ob/\ob.data= .fields vs/\vs[1]?=some (.str q t)
 | .met f x=>h.get? a=some (PySem.W.methodObj (.ref f) (.ref x))
 | .ext φ=>φ h/\(∃o,h.get? a=some o)/\∀h1 h2:Heap,φ h1->(∀o,h1.get? a=some o->h2.get? a=some o)->φ h2
def HOk(H:Hp)(h:Heap):Prop:=∀a o,H a=some o->fV P w H h a o
end
variable {P:fq}{w:i8}{h:Heap}
section
variable   {H':Hp}{h':Heap}
theorem fV.lt(x:fV P w H h a o):a<h.objs.size:=by
 cases o with
 | lst Z=>obtain ⟨_,_,_,_,e⟩:=x;exact cm e
 | tup Z=>obtain ⟨_,_,_,p⟩:=x;exact p.lt
 | dK Y=>obtain ⟨_,_,_,_,o,_,_,e,_⟩:=x;exact cm e
 | dT Y=>obtain ⟨_,_,_,_,o,_,_,e,_⟩:=x;exact cm e
 | set S n=>obtain ⟨o,_,_,_,e,_⟩:=x;exact cm e
 | ins C j fs=>obtain ⟨_,_,_,e,_⟩:=x;exact cm e
 | own y=>obtain ⟨_,e⟩:=x;exact cm e
 | xd fs=>obtain ⟨_,⟨_,_,_,e,_⟩,_⟩:=x;exact cm e
 | rng lo i=>obtain ⟨_,_,_,e⟩:=x;exact cm e
 | frz l u=>obtain ⟨e,_⟩:=x;exact cm e
 | tbl q=>obtain ⟨_,e,_⟩:=x;exact cm e
 | met f y=>exact cm (x)
 | ext r=>obtain ⟨_,⟨_,e⟩,_⟩:=x;exact cm e
theorem Paired.sE{α Y:Type}{F G:α->Y->Prop}:∀{l₁:List α}{l₂:List Y},hX F l₁ l₂->(∀a b,F a b->G a b)->hX G l₁ l₂
 | _,_,.nil,_=>.nil
 | _,_,.cons r t,f=>.cons (f _ _ r) (Paired.sE t f)
theorem fV.stay(x:fV P w H h a o)(k:∀b u,(b=a\/H b=some (.own a))->h.get? b=some u->h'.get? b=some u)
 (L:∀b,H b=some (.own a)->H' b=some (.own a)) (E:∀b xs,H b=some (.tup xs)->H' b=some (.tup xs)):fV P w H' h' a o:=by
 induction o with
 | lst xs=>obtain ⟨z,j,n,r,e⟩:=x;exact ⟨z,j,n,r,k _ _ (.inl rfl) e⟩
 | tup xs=>obtain ⟨z,j,r,Y,e,c⟩:=x;exact ⟨z,j,r,Y,k _ _ (.inl rfl) e,c⟩
 | dK J=>obtain ⟨z,y,B,r,Y,i,Z,e,c⟩:=x;exact ⟨z,y,B,r,Y,i,Z,k _ _ (.inl rfl) e,c⟩
 | dT J=>
  obtain ⟨z,y,xs,r,Y,i,Z,e,c⟩:=x;exact ⟨z,y,xs,Paired.sE r λp q z=>⟨z.1,E _ _ z.2.1,z.2.2⟩,Y,i,Z,k _ _ (.inl rfl) e,c⟩
 | set S n=>obtain ⟨Y,i,Z,t,e,c⟩:=x;exact ⟨Y,i,Z,t,k _ _ (.inl rfl) e,c⟩
 | ins C dx fs=>
  obtain ⟨d,z,ne,e,s,⟨D,i,Z,l,c⟩,r⟩:=x;exact ⟨L _ d,z,ne,k _ _ (.inl rfl) e,s,⟨D,i,Z,k _ _ (.inr d) l,c⟩,r⟩
 | own y=>obtain ⟨Y,e⟩:=x;exact ⟨Y,k _ _ (.inl rfl) e⟩
 | xd fs=>obtain ⟨s,⟨D,i,Z,e,c⟩,r⟩:=x;exact ⟨s,⟨D,i,Z,k _ _ (.inl rfl) e,c⟩,r⟩
 | rng lo hi=>obtain ⟨t,u,v,e⟩:=x;exact ⟨t,u,v,k _ _ (.inl rfl) e⟩
 | frz Y u ih=>obtain ⟨e,q⟩:=x;exact ⟨k _ _ (.inl rfl) e,ih q⟩
 | tbl q=>
  obtain ⟨R,e,E,hc⟩:=x;refine ⟨R,k _ _ (.inl rfl) e,E,λI cv O=>?_⟩;obtain ⟨c,Y,B,t,M,l,Q,U⟩:=hc I cv O;exact ⟨c,Y,B,t,M,L _ l,k _ _ (.inr l) Q,U⟩
 | met f y=>
  have e:=x;exact k a _ (.inl rfl) e
 | ext φ=>obtain ⟨p,⟨o,e⟩,st⟩:=x;exact ⟨st _ _ p λo q=>k _ _ (.inl rfl) q,⟨o,k _ _ (.inl rfl) e⟩,st⟩
theorem HOk.lt(x:HOk P w H h)(e:H a=some o):a<h.objs.size:=(x a o e).lt
theorem HOk.fresh(x:HOk P w H h)(e:h.objs.size<=a):H a=none:=by
 cases q:H a with
 | none=>rfl
 | some u=>exact absurd (dS (x.lt q) e) (ft _)
theorem HOk.kept(x:HOk P w H h)(k:∀b u,h.get? b=some u->h'.get? b=some u):HOk P w H h':=λa o e=>
 (x a o e).stay (λb u _ q=>k b u q) (λ_ q=>q) λ_ _ q=>q
theorem HOk.laid(x:HOk P w H h)(k:∀b u,h.get? b=some u->h'.get? b=some u)(i:h.objs.size<=a)(new:fV P w (xk H a o) h' a o):HOk P w (xk H a o) h':=λb u e=>by
 have Z:=x.fresh i
 by_cases Y:b=a
 . subst Y;rw[aX] at e;cases e;exact new
 . rw[aG Y] at e;exact (x b u e).stay (λc v _ q=>k c v q) (λc q=>by rw[aG (cU q Z)];exact q) λc j q=>by rw[aG (cU q Z)];exact q
end
def Rd(H:Hp)(a:Addr)(u:HO):Prop:=H a=some u\/∃o,H a=some (.frz o u)
theorem Rd.ok{u:HO}(r:Rd H a u)(x:HOk P w H h):fV P w H h a u:=by
 rcases r with r | ⟨o,r⟩
 . exact x a u r
 . obtain ⟨_,q⟩:=x a _ r;exact q
def Mut:Option HO->Prop
 | some (.lst _)=>True
 | some (.dK _)=>True
 | some (.dT _)=>True
 | some (.set _ _)=>True
 | some (.ins _ _ _)=>True
 | some (.ext _)=>True
 | _=>False
section
variable    {h':Heap}{x e:Addr}{o':HO}
theorem HOk.write(ok:HOk P w H h)(p:Mut (H x))(s:e=x\/H e=some (.own x))(k:∀b u,b≠e->h.get? b=some u->h'.get? b=some u)(o:∃u,h'.get? e=some u)
 (new:fV P w (xk H x o') h' x o'):HOk P w (xk H x o') h':=λb u q=>by
 have Z:∀c y,H c=some (.own y)->c≠x:=λc y r z=>by subst z;rwa [r] at p
 have i:∀c l,H c=some (.tup l)->c≠x:=λc l r z=>by subst z;rwa [r] at p
 by_cases j:b=x
 . subst j;rw[aX] at q;cases q;exact new
 . rw[aG j] at q
   by_cases Y:b=e
   . have B:H b=some (.own x):=by
      rcases s with z | z
      . exact absurd (Y.trans z) j
      . rw[Y];exact z
     rw[q] at B;cases B;obtain ⟨v,C⟩:=o;exact ⟨v,by rw[Y];exact C⟩
   . refine (ok b u q).stay (λc v hc r=>k c v ?_ r) (λc r=>by rw[aG (Z c b r)];exact r) λc l r=>by rw[aG (i c l r)];exact r
     rcases hc with rfl | hc
     . exact Y
     . rintro rfl;rcases s with z | z
       . exact Z c b hc z
       . rw[hc] at z;cases z;exact j rfl
end
structure Un (fs ex:C2) (H H':Hp) (h h':Heap):Prop where
 keep:∀b o,h.get? b=some o->H b=none->b∉fs->b∉ex->h'.get? b=some o
 slot:∀b o,h.get? b=some o->H b=none->b∈fs->b∉ex->∃sl,h'.get? b=some { o with slots:=sl }
 free:∀b o,h.get? b=some o->H b=none->b∉ex->H' b=none
 there:∀b o,h.get? b=some o->b∉ex->∃o',h'.get? b=some o'
 tups:∀b xs,H b=some (.tup xs)->H' b=some (.tup xs)
 mz:∀b o u,H b=some (.frz o u)->H' b=some (.frz o u)
 kE:∀b q,H b=some (.tbl q)->H' b=some (.tbl q)
section
variable {fs fs' ex ex':C2}{H1 H2:Hp}{h1 h2 h':Heap}{x e:Addr}
theorem Un.any(u:Un fs ex H H1 h h1){Y:Obj}(q:h.get? b=some Y)(n:H b=none)(Z:b∉ex):∃i,h1.get? b=some { Y with slots:=i }:=by
 by_cases e:b∈fs
 . exact u.slot b Y q n e Z
 . exact ⟨Y.slots,u.keep b Y q n e Z⟩
theorem Un.trans(a:Un fs ex H H1 h h1)(b:Un fs ex H1 H2 h1 h2):Un fs ex H H2 h h2 where
 keep:=λc Y q n j Z=>b.keep c Y (a.keep c Y q n j Z) (a.free c Y q n Z) j Z
 slot:=λc Y q n j Z=>by
  obtain ⟨s,e⟩:=a.slot c Y q n j Z;obtain ⟨o,r⟩:=b.slot c _ e (a.free c Y q n Z) j Z;exact ⟨o,r⟩
 free:=λc Y q n Z=>by
  obtain ⟨l,e⟩:=a.there c Y q Z;exact b.free c l e (a.free c Y q n Z) Z
 there:=λc Y q Z=>by
  obtain ⟨l,e⟩:=a.there c Y q Z;exact b.there c l e Z
 tups:=λc i q=>b.tups c i (a.tups c i q)
 mz:=λc Y i q=>b.mz c Y i (a.mz c Y i q)
 kE:=λc p q=>b.kE c p (a.kE c p q)
theorem Un.kept(k:∀b u,h.get? b=some u->h'.get? b=some u):Un fs ex H H h h':=
 ⟨λb Y q _ _ _=>k b Y q,λb Y q _ _ _=>⟨Y.slots,k b Y q⟩,λ_ _ _ n _=>n,λb Y q _=>⟨Y,k b Y q⟩,λ_ _ q=>q,λ_ _ _ q=>q,λ_ _ q=>q⟩
theorem Un.refl:Un fs ex H H h h:=Un.kept λ_ _ q=>q
theorem Un.laid(k:∀b u,h.get? b=some u->h'.get? b=some u)(e:h.objs.size<=a)(Y:H a=none):Un fs ex H (xk H a o) h h' where
 keep:=λb u q _ _ _=>k b u q
 slot:=λb u q _ _ _=>⟨u.slots,k b u q⟩
 free:=λb u q n _=>by rw[aG (ef (dS (cm q) e))];exact n
 there:=λb u q _=>⟨u,k b u q⟩
 tups:=λb Z q=>by rw[aG (cU q Y)];exact q
 mz:=λb u Z q=>by rw[aG (cU q Y)];exact q
 kE:=λb Z q=>by rw[aG (cU q Y)];exact q
theorem Un.write(j:Mut (H x))(B:e=x\/H e=some (.own x))(k:∀b u,b≠e->h.get? b=some u->h'.get? b=some u)(Z:∃u,h'.get? e=some u):Un fs ex H (xk H x o) h h':=by
 have l:∀b,H b=none->b≠x:=λb n z=>by subst z;rwa [n] at j
 have p:∀b,H b=none->b≠e:=λb n z=>by
  subst z;rcases B with r | r
  . exact l b n r
  . rw[n] at r;cases r
 have i:∀b u,H b=some u->¬ Mut (some u)->b≠x:=λb u q v z=>by subst z;rw[q] at j;exact v j
 refine ⟨λb u q n _ _=>k b u (p b n) q,λb u q n _ _=>⟨u.slots,k b u (p b n) q⟩,λb u q n _=>by rw[aG (l b n)];exact n,λb u q _=>?_,
  λb s q=>by rw[aG (i b _ q λz=>z)];exact q,λb u s q=>by rw[aG (i b _ q λz=>z)];exact q,λb _ q=>by rw[aG (i b _ q λz=>z)];exact q⟩
 by_cases Y:b=e
 . subst Y;exact Z
 . exact ⟨u,k b u Y q⟩
end
noncomputable def trk(h:Heap)(H:Hp):C2:=(List.range h.objs.size).filter λa=>(H a).isSome
noncomputable def ye(h:Heap)(H:Hp):Heap:=PySem.W.hideAll h (trk h H)
theorem Ui(h:Heap)(H:Hp):(ye h H).objs.size=h.objs.size:=PySem.W.hideAll_size _ _
theorem Vr{o:Obj}(e:h.get? b=some o)(n:H b=none):(ye h H).get? b=some o:=
 PySem.W.hideAll_get _ e λY=>by
  have q:=(iO.mp Y).2;rw[n] at q;simp at q
theorem ZX{o:Obj}(e:(ye h H).get? b=some o):h.get? b=some o/\H b=none:=by
 have Y:=PySem.W.of_hideAll (trk h H) e;refine ⟨Y,?_⟩
 cases q:H b with
 | none=>rfl
 | some x=>
  have Z:b∈trk h H:=iO.mpr ⟨cE.mpr (cm Y),by simp[q]⟩;have z:(ye h H).get? b=none:=PySem.W.hideAll_none (trk h H) Z;rw[z] at e;cases e
structure Mod (K:av) (mg:Str->B7) (base:Heap):Prop where
 kin:K.In base
 glob:base.Ns d5 mg
 blt:∃mb,base.Ns n3 mb/\∀x:Str,x ≠ "__name__" -> mb x=eh x
 nolimit:base.NoLimit
 bmain:∃bm ob,mg "__builtins__"= some (.ref bm)/\bm≠n3/\base.get? bm=some ob/\ob.cls= .type "module" /\ ob.dict=some n3/\ob.data= .plain
structure Cx where
 prog:fq
 w:i8
 K:av
 mg:Str->B7
 base:Heap
 A:g9
 N:B6
 s₀:cq
 H₀:Hp
 env:Env
 xD:C6
 stack:C6
 ex:C2
 fn:Str->Bool
 calm:Bool
 pn:A7
 xe:a0->cq->Prop
noncomputable def frs(l:C6):C2:=l.filterMap (·.frame)
noncomputable abbrev Cx.fs(X:Cx):C2:=frs X.xD
def Vis(sc:rX)(x:Str):Prop:=sc.names.lookup x=some .local\/sc.names.lookup x=some .cell\/sc.names.lookup x=some .free
def Loc(sc:rX)(x:Str):Prop:=sc.names.lookup x=some .local\/sc.names.lookup x=some .cell
def Look(env:Env)(h:Heap)(m:Str->B7)(x:Str)(u:a0):Prop:=
 (env.kindOf x=some .local/\m x=some u)\/((env.kindOf x=some .cell\/env.kindOf x=some .free)/\∃c,env.cells.lookup x=some c/\h.IsCell c (some u))
def TabAt(K:av)(mg:Str->B7)(P:Addr):Prop:=∃(f:Addr) (o:Obj) (fd:lP) (c:Addr),mg "ways"= some (.ref f)/\K.lookup f=some o/\o.data= .func fd/\fd.code= .ref c/\gL K c P=true
noncomputable def jc:Str:= "ways.<locals>.<lambda>"
structure Cx.Ok (X:Cx):Prop where
 mod:Mod X.K X.mg X.base
 kind:X.env.scope.kind= .function
 glob:X.env.globals=d5
 blt:X.env.builtins=n3
 above:X.s₀.heap.objs.size<=X.env.locals
 inj:∀x y c,X.env.cells.lookup x=some c->X.env.cells.lookup y=some c->x=y
 has:∀x,(X.env.kindOf x=some .cell\/X.env.kindOf x=some .free)->∃c,X.env.cells.lookup x=some c
 cab:∀x c,X.fn x=true->X.env.cells.lookup x=some c->X.s₀.heap.objs.size<=c
 hd:X.calm=true->X.A.handled=none
 frames:X.A.frames=some X.stack
 stk:X.stack=X.xD\/(X.stack=X.env::X.xD/\X.env.frame=some X.env.locals)
 exf:∀b∈X.ex,b≠X.env.locals/\∀x c,X.env.cells.lookup x=some c->c≠b
 bs:∀b o,X.base.get? b=some o->X.s₀.heap.get? b=some o/\X.H₀ b=none
 bsz:X.base.objs.size<=X.s₀.heap.objs.size
 Hz:∀b o,X.base.get? b=some o->b∉X.ex
 PL:∀b∈X.ex,b∉X.fs
 rP:X.s₀.heap.FunFrames X.base X.xD
 frf:∀b∈X.fs,X.H₀ b=none
 tabs:∀P,TabAt X.K X.mg P->X.H₀ P=some (.tbl jc)
structure x9 (X:Cx) (x2:A7) (σ:List (Option V)) (H:Hp) (s:cq):Prop where
 ok:X.Ok
 os:s.os=X.s₀.os
 bare:sh s.gens
 base:Un X.fs X.ex X.H₀ H X.s₀.heap s.heap
 loc:∃m,s.heap.Ns X.env.locals m/\∀(i:Nat) (x:Str) (v:V),X.N[i]?=some x->σ[i]?=some (some v)->Vis X.env.scope x->∃u,xh v u/\Look X.env s.heap m x u
 cell:∀x c,X.env.cells.lookup x=some c->∃v,s.heap.IsCell c v
 free:H X.env.locals=none
 jP:∀x c,X.env.cells.lookup x=some c->H c=none
 pin:∀p∈X.pn++x2,s.heap.get? p.1=some p.2/\H p.1=none/\p.1≠X.env.locals/\p.1∉X.fs/\∀v,p.2.data ≠ .cell v
 xw:HOk X.prog X.w H s.heap
 len:σ.length=X.N.length
variable {X:Cx}{x2:A7}{s s':cq}{g':Array GenState}{t' i:Nat}{ch:C2}{N:B6}{x:Str}{M:Model}{A:g9}{E:B2}{v:V}{u:a0}
section
variable   {σ:List (Option V)}{H':Hp}  {h':Heap}
theorem Cx.Ok.afk(ok:X.Ok){o:Obj}(e:X.base.get? b=some o):b∉X.fs:=λY=>by
 have:=(ok.rP.mem Y).1;rw[e] at this;cases this
theorem x9.bs(I:x9 X x2 σ H s):∀b o,X.base.get? b=some o->s.heap.get? b=some o/\H b=none:=λb o e=>
 ⟨I.base.keep b o (I.ok.bs b o e).1 (I.ok.bs b o e).2 (I.ok.afk e) (I.ok.Hz b o e),I.base.free b o (I.ok.bs b o e).1 (I.ok.bs b o e).2 (I.ok.Hz b o e)⟩
theorem x9.bk(I:x9 X x2 σ H s):∀b o,X.base.get? b=some o->s.heap.get? b=some o:=λb o e=>(I.bs b o e).1
theorem x9.mod(I:x9 X x2 σ H s):Mod X.K X.mg X.base:=I.ok.mod
theorem x9.kIn(I:x9 X x2 σ H s):X.K.In s.heap:=I.ok.mod.kin.keeps I.bk
theorem x9.nolimit(I:x9 X x2 σ H s):s.heap.NoLimit:=I.ok.mod.nolimit.keeps I.bk
theorem x9.lt(I:x9 X x2 σ H s):X.env.locals<s.heap.objs.size:=by obtain ⟨_,Y,_⟩:=I.loc;exact Y.lt
theorem x9.sz(I:x9 X x2 σ H s):X.s₀.heap.objs.size<=s.heap.objs.size:=cS I.ok.above (kA I.lt)
theorem x9.aft(I:x9 X x2 σ H s)(h:s.heap.objs.size<=a):a∉X.fs:=λZ=>by
 obtain ⟨_,o,Y,_⟩:=I.ok.rP.mem Z;exact absurd (dS (cm Y) (cS I.sz h)) (ft _)
theorem x9.cne(I:x9 X x2 σ H s):∀x c,X.env.cells.lookup x=some c->c≠X.env.locals:=λx c e z=>by
 obtain ⟨v,o,i,hd⟩:=I.cell x c e;obtain ⟨m,⟨l,j,p,Z,Y,_⟩,_⟩:=I.loc;rw[z,Z] at i;cases i;rw[Y] at hd;cases hd
theorem x9.rP(I:x9 X x2 σ H s):s.heap.FunFrames X.base X.xD:=by
 have all:∀(l:C6),(∀b∈frs l,b∈X.fs)->X.s₀.heap.FunFrames X.base l->s.heap.FunFrames X.base l:=by
  intro l
  induction l with
  | nil=>intro _ _;trivial
  | cons env r q=>
   rintro j ⟨B,⟨L,o,Z,p,v,hd⟩,u⟩;have Y:=j L (by rw[frs,kx,Z];exact bg);obtain ⟨C,e⟩:=I.base.slot L o v (I.ok.frf L Y) Y λz=>I.ok.PL L z Y;exact ⟨B,⟨L,_,Z,p,e,hd⟩,q (λb i=>j b (by rw[frs,kx,Z];exact bq _ i)) u⟩
 exact all X.xD (λ_ i=>i) I.ok.rP
theorem x9.stack(I:x9 X x2 σ H s):s.heap.FunFrames X.base X.stack:=by
 rcases I.ok.stk with e | ⟨e,Y⟩
 . rw[e];exact I.rP
 . rw[e];obtain ⟨m,Z,_⟩:=I.loc;refine .cons (by rw[I.ok.kind];decide) Y Z ?_ I.rP;exact qf (cS I.ok.bsz I.ok.above)
theorem x9.Dd(I:x9 X x2 σ H s):∀b∈frs X.stack,b∈X.env.locals::X.fs:=λb Y=>by
 rcases I.ok.stk with e | ⟨e,Z⟩
 . rw[e] at Y;exact bq _ Y
 . rw[e] at Y;unfold frs at Y;rwa [kx,Z] at Y
theorem x9.MJ(I:x9 X x2 σ H s):∀b∈frs X.stack,H b=none:=λb hb=>by
 rcases bE.mp (I.Dd b hb) with e | hb
 . rw[e];exact I.free
 . obtain ⟨_,o,Y,_⟩:=I.ok.rP.mem hb;exact I.base.free b o Y (I.ok.frf b hb) λz=>I.ok.PL b z hb
theorem x9.step{d':Drawn}(I:x9 X x2 σ H s)
 (B:∀b∈ch,(b∈X.ex\/X.s₀.heap.objs.size<=b)/\b≠X.env.locals/\(∀x c,X.env.cells.lookup x=some c->c≠b)/\∀p∈X.pn++x2,p.1≠b)
 (keep:∀b o,b≠X.env.locals->b∉X.fs->b∉ch->s.heap.get? b=some o->H b=none->h'.get? b=some o)
 (slot:∀b o,b≠X.env.locals->b∈X.fs->b∉ch->s.heap.get? b=some o->H b=none->∃P,h'.get? b=some { o with slots:=P }) (free:∀b o,b∉ch->s.heap.get? b=some o->H b=none->H' b=none)
 (there:∀b o,b∉ch->s.heap.get? b=some o->∃o',h'.get? b=some o')
 (tups:∀b xs,H b=some (.tup xs)->H' b=some (.tup xs)) (mz:∀b o u,H b=some (.frz o u)->H' b=some (.frz o u)) (kE:∀b q,H b=some (.tbl q)->H' b=some (.tbl q))
 (ns:∀m,s.heap.Ns X.env.locals m->h'.Ns X.env.locals m) (xw:HOk X.prog X.w H' h') (hg:sh g') :
 x9 X x2 σ H' { s with heap:=h',gens:=g',drawn:=d',toks:=t' }:=by
 have M:∀b o,X.s₀.heap.get? b=some o->b≠X.env.locals:=λb o e=>ef (dS (cm e) I.ok.above);have C:∀b o,X.s₀.heap.get? b=some o->b∉X.ex->b∉ch:=λb o e Y E=>by
  rcases (B b E).1 with z | z
  . exact Y z
  . exact absurd (dS (cm e) z) (ft _)
 have Z:∀x c,X.env.cells.lookup x=some c->∀v,s.heap.IsCell c v->h'.IsCell c v:=λx c e v L=>by
  obtain ⟨o,J,hd⟩:=L;have j:c∉ch:=λz=>(B c z).2.2.1 x c e rfl
  by_cases hc:c∈X.fs
  . obtain ⟨P,q⟩:=slot c o (I.cne x c e) hc j J (I.jP x c e);exact ⟨_,q,hd⟩
  . exact ⟨o,keep c o (I.cne x c e) hc j J (I.jP x c e),hd⟩
 refine ⟨I.ok,I.os,hg,⟨λb o e n E Y=>?_,λb o e n E Y=>?_,λb o e n Y=>?_,λb o e Y=>?_,λb xs e=>tups b xs (I.base.tups b xs e),λb o xs e=>mz b o xs (I.base.mz b o xs e),λb S e=>kE b S (I.base.kE b S e)⟩,?_,λx c e=>?_,?_,λx c e=>?_,λp R=>?_,xw,I.len⟩
 . exact keep b o (M b o e) E (C b o e Y) (I.base.keep b o e n E Y) (I.base.free b o e n Y)
 . obtain ⟨P,D⟩:=I.base.slot b o e n E Y;obtain ⟨O,Q⟩:=slot b _ (M b o e) E (C b o e Y) D (I.base.free b o e n Y);exact ⟨O,Q⟩
 . obtain ⟨o',D⟩:=I.base.there b o e Y;exact free b o' (C b o e Y) D (I.base.free b o e n Y)
 . obtain ⟨o',D⟩:=I.base.there b o e Y;exact there b o' (C b o e Y) D
 . obtain ⟨m,hn,hl⟩:=I.loc;refine ⟨m,ns m hn,λi x v D Q e3=>?_⟩;obtain ⟨u,r,l⟩:=hl i x v D Q e3;refine ⟨u,r,?_⟩;rcases l with l | ⟨k,c,e,z⟩
   . exact .inl l
   . exact .inr ⟨k,c,e,Z x c e _ z⟩
 . obtain ⟨v,z⟩:=I.cell x c e;exact ⟨v,Z x c e v z⟩
 . obtain ⟨m,⟨o,_,_,J,_⟩,_⟩:=I.loc;exact free _ o (λz=>(B _ z).2.1 rfl) J I.free
 . obtain ⟨v,o,J,hd⟩:=I.cell x c e;exact free c o (λz=>(B c z).2.2.1 x c e rfl) J (I.jP x c e)
 . obtain ⟨e,n,ne,U,d⟩:=I.pin p R;have j:p.1∉ch:=λz=>(B p.1 z).2.2.2 p R rfl;exact ⟨keep p.1 p.2 ne U j e n,free p.1 p.2 j e n,ne,U,d⟩
theorem x9.un(I:x9 X x2 σ H s)(u:Un X.fs [] H H' s.heap h')(xw:HOk X.prog X.w H' h'):x9 X x2 σ H' { s with heap:=h',toks:=t' }:=by
 obtain ⟨m,⟨o,D,C,l,r⟩,_⟩:=id I.loc;obtain ⟨E,p⟩:=u.any l I.free (by simp);exact I.step (ch:=[]) (λ_ z=>nomatch z) (λb o _ Z _ e n=>u.keep b o e n Z (by simp)) (λb o _ Z _ e n=>u.slot b o e n Z (by simp)) (λb o _ e n=>u.free b o e n (by simp)) (λb o _ e=>u.there b o e (by simp)) u.tups u.mz u.kE (λJ v=>by
  obtain ⟨B,i,j,Y,q⟩:=v;rw[l] at Y;cases Y;exact ⟨_,i,j,p,q⟩) xw I.bare
theorem x9.call{E:Drawn}(I:x9 X x2 σ H s)(u:Un (frs X.stack) ch H H' s.heap h')(xw:HOk X.prog X.w H' h')(B:sh g')
 (i:∀b∈ch,(b∈X.ex\/X.s₀.heap.objs.size<=b)/\b≠X.env.locals/\(∀x c,X.env.cells.lookup x=some c->c≠b)/\∀p∈X.pn++x2,p.1≠b) :
 x9 X x2 σ H' { s with heap:=h',gens:=g',drawn:=E,toks:=t' }:=by
 obtain ⟨m,⟨o,O,M,v,r⟩,_⟩:=id I.loc;obtain ⟨P,j⟩:=u.any v I.free λz=>(i _ z).2.1 rfl;exact I.step i (λb o j D Y e n=>u.keep b o e n (λz=>(bE.mp (I.Dd b z)).elim j D) Y) (λb o _ _ Y e n=>u.any e n Y) (λb o Y e n=>u.free b o e n Y) (λb o Y e=>u.there b o e Y) u.tups u.mz u.kE (λQ J=>by
  obtain ⟨L,l,q,Z,C⟩:=J;rw[v] at Z;cases Z;exact ⟨_,l,q,j,C⟩) xw B
theorem x9.turned{it:Addr}(I:x9 X x2 σ H s)(k:∀b o,b≠it->s.heap.get? b=some o->h'.get? b=some o)(B:H it=none)(i:it≠X.env.locals)
 (L:it∈X.ex\/X.s₀.heap.objs.size<=it) (J:∀x c,X.env.cells.lookup x=some c->c≠it) (j:∀p∈X.pn++x2,p.1≠it):x9 X x2 σ H { s with heap:=h',toks:=t' }:=by
 have Z:∀b u,H b=some u->b≠it:=λb u e z=>by rw[z,B] at e;cases e
 refine I.step (ch:=[it]) (λb l=>?_) (λb o _ _ Y e _=>k b o (λz=>Y (by simp[z])) e) (λb o _ _ Y e _=>⟨o.slots,k b o (λz=>Y (by simp[z])) e⟩) (λ_ _ _ _ n=>n)
  (λb o Y e=>⟨o,k b o (λz=>Y (by simp[z])) e⟩) (λ_ _ e=>e) (λ_ _ _ e=>e) (λ_ _ e=>e) (λm M=>?_) (λb u e=>?_) I.bare
 . have e:=by simpa using l
   subst e;exact ⟨L,i,J,j⟩
 . obtain ⟨o,E,C,D,r⟩:=M;exact ⟨o,E,C,k _ o (lx i) D,r⟩
 . refine (I.xw b u e).stay (λc v Y q=>k c v ?_ q) (λ_ q=>q) λ_ _ q=>q;rcases Y with z | z
   . rw[z];exact Z b u e
   . exact Z c _ z
theorem x9.tok(I:x9 X x2 σ H s)(t:Nat):x9 X x2 σ H { s with toks:=t }:=I.un Un.refl I.xw
theorem x9.kept(I:x9 X x2 σ H s)(k:∀b u,s.heap.get? b=some u->h'.get? b=some u):x9 X x2 σ H { s with heap:=h',toks:=t' }:=I.un (Un.kept k) (I.xw.kept k)
theorem x9.laid(I:x9 X x2 σ H s)(k:∀b u,s.heap.get? b=some u->h'.get? b=some u)(Y:s.heap.objs.size<=a)(new:fV X.prog X.w (xk H a o) h' a o) :
 x9 X x2 σ (xk H a o) { s with heap:=h',toks:=t' }:=I.un (Un.laid k Y (I.xw.fresh Y)) (I.xw.laid k Y new)
theorem x9.write{e:Addr}(I:x9 X x2 σ H s)(i:Mut (H a))(Z:e=a\/H e=some (.own a))(k:∀b u,b≠e->s.heap.get? b=some u->h'.get? b=some u)(Y:∃u,h'.get? e=some u)
 (new:fV X.prog X.w (xk H a o) h' a o):x9 X x2 σ (xk H a o) { s with heap:=h',toks:=t' }:=I.un (Un.write i Z k Y) (I.xw.write i Z k Y new)
theorem x9.N7{Y:A7}(I:x9 X x2 σ H s)(h:∀p∈Y,s.heap.get? p.1=some p.2/\H p.1=none/\p.1≠X.env.locals/\p.1∉X.fs/\∀v,p.2.data ≠ .cell v):x9 X Y σ H s:=
 ⟨I.ok,I.os,I.bare,I.base,I.loc,I.cell,I.free,I.jP,λp Z=>(cf.mp Z).elim (λz=>I.pin p (dy _ z)) (h p),I.xw,I.len⟩
theorem JT(e:N.Nodup){j:Nat}(a:N[i]?=some x)(b:N[j]?=some x):i=j:=by
 obtain ⟨o,Y⟩:=aI.mp a;obtain ⟨l,Z⟩:=aI.mp b;exact (List.getElem_inj e).mp (Y.trans Z.symm)
theorem Ge{Q:Unit->cq->Prop}(I:x9 X x2 σ H s)(hN:X.N.Nodup)(hi:X.N[i]?=some x)(B:Loc X.env.scope x)(r:xh v u)
 (h:∀s',x9 X x2 (σ.set i (some v)) H s'->(∃a,m3 a s.heap s'.heap/\(a=X.env.locals\/X.env.cells.lookup x=some a))->Q () s') (hf:X.fn x=true\/X.env.scope.names.lookup x=some .local:=by walk_at "hf"):de M A (storeName X.env x u) Q E s:=by
 obtain ⟨m,hn,hl⟩:=id I.loc;have S:(X.env.scope.kind == .class||(X.env.scope.kind == .module&&X.env.locals != X.env.globals))=false:=by rw[I.ok.kind];rfl
 have J:i < σ.length:=by rw[I.len];exact (aI.mp hi).1
 have cne:=I.cne;have l:∀{a:Addr}{h':Heap},(∃o,s.heap.get? a=some o/\H a=none)->m3 a s.heap h'->HOk X.prog X.w H h':=λ{a h'} ha Y b ob e=>by
  obtain ⟨_,_,C⟩:=ha;refine (I.xw b ob e).stay (λc w' hc q=>(Y.2 c ?_).trans q) (λ_ q=>q) λ_ _ q=>q;rintro rfl;rcases hc with rfl | hc
  . rw[C] at e;cases e
  . rw[C] at hc;cases hc
 rcases B with hk | hk
 . refine wpAny_storeName_local hk hn (λh' hn' Y=>?_) S;obtain ⟨oL,_,_,hoL,_⟩:=id hn;refine h _ ⟨I.ok,I.os,I.bare,⟨λb o e n O B=>?_,λb o e n O B=>?_,I.base.free,λb o e B=>?_,I.base.tups,I.base.mz,I.base.kE⟩,⟨_,hn',λj y v' Z D e3=>?_⟩,λy c e=>?_,I.free,I.jP,λp hp=>?_,l ⟨oL,hoL,I.free⟩ Y,by simpa using I.len⟩ ⟨_,Y,.inl rfl⟩
   . exact (Y.2 b (ef (dS (cm e) I.ok.above))).trans (I.base.keep b o e n O B)
   . obtain ⟨sl,Z⟩:=I.base.slot b o e n O B;exact ⟨sl,(Y.2 b (ef (dS (cm e) I.ok.above))).trans Z⟩
   . obtain ⟨o',Z⟩:=I.base.there b o e B;exact ⟨o',(Y.2 b (ef (dS (cm e) I.ok.above))).trans Z⟩
   . by_cases P:j=i
     . subst P;rw[hi] at Z;cases Z;rw[kB J] at D;cases D;exact ⟨u,r,.inl ⟨hk,by simp⟩⟩
     . rw[mx (lx P)] at D;obtain ⟨u',r',q⟩:=hl j y v' Z D e3;refine ⟨u',r',?_⟩;rcases q with ⟨k,e⟩ | ⟨k,c,e,z⟩
       . refine .inl ⟨k,?_⟩;have:y≠x:=λe=>P (JT hN Z (e ▸ hi));simp[this,e]
       . exact .inr ⟨k,c,e,z.sameBut Y (cne y c e)⟩
   . obtain ⟨w',z⟩:=I.cell y c e;exact ⟨w',z.sameBut Y (cne y c e)⟩
   . obtain ⟨e,n,ne,nf,d⟩:=I.pin p hp;exact ⟨(Y.2 p.1 ne).trans e,n,ne,nf,d⟩
 . have L:X.fn x=true:=by
    rcases hf with z | z
    . exact z
    . rw[z] at hk;cases hk
   obtain ⟨c,hc⟩:=I.ok.has x (.inl hk);obtain ⟨w',z⟩:=I.cell x c hc;refine wpAny_storeName_cell I.ok.kind hk hc z (λh' hc' Y=>?_);obtain ⟨oc,U,R⟩:=id z;refine h { s with heap:=h' } ⟨I.ok,I.os,I.bare,⟨λb o e n O B=>?_,λb o e n O B=>?_,I.base.free,λb o e B=>?_,I.base.tups,I.base.mz,I.base.kE⟩,⟨m,hn.sameBut Y (lx (cne x c hc)),λj y v' Z D e3=>?_⟩,λy c' e=>?_,I.free,I.jP,λp hp=>?_,l ⟨oc,U,I.jP x c hc⟩ Y,by simpa using I.len⟩ ⟨c,Y,.inr hc⟩
   . exact (Y.2 b (ef (dS (cm e) (I.ok.cab x c L hc)))).trans (I.base.keep b o e n O B)
   . obtain ⟨sl,Z⟩:=I.base.slot b o e n O B;exact ⟨sl,(Y.2 b (ef (dS (cm e) (I.ok.cab x c L hc)))).trans Z⟩
   . obtain ⟨o',Z⟩:=I.base.there b o e B;exact ⟨o',(Y.2 b (ef (dS (cm e) (I.ok.cab x c L hc)))).trans Z⟩
   . by_cases P:j=i
     . subst P;rw[hi] at Z;cases Z;rw[kB J] at D;cases D;exact ⟨u,r,.inr ⟨.inl hk,c,hc,hc'⟩⟩
     . rw[mx (lx P)] at D;obtain ⟨u',r',q⟩:=hl j y v' Z D e3;refine ⟨u',r',?_⟩;rcases q with q | ⟨k,c',e,z'⟩
       . exact .inl q
       . refine .inr ⟨k,c',e,z'.sameBut Y ?_⟩;rintro rfl;exact P (JT hN Z (I.ok.inj _ _ _ e hc ▸ hi))
   . by_cases hcc:c'=c
     . subst hcc;exact ⟨_,hc'⟩
     . obtain ⟨w2,z2⟩:=I.cell y c' e;exact ⟨w2,z2.sameBut Y hcc⟩
   . obtain ⟨e,n,ne,nf,d⟩:=I.pin p hp;refine ⟨(Y.2 p.1 ?_).trans e,n,ne,nf,d⟩;intro q;rw[q,U] at e;have q':oc=p.2:=Option.some.inj e;exact d w' (by rw[<- q'];exact R)
theorem Jw{Q:Unit->cq->Prop}(I:x9 X x2 σ H s)(Z:X.N.Nodup)(j:X.N[i]?=some x)(Y:Loc X.env.scope x)(r:xh v u)
 (h:∀s',x9 X x2 (σ.set i (some v)) H s'->Q () s') (e:X.fn x=true\/X.env.scope.names.lookup x=some .local:=by walk_at "hf"):de M A (storeName X.env x u) Q E s:=
 Ge I Z j Y r (λs' l _=>h s' l) e
theorem x9.call'(I:x9 X x2 σ H s)(Z:s'.os=s.os)(u:Un (frs X.stack) ch H H' s.heap s'.heap)(xw:HOk X.prog X.w H' s'.heap)(i:sh s'.gens)
 (Y:∀b∈ch,(b∈X.ex\/X.s₀.heap.objs.size<=b)/\b≠X.env.locals/\(∀x c,X.env.cells.lookup x=some c->c≠b)/\∀p∈X.pn++x2,p.1≠b):x9 X x2 σ H' s':=by
 obtain ⟨r,l,j,o,q⟩:=s';have e:=Z;subst e;exact I.call u xw i Y
end
abbrev XK:=a0->C4->Hp->Prop
abbrev St:=List (Option V)
abbrev VK:=V->Hp->Prop
abbrev TE:=St->Hp->VK->Prop
abbrev TT:=St->Hp->(Bool->Hp->Prop)->Prop
abbrev TA:=St->Hp->(C0->Hp->Prop)->Prop
structure Ends where
 nx:St->Hp->Prop
 rt:VK
 bk:St->Hp->Prop:=λ_ _=>False
 ct:St->Hp->Prop:=λ_ _=>False
abbrev TS:=Ends->St->Hp->Prop
def EP(X:Cx)(x2:A7)(σ:St)(Q:VK)(u:a0)(s':cq):Prop:=∃v H',x9 X x2 σ H' s'/\xh v u/\Q v H'
def TP(X:Cx)(x2:A7)(σ:St)(Q:Bool->Hp->Prop)(b:Bool)(s':cq):Prop:=∃H',x9 X x2 σ H' s'/\Q b H'
def AP(X:Cx)(x2:A7)(σ:St)(Q:C0->Hp->Prop)(us:B8)(s':cq):Prop:=∃vs H',x9 X x2 σ H' s'/\xi vs us/\Q vs H'
def SP(X:Cx)(x2:A7)(D:Ends)(f:Flow)(s':cq):Prop:=
 match f with
 | .next=>∃σ' H',x9 X x2 σ' H' s'/\D.nx σ' H'
 | .brk=>∃σ' H',x9 X x2 σ' H' s'/\D.bk σ' H'
 | .cont=>∃σ' H',x9 X x2 σ' H' s'/\D.ct σ' H'
 | .ret u=>∃v σ' H',x9 X x2 σ' H' s'/\xh v u/\D.rt v H'
def PE(X:Cx)(e:Expr)(t:TE):Prop:=
 ∀(x2:A7) (s:cq) (σ:St) (H:Hp) (Q:VK),x9 X x2 σ H s->t σ H Q->de (dt X.prog X.w) X.A (eval e X.env) (EP X x2 σ Q) X.xe s
def PT(X:Cx)(e:Expr)(t:TT):Prop:=
 ∀(x2:A7) (s:cq) (σ:St) (H:Hp) (Q:Bool->Hp->Prop),x9 X x2 σ H s->t σ H Q->de (dt X.prog X.w) X.A (wq e X.env (eval e X.env)) (TP X x2 σ Q) X.xe s
def PW(X:Cx)(e:Expr)(t:TT):Prop:=
 ∀(whole:Sem a0) (x2:A7) (s:cq) (σ:St) (H:Hp) (Q:Bool->Hp->Prop),x9 X x2 σ H s->t σ H Q->de (dt X.prog X.w) X.A (wq e X.env whole) (TP X x2 σ Q) X.xe s
variable {e:Expr}
theorem PW.pt{t:TT}(h:PW X e t):PT X e t:=h _
def PA(X:Cx)(es:C1)(t:TA):Prop:=
 ∀(pos:Pos) (x2:A7) (s:cq) (σ:St) (H:Hp) (Q:C0->Hp->Prop),x9 X x2 σ H s->t σ H Q->de (dt X.prog X.w) X.A (spliced (lS pos (dc es X.env))) (AP X x2 σ Q) X.xe s
def PS(X:Cx)(st:Stmt)(t:TS):Prop:=
 ∀(x2:A7) (s:cq) (σ:St) (H:Hp) (D:Ends),x9 X x2 σ H s->t D σ H->de (dt X.prog X.w) X.A (exec st X.env) (SP X x2 D) X.xe s
def PSs(X:Cx)(st:C5)(t:TS):Prop:=
 ∀(x2:A7) (s:cq) (σ:St) (H:Hp) (D:Ends),x9 X x2 σ H s->t D σ H->de (dt X.prog X.w) X.A (execs st X.env) (SP X x2 D) X.xe s
theorem thn{α:Type}{t:Sem α}{Q Y:α->cq->Prop}(h:de M A t Q E s)(Z:∀a s,Q a s->Y a s):de M A t Y E s:=fy h Z λ_ _ x=>x
variable {Q:B2}{pos:Pos}{σ:St}{c:Expr}
section
def afp(i:Nat):TE:=λσ H Q=>∃v,σ[i]?=some (some v)/\Q v H
def tC(v:V):TE:=λ_ H Q=>Q v H
theorem dJ(B:X.N[i]?=some x)(p:Vis X.env.scope x)(hd:nD x:=by decide)(j:(x == ("__classdict__" : Str))=false:=by decide):PE X (.Name x pos) (afp i):=by
 rintro Z s D H Q I ⟨v,e,h⟩;obtain ⟨m,z,q⟩:=I.loc;obtain ⟨u,r,l⟩:=q i x v B e p;have fin:EP X Z D Q u s:=⟨v,H,I,r,h⟩;rcases l with ⟨hk,C⟩ | ⟨hk,c,o,Y⟩
 . exact ub (wpAny_loadName_local I.ok.kind hk z C fin) hd
 . rcases hk with hk | hk
   . exact ub (wpAny_loadName_cell I.ok.kind hk o Y fin) hd
   . exact ub (wpAny_loadName_free I.ok.kind hk o Y fin j) hd
theorem HR{i j pos}:PE X (.Constant (.int i) j pos) (tC (.int i)):=λ_ _ _ H _ I h=>wpAny_Constant_int ⟨.int i,H,I.tok _,⟨_,rfl⟩,h⟩
theorem aer{b j pos}:PE X (.Constant (.bool b) j pos) (tC (.bl b)):=λ_ _ _ H _ I h=>Constant_bool ⟨.bl b,H,I,rfl,h⟩
theorem acb{j pos}:PE X (.Constant .none j pos) (tC .non):=λ_ _ _ H _ I h=>Constant_none ⟨.non,H,I,rfl,h⟩
theorem R8{x j pos}:PE X (.Constant (.str x) j pos) (tC (.str x)):=λ_ _ _ H _ I h=>Calls.Constant_str ⟨.str x,H,I.tok _,⟨_,rfl⟩,h⟩
def Gl(X:Cx)(x:Str):Prop:=X.env.kindOf x=some .globalImplicit
theorem NK(I:x9 X x2 σ H s)(Z:Gl X x)(Y:X.mg x=some u)(h:Q u s)
 (hd:nD x:=by decide):de (dt X.prog X.w) X.A (eval (.Name x pos) X.env) Q E s:=
 Calls.Name_function_global I.ok.kind Z (Calls.loadGlobal_global (by rw[I.ok.glob];exact I.mod.glob.keeps I.bk) Y h) hd
theorem m7(I:x9 X x2 σ H s)(i:Gl X x)(Z:X.mg x=none)(Y:eh x=some u)(h:Q u s)
 (l:x ≠ "__name__" := by decide) (hd:nD x:=by decide):de (dt X.prog X.w) X.A (eval (.Name x pos) X.env) Q E s:=by
 obtain ⟨o,j,e⟩:=I.mod.blt;exact Calls.Name_function_global I.ok.kind i (Calls.loadGlobal_builtin (by rw[I.ok.glob];exact I.mod.glob.keeps I.bk) Z (by rw[I.ok.blt];exact j.keeps I.bk) ((e x l).trans Y) h) hd
theorem Nu(Z:Gl X x)(Y:X.mg x=some u)(r:xh v u)(hd:nD x:=by decide):PE X (.Name x pos) (tC v):=
 λ_ _ _ H _ I h=>NK I Z Y ⟨v,H,I,r,h⟩ hd
theorem aaC(e:Gl X x)(Z:X.mg x=none)(Y:eh x=some u)(r:xh v u)(i:x ≠ "__name__" := by decide)(hd:nD x:=by decide):PE X (.Name x pos) (tC v):=
 λ_ _ _ H _ I h=>m7 I e Z Y ⟨v,H,I,r,h⟩ i hd
variable {a b:Expr}{ta tb:TE}
def tB(t:TE):TT:=λσ H Q=>t σ H λx H1=>∃c,x= .bl c/\Q c H1
theorem abU{t:TE}(h:PE X e t)(o:∀whole,wq e X.env whole=(do let v <- whole;standAt e.pos;holding [v] (truthy v)):=by intro _;rfl):PT X e (tB t):=by
 intro Y s r H Q I u;refine isTrue_plain (thn (h Y s r H _ I u) λv z Z=>?_) (o _);obtain ⟨x,j,i,l,p⟩:=Z;obtain ⟨d,rfl,q⟩:=p;cases l;exact hJ ⟨j,i,q⟩
variable {tA tB':TT}{rest:C1}
def afS(t u:TT):TT:=λσ H Q=>t σ H λc H1=>if c=true then u σ H1 Q else Q false H1
def tOr(t u:TT):TT:=λσ H Q=>t σ H λc H1=>if c=true then Q true H1 else u σ H1 Q
def afx(t:TT):TT:=λσ H Q=>t σ H λc H1=>Q (!c) H1
theorem Y0(Z:PT X a tA):PW X (.BoolOp .And [a] pos) tA:=by
 intro l Y s i H Q I h;refine isTrue_and (thn (Z Y s i H Q I h) λc j e=>?_)
 cases c with
 | true=>exact isTrue_and_nil e
 | false=>exact e
theorem adt(Z:PT X a tA):PW X (.BoolOp .Or [a] pos) tA:=by
 intro l Y s i H Q I h;refine isTrue_or (thn (Z Y s i H Q I h) λc j e=>?_)
 cases c with
 | false=>exact isTrue_or_nil e
 | true=>exact e
theorem acA(q:PT X a tA)(r:PW X (.BoolOp .And (b::rest) pos) tB'):PW X (.BoolOp .And (a::b::rest) pos) (afS tA tB'):=by
 intro p Y s j H Q I h;refine isTrue_and (thn (q Y s j H _ I h) λc o Z=>?_);obtain ⟨l,e,i⟩:=Z
 cases c with
 | true=>exact r p Y o j l Q e i
 | false=>exact ⟨l,e,i⟩
theorem adX(q:PT X a tA)(r:PW X (.BoolOp .Or (b::rest) pos) tB'):PW X (.BoolOp .Or (a::b::rest) pos) (tOr tA tB'):=by
 intro p Y s j H Q I h;refine isTrue_or (thn (q Y s j H _ I h) λc o Z=>?_);obtain ⟨l,e,i⟩:=Z
 cases c with
 | true=>exact ⟨l,e,i⟩
 | false=>exact r p Y o j l Q e i
theorem adf(Z:PT X a tA):PT X (.UnaryOp .Not a pos) (afx tA):=by
 intro Y s e H Q I h;exact isTrue_not (Z Y s e H (λc i=>Q (!c) i) I h)
def aeo(ta tb:TE):TE:=λσ H Q=>ta σ H λx H1=>∃c,x= .bl c/\if c=true then tb σ H1 Q else Q (.bl false) H1
def aeL(ta:TE):TE:=λσ H Q=>ta σ H λx H1=>∃c,x= .bl c/\Q (.bl (!c)) H1
theorem adN{op}{t:TE}(h:PE X a t):PE X (.BoolOp op [a] pos) t:=λY s Z H Q I e=>BoolOp_one (h Y s Z H Q I e)
theorem acR(r:PE X a ta)(p:PE X (.BoolOp .And (b::rest) pos) tb):PE X (.BoolOp .And (a::b::rest) pos) (aeo ta tb):=by
 intro Y s l H Q I h;refine BoolOp_and (thn (r Y s l H _ I h) λv o Z=>?_);obtain ⟨x,j,i,q,e⟩:=Z;obtain ⟨c,rfl,e⟩:=e;cases q;refine hJ ?_
 cases c with
 | true=>exact p Y o l j Q i e
 | false=>exact ⟨.bl false,j,i,rfl,e⟩
theorem acN(o:PE X a ta):PE X (.UnaryOp .Not a pos) (aeL ta):=by
 intro Z s p H Q I h;refine UnaryOp_ (thn (o Z s p H _ I h) λv q Y=>?_);obtain ⟨x,j,i,l,e⟩:=Y;obtain ⟨c,rfl,e⟩:=e;cases l;exact not_of (hJ ⟨.bl (!c),j,i,rfl,e⟩)
def tIf(t:TT)(ta tb:TE):TE:=λσ H Q=>t σ H λc H1=>if c=true then ta σ H1 Q else tb σ H1 Q
theorem XR(p:PT X c tA)(q:PE X a ta)(r:PE X b tb):PE X (.IfExp c a b pos) (tIf tA ta tb):=by
 intro Y s e H Q I h;refine wpAny_IfExp (thn (p Y s e H _ I h) λd i Z=>?_);obtain ⟨o,j,l⟩:=Z
 cases d with
 | true=>exact q Y i e o Q j l
 | false=>exact r Y i e o Q j l
end
def SqL(K:av)(H:Hp)(a:Addr)(xs:C0):Prop:=
 Rd H a (.lst xs) \/
  ∃(o:Obj) (x5:Array a0) (n:Nat),K.lookup a=some o/\o.cls= .type "list" /\ o.dict=none/\o.data= .seq x5 n/\x5.size<=ba/\xi xs x5.toList
def SqT(K:av)(H:Hp)(a:Addr)(xs:C0):Prop:=
 Rd H a (.tup xs) \/
  ∃(o:Obj) (x5:Array a0) (n:Nat),K.lookup a=some o/\o.cls= .type "tuple" /\ o.data= .seq x5 n/\x5.size<=ba/\xi xs x5.toList
noncomputable def afa:a0->Option V
 | .none=>some .non
 | .bool b=>some (.bl b)
 | .int i _=>some (.int i)
 | .str x _=>some (.str x)
 | .bytes b _=>some (.byt b)
 | .float b _=>some (.flt b)
 | .ref a=>some (.ref a)
 | .type n=>some (.ty n)
 | _=>none
theorem xh.abs{x:V}(r:xh x u):afa u=some x:=by
 cases x with
 | non=>cases r;rfl
 | bl _=>cases r;rfl
 | int _=>obtain ⟨t,rfl⟩:=r;rfl
 | str _=>obtain ⟨t,rfl⟩:=r;rfl
 | byt _=>obtain ⟨t,rfl⟩:=r;rfl
 | flt _=>obtain ⟨t,rfl⟩:=r;rfl
 | ref _=>cases r;rfl
 | ty _=>cases r;rfl
theorem xh.inj{y:V}(r:xh v u)(q:xh y u):v=y:=Option.some.inj (r.abs.symm.trans q.abs)
theorem xi.inj:∀{xs ys:C0}{us:B8},xi xs us->xi ys us->xs=ys
 | _,_,_,.nil,.nil=>rfl
 | _,_,_,.cons r t,.cons Z Y=>by rw[r.inj Z,xi.inj t Y]
variable {K:av}
section
variable       {ys:C0}
theorem SqL.of(h:H a=some (.lst xs)):SqL K H a xs:=.inl (.inl h)
theorem SqT.of(h:H a=some (.tup xs)):SqT K H a xs:=.inl (.inl h)
theorem x9.list(I:x9 X x2 σ H s)(h:SqL X.K H a xs):∃x5:B8,xi xs x5/\PlainL s.heap a x5.toArray/\xs.length<=ba:=by
 rcases h with h | ⟨o,x5,n,Z,i,hd,Y,j,r⟩
 . obtain ⟨z,x5,n,r,e⟩:=h.ok I.xw;exact ⟨x5,r,⟨_,n,e,rfl,rfl,rfl⟩,z⟩
 . refine ⟨x5.toList,r,⟨o,n,I.kIn a o Z,i,hd,by simpa using Y⟩,?_⟩;have e:=r.length;simp only[ly] at e;lia
theorem x9.tuple(I:x9 X x2 σ H s)(h:SqT X.K H a xs):∃x5:B8,xi xs x5/\vv s.heap a x5.toArray/\xs.length<=ba:=by
 rcases h with h | ⟨o,x5,n,Z,i,Y,j,r⟩
 . obtain ⟨z,x5,r,p⟩:=h.ok I.xw;exact ⟨x5,r,p,z⟩
 . refine ⟨x5.toList,r,⟨o,I.kIn a o Z,i,n,by simpa using Y⟩,?_⟩;have e:=r.length;simp only[ly] at e;lia
theorem x9.wB(I:x9 X x2 σ H s)(h:SqL X.K H a xs)(l:SqL X.K H a ys):xs=ys:=by
 obtain ⟨p,r,⟨o,n,e,_,_,d⟩,_⟩:=I.list h;obtain ⟨i,j,⟨q,u,Z,_,_,Y⟩,_⟩:=I.list l;rw[e] at Z;cases Z;rw[d] at Y;injection Y with d1 _;have:=by simpa using congrArg Array.toList d1
 subst this;exact r.inj j
theorem x9.xj(I:x9 X x2 σ H s)(h:SqT X.K H a xs)(l:SqT X.K H a ys):xs=ys:=by
 obtain ⟨p,r,⟨o,e,_,n,d⟩,_⟩:=I.tuple h;obtain ⟨i,j,⟨q,Z,_,u,Y⟩,_⟩:=I.tuple l;rw[e] at Z;cases Z;rw[d] at Y;injection Y with d1 _;have:=by simpa using congrArg Array.toList d1
 subst this;exact r.inj j
end
noncomputable abbrev Cx.wish(X:Cx)(E:B2):Cx:={ X with xe:=E }
noncomputable abbrev Cx.nox(X:Cx):Cx:=X.wish λ_ _=>False
theorem Cx.Ok.wish(ok:X.Ok)(E:B2):(X.wish E).Ok:=
 ⟨ok.mod,ok.kind,ok.glob,ok.blt,ok.above,ok.inj,ok.has,ok.cab,ok.hd,ok.frames,ok.stk,ok.exf,ok.bs,ok.bsz,ok.Hz,ok.PL,ok.rP,ok.frf,ok.tabs⟩
theorem Cx.Ok.pM(ok:(X.wish E).Ok):X.Ok:=
 ⟨ok.mod,ok.kind,ok.glob,ok.blt,ok.above,ok.inj,ok.has,ok.cab,ok.hd,ok.frames,ok.stk,ok.exf,ok.bs,ok.bsz,ok.Hz,ok.PL,ok.rP,ok.frf,ok.tabs⟩
theorem x9.wish(I:x9 X x2 σ H s)(E:B2):x9 (X.wish E) x2 σ H s:=⟨I.ok.wish E,I.os,I.bare,I.base,I.loc,I.cell,I.free,I.jP,I.pin,I.xw,I.len⟩
theorem x9.pM(I:x9 (X.wish E) x2 σ H s):x9 X x2 σ H s:=⟨I.ok.pM,I.os,I.bare,I.base,I.loc,I.cell,I.free,I.jP,I.pin,I.xw,I.len⟩
theorem SP.pM{D:Ends}{f:Flow}(h:SP (X.wish E) x2 D f s'):SP X x2 D f s':=by
 cases f with
 | next=>obtain ⟨Y,Z,I,q⟩:=h;exact ⟨Y,Z,I.pM,q⟩
 | brk=>obtain ⟨Y,Z,I,q⟩:=h;exact ⟨Y,Z,I.pM,q⟩
 | cont=>obtain ⟨Y,Z,I,q⟩:=h;exact ⟨Y,Z,I.pM,q⟩
 | ret u=>obtain ⟨v,Y,Z,I,r,q⟩:=h;exact ⟨v,Y,Z,I.pM,r,q⟩
theorem PSs.nox{st:C5}{t:TS}(h:PSs X.nox st t):PSs X st t:=λY s Z H D I e=>
 fy (h Y s Z H D (I.wish _) e) (λ_ _ q=>q.pM) λ_ _ z=>ki z
section
variable  {st:Stmt}{rest:C5}{t u:TS}  {te:TE}
def aec:TS:=λD σ H=>D.nx σ H
def afl(t u:TS):TS:=λD σ H=>t { D with nx:=u D } σ H
theorem Z5:PSs X [] aec:=λ_ _ Y H _ I h=>qr ⟨Y,H,I,h⟩
theorem Wk(j:PS X st t)(i:PSs X rest u):PSs X (st::rest) (afl t u):=by
 intro Y s o H D I h;refine wpAny_execs_cons (thn (j Y s o H { D with nx:=u D } I h) λf e q=>?_)
 cases f with
 | next=>
  obtain ⟨Z,p,l,q⟩:=q;exact i Y e Z p D l q
 | ret v=>exact q
 | brk=>exact q
 | cont=>exact q
theorem YM(Z:PS X st t):PSs X [st] t:=by
 intro Y s e H D I h;refine wpAny_execs_cons (thn (Z Y s e H D I h) λf i q=>?_)
 cases f with
 | next=>exact qr q
 | ret v=>exact q
 | brk=>exact q
 | cont=>exact q
theorem x9.quiet(I:x9 X x2 σ H s):interactive X.env=false:=by simp[interactive,I.ok.kind]
def ael(te:TE):TS:=λD σ H=>te σ H λ_ H1=>D.nx σ H1
theorem qI(j:PE X e te)(hs:fR e none pos.line X.env=pure false:=by rfl):PS X (.Expr e pos) (ael te):=by
 intro Y s i H D I h;exact wpAny_Expr_any (thn (j Y s i H _ I h) λv q Z=>by obtain ⟨x,p,l,r,o⟩:=Z;exact ⟨i,p,l,o⟩) I.quiet hs
def aeZ(te:TE):TS:=λD σ H=>te σ H D.rt
theorem xH(j:PE X e te):PS X (.Return (some e) pos) (aeZ te):=by
 intro Y s i H D I h;exact wpAny_Return_some (thn (j Y s i H _ I h) λv r Z=>by obtain ⟨x,q,o,l,p⟩:=Z;exact ⟨x,i,q,o,l,p⟩)
def afs(c:TT)(t u:TS):TS:=λD σ H=>c σ H λb H1=>if b=true then t D σ H1 else u D σ H1
theorem ad2{a b:C5}{l:TT}(r:PT X c l)(v:PSs X a t)(q:PSs X b u):PS X (.If c a b pos) (afs l t u):=by
 intro Y s e H D I h;refine wpAny_If (thn (r Y s e H _ I h) λd i Z=>?_);obtain ⟨p,j,o⟩:=Z
 cases d with
 | true=>exact v Y i e p D j o
 | false=>exact q Y i e p D j o
def abi:TS:=λ_ _ _=>False
theorem WY:PS X st abi:=λ_ _ _ _ _ _ h=>h.elim
end
abbrev TG:=V->St->Hp->(St->Hp->Prop)->Prop
abbrev TGs:=C0->St->Hp->(St->Hp->Prop)->Prop
def PG(X:Cx)(target:Expr)(t:TG):Prop:=
 ∀(x2:A7) (s:cq) (σ:St) (H:Hp) (v:V) (u:a0) (Q:St->Hp->Prop),x9 X x2 σ H s->xh v u->t v σ H Q ->
  de (dt X.prog X.w) X.A (assign target X.env u) (λ_ s'=>∃σ' H',x9 X x2 σ' H' s'/\Q σ' H') X.xe s
def PGs(X:Cx)(ts:C1)(t:TGs):Prop:=
 ∀(x2:A7) (s:cq) (σ:St) (H:Hp) (vs:C0) (us:B8) (Q:St->Hp->Prop),x9 X x2 σ H s->xi vs us->t vs σ H Q ->
  de (dt X.prog X.w) X.A (assignInOrder ((lh ts X.env).map (·.2)) us) (λ_ s'=>∃σ' H',x9 X x2 σ' H' s'/\Q σ' H') X.xe s
variable {es:C1}
def BZ(i:Nat):TG:=λv σ H Q=>Q (σ.set i (some v)) H
theorem Y7(o:X.N.Nodup)(e:X.N[i]?=some x)(l:Loc X.env.scope x)(Z:X.fn x=true\/X.env.scope.names.lookup x=some .local:=by walk_at "hf"):PG X (.Name x pos) (BZ i):=by
 intro Y s q H v u Q I r h;exact wpAny_assign_Name (Jw I o e l r (λp j=>⟨_,H,j,h⟩) Z)
def afh:TGs:=λvs σ H Q=>vs=[]/\Q σ H
def aeh(t:TG)(u:TGs):TGs:=λvs σ H Q=>∃v r,vs=v::r/\t v σ H λσ' H'=>u r σ' H' Q
theorem aar:PGs X [] afh:=by
 rintro Y s Z H j i Q I r ⟨e,h⟩;subst e;cases r;exact assignInOrder_nil ⟨Z,H,I,h⟩
theorem Wy{t:TG}{u:TGs}(z:PG X e t)(q:PGs X es u)
 (hs:(lh (e::es) X.env).map (·.2)=assign e X.env::(lh es X.env).map (·.2):=by rfl):PGs X (e::es) (aeh t u):=by
 rintro Y s C H L J Q I r ⟨v,E,j,h⟩;subst j
 cases r with
 | cons r p=>
  rw[hs];exact assignInOrder_cons (thn (z Y s C H _ _ _ I r h) λ_ l Z=>by obtain ⟨i,D,o,B⟩:=Z;exact q Y l i D _ _ Q o p B)
def afF(K:av)(n:Nat)(t:TGs):TG:=λv σ H Q=>∃a xs,v= .ref a/\SqT K H a xs/\xs.length=n/\t xs σ H Q
theorem abV{t:TGs}{n:Nat}(O:X.calm=true)(h:PGs X es t)
 (B:(lh es X.env).length=n:=by rfl) (Z:(lh es X.env).findIdx? (·.1)=none:=by rfl):PG X (.Tuple es i pos) (afF X.K n t):=by
 rintro Y s L H v u Q I r ⟨a,E,l,D,p,M⟩;subst l;cases r;obtain ⟨C,j,q,R⟩:=I.tuple D;refine assign_Tuple_tuple (I.ok.hd O) q (by simp[B,<- p,j.length]) Z λP J=>?_;have z:=I.kept (t':=s.toks) λb o e=>J b o (ef (cm e)) e;exact h Y _ L H E _ Q z (by simpa using j) M
def PQ(te:TE)(g:TG):TS:=λD σ H=>te σ H λx H1=>g x σ H1 D.nx
theorem Bt{l:TE}{Y:Pos}(C:X.N.Nodup)(r:X.N[i]?=some x)(B:Loc X.env.scope x)(L:PE X e l)(hs:fR e (some (.Name x Y)) pos.line X.env=pure false:=by rfl)(p:X.fn x=true\/X.env.scope.names.lookup x=some .local:=by walk_at "hf") :
 PS X (.Assign [.Name x Y] e pos) (PQ l (BZ i)):=by
 intro Z s E H D I h;refine wpAny_Assign_Name (thn (L Z s E H _ I h) λv M j=>?_) hs;obtain ⟨y,u,q,z,J⟩:=j;exact Jw q C r B z (λO o=>⟨_,u,o,J⟩) p
variable {body:C5}
def abz(c:TT)(tb:TS):TS:=λD σ H=>∃W:Nat->St->Hp->Prop,(∃m,W m σ H)/\∀m σ H,W m σ H ->
 c σ H λb H1=>if b=true then ∃N:St->Hp->Prop,(∀σ' H',N σ' H'->∃m',m'<m/\W m' σ' H')/\tb { D with nx:=N,ct:=N,bk:=D.nx } σ H1 else D.nx σ H1
theorem Uy{P:TT}{tb:TS}(E:rV (dt X.prog X.w) X.A X.env X.xe)(hc:PT X c P)(hb:PSs X body tb):PS X (.While c body [] pos) (abz P tb):=by
 rintro Y s σ H D I ⟨W,⟨U,R⟩,turn⟩;refine wpAny_While (codeAny_whileLoop (λn S=>∃j J,x9 X Y j J S/\W n j J) ?_ U ⟨σ,H,I,R⟩);rintro n s1 ⟨e,M,I1,w1⟩;refine kX E (thn (hc Y s1 e M _ I1 (turn n e M w1)) λb Q i=>?_);obtain ⟨C,O,o⟩:=i
 cases b with
 | true=>
  obtain ⟨N,L,o⟩:=o;rw[if_pos rfl];refine kX E (thn (hb Y Q e C _ O o) λf s3 p=>?_)
  cases f with
  | next=>
   obtain ⟨Z,l,r,u⟩:=p;obtain ⟨B,q,z⟩:=L Z l u;exact ⟨B,q,Z,l,r,z⟩
  | cont=>
   obtain ⟨Z,l,r,u⟩:=p;obtain ⟨B,q,z⟩:=L Z l u;exact ⟨B,q,Z,l,r,z⟩
  | brk=>exact p
  | ret v=>exact p
 | false=>
  rw[if_neg dV];exact qr ⟨e,C,O,o⟩
structure It where
 go:Nat->Hp->Prop
 yld:Nat->Hp->V->Hp->Prop
 stop:Nat->Hp->Prop
def ux(X:Cx)(x2:A7)(H:Hp)(b:Addr):Prop:=
 H b=none/\b≠X.env.locals/\b∉X.fs/\(b∈X.ex\/X.s₀.heap.objs.size<=b)/\(∀x c,X.env.cells.lookup x=some c->c≠b)/\∀p∈X.pn++x2,p.1≠b
theorem x9.rG{Z:Hp}(I:x9 X x2 σ H s)(Y:s.heap.objs.size<=b)(j:Z b=none):ux X x2 Z b:=by
 refine ⟨j,ow (dS I.lt Y),I.aft Y,.inr (cS I.sz Y),λx c e z=>?_,λp i z=>?_⟩
 . obtain ⟨v,q⟩:=I.cell x c e;exact absurd (dS q.lt (by rw[z];exact Y)) (ft _)
 . exact absurd (dS (cm (I.pin p i).1) (by rw[z];exact Y)) (ft _)
structure Turn (P:fq) (w:i8) (K:av) (tg:Expr) (J:It) (fp:C2) (it:Addr) (tn:Nat->Heap->Prop):Prop where
 mem:it∈fp
 obj:∀i h,tn i h->∀b∈fp,∃o,h.get? b=some o/\∀v,o.data ≠ .cell v
 keep:∀i h h',tn i h->(∀b∈fp,∀o,h.get? b=some o->h'.get? b=some o)->tn i h'
 item:∀(X:Cx),X.prog=P->X.w=w->X.K=K->X.calm=true->∀(i:Nat) (x2:A7) (s:cq) (σ:St) (H:Hp) (E:B2),x9 X x2 σ H s->(∀b∈fp,ux X x2 H b)->tn i s.heap->J.go i H ->
  de (dt P w) X.A (pyNext (.ref it)) (λr s1=>∃u,r=some u /\
   de (dt P w) X.A (vx tg (.ref it) u) (λ_ s2=>∃x H',x9 X x2 σ H' s2/\xh x u/\J.yld i H x H'/\tn (i+1) s2.heap/\∀b∈fp,H' b=none) E s1) E s
 done:∀(X:Cx),X.prog=P->X.w=w->X.K=K->X.calm=true->∀(i:Nat) (x2:A7) (s:cq) (σ:St) (H:Hp) (E:B2),x9 X x2 σ H s->(∀b∈fp,ux X x2 H b)->tn i s.heap->J.stop i H ->
  de (dt P w) X.A (pyNext (.ref it)) (λr s1=>r=none/\x9 X x2 σ H s1) E s
 self:∀(A:g9) (i:Nat) (s:cq) (Q:B2) (E:B2),tn i s.heap->Q (.ref it) s->de (dt P w) A (pyIter (.ref it)) Q E s
abbrev TI:=St->Hp->(It->Hp->Prop)->Prop
def PIE(X:Cx)(x2:A7)(σ:St)(tg:Expr)(R:It->Hp->Prop)(itv:a0)(s2:cq):Prop:=
 ∃(it:Addr) (fp:C2) (tn:Nat->Heap->Prop) (J:It) (H':Hp),itv= .ref it/\x9 X x2 σ H' s2/\Turn X.prog X.w X.K tg J fp it tn/\tn 0 s2.heap/\(∀b∈fp,ux X x2 H' b)/\R J H'
def PI(X:Cx)(tg iter:Expr)(wi:TI):Prop:=
 ∀(x2:A7) (s:cq) (σ:St) (H:Hp) (R:It->Hp->Prop),x9 X x2 σ H s->wi σ H R ->
  de (dt X.prog X.w) X.A (eval iter X.env) (λv s1=>de (dt X.prog X.w) X.A (pyIter v) (PIE X x2 σ tg R) X.xe s1) X.xe s
variable {tg:Expr}
theorem zj{o:Obj}{n:String}{Z:Array a0}{Q:Unit->cq->Prop}(e:s.heap.get? a=some o)(j:o.cls= .type n)(hd:o.data= .fields Z)
 (i:["enumerate", "zip", "dict_itemiterator", "dict_reverseitemiterator", "odict_iterator", "itertools.zip_longest", "itertools.pairwise"].contains n=false) (Y:Q () s):de M A (vx tg (.ref a) u) Q E s:=by
 cases tg <;> first
  | exact a9 Y
  | (cases u <;> first
   | exact a9 Y
   | (
    refine ag (wpAny_load e ?_);rw[j,hd];show de M A (if (["enumerate", "zip", "dict_itemiterator", "dict_reverseitemiterator", "odict_iterator", "itertools.zip_longest", "itertools.pairwise"].contains n&&Z[0]? == some (qA _))=true then _ else _) Q E s;rw[if_neg (by intro h;rw[i,Bool.false_and] at h;cases h)];exact a9 Y))
noncomputable def Itl(K:av)(a:Addr):It:=
 ⟨λi H=>∃xs x,SqL K H a xs/\xs[i]?=some x,λi H x H'=>H'=H/\∀xs,SqL K H a xs->xs[i]?=some x,λi H=>∃xs,SqL K H a xs/\xs.length<=i⟩
noncomputable def Itt(K:av)(a:Addr):It:=
 ⟨λi H=>∃xs x,SqT K H a xs/\xs[i]?=some x,λi H x H'=>H'=H/\∀xs,SqT K H a xs->xs[i]?=some x,λi H=>∃xs,SqT K H a xs/\xs.length<=i⟩
noncomputable def Itr(lo:Int)(n:Nat):It:=⟨λi _=>i<n,λi H x H'=>H'=H/\x= .int (lo+i),λi _=>n<=i⟩
theorem Ra(a Z:Addr):Turn P w K tg (Itl K a) [Z] Z (λi h=>h.IsListIter Z a i) where
 mem:=by simp
 obj:=λi h st b Y=>by
  have e:=by simpa using Y
  subst e;obtain ⟨o,e,c,d⟩:=st;exact ⟨o,e,λv z=>by rw[d] at z;cases z⟩
 keep:=λi h h' st k=>st.at λo e=>k Z (by simp) o e
 item:=by
  intro X R U B hc i j s σ H E I q st L;subst R U B;obtain ⟨xs,x,r,D⟩:=L;obtain ⟨C,S,p,hz⟩:=I.list r;obtain ⟨u,hu,ru⟩:=S.get D;obtain ⟨M,f1,f2,J,O,Q⟩:=q Z (by simp);refine wpAny_pyNext_list_item st p.isList (by simpa using hu) λh' l sb=>?_;have I1:=I.turned (t':=s.toks) (λb o Y e=>(sb.2 b Y).trans e) M f1 J O Q;obtain ⟨o,e,c,d⟩:=id l;exact ⟨u,rfl,zj e c d (by decide) ⟨x,H,I1,ru,⟨rfl,λys hy=>by rw[I.wB hy r];exact D⟩,l,λb Y=>(q b Y).1⟩⟩
 done:=by
  intro X R U B hc i j s σ H E I q st L;subst R U B;obtain ⟨xs,r,D⟩:=L;obtain ⟨C,S,p,hz⟩:=I.list r;obtain ⟨M,f1,f2,J,O,Q⟩:=q Z (by simp);have hl:=S.length;exact wpAny_pyNext_list_end (I.ok.hd hc) st p.isList (by simp;lia) λh' eb=>⟨rfl,I.turned (λb o Y e=>eb b o Y e) M f1 J O Q⟩
 self:=λ_ _ _ _ _ st h=>wpAny_pyIter_listiter st h
theorem Qx(a Z:Addr):Turn P w K tg (Itt K a) [Z] Z (λi h=>h.IsTupleIter Z a i) where
 mem:=by simp
 obj:=λi h st b Y=>by
  have e:=by simpa using Y
  subst e;obtain ⟨o,e,c,d⟩:=st;exact ⟨o,e,λv z=>by rw[d] at z;cases z⟩
 keep:=λi h h' st k=>st.at λo e=>k Z (by simp) o e
 item:=by
  intro X R U B hc i j s σ H E I q st L;subst R U B;obtain ⟨xs,x,r,D⟩:=L;obtain ⟨C,S,p,hz⟩:=I.tuple r;obtain ⟨u,hu,ru⟩:=S.get D;obtain ⟨M,f1,f2,J,O,Q⟩:=q Z (by simp);refine wpAny_pyNext_tuple_item st (p) (by simpa using hu) λh' l sb=>?_;have I1:=I.turned (t':=s.toks) (λb o Y e=>(sb.2 b Y).trans e) M f1 J O Q;obtain ⟨o,e,c,d⟩:=id l;exact ⟨u,rfl,zj e c d (by decide) ⟨x,H,I1,ru,⟨rfl,λys hy=>by rw[I.xj hy r];exact D⟩,l,λb Y=>(q b Y).1⟩⟩
 done:=by
  intro X R U B hc i j s σ H E I q st L;subst R U B;obtain ⟨xs,r,D⟩:=L;obtain ⟨C,S,p,hz⟩:=I.tuple r;obtain ⟨M,f1,f2,J,O,Q⟩:=q Z (by simp);have hl:=S.length;exact wpAny_pyNext_tuple_end (I.ok.hd hc) st (p) (by simp;lia) λh' eb=>⟨rfl,I.turned (λb o Y e=>eb b o Y e) M f1 J O Q⟩
 self:=λ_ _ _ _ _ st h=>wpAny_pyIter_tupleiter st h
theorem Qg(j:Addr)(lo:Int)(n:Nat):Turn P w K tg (Itr lo n) [j] j (λi h=>IsRangeIter h j (lo+(i:Nat)*1) ((n:Int) - (i:Nat)) 1) where
 mem:=by simp
 obj:=λi h st b Z=>by
  have e:=by simpa using Z
  subst e;exact ⟨_,st,λv z=>by
   have U:=z;cases U⟩
 keep:=λi h D st k=>k j (by simp) _ st
 item:=by
  intro X L M q Q i Y s R H E I p st u;subst L M q;obtain ⟨B,O,f2,r,C,J⟩:=p j (by simp);have W:=Walks.range (prog:=X.prog) (w:=X.w) (I.ok.hd Q) j lo 1 n;refine W.item i s _ _ u st λv D tk S l kk=>?_;obtain ⟨t,rfl⟩:=S;have I1:x9 X Y R H { s with heap:=D,toks:=tk }:=I.turned (λb o Z e=>kk b o (by simpa using Z) e) B O r C J;refine ⟨_,rfl,zj l rfl rfl (by decide) ⟨.int (lo+i),H,I1,⟨t,?_⟩,⟨rfl,rfl⟩,l,λb Z=>(p b Z).1⟩⟩;rw[si]
 done:=by
  intro X L M q Q i Y s R H E I p st u;subst L M q;obtain ⟨B,O,f2,r,C,J⟩:=p j (by simp);exact wpAny_pyNext_range_end (I.ok.hd Q) st (by have:n<=i:=u;lia) λD eb=>⟨rfl,I.turned (λb o Z e=>eb b o Z e) B O r C J⟩
 self:=λ_ _ _ _ _ st h=>wpAny_pyIter_rangeiter st h
variable {fp:C2}
theorem XH{R:It->Hp->Prop}{lo Y:Int}{t u v:Tok}(I:x9 X x2 σ H s)(p : -(2^62)<=lo)(l:lo<2^62)(j : -(2^62)<=Y)(B:Y<2^62)
 (q:R (Itr lo (Y - lo).toNat) H):de (dt X.prog X.w) X.A (pyIter (.ref s.heap.objs.size)) (PIE X x2 σ tg R) E { s with heap:=s.heap.push { cls:=.type "range",data:=.fields #[.int lo t,.int Y u,.int 1 v] },toks:=t' }:=by
 refine wpAny_pyIter_range (IsRange.new ..) (small_one p l j B) ?_;have Z:x9 X x2 σ H { s with heap:=s.heap.push { cls:=.type "range",data:=.fields #[.int lo t,.int Y u,.int 1 v] },toks:=t' }:=I.kept λb o e=>aE _ e;refine ⟨(s.heap.push { cls:=.type "range",data:=.fields #[.int lo t,.int Y u,.int 1 v] }).objs.size,[(s.heap.push { cls:=.type "range",data:=.fields #[.int lo t,.int Y u,.int 1 v] }).objs.size],_,_,H,rfl,
  Z.kept λb o e=>aE _ e,Qg _ lo (Y - lo).toNat,?_,λb z=>?_,q⟩
 . have i:lo+((0:Nat):Int)*1=lo:=by simp
   have r:(((Y - lo).toNat:Nat):Int) - ((0:Nat):Int)=c6 lo Y 1:=by rw[rangeSize_one];split <;> lia
   rw[i,r];exact cn _ rfl
 . have e:b=(s.heap.push { cls:=.type "range",data:=.fields #[.int lo t,.int Y u,.int 1 v] }).objs.size:=by simpa using z
   subst e;exact Z.rG (ax _) (Z.xw.fresh (ax _))
def aej(ta:TA):TI:=λσ H R=>ta σ H λvs H1=>∃j:Int,vs=[.int j] /\ -(2^62)<=j/\j<2^62/\R (Itr 0 j.toNat) H1
theorem FP{l:TA}{p:Pos}(u:Gl X "range")(B:X.mg "range"= none)(D:PA X [c] l)(hs:dc [c] X.env=[(false,eval c X.env)]:=by rfl):PI X tg (.Call (.Name "range" p) [c] [] pos) (aej l):=by
 intro Z s E H R I h;refine Call_ (m7 I u B boot_range (gc (thn (D pos Z s E H _ I h) λM J Y=>?_) hs rfl));obtain ⟨O,L,o,v,i⟩:=Y;obtain ⟨j,e,i,C,q⟩:=i;subst e
 cases v with
 | cons r z=>
  cases z;obtain ⟨t,rfl⟩:=r;exact call_range_1 (XH o (by lia) (by lia) i C (by simpa using q))
def afW(wi:TI)(g:TG)(tb:TS):TS:=λD σ H=>wi σ H λJ H1=>∃W:Nat->Nat->St->Hp->Prop,(∃m,W 0 m σ H1)/\∀i m σ H,W i m σ H ->
 (J.stop i H/\D.nx σ H)\/(J.go i H/\∃N:St->Hp->Prop,(∀σ' H',N σ' H'->∃m',m'<m/\W (i+1) m' σ' H')/\∀x H',J.yld i H x H'->g x σ H' λσ2 H2=>tb { D with nx:=N,ct:=N,bk:=D.nx } σ2 H2)
noncomputable def ym(fp:C2)(h:Heap):A7:=fp.filterMap λb=>(h.get? b).map λo=>(b,o)
theorem qx{o:Obj}(Y:b∈fp)(e:h.get? b=some o):(b,o)∈ym fp h:=kH.mpr ⟨b,Y,by rw[e];rfl⟩
theorem Ry{p:Addr×Obj}(Z:p∈ym fp h):p.1∈fp/\h.get? p.1=some p.2:=by
 obtain ⟨b,Y,e⟩:=kH.mp Z
 cases q:h.get? b with
 | none=>rw[q] at e;cases e
 | some o=>
  rw[q] at e;have i:=Option.some.inj e;subst i;exact ⟨Y,q⟩
theorem x9.pinned(I:x9 X x2 σ H s)(j:∀b∈fp,ux X x2 H b)(i:∀b∈fp,∃o,s.heap.get? b=some o/\∀v,o.data ≠ .cell v):x9 X (x2++ym fp s.heap) σ H s:=
 I.N7 λp r=>(cf.mp r).elim (λz=>I.pin p (ck _ z)) λz=>by
  obtain ⟨Z,e⟩:=Ry z;obtain ⟨l,q,u,_⟩:=j p.1 Z;obtain ⟨o,Y,d⟩:=i p.1 Z;rw[e] at Y;cases Y;exact ⟨e,l,q,u,d⟩
theorem x9.wj{pl:A7}(I:x9 X (x2++pl) σ H s):x9 X x2 σ H s:=I.N7 λp Y=>I.pin p (ck _ (dy _ Y))
theorem TX{wi:TI}{g:TG}{tb:TS}(O:rV (dt X.prog X.w) X.A X.env X.xe)(hc:X.calm=true)(hi:PI X tg c wi)(hg:PG X tg g)(z:PSs X body tb)
 (hs:∀x,hV c X.env x=pure x:=by intro _;rfl):PS X (.For tg c body [] pos) (afW wi g tb):=by
 intro Z s σ H D I h;refine wpAny_For (thn (hi Z s σ H _ I h) λv s1 h1=>thn h1 λitv s2 h2=>?_) hs;obtain ⟨it,P,tn,J,H2,e,I2,T,U,f2,W,⟨m0,w0⟩,turn⟩:=h2;subst e;have l:∀{H':Hp},(∀b∈P,H' b=none)->∀b∈P,ux X Z H' b:=λhn b z=>⟨hn b z,(f2 b z).2⟩;refine codeAny_forLoop_any (λn s'=>∃i q H',x9 X Z q H' s'/\tn i s'.heap/\(∀b∈P,H' b=none)/\W i n q H') ?_ m0 ⟨0,σ,H2,I2,U,λb z=>(f2 b z).1,w0⟩;rintro n s3 ⟨i,B,S,I3,R,M,w3⟩;rcases turn i n B S w3 with ⟨stop,qn⟩ | ⟨go,N,hN,step⟩
 . refine kX O (thn (T.done X rfl rfl rfl hc i Z s3 B S X.xe I3 (l M) R stop) λr s4 j=>?_);obtain ⟨hr,I4⟩:=j;subst hr;exact qr ⟨B,S,I4,qn⟩
 . refine kX O (thn (T.item X rfl rfl rfl hc i Z s3 B S X.xe I3 (l M) R go) λr s4 j=>?_);obtain ⟨u,hr,h4⟩:=j;subst hr;refine kX O (thn h4 λ_ s5 j=>?_);obtain ⟨x,H5,I5,r5,y5,L,fr5⟩:=j;have I5':=I5.pinned (l fr5) (T.obj _ _ L);refine kX O (thn (hg _ s5 B H5 x u _ I5' r5 (step x H5 y5)) λ_ s6 j=>?_);obtain ⟨σ6,H6,I6,q6⟩:=j;refine kX O (thn (z _ s6 σ6 H6 _ I6 q6) λf s7 E=>?_);have again:∀{Y:St}{p:Hp},x9 X (Z++ym P s5.heap) Y p s7->N Y p->∃m,m<n/\∃i q H',x9 X Z q H' s7/\tn i s7.heap/\(∀b∈P,H' b=none)/\W i m q H':=λ{Y p} C Q=>by
    obtain ⟨m',hm,w7⟩:=hN Y p Q;refine ⟨m',hm,i+1,Y,p,C.wj,T.keep _ _ _ L λb z o e=>(C.pin (b,o) (ck _ (ck _ (qx z e)))).1,λb z=>?_,w7⟩;obtain ⟨o,e,d⟩:=T.obj _ _ L b z;exact (C.pin (b,o) (ck _ (ck _ (qx z e)))).2.1
   cases f with
   | next=>obtain ⟨Y,p,C,Q⟩:=E;exact again C Q
   | cont=>obtain ⟨Y,p,C,Q⟩:=E;exact again C Q
   | brk=>obtain ⟨Y,p,C,E⟩:=E;exact ⟨Y,p,C.wj,E⟩
   | ret v=>obtain ⟨x7,Y,p,C,r7,E⟩:=E;exact ⟨x7,Y,p,C.wj,r7,E⟩
abbrev R2:=V->V->Hp->VK->Prop
def OpR(X:Cx)(f:a0->a0->Sem a0)(r:R2):Prop:=
 ∀(x2:A7) (s:cq) (σ:St) (H:Hp) (x y:V) (v u:a0) (Q:VK),x9 X x2 σ H s->xh x v->xh y u->r x y H Q ->
  de (dt X.prog X.w) X.A (f v u) (EP X x2 σ Q) X.xe s
def UnR(X:Cx)(f:a0->Sem a0)(r:V->Hp->VK->Prop):Prop:=
 ∀(x2:A7) (s:cq) (σ:St) (H:Hp) (x:V) (v:a0) (Q:VK),x9 X x2 σ H s->xh x v->r x H Q ->
  de (dt X.prog X.w) X.A (f v) (EP X x2 σ Q) X.xe s
def fJ(X:Cx)(f:a0)(r:C0->Hp->VK->Prop):Prop:=
 ∀(x2:A7) (s:cq) (σ:St) (H:Hp) (xs:C0) (us:B8) (Q:VK),x9 X x2 σ H s->xi xs us->r xs H Q ->
  de (dt X.prog X.w) X.A (call f us) (EP X x2 σ Q) X.xe s
def afB(X:Cx)(r:V->Hp->(Bool->Hp->Prop)->Prop):Prop:=
 ∀(x2:A7) (s:cq) (σ:St) (H:Hp) (x:V) (v:a0) (Q:Bool->Hp->Prop),x9 X x2 σ H s->xh x v->r x H Q ->
  de (dt X.prog X.w) X.A (truthy v) (TP X x2 σ Q) X.xe s
def tOp(r:R2)(ta tb:TE):TE:=λσ H Q=>ta σ H λx H1=>tb σ H1 λy H2=>r x y H2 Q
def tUn(r:V->Hp->VK->Prop)(ta:TE):TE:=λσ H Q=>ta σ H λx H1=>r x H1 Q
def rI(C:Int->Int->Prop)(g:Int->Int->V):R2:=λx y H Q=>∃i j,x= .int i/\y= .int j/\C i j/\Q (g i j) H
def rI0(g:Int->Int->V):R2:=λx y H Q=>∃i j,x= .int i/\y= .int j/\Q (g i j) H
def rU(g:Int->V):V->Hp->VK->Prop:=λx H Q=>∃i,x= .int i/\Q (g i) H
variable {r:R2}{g:Int->Int->Int}
section
variable  {a b:Expr}{ta tb tc:TE}
theorem WT(C:PE X a ta)(q:PE X b tb){R:V->V->Hp->Prop}(I:x9 X x2 σ H s)
 (h:ta σ H λx H1=>tb σ H1 λy H2=>R x y H2) {f:a0->a0->Sem a0}
 (l:∀v u s2 x y H2,x9 X x2 σ H2 s2->xh x v->xh y u->R x y H2->de (dt X.prog X.w) X.A (f v u) Q X.xe s2) :
 de (dt X.prog X.w) X.A (eval a X.env) (λv e=>de (dt X.prog X.w) X.A (eval b X.env) (λu Z=>de (dt X.prog X.w) X.A (f v u) Q X.xe Z) X.xe e) X.xe s:=by
 refine thn (C x2 s σ H _ I h) λv i ⟨x,H1,o,r,z⟩=>thn (q x2 i σ H1 _ o z) λu s2 Y=>?_;obtain ⟨y,H2,j,p,B⟩:=Y;exact l v u s2 x y H2 j r p B
theorem Yd{Z:Operator}(z:OpR X (fv Z) r)(B:PE X a ta)(p:PE X b tb):PE X (.BinOp a Z b pos) (tOp r ta tb):=by
 intro Y s C H Q I h;exact wpAny_BinOp (WT B p I h λv u l x y i e j o q=>z Y l C i x y v u Q e j o q)
theorem aeC{e:UnaryOp}{r:V->Hp->VK->Prop}(p:UnR X (unaryOp e) r)(u:PE X a ta):PE X (.UnaryOp e a pos) (tUn r ta):=by
 intro Y s i H Q I h;exact UnaryOp_ (thn (u Y s i H _ I h) λv j Z=>by obtain ⟨x,o,l,q,z⟩:=Z;exact p Y j i o x v Q l q z)
theorem opI{f:a0->a0->Sem a0}{C:Int->Int->Prop}
 (rule:∀(i j:Int) (t u:Tok) (s:cq) (Q:B2) (E:B2),C i j->Q (.int (g i j) s.toks) { s with toks:=s.toks+1 }->de (dt X.prog X.w) X.A (f (.int i t) (.int j u)) Q E s) :
 OpR X f (rI C λi j=>.int (g i j)):=by
 rintro Y s p H x y v u Q I Z e ⟨i,j,rfl,rfl,l,q⟩;obtain ⟨t,rfl⟩:=Z;obtain ⟨o,rfl⟩:=e;exact rule i j t o s _ _ l ⟨.int (g i j),H,I.tok _,⟨_,rfl⟩,q⟩
theorem Ph{f:a0->a0->Sem a0}
 (rule:∀(i j:Int) (t u:Tok) (s:cq) (Q:B2) (E:B2),Q (.int (g i j) s.toks) { s with toks:=s.toks+1 }->de (dt X.prog X.w) X.A (f (.int i t) (.int j u)) Q E s) :
 OpR X f (rI0 λi j=>.int (g i j)):=by
 rintro Y s o H x y v u Q I Z e ⟨i,j,rfl,rfl,q⟩;obtain ⟨t,rfl⟩:=Z;obtain ⟨l,rfl⟩:=e;exact rule i j t l s _ _ ⟨.int (g i j),H,I.tok _,⟨_,rfl⟩,q⟩
theorem Vy{f:a0->a0->Sem a0}{g:Int->Int->Bool}
 (rule:∀(i j:Int) (t u:Tok) (s:cq) (Q:B2) (E:B2),Q (.bool (g i j)) s->de (dt X.prog X.w) X.A (f (.int i t) (.int j u)) Q E s) :
 OpR X f (rI0 λi j=>.bl (g i j)):=by
 rintro Y s o H x y v u Q I Z e ⟨i,j,rfl,rfl,q⟩;obtain ⟨t,rfl⟩:=Z;obtain ⟨l,rfl⟩:=e;exact rule i j t l s _ _ ⟨.bl (g i j),H,I,rfl,q⟩
def Ds(i j:Int):Prop:=0<j/\j<1073741824
def Ec(i j:Int):Prop:=0<=j/\j<=1000000/\i.natAbs<2^64
def q9(i j:Int):Prop:=(-(2^64)<i/\i<2^64)\/(-(2^64)<j/\j<2^64)
theorem q9.ok{i j:Int}(h:q9 i j):IntMulOk i j:=by
 rcases h with ⟨Z,Y⟩ | ⟨Z,Y⟩
 . exact .of_left (intBits_le_64 Z Y)
 . exact .of_right (intBits_le_64 Z Y)
theorem two_pow_nn(k:Nat):(0:Int)<=2^k:=by
 rw[two_pow_cast];exact Int.natCast_nonneg _
theorem adB:OpR X (fv .Add) (rI0 λi j=>.int (i+j)):=Ph λ_ _ _ _ _ _ _ q=>add_int q
theorem ab3:OpR X (fv .Sub) (rI0 λi j=>.int (i - j)):=Ph λ_ _ _ _ _ _ _ q=>sub_int q
theorem ab7:OpR X (fv .Mult) (rI q9 λi j=>.int (i*j)):=opI λ_ _ _ _ _ _ _ Y q=>mul_int q Y.ok
theorem aae:OpR X (fv .FloorDiv) (rI Ds λi j=>.int (i / j)):=opI λi j _ _ _ _ _ Y q=>by
 have Z:=Y.1;have e:=Y.2;exact floordiv_int (by lia) (by rw[r6 i (by lia)];exact q) (.inl (uk (by lia)))
theorem ack:OpR X (fv .Mod) (rI (λ_ j=>0<j) λi j=>.int (i % j)):=opI λi j _ _ _ _ _ Y q=>by
 have Z:=Y;exact mod_int' (by lia) (by rw[Int.fmod_eq_emod_of_nonneg i (by lia)];exact q)
theorem aa9:OpR X (fv .LShift) (rI Ec λi j=>.int (i*2^j.toNat)):=opI λ_ _ _ _ _ _ _ Y q=>lshift_int_small Y.1 Y.2.1 Y.2.2 q
theorem adq:OpR X (fv .RShift) (rI (λ_ j=>0<=j) λi j=>.int (i / 2^j.toNat)):=opI λi j _ _ _ _ _ Y q=>
 rshift_int Y (by rw[r6 i (two_pow_nn _)];exact q)
theorem abf:OpR X (fv .BitAnd) (rI0 λi j=>.int (fE i j)):=Ph λ_ _ _ _ _ _ _ q=>and_int q
theorem aeG:OpR X (fv .BitOr) (rI0 λi j=>.int (i9 i j)):=Ph λ_ _ _ _ _ _ _ q=>or_int q
theorem unI{f:a0->Sem a0}{g:Int->Int}
 (rule:∀(i:Int) (t:Tok) (s:cq) (Q:B2) (E:B2),Q (.int (g i) s.toks) { s with toks:=s.toks+1 }->de (dt X.prog X.w) X.A (f (.int i t)) Q E s) :
 UnR X f (rU λi=>.int (g i)):=by
 rintro Y s e H x v Q I Z ⟨i,rfl,q⟩;obtain ⟨t,rfl⟩:=Z;exact rule i t s _ _ ⟨.int (g i),H,I.tok _,⟨_,rfl⟩,q⟩
theorem ab8:UnR X (unaryOp .USub) (rU λi=>.int (-i)):=unI λ_ _ _ _ _ q=>neg_int q
theorem abq:UnR X (unaryOp .Invert) (rU λi=>.int (fF i)):=unI λ_ _ _ _ _ q=>invert_int q
theorem Uu:OpR X (fv .Add) (λx y H Q=>∃i k,x= .int i/\y= .bl k/\Q (.int (i+b2i k)) H):=by
 rintro Y s j H x y v u Q I Z e ⟨i,k,rfl,rfl,q⟩;obtain ⟨t,rfl⟩:=Z;cases e;exact add_int_bool ⟨.int (i+b2i k),H,I.tok _,⟨_,rfl⟩,q⟩
end
variable {op:CmpOp}
section
variable  {a b:Expr}{ta tb tc:TE}
theorem Tc{Q:VK}{k Y:Bool}(I:x9 X x2 σ H s)(q:Q (.bl k) H)(e:k=Y):EP X x2 σ Q (.bool Y) s:=by
 subst e;exact ⟨.bl k,H,I,rfl,q⟩
theorem aee:OpR X (eD .Lt) (rI0 λi j=>.bl (decide (i<j))):=Vy λ_ _ _ _ _ _ _ q=>lt_int q
theorem aei:OpR X (eD .LtE) (rI0 λi j=>.bl (decide (i<=j))):=Vy λ_ _ _ _ _ _ _ q=>le_int q
theorem aen:OpR X (eD .Gt) (rI0 λi j=>.bl (decide (j<i))):=Vy λ_ _ _ _ _ _ _ q=>gt_int q
theorem acw:OpR X (eD .Is) (λx y H Q=>y= .non/\Q (.bl (decide (x= .non))) H):=by
 rintro Z s i H x y v u Q I Y e ⟨rfl,q⟩;cases e;refine is_none_gen (Tc I q ?_);cases x <;> first
  | (cases Y;rfl)
  | (obtain ⟨t,rfl⟩:=Y;rfl)
theorem Z0:OpR X (eD .IsNot) (λx y H Q=>y= .non/\Q (.bl (!decide (x= .non))) H):=by
 rintro Z s i H x y v u Q I Y e ⟨rfl,q⟩;cases e;refine isnot_none_gen (Tc I q ?_);cases x <;> first
  | (cases Y;rfl)
  | (obtain ⟨t,rfl⟩:=Y;rfl)
theorem xu(b:Expr)(h:op ≠ .In:=by decide)(Z:op ≠ .NotIn:=by decide):mm op b=false:=by
 have Y:(op == CmpOp.In)=false:=by cases op <;> first | rfl | exact absurd rfl h
 have e:(op == CmpOp.NotIn)=false:=by cases op <;> first | rfl | exact absurd rfl Z
 cases b <;> simp[mm,Y,e]
theorem Zm(p:OpR X (eD op) r)(B:PE X a ta)(o:PE X b tb)(z:mm op b=false):PE X (.Compare a [op] [b] pos) (tOp r ta tb):=by
 intro Y s C H Q I h;exact wpAny_Compare1 (WT B o I h λv u j x y e Z i l q=>p Y j C e x y v u Q Z i l q) z
def Yr(t:TE):TT:=λσ H Q=>t σ H λx H'=>∃k,x= .bl k/\Q k H'
theorem NQ(J:OpR X (eD op) r)(P:PE X a ta)(D:PE X b tb)(M:mm op b=false):PT X (.Compare a [op] [b] pos) (Yr (tOp r ta tb)):=by
 intro Y s Z H Q I h;refine wpAny_isTrue_Compare1 (thn (P Y s Z H _ I h) λv j ⟨x,E,p,L,R⟩=>thn (D Y j Z E _ p R) λu q ⟨y,o,l,C,O⟩=>
  thn (J Y q Z o x y v u _ l L C O) λc s3 ⟨z,i,B,U,k,e,S⟩=>?_) M
 subst e;cases U;exact hJ ⟨i,B,S⟩
def Tp(r r':R2)(ta tb tc:TE):TE:=λσ H Q=>ta σ H λx H1=>tb σ H1 λy H2=>r x y H2 λz H3=>∃k,z= .bl k /\
 (if k=true then tc σ H3 λw' H4=>r' y w' H4 Q else Q (.bl false) H3)
theorem WX{Z:CmpOp}{p:R2}(ho:OpR X (eD op) r)(l:OpR X (eD Z) p)(ha:PE X a ta)(hb:PE X b tb)(hc:PE X c tc)
 (S:lastMarks [op,Z] [b,c]=false:=by with_unfolding_all rfl):PE X (.Compare a [op,Z] [b,c] pos) (Tp r p ta tb tc):=by
 intro Y s j H Q I h;refine Compare_chain (thn (ha Y s j H _ I h) λv s1 ⟨x,H1,I1,r1,q1⟩=>chain_link (thn (hb Y s1 j H1 _ I1 q1) λu L ⟨y,E,I2,o,q2⟩=>
  thn (ho Y L j E x y v u _ I2 r1 o q2) λd D ⟨z,q,B,r3,k,e,C⟩=>?_)) S
 subst e;cases r3;refine hJ ?_
 cases k with
 | false=>exact ite_ff ⟨.bl false,q,B,rfl,C⟩
 | true=>exact ite_tt (chain_last (thn (hc Y D j q _ B C) λR s4 i=>by obtain ⟨M,U,J,P,O⟩:=i;exact l Y s4 j U y M u R Q J o P O))
def acH(K:av)(x:V)(H:Hp)(k:Bool):Prop:=
 match x with
 | .non=>k=false
 | .bl b=>k=b
 | .int i=>k=(i != 0)
 | .str y=>y.length<=ba/\k=((y.length:Int) != 0)
 | .byt y=>y.size<=ba/\k=((y.size:Int) != 0)
 | .ref p=>(∃xs,SqL K H p xs/\k= !xs.isEmpty)\/(∃xs,SqT K H p xs/\k= !xs.isEmpty)\/∃x3,H p=some (.dK x3)/\k= !x3.isEmpty
 | _=>False
theorem OJ{Z:Type}{Y:List (Z×V)}{e:List (Z×a0)}(r:KV Y e):(!e.isEmpty)= !Y.isEmpty:=by
 cases r <;> rfl
theorem CP(r:xi xs us):(!us.toArray.isEmpty)= !xs.isEmpty:=by
 cases r <;> simp
theorem uT:(ba:Nat)<2^63:=by rw[sizeLine_eq];decide
theorem abL:afB X (λx H Q=>∃k,acH X.K x H k/\Q k H):=by
 rintro z s M H x v Q I j ⟨k,e,q⟩;have J:=uT;have L:=sizeLine_eq
 cases x with
 | non=>
  cases j;have Y:=e;subst Y;exact truthy_none ⟨H,I,q⟩
 | bl b=>
  cases j;have Y:=e;subst Y;exact hJ ⟨H,I,q⟩
 | int i=>
  obtain ⟨t,rfl⟩:=j;have Y:=e;subst Y;exact PySem.P.truthy_int ⟨H,I,q⟩
 | str y=>
  obtain ⟨t,rfl⟩:=j;obtain ⟨C,Y⟩:y.length<=ba/\k=((y.length:Int) != 0):=e;subst Y;exact PySem.P.truthy_str (by lia) ⟨H,I.tok _,q⟩
 | byt y=>
  obtain ⟨t,rfl⟩:=j;obtain ⟨C,Y⟩:y.size<=ba/\k=((y.size:Int) != 0):=e;subst Y;exact PySem.W.truthy_bytes (by lia) ⟨H,I.tok _,q⟩
 | ref p=>
  cases j;have Y:=e;rcases Y with ⟨E,l,Y⟩ | ⟨E,l,Y⟩ | ⟨o,l,Y⟩
  . subst Y;obtain ⟨u,r,pl,B⟩:=I.list l;have Z:=r.length;exact wpAny_truthy_list pl.isList (by simp only[c8];lia) ⟨H,I.tok _,by rw[CP r];exact q⟩
  . subst Y;obtain ⟨u,r,pl,B⟩:=I.tuple l;have Z:=r.length;exact truthy_tuple pl (by simp only[c8];lia) ⟨H,I.tok _,by rw[CP r];exact q⟩
  . subst Y;obtain ⟨B,D,vs,r,m⟩:o.length<=ba/\(p == fb)=false/\∃vs,KV o vs/\s.heap.DictOf (bZ X.prog X.w) p vs:=I.xw p _ l;have Z:=hX.length r;exact wpAny_truthy_dict D m (by lia) ⟨H,I.tok _,by rw[OJ r];exact q⟩
 | _=>exact (e).elim
theorem Wv(p:PE X a ta)(o:∀whole,wq a X.env whole=(do let v <- whole;standAt a.pos;holding [v] (truthy v))) :
 PT X a (λσ H Q=>ta σ H λx H'=>∃k,acH X.K x H' k/\Q k H'):=by
 intro Y s σ H Q I h;exact isTrue_plain (thn (p Y s σ H _ I h) λv e Z=>by obtain ⟨x,j,i,l,q⟩:=Z;exact abL Y e σ j x v Q i l q) (o _)
theorem QB:OpR X (fv .Add) (λx y H Q=>∃i j,x= .str i/\y= .str j/\i.length+j.length<=ba/\Q (.str (i++j)) H):=by
 rintro Y s r H x y v u Q I Z e ⟨i,j,rfl,rfl,o,q⟩;obtain ⟨t,rfl⟩:=Z;obtain ⟨l,rfl⟩:=e;exact add_str (λl p=>⟨.str (i++j),H,I.tok _,⟨_,rfl⟩,q⟩) o
theorem vals1(r:xi [v] us):∃u,us=[u]/\xh v u:=by
 cases r with
 | cons Z Y=>cases Y;exact ⟨_,rfl,Z⟩
theorem vals2{y:V}(r:xi [v,y] us):∃u w',us=[u,w']/\xh v u/\xh y w':=by
 cases r with
 | cons Z Y=>
  cases Y with
  | cons i e=>cases e;exact ⟨_,_,rfl,Z,i⟩
theorem Tw(e:X.calm=true):fJ X (.builtin "min") (λxs H Q=>∃i j,xs=[.int i,.int j]/\Q (.int (if j<i then j else i)) H):=by
 rintro Z s B H xs v Q I r ⟨i,j,rfl,q⟩;obtain ⟨u,p,rfl,⟨t,rfl⟩,⟨z,rfl⟩⟩:=vals2 r;refine min_two_ints (I.ok.hd e) λo l k=>⟨_,H,I.kept k,?_,q⟩
 by_cases Y:j<i
 . rw[if_pos Y,if_pos Y];exact ⟨_,rfl⟩
 . rw[if_neg Y,if_neg Y];exact ⟨_,rfl⟩
end
theorem nU.some_of{o:B7}(r:nU (some v) o):∃u,o=some u/\xh v u:=by
 cases o with
 | none=>exact (r).elim
 | some u=>exact ⟨u,rfl,r⟩
structure dB (k:Nat) (A:g9):Prop where
 hd:A.handled=none
 dp:A.depth+3*k+5<recursionLimit
 un:A.units+16*k+200<h7
theorem dB.mono(r:dB i A)(h:t'<=i):dB t' A:=⟨r.hd,by have:=r.dp;lia,by have:=r.un;lia⟩
theorem dB.deeper(r:dB (t'+1) A)(env:Env):dB t' (A.deeper env):=
 ⟨r.hd,by have:=r.dp;show A.depth+1+3*t'+5<_;lia,by have:=r.un;show A.units+3+16*t'+200<_;lia⟩
theorem dB.depth(r:dB t' A):A.depth<recursionLimit:=by have:=r.dp;lia
theorem dB.units(r:dB t' A):A.units+64<h7:=by have:=r.un;lia
def afd:TA:=λ_ H Q=>Q [] H
def aeg(ta:TE)(tr:TA):TA:=λσ H Q=>ta σ H λx H1=>tr σ H1 λxs H2=>Q (x::xs) H2
section
variable    {te:TE}{t:TA}
theorem eG:PA X [] afd:=λ_ _ _ _ H Q I h=>Calls.spliced_nil ⟨[],H,I,.nil,h⟩
theorem bV(D:PE X e te)(E:PA X es t)(hs:dc (e::es) X.env=(false,eval e X.env)::dc es X.env:=by rfl):PA X (e::es) (aeg te t):=by
 intro i Z s j H Q I h;rw[hs];exact Calls.spliced_cons (thn (D Z s j H _ I h) λu l Y=>by obtain ⟨x,v,q,z,J⟩:=Y;exact thn (E i Z l j v _ q J) λM L Y=>by obtain ⟨B,p,o,r,C⟩:=Y;exact ⟨x::B,p,o,.cons z r,C⟩)
def ae8(t:TA):TE:=λσ H Q=>t σ H λxs H1=>xs.length<=ba/\∀p,H1 p=none->Q (.ref p) (xk H1 p (.tup xs))
def aeU(t:TA):TE:=λσ H Q=>t σ H λxs H1=>xs.length<=ba/\∀p,H1 p=none->Q (.ref p) (xk H1 p (.lst xs))
theorem aci{x1}(h:PA X es t):PE X (.Tuple es x1 pos) (ae8 t):=by
 intro Y s v H Q I l;refine wpAny_Tuple_spliced (thn (h pos Y s v H _ I l) λp Z ⟨o,B,i,r,z,q⟩=>⟨by rw[<- r.length];exact z,?_⟩);have j:=i.xw.fresh (ax _);refine ⟨.ref Z.heap.objs.size,xk B Z.heap.objs.size (.tup o),i.laid (λb u e=>aE _ e) (ax _) ?_,rfl,q _ j⟩;exact ⟨z,p,r,⟨_,cn _ rfl,rfl,_,rfl⟩⟩
theorem acs(h:PA X es t):PE X (.List es pos) (aeU t):=by
 intro Y s v H Q I l;refine wpAny_List_spliced (thn (h pos Y s v H _ I l) λp Z ⟨o,B,i,r,z,q⟩=>⟨by rw[<- r.length];exact z,?_⟩);have j:=i.xw.fresh (ax _);refine ⟨.ref Z.heap.objs.size,xk B Z.heap.objs.size (.lst o),i.laid (λb u e=>aE _ e) (ax _) ?_,rfl,q _ j⟩;exact ⟨z,p,0,r,cn _ rfl⟩
end
abbrev Sp:=C0->Hp->VK->XK->Prop
abbrev CXT:=C6->Hp->cq->XK->a0->cq->Prop
structure Qu (P:fq) (w:i8) (K:av) (mg:Str->B7) (base:Heap) (A:g9) (xD:C6) (s:cq) (H:Hp):Prop where
 frames:A.frames=some xD
 mod:Mod K mg base
 bs:∀b o,base.get? b=some o->s.heap.get? b=some o/\H b=none
 bsz:base.objs.size<=s.heap.objs.size
 rP:s.heap.FunFrames base xD
 frf:∀b∈frs xD,H b=none
 xw:HOk P w H s.heap
 bare:sh s.gens
 tabs:∀P,TabAt K mg P->H P=some (.tbl jc)
def CE(xD:C6)(P:fq)(w:i8)(H:Hp)(s:cq)(Q:VK)(u:a0)(s':cq):Prop:=
 ∃v H',s'.os=s.os/\sh s'.gens/\Un (frs xD) [] H H' s.heap s'.heap/\HOk P w H' s'.heap/\xh v u/\Q v H'
def CR(CX:CXT)(xD:C6)(P:fq)(w:i8)(H:Hp)(s:cq)(Q:VK)(E:XK)(r:Result)(s':cq):Prop:=
 match r with
 | .ok (.ret u)=>CE xD P w H s Q u s'
 | .ok _=>False
 | .error e=>CX xD H s E e s'
structure rJ (P:fq) (w:i8) (K:av) (mg:Str->B7) (base:Heap) (CX:CXT) (k:Nat) (f:Addr) (fd:lP) (ps:B6) (sp:Sp):Prop where
 len:∀vs H Q E,sp vs H Q E->vs.length=ps.length
 run:∀(A:g9) (xD:C6) (s:cq) (H:Hp) (args:Args) (us:B8) (vs:C0) (Q:VK) (E:XK),dB k A->Qu P w K mg base A xD s H->BindsTo s fd args (ps.zip us)->xi vs us->sp vs H Q E ->
  uu (dt P w) A (.call (.ref f) args) (CR CX xD P w H s Q E) s
theorem x9.env0(I:x9 X x2 σ H s):Qu X.prog X.w X.K X.mg X.base X.A X.stack s H:=
 ⟨I.ok.frames,I.ok.mod,I.bs,cS I.ok.bsz I.sz,I.stack,I.MJ,I.xw,I.bare,λP h=>I.base.kE _ _ (I.ok.tabs P h)⟩
theorem x9.after{Q:VK}(I:x9 X x2 σ H s)(h:CE X.stack X.prog X.w H s Q u s'):EP X x2 σ Q u s':=by
 obtain ⟨v,Z,os,bare,un,xw,r,q⟩:=h;obtain ⟨hh,g,d,t,Y⟩:=s';obtain rfl:Y=s.os:=os;exact ⟨v,Z,I.call un xw bare (λb z=>absurd z (by simp)),r,q⟩
def X5(sp:Sp)(dvs:C0)(E:XK)(t:TA):TE:=λσ H Q=>t σ H λvs H1=>sp (vs++dvs) H1 Q E
def Binds(K:av)(fd:lP)(ps:B6)(ds:B8):Prop:=
 ∀(s:cq) (us:B8),K.In s.heap->(us++ds).length=ps.length->BindsTo s fd ⟨us,[]⟩ (ps.zip (us++ds))
variable {ps:B6}
theorem Binds.all{fd:lP}(h:∀us:B8,us.length=ps.length->iA fd ⟨us,[]⟩=pure (ps.zip us)):Binds K fd ps []:=λs us _ Y=>by
 rw[cK] at Y ⊢;exact .of_eq (h us Y)
def Passes(CX:CXT)(X:Cx)(E:XK):Prop:=∀(x2:A7) (σ:St) (H:Hp) (s:cq) (e:a0) (s':cq),x9 X x2 σ H s->CX X.stack H s E e s'->X.xe e s'
section
variable  {CX:CXT}{k:Nat}{f C:Addr}{fd:lP}  {sp:Sp}{dvs:C0}{ds:B8}{E:XK}{m:Str}{p apos:Pos}{o:Expr}  {ta:TE}{t:TA}
theorem acE{Q:VK}(F:rJ X.prog X.w X.K X.mg X.base CX k f fd ps sp)(p:dB k X.A)(o:Binds X.K fd ps ds)(hd:xi dvs ds)(i:Passes CX X E)
 (I:x9 X x2 σ H s) (r:xi xs us) (h:sp (xs++dvs) H Q E):de (dt X.prog X.w) X.A (call (.ref f) us) (EP X x2 σ Q) X.xe s:=by
 have Z:=r.append hd;have l:(us++ds).length=ps.length:=by rw[<- Z.length];exact F.len _ _ _ _ h
 refine wpAny_call (codeAny_mono (F.run X.A X.stack s H ⟨us,[]⟩ (us++ds) (xs++dvs) Q E p I.env0 (o s us I.kIn l) Z h) λr j Y=>?_)
 cases r with
 | error e=>exact i x2 σ H s e j I Y
 | ok fl=>
  cases fl with
  | ret u=>exact I.after Y
  | next=>exact ki Y
  | brk=>exact ki Y
  | cont=>exact ki Y
theorem Y4(F:rJ X.prog X.w X.K X.mg X.base CX k f fd ps sp)(C:dB k X.A)(l:Gl X x)(v:X.mg x=some (.ref f))(z:jS X.K (.ref f)=true)(o:Binds X.K fd ps ds)(hd:xi dvs ds)(u:Passes CX X E)
 (B:PA X (e::es) t) (i:nD x:=by decide) (J:dc (e::es) X.env=(false,eval e X.env)::dc es X.env:=by rfl) (Z:(lS pos (dc es X.env)).any (·.1)=false:=by rfl) :
 PE X (.Call (.Name x p) (e::es) [] pos) (X5 sp dvs E t):=by
 intro Y s D H Q I h;refine n5 (NK I l v ?_ i);refine PySem.W.callWith_K I.ok.mod.kin z (thn (B pos Y s D H _ I h) λM L ⟨O,P,j,r,q⟩=>⟨j.kIn,?_⟩) J Z;exact acE F C o hd u j r q
end
def PK(X:Cx)(kws:List nK)(t:TA):Prop:=
 ∀(pos:Pos) (x2:A7) (s:cq) (σ:St) (H:Hp) (Q:C0->Hp->Prop),x9 X x2 σ H s->t σ H Q->de (dt X.prog X.w) X.A (evalAll ((tj pos (oj kws X.env)).map (·.2))) (AP X x2 σ Q) X.xe s
structure cM (N P:B6) (sc:rX):Prop where
 kind:sc.kind= .function
 co:sc.isCoroutine=false
 gen:sc.isGenerator=false
 nd:N.Nodup
 pre:N.take P.length=P
 par:∀x∈P,sc.names.lookup x=some .local\/sc.names.lookup x=some .cell
 adh:∀y∈sc.names,y.2 ≠ .free
theorem Gh{kindOf:Str->Option iE}:∀{binds:List (Str×a0)}{m:Str->B7},(∀v,(x,v)∉binds)->bindL kindOf binds m x=m x
 | [],_,_=>rfl
 | (n,v)::r,m,h=>by
  rw[bindL,Gh λw Y=>h w (bq _ Y)];split
  . have:x≠n:=by rintro rfl;exact h v bg
    simp[this]
  . rfl
theorem Gw{kindOf:Str->Option iE}:∀{binds:List (Str×a0)}{m:Str->B7},(∀v,(x,v)∉binds)->bindC kindOf binds m x=m x
 | [],_,_=>rfl
 | (n,v)::r,m,h=>by
  rw[bindC,Gw λw Y=>h w (bq _ Y)];split
  . rfl
  . have:x≠n:=by rintro rfl;exact h v bg
    simp[this]
theorem Gd{kindOf:Str->Option iE}:∀{P:B6}{vs:B8}{i:Nat}{m:Str->B7},P.Nodup->P[i]?=some x->vs[i]?=some u->kindOf x=some .local ->
 bindL kindOf (P.zip vs) m x=some u
 | [],_,_,_,_,h,_,_=>by simp at h
 | _::_,[],_,_,_,_,h,_=>by simp at h
 | p::P,w::vs,0,m,nd,Z,Y,e=>by
  simp at Z Y;subst Z;subst Y;show bindL kindOf ((p,w)::P.zip vs) m p=_;rw[bindL,Gh λu j=>(k6.mp nd).1 (vE j).1,if_pos e];simp
 | p::P,w::vs,i+1,m,nd,Z,Y,e=>by
  unfold bindL;exact Gd (k6.mp nd).2 (by simpa using Z) (by simpa using Y) e
theorem Fv{kindOf:Str->Option iE}:∀{P:B6}{vs:B8}{i:Nat}{m:Str->B7},P.Nodup->P[i]?=some x->vs[i]?=some u->kindOf x≠some .local ->
 bindC kindOf (P.zip vs) m x=some u
 | [],_,_,_,_,h,_,_=>by simp at h
 | _::_,[],_,_,_,_,h,_=>by simp at h
 | p::P,w::vs,0,m,nd,Z,Y,e=>by
  simp at Z Y;subst Z;subst Y;show bindC kindOf ((p,w)::P.zip vs) m p=_;rw[bindC,Gw λu j=>(k6.mp nd).1 (vE j).1,if_neg e];simp
 | p::P,w::vs,i+1,m,nd,Z,Y,e=>by
  unfold bindC;exact Fv (k6.mp nd).2 (by simpa using Z) (by simpa using Y) e
noncomputable def start(N:B6)(vs:C0):St:=vs.map some++aw (N.length - vs.length) none
noncomputable def mq(CX:CXT)(P:fq)(w:i8)(K:av)(mg:Str->B7)(base:Heap)(N:B6)(qual:Str)(scope:rX)(f:Addr)(cd:a0)(A:g9)(xD:C6)(s:cq)(H:Hp)(E:XK):Cx where
 prog:=P
 w:=w
 K:=K
 mg:=mg
 base:=base
 A:=A.deeper (mB qual scope s.heap.objs.size f cd)
 N:=N
 s₀:=s
 H₀:=H
 env:=mB qual scope s.heap.objs.size f cd
 xD:=xD
 stack:=mB qual scope s.heap.objs.size f cd::xD
 ex:=[]
 calm:=true
 fn:=λ_=>true
 pn:=[]
 xe:=λe s'=>de (dt P w) (A.deeper (mB qual scope s.heap.objs.size f cd)) (leaving (mB qual scope s.heap.objs.size f cd) e) (λ_ s''=>CX xD H s E e s'') (λe' s''=>CX xD H s E e' s'') s'
theorem Ko{Y:rX}{n:Nat}(h:Y.names.lookup x=some .cell):∃c,(i4 n Y.names []).lookup x=some c:=by
 have q:=ma Y.names n [] (.inl h);exact fS.mp q
variable {mg:Str->B7}
theorem Ru{CX:CXT}{base:Heap}{Z:Str}{Y:rX}{f:Addr}{I:a0}{xD:C6}{s1:cq}{E:XK}
 (S:cM N ps Y) (hd:A.handled=none) (l:Qu P w K mg base A xD s H) (hl:xs.length=ps.length) (r:xi xs us)
 (x:InCallC s s.heap.objs.size (bindL (mB Z Y s.heap.objs.size f I).kindOf (ps.zip us) λ_=>none) (i4 (s.heap.objs.size+1) Y.names []) (bindC (mB Z Y s.heap.objs.size f I).kindOf (ps.zip us) λ_=>none) s1) :
 x9 (mq CX P w K mg base N Z Y f I A xD s H E) [] (start N xs) H s1:=by
 have O:ps.length<=N.length:=by have:=congrArg List.length S.pre;rw[cp] at this;lia
 obtain ⟨J,tk,rfl,M⟩:=x.done;have o:∀b:Addr,b∉(mq CX P w K mg base N Z Y f I A xD s H E).ex:=λb z=>absurd (show b∈([]:C2) from z) (by simp);refine ⟨⟨l.mod,S.kind,rfl,rfl,ax _,λy z c J j=>?_,λy hy=>?_,λy c _ h=>?_,λ_=>hd,Around.frames_deeper l.frames,.inr ⟨rfl,rfl⟩,λb z=>absurd z (o b),l.bs,l.bsz,λb _ _=>o b,λb z=>absurd z (o b),l.rP,l.frf,l.tabs⟩,
  rfl,l.bare,Un.kept M,⟨_,x.toInCall.ns,λi y v J j U=>?_⟩,λy c h=>⟨_,x.cell y c h⟩,l.xw.fresh (ax _),λy c h=>?_,λp B=>absurd (show p∈([]:A7) from B) (by simp),l.xw.kept M,?_⟩
 . exact name_of_addr x.apart (fe J) (fe j)
 . have hy:Y.names.lookup y=some .cell\/Y.names.lookup y=some .free:=hy;rcases hy with hy | hy
   . exact Ko hy
   . exact absurd rfl (S.adh _ (fe hy))
 . exact kA (x.above y c (fe h))
 . have D:i<xs.length:=by
    unfold start at j
    by_cases D:i<xs.length
    . exact D
    . rw[be (by simpa using D)] at j;rw[gu] at j;split at j <;> cases j
   have Q:xs[i]?=some v:=by
    unfold start at j;rw[bX (by simpa using D),a8] at j
    cases e:xs[i]? with
    | none=>rw[e] at j;cases j
    | some a=>rw[e] at j;cases j;rfl
   obtain ⟨u,L,R⟩:=r.get Q;have B:ps[i]?=some y:=by
    rw[<- S.pre,ja (by lia)];exact J
   have C:ps.Nodup:=by rw[<- S.pre];exact S.nd.sublist (List.take_sublist _ _)
   refine ⟨u,R,?_⟩;rcases S.par y (dA B) with k | k
   . exact .inl ⟨k,Gd C B L k⟩
   . obtain ⟨c,e⟩:=Ko (n:=s.heap.objs.size+1) k;refine .inr ⟨.inl k,c,e,?_⟩;have q:=x.cell y c e;rw[Fv C B L (by show Y.names.lookup y≠_;rw[k];decide)] at q;exact q
 . exact l.xw.fresh (kA (x.above y c (fe h)))
 . unfold start;show _=N.length;rw[ar,af,br];lia
theorem X6{CX:CXT}{name Z:Str}{j:Arguments}{Y:rX}{U kV B pm i ct oc:a0}{an od:C4}
 {L:Array B7}{sp:Sp} (lk:K.lookup a=some ⟨oc,od,.func (d4 name Z j body Y U kV B pm an i ct),L⟩) (O:kK K i Z=true) (S:cM N ps Y)
 (len:∀vs H Q E,sp vs H Q E->vs.length=ps.length)
 (hbody:∀(A:g9) (xD:C6) (s:cq) (H:Hp) (vs:C0) (Q:VK) (E:XK),dB t' (A.deeper (mB Z Y s.heap.objs.size a i))->sp vs H Q E ->
  ∃t,PSs (mq CX P w K mg h N Z Y a i A xD s H E) body t/\t { nx:=λ_ H'=>Q .non H',rt:=Q } (start N vs) H) :
 rJ P w K mg h CX (t'+1) a (d4 name Z j body Y U kV B pm an i ct) ps sp:=by
 refine ⟨len,λA xD s H args us vs Q E M C hb r D=>?_⟩;have hl:=len _ _ _ _ D;have KX:K.In s.heap:=C.mod.kin.keeps λb o e=>(C.bs b o e).1;have lim:s.heap.NoLimit:=C.mod.nolimit.keeps λb o e=>(C.bs b o e).1;have p:∀y∈ps.zip us,Y.names.lookup y.1=some .local\/(Y.names.lookup y.1=some .cell/\((i4 (s.heap.objs.size+1) Y.names []).lookup y.1).isSome=true):=λ⟨n,v⟩ hy=>by
  rcases S.par n (vE hy).1 with q | q
  . exact .inl q
  . exact .inr ⟨q,ma _ _ _ (.inl q)⟩
 refine codeAny_call_function M.depth (KX _ _ lk) rfl S.co S.gen rfl (PySem.W.codeRec_of KX O) (hb _ _ _ _ ?_);refine wpAny_newFunctionEnv_cells S.kind p λenv he s1 x=>?_;subst he;refine ⟨lim.keeps x.toInCall.keep,codeAny_func ?_⟩;obtain ⟨t,ht,hq⟩:=hbody A xD s H vs Q E (M.deeper _) D;have I:x9 (mq CX P w K mg h N Z Y a i A xD s H E) [] (start N vs) H s1:=Ru S M.hd C hl r x;refine fy (ht [] s1 (start N vs) H _ I hq) (λfl s' z=>?_) λe s' z=>z;have fin:∀{l:St}{H':Hp}{v:V}{u:a0},x9 (mq CX P w K mg h N Z Y a i A xD s H E) [] l H' s'->xh v u->Q v H'->CE xD P w H s Q u s':=
  λ{l H' v u} J R q=>⟨v,H',J.os,J.bare,J.base,J.xw,R,q⟩
 cases fl with
 | ret u=>
  obtain ⟨v,l,H',J,R,q⟩:=z;exact fin J R q
 | next=>
  obtain ⟨l,H',J,q⟩:=z;exact fin (v:=V.non) (u:=a0.none) J rfl q
 | brk=>
  obtain ⟨_,_,_,q⟩:=z;exact ki q
 | cont=>
  obtain ⟨_,_,_,q⟩:=z;exact ki q
section
variable   {p:Pos}   {t:TA}{id T:String}{r:C0->Hp->VK->Prop}
def tCB(r:C0->Hp->VK->Prop)(t:TA):TE:=λσ H Q=>t σ H λvs H1=>r vs H1 Q
theorem Kc(P:fJ X (.builtin id) r)(v:Gl X x)(J:X.mg x=none)(q:eh x=some (.builtin id))(M:PA X (e::es) t)(z:x ≠ "__name__" := by decide)(j:nD x:=by decide)
 (E:dc (e::es) X.env=(false,eval e X.env)::dc es X.env:=by rfl) (i:(lS pos (dc es X.env)).any (·.1)=false:=by rfl):PE X (.Call (.Name x p) (e::es) [] pos) (tCB r t):=by
 intro Y s l H Q I h;refine n5 (m7 I v J q ?_ z j);exact PyProof.Rows.callWith_builtin1 (thn (M pos Y s l H _ I h) λD o Z=>by obtain ⟨L,B,u,C,O⟩:=Z;exact P Y o l B L D Q u C O) E i
theorem sY(P:fJ X (.type T) r)(v:Gl X x)(J:X.mg x=none)(q:eh x=some (.type T))(M:PA X (e::es) t)(z:x ≠ "__name__" := by decide)(j:nD x:=by decide)
 (E:dc (e::es) X.env=(false,eval e X.env)::dc es X.env:=by rfl) (i:(lS pos (dc es X.env)).any (·.1)=false:=by rfl):PE X (.Call (.Name x p) (e::es) [] pos) (tCB r t):=by
 intro Y s l H Q I h;refine n5 (m7 I v J q ?_ z j);exact gc (thn (M pos Y s l H _ I h) λD o Z=>by obtain ⟨L,B,u,C,O⟩:=Z;exact P Y o l B L D Q u C O) E i
end
end Zq
namespace HT
open PySem PyProof.Rows
section
variable {prog:fq}{w:i8}{A:g9}{E:a0->cq->Prop}{s:cq}
theorem ZC{t b:Addr}{Z ws:List a0}{Q:a0->cq->Prop}(H:vv s.heap t Z.toArray)(I:vv s.heap b ws.toArray)(u:Z≠[])
 (L:ws=[]->Q (.ref t) s) (J:ws≠[]->Q (.ref s.heap.objs.size) { s with heap:=s.heap.push { cls:=.type "tuple",data:=.seq (Z++ws).toArray } })
 (r:Z.length+ws.length<=ba):de (dt prog w) A (fv .Add (.ref t) (.ref b)) Q E s:=by
 obtain ⟨⟨cls,v,data,D⟩,p,B,n,hd⟩:=id H;obtain ⟨⟨z,i,data2,j⟩,Y,l,C,o⟩:=id I;simp only at B hd l o;subst B hd l o;have e:Z.toArray++ws.toArray=(Z++ws).toArray:=by simp
 by_cases q:ws=[]
 . exact uS ⟨_,p,rfl⟩ ⟨_,Y,rfl⟩ tm seq_tuple_add ox om (ny _ _)
    (tuple_addW1 t b Z.toArray ws.toArray n C v i D j (by simpa using u) (by simp[q])) ⟨p,Y,L q⟩
 . refine uS ⟨_,p,rfl⟩ ⟨_,Y,rfl⟩ tm seq_tuple_add ox om (ny _ _)
    (tuple_addW2 t b Z.toArray ws.toArray n C v i D j (by simpa using u) (by simpa using q) (by rw[c8,c8];exact r)) ⟨p,Y,?_⟩
   rw[e];exact J q
noncomputable def sIx(n d:Nat):Option Int->Nat
 | none=>d
 | some v=>if v<0 then (v+(n:Int)).toNat else min v.toNat n
theorem V3(n d:Nat):sIx n d none=d:=rfl
theorem ZR(n d k:Nat):sIx n d (some (k:Int))=min k n:=by
 show (if (k:Int)<0 then ((k:Int)+(n:Int)).toNat else min (k:Int).toNat n)=min k n;rw[if_neg (by lia),cc]
theorem ade(n d:Nat)(hd:d<=n)(o:Option Int):sIx n d o<=n:=by
 cases o with
 | none=>exact hd
 | some v=>
  show (if v<0 then (v+(n:Int)).toNat else min v.toNat n)<=n
  by_cases Y:v<0
  . rw[if_pos Y];lia
  . rw[if_neg Y];exact tp _ _
theorem Oc(v:Int)(n d:Nat):(if v<0 then max (v+(n:Int)) 0 else min v (n:Int))=((sIx n d (some v):Nat):Int):=by
 show (if v<0 then max (v+(n:Int)) 0 else min v (n:Int))=(((if v<0 then (v+(n:Int)).toNat else min v.toNat n):Nat):Int)
 by_cases Y:v<0
 . simp only[if_pos Y];lia
 . simp only[if_neg Y];lia
theorem QK(lo Y:Option Int)(n:Nat):ng lo Y 1 (n:Int)=(((sIx n 0 lo:Nat):Int),((sIx n n Y:Nat):Int)):=by
 have Z:¬ ((1:Int)<0):=by lia
 unfold ng;simp only[if_false];refine Prod.ext ?_ ?_
 . cases lo with
   | none=>rfl
   | some v=>exact Oc v n 0
 . cases Y with
   | none=>rfl
   | some v=>exact Oc v n n
theorem Qq(i j:Nat):kR (i:Int) (j:Int) 1=j - i:=by
 unfold kR;have Y:1 > 0:=by lia
 split <;> lia
theorem BP{v:a0}{o:Option Int}{Q:Option Int->cq->Prop}(p:u7 v o)(h:Q o s):de (dt prog w) A (Builtin.Slice.slicePartIndex v) Q E s:=by
 cases p with
 | none=>exact slicePart_none h
 | int i t=>exact slicePart_int h
theorem rN{j:Addr}{l i:a0}{lo Z:Option Int}{n:Nat}{Q:Int×Int×Nat->cq->Prop}(hs:s.heap.IsSliceOf j l i .none)(pl:u7 l lo)(p:u7 i Z)
 (h:Q (((sIx n 0 lo:Nat):Int),1,sIx n n Z - sIx n 0 lo) s):de (dt prog w) A (Builtin.Slice.sliceApplied (.ref j) (pure (n:Int))) Q E s:=by
 obtain ⟨os,Y,o,e⟩:=id hs;refine ag (ag (hW Y e rfl (ag (hW Y e rfl (ag (hW Y e rfl (a9 (ag (slicePart_none ?_)))))))));rw[if_neg (by decide)];refine ag (BP pl (ag (BP p (ag (a9 ?_)))));show de _ _ (match ng lo Z 1 (n:Int) with | (lo,Z)=>pure (lo,(1:Int),kR lo Z 1)) _ _ s;rw[QK lo Z n];show de _ _ (pure (((sIx n 0 lo:Nat):Int),(1:Int),kR ((sIx n 0 lo:Nat):Int) ((sIx n n Z:Nat):Int) 1)) _ _ s;rw[Qq];exact a9 h
theorem WQ(xs:Array a0)(i k:Nat):((List.range k).filterMap λ(m:Nat)=>xs[((i:Int)+(m:Int)*1).toNat]?).toArray=((xs.toList.drop i).take k).toArray:=by
 have e:(λ(m:Nat)=>xs[((i:Int)+(m:Int)*1).toNat]?)=λm=>xs[i+m]?:=by
  funext m;have:((i:Int)+(m:Int)*1).toNat=i+m:=by lia
  rw[this]
 rw[e];have:=pick_run xs i k;rw[List.filterMap_map] at this;have Y:((λx=>xs[x]?)∘λx=>i+x)=λm=>xs[i+m]?:=rfl;rw[Y] at this;rw[this]
theorem zJ{t r:Addr}{Y:Array a0}{v u:a0}{lo e:Option Int}{Q:a0->cq->Prop}(i:vv s.heap t Y)(hs:s.heap.IsSliceOf r v u .none)(pl:u7 v lo)(B:u7 u e)
 (D:¬ (sIx Y.size 0 lo=0/\sIx Y.size Y.size e=Y.size))
 (h:Q (.ref s.heap.objs.size) { s with heap:=s.heap.push { cls:=.type "tuple",data:=.seq ((Y.toList.drop (sIx Y.size 0 lo)).take (sIx Y.size Y.size e - sIx Y.size 0 lo)).toArray } })
 (z:Y.size<=ba):de (dt prog w) A (nL (.ref t) (.ref r)) Q E s:=by
 have Z:sizeOk (.seq ((Y.toList.drop (sIx Y.size 0 lo)).take (sIx Y.size Y.size e - sIx Y.size 0 lo)).toArray):=by
  show ((Y.toList.drop (sIx Y.size 0 lo)).take (sIx Y.size Y.size e - sIx Y.size 0 lo)).toArray.size<=ba;rw[c8,cp,lT,ly];lia
 have I:sIx Y.size Y.size e<=Y.size:=ade _ _ (ax _) e;obtain ⟨os,j,p,C⟩:=id hs;have o:s.TypeIs (.ref r) "slice" := ⟨os,j,p⟩;unfold nL
 try with_reducible refine kF ?_
 first | refine ag (a9 ?_) | skip
 refine ag (sj i.typeIs (by decide) ?_);refine ag (fh (name:=Str.ofString "__getitem__") i.typeIs eM
  (fi eM i.typeIs entry_tuple_getitem ?_ (args_tuple_getitem _ _)))
 show de _ _ (mE (.ref t) >>= _) _ _ s;refine ag (tupleItemsOf_ i ?_);refine ag (va o ?_);rw[if_pos (by decide)];refine ag (rN hs pl B ?_);have l:¬ ((((sIx Y.size 0 lo:Nat):Int) == 0&&(1:Int) == 1&&(sIx Y.size Y.size e - sIx Y.size 0 lo) == Y.size)=true):=by
  intro q;rw[c9,c9] at q;have H:((sIx Y.size 0 lo:Nat):Int)=0:=eq_of_beq q.1.1;have J:sIx Y.size Y.size e - sIx Y.size 0 lo=Y.size:=eq_of_beq q.2;exact D ⟨by lia,by lia⟩
 show de _ _ (if (((sIx Y.size 0 lo:Nat):Int) == 0&&(1:Int) == 1&&(sIx Y.size Y.size e - sIx Y.size 0 lo) == Y.size)=true then _ else _) _ _ s;rw[if_neg l,WQ]
 first
  | exact ag (m:=lj _) (j3 (a9 ⟨_,rfl,a9 h⟩) Z)
  | exact ag (m:=lj _) (j3 (ag (a9 (a9 ⟨_,rfl,a9 h⟩))) Z)
  | exact ag (ag (m:=lj _) (j3 (a9 (a9 ⟨_,rfl,a9 h⟩)) Z))
  | exact ag (ag (m:=lj _) (j3 (a9 ⟨_,rfl,a9 h⟩) Z))
end
end HT
namespace Zq
open PySem PySem.Spec PyProof.Rows
abbrev TO:=St->Hp->(C3->Hp->Prop)->Prop
def PO(X:Cx)(e:Option Expr)(t:TO):Prop:=
 ∀(x2:A7) (s:cq) (σ:St) (H:Hp) (Q:C3->Hp->Prop),x9 X x2 σ H s->t σ H Q ->
  de (dt X.prog X.w) X.A (evalPart e X.env) (λu s'=>∃o H',x9 X x2 σ H' s'/\u7 u o/\Q o H') X.xe s
def Zu:TO:=λ_ H Q=>Q none H
def aeF(t:TE):TO:=λσ H Q=>t σ H λx H1=>∃i,x= .int i/\Q (some i) H1
variable {xs:C0}{us:B8}
section
variable {X:Cx}{e:Expr}{te:TE}{lo hi:Option Expr}{tl th:TO}{pos p2:Pos}
theorem Y8:PO X none Zu:=by
 intro Y s Z H Q I h;rw[evalPart_none];exact a9 ⟨none,H,I,.none,h⟩
theorem aaB(h:PE X e te):PO X (some e) (aeF te):=by
 intro Z s r H Q I j;rw[evalPart_some];refine thn (h Z s r H _ I j) λu z Y=>?_;obtain ⟨x,o,l,p,v⟩:=Y;obtain ⟨i,rfl,q⟩:=v;obtain ⟨t,rfl⟩:=p;exact ⟨some i,o,l,.int i t,q⟩
def SlR(X:Cx)(r:V->C3->C3->Hp->VK->Prop):Prop:=
 ∀(x2:A7) (s:cq) (σ:St) (H:Hp) (x:V) (v vl vu:a0) (lo hi:C3) (sl:Addr) (Q:VK),x9 X x2 σ H s->xh x v->s.heap.IsSliceOf sl vl vu .none->u7 vl lo->u7 vu hi->r x lo hi H Q ->
  ∃T id,typeLookup (.type T) "__getitem__"= pure (some (.builtin id))/\s.TypeIs v T/\de (dt X.prog X.w) X.A (nL v (.ref sl)) (EP X x2 σ Q) X.xe s
def tSl(r:V->C3->C3->Hp->VK->Prop)(te:TE)(tl th:TO):TE:=λσ H Q=>te σ H λx H1=>tl σ H1 λl H2=>th σ H2 λu H3=>r x l u H3 Q
theorem U6{r:V->C3->C3->Hp->VK->Prop}(L:SlR X r)(O:PE X e te)(S:PO X lo tl)(hu:PO X hi th):PE X (.Subscript e (.Slice lo hi none p2) pos) (tSl r te tl th):=by
 intro Y s j H Q I h;refine Subscript_ (thn (O Y s j H _ I h) λv P ⟨x,M,U,r1,q1⟩=>wpAny_Slice (thn (S Y P j M _ U q1) λp D ⟨l,B,R,pl,J⟩=>thn (hu Y D j B _ R J) λo Z i=>?_));obtain ⟨u,z,I3,E,q3⟩:=i;rw[evalPart_none];refine a9 ?_;have C:x9 X Y j z { Z with heap:=Z.heap.push { cls:=.type "slice",data:=.fields #[p,o,.none] } }:=I3.kept λb ob q=>aE _ q;obtain ⟨T,id,hT,ht,hg⟩:=L Y { Z with heap:=Z.heap.push { cls:=.type "slice",data:=.fields #[p,o,.none] } } j z x v p o l u Z.heap.objs.size Q C r1 (Heap.IsSliceOf.new ..) pl E q3;exact tail_any ht hT hg (by with_unfolding_all rfl)
noncomputable def wZ(xs:C0)(lo hi:C3):C0:=(xs.drop (HT.sIx xs.length 0 lo)).take (HT.sIx xs.length xs.length hi - HT.sIx xs.length 0 lo)
theorem zQ(xs:C0)(lo Y:C3):(wZ xs lo Y).length<=xs.length:=by
 rw[wZ,cp,lT];lia
def adL(K:av):V->C3->C3->Hp->VK->Prop:=λx lo hi H Q=>∃a xs,x= .ref a/\SqT K H a xs /\
 ¬ (HT.sIx xs.length 0 lo=0/\HT.sIx xs.length xs.length hi=xs.length)/\∀p,H p=none->Q (.ref p) (xk H p (.tup (wZ xs lo hi)))
theorem abX:SlR X (adL X.K):=by
 rintro o s M H x v E D lo j L Q I p z pl u ⟨a,Z,rfl,B,C,q⟩;cases p;obtain ⟨e,r,i,l⟩:=I.tuple B;have Y:e.toArray.size=Z.length:=by rw[c8];exact r.length.symm
 refine ⟨"tuple",_,eM.lookup,i.typeIs,?_⟩;refine HT.zJ i z pl u (by rw[Y];exact C) ?_ (by rw[Y];exact l);rw[Y];refine ⟨.ref s.heap.objs.size,_,I.laid (λb J q=>aE _ q) (ax _) ?_,rfl,q _ (I.xw.fresh (ax _))⟩;exact ⟨cS (zQ Z lo j) l,_,(r.drop (HT.sIx Z.length 0 lo)).take (HT.sIx Z.length Z.length j - HT.sIx Z.length 0 lo),vv.new _ _⟩
def aep(K:av):R2:=λx y H Q=>∃a b xs ys,x= .ref a/\y= .ref b/\SqT K H a xs/\SqT K H b ys/\xs≠[]/\xs.length+ys.length<=ba /\
 (ys=[]->Q (.ref a) H)/\(ys≠[]->∀p,H p=none->Q (.ref p) (xk H p (.tup (xs++ys))))
theorem xi.Dq(r:xi xs us):us=[]↔xs=[]:=by
 cases r with
 | nil=>simp
 | cons _ _=>simp
theorem Zk:OpR X (fv .Add) (aep X.K):=by
 rintro j s P H x y v u Q I l o ⟨a,b,M,O,rfl,rfl,E,r,C,i,J,D⟩;cases l;cases o;obtain ⟨B,Z,p,_⟩:=I.tuple E;obtain ⟨e,Y,p2,_⟩:=I.tuple r;refine HT.ZC p p2 (λz=>C (Z.Dq.mp z)) (λz=>⟨.ref a,H,I,rfl,J (Y.Dq.mp z)⟩) (λz=>?_) (by rw[<- Z.length,<- Y.length];exact i);refine ⟨.ref s.heap.objs.size,_,I.laid (λb L q=>aE _ q) (ax _) ?_,rfl,D (λw=>z (Y.Dq.mpr w)) _ (I.xw.fresh (ax _))⟩;exact ⟨by rw[ar];exact i,_,Z.append Y,vv.new _ _⟩
end
noncomputable def ixN(n:Nat)(i:Int):Option Nat:=if 0<=i then (if i<n then some i.toNat else none) else if -(n:Int)<=i then some (i+n).toNat else none
noncomputable def atI{α:Type}(xs:List α)(i:Int):Option α:=(ixN xs.length i).bind λj=>xs[j]?
theorem aay{n:Nat}{i:Int}{j:Nat}(h:ixN n i=some j):seqIndex? i n=some j/\j<n /\ -(n:Int)<=i/\i<n:=by
 unfold ixN at h
 by_cases Z:0<=i
 . rw[if_pos Z] at h
   by_cases Y:i<n
   . rw[if_pos Y] at h;have e:=Option.some.inj h;exact ⟨by rw[seqIndex_of Z Y,e],by lia,by lia,Y⟩
   . rw[if_neg Y] at h;cases h
 . rw[if_neg Z] at h
   by_cases Y : -n<=i
   . rw[if_pos Y] at h;have e:=Option.some.inj h;exact ⟨by rw[seqIndex_neg (by lia) Y,e],by lia,Y,by lia⟩
   . rw[if_neg Y] at h;cases h
theorem MK{α:Type}{xs:List α}{i:Int}{v:α}(h:atI xs i=some v):∃j,seqIndex? i xs.length=some j/\xs[j]?=some v/\j<xs.length /\ -(xs.length:Int)<=i/\i<xs.length:=by
 unfold atI at h
 cases e:ixN xs.length i with
 | none=>rw[e] at h;cases h
 | some j=>
  rw[e] at h;obtain ⟨l,Z,o,Y⟩:=aay e;exact ⟨j,l,h,Z,o,Y⟩
theorem Og{α:Type}{xs:List α}{j:Nat}{v:α}(h:xs[j]?=some v):atI xs (j:Int)=some v:=by
 have Y:=(aI.mp h).1;have e:ixN xs.length (j:Int)=some j:=by
  rw[ixN,if_pos (by lia),if_pos (by lia)];simp
 rw[atI,e];exact h
def lA(b:Expr):Prop:=∀o i,mI b false o i=operate [o,i] (nL o i)
def IxR(X:Cx)(r:R2):Prop:=
 ∀(value slice:Expr) (x2:A7) (s:cq) (σ:St) (H:Hp) (x y:V) (v u:a0) (Q:VK),x9 X x2 σ H s->xh x v->xh y u->r x y H Q ->
  mI slice false v u=operate [v,u] (nL v u)->de (dt X.prog X.w) X.A (subscriptTail value slice v u) (EP X x2 σ Q) X.xe s
def MtR(X:Cx)(id:String)(r:V->C0->Hp->VK->Prop):Prop:=
 ∀(x2:A7) (s:cq) (σ:St) (H:Hp) (x:V) (xs:C0) (v:a0) (us:B8) (Q:VK),x9 X x2 σ H s->xh x v->xi xs us->r x xs H Q ->
  de (dt X.prog X.w) X.A (call (.builtin id) (v::us)) (EP X x2 σ Q) X.xe s
section
variable {X:Cx}{a b:Expr}{ta tb:TE}{pos:Pos}
theorem Dl{r:R2}(z:IxR X r)(p:PE X a ta)(o:PE X b tb)(hs:lA b):PE X (.Subscript a b pos) (tOp r ta tb):=by
 intro Y s B H Q I h;exact Subscript_ (WT p o I h λv u j x y e Z i l q=>z a b Y j B e x y v u Q Z i l q (hs _ _))
def afN(K:av):R2:=λx y H Q=>∃p xs i v,x= .ref p/\y= .int i/\SqL K H p xs/\atI xs i=some v/\Q v H
def afH(K:av):R2:=λx y H Q=>∃p xs i v,x= .ref p/\y= .int i/\SqT K H p xs/\atI xs i=some v/\Q v H
theorem ZG:IxR X (afN X.K):=by
 intro l B Y s σ H x y v u Q I S L h J;obtain ⟨p,xs,i,z,rfl,rfl,M,R,q⟩:=h;cases S;obtain ⟨t,rfl⟩:=L;obtain ⟨e,r,pl,hz⟩:=I.list M;obtain ⟨j,Z,O,h3,h4,P⟩:=MK R;obtain ⟨w,D,o⟩:=r.get O;have U:=r.length;have hn:=uT;have fin:EP X Y σ Q w s:=⟨z,H,I,o,q⟩
 by_cases E:0<=i
 . have C:=by
    rw[seqIndex_of E P] at Z;exact Option.some.inj Z
   exact item_listR pl.isList E (by lia) (by rw[C];simpa using D) fin J
 . have C:(i+(e.toArray.size:Int)).toNat=j:=by
    rw[seqIndex_neg (by lia) h4] at Z;rw[c8,<- U];exact Option.some.inj Z
   exact subscriptTail_builtinR pl.isList.typeIs slot_list_getitem.lookup
    (wpAny_getItem_list_neg pl.isList (by lia) (by rw[c8] <;> lia) (by lia) (by rw[C];simpa using D) ⟨rfl,fin⟩) J
theorem acd:IxR X (afH X.K):=by
 intro Z l Y s R H x y v u Q I M B h P;obtain ⟨p,xs,i,z,rfl,rfl,D,L,q⟩:=h;cases M;obtain ⟨t,rfl⟩:=B;obtain ⟨C,r,pl,hz⟩:=I.tuple D;obtain ⟨j,J,E,S,h4,h5⟩:=MK L;obtain ⟨w,o,e⟩:=r.get E;have O:=r.length;have U:=uT;have fin:EP X Y R Q w s:=⟨z,H,I,e,q⟩;exact subscriptTail_builtinR pl.typeIs eM.lookup
  (getItem_tuple pl (by lia) (by lia) (by rw[c8,<- O];exact J) (by simpa using o) ⟨rfl,fin⟩) P
theorem JN(lo Y:C3)(n:Nat):(oo lo Y none n).1=((HT.sIx n 0 lo:Nat):Int)/\(oo lo Y none n).2.1=((HT.sIx n n Y:Nat):Int)/\(oo lo Y none n).2.2=1:=by
 refine ⟨?_,?_,rfl⟩
 . cases lo with
   | none=>simp[oo,HT.sIx]
   | some i=>
    simp only[oo,HT.sIx,Option.getD_none,show (1:Int) > 0 by decide,if_true]
    by_cases h:i<0
    . simp only[h,if_true] <;> lia
    . simp only[h,if_false] <;> lia
 . cases Y with
   | none=>simp[oo,HT.sIx]
   | some i=>
    simp only[oo,HT.sIx,Option.getD_none,show (1:Int) > 0 by decide,if_true]
    by_cases h:i<0
    . simp only[h,if_true] <;> lia
    . simp only[h,if_false] <;> lia
theorem Hc(Y:B8)(lo Z:C3):slicePick Y.toArray lo Z none=((Y.drop (HT.sIx Y.length 0 lo)).take (HT.sIx Y.length Y.length Z - HT.sIx Y.length 0 lo)).toArray:=by
 obtain ⟨j,i,e⟩:=JN lo Z Y.toArray.size;rw[slicePick,j,i,e];simp only[sliceRange_one,pick_run,c8] <;> rfl
def aba(K:av):V->C3->C3->Hp->VK->Prop:=λx lo hi H Q=>∃a xs,x= .ref a/\SqL K H a xs/\∀p,H p=none->Q (.ref p) (xk H p (.lst (wZ xs lo hi)))
theorem Zt:SlR X (aba X.K):=by
 rintro j s L H x v D C lo i J Q I l u pl o ⟨a,Z,rfl,z,q⟩;cases l;obtain ⟨p,r,e,B⟩:=I.list z;have Y:=r.length;refine ⟨"list",_,slot_list_getitem.lookup,e.isList.typeIs,?_⟩;refine wpAny_getItem_list_slice e.isList u pl o .none (by simp) ?_ (by rw[c8] <;> lia);rw[Hc,<- Y];refine ⟨.ref s.heap.objs.size,_,I.laid (λb E q=>aE _ q) (ax _) ?_,rfl,q _ (I.xw.fresh (ax _))⟩;exact ⟨cS (zQ Z lo i) B,_,0,(r.drop (HT.sIx Z.length 0 lo)).take (HT.sIx Z.length Z.length i - HT.sIx Z.length 0 lo),cn _ rfl⟩
theorem yo:fJ X (.builtin "len") (λxs H Q=>∃p ys,xs=[.ref p]/\(SqL X.K H p ys\/SqT X.K H p ys)/\Q (.int ys.length) H):=by
 rintro i s z H xs v Q I r ⟨p,ys,rfl,hq,q⟩;obtain ⟨u,rfl,j⟩:=vals1 r;cases j;have o:=uT;rcases hq with hq | hq
 . obtain ⟨e,Z,pl,l⟩:=I.list hq;have Y:=Z.length;exact Calls.call_len_list pl.isList (by simp only[c8] <;> lia) ⟨.int ys.length,H,I.tok _,⟨s.toks+1,by rw[c8,Y]⟩,q⟩
 . obtain ⟨e,Z,pl,l⟩:=I.tuple hq;have Y:=Z.length;exact len_tuple pl (by simp only[c8] <;> lia) ⟨.int ys.length,H,I.tok _,⟨s.toks+1,by rw[c8,Y]⟩,q⟩
theorem Ih:fJ X (.builtin "len") (λxs H Q=>∃z,xs=[.str z]/\z.length<=ba/\Q (.int z.length) H):=by
 rintro Y s j H xs e Q I r ⟨z,rfl,i,q⟩;obtain ⟨u,rfl,t,rfl⟩:=vals1 r;have Z:=uT;exact len_str (by lia) ⟨.int z.length,H,I.tok _,⟨_,rfl⟩,q⟩
theorem xr:fJ X (.type "list") (λxs H Q=>∃p ys,xs=[.ref p]/\(SqL X.K H p ys\/SqT X.K H p ys)/\∀l,H l=none->Q (.ref l) (xk H l (.lst ys))):=by
 rintro B s L H xs M Q I r ⟨p,ys,rfl,hq,q⟩;obtain ⟨u,rfl,J⟩:=vals1 r;cases J;have fin:∀(Y:B8),xi ys Y->ys.length<=ba->∀(Z:Heap) (j:Nat),(∀b E,s.heap.get? b=some E->Z.get? b=some E) ->
  Z.get? s.heap.objs.size=some { cls:=.type "list",dict:=none,data:=.seq Y.toArray j,slots:=#[] }->EP X B L Q (.ref s.heap.objs.size) { s with heap:=Z }:=λY i z Z j kp e=>
  ⟨.ref s.heap.objs.size,_,I.laid kp (ax _) (show fV X.prog X.w _ Z _ (.lst ys) from ⟨z,Y,j,i,e⟩),rfl,q _ (I.xw.fresh (ax _))⟩
 rcases hq with hq | hq
 . obtain ⟨Y,i,pl,z⟩:=I.list hq;have v:=i.length;obtain ⟨o,C,D,n,hd⟩:=pl.isList;exact call_list_seq p (.inl rfl) C D hd (λZ j kp e=>fin Y i z Z j kp e) (by simp only[c8] <;> lia)
 . obtain ⟨Y,i,pl,z⟩:=I.tuple hq;have v:=i.length;obtain ⟨o,C,D,n,hd⟩:=pl;exact call_list_seq p (.inr rfl) C D hd (λZ j kp e=>fin Y i z Z j kp e) (by simp only[c8] <;> lia)
theorem wF:fJ X (.type "tuple") (λxs H Q=>∃p ys,xs=[.ref p]/\((SqL X.K H p ys/\∀l,H l=none->Q (.ref l) (xk H l (.tup ys)))\/(SqT X.K H p ys/\Q (.ref p) H))):=by
 rintro B s L H xs J Q I r ⟨p,ys,rfl,h⟩;obtain ⟨u,rfl,C⟩:=vals1 r;cases C;rcases h with ⟨i,q⟩ | ⟨i,q⟩
 . obtain ⟨Y,Z,pl,z⟩:=I.list i;have v:=Z.length;refine call_tuple_list pl.isList (λE kp=>?_) (by simp only[c8] <;> lia);have j:=I.kept (t':=s.toks) kp;have D:=
    j.laid (t':=s.toks) (λb o e=>aE _ e) (ax _) (show fV X.prog X.w _ _ _ (.tup ys) from ⟨z,Y,Z,vv.new _ _⟩)
   exact ⟨.ref E.objs.size,_,D,rfl,q _ (j.xw.fresh (ax _))⟩
 . obtain ⟨Y,Z,pl,z⟩:=I.tuple i;exact call_tuple_same pl ⟨.ref p,H,I,rfl,q⟩
def tyV(K:av)(T:String)(x:V)(H:Hp):Prop:=match x with
 | .str _=>T = "str"
 | .int _=>T = "int"
 | .ref p=>(T = "list" /\ ∃xs,SqL K H p xs)\/(T = "tuple" /\ ∃o,K.lookup p=some o/\o.cls= .type "tuple" /\ o.dict=none) \/
  (T = "dict" /\ ((∃x3,H p=some (.dK x3))\/∃x3,H p=some (.dT x3)))\/(T = "set" /\ ∃S n,H p=some (.set S n))
 | _=>False
theorem adM{Z:A7}{D:St}{H:Hp}{s:cq}{T:String}{x:V}{v:a0}(I:x9 X Z D H s)(r:xh x v)(ty:tyV X.K T x H) :
 s.TypeIs v T/\∀a,v= .ref a->∃q,s.heap.get? a=some q/\q.dict=none:=by
 cases x with
 | str z=>
  obtain ⟨t,rfl⟩:=r;cases (ty);exact ⟨typeIs_str s z t,λ_ e=>nomatch e⟩
 | int i=>
  obtain ⟨t,rfl⟩:=r;cases (ty);exact ⟨typeIs_int s i t,λ_ e=>nomatch e⟩
 | ref p=>
  cases r;rcases ty with ⟨rfl,E,B⟩ | ⟨rfl,o,Y,C,hd⟩ | ⟨rfl,Y⟩ | ⟨rfl,S,n,Y⟩
  . obtain ⟨u,_,pl,_⟩:=I.list B;refine ⟨pl.isList.typeIs,λa e=>?_⟩;cases e;obtain ⟨o,n,e,c,hd,_⟩:=pl;exact ⟨o,e,hd⟩
  . refine ⟨⟨o,I.kIn p o Y,C⟩,λa e=>?_⟩;cases e;exact ⟨o,I.kIn _ o Y,hd⟩
  . have z:∃o,s.heap.get? p=some o/\o.ExactDict:=by
     rcases Y with ⟨l,Y⟩ | ⟨l,Y⟩
     . obtain ⟨_,_,_,_,o,_,_,e,ex,_⟩:=I.xw p _ Y;exact ⟨o,e,ex⟩
     . obtain ⟨_,_,_,_,o,_,_,e,ex,_⟩:=I.xw p _ Y;exact ⟨o,e,ex⟩
    obtain ⟨o,e,ex⟩:=z;refine ⟨⟨o,e,ex.1⟩,λa j=>?_⟩;cases j;exact ⟨o,e,ex.2.1⟩
  . obtain ⟨o,_,_,_,e,ex,_⟩:=I.xw p _ Y;refine ⟨⟨o,e,ex.1⟩,λa j=>?_⟩;cases j;exact ⟨o,e,ex.2.1⟩
 | _=>exact ki ty
def tBM(K:av)(T:String)(r:V->C0->Hp->VK->Prop)(to:TE)(t:TA):TE:=λσ H Q=>to σ H λx H1=>tyV K T x H1/\t σ H1 λxs H2=>r x xs H2 Q
variable {o e:Expr}{es:C1}{to:TE}{t:TA}{name:Str}{apos cpos:Pos}{T id:String}{r:V->C0->Hp->VK->Prop}
theorem Hr(S:PlainAttrs T)(slot:Slot T name id)(q:typeOf (.builtin id)=pure (.type "method_descriptor"))(U:MtR X id r)(P:PE X o to)(ha:PA X (e::es) t)
 (l:ll o name X.env (eval o X.env)=eval o X.env:=by rfl)
 (p:((lS cpos (dc (e::es) X.env)).all (λx=>!x.1)&&(tj cpos (oj [] X.env)).all (λx=>x.1.isSome)
  && decide ((e::es).length+([]:List nK).length+(if ([]:List nK).isEmpty then 0 else 1)<30))=true:=by rfl)
 (j:(apos.endLine == cpos.line)=true:=by rfl) (hs:dc (e::es) X.env=(false,eval e X.env)::dc es X.env:=by rfl) (i:(lS cpos (dc es X.env)).any (·.1)=false:=by rfl) :
 PE X (.Call (.Attribute o name apos) (e::es) [] cpos) (tBM X.K T r to t):=by
 intro Z s u H Q I h;refine wpAny_Call_method_late l p j rfl (thn (P Z s u H _ I h) λv D Y=>?_);obtain ⟨x,O,z,C,ty,q1⟩:=Y;obtain ⟨h1,h2⟩:=adM z C ty;refine ⟨T,id,S,slot,q,h1,h2,?_⟩;have B:=ha cpos Z D u O _ z q1;rw[hs] at B ⊢;exact oy (by show (false||(lS cpos (dc es X.env)).any (·.1))=false;rw[i] <;> rfl) (Calls.evalArgs_plain (thn B λR E Y=>by obtain ⟨vs,L,J,M,q2⟩:=Y;exact U Z E u L x vs v R Q J C M q2))
end
def MtM(X:Cx)(id:String)(r:V->C0->Hp->VK->Prop):Prop:=
 ∀(x2:A7) (s:cq) (σ:St) (H:Hp) (x:V) (xs:C0) (v:a0) (us:B8) (Q:VK),x9 X x2 σ H s->xh x v->xi xs us->r x xs H Q ->
  de (dt X.prog X.w) X.A (call (.builtin id) (v::us)) (EP X x2 σ Q) X.xe s
theorem xi.one{x:V}(h:xi [x] us):∃u,us=[u]/\xh x u:=by
 cases h with
 | cons r t=>cases t;exact ⟨_,rfl,r⟩
theorem xi.two{x y:V}(h:xi [x,y] us):∃u v,us=[u,v]/\xh x u/\xh y v:=by
 cases h with
 | cons r t=>
  cases t with
  | cons q t=>cases t;exact ⟨_,_,rfl,r,q⟩
theorem xi.rep(h:xi xs us):∀k:Nat,xi (aw k xs).flatten (aw k us).flatten
 | 0=>.nil
 | k+1=>by
  rw[en,en,ka,ka];exact xi.append h (xi.rep h k)
theorem foldl_rep(Y:B8):∀(k:Nat) (x4:B8),
 List.foldl (λZ j=>Z++j) x4.toArray (aw k Y.toArray)=(x4++(aw k Y).flatten).toArray
 | 0,x4=>by simp
 | k+1,x4=>by
  have e:x4.toArray++Y.toArray=(x4++Y).toArray:=by simp
  have i:(x4++Y)++(aw k Y).flatten=x4++(aw (k+1) Y).flatten:=by
   rw[en,ka,da]
  rw[<- i,<- foldl_rep Y k (x4++Y),<- e,en,nN]
variable {x5:B8}
section
variable {X:Cx}{x2:A7}{σ:St}{H:Hp}{s:cq}{l b:Addr}{ys zs:C0}
theorem x9.Vq{its':B8}{n:Nat}{f:Array a0->Array a0}{t':Nat}(I:x9 X x2 σ H s)(j:H l=some (.lst xs))
 (e:s.heap.get? l=some { cls:=.type "list",data:=.seq x5.toArray n }) (i:f x5.toArray=its'.toArray) (Y:xi ys its') (o:ys.length<=ba) :
 x9 X x2 σ (xk H l (.lst ys)) { s with heap:=s.heap.update l (vb f),toks:=t' }:=by
 have q:=PySem.IsL.update e f;rw[i] at q;refine I.write (by rw[j];exact trivial) (.inl rfl) (λr u p Z=>(Heap.get?_update_other s.heap (vb f) (lx p)).trans Z) ⟨_,q⟩ ?_;exact ⟨o,its',_,Y,q⟩
theorem x9.adz{t':Nat}(I:x9 X x2 σ H s)(Y:xi ys x5)(Z:ys.length<=ba) :
 x9 X x2 σ (xk H s.heap.objs.size (.lst ys)) { s with heap:=s.heap.push { cls:=.type "list",data:=.seq x5.toArray },toks:=t' }:=
 I.laid (λ_ _ q=>aE _ q) (ax _) ⟨Z,x5,0,Y,cn _ rfl⟩
theorem x9.fresh(I:x9 X x2 σ H s):H s.heap.objs.size=none:=I.xw.fresh (ax _)
theorem x9.UL(I:x9 X x2 σ H s)(Y:H l=some (.lst xs)):xs.length<=ba/\∃(x5:B8) (n:Nat),xi xs x5/\xs.length=x5.length/\s.heap.get? l=some { cls:=.type "list",data:=.seq x5.toArray n }:=by
 obtain ⟨z,x5,n,r,e⟩:=I.xw l _ Y;exact ⟨z,x5,n,r,r.length,e⟩
theorem XF{n:Nat}(h:n<=ba):lp n=false:=by
 exact decide_eq_false (by lia)
end
section
variable {X:Cx}
def YB:V->C0->Hp->VK->Prop:=λx vs H Q=>∃l xs y,x= .ref l/\vs=[y]/\H l=some (.lst xs)/\xs.length<ba/\Q .non (xk H l (.lst (xs++[y])))
theorem xJ:MtM X "list.append" YB:=by
 rintro i s L H x E v D Q I j p ⟨l,C,y,rfl,rfl,Z,J,q⟩;cases j;obtain ⟨u,rfl,o⟩:=p.one;obtain ⟨z,Y,n,r,B,e⟩:=I.UL Z;refine call_meets oz ⟨_,e,rfl⟩ F.entry_list_append (F.args_list_append_2 _ _) (PySem.list_append l Y.toArray n u (by rw[c8];lia)) ⟨e,?_⟩;refine ⟨.non,_,I.Vq Z e (by simp) (r.append (.cons o .nil)) ?_,rfl,q⟩;rw[ar,b9];lia
theorem len_rep{α:Type}(xs:List α)(k:Nat):(aw k xs).flatten.length=k*xs.length:=by
 induction k with
 | zero=>simp
 | succ k Y=>rw[en,ka,ar,Y,ve,Nat.add_comm]
end
end Zq
namespace Att
open PySem PySem.W PySem.Calls PyProof.Rows
theorem Dh{P:Params}{h:Heap}:∀(ns:List Int) (vs:List a0),WellAll P h vs (ns.map WData.int)->IntsAre vs ns:=by
 intro ns
 induction ns with
 | nil=>
  intro vs w;rw[ew] at w;cases w;exact .nil
 | cons n ns Y=>
  intro vs w;rw[a7] at w
  cases w with
  | cons a b=>
   cases a;exact .cons _ _ (Y _ b)
theorem Rc{l:ua}{n:Nat}(u:l.most=some n){P:Params}{h:Heap}{args:List WData}{vals:List a0}
 (Y:l.row.toRowW.claim.pre args=true) (p:WellAll P h vals args) :
 ∃a vs ns,vals=[fN a]/\args=[WData.list (ns.map WData.int)]/\h.get? a=some { cls:=.type "list",data:=.seq vs.toArray }/\IntsAre vs ns/\ns.length<=n:=by
 have j:=(pre_splitW Y).1;have H:=(pre_splitW Y).2;obtain ⟨d,r,rfl,E,D⟩:=hasAllW_cons j;obtain rfl:=hasAllW_nil D;obtain ⟨I,rfl,s⟩:=hasW_list E;obtain ⟨ns,rfl⟩:=items_int s;have Z:ns.length<=n:=by
  have o:(WTm.not (.lt (.lit (.int n)) (.len (.arg 0)))).holds [] { args:=[.list (ns.map .int)] }=true:=by
   have o:=(holds_andW H).1;rwa [u] at o
  have i:=condW_of o (w_not (w_lt w_lit (w_len_list (w_arg rfl))));rw[af] at i;refine ib λq=>?_;have C:n<(ns.length:Int):=by lia
  first
   | (rw[decide_eq_true C] at i;exact absurd i (by decide))
   | (simp at i;lia)
 cases p with
 | cons v z=>
  cases z
  cases v with
  | list B e=>exact ⟨_,_,ns,rfl,rfl,B,Dh ns _ e,Z⟩
theorem Q7(l:ua)(Y:List WData):l.row.toRowW.claim.post Y (.bool true) Y=true:=
 postW_of
  (show WShape.has [] (.bool true) .bool=true by first | rfl | decide | simp[WShape.arms,WShape.armsAll])
  (w_eq_bool (w_res rfl) w_lit) rfl
theorem Mu{l:ua}{n:Nat}{q:fq}{e:List Str}{L:(Str->Option a0)->Heap->Prop}{J:i8->Heap->Prop}{d:DefRec}
 (O:l.most=some n) (B:d.params.defaults=[])
 (call:∀(w:i8) (s₀ Z:cq) (mg mb:Str->Option a0) (u:Addr) (o:Obj) (pm cd i:a0) (a:Addr) (vs:List a0) (ns:List Int),
  Ground q e [] L w s₀ mg mb Z.heap->J w Z.heap ->
  Z.heap.get? u=some o->o.data= .func (docDef d.name d.params d.body d.scope pm cd i)->Z.heap.CodeRec cd d.name->mg d.name=some (.ref u) ->
  Z.heap.get? a=some { cls:=.type "list",data:=.seq vs.toArray }->IntsAre vs ns->ns.length<=n->Z.gens=#[] ->
  uu (dt l.prog w) wd (.call (.ref u) ⟨[.ref a],[]⟩) (λr s'=>r= .ok (.ret (.bool true))/\OldK Z.heap s'.heap/\s'.os=Z.os/\sh s'.gens) Z) :
 WalkO q e L J l.row.toRowW d [] (λf vs=>PySem.call f vs):=by
 intro w s₀ Z mg mb G Y u o pm cd i U kV ho hd C E D hg I vals as s H P z hlo;obtain rfl:U= .none:=Dflts.none E B;obtain rfl:kV= .none:=Dflts.noKw E;obtain ⟨a,vs,ns,rfl,rfl,v,j,p⟩:=Rc O s z;refine enter_call (codeAny_mono (call w s₀ Z mg mb u o pm cd i a vs ns G Y ho (fd_plain hd) C D v j p hg) λr s' Q=>?_);obtain ⟨rfl,S,M,h4⟩:=Q;exact ⟨.inl ⟨.bool true,.bool true,[],rfl,λ_=>rfl,.bool true,Q7 l _,λ_=>⟨sM.nil,λ_ R=>(nomatch R)⟩⟩,S,M,h4⟩
end Att
namespace Zq
open PySem PySem.Spec PyProof.Rows
theorem FQ:∀{vs:B8}{ns:B3},IntsAre vs ns->xi (ns.map V.int) vs
 | _,_,.nil=>.nil
 | _,_,.cons n t h=>.cons ⟨t,rfl⟩ (FQ h)
noncomputable def cD(s:Stmt):Arguments:=match s with
 | .FunctionDef _ a _ _ _ _ _ _ _ _=>a
 | _=>{ posonlyargs:=[],args:=[],vararg:=none,kwonlyargs:=[],kw_defaults:=[],kwarg:=none,defaults:=[] }
noncomputable def bU(s:Stmt):C5:=match s with
 | .FunctionDef _ _ b _ _ _ _ _ _ _=>b
 | _=>[]
noncomputable def aM(s:Stmt):rX:=match s with
 | .FunctionDef _ _ _ _ _ _ sc _ _ _=>sc
 | _=>{ kind:=.function,names:=[],isGenerator:=false,isCoroutine:=false }
abbrev CX0:CXT:=λ_ _ _ _ _ _=>False
abbrev E0:XK:=λ_ _ _=>False
theorem aed{X:Cx}:Passes CX0 X E0:=λ_ _ _ _ _ _ _ h=>h.elim
structure Fun (K:av) (x qual:Str) (st:Stmt) (f:Addr) (fd:lP):Prop where
 ex:∃(oc:a0) (od:C4) (kV doc pm:a0) (an:C4) (x6 ct:a0) (osl:Array B7),
  fd=d4 x qual (cD st) (bU st) (aM st) .none kV doc pm an x6 ct/\K.lookup f=some ⟨oc,od,.func fd,osl⟩/\kK K x6 qual=true
 kp:jS K (.ref f)=true
variable {x qual:Str}
section
variable {P:fq}{w:i8}{K:av}{mg:Str->B7}{base:Heap}
theorem Fun.ok{st:Stmt}{f:Addr}{fd:lP}{N Z:B6}{k:Nat}{sp:Sp}(F:Fun K x qual st f fd)(S:cM N Z (aM st))(len:∀vs H Q E,sp vs H Q E->vs.length=Z.length)
 (hbody:∀(Y:a0) (A:g9) (xD:C6) (s:cq) (H:Hp) (vs:C0) (Q:VK) (E:XK),dB k (A.deeper (mB qual (aM st) s.heap.objs.size f Y))->sp vs H Q E ->
  ∃t,PSs (mq CX0 P w K mg base N qual (aM st) f Y A xD s H E).nox (bU st) t/\t { nx:=λ_ H'=>Q .non H',rt:=Q } (start N vs) H):rJ P w K mg base CX0 (k+1) f fd Z sp:=by
 obtain ⟨p,r,kV,l,pm,u,Y,ct,j,rfl,lk,i⟩:=F.ex;refine X6 lk i S len λA xD s H vs Q E o e=>?_;obtain ⟨t,h,q⟩:=hbody Y A xD s H vs Q E o e;exact ⟨t,h.nox,q⟩
theorem Fun.binds{st:Stmt}{f:Addr}{fd:lP}{i:B6}(F:Fun K x qual st f fd)
 (h:∀(kV Z pm:a0) (e:C4) (Y ct:a0) (us:B8),us.length=i.length->iA (d4 x qual (cD st) (bU st) (aM st) .none kV Z pm e Y ct) ⟨us,[]⟩=pure (i.zip us)):Binds K fd i []:=by
 obtain ⟨o,p,kV,Z,pm,e,Y,ct,j,rfl,lk,l⟩:=F.ex;exact .all (h kV Z pm e Y ct)
theorem HD{st:Stmt}{f:Addr}{j:a0}{o i:C4}{e:Array B7}{kV Z pm Y ct:a0}(l:K.lookup f=some ⟨j,o,.func (d4 x qual (cD st) (bU st) (aM st) .none kV Z pm i Y ct),e⟩)
 (c:kK K Y qual=true) (k:jS K (.ref f)=true):Fun K x qual st f (d4 x qual (cD st) (bU st) (aM st) .none kV Z pm i Y ct):=⟨⟨j,o,kV,Z,pm,i,Y,ct,e,rfl,l,c⟩,k⟩
end
theorem Uq{n:Nat}(h:n<=1000):n<ba:=h9 h (by decide)
theorem yd{A B:Prop}(h:B):if false=true then A else B:=by
 rw[if_neg dV];exact h
theorem yw{A B:Prop}(h:A):if true=true then A else B:=by
 rw[if_pos rfl];exact h
def aF(H H':Hp):Prop:=∀b o,H b=some o->H' b=some o
theorem aF.refl(H:Hp):aF H H:=λ_ _ h=>h
theorem aF.trans{H Y H2:Hp}(a:aF H Y)(b:aF Y H2):aF H H2:=λc o h=>b c o (a c o h)
theorem aF.free{H Y:Hp}(e:aF H Y){l:Addr}(h:Y l=Option.none):H l=Option.none:=by
 cases q:H l with
 | none=>rfl
 | some o=>
  rw[e l o q] at h;cases h
theorem aF.seq{K:av}{H Y:Hp}{a:Addr}{xs:C0}(e:aF H Y)(h:SqL K H a xs):SqL K Y a xs:=by
 rcases h with (h | ⟨o,h⟩) | h
 . exact .inl (.inl (e _ _ h))
 . exact .inl (.inr ⟨o,e _ _ h⟩)
 . exact .inr h
end Zq
set_option maxHeartbeats 4000000
namespace Zq
open PySem PySem.Spec PyProof.Rows
noncomputable def Cx.comp(X:Cx)(scope:rX)(tn:B6)(ix:B5)(cl:B1)(C:Addr)(s₂:cq)(H₂:Hp)(fp:C2):Cx where
 prog:=X.prog
 w:=X.w
 K:=X.K
 mg:=X.mg
 base:=X.base
 A:=X.A
 N:=tn++ix.map λi=>X.N.getD i Str.empty
 s₀:=s₂
 H₀:=H₂
 env:=compEnvC scope cl C X.env
 xD:=X.stack
 stack:=X.stack
 ex:=fp
 fn:=λx=>scope.names.lookup x == some .cell
 calm:=X.calm
 pn:=[]
 xe:=λ_ _=>False
noncomputable def uK(tn:B6)(ix:B5)(σ:St):St:=aw tn.length none++ix.map λi=>(σ[i]?).join
def sO(X:Cx)(ifs:C1)(t:TT):Prop:=
 ∀(x2:A7) (s:cq) (σ:St) (H:Hp) (Q:Bool->Hp->Prop),x9 X x2 σ H s->t σ H Q ->
  de (dt X.prog X.w) X.A (forIn ifs true λc r=>if r=true then do let ok <- wq c X.env (eval c X.env);pure (mi ok) else pure (mi r)) (TP X x2 σ Q) X.xe s
def aeT:TT:=λ_ H Q=>Q true H
variable {X:Cx}
theorem Wg:sO X [] aeT:=λ_ _ _ H _ I h=>wpAny_tests_nil ⟨H,I,h⟩
theorem W5{c:Expr}{t:TT}(h:PT X c t):sO X [c] t:=λY s Z H Q I q=>wpAny_tests_one (h Y s Z H Q I q)
def abK(tn:B6)(ix:B5)(g:TG)(tt:TT)(te:TE)(σ:St)(Q:VK)(J:It)(H1:Hp):Prop:=∀D,H1 D=none ->
 ∃W:Nat->Nat->St->C0->Hp->Prop,(∃m,W 0 m (uK tn ix σ) [] (xk H1 D (.lst [])))/\∀i m σb x4 H2,W i m σb x4 H2->H2 D=some (.lst x4) /\
  ((
   J.stop i H2/\Q (.ref D) H2)\/(J.go i H2/\x4.length<ba/\∀x H3,J.yld i H2 x H3->g x σb H3 λσ4 H4=>tt σ4 H4 λb H5=>
   if b=true then te σ4 H5 λv H6=>H6 D=some (.lst x4)/\∃m',m'<m/\W (i+1) m' σ4 (x4++[v]) (xk H6 D (.lst (x4++[v]))) else ∃m',m'<m/\W (i+1) m' σ4 x4 H5))
def Hn(tn:B6)(ix:B5)(wi:TI)(g:TG)(tt:TT)(te:TE):TE:=λσ H Q=>wi σ H (abK tn ix g tt te σ Q)
variable {scope:rX}{env:Env}
theorem Hd(h:∀x∈scope.names,x.2= .free->∃c,env.cells.lookup x.1=some c) :
 ∃cl,vi scope env=pure cl/\(∀x c,cl.lookup x=some c->env.cells.lookup x=some c)/\∀x∈scope.names,x.2= .free->∃c,cl.lookup x.1=some c:=by
 have all:∀(l:List (Str×iE)) (Y:B1),(∀x∈l,x.2= .free->∃c,env.cells.lookup x.1=some c)->(∀x c,Y.lookup x=some c->env.cells.lookup x=some c) ->
  ∃cl,(forIn l Y λ(x:Str×iE) (r:B1)=>(if (x.2 == iE.free)=true then (do let a <- cellOf env x.1;pure (mi ((x.1,a)::r))) else pure (mi r):Sem (ForInStep B1)))=pure cl /\
   (∀x c,cl.lookup x=some c->env.cells.lookup x=some c)/\(∀x∈l,x.2= .free->∃c,cl.lookup x.1=some c)/\∀x,(∃c,Y.lookup x=some c)->∃c,cl.lookup x=some c:=by
  intro l
  induction l with
  | nil=>intro Y _ q;exact ⟨Y,rfl,q,λx hx=>absurd hx (by simp),λx hx=>hx⟩
  | cons y r B=>
   intro Y s q;obtain ⟨n,k⟩:=y
   by_cases u:k= .free
   . subst u;obtain ⟨c,D⟩:=s (n,.free) (by simp) rfl;have v:∀x c',sk x ((n,c)::Y)=some c'->env.cells.lookup x=some c':=λx c' e=>by
      rw[i6] at e
      cases hx:x == n with
      | true=>
       rw[hx] at e;have Z:=beq_iff_eq.mp hx;cases e;rw[Z];exact D
      | false=>rw[hx] at e;exact q x c' e
     obtain ⟨cl,Z,j,i,p⟩:=B ((n,c)::Y) (λx hx=>s x (bq _ hx)) v;have E:cellOf env n=pure c:=by rw[cellOf,D]
     refine ⟨cl,?_,j,λx hx o=>?_,λx ⟨c',z⟩=>?_⟩
     . rw[vF];simp only[E,beq_self_eq_true,pure_bind];exact Z
     . rcases bE.mp hx with rfl | hx
       . exact p n ⟨c,by simp⟩
       . exact i x hx o
     . refine p x ?_;rw[i6]
       cases x == n with
       | true=>exact ⟨c,rfl⟩
       | false=>exact ⟨c',z⟩
   . have H:(k == iE.free)=false:=by simpa using u
     obtain ⟨cl,Z,j,i,p⟩:=B Y (λx hx=>s x (bq _ hx)) q;refine ⟨cl,?_,j,λx hx o=>?_,p⟩
     . rw[vF];simp only[H,Bool.false_eq_true,pure_bind];exact Z
     . rcases bE.mp hx with rfl | hx
       . exact absurd o u
       . exact i x hx o
 obtain ⟨cl,Z,j,i,_⟩:=all scope.names [] h (λx c e=>by simp at e);refine ⟨cl,?_,j,i⟩;refine Eq.trans rfl ?_;have C:=congrArg (· >>= pure) Z
 first
  | (exact C)
  | exact C.trans (pure_bind _ _)
theorem nA{env:Env}:∀{Y:List (Str×iE)}{x:Str},Y.lookup x=some .free ->
 (Y.map λ(n,k)=>if (k == iE.free&&env.scope.kind == .function&&env.kindOf n == some .cell) then (n,kG) else (n,k)).lookup x=some .cell \/
 (Y.map λ(n,k)=>if (k == iE.free&&env.scope.kind == .function&&env.kindOf n == some .cell) then (n,kG) else (n,k)).lookup x=some .free
 | [],_,h=>by simp at h
 | (n,k)::r,x,h=>by
  have i:=@nA env r x;show sk x ((if (k == iE.free&&env.scope.kind == .function&&env.kindOf n == some .cell)=true then (n,kG) else (n,k))::_)=_\/sk x ((if (k == iE.free&&env.scope.kind == .function&&env.kindOf n == some .cell)=true then (n,kG) else (n,k))::_)=_
  cases Z:x == n with
  | true=>
   simp only[i6,Z] at h;cases h
   by_cases e:(iE.free == iE.free&&env.scope.kind == .function&&env.kindOf n == some .cell)=true
   . rw[if_pos e];exact .inl (by simp[i6,Z])
   . rw[if_neg e];exact .inr (by simp[i6,Z])
  | false=>
   simp only[i6,Z] at h
   by_cases e:(k == iE.free&&env.scope.kind == .function&&env.kindOf n == some .cell)=true
   . rw[if_pos e];simp only[i6,Z];exact i h
   . rw[if_neg e];simp only[i6,Z];exact i h
noncomputable def iC(X:Cx)(scope:rX)(ix:B5):Bool:=
 scope.kind == .function&&scope.names.all (λy=>scope.names.lookup y.1 == some y.2&&(y.2 != .free||(X.env.scope.names.lookup y.1 == some .cell||X.env.scope.names.lookup y.1 == some .free))&&(y.2 != .local||scope.names.lookup y.1 == some .local)) &&
 ix.all λi=>match X.N[i]? with
  | some x=>scope.names.lookup x == some .free
  | none=>false
structure HX (X:Cx) (scope:rX) (ix:B5):Prop where
 kind:scope.kind= .function
 one:∀y∈scope.names,scope.names.lookup y.1=some y.2
 free:∀y∈scope.names,y.2= .free->X.env.scope.names.lookup y.1=some .cell\/X.env.scope.names.lookup y.1=some .free
 loc:∀y∈scope.names,y.2= .local->scope.names.lookup y.1=some .local
 ix:∀i∈ix,∃x,X.N[i]?=some x/\scope.names.lookup x=some .free
theorem iC.of{ix:B5}(h:iC X scope ix=true):HX X scope ix:=by
 unfold iC at h;rw[c9,c9] at h;obtain ⟨⟨l,Z⟩,j⟩:=h;rw[d3] at Z j;have g:∀y∈scope.names,(scope.names.lookup y.1=some y.2/\(y.2= .free->X.env.scope.names.lookup y.1=some .cell\/X.env.scope.names.lookup y.1=some .free))/\(y.2= .local->scope.names.lookup y.1=some .local):=λy Y=>by
  have q:=Z y Y;rw[c9,c9,qB,qB,qB] at q;obtain ⟨⟨p,q2⟩,q3⟩:=q;refine ⟨⟨by simpa using p,λe=>?_⟩,λe=>?_⟩
  . rcases q2 with q2 | q2 | q2
    . exact absurd e (by simpa using q2)
    . exact .inl (by simpa using q2)
    . exact .inr (by simpa using q2)
  . rcases q3 with q3 | q3
    . exact absurd e (by simpa using q3)
    . simpa using q3
 refine ⟨by simpa using l,λy Y=>(g y Y).1.1,λy Y=>(g y Y).1.2,λy Y=>(g y Y).2,λi o=>?_⟩;have q:=j i o
 cases e:X.N[i]? with
 | none=>rw[e] at q;cases q
 | some x=>rw[e] at q;exact ⟨x,rfl,by simpa using q⟩
variable {x2:A7}{σ:St}{H:Hp}{s:cq}
section
variable       {tn:B6}{ix:B5}{cl:B1}{C D:Addr}{fp:C2}{h₁:Heap}{tk:Nat}
theorem x9.block(S:HX X scope ix)(I:x9 X x2 σ H s)(Y:∀x c,cl.lookup x=some c->(X.env.cells.lookup x=some c/\scope.names.lookup x≠some .cell)\/(scope.names.lookup x=some .cell/\s.heap.objs.size<=c/\c≠D/\h₁.IsCell c none))
 (Q:∀x y c,cl.lookup x=some c->cl.lookup y=some c->scope.names.lookup x=some .cell->scope.names.lookup y=some .cell->x=y) (R:∀x,scope.names.lookup x=some .cell->∃c,cl.lookup x=some c) (B:∀x∈scope.names,x.2= .free->∃c,cl.lookup x.1=some c)
 (L:∀b∈fp,ux X x2 H b) (hfo:∀b∈fp,∃o,s.heap.get? b=some o) (old:∀b o,s.heap.get? b=some o->h₁.get? b=some o) (hD:s.heap.objs.size<=D) (hC:s.heap.objs.size<=C) (hDC:D≠C)
 (hd:h₁.get? D=some { cls:=.type "list",data:=.seq ([]:B8).toArray }) (hn:∃m,h₁.Ns C m) :
 x9 (X.comp scope tn ix cl C s H fp) [] (uK tn ix σ) (xk H D (.lst [])) { s with heap:=h₁,toks:=tk }:=by
 have frD:=I.xw.fresh hD;have frC:=I.xw.fresh hC;have Z:∀x c,X.env.cells.lookup x=some c->c<s.heap.objs.size:=λx c e=>by
  obtain ⟨v,q⟩:=I.cell x c e;exact q.lt
 have hcl:∀x c,scope.names.lookup x=some .free->cl.lookup x=some c->X.env.cells.lookup x=some c:=λx c hx e=>by
  rcases Y x c e with z | z
  . exact z.1
  . rw[hx] at z;cases z.1
 have ok:(X.comp scope tn ix cl C s H fp).Ok:=by
  refine ⟨I.ok.mod,S.kind,I.ok.glob,I.ok.blt,hC,λx y c h1 h2=>?_,λx hx=>?_,λx c h e=>?_,I.ok.hd,I.ok.frames,.inl rfl,λb O=>⟨?_,λx c e=>?_⟩,I.bs,
   cS I.ok.bsz I.sz,λb o e O=>?_,λb O hf=>?_,I.stack,I.MJ,λP h=>I.base.kE _ _ (I.ok.tabs P h)⟩
  . rcases Y x c h1 with z1 | z1 <;> rcases Y y c h2 with z2 | z2
    . exact I.ok.inj x y c z1.1 z2.1
    . exact absurd (Z x c z1.1) (wx.mpr z2.2.1)
    . exact absurd (Z y c z2.1) (wx.mpr z1.2.1)
    . exact Q x y c h1 h2 z1.1 z2.1
  . -- a cell or a free name of the block has x5 cell
    have J:=hx;have hm:∃k,(x,k)∈(scope.names.map λ(n,k)=>if (k == iE.free&&X.env.scope.kind == .function&&X.env.kindOf n == some .cell) then (n,kG) else (n,k))/\(k= .cell\/k= .free):=by
     rcases J with h | h
     . exact ⟨_,fe h,.inl rfl⟩
     . exact ⟨_,fe h,.inr rfl⟩
    obtain ⟨k,hm,hk⟩:=hm;obtain ⟨⟨n,k'⟩,hy,e⟩:=bo.mp hm
    dsimp only at e
    by_cases hc:(k' == iE.free&&X.env.scope.kind == .function&&X.env.kindOf n == some .cell)=true
    . rw[if_pos hc] at e;cases e;rw[c9,c9] at hc;exact B _ hy (by simpa using hc.1.1)
    . rw[if_neg hc] at e;cases e;rcases hk with hk | hk
      . exact R _ (by rw[<- hk];exact S.one _ hy)
      . exact B _ hy hk
  . rcases Y x c e with z | z
    . have h:(scope.names.lookup x == some kG)=true:=h;exact absurd (by simpa using h) z.2
    . exact z.2.1
  . intro z;obtain ⟨o,e⟩:=hfo b O;exact absurd (dS (cm e) (by rw[z];exact hC)) (ft _)
  . rcases Y x c e with z | z
    . exact (L b O).2.2.2.2.1 x c z.1
    . intro y;obtain ⟨o,e'⟩:=hfo b O;have q:=cm e';rw[<- y] at q;exact absurd q (wx.mpr z.2.1)
  . rcases (L b O).2.2.2.1 with z | z
    . exact I.ok.Hz b o e z
    . exact absurd (dS (cm (I.ok.bs b o e).1) z) (ft _)
  . rcases bE.mp (I.Dd b hf) with z | z
    . exact (L b O).2.1 z
    . exact (L b O).2.2.1 z
 refine ⟨ok,rfl,I.bare,Un.laid old hD frD,?_,λx c e=>?_,?_,λx c e=>?_,λp hp=>absurd (show p∈([]:A7) from hp) (by simp),?_,?_⟩
 . obtain ⟨m,hn⟩:=hn;refine ⟨m,hn,λi x v e1 e2 e3=>?_⟩;have hi:tn.length<=i:=by
    rcases ff i tn.length with hi | hi
    . have l:(aw tn.length none++ix.map λi=>(σ[i]?).join)[i]?=some (some v):=e2;rw[bX (by simpa using hi),gu,if_pos hi] at l;cases l
    . exact hi
   have r:(tn++ix.map λi=>X.N.getD i Str.empty)[i]?=some x:=e1;have l:(aw tn.length none++ix.map λi=>(σ[i]?).join)[i]?=some (some v):=e2;rw[be hi,a8] at r;rw[be (by simpa using hi),a8,br] at l
   cases ek:ix[i - tn.length]? with
   | none=>rw[ek] at r;cases r
   | some k=>
    rw[ek] at r l;have afG:X.N.getD k Str.empty=x:=Option.some.inj r;have j:(σ[k]?).join=some v:=Option.some.inj l;have e2s:σ[k]?=some (some v):=by
     cases q:σ[k]? with
     | none=>rw[q] at j;cases j
     | some o=>rw[q] at j;have:o=some v:=j;rw[this]
    obtain ⟨x',J,M⟩:=S.ix k (dA ek);have exx:x'=x:=by
     rw[<- afG,ae,J];rfl
    subst exx;have U:=S.free _ (fe M) rfl;obtain ⟨m0,hn0,hl0⟩:=I.loc;obtain ⟨u,ru,lk⟩:=hl0 k x' v J e2s (.inr U);refine ⟨u,ru,?_⟩;rcases lk with ⟨kl,_⟩ | ⟨kc,c,ec,ic⟩
    . exfalso
      have kl':X.env.scope.names.lookup x'=some .local:=kl;rcases U with z | z <;> rw[z] at kl' <;> cases kl'
    . obtain ⟨c',ec'⟩:=B _ (fe M) rfl;have ecc:=by
       have q:=hcl x' c' M ec';rw[ec] at q;exact (Option.some.inj q).symm
      subst ecc;refine .inr ⟨nA M,c',ec',?_⟩;obtain ⟨o,ho,E⟩:=ic;exact ⟨o,old _ _ ho,E⟩
 . rcases Y x c e with z | z
   . obtain ⟨v,o,ho,E⟩:=I.cell x c z.1;exact ⟨v,o,old _ _ ho,E⟩
   . exact ⟨_,z.2.2.2⟩
 . show xk H D (.lst []) C=none;rw[aG (lx hDC)];exact frC
 . rcases Y x c e with z | z
   . rw[aG (ef (dS (Z x c z.1) hD))];exact I.jP x c z.1
   . rw[aG z.2.2.1];exact I.xw.fresh z.2.1
 . exact I.xw.laid old hD ⟨iP _,[],0,.nil,hd⟩
 . show (uK tn ix σ).length=(tn++ix.map λi=>X.N.getD i Str.empty).length;rw[uK,ar,ar,br,af,af]
end
variable {prog:fq}{w:i8}{A:g9}{pos:Pos}
theorem Ka{R:Result->cq->Prop}{s:cq}{z Y iter:Expr}{C:C1}{H x4:a0}(I:Nat->cq->Prop)
 (turn:∀n s,I n s->de (dt prog w) A (pyNext H) (λr i=>match r with
  | none=>R (.ok .next) i
  | some v=>de (dt prog w) A (vx Y H v) (λ_ e=>de (dt prog w) A (assign Y env v) (λ_ o=>
   de (dt prog w) A (forIn C true λc r=>if r=true then do let ok <- wq c env (eval c env);pure (mi ok) else pure (mi r)) (λok Z=>
    if ok=true then de (dt prog w) A (eval z env) (λx q=>
     de (dt prog w) A (call (.builtin "list.append") [x4,x]) (λ_ p=>∃m,m<n/\I m p) (λ_ _=>False) q) (λ_ _=>False) Z
    else ∃m,m<n/\I m Z) (λ_ _=>False) o) (λ_ _=>False) e) (λ_ _=>False) i) (λ_ _=>False) s)
 (n:Nat) (h:I n s) :
 uu (dt prog w) A (.compLoop (.ListComp z [⟨Y,iter,C,0⟩] scope pos) 0 H x4 env) R s:=by
 refine codeAny_loop rfl I (λn s J=>?_) n h;refine wpAny_noted ?_;rw[compTurn_list];refine ag (wpAny_standAt (ag (fy (turn n s J) (λr i l=>?_) λ_ _ f=>f.elim)))
 cases r with
 | none=>exact a9 l
 | some v=>
  refine ag (fy l (λ_ e u=>?_) λ_ _ f=>f.elim);refine ag (fy u (λ_ o B=>ag (fy B (λok Z j=>?_) λ_ _ f=>f.elim)) λ_ _ f=>f.elim)
  cases ok with
  | false=>exact a9 ⟨rfl,j⟩
  | true=>
   exact ag (ag (fy j (λx q E=>ag (fy E (λ_ p D=>a9 (a9 ⟨rfl,D⟩)) λ_ _ f=>f.elim)) λ_ _ f=>f.elim))
variable {x:Str}{E:B2}{i:Nat}
section
variable       {tn:B6}{ix:B5}{elt tg iter:Expr}{ifs:C1}  {wi:TI}{g:TG}{tt:TT}{te:TE}{Q:VK}
theorem yz{Z:B1}:∀{l:List (Str×iE)}{n:Nat}{x4:B1},i4 n l (x4++Z)=i4 n l x4++Z
 | [],n,x4=>rfl
 | (y,k)::l,n,x4=>by
  unfold i4
  by_cases Y:(k == .cell)=true
  . rw[if_pos Y,if_pos Y];exact yz (x4:=(y,n)::x4)
  . rw[if_neg Y,if_neg Y];exact yz
theorem wU{c:Addr}:∀{l:List (Str×iE)}{n:Nat}{x4:B1},(x,c)∈i4 n l x4->(x,c)∈x4\/(x,kG)∈l
 | [],n,x4,h=>.inl h
 | (y,k)::l,n,x4,h=>by
  unfold i4 at h
  by_cases Y:(k == .cell)=true
  . rw[if_pos Y] at h;rcases wU h with z | z
    . rcases bE.mp z with e | z
      . cases e;exact .inr (by rw[show k=kG by simpa using Y];exact bg)
      . exact .inl z
    . exact .inr (bq _ z)
  . rw[if_neg Y] at h;rcases wU h with z | z
    . exact .inl z
    . exact .inr (bq _ z)
theorem FN{x y:Str}{c:Addr}:∀{cs:B1},cs.Pairwise (λx y=>x.2≠y.2)->(x,c)∈cs->(y,c)∈cs->x=y
 | [],_,h,_=>nomatch h
 | z::cs,h,i,Z=>by
  obtain ⟨Y,e⟩:=n9.mp h;rcases bE.mp i with e1 | e1
  . rcases bE.mp Z with e2 | e2
    . rw[<- e1] at e2;cases e2;rfl
    . rw[<- e1] at Y;exact (Y (y,c) e2 rfl).elim
  . rcases bE.mp Z with e2 | e2
    . rw[<- e2] at Y;exact (Y (x,c) e1 rfl).elim
    . exact FN e e1 e2
theorem T8{M:Model}{Y:Addr}{cl:B1}{Q:Env->cq->Prop}
 (h:Q (newEnv scope s.heap.objs.size Y (i4 (s.heap.objs.size+1) scope.names cl) x none .none (some env) n3) { s with heap:=pushCells (s.heap.push { cls:=.type "dict",data:=.dict #[] }) scope.names }) :
 de M A (newFunctionEnv scope Y cl [] x none .none (some env)) Q E s:=by
 refine ag (wpAny_alloc (ag (wpAny_layCells _ (λi kind e=>by cases Z:kind == kG <;> simp[Z]) _ _ _ _ ?_)));rw[gy ..];exact ag (a9 (a9 h))
theorem Gz(S:HX X scope ix)(hc:X.calm=true)(hi:PI X tg iter wi)
 (hg:∀cl C j B fp,PG (X.comp scope tn ix cl C j B fp) tg g) (ht:∀cl C j B fp,sO (X.comp scope tn ix cl C j B fp) ifs tt) (he:∀cl C j B fp,PE (X.comp scope tn ix cl C j B fp) elt te)
 {P:a0->Addr->Result->cq->Prop} (I:x9 X x2 σ H s) (h:Hn tn ix wi g tt te σ H Q)
 (hP:∀D C s' H',x9 X x2 σ H' s'->(∃m,s'.heap.Ns C m)->ux X x2 H' C->Q (.ref D) H'->P (.ref D) C (.ok .next) s') :
 ∃cl,vi scope X.env=pure cl/\de (dt X.prog X.w) X.A (eval iter X.env) (λx s₁=>de (dt X.prog X.w) X.A (pyIter x) (λit j=>de (dt X.prog X.w) X.A (newList []) (λx4 s₃=>
  de (dt X.prog X.w) X.A (newFunctionEnv scope X.env.globals cl [] X.env.qual none .none (some X.env)) (λcenv s₄=>
   uu (dt X.prog X.w) X.A (.compStart (.ListComp elt [⟨tg,iter,ifs,0⟩] scope pos) 0 it x4 { cenv with scope:=relabel scope X.env }) (P x4 cenv.locals) s₄) X.xe s₃) X.xe j) X.xe s₁) X.xe s:=by
 obtain ⟨cl,hcl,hc1,hc2⟩:=Hd λx hx hf=>I.ok.has x.1 (S.free x hx hf);refine ⟨cl,hcl,thn (hi x2 s σ H _ I h) λv s1 h1=>thn h1 λitv Y h2=>?_⟩;obtain ⟨it,fp,tnn,J,L,e,I2,T,st2,f2,R⟩:=h2;subst e;refine j3 (T8 ?_);generalize hHH:Y.heap.push { cls:=.type "list",dict:=none,data:=.seq ([]:B8).toArray }=HH;have hCs:HH.objs.size=Y.heap.objs.size+1:=by rw[<- hHH,gy]
 have hDC:Y.heap.objs.size≠HH.objs.size:=by rw[hCs];exact ef (pV _)
 have M:Y.heap.objs.size<=HH.objs.size:=by rw[hCs];exact Nat.le_succ _
 have V0:∀b o,HH.get? b=some o->(pushCells (HH.push { cls:=.type "dict",data:=.dict #[] }) scope.names).get? b=some o:=λb o e=>pushCells_keeps _ _ b o (aE _ e);have E:(pushCells (HH.push { cls:=.type "dict",data:=.dict #[] }) scope.names).Ns HH.objs.size (λ_=>none):=(Heap.Ns.new HH (.type "dict")).keeps (pushCells_keeps _ _);have okc:=cellsFrom_ok scope.names (HH.push { cls:=.type "dict",data:=.dict #[] }) (HH.objs.size+1) [] ⟨λ_ _ hm=>(nomatch hm),sM.nil⟩ (by rw[gy];exact ax _);rw[gy] at okc;have eCL:i4 (HH.objs.size+1) scope.names cl=i4 (HH.objs.size+1) scope.names []++cl:=yz (x4:=[]);have spl:∀x c,(i4 (HH.objs.size+1) scope.names cl).lookup x=some c->(scope.names.lookup x=some .cell/\(x,c)∈i4 (HH.objs.size+1) scope.names [])\/(cl.lookup x=some c/\scope.names.lookup x≠some .cell):=λx c e=>by
  rw[eCL,List.lookup_append] at e
  cases q:(i4 (HH.objs.size+1) scope.names []).lookup x with
  | none=>
   rw[q] at e;refine .inr ⟨e,λz=>?_⟩;have:=ma scope.names (HH.objs.size+1) [] (.inl z);rw[q] at this;cases this
  | some d=>
   rw[q] at e;have e:=e;cases e;have m:=fe q;rcases wU m with z | z
   . nomatch z
   . exact .inl ⟨S.one _ z,m⟩
 have has:∀x,scope.names.lookup x=some .cell\/(cl.lookup x).isSome=true->∃c,(i4 (HH.objs.size+1) scope.names cl).lookup x=some c:=λx z=>fS.mp (ma scope.names (HH.objs.size+1) cl z);generalize hCL:i4 (HH.objs.size+1) scope.names cl=CL at spl has ⊢;generalize hh1:pushCells (HH.push { cls:=.type "dict",data:=.dict #[] }) scope.names=h₁ at V0 E okc ⊢;have old:=λb o e=>V0 b o (hHH ▸ aE _ e);have hacc:=V0 _ _ (hHH ▸ cn _ rfl);have hfo:∀b∈fp,∃o,Y.heap.get? b=some o:=λb l=>let ⟨o,e,_⟩:=T.obj _ _ st2 b l;⟨o,e⟩;obtain ⟨W,⟨m0,w0⟩,turn⟩:=R Y.heap.objs.size (I2.xw.fresh (ax _));have abR:∀x c,CL.lookup x=some c->(X.env.cells.lookup x=some c/\scope.names.lookup x≠some .cell)\/(scope.names.lookup x=some .cell/\Y.heap.objs.size<=c/\c≠Y.heap.objs.size/\h₁.IsCell c none):=λx c e=>by
  rcases spl x c e with ⟨z,m⟩ | ⟨z,m⟩
  . obtain ⟨q1,q2⟩:=okc.empty x c m;rw[hCs] at q2;exact .inr ⟨z,by lia,λy=>by rw[y] at q2;lia,q1⟩
  . exact .inl ⟨hc1 x c z,m⟩
 have J0:x9 (X.comp scope tn ix CL HH.objs.size Y L fp) [] (uK tn ix σ) (xk L Y.heap.objs.size (.lst [])) { Y with heap:=h₁,toks:=Y.toks }:=
  x9.block S I2 abR (λx y c e1 e2 k1 k2=>by
   rcases spl x c e1 with ⟨_,m1⟩ | ⟨_,m1⟩
   . rcases spl y c e2 with ⟨_,m2⟩ | ⟨_,m2⟩
     . exact FN okc.apart m1 m2
     . exact absurd k2 m2
   . exact absurd k1 m1) (λx z=>has x (.inl z)) (λx hx hf=>by
   obtain ⟨c,e⟩:=hc2 x hx hf;exact has x.1 (.inr (by rw[e];rfl))) f2 hfo old (ax _) M hDC hacc ⟨_,E⟩
 have U:∀{H':Hp},(∀b∈fp,H' b=none)->∀b∈fp,ux (X.comp scope tn ix CL HH.objs.size Y L fp) [] H' b:=λhn b l=>by
  refine ⟨hn b l,λz=>?_,λz=>?_,.inl l,λx c e=>?_,λp hp=>absurd (show p∈([]:A7) from hp) (by simp)⟩
  . obtain ⟨o,e⟩:=hfo b l;exact absurd (dS (cm e) (by rw[z];exact M)) (ft _)
  . rcases bE.mp (I2.Dd b z) with z | z
    . exact (f2 b l).2.1 z
    . exact (f2 b l).2.2.1 z
  . rcases abR x c e with z | z
    . exact (f2 b l).2.2.2.2.1 x c z.1
    . intro y;obtain ⟨o,e'⟩:=hfo b l;have q:=cm e';rw[<- y] at q;exact absurd q (wx.mpr z.2.1)
 have fp0:∀b∈fp,xk L Y.heap.objs.size (.lst []) b=none:=λb l=>by
  obtain ⟨o,e⟩:=hfo b l;rw[aG (ef (cm e))];exact (f2 b l).1
 have st1:=T.keep _ _ _ st2 λb l o e=>old b o e;have loop:∀s₃:cq,s₃={ Y with heap:=h₁,toks:=Y.toks } ->
  uu (dt X.prog X.w) X.A (.compLoop (.ListComp elt [⟨tg,iter,ifs,0⟩] scope pos) 0 (.ref it) (.ref Y.heap.objs.size) (compEnvC scope CL HH.objs.size X.env)) (P (.ref Y.heap.objs.size) HH.objs.size) s₃:=by
  rintro s₃ rfl;refine Ka (λn s'=>∃i σ' x4 H',x9 (X.comp scope tn ix CL HH.objs.size Y L fp) [] σ' H' s'/\tnn i s'.heap/\(∀b∈fp,H' b=none)/\W i n σ' x4 H') ?_ m0 ⟨0,_,[],_,J0,st1,fp0,w0⟩;rintro n s3 ⟨i,σ3,x4,H3,I3,st3,fr3,w3⟩;obtain ⟨hD3,ways⟩:=turn i n σ3 x4 H3 w3;rcases ways with ⟨stop,qn⟩ | ⟨go,hsz,step⟩
  . refine thn (T.done (X.comp scope tn ix CL HH.objs.size Y L fp) rfl rfl rfl hc i [] s3 σ3 H3 _ I3 (U fr3) st3 stop) λr s4 Z=>?_;obtain ⟨hr,I4⟩:=Z;subst hr;have I5:=I2.call' I4.os I4.base I4.xw I4.bare λb l=>⟨(f2 b l).2.2.2.1,(f2 b l).2.1,(f2 b l).2.2.2.2.1,(f2 b l).2.2.2.2.2⟩;obtain ⟨m4,hn4,_⟩:=I4.loc;exact hP _ _ s4 H3 I5 ⟨m4,hn4⟩ (I2.rG M I4.free) qn
  . refine thn (T.item (X.comp scope tn ix CL HH.objs.size Y L fp) rfl rfl rfl hc i [] s3 σ3 H3 _ I3 (U fr3) st3 go) λr s4 Z=>?_;obtain ⟨u,hr,h4⟩:=Z;subst hr;refine thn h4 λ_ s5 Z=>?_;obtain ⟨x,H5,I5,r5,y5,st5,fr5⟩:=Z;have I5':=I5.pinned (U fr5) (T.obj _ _ st5);have back:∀{σ7:St}{H7:Hp}{s7:cq},x9 (X.comp scope tn ix CL HH.objs.size Y L fp) ([]++ym fp s5.heap) σ7 H7 s7->x9 (X.comp scope tn ix CL HH.objs.size Y L fp) [] σ7 H7 s7/\tnn (i+1) s7.heap/\∀b∈fp,H7 b=none:=λ{σ7 H7 s7} I7=>by
     refine ⟨I7.wj,T.keep _ _ _ st5 λb l o e=>(I7.pin (b,o) (ck _ (ck _ (qx l e)))).1,λb l=>?_⟩;obtain ⟨o,e,d⟩:=T.obj _ _ st5 b l;exact (I7.pin (b,o) (ck _ (ck _ (qx l e)))).2.1
    refine thn (hg CL HH.objs.size Y L fp _ s5 σ3 H5 x u _ I5' r5 (step x H5 y5)) λ_ s6 ⟨O,H6,I6,q6⟩=>thn (ht CL HH.objs.size Y L fp _ s6 O H6 _ I6 q6) λok s7 Z=>?_;obtain ⟨H7,I7,q7⟩:=Z
    cases ok with
    | false=>
     rw[if_neg dV] at q7 ⊢;obtain ⟨m',hm,w7⟩:=q7;obtain ⟨b1,b2,b3⟩:=back I7;exact ⟨m',hm,i+1,O,x4,H7,b1,b2,b3,w7⟩
    | true=>
     rw[if_pos rfl] at q7 ⊢;refine thn (he CL HH.objs.size Y L fp _ s7 O H7 _ I7 q7) λxv s8 ⟨v8,H8,I8,r8,hD8,m',hm,w8⟩=>thn (xJ _ s8 O H8 (.ref Y.heap.objs.size) [v8] (.ref Y.heap.objs.size) [xv] (λ_ H9=>H9=xk H8 Y.heap.objs.size (.lst (x4++[v8]))) I8 rfl (.cons r8 .nil) ⟨_,x4,v8,rfl,rfl,hD8,hsz,rfl⟩) λ_ s9 Z=>?_;obtain ⟨_,H9,I9,_,e9⟩:=Z;subst e9;obtain ⟨b1,b2,b3⟩:=back I9;exact ⟨m',hm,i+1,O,x4++[v8],_,b1,b2,b3,w8⟩
 exact codeAny_compStart_list (loop _ rfl) (T.self X.A 0 _ _ _ st1 (loop _ rfl))
theorem aau(S:iC X scope ix=true)(O:X.calm=true)(E:PI X tg iter wi)
 (B:∀cl C Y Z fp,PG (X.comp scope tn ix cl C Y Z fp) tg g) (z:∀cl C Y Z fp,sO (X.comp scope tn ix cl C Y Z fp) ifs tt) (v:∀cl C Y Z fp,PE (X.comp scope tn ix cl C Y Z fp) elt te)
 (hs:∀x,hV iter X.env x=pure x:=by intro _;rfl):PE X (.ListComp elt [⟨tg,iter,ifs,0⟩] scope pos) (Hn tn ix wi g tt te):=by
 intro i s L H Q I h;obtain ⟨cl,j,q⟩:=Gz (P:=λl C=>compPost (dt X.prog X.w) X.A X.xe none (EP X i L Q) l C) (iC.of S) O E B z v I h λD C R u p ⟨m,r⟩ f q=>by
  refine ⟨m,r,λU M=>⟨.ref D,u,?_,rfl,q⟩⟩;exact p.turned (λb o J e=>M.extBut b o J e) f.1 f.2.1 f.2.2.2.1 f.2.2.2.2.1 f.2.2.2.2.2
 rw[eval_ListComp];exact wpAny_comprehension_free rfl hs j (iC.of S).kind (iC.of S).loc q
theorem Nb{y:Str}{J j:Pos}(hN:X.N.Nodup)(r:X.N[i]?=some y)(hy:Loc X.env.scope y)(S:iC X scope ix=true)(hc:X.calm=true)(hi:PI X tg iter wi)
 (hg:∀cl C Y Z fp,PG (X.comp scope tn ix cl C Y Z fp) tg g) (ht:∀cl C Y Z fp,sO (X.comp scope tn ix cl C Y Z fp) ifs tt) (he:∀cl C Y Z fp,PE (X.comp scope tn ix cl C Y Z fp) elt te)
 (L:fR (.ListComp elt [⟨tg,iter,ifs,0⟩] scope pos) (some (.Name y J)) j.line X.env=pure true:=by rfl)
 (R:X.fn y=true\/X.env.scope.names.lookup y=some .local:=by walk_at "hf")
 (hs:∀x,hV iter X.env x=pure x:=by intro _;rfl):PS X (.Assign [.Name y J] (.ListComp elt [⟨tg,iter,ifs,0⟩] scope pos) j) (PQ (Hn tn ix wi g tt te) (BZ i)):=by
 intro p s σ H E I h;rw[exec_Assign_Name_used _ _ _ _ L];refine ag (wpAny_standAt (ag ?_));obtain ⟨cl,M,q⟩:=Gz (P:=λO C=>compPost (dt X.prog X.w) X.A X.xe (some (assign (.Name y J) X.env)) (λ_ u=>SP X p E .next u) O C) (iC.of S) hc hi hg ht he I h λD C u H' U ⟨m,hn⟩ f q=>by
  refine wpAny_assign_Name (Ge (v:=.ref D) U hN r hy rfl (λs2 I2 l=>?_) R);obtain ⟨a,sb,ha⟩:=l;have B:C≠a:=by
   rcases ha with ha | ha
   . rw[ha];exact f.2.1
   . exact λz=>f.2.2.2.2.1 y a ha z.symm
  refine ⟨m,hn.sameBut sb B,λh' Q=>⟨_,H',?_,q⟩⟩;exact I2.turned (λb o hb e=>Q.extBut b o hb e) f.1 f.2.1 f.2.2.2.1 f.2.2.2.2.1 f.2.2.2.2.2
 refine ag (fy (wpAny_comprehension_free rfl hs M (iC.of S).kind (iC.of S).loc q) (λ_ u hq=>a9 (a9 hq)) λ_ _ e=>e)
end
variable {K:av}{H':Hp}{a:Addr}
theorem aF.fP{xs:C0}(e:aF H H')(h:SqT K H a xs):SqT K H' a xs:=by
 rcases h with (h | ⟨o,h⟩) | h
 . exact .inl (.inl (e _ _ h))
 . exact .inl (.inr ⟨o,e _ _ h⟩)
 . exact .inr h
theorem aF.new(h:H a=none)(o:HO):aF H (xk H a o):=λb u q=>by rw[aG (cU q h)];exact q
theorem aF.up{o:HO}(s:aF H H')(h:H a=none):aF H (xk H' a o):=λb u q=>by rw[aG (cU q h)];exact s b u q
mutual
def Is(K:av)(H:Hp):ab->V->Prop
 | .none,v=>v= .non
 | .bool b,v=>v= .bl b
 | .int i,v=>v= .int i
 | .str x,v=>v= .str x
 | .list ds,v=>∃a vs,v= .ref a/\SqL K H a vs/\fj K H ds vs
 | .tuple ds,v=>∃a vs,v= .ref a/\SqT K H a vs/\fj K H ds vs
 | .dict _,_=>False
def fj(K:av)(H:Hp):B4->C0->Prop
 | [],vs=>vs=[]
 | d::ds,vs=>∃v r,vs=v::r/\Is K H d v/\fj K H ds r
end
mutual
theorem Is.mono(e:aF H H'):∀(d:ab) {v:V},Is K H d v->Is K H' d v
 | .none,v,h=>h
 | .bool _,v,h=>h
 | .int _,v,h=>h
 | .str _,v,h=>h
 | .list ds,v,h=>by
  rw[Is] at h ⊢;obtain ⟨a,vs,h1,h2,h3⟩:=h;exact ⟨a,vs,h1,e.seq h2,fj.mono e ds h3⟩
 | .tuple ds,v,h=>by
  rw[Is] at h ⊢;obtain ⟨a,vs,h1,h2,h3⟩:=h;exact ⟨a,vs,h1,e.fP h2,fj.mono e ds h3⟩
 | .dict _,v,h=>h
theorem fj.mono(e:aF H H'):∀(ds:B4) {vs:C0},fj K H ds vs->fj K H' ds vs
 | [],vs,h=>h
 | d::ds,vs,h=>by
  rw[fj] at h ⊢;obtain ⟨v,r,h1,h2,h3⟩:=h;exact ⟨v,r,h1,Is.mono e d h2,fj.mono e ds h3⟩
end
mutual
theorem Is.reads(I:x9 X x2 σ H s):∀(d:ab) {v:V}{u:a0},Is X.K H d v->xh v u->∃as,Reads s.heap u d as
 | .none,v,u,h,r=>by
  rw[Is] at h;subst h;cases r;exact ⟨_,.none⟩
 | .bool b,v,u,h,r=>by
  rw[Is] at h;subst h;cases r;exact ⟨_,.bool b⟩
 | .int i,v,u,h,r=>by
  rw[Is] at h;subst h;obtain ⟨t,rfl⟩:=r;exact ⟨_,.int i t⟩
 | .str x,v,u,h,r=>by
  rw[Is] at h;subst h;obtain ⟨t,rfl⟩:=r;exact ⟨_,.str x t⟩
 | .list ds,v,u,h,r=>by
  rw[Is] at h;obtain ⟨a,vs,rfl,h2,h3⟩:=h;cases r;obtain ⟨x5,rv,⟨o,n,e,c,_,d⟩,_⟩:=I.list h2;obtain ⟨as,q⟩:=fj.reads I ds h3 rv;exact ⟨_,.list e c d (by simpa using q)⟩
 | .tuple ds,v,u,h,r=>by
  rw[Is] at h;obtain ⟨a,vs,rfl,h2,h3⟩:=h;cases r;obtain ⟨x5,rv,⟨o,e,c,n,d⟩,_⟩:=I.tuple h2;obtain ⟨as,q⟩:=fj.reads I ds h3 rv;exact ⟨_,.tuple e c d (by simpa using q)⟩
 | .dict _,v,u,h,r=>by
  rw[Is] at h;exact h.elim
theorem fj.reads(I:x9 X x2 σ H s):∀(ds:B4) {vs:C0}{us:B8},fj X.K H ds vs->xi vs us->∃as,ReadsAll s.heap us ds as
 | [],vs,us,h,r=>by
  rw[fj] at h;subst h;cases r;exact ⟨_,.nil⟩
 | d::ds,vs,us,h,r=>by
  rw[fj] at h;obtain ⟨v,rr,rfl,h2,h3⟩:=h
  cases r with
  | cons r1 r2=>
   obtain ⟨as,q⟩:=Is.reads I d h2 r1;obtain ⟨bs,q'⟩:=fj.reads I ds h3 r2;exact ⟨_,.cons q q'⟩
end
theorem qt:∀ns:B3,kn (ns.map ab.int)=0
 | []=>by rw[ew,kn]
 | n::ns=>by rw[a7,kn,ab.depth,qt ns];rfl
def afy(K:av):R2:=λx y H Q=>∃d e,Is K H d x/\Is K H e y/\dr d=true/\dr e=true/\Q (.bl (eP d e)) H
def afr(K:av):R2:=λx y H Q=>∃d e,Is K H d x/\Is K H e y/\dr d=true/\dr e=true/\Q (.bl (!eP d e)) H
theorem abD(p:X.A.units+64<h7):OpR X (eD .Eq) (afy X.K):=by
 rintro Y s C H x y v u Q I Z j ⟨d,e,B,z,i,o,q⟩;obtain ⟨as,r⟩:=Is.reads I d B Z;obtain ⟨bs,l⟩:=Is.reads I e z j;exact eq_dataH r l i o p ⟨.bl (eP d e),H,I,rfl,q⟩
theorem adG(p:X.A.units+64<h7):OpR X (eD .NotEq) (afr X.K):=by
 rintro Y s C H x y v u Q I Z j ⟨d,e,B,z,i,o,q⟩;obtain ⟨as,r⟩:=Is.reads I d B Z;obtain ⟨bs,l⟩:=Is.reads I e z j;exact ne_dataH r l i o p ⟨.bl (!eP d e),H,I,rfl,q⟩
def aaO:V->C0->Hp->VK->Prop:=λx vs H Q=>∃(l:Addr) (xs:C0) (i:Int) (y:V),x= .ref l/\vs=[.int i,y]/\H l=some (.lst xs)/\0<=i/\i<=xs.length/\xs.length<1000/\Q .non (xk H l (.lst (xs.take i.toNat++y::xs.drop i.toNat)))
theorem ab9{k:Int}(h0:0<=k)(Y:k<1000):¬ (!kL k)=true:=by
 have h:kL k=true:=by
  rw[kL,c9];exact ⟨decide_eq_true (by lia),decide_eq_true (by lia)⟩
 rw[h];decide
theorem S8:MtM X "list.insert" aaO:=by
 rintro o s σ H x vs v us Q I p P ⟨l,U,i,y,rfl,rfl,j,E,R,hz,q⟩;cases p;obtain ⟨S,u,rfl,D,J⟩:=xi.two P;obtain ⟨L,rfl⟩:=D;have C:=ab9 E (show i<1000 by lia);obtain ⟨z,Y,n,r,B,e⟩:=I.UL j;have Z:Y.toArray.size<=ba:=by rw[c8,<- B];exact z
 refine call_meets F.slot_list_insert ⟨_,e,rfl⟩ F.entry_list_insert (F.args_list_insert_3 _ _ _) (AutoSeq1.list_insert_list_int_val_1 l Y.toArray n i L u C Z) ⟨e,?_⟩;refine ⟨.non,_,I.Vq (its':=Y.take i.toNat++u::Y.drop i.toNat) j e ?_ ?_ ?_,rfl,q⟩
 . have M:¬ i<0:=by lia
   have O:min i.toNat Y.toArray.size=i.toNat:=by rw[c8];lia
   rw[if_neg M,O];apply Array.ext';simp[fA]
 . exact (r.take i.toNat).append (.cons J (r.drop i.toNat))
 . rw[ar,a6,cp,lT];exact kA (Uq (by lia))
noncomputable def Itv(K:av)(a:Addr)(n:Nat):It:=
 ⟨λi H=>i<n/\∃xs x,SqL K H a xs/\xs[n - 1 - i]?=some x,λi H x H'=>H'=H/\∀xs,SqL K H a xs->xs[n - 1 - i]?=some x,λi _=>i=n⟩
variable {P:fq}
theorem V1{tg:Expr}(a j:Addr)(n:Nat):Turn P w K tg (Itv K a n) [j] j (λi h=>h.IsRevIter j a ((n:Int) - 1 - (i:Nat))) where
 mem:=by simp
 obj:=λi h st b Z=>by
  have e:=by simpa using Z
  subst e;obtain ⟨o,e,c,d⟩:=st;exact ⟨o,e,λv z=>by rw[d] at z;cases z⟩
 keep:=λi h h' st k=>st.at λo e=>k j (by simp) o e
 item:=by
  intro X O Q r hc i l s σ H E I q st D;subst O Q r;obtain ⟨hi,xs,x,S,U⟩:=D;obtain ⟨x5,rv,p,hz⟩:=I.list S;obtain ⟨u,hu,ru⟩:=rv.get U;obtain ⟨J,R,f2,C,L,M⟩:=q j (by simp);have e:n - 1 - i=((n - 1 - i:Nat):Int):=by lia
  rw[e] at st;refine wpAny_pyNext_rev_item st p.isList (by simpa using hu) λh' Y sb=>?_;have e2:((n - 1 - i:Nat):Int) - 1=n - 1 - ((i+1:Nat):Int):=by lia
  rw[e2] at Y;have I1:=I.turned (t':=s.toks) (λb o Z e=>(sb.2 b Z).trans e) J R C L M;obtain ⟨o,e,c,d⟩:=id Y;exact ⟨u,rfl,zj e c d (by decide) ⟨x,H,I1,ru,⟨rfl,λys hy=>by rw[I.wB hy S];exact U⟩,Y,λb Z=>(q b Z).1⟩⟩
 done:=by
  intro X O Q r hc i l s σ H E I q st D;subst O Q r;have B:=D;subst B;obtain ⟨J,R,f2,C,L,M⟩:=q j (by simp);have e:(i:Int) - 1 - i= -1:=by lia
  rw[e] at st;exact wpAny_pyNext_rev_end (I.ok.hd hc) st λh' eb=>⟨rfl,I.turned (λb o Z e=>eb b o Z e) J R C L M⟩
 self:=λ_ _ _ _ _ st h=>wpAny_pyIter_revIter st h
section
variable  {tg:Expr}
def afO(K:av)(ta:TA):TI:=λσ H R=>ta σ H λvs H1=>∃a xs,vs=[.ref a]/\SqL K H1 a xs/\R (Itv K a xs.length) H1
theorem adR{a:Expr}{B:TA}{p:Pos}(E:Gl X "reversed")(Q:X.mg "reversed"= none)(C:PA X [a] B)(hs:dc [a] X.env=[(false,eval a X.env)]:=by rfl):PI X tg (.Call (.Name "reversed" p) [a] [] pos) (afO X.K B):=by
 intro Z s M H R I h;refine Call_ (m7 I E Q boot_reversed (gc (thn (C pos Z s M H _ I h) λus r i=>?_) hs rfl));obtain ⟨vs,D,v,U,q1⟩:=i;obtain ⟨l,z,e,P,q⟩:=q1;subst e;obtain ⟨u,rfl,J⟩:=xi.one U;cases J;obtain ⟨j,L,pl,hz⟩:=v.list P;refine call_reversed_list pl.isList ?_;have Y:(r.heap.push (revObj l ((j.toArray.size:Int) - 1))).IsRevIter r.heap.objs.size l (z.length - 1 - (0:Int)):=by
  have O:(j.toArray.size:Int) - 1=z.length - 1 - (0:Int):=by
   have:=L.length;rw[c8];lia
  rw[O];exact ⟨_,cn _ rfl,rfl,rfl⟩
 refine wpAny_pyIter_revIter Y (⟨r.heap.objs.size,[r.heap.objs.size],_,_,D,rfl,v.kept λb o e=>aE _ e,V1 l _ z.length,Y,λb S=>?_,q⟩);have e:=by simpa using S
 subst e;exact v.rG (ax _) (v.xw.fresh (ax _))
end
noncomputable def Ite(K:av)(a:Addr):It:=
 ⟨λi H=>∃xs x,SqL K H a xs/\xs[i]?=some x,λi H x H'=>∃p v,H p=none/\x= .ref p/\H'=xk H p (.tup [.int (i:Nat),v])/\∀xs,SqL K H a xs->xs[i]?=some v,λi H=>∃xs,SqL K H a xs/\xs.length<=i⟩
variable {y:V}{u:a0}
theorem x9.za{i:Heap}{tk:Nat}{fp:C2}{x:V}{v:a0}{l:Obj}(I:x9 X x2 σ H s)(p:∀b∈fp,ux X x2 H b)
 (e:∀c o,s.heap.get? c=some o->c∉fp->i.get? c=some o) (z:i.get? s.heap.objs.size=some l) (L:l.cls= .type "tuple") (hd:l.data= .seq #[u,v] 0) (D:xh x u) (O:xh y v) :
 x9 X x2 σ (xk H s.heap.objs.size (.tup [x,y])) { s with heap:=i,toks:=tk }:=by
 have Y:=I.xw.fresh (ax s.heap.objs.size);have r:∀c o,H c=some o->c∉fp:=λc o q hc=>by rw[(p c hc).1] at q;cases q
 have C:∀b o,s.heap.get? b=some o->b≠s.heap.objs.size:=λb o q=>ef (cm q);refine I.call' (ch:=fp) (s':={ s with heap:=i,toks:=tk }) rfl ⟨λb o q n _ hc=>e b o q hc,λb o q n _ hc=>⟨o.slots,e b o q hc⟩,λb o q n hc=>by rw[aG (C b o q)];exact n,λb o q hc=>⟨o,e b o q hc⟩,λb M q=>?_,λb o y q=>?_,λb Q q=>?_⟩ (λb o q=>?_) I.bare λb j=>?_
 . rw[aG (cU q Y)];exact q
 . rw[aG (cU q Y)];exact q
 . rw[aG (cU q Y)];exact q
 . by_cases j:b=s.heap.objs.size
   . subst j;rw[aX] at q;cases q;exact ⟨by show 2<=ba;decide,[u,v],.cons D (.cons O .nil),⟨l,z,L,0,hd⟩⟩
   . rw[aG j] at q;refine (I.xw b o q).stay (λc w hc Z=>?_) (λc Z=>by rw[aG (cU Z Y)];exact Z) λc M Z=>by rw[aG (cU Z Y)];exact Z
     rcases hc with rfl | hc
     . exact e c w Z (r c _ q)
     . exact e c w Z (r c _ hc)
 . obtain ⟨R,P,S,B,E,J⟩:=p b j;exact ⟨B,P,E,J⟩
variable {elts:C1}{tpos:Pos}
theorem Rf{x1}(a e it:Addr)(Q:e≠it) :
 Turn P w K (.Tuple elts x1 tpos) (Ite K a) [e,it] e (λi h=>(∃old,IsEnum h e it (i:Nat) old)/\h.IsListIter it a i) where
 mem:=by simp
 obj:=λi h st b O=>by
  obtain ⟨⟨old,Y⟩,o,ho,c,d⟩:=st;have j:b=e\/b=it:=by simpa using O
  rcases j with rfl | rfl
  . exact ⟨_,Y,λv z=>by cases z⟩
  . exact ⟨o,ho,λv z=>by rw[d] at z;cases z⟩
 keep:=λi h h' st k=>by
  obtain ⟨⟨old,Y⟩,hl⟩:=st;exact ⟨⟨old,k e (by simp) _ Y⟩,hl.at λo q=>k it (by simp) o q⟩
 item:=by
  intro X hP hw hK J i B s σ H E I r st hg;subst hP hw hK;obtain ⟨⟨old,Y⟩,Z⟩:=st;obtain ⟨xs,x,R,S⟩:=hg;obtain ⟨x5,rv,p,hz⟩:=I.list R;obtain ⟨u,hu,ru⟩:=rv.get S;obtain ⟨f0,f1,f2,f3,f4,f5⟩:=r e (by simp);obtain ⟨g0,g1,g2,g3,g4,g5⟩:=r it (by simp);refine wpAny_pyNext_enum_item Y Z p.isList (x:=u) (by simpa using hu) Q λh' he' C ht' hz' hk'=>?_;refine ⟨_,rfl,?_⟩;refine wpAny_letOwnedTupleGo_enum (s:={ s with heap:=h',toks:=s.toks+1 }) he' λU he2 l=>?_;have M:H s.heap.objs.size=none:=I.xw.fresh (ax _);have D:s.heap.objs.size≠e:=ow (cm Y);have ht2:U.get? s.heap.objs.size=some { cls:=.type "tuple",data:=.seq #[.int (i:Nat) s.toks,u] }:=l.extBut _ _ D ht';have k2:∀b o,b≠e->b≠it->s.heap.get? b=some o->U.get? b=some o:=λb o b1 b2 q=>l.extBut b o b1 (hk' b o b1 b2 q);have L:U.IsListIter it a (i+1):=C.extBut l.extBut (lx Q);have I2:=I.za (tk:=s.toks+1) (x:=.int (i:Nat)) r (λc o q J=>k2 c o (λz=>J (by simp[z])) (λz=>J (by simp[z])) q) ht2 rfl rfl ⟨_,rfl⟩ ru;refine ⟨.ref s.heap.objs.size,_,I2,rfl,⟨_,x,M,rfl,rfl,λys hy=>by rw[I.wB hy R];exact S⟩,⟨⟨u,?_⟩,L⟩,λb O=>?_⟩
  . have e3:(((i+1:Nat)):Int)=(i:Int)+1:=by lia
    rw[e3];exact he2
  . have j:b=e\/b=it:=by simpa using O
    rcases j with rfl | rfl
    . rw[aG (lx D)];exact f0
    . obtain ⟨o,ho,_⟩:=Z;rw[aG (ef (cm ho))];exact g0
 done:=by
  intro X hP hw hK J i B s σ H E I r st hg;subst hP hw hK;obtain ⟨⟨old,Y⟩,Z⟩:=st;obtain ⟨xs,R,S⟩:=hg;obtain ⟨x5,rv,p,hz⟩:=I.list R;obtain ⟨g0,g1,g2,g3,g4,g5⟩:=r it (by simp);have hl:=rv.length;exact wpAny_pyNext_enum_end (I.ok.hd J) Y Z p.isList (by simp;lia) λh' eb=>⟨rfl,I.turned (t':=s.toks) (λb o O e=>eb b o O e) g0 g1 g3 g4 g5⟩
 self:=λ_ _ _ _ _ st h=>let ⟨⟨_,Y⟩,_⟩:=st;oB Y h
structure At (K:av) (mg:Str->B7) (x:Str) (st:Stmt) (ps:B6):Prop where
 ex:∃f fd,Fun K x x st f fd/\Binds K fd ps []/\mg x=some (.ref f)
structure Def (P:fq) (w:i8) (K:av) (mg:Str->B7) (base:Heap) (k:Nat) (x:Str) (ps:B6) (sp:Sp):Prop where
 ex:∃f fd,rJ P w K mg base CX0 k f fd ps sp/\Binds K fd ps []/\jS K (.ref f)=true/\mg x=some (.ref f)
variable {ps:B6}
section
variable    {mg:Str->B7}{base:Heap}
theorem At.ok{st:Stmt}{N:B6}{sp:Sp}(F:At K mg x st ps)(S:cM N ps (aM st))(len:∀vs H Q E,sp vs H Q E->vs.length=ps.length)
 (hbody:∀(f:Addr) (Y:a0) (A:g9) (xD:C6) (s:cq) (H:Hp) (vs:C0) (Q:VK) (E:XK),dB i (A.deeper (mB x (aM st) s.heap.objs.size f Y))->sp vs H Q E ->
  ∃t,PSs (mq CX0 P w K mg base N x (aM st) f Y A xD s H E).nox (bU st) t/\t { nx:=λ_ H'=>Q .non H',rt:=Q } (start N vs) H):Def P w K mg base (i+1) x ps sp:=by
 obtain ⟨f,fd,F,b,m⟩:=F.ex;exact ⟨f,fd,F.ok S len (hbody f),b,F.kp,m⟩
theorem At.mk'{st:Stmt}{j i:C4}{e:Array B7}{kV Z pm Y ct:a0}(m:mg x=some (.ref a))
 (l:K.lookup a=some ⟨u,j,.func (d4 x x (cD st) (bU st) (aM st) .none kV Z pm i Y ct),e⟩) (c:kK K Y x=true) (k:jS K (.ref a)=true)
 (h:∀(kV Z pm:a0) (i:C4) (Y ct:a0) (us:B8),us.length=ps.length->iA (d4 x x (cD st) (bU st) (aM st) .none kV Z pm i Y ct) ⟨us,[]⟩=pure (ps.zip us)):At K mg x st ps:=
 ⟨a,_,HD l c k,(HD l c k).binds h,m⟩
end
section
variable  {k:Nat}   {sp:Sp}{p:Pos}{e:Expr}{es:C1}{t:TA}
theorem Bq(F:Def X.prog X.w X.K X.mg X.base k x ps sp)(l:dB k X.A)(i:Gl X x)(j:PA X (e::es) t)(Y:nD x:=by decide)
 (o:dc (e::es) X.env=(false,eval e X.env)::dc es X.env:=by rfl) (Z:(lS pos (dc es X.env)).any (·.1)=false:=by rfl):PE X (.Call (.Name x p) (e::es) [] pos) (X5 sp [] E0 t):=by
 obtain ⟨f,fd,F,b,kp,m⟩:=F.ex;exact Y4 F l i m kp b .nil aed j Y o Z
end
variable {it l:Addr}{Q:B2}{items x5:Array a0}
section
open Builtin Builtin.Str
theorem jh{items}{x:a0}(Y:s.heap.IsTupleIter it l i)
 (q:s.heap.IsTuple l items) (p:items[i]?=some x)
 (r:∀h',h'.IsTupleIter it l (i+1)->m3 it s.heap h'->Q x { s with heap:=h' }) :
 de (dt prog w) A (Builtin.SmallTypes.nextOf (.ref it)) Q E s:=by
 obtain ⟨o,Z,u,hd⟩:=id Y;obtain ⟨v,j,_,nl,e⟩:=q;refine ag (fh Y.typeIs kM
  (fi kM Y.typeIs F.entry_tuple_iterator_next ?_ (qE _)))
 show de _ _ (field (.ref it) 0 >>= _) _ _ s;refine ag (hW Z hd rfl ?_);show de _ _ (if (fN l == a0.none)=true then _ else _) _ _ s;rw[if_neg (show ¬ ((fN l == a0.none)=true) from dV)];refine ag (hW Z hd rfl (ag (eW j e ?_)));simp only[cc,p];refine ag (wpAny_setField Z hd (by simp) (a9 ⟨x,rfl,a9 (r _ ?_ (nh ..))⟩));exact ⟨_,Heap.get?_update_self _ Z (Obj.isFreed_of_fields (Obj.data_mapFields hd _)),(Obj.cls_mapFields ..).trans u,by
  rw[Obj.data_mapFields hd];simp[qA]⟩
theorem jz{items}(hh:A.handled=none)
 (Y:s.heap.IsTupleIter it l i) (r:s.heap.IsTuple l items) (q:items[i]?=none)
 (u:∀h' e,Heap.ExtBut it s.heap h'->(∃o,h'.get? e=some o/\o.cls= .type "StopIteration")->E (.ref e) { s with heap:=h' }) :
 de (dt prog w) A (Builtin.SmallTypes.nextOf (.ref it)) Q E s:=by
 obtain ⟨o,j,z,hd⟩:=id Y;obtain ⟨v,p,_,nl,Z⟩:=r;refine ag (fh Y.typeIs kM
  (fi kM Y.typeIs F.entry_tuple_iterator_next ?_ (qE _)))
 show de _ _ (field (.ref it) 0 >>= _) _ _ s;refine ag (hW j hd rfl ?_);show de _ _ (if (fN l == a0.none)=true then _ else _) _ _ s;rw[if_neg (show ¬ ((fN l == a0.none)=true) from dV)];refine ag (hW j hd rfl (ag (eW p Z ?_)));simp only[cc,q];refine ag (r9 (ag (wpAny_setField j hd (by simp) (ag ?_))));refine ag (j3 ?_ (by size_fits));refine ag (wpAny_of_eq (by first | rfl | (rfl)) (j3 ?_ (by size_fits)));refine ag (wpAny_handled ?_)
 first | rw[hh] | rw[hh]
 exact ag (a9 (wpAny_throw (u _ _ (((nh ..).extBut.push _).push _) ⟨_,cn _ rfl,rfl⟩)))
theorem _root_.PySem.Draws.tuple(hh:A.handled=none)(j l:Addr)(u:l≠j)(Y:Array a0) :
 Draws prog w A j [j,l] Y.size (λi v=>Y[i]?=some v) (λi h=>h.IsTupleIter j l i/\h.IsTuple l Y) where
 live:=λ_ _ st=>let ⟨o,p,_⟩:=st.1;⟨o,p⟩
 frame:=λ_ _ _ st B=>⟨st.1.at λo e=>B j (by simp) o e,let ⟨o,p,r⟩:=st.2;⟨o,B l (by simp) o p,r⟩⟩
 item:=λi s Q E z st C=>by
  exact jh st.1 st.2 (x:=Y[i]) (by simp[z]) λD Z q=>C _ D s.toks (by simp[z]) ⟨Z,let ⟨o,p,r⟩:=st.2;⟨o,q.extBut l o u p,r⟩⟩ q
 done:=λs Q E st H=>jz hh st.1 st.2 (by simp) H
theorem uy{Q:B7->cq->Prop}(hh:A.in1.handled=none)
 (j:IsEnum s.heap a it i u) (Y:s.heap.IsTupleIter it l i) (r:s.heap.IsTuple l items) (q:items[i]?=none)
 (z:∀h',Heap.ExtBut it s.heap h'->Q none { s with heap:=h' }):de (dt prog w) A (pyNext (.ref a)) Q E s:=by
 have hT:s.TypeIs (.ref a) "enumerate" := ⟨_,j,rfl⟩;refine ag (wpAny_attempt (fh hT F.slot_enumerate_next
  (fi F.slot_enumerate_next hT F.entry_enumerate_next ?_ (F.args_enumerate_next_1 _))))
 show de _ _ (field (.ref a) 2 >>= _) _ _ _;refine ag (hW j rfl rfl (ag (jz hh Y r q λh' x e Z=>?_)));obtain ⟨o,p,v⟩:=Z;exact ag (nc ⟨o,p,v⟩ isSubtype_stop (a9 (z _ e)))
open AutoSeq1 (wpAny_loadPart') in
theorem vy(l:Addr)(items:Array a0)(n:Nat)(dct:C4)(sl:Array B7) :
 Meets (Builtin.«enumerate.__new__» ⟨[.type "enumerate",.ref l],[]⟩) (λ_ R s=>s.heap.get? l=some { cls:=.type "tuple",dict:=dct,data:=.seq items n,slots:=sl } /\
  R (.ok (.ret (.ref (s.heap.push { cls:=.type "tuple_iterator",data:=.fields #[.ref l,.int 0 0] }).objs.size)))
   { s with heap:=(s.heap.push { cls:=.type "tuple_iterator",data:=.fields #[.ref l,.int 0 0] }).push { cls:=.type "enumerate",data:=.fields #[.none,.bool false,.ref s.heap.objs.size,qA 0,.none,.none] } }):=
 .of_wp λprog w A R s h=>by
  obtain ⟨hp,g,d,tk,os⟩:=s;obtain ⟨hl,h⟩:=h;have hsub:=sub_enumerate;have hL:Heap.IsTuple (Shared.heap ⟨hp,g,d,tk,os⟩) l items:=⟨_,hl,rfl,n,rfl⟩
  wp_walk using qV hl
  refine wpAny_stack_any λst=>a9 ?_;split
  . rename_i c _ _ _ _ _;cases (c == ke "enumerate")
    . wp_walk using qV hl,md hL
      exact ⟨_,rfl,h⟩
    . wp_walk using qV hl,md hL
      exact ⟨_,rfl,h⟩
  . wp_walk using qV hl,md hL
    exact ⟨_,rfl,h⟩
theorem xm(p:s.heap.IsTuple l items)
 (h:∀h',IsEnum h' (s.heap.objs.size+1) s.heap.objs.size 0 .none->h'.IsTupleIter s.heap.objs.size l 0->h'.objs.size=s.heap.objs.size+2 ->
  (∀b o,s.heap.get? b=some o->h'.get? b=some o)->Q (.ref (s.heap.objs.size+1)) { s with heap:=h' }) :
 de (dt prog w) A (call (.type "enumerate") [.ref l]) Q E s:=by
 obtain ⟨⟨c,Y,q,r⟩,j,Z,n,hd⟩:=p;replace Z:c= .type "tuple" := Z;replace hd:q= .seq items n:=hd;subst Z hd;refine callType_new F.called_enumerate (by decide) (F.typeCall_enumerate_1 _) (F.newCall_enumerate_1 _) (λobj=>F.args_object_init_2 obj _) F.entry_enumerate_new
  (vy l items n Y r) ⟨j,?_⟩
 have e:(s.heap.push { cls:=.type "tuple_iterator",data:=.fields #[.ref l,.int 0 0] }).objs.size=s.heap.objs.size+1:=gy ..
 rw[e];have i:=by
  have:=cn (s.heap.push { cls:=.type "tuple_iterator",data:=.fields #[.ref l,.int 0 0] })
   (o:={ cls:=.type "enumerate",data:=.fields #[.none,.bool false,.ref s.heap.objs.size,qA 0,.none,.none] }) rfl
  rwa [e] at this
 refine ⟨⟨_,i,rfl⟩,h _ i ⟨_,aE _ (cn _ rfl),rfl,rfl⟩ (by rw[gy,e]) λb o x=>aE _ (aE _ x)⟩
theorem Pq{h:Heap}(p:h.IsTuple a x5)(q:h.IsTupleIter it l i):a≠it:=by
 rintro rfl;obtain ⟨o,e,c,_⟩:=p;obtain ⟨j,Y,Z,_⟩:=q;rw[e] at Y;cases Y;rw[c] at Z;exact absurd Z (by decide)
theorem Ov{h:Heap}{e:Addr}{i:Int}(p:h.IsTuple a x5)(q:IsEnum h e it i u):a≠e:=by
 rintro rfl;obtain ⟨o,Y,c,_⟩:=p;rw[q] at Y;cases Y;exact absurd c (by show ¬ (ke "enumerate"= ke "tuple");decide)
noncomputable def Xe(K:av)(a:Addr):It:=
 ⟨λi H=>∃xs x,SqT K H a xs/\xs[i]?=some x,λi H x H'=>∃p v,H p=none/\x= .ref p/\H'=xk H p (.tup [.int (i:Nat),v])/\∀xs,SqT K H a xs->xs[i]?=some v,λi H=>∃xs,SqT K H a xs/\xs.length<=i⟩
theorem QZ{x1}(a e it:Addr)(hne:e≠it) :
 Turn P w K (.Tuple elts x1 tpos) (Xe K a) [e,it] e (λi h=>(∃old,IsEnum h e it (i:Nat) old)/\h.IsTupleIter it a i) where
 mem:=by simp
 obj:=λi h st b hb=>by
  obtain ⟨⟨old,he⟩,o,ho,c,d⟩:=st;have hb':b=e\/b=it:=by simpa using hb
  rcases hb' with rfl | rfl
  . exact ⟨_,he,λv z=>by cases z⟩
  . exact ⟨o,ho,λv z=>by rw[d] at z;cases z⟩
 keep:=λi h h' st k=>by
  obtain ⟨⟨old,he⟩,hl⟩:=st;exact ⟨⟨old,k e (by simp) _ he⟩,hl.at λo q=>k it (by simp) o q⟩
 item:=by
  intro X hP hw hK hc i x2 s σ H E I hf st hg;subst hP hw hK;obtain ⟨⟨old,he⟩,hit⟩:=st;obtain ⟨xs,x,hq,hx⟩:=hg;obtain ⟨x5,rv,p,hz⟩:=I.tuple hq;obtain ⟨u,hu,ru⟩:=rv.get hx;obtain ⟨f0,f1,f2,f3,f4,f5⟩:=hf e (by simp);obtain ⟨g0,g1,g2,g3,g4,g5⟩:=hf it (by simp);have pt:s.heap.IsTuple a x5.toArray:=p;have nai:a≠it:=Pq pt hit;have nae:a≠e:=Ov pt he;refine wpAny_pyNext_enum_itemD (Draws.tuple (show X.A.in1.handled=none from I.ok.hd hc) it a nai x5.toArray) he ⟨hit,pt⟩ (by have:=rv.length;have:=(aI.mp hx).1;simp;lia) hne (by simp[hne,lx nae]) λu' h' tk hu' he' st' ht' hz' hk'=>?_;have eu:u'=u:=by
   have:x5[i]?=some u':=by simpa using hu'
   rw[hu] at this;exact (Option.some.inj this).symm
  subst eu;obtain ⟨hit',-⟩:=st';refine ⟨_,rfl,?_⟩;refine wpAny_letOwnedTupleGo_enum (s:={ s with heap:=h',toks:=tk+1 }) he' λh2 he2 sb2=>?_;have hnew:H s.heap.objs.size=none:=I.xw.fresh (ax _);have hpe:s.heap.objs.size≠e:=ow (cm he);have ht2:h2.get? s.heap.objs.size=some { cls:=.type "tuple",data:=.seq #[.int (i:Nat) tk,u'] }:=sb2.extBut _ _ hpe ht';have k2:∀b o,b≠e->b≠it->s.heap.get? b=some o->h2.get? b=some o:=λb o b1 b2 q=>sb2.extBut b o b1 (hk' b o b1 b2 q);have hit2:h2.IsTupleIter it a (i+1):=hit'.extBut sb2.extBut (lx hne);have I2:=I.za (tk:=tk+1) (x:=.int (i:Nat)) hf (λc o q hc=>k2 c o (λz=>hc (by simp[z])) (λz=>hc (by simp[z])) q) ht2 rfl rfl ⟨_,rfl⟩ ru;refine ⟨.ref s.heap.objs.size,_,I2,rfl,⟨_,x,hnew,rfl,rfl,λys hy=>by rw[I.xj hy hq];exact hx⟩,⟨⟨u',?_⟩,hit2⟩,λb hb=>?_⟩
  . have e3:(((i+1:Nat)):Int)=(i:Int)+1:=by lia
    rw[e3];exact he2
  . have hb':b=e\/b=it:=by simpa using hb
    rcases hb' with rfl | rfl
    . rw[aG (lx hpe)];exact f0
    . obtain ⟨o,ho,_⟩:=hit;rw[aG (ef (cm ho))];exact g0
 done:=by
  intro X hP hw hK hc i x2 s σ H E I hf st hg;subst hP hw hK;obtain ⟨⟨old,he⟩,hit⟩:=st;obtain ⟨xs,hq,hx⟩:=hg;obtain ⟨x5,rv,p,hz⟩:=I.tuple hq;obtain ⟨g0,g1,g2,g3,g4,g5⟩:=hf it (by simp);have hl:=rv.length;have pt:s.heap.IsTuple a x5.toArray:=p;exact uy (show X.A.in1.handled=none from I.ok.hd hc) he hit pt (by simp;lia) λh' eb=>⟨rfl,I.turned (t':=s.toks) (λb o hb e=>eb b o hb e) g0 g1 g3 g4 g5⟩
 self:=λ_ _ _ _ _ st h=>let ⟨⟨_,he⟩,_⟩:=st;oB he h
def abP(K:av)(ta:TA):TI:=λσ H R=>ta σ H λvs H1=>∃a xs,vs=[.ref a]/\((SqL K H1 a xs/\R (Ite K a) H1)\/(SqT K H1 a xs/\R (Xe K a) H1))
theorem J9{x1}{a:Expr}{E:TA}{p:Pos}(P:Gl X "enumerate")(L:X.mg "enumerate"= none)(O:PA X [a] E)(hs:dc [a] X.env=[(false,eval a X.env)]:=by rfl) :
 PI X (.Tuple elts x1 tpos) (.Call (.Name "enumerate" p) [a] [] pos) (abP X.K E):=by
 intro v s σ H R I h;refine Call_ (m7 I P L (show eh "enumerate"= some (.type "enumerate") by decide +kernel) (gc (thn (O pos v s σ H _ I h) λus Z r=>?_) hs rfl));obtain ⟨vs,J,i,U,q1⟩:=r;obtain ⟨l,xs,e,q⟩:=q1;subst e;obtain ⟨u,rfl,Q⟩:=xi.one U;cases Q;have Y:∀b,b∈[Z.heap.objs.size+1,Z.heap.objs.size]->_:=λb o=>by
  have hb':=by simpa using o
  exact show Z.heap.objs.size<=b by lia
 rcases q with ⟨C,q⟩ | ⟨C,q⟩
 . obtain ⟨B,rv,pl,M⟩:=i.list C;refine call_enumerate_list pl.isList λS z j D k=>oB z ?_;exact ⟨Z.heap.objs.size+1,[Z.heap.objs.size+1,Z.heap.objs.size],_,_,J,rfl,i.kept k,Rf l _ _ (Nat.succ_ne_self _),⟨⟨_,z⟩,j⟩,λb o=>i.rG (Y b o) (i.xw.fresh (Y b o)),q⟩
 . obtain ⟨B,rv,pl,M⟩:=i.tuple C;have pt:=pl;refine xm pt λS z j D k=>oB z ?_;exact ⟨Z.heap.objs.size+1,[Z.heap.objs.size+1,Z.heap.objs.size],_,_,J,rfl,i.kept k,QZ l _ _ (Nat.succ_ne_self _),⟨⟨_,z⟩,j⟩,λb o=>i.rG (Y b o) (i.xw.fresh (Y b o)),q⟩
end
variable {o:Option V}
section
variable {κ:Type} [DecidableEq κ]
noncomputable def gq(x3:List (κ×V))(k:κ):Option V:=(x3.find? λkv=>decide (kv.1=k)).map (·.2)
noncomputable def putK(x3:List (κ×V))(k:κ)(v:V):List (κ×V):=
 if (x3.any λkv=>decide (kv.1=k))=true then x3.map (λkv=>if kv.1=k then (kv.1,v) else kv) else x3++[(k,v)]
noncomputable def sW(x3:List (κ×V))(k:κ):List (κ×V):=x3.filter λkv=>decide (kv.1≠k)
theorem nO{p:κ×V}{r:List (κ×V)}{k:κ}(e:p.1=k):gq (p::r) k=some p.2:=by simp[gq,fI,e]
theorem nY{p:κ×V}{r:List (κ×V)}{k:κ}(e:¬ p.1=k):gq (p::r) k=gq r k:=by simp[gq,fI,e]
theorem Ai(k:κ):∀x3:List (κ×V),(x3.any λY=>decide (Y.1=k))=(gq x3 k).isSome
 | []=>rfl
 | p::r=>by
  rw[iq]
  by_cases e:p.1=k
  . simp only[nO e,decide_eq_true e,xa,Option.isSome_some]
  . rw[nY e,decide_eq_false e,sN];exact Ai k r
theorem oR(Y:List (κ×V))(k:κ)(v:V):(putK Y k v).length<=Y.length+1:=by
 unfold putK;split
 . rw[af];lia
 . rw[ar,a6,ko];lia
theorem nU.j6{u:B7}(r:nU o u):o.isSome=u.isSome:=by
 cases o with
 | none=>cases u with
  | none=>rfl
  | some _=>exact (r).elim
 | some _=>cases u with
  | none=>exact (r).elim
  | some _=>rfl
theorem KV.val{Y:List (κ×V)}{l:List (κ×a0)}(r:KV Y l)(k:κ):nU (gq Y k) (sm l k):=by
 induction r with
 | nil=>exact ia
 | @cons p q u Z h t s=>
  obtain ⟨j,o⟩:=h
  by_cases e:p.1=k
  . have i:=j.symm.trans e;have b:sm (q::Z) k=some q.2:=by simp[sm,fI,i]
    rw[nO e,b];exact o
  . have i:¬ q.1=k:=λz=>e (j.trans z);have b:sm (q::Z) k=sm Z k:=by simp[sm,fI,i]
    rw[nY e,b];exact s
theorem KV.any{Y:List (κ×V)}{e:List (κ×a0)}(r:KV Y e)(k:κ):(Y.any λZ=>decide (Z.1=k))=e.any λZ=>decide (Z.1=k):=by
 induction r with
 | nil=>rfl
 | cons h t i=>rw[iq,iq,i,h.1]
theorem KV.repl{Z:List (κ×V)}{j:List (κ×a0)}(r:KV Z j)(k:κ)(o:xh y u) :
 KV (Z.map λY=>if Y.1=k then (Y.1,y) else Y) (j.map λY=>if Y.1=k then (Y.1,u) else Y):=by
 induction r with
 | nil=>exact .nil
 | @cons p q B v h t s=>
  rw[a7,a7];refine .cons ?_ s;obtain ⟨i,l⟩:=h
  by_cases e:p.1=k
  . rw[if_pos e,if_pos (i.symm.trans e)];exact ⟨i,o⟩
  . rw[if_neg e,if_neg (λz=>e (i.trans z))];exact ⟨i,l⟩
theorem KV.put{Y:List (κ×V)}{Z:List (κ×a0)}(r:KV Y Z)(k:κ)(i:xh y u):KV (putK Y k y) (stored Z k u):=by
 unfold putK stored;rw[r.any k]
 by_cases e:(Z.any λj=>decide (j.1=k))=true
 . rw[if_pos e,if_pos e];exact r.repl k i
 . rw[if_neg e,if_neg e];exact hX.snoc r ⟨rfl,i⟩
theorem KV.drop{Y:List (κ×V)}{i:List (κ×a0)}(r:KV Y i)(k:κ):KV (sW Y k) (without i k):=by
 unfold sW without
 induction r with
 | nil=>exact .nil
 | @cons p q u s h t j=>
  obtain ⟨Z,o⟩:=h;rw[List.filter_cons,List.filter_cons]
  by_cases e:p.1=k
  . have a:¬ decide (p.1≠k)=true:=by simp[e]
    have b:¬ decide (q.1≠k)=true:=by simp[Z.symm.trans e]
    rw[if_neg a,if_neg b];exact j
  . have l:¬ q.1=k:=λz=>e (Z.trans z);have a:decide (p.1≠k)=true:=by simp[e]
    have b:decide (q.1≠k)=true:=by simp[l]
    rw[if_pos a,if_pos b];exact .cons ⟨Z,o⟩ j
theorem KV.length{Y:List (κ×V)}{Z:List (κ×a0)}(r:KV Y Z):Y.length=Z.length:=hX.length r
theorem Vj(Y:List (κ×V))(k:κ):(sW Y k).length<=Y.length:=pz _ _
end
theorem wk{k:Key}(r:xh (kV k) u):(bZ P w).is k u=true:=by
 cases k with
 | inl i=>obtain ⟨t,e⟩:=(r);subst e;exact Mw P w i t
 | inr x=>obtain ⟨t,e⟩:=(r);subst e;exact Mm P w x t
theorem Gp:∀{ks:C7}{us:B8},xi (ks.map kV) us->ItemsAre (bZ P w) ks us
 | [],_,r=>by rw[ew] at r;cases r;exact .nil
 | k::ks,_,r=>by
  rw[a7] at r
  cases r with
  | cons h t=>exact .cons (wk h) (Gp t)
abbrev KT(H:Hp):List (C7×V)->List (C7×Addr×a0)->Prop:=hX λp q=>p.1=q.1/\H q.2.1=some (.tup (p.1.map kV))/\xh p.2 q.2.2
variable {x3:List (C7×V)}{xs:List (C7×Addr×a0)}
theorem KT.val(r:KT H x3 xs)(k:C7):nU (gq x3 k) ((nz xs k).map (·.2)):=by
 induction r with
 | nil=>exact ia
 | @cons p q o Y h t l=>
  obtain ⟨i,_,j⟩:=h
  by_cases e:p.1=k
  . have Z:=i.symm.trans e;have b:nz (q::Y) k=some q.2:=by simp[nz,fI,Z]
    rw[nO e,b];exact j
  . have Z:¬ q.1=k:=λz=>e (i.trans z);have b:nz (q::Y) k=nz Y k:=by simp[nz,fI,Z]
    rw[nY e,b];exact l
theorem KT.repl(r:KT H x3 xs)(k:C7)(l:xh y u) :
 KT H (x3.map λZ=>if Z.1=k then (Z.1,y) else Z) (xs.map (putAt k u)):=by
 induction r with
 | nil=>exact .nil
 | @cons p q v s h t o=>
  rw[a7,a7];refine .cons ?_ o;obtain ⟨Y,i,j⟩:=h;unfold putAt
  by_cases e:p.1=k
  . rw[if_pos e,if_pos (Y.symm.trans e)];exact ⟨Y,i,l⟩
  . rw[if_neg e,if_neg (λz=>e (Y.trans z))];exact ⟨Y,i,j⟩
variable {b:Addr}
theorem KT.put(r:KT H x3 xs)(k:C7)(i:H b=some (.tup (k.map kV)))(Y:xh y u) :
 KT H (putK x3 k y) (sA xs k b u):=by
 have e:(x3.any λZ=>decide (Z.1=k))=(nz xs k).isSome:=by
  rw[Ai,(r.val k).j6,iF]
 unfold putK sA;rw[e]
 by_cases q:(nz xs k).isSome=true
 . rw[if_pos q,if_pos q];exact r.repl k Y
 . rw[if_neg q,if_neg q];exact hX.snoc r ⟨rfl,i,Y⟩
theorem KT.keeps(r:KT H x3 xs)(Y:∀b ys,H b=some (.tup ys)->H' b=some (.tup ys)):KT H' x3 xs:=
 Paired.sE r λ_ _ z=>⟨z.1,Y _ _ z.2.1,z.2.2⟩
section
variable    {h:Heap}
theorem Yb{u:HO}(ok:HOk P w H h)(e:Rd H a u):fV P w H h a u:=e.ok ok
theorem qG{Y:A8}(ok:HOk P w H h)(e:Rd H a (.dK Y)):Y.length<=ba/\(a == fb)=false/\∃vs,KV Y vs/\h.DictOf (bZ P w) a vs:=
 Yb ok e
theorem Dj{Y:A8}(ok:HOk P w H h)(e:H a=some (.dK Y)):Y.length<=ba/\(a == fb)=false/\∃vs,KV Y vs/\h.DictOf (bZ P w) a vs:=qG ok (.inl e)
theorem yj{ks:C7}(ok:HOk P w H h)(e:H a=some (.tup (ks.map kV))):(oi (bZ P w)).is h ks a:=by
 obtain ⟨_,Y,r,o,Z,i,n,j⟩:=(ok a _ e);exact ⟨o,Y.toArray,n,Z,i,j,by simpa using Gp r⟩
theorem yU(ok:HOk P w H h)(e:Rd H a (.dT x3)):x3.length<=ba/\(a == fb)=false /\
 ∃xs,KT H x3 xs/\h.DictOfH (oi (bZ P w)) a xs:=by
 obtain ⟨z,y,xs,r,o,s,i,v,u,Z,j,B⟩:=(Yb ok e);refine ⟨z,y,xs,r,o,s,i,v,u,Z,j,λx hx=>?_,B⟩;have all:∀{l:List (C7×V)}{m:List (C7×Addr×a0)},KT H l m->∀x∈m,(oi (bZ P w)).is h x.1 x.2.1:=by
  intro l m q
  induction q with
  | nil=>intro x hx;exact nomatch hx
  | @cons p q E D Y t C=>
   intro x hx;rcases bE.mp hx with e | hx
   . subst e;exact yj ok (by rw[<- Y.1];exact Y.2.1)
   . exact C x hx
 exact all r x hx
theorem ad4(ok:HOk P w H h)(e:H a=some (.dT x3)):x3.length<=ba/\(a == fb)=false /\
 ∃xs,KT H x3 xs/\h.DictOfH (oi (bZ P w)) a xs:=yU ok (.inl e)
end
def vI(H:Hp)(a:Addr)(y:V)(r:Option V):Prop:=
 (∃x3 k,Rd H a (.dK x3)/\y=kV k/\r=gq x3 k)\/∃x3 k b,Rd H a (.dT x3)/\y= .ref b/\H b=some (.tup (k.map kV))/\r=gq x3 k
def xP(H:Hp)(a:Addr)(y v:V)(H':Hp):Prop:=
 (∃x3 k,H a=some (.dK x3)/\y=kV k/\x3.length<ba/\H'=xk H a (.dK (putK x3 k v))) \/
 ∃x3 k b,H a=some (.dT x3)/\y= .ref b/\H b=some (.tup (k.map kV))/\x3.length<ba/\H'=xk H a (.dT (putK x3 k v))
theorem vI.k{Y:A8}{k:Key}(e:H a=some (.dK Y)):vI H a (kV k) (gq Y k):=.inl ⟨Y,k,.inl e,rfl,rfl⟩
theorem vI.t{k:C7}(e:H a=some (.dT x3))(Y:H b=some (.tup (k.map kV))):vI H a (.ref b) (gq x3 k):=.inr ⟨x3,k,b,.inl e,rfl,Y,rfl⟩
theorem xP.k{Y:A8}{k:Key}(e:H a=some (.dK Y))(Z:Y.length<ba):xP H a (kV k) y (xk H a (.dK (putK Y k y))):=.inl ⟨Y,k,e,rfl,Z,rfl⟩
theorem xP.t{k:C7}(e:H a=some (.dT x3))(Z:H b=some (.tup (k.map kV)))(Y:x3.length<ba) :
 xP H a (.ref b) y (xk H a (.dT (putK x3 k y))):=.inr ⟨x3,k,b,e,rfl,Z,Y,rfl⟩
section
variable       {v:V}{r:a0}
theorem x9.big(I:x9 X x2 σ H s):fb<s.heap.objs.size:=by
 have h:=(I.mod.glob.keeps I.bk).lt;exact Nat.lt_trans (by decide) h
theorem Ua(L:A.units+1<h7)(I:x9 X x2 σ H s)(g:vI H a y (some v))(C:xh y u)(h:∀i s',x9 X x2 σ H s'->xh v i->Q i s') :
 de (dt X.prog X.w) A (nL (.ref a) u) Q E s:=by
 rcases g with ⟨r,k,e,q,l⟩ | ⟨r,k,b,e,q,D,l⟩
 . subst q;obtain ⟨z,hd,O,Y,j⟩:=qG I.xw e;obtain ⟨i,B,Z⟩:=nU.some_of (by rw[l];exact Y.val k);exact wpAny_getItem_of (wk C) j.mapOf B (h i _ (I.tok _) Z)
 . subst q;cases (C);obtain ⟨z,hd,M,Y,j⟩:=yU I.xw e;obtain ⟨i,B,Z⟩:=nU.some_of (by rw[l];exact Y.val k);obtain ⟨p,J,o⟩:=kC.mp B;refine sd (oe L) (yj I.xw D) j J ?_;rw[o];exact h i _ (I.tok _) Z
theorem afv(v:A.units+1<h7)(I:x9 X x2 σ H s)(g:vI H a y o)(p:xh y u)(h:∀s',x9 X x2 σ H s'->Q (.bool o.isSome) s') :
 de (dt X.prog X.w) A (eD .In u (.ref a)) Q E s:=by
 rcases g with ⟨j,k,e,i,l⟩ | ⟨j,k,b,e,i,r,l⟩
 . subst i;obtain ⟨z,hd,B,Y,Z⟩:=qG I.xw e;refine wpAny_in_of (wk p) hd Z.mapOf ?_;rw[<- (Y.val k).j6,<- l];exact h _ (I.tok _)
 . subst i;cases (p);obtain ⟨z,hd,C,Y,Z⟩:=yU I.xw e;refine wpAny_in_heap (oe v) (yj I.xw r) hd Z ?_;have q:=(Y.val k).j6;rw[iF] at q;rw[<- q,<- l];exact h _ (I.tok _)
theorem aao(v:A.units+1<h7)(I:x9 X x2 σ H s)(g:vI H a y o)(p:xh y u)(h:∀s',x9 X x2 σ H s'->Q (.bool (!o.isSome)) s') :
 de (dt X.prog X.w) A (eD .NotIn u (.ref a)) Q E s:=by
 rcases g with ⟨j,k,e,i,l⟩ | ⟨j,k,b,e,i,r,l⟩
 . subst i;obtain ⟨z,hd,B,Y,Z⟩:=qG I.xw e;refine wpAny_notIn_of (wk p) hd Z.mapOf ?_;rw[<- (Y.val k).j6,<- l];exact h _ (I.tok _)
 . subst i;cases (p);obtain ⟨z,hd,C,Y,Z⟩:=yU I.xw e;refine wpAny_notIn_heap (oe v) (yj I.xw r) hd Z ?_;have q:=(Y.val k).j6;rw[iF] at q;rw[<- q,<- l];exact h _ (I.tok _)
theorem mO{Y:Heap}{t':Nat}{Z:HO}(I:x9 X x2 σ H s)(i:Mut (H a))(hs:m3 a s.heap Y)(j:∃q,Y.get? a=some q)(new:fV X.prog X.w (xk H a Z) Y a Z) :
 x9 X x2 σ (xk H a Z) { s with heap:=Y,toks:=t' }:=
 I.write i (.inl rfl) (λb q e z=>(hs.2 b e).trans z) j new
theorem J8{i:Heap}{Y:A8}{e:List (Key×a0)}(z:Y.length<=ba)(hd:(a == fb)=false)(Z:KV Y e)(j:i.DictOf (bZ P w) a e) :
 fV P w H' i a (.dK Y):=⟨z,hd,e,Z,j⟩
theorem Sw{Q:Unit->cq->Prop}(hu:A.units+1<h7)(I:x9 X x2 σ H s)(g:xP H a y v H')(J:xh y u)(L:xh v r)(h:∀s',x9 X x2 σ H' s'->Q () s') :
 de (dt X.prog X.w) A (setItem (.ref a) u r) Q E s:=by
 rcases g with ⟨Z,k,e,o,l,p⟩ | ⟨Z,k,b,e,o,O,l,p⟩
 . subst o p;obtain ⟨z,hd,vs,Y,C⟩:=Dj I.xw e;have hz:vs.length<=ba:=by rw[<- Y.length];exact z
   have D:(putK Z k v).length<=ba:=by have:=oR Z k v;lia
   refine wpAny_setItem_pairs (wk J) C λP i B=>h _ ?_;have he:∃q,P.get? a=some q:=let ⟨q,_,_,j,_⟩:=i;⟨q,j⟩;exact mO I (by rw[e];exact ia) B he (J8 D hd (Y.put k L) i)
 . subst o p;cases (J);obtain ⟨z,hd,xs,Y,C⟩:=ad4 I.xw e;have hz:xs.length<=ba:=by rw[<- hX.length Y];exact z
   have D:(putK Z k v).length<=ba:=by have:=oR Z k v;lia
   refine wpAny_setItem_heap (oe hu) (yj I.xw O) C λP i B=>h _ ?_;obtain ⟨q,es,R,j,S,h3,h4,_,U⟩:=i;refine mO I (by rw[e];exact ia) B ⟨q,j⟩ ⟨D,hd,_,(Y.put k O L).keeps λc ys M=>?_,q,es,R,j,S,h3,h4,U⟩;rw[aG (aez M e (λz=>nomatch z))];exact M
end
section
variable       {x3:A8}{k:Key}
theorem aeK{more:B8}(I:x9 X x2 σ H s)(e:H a=some (.dK x3))(o:xh (kV k) u)(l:gq x3 k=some y)(v:more=[]\/∃x,more=[x])
 (h:∀Z s',x9 X x2 σ (xk H a (.dK (sW x3 k))) s'->xh y Z->Q Z s'):de (dt X.prog X.w) A (call (.builtin "dict.pop") (.ref a::u::more)) Q E s:=by
 obtain ⟨z,hd,M,Y,r⟩:=Dj I.xw e;obtain ⟨Z,P,p⟩:=nU.some_of (by rw[<- l];exact Y.val k);have C:(keyPart u).isSome=true:=by
  cases k with
  | inl i=>obtain ⟨t,q⟩:=(o);subst q;rfl
  | inr x=>obtain ⟨t,q⟩:=(o);subst q;rfl
 have O:argsOk "dict.pop" ⟨.ref a::u::more,[]⟩:=by
  rcases v with q | ⟨x,q⟩
  . subst q;exact PySem.F.args_dict_pop_2 _ _
  . subst q;exact PySem.F.args_dict_pop_3 _ _ _
 refine call_meetsIn PySem.F.slot_dict_pop r.typeIs PySem.F.entry_dict_pop O (meets_dict_pop_there (bZ X.prog X.w) a (wk o) more v C)
  ⟨M,Z,r,by rw[<- Y.length];exact z,P,λB j J=>h Z _ ?_ p⟩
 have L:∃q,B.get? a=some q:=let ⟨q,_,_,D,_⟩:=j;⟨q,D⟩;exact mO I (by rw[e];exact ia) J L (J8 (cS (Vj x3 k) z) hd (Y.drop k) j)
theorem aeB(I:x9 X x2 σ H s)(e:Rd H a (.dK x3))(h:∀t s',x9 X x2 σ H s'->Q (.int x3.length t) s'):de (dt X.prog X.w) A (call (.builtin "len") [.ref a]) Q E s:=by
 obtain ⟨z,hd,i,Y,Z⟩:=qG I.xw e;refine call_len_dict hd Z (by rw[<- Y.length];rw[sizeLine_eq] at z;lia) ?_;rw[<- Y.length];exact h _ _ (I.tok _)
end
def Wq(i:Expr):Prop:=∀ov iv,mI i false ov iv=operate [ov,iv] (nL ov iv)
theorem Nq{Z Y:Expr}{T id:String}
 (u:typeLookup (.type T) "__getitem__"= pure (some (.builtin id))) (hs:Wq Y)
 (h:de (dt prog w) A (eval Z env) (λo l=>de (dt prog w) A (eval Y env) (λi s₂=>s₂.TypeIs o T/\de (dt prog w) A (nL o i) Q E s₂) E l) E s) :
 de (dt prog w) A (eval (.Subscript Z Y pos) env) Q E s:=by
 refine Subscript_ (fy h (λo l q=>fy q (λi s₂ e=>?_) λ_ _ x=>x) λ_ _ x=>x);obtain ⟨hT,e⟩:=e;refine ag ?_;rw[kQ hT.not_modules];refine ag (iS hT u ?_);have fin:de (dt prog w) A (mI Y false o i) (λr j=>de (dt prog w) A (oC Z o r >>= λ_=>pure r) Q E j) E s₂:=by
  rw[hs o i];exact nS (fy e (λr j p=>ag (k9 (a9 p))) λ_ _ x=>x)
 first
  | exact a9 (ag fin)
  | exact ag (a9 (ag fin))
  | exact ag fin
theorem Mr(I:x9 X x2 σ H s)(g:vI H a y o):s.TypeIs (.ref a) "dict" := by
 rcases g with ⟨Z,k,e,_,_⟩ | ⟨Z,k,b,e,_,_,_⟩
 . obtain ⟨_,_,j,_,Y⟩:=qG I.xw e;exact Y.typeIs
 . obtain ⟨_,_,i,_,Y⟩:=yU I.xw e;exact Y.typeIs
def aes(td ty tv:TE):TS:=λD σ H=>tv σ H λv H1=>td σ H1 λx H2=>ty σ H2 λy H3=>∃a H4,x= .ref a/\xP H3 a y v H4/\D.nx σ H4
section
variable  {o i e value:Expr}{pos':Pos}{td ty tv:TE}
theorem Oq(S:X.A.units+1<h7)(R:PE X o td)(P:PE X i ty)(l:PE X value tv)(hs:fR value (some (.Subscript o i pos')) pos.line X.env=pure false) :
 PS X (.Assign [.Subscript o i pos'] value pos) (aes td ty tv):=by
 intro Y s e H D I h;refine wpAny_Assign_Subscript (thn (l Y s e H _ I h) λr J ⟨v,E,O,U,q1⟩=>thn (R Y J e E _ O q1) λu q ⟨x,p,L,M,C⟩=>thn (P Y q e p _ L C) λiv s3 Z=>?_) hs;obtain ⟨y,H3,Q,z,a,B,ex,g,q3⟩:=Z;subst ex;obtain rfl:u=fN a:=M;exact Sw S Q g z U λs4 j=>⟨e,B,j,q3⟩
end
theorem Bb(h:Heap)(Y:fb<h.objs.size):fV P w H (h.push { cls:=.type "dict",data:=.dict #[] }) h.objs.size (.dK []):=
 ⟨iP _,beq_eq_false_iff_ne.mpr (lx (ef Y)),[],.nil,Heap.DictOf.new h⟩
def adV:TE:=λ_ H Q=>∀p,H p=none->Q (.ref p) (xk H p (.dK []))
theorem VL:PE X (.Dict [] [] pos) adV:=λY s Z H Q I h=>
 wpAny_Dict_empty ⟨.ref s.heap.objs.size,_,I.laid (λ_ _ q=>aE _ q) (ax _) (Bb s.heap I.big),rfl,h _ (I.xw.fresh (ax _))⟩
def rE:List (TE×TE)->St->Hp->(List (V×V)->Hp->Prop)->Prop
 | [],_,H,Q=>Q [] H
 | (tk,tv)::r,σ,H,Q=>tk σ H λx H1=>tv σ H1 λy H2=>rE r σ H2 λps H3=>Q ((x,y)::ps) H3
abbrev VV:List (V×V)->List (a0×a0)->Prop:=hX λp q=>xh p.1 q.1/\xh p.2 q.2
def PPs(X:Cx)(pos:Pos)(keys:List (Option Expr))(values:C1)(trs:List (TE×TE)):Prop:=
 ∀(x2:A7) (s:cq) (σ:St) (H:Hp) (Q:List (V×V)->Hp->Prop),x9 X x2 σ H s->rE trs σ H Q ->
  de (dt X.prog X.w) X.A (evalPairs (pairTrees keys values X.env pos)) (λvs s'=>∃ps H',x9 X x2 σ H' s'/\VV ps vs/\Q ps H') X.xe s
theorem yV:PPs X pos [] [] []:=λY s Z H Q I h=>pairTrees_nil_walk ⟨[],H,I,.nil,h⟩
variable {trs:List (TE×TE)}
theorem rK{k v:Expr}{ks:List (Option Expr)}{tk j:TE}(M:PE X k tk)(p:PE X v j)(O:PPs X pos ks elts trs) :
 PPs X pos (some k::ks) (v::elts) ((tk,j)::trs):=λY s i H Q I h=>
 pairTrees_cons_walk (thn (M Y s i H _ I h) λu o ⟨x,J,r,q,R⟩=>thn (p Y o i J _ r R) λw2 C ⟨y,B,z,D,P⟩=>
  thn (O Y C i B _ z P) λws U Z=>by obtain ⟨L,l,E,e,S⟩:=Z;exact ⟨(x,y)::L,l,E,.cons ⟨q,D⟩ e,S⟩)
noncomputable def lH(x3 more:A8):A8:=more.foldl (λx4 kv=>putK x4 kv.1 kv.2) x3
theorem KV.merge:∀{more:A8}{rs:List (Key×a0)}{x3:A8}{vs:List (Key×a0)},KV more rs->KV x3 vs->KV (lH x3 more) (merged vs rs):=by
 intro more rs x3 vs r
 induction r generalizing x3 vs with
 | nil=>intro q;exact q
 | @cons p q j i h t Z=>
  intro Y;have e:KV (putK x3 p.1 p.2) (stored vs q.1 q.2):=by
   have:=Y.put p.1 h.2;rw[<- h.1];exact this
  exact Z e
theorem wK:∀(more x3:A8),(lH x3 more).length<=x3.length+more.length
 | [],x3=>by show x3.length<=x3.length+0;lia
 | p::r,x3=>by
  have Z:=wK r (putK x3 p.1 p.2);have Y:=oR x3 p.1 p.2;show (lH (putK x3 p.1 p.2) r).length<=_;rw[a6];lia
theorem CV:∀{x3:A8}{ws:List (a0×a0)},VV (x3.map λY=>(kV Y.1,Y.2)) ws->∃rs,Carries (bZ P w) ws rs/\KV x3 rs
 | [],_,r=>by rw[ew] at r;cases r;exact ⟨[],ia,.nil⟩
 | p::x3,_,r=>by
  rw[a7] at r
  cases r with
  | @cons a b as bs h t=>
   obtain ⟨rs,c,q⟩:=CV t;obtain ⟨b1,Z⟩:=b;exact ⟨(p.1,Z)::rs,⟨wk h.1,rfl,c⟩,.cons ⟨rfl,h.2⟩ q⟩
def aet(trs:List (TE×TE)):TE:=λσ H Q=>∀p,H p=none->rE trs σ (xk H p (.dK [])) λps H2=>H2 p=some (.dK [])/\∃x3:A8,ps=x3.map (λkv=>(kV kv.1,kv.2))/\x3.length<=15/\Q (.ref p) (xk H2 p (.dK (lH [] x3)))
theorem Fd{keys:List (Option Expr)}(h:PPs X pos keys elts trs)(Y:keys.all (·.isSome)=true)(U:keys.length=elts.length)(h0:keys≠[])
 (o:keys.length<=15):PE X (.Dict keys elts pos) (aet trs):=by
 intro Z s L H Q I q;have v:=I.xw.fresh (ax s.heap.objs.size);have E:=I.laid (t':=s.toks) (λ_ _ q=>aE _ q) (ax _) (Bb s.heap I.big);refine wpAny_Dict_walk (knd:=bZ X.prog X.w) Y U h0 o (thn (h Z _ L _ _ E (q _ v)) λws s2 i=>?_);obtain ⟨ps,H2,r,p,e,l,u,lk,C⟩:=i;subst u;obtain ⟨S,c,rk⟩:=CV p;obtain ⟨z,hd,B,r0,M⟩:=Dj r.xw e;cases r0;refine ⟨S,c,M,λh' j J=>⟨.ref s.heap.objs.size,_,?_,rfl,C⟩⟩;have R:(lH [] l).length<=ba:=by
  have P:=wK l [];rw[ko] at P;rw[sizeLine_eq];lia
 have D:∃q,h'.get? s.heap.objs.size=some q:=let ⟨q,_,_,O,_⟩:=j;⟨q,O⟩;exact mO r (by rw[e];exact ia) J D (J8 R hd (rk.merge .nil) j)
structure M1 (X:Cx) (o:Expr) (m:Str) (apos:Pos) (e:Expr) (cpos:Pos):Prop where
 base:ll o m X.env (eval o X.env)=eval o X.env
 few:((lS cpos (dc [e] X.env)).all (λx=>!x.1)&&(tj cpos (oj [] X.env)).all (λx=>x.1.isSome)
  && decide (([e]:C1).length+([]:List nK).length+(if ([]:List nK).isEmpty then 0 else 1)<30))=true
 line:(apos.endLine == cpos.line)=true
 trees:lS cpos (dc [e] X.env)=[(false,eval e X.env)]
def IsD(H:Hp)(a:Addr):Prop:=(∃x3,Rd H a (.dK x3))\/∃x3,Rd H a (.dT x3)
theorem Ti(I:x9 X x2 σ H s)(d:IsD H a) :
 s.TypeIs (.ref a) "dict" /\ (∀b,fN a= .ref b->∃Y,s.heap.get? b=some Y/\Y.dict=none)/\(a == fb)=false:=by
 rcases d with ⟨l,e⟩ | ⟨l,e⟩
 . obtain ⟨_,hd,p,_,Z⟩:=qG I.xw e;refine ⟨Z.typeIs,λb q=>?_,hd⟩;cases q;obtain ⟨Y,_,_,i,j,_⟩:=Z;exact ⟨Y,i,j.2.1⟩
 . obtain ⟨_,hd,o,_,Z⟩:=yU I.xw e;refine ⟨Z.typeIs,λb q=>?_,hd⟩;cases q;obtain ⟨Y,_,_,i,j,_⟩:=Z;exact ⟨Y,i,j.2.1⟩
def acX(td ty:TE):TE:=λσ H Q=>td σ H λx H1=>∃a,x= .ref a/\IsD H1 a/\ty σ H1 λy H2=>∃x3 k v,H2 a=some (.dK x3)/\y=kV k/\gq x3 k=some v/\Q v (xk H2 a (.dK (sW x3 k)))
section
variable  {o e f:Expr}{apos cpos:Pos}{td ty tx:TE}
theorem Ww(P:PE X o td)(E:PE X e ty)(m:M1 X o "pop" apos e cpos):PE X (.Call (.Attribute o "pop" apos) [e] [] cpos) (acX td ty):=by
 intro Y s p H Q I h;refine wpAny_Call_method m.base m.few m.line tq PySem.F.slot_dict_pop PySem.F.type_dict_pop (thn (P Y s p H _ I h) λu J Z=>?_);obtain ⟨x,C,j,M,a,ex,d,U⟩:=Z;subst ex;obtain rfl:u=fN a:=M;obtain ⟨z,D,_⟩:=Ti j d;refine ⟨z,D,?_⟩;rw[m.trees];refine oy rfl (Calls.evalArgs_plain (Calls.spliced_cons (thn (E Y J p C _ j U) λiv s2 ⟨y,H2,L,q,R,k,v,S,r,l,B⟩=>Calls.spliced_nil ?_)));subst r;exact aeK L S q l (.inl rfl) λw' s3 O i=>⟨v,_,O,i,B⟩
end
abbrev dh:=List B3
noncomputable def aeR(ks:dh):Int:=vj (eK (ks.map λk=>vj (eK (k.map hashInt))))
noncomputable def ie(a:Addr)(xs:List (dh×Addr×a0)):HO:=.ext λh=>
 xs.length<=ba/\(a == fb)=false/\(xs.map (·.1)).Nodup/\∃o es ep,h.get? a=some o/\o.ExactDict/\o.data= .dict es ep/\es.toList=xs.map λx=>⟨aeR x.1,.ref x.2.1,x.2.2⟩
def nH(K:av)(H:Hp)(ks:dh)(b:Addr):Prop:=∃cs:C2,SqT K H b (cs.map V.ref)/\hX (λ(k:B3) c=>SqT K H c (k.map V.int)) ks cs
abbrev KN(K:av)(H:Hp):List (dh×V)->List (dh×Addr×a0)->Prop:=hX λp q=>p.1=q.1/\nH K H p.1 q.2.1/\xh p.2 q.2.2
theorem nH.keeps{ks:dh}(n:nH K H ks b)(Y:∀b ys,SqT K H b ys->SqT K H' b ys):nH K H' ks b:=by
 obtain ⟨i,Z,e⟩:=n;exact ⟨i,Y _ _ Z,Paired.sE e λ_ _ z=>Y _ _ z⟩
theorem KN.keeps{Y:List (dh×V)}{xs:List (dh×Addr×a0)}(r:KN K H Y xs)(Z:∀b ys,SqT K H b ys->SqT K H' b ys):KN K H' Y xs:=
 Paired.sE r λ_ _ z=>⟨z.1,z.2.1.keeps Z,z.2.2⟩
noncomputable def aeE(k:B3):Int:=vj (eK (k.map hashInt))
noncomputable def jT(a:Addr)(xs:List (B3×Addr×a0)):HO:=.ext λh=>
 xs.length<=ba/\(a == fb)=false/\(xs.map (·.1)).Nodup/\∃o es ep,h.get? a=some o/\o.ExactDict/\o.data= .dict es ep/\es.toList=xs.map λx=>⟨aeE x.1,.ref x.2.1,x.2.2⟩
end Zq
namespace PySem
open Sem (wp)
section
variable {prog:fq}{w:i8}{K:Type} [DecidableEq K] (knd:KeyKind prog w K)
inductive eH (h:Heap):List (List K)->List a0->Prop
 | nil:eH h [] []
 | cons {k:List K}{a:Addr}{ks:List (List K)}{vs:List a0}:IsTupleKey knd h k a->eH h ks vs->eH h (k::ks) (.ref a::vs)
def du(h:Heap)(ks:List (List K))(a:Addr):Prop:=∃o items n,h.get? a=some o/\o.cls= .type "tuple" /\ o.data= .seq items n/\eH knd h ks items.toList
variable {knd}
theorem eH.inj{h:Heap}{x y:List (List K)}{Y:List a0}(e:eH knd h x Y)(Z:eH knd h y Y):x=y:=by
 induction e generalizing y with
 | nil=>cases Z;rfl
 | cons i _ l=>cases Z with
  | cons j o=>rw[i.inj j,l o]
theorem eH.length{h:Heap}{x:List (List K)}{Y:List a0}(Z:eH knd h x Y):x.length=Y.length:=by
 induction Z with
 | nil=>rfl
 | cons _ _ e=>simp[e]
theorem du.typeIs{s:cq}{ks:List (List K)}{a:Addr}(x:du knd s.heap ks a):s.TypeIs (.ref a) "tuple" := by obtain ⟨o,_,_,Y,Z,_⟩:=x;exact ⟨o,Y,Z⟩
theorem du.inj{h:Heap}{a:Addr}{x y:List (List K)}(r:du knd h x a)(p:du knd h y a):x=y:=by
 obtain ⟨o,j,n,q,_,hd,l⟩:=r;obtain ⟨o',Z,s,e,_,Y,i⟩:=p;obtain rfl:o=o':=Option.some.inj (q.symm.trans e);rw[hd] at Y;injection Y with h1 _;subst h1;exact l.inj i
theorem eH.keeps{h Y:Heap}{ks:List (List K)}{vs:List a0}{d:Addr}{o:Obj}{es ep}(x:eH knd h ks vs)(Z:h.get? d=some o)(hd:o.data= .dict es ep)(hs:m3 d h Y):eH knd Y ks vs:=by
 induction x with
 | nil=>exact .nil
 | cons e _ i=>exact .cons (e.keeps Z hd hs) i
theorem du.keeps{h l:Heap}{ks:List (List K)}{a d:Addr}{o:Obj}{es ep}(x:du knd h ks a)(p:h.get? d=some o)(hd:o.data= .dict es ep)(hs:m3 d h l):du knd l ks a:=by
 obtain ⟨j,Z,n,e,r,Y,q⟩:=x;have i:a≠d:=by
  rintro rfl;obtain rfl:j=o:=Option.some.inj (e.symm.trans p);rw[hd] at Y;exact nomatch Y
 exact ⟨j,Z,n,(hs.2 a i).trans e,r,Y,q.keeps p hd hs⟩
noncomputable def Af(knd:KeyKind prog w K)(ks:List (List K)):Int:=vj (eK (ks.map (oD knd)))
noncomputable def fD:List (List K)->Nat
 | []=>0
 | k::ks=>k.length+1+fD ks
theorem GQ(a b:List (List K)):fD (a++b)=fD a+fD b:=by
 induction a with
 | nil=>simp[fD]
 | cons x t Y=>rw[fk,fD,fD,Y];lia
variable {A:g9}{E:a0->cq->Prop}{s:cq}
theorem zK{ks:List (List K)}{a:Addr}{Q:Int->cq->Prop}(C:A.units+64<h7)(u:du knd s.heap ks a)(h:Q (Af knd ks) { s with toks:=s.toks+(fD ks+1) }) :
 de (dt prog w) A (pyHash (.ref a)) Q E s:=by
 have hT:=u.typeIs;obtain ⟨o,r,n,z,_,hd,v⟩:=u
 first | unfold pyHashByItsType | skip
 first | refine ag (wpAny_cRoomFor_or (.inr (by lia)) ?_) | skip
 refine ag (iS hT oP.lookup ?_);rw[if_neg (by rw[beq_builtin_none];exact dV)];refine ag (iS hT oP.lookup (ag (wpAny_callSpecialIfBoundUnlessNone?_slot hT oP (fi oP hT F.entry_tuple_hash ?_ (F.args_tuple_hash_1 _)))));show de _ _ (mE (.ref a) >>= _) _ _ s;refine ag (se z hd (ag ?_));rw[<- sf];refine p4 _
  (λY b q=>∃done left,ks=done++left/\eH knd s.heap left Y/\b.toList=done.map (oD knd)/\q={ s with toks:=s.toks+fD done })
  _ ?_ ?_ _ _ ⟨[],ks,rfl,v,rfl,rfl⟩
 . rintro x Y b q ⟨done,left,rfl,p,j,rfl⟩
   cases p with
   | @cons k _ Z _ B i=>
    refine ag (wpAny_pyHash_tuple (by first | lia | (show _+_<_;lia)) B ?_);have e:fD (done++[k])=fD done+(k.length+1):=by rw[GQ];rfl
    first
     | exact a9 ⟨done++[k],Z,by simp,i,by simp[j],by rw[e];simp[p9]⟩
     | exact ag (a9 (a9 ⟨done++[k],Z,by simp,i,by simp[j],by rw[e];simp[p9]⟩))
 . rintro b q ⟨done,left,rfl,p,j,rfl⟩;cases p;rw[cK] at h;show de _ _ (retInt (eK b.toList)) _ _ _;rw[j];refine wpAny_ret_mkInt ?_;show de _ _ (if (decide (-(2:Int)^63<=eK (done.map (oD knd)))&&decide (eK (done.map (oD knd))<2^63))=true then _ else _) Q E _;unfold Af vj at h
   by_cases l:(decide (-2^63<=eK (done.map (oD knd)))&&decide (eK (done.map (oD knd))<2^63))=true
   . rw[if_pos l];rw[if_pos l] at h;exact a9 (by simpa[p9] using h)
   . rw[if_neg l];rw[if_neg l] at h;exact ag (r9 (a9 (by simpa[p9] using h)))
theorem IK{x y:List (List K)}{a b:Addr}{P:Fin->cq->Prop}(hu:A.units+8<h7)(hx:du knd s.heap x a)(hy:du knd s.heap y b)(h:P (.done (.ret (.bool (decide (x=y))))) s) :
 de (dt prog w) A (Builtin.«tuple.__eq__» ⟨[.ref a,.ref b],[]⟩) P E s:=by
 have hTb:=hy.typeIs;obtain ⟨oa,O,na,S,_,hda,hia⟩:=hx;obtain ⟨ob,R,nb,hob,_,U,hib⟩:=hy;show de _ _ (isInstance (.ref b) (.type "tuple") >>= _) _ _ s;refine ag (nc hTb pE (ag (se S hda ?_)));refine ag (se hob U (ag ?_));refine p4 _
  (λl r L=>r.1=none/\L=s/\∃Q M i e,l=List.zip i e/\eH knd s.heap Q i/\eH knd s.heap M e/\decide (Q=M)=decide (x=y)/\(i.length == e.length)=(O.size == R.size))
  _ ?_ ?_ _ _ ⟨rfl,rfl,x,y,O.toList,R.toList,rfl,hia,hib,rfl,by simp⟩
 . rintro ⟨u,v⟩ l r L ⟨hr,rfl,Q,M,i,e,B,o,j,Y,Z⟩
   cases o with
   | nil=>simp at B
   | @cons k1 u' z D h1 I=>
    cases j with
    | nil=>simp at B
    | @cons k2 v' p J h2 q=>
     obtain ⟨⟨rfl,rfl⟩,rfl⟩:=B;refine ag (wpAny_eqBool_tuple (by lia) h1 h2 ?_)
     by_cases hk:k1=k2
     . subst hk;rw[decide_eq_true rfl];refine a9 ⟨rfl,rfl,z,p,D,J,rfl,I,q,?_,by simpa using Z⟩;rw[<- Y]
       by_cases C:z=p
       . simp[C]
       . simp[C]
     . rw[decide_eq_false hk];have hf:decide (x=y)=false:=by rw[<- Y];simp[hk]
       rw[hf] at h;exact ag (a9 (a9 (a9 h)))
 . rintro ⟨r1,r2⟩ L ⟨hr,rfl,Q,M,i,e,B,o,j,Y,Z⟩;simp only at hr;subst hr;refine a9 ?_;have H:(O.size == R.size)=decide (x=y):=by
    rw[<- Y,<- Z]
    cases o with
    | nil=>
     cases j with
     | nil=>simp
     | cons _ _=>simp
    | cons _ _=>
     cases j with
     | nil=>simp
     | cons _ _=>simp at B
   show P (.done (.ret (.bool (O.size == R.size)))) L;rw[H];exact h
theorem zM{x y:List (List K)}{a b:Addr}{Q:Bool->cq->Prop}(j:A.units+64<h7)(Z:du knd s.heap x a)(i:du knd s.heap y b)(h:Q (decide (x=y)) s) :
 de (dt prog w) A (eqBool (.ref a) (.ref b)) Q E s:=by
 unfold eqBool
 try with_reducible refine kF ?_
 by_cases Y:(fN a == fN b)=true
 . rw[if_pos Y];have e:=by have:=eq_of_beq Y;injection this
   subst e;obtain rfl:=Z.inj i;exact ag (r9 (a9 (by simpa using h)))
 . rw[if_neg Y];exact ag (wpAny_richCompare_same_room Z.typeIs i.typeIs ra
    (fi ra Z.typeIs F.entry_tuple_eq (IK (by first | lia | (simp[Around.in1];lia)) Z i ⟨_,rfl,(λe=>nomatch e),hJ h⟩) (F.args_tuple_eq_2 _ _)) (by lia))
theorem zG(m:Nat){ks:List K}{a:Addr}{Q:Bool->cq->Prop}(p:IsTupleKey knd s.heap ks a)(h:Q true s):de (dt prog w) A (eqIsQuiet (m+1) (.ref a)) Q E s:=by
 have hT:=p.typeIs;obtain ⟨o,j,n,z,_,hd,q⟩:=p;unfold eqIsQuiet;refine ag (iS hT ra.lookup (ag (nc hT pE ?_)));refine ag (eW z hd (ag ?_));rw[<- sf];refine p4 _ (λZ r i=>r.1=none/\i=s/\∀v∈Z,carriedByValue v=true) _ ?_ ?_ _ _ ⟨rfl,rfl,q.byValue⟩
 . rintro v Z r i ⟨l,rfl,Y⟩;rw[eqIsQuiet_byValue _ (Y v bg)];exact ag (a9 (a9 ⟨rfl,rfl,λu e=>Y u (bq _ e)⟩))
 . rintro ⟨C,B⟩ i ⟨l,rfl,_⟩;simp only at l;subst l;exact a9 h
theorem Ba(m:Nat){ks:List (List K)}{a:Addr}{Q:Bool->cq->Prop}(p:du knd s.heap ks a)(h:Q true s):de (dt prog w) A (eqIsQuiet (m+2) (.ref a)) Q E s:=by
 have hT:=p.typeIs;obtain ⟨o,i,n,z,_,hd,u⟩:=p;unfold eqIsQuiet;refine ag (iS hT ra.lookup (ag (nc hT pE ?_)));refine ag (eW z hd (ag ?_));rw[<- sf];refine p4 _ (λY r e=>r.1=none/\e=s/\∃l,eH knd s.heap l Y) _ ?_ ?_ _ _ ⟨rfl,rfl,_,u⟩
 . rintro v Y r e ⟨j,rfl,l,Z⟩
   cases Z with
   | cons B q=>
    exact ag (zG m B (a9 ⟨rfl,rfl,_,q⟩))
 . rintro ⟨D,C⟩ e ⟨j,rfl,_⟩;simp only at j;subst j;exact a9 h
end
noncomputable def sy{prog:fq}{w:i8}{K:Type}[DecidableEq K](knd:KeyKind prog w K):HeapKind prog w (List (List K)) where
 is:=du knd
 hash:=Af knd
 draws:=λks=>fD ks+1
 room:=λA=>A.units+64<h7
 inj:=λhx hy=>hx.inj hy
 keeps:=λx ho hd hs=>x.keeps ho hd hs
 pyHash:=λhu hk h=>zK hu hk h
 eqBool:=λhu hx hy h=>zM hu hx hy h
 quiet:=λhk h=>Ba 6 hk h
end PySem
namespace Zq
open PySem PySem.Spec PyProof.Rows
variable {K:av}{H:Hp}{xs:List (dh×Addr×a0)}
theorem KN.val{Y:List (dh×V)}(r:KN K H Y xs)(k:dh):nU (gq Y k) ((nz xs k).map (·.2)):=by
 induction r with
 | nil=>exact ia
 | @cons p q s Z h t o=>
  obtain ⟨j,_,l⟩:=h
  by_cases e:p.1=k
  . have i:=j.symm.trans e;have b:nz (q::Z) k=some q.2:=by simp[nz,fI,i]
    rw[nO e,b];exact l
  . have i:¬ q.1=k:=λz=>e (j.trans z);have b:nz (q::Z) k=nz Z k:=by simp[nz,fI,i]
    rw[nY e,b];exact o
theorem KN.repl{Y:List (dh×V)}(r:KN K H Y xs)(k:dh){y:V}{u:a0}(o:xh y u) :
 KN K H (Y.map λi=>if i.1=k then (i.1,y) else i) (xs.map (putAt k u)):=by
 induction r with
 | nil=>exact .nil
 | @cons p q B v h t s=>
  rw[a7,a7];refine .cons ?_ s;obtain ⟨Z,j,l⟩:=h;unfold putAt
  by_cases e:p.1=k
  . rw[if_pos e,if_pos (Z.symm.trans e)];exact ⟨Z,j,o⟩
  . rw[if_neg e,if_neg (λz=>e (Z.trans z))];exact ⟨Z,j,l⟩
theorem KN.put{Y:List (dh×V)}(r:KN K H Y xs)(k:dh){b:Addr}{y:V}{u:a0}(j:nH K H k b)(Z:xh y u) :
 KN K H (putK Y k y) (sA xs k b u):=by
 have e:(Y.any λi=>decide (i.1=k))=(nz xs k).isSome:=by
  rw[Ai,(r.val k).j6,iF]
 unfold putK sA;rw[e]
 by_cases q:(nz xs k).isSome=true
 . rw[if_pos q,if_pos q];exact r.repl k Z
 . rw[if_neg q,if_neg q];exact hX.snoc r ⟨rfl,j,Z⟩
theorem Ia:∀{cs:C2}{us:B8},xi (cs.map V.ref) us->us=cs.map fN
 | [],_,r=>by rw[ew] at r;cases r;rfl
 | c::cs,_,r=>by
  rw[a7] at r
  cases r with
  | @cons _ u _ us h t=>
   cases (h);rw[Ia t];rfl
theorem Gn{P:fq}{w:i8}:∀{ks:B3}{us:B8},xi (ks.map V.int) us->ItemsAre (mT P w) ks us
 | [],_,r=>by rw[ew] at r;cases r;exact .nil
 | k::ks,_,r=>by
  rw[a7] at r
  cases r with
  | @cons _ u _ us h t=>
   obtain ⟨n,e⟩:=(h);subst e;exact .cons (by show v3 k (.int k n)=true;simp[v3]) (Gn t)
variable {H':Hp}
theorem Yi{P:fq}{w:i8}{a:Addr}{e:Heap}(z:xs.length<=ba)(hd:(a == fb)=false)(j:e.DictOfH (sy (mT P w)) a xs):fV P w H' e a (ie a xs):=by
 obtain ⟨o,v,q,i,B,l,u,_,C⟩:=j;exact ⟨⟨z,hd,C,o,v,q,i,B,l,u⟩,⟨o,i⟩,λH I ⟨s,r,D,p,Y,Z,b1,E⟩ k=>⟨s,r,D,p,Y,Z,k _ b1,E⟩⟩
variable {Q:B2}
section
variable {X:Cx}{x2:A7}{σ:St}  {s:cq}{a b:Addr}{v:V}{u r:a0}{A:g9}{E:B2}{x3:List (dh×V)}  {k:dh}
theorem yM{ks:B3}(I:x9 X x2 σ H s)(e:SqT X.K H a (ks.map V.int)):(oi (mT X.prog X.w)).is s.heap ks a:=by
 obtain ⟨Y,r,⟨o,i,Z,n,j⟩,_⟩:=I.tuple e;exact ⟨o,Y.toArray,n,i,Z,j,by simpa using Gn r⟩
theorem W0{ks:dh}{cs:C2}(I:x9 X x2 σ H s)(r:hX (λ(k:B3) c=>SqT X.K H c (k.map V.int)) ks cs):eH (mT X.prog X.w) s.heap ks (cs.map fN):=by
 induction r with
 | nil=>exact .nil
 | cons Y _ Z=>exact .cons (yM I Y) Z
theorem yQ{ks:dh}(I:x9 X x2 σ H s)(n:nH X.K H ks a):(sy (mT X.prog X.w)).is s.heap ks a:=by
 obtain ⟨p,e,r⟩:=n;obtain ⟨Y,l,⟨o,i,Z,n,j⟩,_⟩:=I.tuple e;exact ⟨o,Y.toArray,n,i,Z,j,by rw[Ia l];simpa using W0 I r⟩
theorem Hj(I:x9 X x2 σ H s)(e:H a=some (ie a xs))(r:KN X.K H x3 xs):x3.length<=ba/\(a == fb)=false/\s.heap.DictOfH (sy (mT X.prog X.w)) a xs:=by
 obtain ⟨⟨z,y,v,o,u,i,B,C,Z,j⟩,_⟩:=(I.xw a _ e);refine ⟨by rw[hX.length r];exact z,y,o,u,i,B,C,Z,j,λx hx=>?_,v⟩;have all:∀{l:List (dh×V)}{m:List (dh×Addr×a0)},KN X.K H l m->∀x∈m,(sy (mT X.prog X.w)).is s.heap x.1 x.2.1:=by
  intro l m q
  induction q with
  | nil=>intro x hx;exact nomatch hx
  | @cons p q J E Y t D=>
   intro x hx;rcases bE.mp hx with e | hx
   . subst e;exact yQ I (by rw[<- Y.1];exact Y.2.1)
   . exact D x hx
 exact all r x hx
theorem J4(Y:A.units+65<h7):(sy (mT X.prog X.w)).room A.in1:=show A.units+1+64<h7 by lia
theorem RM(o:A.units+65<h7)(I:x9 X x2 σ H s)(e:H a=some (ie a xs))(Y:KN X.K H x3 xs)(u:nH X.K H k b)(l:gq x3 k=some v)(h:∀Z s',x9 X x2 σ H s'->xh v Z->Q Z s') :
 de (dt X.prog X.w) A (nL (.ref a) (.ref b)) Q E s:=by
 obtain ⟨z,hd,q⟩:=Hj I e Y;obtain ⟨Z,B,j⟩:=nU.some_of (by rw[<- l];exact Y.val k);obtain ⟨p,r,i⟩:=kC.mp B;refine sd (J4 o) (yQ I u) q r ?_;rw[i];exact h Z _ (I.tok _) j
theorem aan(Z:A.units+65<h7)(I:x9 X x2 σ H s)(e:H a=some (ie a xs))(Y:KN X.K H x3 xs)(j:nH X.K H k b)(h:∀s',x9 X x2 σ H s'->Q (.bool (!(gq x3 k).isSome)) s') :
 de (dt X.prog X.w) A (eD .NotIn (.ref b) (.ref a)) Q E s:=by
 obtain ⟨z,hd,i⟩:=Hj I e Y;refine wpAny_notIn_heap (J4 Z) (yQ I j) hd i ?_;have q:=(Y.val k).j6;rw[iF] at q;rw[<- q];exact h _ (I.tok _)
theorem Rr{Q:Unit->cq->Prop}(B:A.units+65<h7)(I:x9 X x2 σ H s)(e:H a=some (ie a xs))(Y:KN X.K H x3 xs)(j:nH X.K H k b)(C:xh v r)(J:x3.length<ba)
 (h:∀s',x9 X x2 σ (xk H a (ie a (sA xs k b r))) s'->Q () s'):de (dt X.prog X.w) A (setItem (.ref a) (.ref b) r) Q E s:=by
 obtain ⟨z,hd,l⟩:=Hj I e Y;have L:xs.length<=ba:=by rw[<- hX.length Y];exact z
 refine wpAny_setItem_heap (J4 B) (yQ I j) l λo Z u=>?_;have i:(sA xs k b r).length<=ba:=by have:=oR x3 k v;rw[<- hX.length (Y.put k j C)];lia
 have D:∃q,o.get? a=some q:=let ⟨q,_,_,p,_⟩:=Z;⟨q,p⟩;exact h _ (mO I (by rw[e];exact ia) u D (Yi i hd Z))
theorem aeq(I:x9 X x2 σ H s)(e:H a=some (.dK [])):x9 X x2 σ (xk H a (ie a [])) s:=by
 obtain ⟨z,hd,B,Y,p⟩:=Dj I.xw e;cases Y;obtain ⟨o,i,r,l,v,q,_,j,_⟩:=p
 have Z:i.toList=[]:=by cases h:i.toList with
  | nil=>rfl
  | cons x t=>rw[h] at j;cases j
 exact mO I (by rw[e];exact ia) ⟨rfl,λ_ _=>rfl⟩ ⟨o,l⟩ (Yi (iP _) hd ⟨o,i,r,l,v,q,by rw[Z];rfl,λx u=>(nomatch u),wa⟩)
end
structure Exn where
 cls:Str
 arg:Option ab
inductive x8 (α:Type) where
 | ok (a:α)
 | err (x:Exn)
 | bad
abbrev C8:=ab->ab->x8 ab
abbrev C9:=ab->x8 ab
noncomputable def x8.bind{α β:Type}:x8 α->(α->x8 β)->x8 β
 | .ok a,f=>f a
 | .err x,_=>.err x
 | .bad,_=>.bad
@[simp] theorem x8.aP {α Y:Type} (a:α) (f:α->x8 Y):(x8.ok a).bind f=f a:=rfl
@[simp] theorem x8.afQ {α Y:Type} (x:Exn) (f:α->x8 Y):(x8.err x:x8 α).bind f= .err x:=rfl
@[simp] theorem x8.aeY {α Y:Type} (f:α->x8 Y):(x8.bad:x8 α).bind f= .bad:=rfl
theorem x8.au{α Y:Type}{r:x8 α}{f:α->x8 Y}{b:Y}(h:r.bind f= .ok b):∃a,r= .ok a/\f a= .ok b:=by
 cases r with
 | ok a=>exact ⟨a,rfl,h⟩
 | err x=>cases h
 | bad=>cases h
noncomputable def gd{α:Type}(c:Prop)[Decidable c](r:x8 α):x8 α:=if c then r else .bad
theorem b8{α:Type}{c:Prop}[Decidable c]{r:x8 α}{a:α}(h:gd c r= .ok a):c/\r= .ok a:=by
 unfold gd at h
 by_cases Y:c
 . rw[if_pos Y] at h;exact ⟨Y,h⟩
 . rw[if_neg Y] at h;cases h
theorem bB{α:Type}{c:Prop}[Decidable c]{r:x8 α}(h:c):gd c r=r:=if_pos h
abbrev Ev:=List (Option ab)
inductive Out where
 | nx (Γ:Ev)
 | rt (d:ab)
 | bk (Γ:Ev)
 | ct (Γ:Ev)
abbrev ME:=Ev->x8 ab
abbrev MS:=Ev->x8 Out
noncomputable def bM:ab->Option Key
 | .int i=>some (.inl i)
 | .str x=>some (.inr x)
 | _=>none
mutual
def Rp(K:av)(A:Hp):ab->V->Prop
 | .none,v=>v= .non
 | .bool b,v=>v= .bl b
 | .int i,v=>v= .int i
 | .str x,v=>v= .str x
 | .list ds,v=>∃a vs,v= .ref a/\SqL K A a vs/\az K A ds vs
 | .tuple ds,v=>∃a vs,v= .ref a/\SqT K A a vs/\az K A ds vs
 | .dict x3,v=>∃a u,v= .ref a/\Rd A a (.dK u)/\bj K A x3 u
def az(K:av)(A:Hp):B4->C0->Prop
 | [],vs=>vs=[]
 | d::ds,vs=>∃v r,vs=v::r/\Rp K A d v/\az K A ds r
def bj(K:av)(A:Hp):B0->A8->Prop
 | [],u=>u=[]
 | (k,d)::r,u=>∃key v u',u=(key,v)::u'/\bM k=some key/\Rp K A d v/\bj K A r u'
end
theorem aF.rd(e:aF H H'){a:Addr}{u:HO}(h:Rd H a u):Rd H' a u:=by
 rcases h with h | ⟨o,h⟩
 . exact .inl (e _ _ h)
 . exact .inr ⟨o,e _ _ h⟩
mutual
theorem Rp.mono(e:aF H H'):∀(d:ab) {v:V},Rp K H d v->Rp K H' d v
 | .none,v,h=>by rw[Rp] at h ⊢;exact h
 | .bool _,v,h=>by rw[Rp] at h ⊢;exact h
 | .int _,v,h=>by rw[Rp] at h ⊢;exact h
 | .str _,v,h=>by rw[Rp] at h ⊢;exact h
 | .list ds,v,h=>by
  rw[Rp] at h ⊢;obtain ⟨a,vs,h1,h2,h3⟩:=h;exact ⟨a,vs,h1,e.seq h2,az.mono e ds h3⟩
 | .tuple ds,v,h=>by
  rw[Rp] at h ⊢;obtain ⟨a,vs,h1,h2,h3⟩:=h;exact ⟨a,vs,h1,e.fP h2,az.mono e ds h3⟩
 | .dict x3,v,h=>by
  rw[Rp] at h ⊢;obtain ⟨a,u,h1,h2,h3⟩:=h;exact ⟨a,u,h1,aF.rd e h2,bj.mono e x3 h3⟩
theorem az.mono(e:aF H H'):∀(ds:B4) {vs:C0},az K H ds vs->az K H' ds vs
 | [],vs,h=>by rw[az] at h ⊢;exact h
 | d::ds,vs,h=>by
  rw[az] at h ⊢;obtain ⟨v,r,h1,h2,h3⟩:=h;exact ⟨v,r,h1,Rp.mono e d h2,az.mono e ds h3⟩
theorem bj.mono(e:aF H H'):∀(x3:B0) {u:A8},bj K H x3 u->bj K H' x3 u
 | [],u,h=>by rw[bj] at h ⊢;exact h
 | (k,d)::r,u,h=>by
  rw[bj] at h ⊢;obtain ⟨key,v,u',h1,h2,h3,h4⟩:=h;exact ⟨key,v,u',h1,h2,Rp.mono e d h3,bj.mono e r h4⟩
end
mutual
theorem Rp.is:∀(d:ab) {v:V},d.canLay0=true->Rp K H d v->Is K H d v
 | .none,v,_,h=>by rw[Rp] at h;rw[Is];exact h
 | .bool _,v,_,h=>by rw[Rp] at h;rw[Is];exact h
 | .int _,v,_,h=>by rw[Rp] at h;rw[Is];exact h
 | .str _,v,_,h=>by rw[Rp] at h;rw[Is];exact h
 | .list ds,v,c,h=>by
  rw[Rp] at h;rw[Is];rw[iL] at c;obtain ⟨a,vs,h1,h2,h3⟩:=h;exact ⟨a,vs,h1,h2,az.is ds c h3⟩
 | .tuple ds,v,c,h=>by
  rw[Rp] at h;rw[Is];rw[iL] at c;obtain ⟨a,vs,h1,h2,h3⟩:=h;exact ⟨a,vs,h1,h2,az.is ds c h3⟩
 | .dict _,v,c,h=>by rw[iL] at c;cases c
theorem az.is:∀(ds:B4) {vs:C0},gi ds=true->az K H ds vs->fj K H ds vs
 | [],vs,_,h=>by rw[az] at h;rw[fj];exact h
 | d::ds,vs,c,h=>by
  rw[az] at h;rw[fj];rw[gi,c9] at c;obtain ⟨v,r,h1,h2,h3⟩:=h;exact ⟨v,r,h1,Rp.is d c.1 h2,az.is ds c.2 h3⟩
end
variable {A:Hp}{ds:B4}
section
variable   {v:V}
theorem Rp.int{i:Int}:Rp K A (.int i) v↔v= .int i:=by rw[Rp]
theorem Rp.bool{b:Bool}:Rp K A (.bool b) v↔v= .bl b:=by rw[Rp]
theorem Rp.none:Rp K A .none v↔v= .non:=by rw[Rp]
theorem Rp.str{x:Str}:Rp K A (.str x) v↔v= .str x:=by rw[Rp]
theorem Rp.list:Rp K A (.list ds) v↔∃a vs,v= .ref a/\SqL K A a vs/\az K A ds vs:=by rw[Rp]
theorem Rp.tuple:Rp K A (.tuple ds) v↔∃a vs,v= .ref a/\SqT K A a vs/\az K A ds vs:=by rw[Rp]
theorem az.nil{Y:C0}:az K A [] Y↔Y=[]:=by rw[az]
theorem az.cons{d:ab}{ds:B4}{Y:C0}:az K A (d::ds) Y↔∃v r,Y=v::r/\Rp K A d v/\az K A ds r:=by rw[az]
theorem az.length:∀{ds:B4}{vs:C0},az K A ds vs->ds.length=vs.length
 | [],vs,h=>by rw[az.nil] at h;rw[h];rfl
 | d::ds,vs,h=>by
  rw[az.cons] at h;obtain ⟨v,r,rfl,_,h⟩:=h;rw[a6,a6,az.length h]
theorem az.get:∀{ds:B4}{vs:C0}{i:Nat}{x:V},az K A ds vs->vs[i]?=some x->∃d,ds[i]?=some d/\Rp K A d x
 | [],vs,i,x,h,e=>by rw[az.nil] at h;subst h;simp at e
 | d::ds,vs,i,x,h,e=>by
  rw[az.cons] at h;obtain ⟨v,r,rfl,o,h⟩:=h
  match i with
  | 0=>simp at e;subst e;exact ⟨d,rfl,o⟩
  | i+1=>
   have Z:=by simpa using e
   obtain ⟨j,l,Y⟩:=az.get h Z;exact ⟨j,by simpa using l,Y⟩
theorem az.get':∀{ds:B4}{vs:C0}{i:Nat}{d:ab},az K A ds vs->ds[i]?=some d->∃x,vs[i]?=some x/\Rp K A d x
 | [],vs,i,x,h,e=>by simp at e
 | d::ds,vs,i,x,h,e=>by
  rw[az.cons] at h;obtain ⟨v,r,rfl,o,h⟩:=h
  match i with
  | 0=>simp at e;subst e;exact ⟨v,rfl,o⟩
  | i+1=>
   have Z:=by simpa using e
   obtain ⟨j,l,Y⟩:=az.get' h Z;exact ⟨j,by simpa using l,Y⟩
theorem az.append:∀{ds es:B4}{vs us:C0},az K A ds vs->az K A es us->az K A (ds++es) (vs++us)
 | [],es,vs,us,h,g=>by rw[az.nil] at h;subst h;exact g
 | d::ds,es,vs,us,h,g=>by
  rw[az.cons] at h;obtain ⟨v,r,rfl,Y,h⟩:=h;rw[fk,fk,az.cons];exact ⟨v,r++us,rfl,Y,az.append h g⟩
theorem az.one{d:ab}{x:V}(h:Rp K A d x):az K A [d] [x]:=by rw[az.cons];exact ⟨x,[],rfl,h,az.nil.mpr rfl⟩
theorem az.take:∀{ds:B4}{vs:C0} (n:Nat),az K A ds vs->az K A (ds.take n) (vs.take n)
 | _,_,0,_=>by rw[kN,kN];exact az.nil.mpr rfl
 | [],vs,n+1,h=>by rw[az.nil] at h;subst h;exact az.nil.mpr rfl
 | d::ds,vs,n+1,h=>by
  rw[az.cons] at h;obtain ⟨v,r,rfl,Y,h⟩:=h;rw[List.take_succ_cons,List.take_succ_cons,az.cons];exact ⟨v,_,rfl,Y,az.take n h⟩
theorem az.drop:∀{ds:B4}{vs:C0} (n:Nat),az K A ds vs->az K A (ds.drop n) (vs.drop n)
 | _,_,0,h=>by rw[sg,sg];exact h
 | [],vs,n+1,h=>by rw[az.nil] at h;subst h;exact az.nil.mpr rfl
 | d::ds,vs,n+1,h=>by
  rw[az.cons] at h;obtain ⟨v,r,rfl,Y,h⟩:=h;rw[List.drop_succ_cons,List.drop_succ_cons];exact az.drop n h
theorem az.reverse:∀{ds:B4}{vs:C0},az K A ds vs->az K A ds.reverse vs.reverse
 | [],vs,h=>by rw[az.nil] at h;subst h;exact az.nil.mpr rfl
 | d::ds,vs,h=>by
  rw[az.cons] at h;obtain ⟨v,r,rfl,Y,h⟩:=h;rw[List.reverse_cons,List.reverse_cons];exact (az.reverse h).append (az.one Y)
theorem az.ints{ns:B3}:az K A (ns.map ab.int) (ns.map V.int):=by
 induction ns with
 | nil=>exact az.nil.mpr rfl
 | cons n ns Y=>exact az.cons.mpr ⟨_,_,rfl,Rp.int.mpr rfl,Y⟩
end
inductive Fl where
 | xo | xl | own | fix (p:Addr) | exc (C:Addr) | nst (b:Bool) | kit
 deriving DecidableEq
abbrev B9:=List Fl
noncomputable def isO:Fl->Bool
 | .own=>true
 | .fix _=>true
 | _=>false
noncomputable def isX:Fl->Bool
 | .exc _=>true
 | .nst _=>true
 | .kit=>true
 | _=>false
def afm(A:Hp)(C:Addr)(v:V):Prop:=∃p ob,v= .ref p/\A p=some (.frz ob (.own 0))/\ob.cls= .ref C
noncomputable def mU:B4->Option B3
 | []=>some []
 | .int i::r=>match mU r with
  | some l=>some (i::l)
  | none=>none
 | _::_=>none
noncomputable def t7:B4->Option dh
 | []=>some []
 | .tuple ds::r=>match mU ds,t7 r with
  | some a,some b=>some (a::b)
  | _,_=>none
 | _::_=>none
noncomputable def jr:ab->Option dh
 | .tuple ds=>t7 ds
 | _=>none
def RpN(K:av)(A:Hp)(x3:B0)(xs:List (dh×Addr×a0)):Prop:=∃us:List (dh×V),KN K A us xs/\hX (λp q=>jr p.1=some q.1/\Rp K A p.2 q.2) x3 us
def aeX(K:av)(A B H:Hp)(d:ab)(v:V):Prop:=∃p xs x3,v= .ref p/\d= .dict x3/\H p=some (ie p xs)/\A p=none/\B p=none/\RpN K A x3 xs
noncomputable def oK:ab->Option B3
 | .tuple ds=>mU ds
 | _=>none
abbrev RpT(K:av)(A:Hp):B0->List (B3×Addr×a0)->Prop:=hX λp q=>oK p.1=some q.1/\SqT K A q.2.1 (q.1.map V.int)/\∃v,xh v q.2.2/\Rp K A p.2 v
def pX(K:av)(A:Hp)(d:ab)(v:V):Prop:=∃p xs x3,v= .ref p/\d= .dict x3/\A p=some (jT p xs)/\RpT K A x3 xs
theorem pX.mono{d:ab}{v:V}(Y:aF A H)(h:pX K A d v):pX K H d v:=by
 obtain ⟨p,i,Z,e,o,l,j⟩:=h;exact ⟨p,i,Z,e,o,Y _ _ l,Paired.sE j λ_ _ z=>⟨z.1,Y.fP z.2.1,z.2.2.imp λv y=>⟨y.1,Rp.mono Y _ y.2⟩⟩⟩
def Pk(K:av)(A H:Hp)(d:ab)(v:V):Prop:=
 Rp K A d v\/(∃p vs ds,v= .ref p/\d= .list ds/\SqL K H p vs/\az K A ds vs)\/∃p u x3,v= .ref p/\d= .dict x3/\Rd H p (.dK u)/\bj K A x3 u
def iU(K:av)(A:Hp)(d:ab)(o:HO):Prop:=(∃ds vs,d= .list ds/\o= .lst vs/\az K A ds vs)\/∃x3 u,d= .dict x3/\o= .dK u/\bj K A x3 u
def Own(K:av)(A B H:Hp)(d:ab)(v:V):Prop:=∃p o,v= .ref p/\H p=some o/\A p=none/\B p=none/\iU K A d o
def yS(K:av)(A B H:Hp):Fl->ab->V->Prop
 | .xo,d,v=>Rp K A d v
 | .xl,d,v=>Pk K A B d v
 | .own,d,v=>Own K A B H d v
 | .fix p,d,v=>v= .ref p/\Own K A B H d v
 | .exc C,_,v=>afm A C v
 | .nst b,d,v=>b=true->aeX K A B H d v
 | .kit,d,v=>pX K A d v
def Hi(K:av)(A B H:Hp)(f:Fl)(d:Option ab)(v:Option V):Prop:=∀d',d=some d'->∃v',v=some v'/\yS K A B H f d' v'
noncomputable abbrev fl(O:B9)(i:Nat):Fl:=O.getD i .xo
noncomputable abbrev gv(Γ:Ev)(i:Nat):Option ab:=Γ.getD i none
noncomputable abbrev sv(σ:St)(i:Nat):Option V:=σ.getD i none
structure aY (K:av) (A B H:Hp) (O:B9) (σ:St) (Γ:Ev):Prop where
 a:aF A H
 b:aF B H
 len:Γ.length=σ.length
 slot:∀i,Hi K A B H (fl O i) (gv Γ i) (sv σ i)
 sep:∀i j,i≠j->isO (fl O i)=true->isO (fl O j)=true->gv Γ i≠none->gv Γ j≠none->sv σ i≠sv σ j
def New(A A' B:Hp):Prop:=∀p,A p=none->B p≠none->A' p=none
structure aW (A H A' H':Hp):Prop where
 aa:aF A A'
 hh:aF H H'
 ah:aF A' H'
 nw:New A A' H
theorem aW.refl(h:aF A H):aW A H A H:=⟨aF.refl _,aF.refl _,h,λ_ h _=>h⟩
variable {p:Addr}
theorem aF.ne(e:aF H H')(h:H p≠none):H' p≠none:=by
 cases q:H p with
 | none=>exact absurd q h
 | some o=>rw[e p o q];simp
theorem aW.trans{e Z H2:Hp}(g:aW A H H' e)(Y:aW H' e Z H2):aW A H Z H2:=
 ⟨g.aa.trans Y.aa,g.hh.trans Y.hh,Y.ah,λp j i=>Y.nw p (g.nw p j i) (aF.ne g.hh i)⟩
theorem New.mono{B:Hp}(n:New A H H')(s:aF B H'):New A H B:=λp Z Y=>n p Z (aF.ne s Y)
theorem New.trans{B:Hp}(n:New A H B)(m:New H H' B):New A H' B:=λp Z Y=>m p (n p Z Y) Y
variable {x3:B0}{o:HO}
section
variable  {B A':Hp}{O:B9}{σ:St}{Γ:Ev}{d:ab}{v:V}
theorem Pk.mono(l:aF A A')(hh:aF H H')(h:Pk K A H d v):Pk K A' H' d v:=by
 rcases h with h | ⟨p,q,o,Z,j,i,e⟩ | ⟨p,u,Y,Z,j,i,e⟩
 . exact .inl (Rp.mono l d h)
 . exact .inr (.inl ⟨p,q,o,Z,j,hh.seq i,az.mono l o e⟩)
 . exact .inr (.inr ⟨p,u,Y,Z,j,aF.rd hh i,bj.mono l Y e⟩)
theorem iU.mono(j:aF A A')(h:iU K A d o):iU K A' d o:=by
 rcases h with ⟨i,l,Z,e,h⟩ | ⟨Y,u,Z,e,h⟩
 . exact .inl ⟨i,l,Z,e,az.mono j i h⟩
 . exact .inr ⟨Y,u,Z,e,bj.mono j Y h⟩
theorem RpN.mono(Y:aF A A')(h:RpN K A x3 xs):RpN K A' x3 xs:=by
 obtain ⟨Z,j,i⟩:=h;exact ⟨Z,j.keeps λb l e=>Y.fP e,Paired.sE i λ_ _ z=>⟨z.1,Rp.mono Y _ z.2⟩⟩
theorem iU.nx(h:iU K A d o)(e:some o=some (ie p xs)):False:=by
 rcases h with ⟨l,j,Z,Y,h⟩ | ⟨i,u,Z,Y,h⟩ <;> (rw[Y] at e;cases e)
theorem yS.grow(g:aW A H A' H'){f:Fl}(h:yS K A B H f d v):yS K A' B H' f d v:=by
 cases f with
 | xo=>exact Rp.mono g.aa d h
 | xl=>exact Pk.mono g.aa (aF.refl _) h
 | own=>
  obtain ⟨p,o,e,Y,Z,i,j⟩:=h;exact ⟨p,o,e,g.hh _ _ Y,g.nw p Z (by rw[Y];simp),i,j.mono g.aa⟩
 | fix L=>
  obtain ⟨J,p,o,e,Y,Z,i,j⟩:=h;exact ⟨J,p,o,e,g.hh _ _ Y,g.nw p Z (by rw[Y];simp),i,j.mono g.aa⟩
 | exc C=>
  obtain ⟨p,D,e,Y,Z⟩:=h;exact ⟨p,D,e,g.aa _ _ Y,Z⟩
 | nst b=>
  intro z;obtain ⟨p,E,l,r,u,q,s,w5,I⟩:=h z;exact ⟨p,E,l,r,u,g.hh _ _ q,g.nw p s (by rw[q];simp),w5,I.mono g.aa⟩
 | kit=>exact pX.mono g.aa h
theorem Hi.grow(g:aW A H A' H'){f:Fl}{d:Option ab}{v:Option V}(h:Hi K A B H f d v):Hi K A' B H' f d v:=λY e=>
 let ⟨Z,i,q⟩:=h Y e;⟨Z,i,q.grow g⟩
theorem aY.grow(g:aW A H A' H')(r:aY K A B H O σ Γ):aY K A' B H' O σ Γ:=
 ⟨g.ah,r.b.trans g.hh,r.len,λi=>(r.slot i).grow g,r.sep⟩
theorem iU.share(h:iU K A d o)(s:aF A (xk A p o)):Rp K (xk A p o) d (.ref p):=by
 rcases h with ⟨j,i,Y,Z,h⟩ | ⟨e,u,Y,Z,h⟩
 . subst Y;subst Z;exact Rp.list.mpr ⟨p,i,rfl,SqL.of aX,az.mono s j h⟩
 . subst Y;subst Z;exact (by rw[Rp];exact ⟨p,u,rfl,.inl aX,bj.mono s e h⟩)
theorem Own.pk(h:Own K A B H d v):Pk K A H d v:=by
 obtain ⟨p,o,e,l,_,_,⟨r,q,i,Y,Z⟩ | ⟨j,u,i,Y,Z⟩⟩:=h
 . subst Y;exact .inr (.inl ⟨p,q,r,e,i,SqL.of l,Z⟩)
 . subst Y;exact .inr (.inr ⟨p,u,j,e,i,.inl l,Z⟩)
theorem yS.pk(Z:aF B H){f:Fl}(h:yS K A B H f d v)(Y:isX f=false):Pk K A H d v:=by
 cases f with
 | xo=>exact .inl h
 | xl=>exact Pk.mono (aF.refl _) Z h
 | own=>exact Own.pk h
 | fix e=>exact Own.pk h.2
 | exc C=>cases Y
 | nst b=>cases Y
 | kit=>cases Y
theorem Pk.list(q:aF A H)(h:Pk K A H (.list ds) v):∃p vs,v= .ref p/\SqL K H p vs/\az K A ds vs:=by
 rcases h with h | ⟨p,vs,l,j,i,Z,Y⟩ | ⟨p,u,o,j,i,Z,Y⟩
 . obtain ⟨a,vs,e,Z,Y⟩:=Rp.list.mp h;exact ⟨a,vs,e,q.seq Z,Y⟩
 . cases i;exact ⟨p,vs,j,Z,Y⟩
 . cases i
theorem Pk.lN(h:Pk K A H d v)(n:∀ds,d ≠ .list ds)(i:∀x3,d ≠ .dict x3):Rp K A d v:=by
 rcases h with h | ⟨p,o,Y,e,Z,l,j⟩ | ⟨p,u,x3,e,Z,l,j⟩
 . exact h
 . exact absurd Z (n Y)
 . exact absurd Z (i x3)
theorem Pk.int{i:Int}(h:Pk K A H (.int i) v):v= .int i:=Rp.int.mp (h.lN (λ_ z=>nomatch z) (λ_ z=>nomatch z))
theorem Pk.bool{i:Bool}(h:Pk K A H (.bool i) v):v= .bl i:=Rp.bool.mp (h.lN (λ_ z=>nomatch z) (λ_ z=>nomatch z))
theorem Pk.none(h:Pk K A H .none v):v= .non:=Rp.none.mp (h.lN (λ_ z=>nomatch z) (λ_ z=>nomatch z))
theorem Pk.str{x:Str}(h:Pk K A H (.str x) v):v= .str x:=Rp.str.mp (h.lN (λ_ z=>nomatch z) (λ_ z=>nomatch z))
theorem Pk.tuple(i:aF A H)(h:Pk K A H (.tuple ds) v):∃p vs,v= .ref p/\SqT K H p vs/\az K A ds vs:=by
 obtain ⟨a,vs,e,Z,Y⟩:=Rp.tuple.mp (h.lN (λ_ z=>nomatch z) (λ_ z=>nomatch z));exact ⟨a,vs,e,i.fP Z,Y⟩
theorem Pk.is(l:aF A H)(r:dr d=true)(h:Pk K A H d v):Is K H d v:=by
 have c:=kD r;rcases h with h | ⟨p,o,Y,e,Z,j,i⟩ | ⟨p,u,q,e,Z,j,i⟩
 rotate_right
 . subst Z;rw[iL] at c;cases c
 . exact Is.mono l d (Rp.is d c h)
 . subst Z;rw[Is];rw[iL] at c;exact ⟨p,o,e,j,fj.mono l Y (az.is Y c i)⟩
theorem Rp.dict:Rp K A (.dict x3) v↔∃a u,v= .ref a/\Rd A a (.dK u)/\bj K A x3 u:=by rw[Rp]
theorem bj.nil{u:A8}:bj K A [] u↔u=[]:=by rw[bj]
theorem bj.cons{k d:ab}{r:B0}{u:A8}:bj K A ((k,d)::r) u↔∃key v u',u=(key,v)::u'/\bM k=some key/\Rp K A d v/\bj K A r u':=by rw[bj]
theorem Pk.dict(q:aF A H)(h:Pk K A H (.dict x3) v):∃a u,v= .ref a/\Rd H a (.dK u)/\bj K A x3 u:=by
 rcases h with h | ⟨p,r,o,j,i,Z,Y⟩ | ⟨p,u,l,j,i,Z,Y⟩
 . obtain ⟨a,u,e,Z,Y⟩:=Rp.dict.mp h;exact ⟨a,u,e,aF.rd q Z,Y⟩
 . cases i
 . cases i;exact ⟨p,u,j,Z,Y⟩
theorem aW.new(Z:aF A H)(h:H p=none):aW A H (xk A p o) (xk H p o):=
 ⟨aF.new (Z.free h) o,aF.new h o,λb u q=>by
  by_cases Y:b=p
  . subst Y;rw[aX] at q ⊢;exact q
  . rw[aG Y] at q ⊢;exact Z b u q,λb i e=>by
  have Y:b≠p:=λz=>e (z ▸ h);rw[aG Y];exact i⟩
theorem aW.lay(Y:aF A H)(h:H p=none):aW A H A (xk H p o):=
 ⟨aF.refl _,aF.new h o,Y.trans (aF.new h o),λb Z _=>Z⟩
end
structure Nm (X:Cx) (i:Nat) (x:Str):Prop where
 a:X.N[i]?=some x
 b:Vis X.env.scope x
 c:nD x
 d:(x == ("__classdict__" : Str))=false
end Zq
local macro_rules | `(tactic| walk_at "nm")=>`(tactic| exact ⟨rfl,by first | exact gz rfl | exact rf (gz rfl) | exact rf (rf rfl),by decide,by decide⟩)
namespace Zq
open PySem PySem.Spec PyProof.Rows
noncomputable def xB:Expr->Bool
 | .Starred _ _=>false
 | _=>true
noncomputable def jd:C1->Bool
 | []=>true
 | e::es=>xB e&&jd es
variable {e:Expr}{es:C1}
theorem cR{env:Env}(h:xB e=true):dc (e::es) env=(false,eval e env)::dc es env:=by
 cases e <;> first | rfl | cases h
theorem jx:∀{es:C1}{env:Env}{pos:Pos},jd es=true->(lS pos (dc es env)).any (·.1)=false
 | [],_,_,_=>rfl
 | e::es,env,pos,h=>by
  rw[jd,c9] at h;rw[cR h.1];show (false||(lS pos (dc es env)).any (·.1))=false;rw[jx h.2];rfl
def tE(K:av)(O:B9)(m:ME):TE:=λσ H Q=>∃A B Γ d,aY K A B H O σ Γ/\m Γ = .ok d/\∀v A' H',aW A H A' H'->Rp K A' d v->Q v H'
def tP(K:av)(O:B9)(m:ME):TE:=λσ H Q=>∃A B Γ d,aY K A B H O σ Γ/\m Γ = .ok d/\∀v A' H',aW A H A' H'->Pk K A' H' d v->Q v H'
def wX(K:av)(H A' H':Hp)(d:ab)(v:V):Prop:=∃p o,v= .ref p/\H p=none/\H' p=some o/\A' p=none/\iU K A' d o
def tF(K:av)(O:B9)(m:ME):TE:=λσ H Q=>∃A B Γ d,aY K A B H O σ Γ/\m Γ = .ok d/\∀v A' H',aW A H A' H'->wX K H A' H' d v->Q v H'
def tT(K:av)(O:B9)(m:ME):TT:=λσ H Q=>∃A B Γ b,aY K A B H O σ Γ/\m Γ = .ok (.bool b)/\∀A' H',aW A H A' H'->Q b H'
variable {X:Cx}{t':TT}{tg:Expr}
theorem PE.imp{t t':TE}(h:PE X e t)(i:∀σ H Q,t' σ H Q->t σ H Q):PE X e t':=λY s σ H Q I q=>h Y s σ H Q I (i σ H Q q)
theorem PT.imp{t:TT}(h:PT X e t)(i:∀σ H Q,t' σ H Q->t σ H Q):PT X e t':=λY s σ H Q I q=>h Y s σ H Q I (i σ H Q q)
theorem PW.imp{t:TT}(h:PW X e t)(i:∀σ H Q,t' σ H Q->t σ H Q):PW X e t':=λw Y s σ H Q I q=>h w Y s σ H Q I (i σ H Q q)
theorem PA.imp{t t':TA}(h:PA X es t)(i:∀σ H Q,t' σ H Q->t σ H Q):PA X es t':=λZ Y s σ H Q I q=>h Z Y s σ H Q I (i σ H Q q)
theorem PS.imp{e:Stmt}{t t':TS}(h:PS X e t)(i:∀D σ H,t' D σ H->t D σ H):PS X e t':=λY s σ H D I q=>h Y s σ H D I (i D σ H q)
theorem PSs.imp{e:C5}{t t':TS}(h:PSs X e t)(i:∀D σ H,t' D σ H->t D σ H):PSs X e t':=λY s σ H D I q=>h Y s σ H D I (i D σ H q)
theorem PI.imp{t t':TI}(h:PI X tg e t)(i:∀σ H R,t' σ H R->t σ H R):PI X tg e t':=λY s σ H R I q=>h Y s σ H R I (i σ H R q)
section
variable (X:Cx)
structure QE (e:Expr) (t:TE):Prop where
 h:PE X e t
structure QT (e:Expr) (t:TT):Prop where
 h:PT X e t
structure QW (e:Expr) (t:TT):Prop where
 h:PW X e t
structure QA (e:C1) (t:TA):Prop where
 h:PA X e t
structure QS (e:Stmt) (t:TS):Prop where
 h:PS X e t
structure QSs (e:C5) (t:TS):Prop where
 h:PSs X e t
structure QI (tg e:Expr) (t:TI):Prop where
 h:PI X tg e t
structure QO (e:Option Expr) (t:TO):Prop where
 h:PO X e t
structure QG (tg:Expr) (t:TG):Prop where
 h:PG X tg t
structure QGs (tg:C1) (t:TGs):Prop where
 h:PGs X tg t
structure xq (e:C1) (t:TT):Prop where
 h:sO X e t
end
theorem QE.imp{t t':TE}(h:PE X e t)(i:∀σ H Q,t' σ H Q->t σ H Q):QE X e t':=⟨PE.imp h i⟩
theorem QT.imp{t:TT}(h:PT X e t)(i:∀σ H Q,t' σ H Q->t σ H Q):QT X e t':=⟨PT.imp h i⟩
theorem QW.imp{t:TT}(h:PW X e t)(i:∀σ H Q,t' σ H Q->t σ H Q):QW X e t':=⟨PW.imp h i⟩
theorem QA.imp{t t':TA}(h:PA X es t)(i:∀σ H Q,t' σ H Q->t σ H Q):QA X es t':=⟨PA.imp h i⟩
theorem QS.imp{e:Stmt}{t t':TS}(h:PS X e t)(i:∀D σ H,t' D σ H->t D σ H):QS X e t':=⟨PS.imp h i⟩
theorem QSs.imp{e:C5}{t t':TS}(h:PSs X e t)(i:∀D σ H,t' D σ H->t D σ H):QSs X e t':=⟨PSs.imp h i⟩
theorem QI.imp{t t':TI}(h:PI X tg e t)(i:∀σ H R,t' σ H R->t σ H R):QI X tg e t':=⟨PI.imp h i⟩
variable {K:av}{O:B9}{m m1 m2:ME}{a b c:Expr}{pos:Pos}{A H A' H':Hp}{v:V}{i:Nat}{Γ:Ev}{σ:St}{x:Str}{op:CmpOp}{rest:C1}{ds:B4}{vs:C0}
theorem sp(h:QE X e (tE K O m)):QE X e (tP K O m):=QE.imp h.h λl H Q Y=>by obtain ⟨A,B,i,d,r,em,k⟩:=Y;exact ⟨A,B,i,d,r,em,λv j Z g p=>k v j Z g (.inl p)⟩
theorem wX.share{d:ab}(g:aW A H A' H')(h:wX K H A' H' d v):∃Y,aW A H Y H'/\Rp K Y d v:=by
 obtain ⟨p,o,rfl,B,r,i,l⟩:=h;have s:aF A' (xk A' p o):=aF.new i _;refine ⟨xk A' p o,⟨g.aa.trans s,g.hh,λb u q=>?_,λb j e=>?_⟩,l.share s⟩
 . by_cases Z:b=p
   . subst Z;rw[aX] at q;rw[r];exact q
   . rw[aG Z] at q;exact g.ah b u q
 . have Z:b≠p:=λz=>e (z ▸ B);rw[aG Z];exact g.nw b j e
theorem sfe(h:QE X e (tF K O m)):QE X e (tE K O m):=QE.imp h.h λq H Q ⟨A,B,l,d,r,em,k⟩=>⟨A,B,l,d,r,em,λv o i g p=>by
 obtain ⟨Y,j,Z⟩:=p.share g;exact k v Y i j Z⟩
theorem sfp(h:QE X e (tF K O m)):QE X e (tP K O m):=sp (sfe h)
noncomputable def aj(i:Nat):ME:=λΓ=>match gv Γ i with
 | some d=>.ok d
 | none=>.bad
noncomputable def eC(d:ab):ME:=λ_=>.ok d
theorem qK{d:ab}(h:aj i Γ = .ok d):gv Γ i=some d:=by
 unfold aj at h
 cases q:gv Γ i with
 | none=>rw[q] at h;cases h
 | some Y=>rw[q] at h;cases h;rfl
theorem dH(h:sv σ i=some v):σ[i]?=some (some v):=by
 unfold sv at h;rw[ae] at h
 cases q:σ[i]? with
 | none=>rw[q] at h;cases h
 | some o=>rw[q] at h;exact congrArg some h
theorem aq(i:Nat)(Z:Nm X i x:=by walk_at "nm")(j:isX (fl O i)=false:=by rfl):QE X (.Name x pos) (tP K O (aj i)):=QE.imp (dJ Z.1 Z.2 Z.3 Z.4) λl H Q Y=>by
 obtain ⟨A,B,o,d,r,em,k⟩:=Y;obtain ⟨v,e,q⟩:=r.slot i d (qK em);exact ⟨v,dH e,k v A H (aW.refl r.a) (q.pk r.b j)⟩
theorem bc(i:Nat)(j:fl O i= .xo:=by rfl)(Z:Nm X i x:=by walk_at "nm"):QE X (.Name x pos) (tE K O (aj i)):=QE.imp (dJ Z.1 Z.2 Z.3 Z.4) λl H Q Y=>by
 obtain ⟨A,B,o,d,r,em,k⟩:=Y;obtain ⟨v,e,q⟩:=r.slot i d (qK em);rw[j] at q;exact ⟨v,dH e,k v A H (aW.refl r.a) q⟩
theorem JZ{d:ab}(h:PE X e (tC v))(Z:∀A,Rp K A d v):QE X e (tE K O (eC d)):=QE.imp h λj H Q Y=>by
 obtain ⟨A,B,l,i,r,em,k⟩:=Y;cases em;exact k v A H (aW.refl r.a) (Z A)
theorem fY{i:Int}{j pos}:QE X (.Constant (.int i) j pos) (tE K O (eC (.int i))):=JZ HR λ_=>Rp.int.mpr rfl
theorem gK{i:Bool}{j pos}:QE X (.Constant (.bool i) j pos) (tE K O (eC (.bool i))):=JZ aer λ_=>Rp.bool.mpr rfl
theorem lL{j pos}:QE X (.Constant .none j pos) (tE K O (eC .none)):=JZ acb λ_=>Rp.none.mpr rfl
theorem gV{j pos}:QE X (.Constant (.str x) j pos) (tE K O (eC (.str x))):=JZ R8 λ_=>Rp.str.mpr rfl
theorem oH{u:a0}{d:ab}(Z:Gl X x)(e:X.mg x=some u)(r:xh v u)(Y:∀A,Rp K A d v)(hd:nD x:=by decide):QE X (.Name x pos) (tE K O (eC d)):=
 JZ (Nu Z e r hd) Y
noncomputable def ao(f:C8)(a b:ME):ME:=λΓ=>(a Γ).bind λx=>(b Γ).bind λy=>f x y
def rD(K:av)(f:C8):R2:=λx y H Q=>∃A d1 d2 d,f d1 d2= .ok d/\aF A H/\Pk K A H d1 x/\Pk K A H d2 y/\∀v A' H',aW A H A' H'->Rp K A' d v->Q v H'
theorem xK{f:C8}{Q:VK}(h:tE K O (ao f m1 m2) σ H Q):tOp (rD K f) (tP K O m1) (tP K O m2) σ H Q:=by
 obtain ⟨A,B,j,d,r,em,k⟩:=h;obtain ⟨Z,l,em⟩:=x8.au em;obtain ⟨i,u,em⟩:=x8.au em;refine ⟨A,B,j,Z,r,l,λx D I e p=>⟨D,B,j,i,r.grow e,u,λy z E Y p2=>⟨z,Z,i,d,em,Y.ah,p.mono Y.aa Y.hh,p2,λv s q C o=>k v s q ((e.trans Y).trans C) o⟩⟩⟩
theorem adC{f:C8}{Q:Bool->Hp->Prop}(h:tT K O (ao f m1 m2) σ H Q):Yr (tOp (rD K f) (tP K O m1) (tP K O m2)) σ H Q:=by
 obtain ⟨A,B,Z,e,r,em,k⟩:=h;exact xK ⟨A,B,Z,_,r,em,λv i Y g p=>⟨e,Rp.bool.mp p,k i Y g⟩⟩
theorem aK{Y:Operator}{f:C8}(Z:OpR X (fv Y) (rD K f))(e:QE X a (tP K O m1))(i:QE X b (tP K O m2)):QE X (.BinOp a Y b pos) (tE K O (ao f m1 m2)):=QE.imp (Yd Z e.h i.h) λ_ _ _=>xK
theorem xZ{f:C8}(Y:OpR X (eD op) (rD K f))(Z:QE X a (tP K O m1))(e:QE X b (tP K O m2))(i:mm op b=false):QE X (.Compare a [op] [b] pos) (tE K O (ao f m1 m2)):=QE.imp (Zm Y Z.h e.h i) λ_ _ _=>xK
theorem q8{f:C8}(Y:OpR X (eD op) (rD K f))(Z:QE X a (tP K O m1))(e:QE X b (tP K O m2))(i:mm op b=false):QT X (.Compare a [op] [b] pos) (tT K O (ao f m1 m2)):=QT.imp (NQ Y Z.h e.h i) λ_ _ _=>adC
noncomputable def Bl(f g:C8)(a b c:ME):ME:=λΓ=>(a Γ).bind λx=>(b Γ).bind λy=>(f x y).bind λt=>match t with
 | .bool true=>(c Γ).bind λz=>g y z
 | .bool false=>.ok (.bool false)
 | _=>.bad
theorem Xq{f g:C8}{Q:VK}(h:tE K O (Bl f g m1 m2 m) σ H Q):Tp (rD K f) (rD K g) (tP K O m1) (tP K O m2) (tP K O m) σ H Q:=by
 obtain ⟨A,B,j,d,r,em,k⟩:=h;obtain ⟨p,u,em⟩:=x8.au em;obtain ⟨l,L,em⟩:=x8.au em;obtain ⟨t,I,em⟩:=x8.au em;refine ⟨A,B,j,p,r,u,λx A1 H1 e S=>⟨A1,B,j,l,r.grow e,L,λy M H2 Y p2=>⟨M,p,l,t,I,Y.ah,S.mono Y.aa Y.hh,p2,λv s R Z D=>?_⟩⟩⟩
 cases t with
 | bool q=>
  refine ⟨q,Rp.bool.mp D,?_⟩
  cases q with
  | false=>
   cases em;exact yd (k _ s R ((e.trans Y).trans Z) (Rp.bool.mpr rfl))
  | true=>
   obtain ⟨o,J,em⟩:=x8.au em;exact yw ⟨s,B,j,o,((r.grow e).grow Y).grow Z,J,λz A4 H4 i C=>⟨A4,l,o,d,em,i.ah,(p2.mono Z.aa Z.hh).mono i.aa i.hh,C,λv U E g5 P=>k v U E ((((e.trans Y).trans Z).trans i).trans g5) P⟩⟩
 | _=>cases em
theorem Xi{Y:CmpOp}{f g:C8}(e:OpR X (eD op) (rD K f))(Z:OpR X (eD Y) (rD K g))(j:QE X a (tP K O m1))(l:QE X b (tP K O m2))(o:QE X c (tP K O m))
 (i:lastMarks [op,Y] [b,c]=false:=by with_unfolding_all rfl):QE X (.Compare a [op,Y] [b,c] pos) (tE K O (Bl f g m1 m2 m)):=QE.imp (WX e Z j.h l.h o.h i) λ_ _ _=>Xq
noncomputable def nC(a b:ME):ME:=λΓ=>(a Γ).bind λx=>match x with
 | .bool true=>b Γ
 | .bool false=>.ok (.bool false)
 | _=>.bad
noncomputable def eOr(a b:ME):ME:=λΓ=>(a Γ).bind λx=>match x with
 | .bool false=>b Γ
 | .bool true=>.ok (.bool true)
 | _=>.bad
noncomputable def lZ(a:ME):ME:=λΓ=>(a Γ).bind λx=>match x with
 | .bool t=>.ok (.bool (!t))
 | _=>.bad
noncomputable def eIf(c a b:ME):ME:=λΓ=>(c Γ).bind λx=>match x with
 | .bool true=>a Γ
 | .bool false=>b Γ
 | _=>.bad
theorem Dc{op}(h:QE X a (tE K O m)):QE X (.BoolOp op [a] pos) (tE K O m):=⟨adN h.h⟩
theorem wV(C:QE X a (tE K O m1))(s:QE X (.BoolOp .And (b::rest) pos) (tE K O m2)):QE X (.BoolOp .And (a::b::rest) pos) (tE K O (nC m1 m2)):=QE.imp (acR C.h s.h) λE H Q Y=>by
 obtain ⟨A,B,j,d,r,em,k⟩:=Y;obtain ⟨e,o,em⟩:=x8.au em;refine ⟨A,B,j,e,r,o,λv l D Z q=>?_⟩
 cases e with
 | bool i=>
  refine ⟨i,Rp.bool.mp q,?_⟩
  cases i with
  | true=>exact yw ⟨l,B,j,d,r.grow Z,em,λv z u g p=>k v z u (Z.trans g) p⟩
  | false=>cases em;exact yd (k _ l D Z (Rp.bool.mpr rfl))
 | _=>cases em
theorem acM(l:QE X a (tE K O m1)):QE X (.UnaryOp .Not a pos) (tE K O (lZ m1)):=QE.imp (acN l.h) λu H Q Y=>by
 obtain ⟨A,B,q,d,r,em,k⟩:=Y;obtain ⟨Z,e,em⟩:=x8.au em;refine ⟨A,B,q,Z,r,e,λv s o i j=>?_⟩
 cases Z with
 | bool p=>cases em;exact ⟨p,Rp.bool.mp j,k _ s o i (Rp.bool.mpr rfl)⟩
 | _=>cases em
theorem abr(h:QE X e (tE K O m))(i:∀whole,wq e X.env whole=(do let v <- whole;standAt e.pos;holding [v] (truthy v)):=by intro _;rfl):QT X e (tT K O m):=QT.imp (abU h.h i) λo H Q ⟨A,B,j,l,r,em,k⟩=>
 ⟨A,B,j,_,r,em,λv Z Y g p=>⟨l,Rp.bool.mp p,k Z Y g⟩⟩
theorem uJ(Y:QT X a (tT K O m)):QW X (.BoolOp .And [a] pos) (tT K O m):=⟨Y0 Y.h⟩
theorem sJ(Y:QT X a (tT K O m)):QW X (.BoolOp .Or [a] pos) (tT K O m):=⟨adt Y.h⟩
theorem yg(u:QT X a (tT K O m1))(p:QW X (.BoolOp .And (b::rest) pos) (tT K O m2)):QW X (.BoolOp .And (a::b::rest) pos) (tT K O (nC m1 m2)):=QW.imp (acA u.h p.h) λz H Q Y=>by
 obtain ⟨A,B,i,d,r,em,k⟩:=Y;obtain ⟨o,l,em⟩:=x8.au em
 cases o with
 | bool e=>
  refine ⟨A,B,i,e,r,l,λj v Z=>?_⟩
  cases e with
  | true=>exact yw ⟨j,B,i,d,r.grow Z,em,λq s g=>k q s (Z.trans g)⟩
  | false=>cases em;exact yd (k j v Z)
 | _=>cases em
theorem vN(u:QT X a (tT K O m1))(p:QW X (.BoolOp .Or (b::rest) pos) (tT K O m2)):QW X (.BoolOp .Or (a::b::rest) pos) (tT K O (eOr m1 m2)):=QW.imp (adX u.h p.h) λz H Q Y=>by
 obtain ⟨A,B,i,d,r,em,k⟩:=Y;obtain ⟨o,l,em⟩:=x8.au em
 cases o with
 | bool e=>
  refine ⟨A,B,i,e,r,l,λj v Z=>?_⟩
  cases e with
  | false=>exact yd ⟨j,B,i,d,r.grow Z,em,λq s g=>k q s (Z.trans g)⟩
  | true=>cases em;exact yw (k j v Z)
 | _=>cases em
theorem lR(h:QW X e (tT K O m)):QT X e (tT K O m):=⟨h.h.pt⟩
theorem j4(j:QT X a (tT K O m1)):QT X (.UnaryOp .Not a pos) (tT K O (lZ m1)):=QT.imp (adf j.h) λs H Q Y=>by
 obtain ⟨A,B,p,d,r,em,k⟩:=Y;obtain ⟨e,Z,em⟩:=x8.au em
 cases e with
 | bool o=>cases em;exact ⟨A,B,p,o,r,Z,λq l i=>k q l i⟩
 | _=>cases em
theorem QQ(C:QT X c (tT K O m))(z:QE X a (tE K O m1))(u:QE X b (tE K O m2)):QE X (.IfExp c a b pos) (tE K O (eIf m m1 m2)):=QE.imp (XR C.h z.h u.h) λD H Q Y=>by
 obtain ⟨A,B,j,d,r,em,k⟩:=Y;obtain ⟨s,q,em⟩:=x8.au em
 cases s with
 | bool l=>
  refine ⟨A,B,j,l,r,q,λo E Z=>?_⟩
  cases l with
  | true=>exact yw ⟨o,B,j,d,r.grow Z,em,λv i e g p=>k v i e (Z.trans g) p⟩
  | false=>exact yd ⟨o,B,j,d,r.grow Z,em,λv i e g p=>k v i e (Z.trans g) p⟩
 | _=>cases em
noncomputable def oE:ab->x8 ab
 | .none=>.ok (.bool false)
 | .bool b=>.ok (.bool b)
 | .int i=>.ok (.bool (i != 0))
 | .list ds=>.ok (.bool (!ds.isEmpty))
 | .tuple ds=>.ok (.bool (!ds.isEmpty))
 | .str x=>gd (x.length<=ba) (.ok (.bool ((x.length:Int) != 0)))
 | _=>.bad
noncomputable def eUn(f:C9)(a:ME):ME:=λΓ=>(a Γ).bind f
theorem az.isEmpty(h:az K A ds vs):vs.isEmpty=ds.isEmpty:=by
 cases ds with
 | nil=>rw[az.nil] at h;subst h;rfl
 | cons d ds=>rw[az.cons] at h;obtain ⟨v,r,rfl,_⟩:=h;rfl
theorem j8(h:QE X a (tP X.K O m))(J:∀whole,wq a X.env whole=(do let v <- whole;standAt a.pos;holding [v] (truthy v)):=by intro _;rfl):QT X a (tT X.K O (eUn oE m)):=QT.imp (Wv h.h J) λL H Q Z=>by
 obtain ⟨A,B,C,E,r,em,k⟩:=Z;obtain ⟨q,s,em⟩:=x8.au em;refine ⟨A,B,C,q,r,s,λv I D e Y=>⟨E,?_,k I D e⟩⟩
 cases q with
 | none=>cases em;rw[Y.none];rfl
 | bool b=>cases em;rw[Y.bool];rfl
 | int i=>cases em;rw[Y.int];rfl
 | str x=>
  obtain ⟨u,em⟩:=b8 em;cases em;rw[Y.str];exact ⟨u,rfl⟩
 | list z=>
  cases em;obtain ⟨p,o,rfl,l,j⟩:=Y.list e.ah;exact .inl ⟨o,l,by rw[j.isEmpty]⟩
 | tuple z=>
  cases em;obtain ⟨p,o,rfl,l,j⟩:=Y.tuple e.ah;exact .inr (.inl ⟨o,l,by rw[j.isEmpty]⟩)
 | dict _=>cases em
noncomputable def pW(g:Int->Int->x8 ab):ab->ab->x8 ab
 | .int a,.int b=>g a b
 | _,_=>.bad
theorem iZ{g:Int->Int->x8 ab}{a b d:ab}(e:pW g a b= .ok d):∃i j,a= .int i/\b= .int j/\g i j= .ok d:=by
 cases a with
 | int i=>
  cases b with
  | int j=>exact ⟨i,j,rfl,rfl,e⟩
  | _=>cases e
 | _=>cases e
noncomputable def cG:ab->ab->x8 ab
 | .int a,.int b=>.ok (.int (a+b))
 | .str a,.str b=>gd (a.length+b.length<=ba) (.ok (.str (a++b)))
 | .list a,.list b=>gd (a.length+b.length<=ba) (.ok (.list (a++b)))
 | .tuple a,.tuple b=>gd (a.length+b.length<=ba) (.ok (.tuple (a++b)))
 | .int a,.bool b=>.ok (.int (a+b2i b))
 | _,_=>.bad
noncomputable def iQ:ab->ab->x8 ab:=pW λa b=>.ok (.int (a - b))
instance (i j:Int):Decidable (q9 i j):=by unfold q9;infer_instance
instance (i j:Int):Decidable (Ds i j):=by unfold Ds;infer_instance
instance (i j:Int):Decidable (Ec i j):=by unfold Ec;infer_instance
noncomputable def lB:ab->ab->x8 ab:=pW λa b=>gd (q9 a b) (.ok (.int (a*b)))
noncomputable def kO:ab->ab->x8 ab:=pW λa b=>gd (Ds a b) (.ok (.int (a / b)))
noncomputable def jM:ab->ab->x8 ab:=pW λa b=>gd (0<b) (.ok (.int (a % b)))
noncomputable def Ak:ab->ab->x8 ab:=pW λa b=>gd (Ec a b) (.ok (.int (a*2^b.toNat)))
noncomputable def wu:ab->ab->x8 ab:=pW λa b=>gd (0<=b) (.ok (.int (a / 2^b.toNat)))
noncomputable def su:ab->ab->x8 ab:=pW λa b=>.ok (.int (fE a b))
noncomputable def orD:ab->ab->x8 ab:=pW λa b=>.ok (.int (i9 a b))
noncomputable def Jd:ab->x8 ab
 | .int a=>.ok (.int (-a))
 | _=>.bad
noncomputable def ltD:ab->ab->x8 ab:=pW λa b=>.ok (.bool (decide (a<b)))
noncomputable def leD:ab->ab->x8 ab:=pW λa b=>.ok (.bool (decide (a<=b)))
noncomputable def gtD:ab->ab->x8 ab:=pW λa b=>.ok (.bool (decide (b<a)))
noncomputable def eqD(a b:ab):x8 ab:=gd (dr a=true/\dr b=true) (.ok (.bool (eP a b)))
noncomputable def neD(a b:ab):x8 ab:=gd (dr a=true/\dr b=true) (.ok (.bool (!eP a b)))
noncomputable def Xx:ab->Bool
 | .none=>true
 | _=>false
noncomputable def v5:ab->ab->x8 ab
 | a,.none=>.ok (.bool (Xx a))
 | _,_=>.bad
noncomputable def Cm:ab->ab->x8 ab
 | a,.none=>.ok (.bool (!Xx a))
 | _,_=>.bad
noncomputable def xt:ab->ab->x8 ab
 | .list ds,.int i=>match atI ds i with | some d=>.ok d | none=>.bad
 | .tuple ds,.int i=>match atI ds i with | some d=>.ok d | none=>.bad
 | _,_=>.bad
variable {g:a0->a0->Sem a0}
theorem wW{f:C8}{C:Int->Int->Prop}{h:Int->Int->Int}(q:OpR X g (rI C λi j=>.int (h i j)))
 (l:∀a b d,f a b= .ok d->∃i j,a= .int i/\b= .int j/\C i j/\d= .int (h i j)):OpR X g (rD X.K f):=by
 rintro Y s B H x y v u Q I Z o ⟨A,E,D,d,e,z,p,p2,k⟩;obtain ⟨i,j,rfl,rfl,r,rfl⟩:=l _ _ _ e;exact q Y s B H x y v u Q I Z o ⟨i,j,p.int,p2.int,r,k _ A H (aW.refl z) (Rp.int.mpr rfl)⟩
theorem Fb{f:C8}{h:Int->Int->Int}(q:OpR X g (rI0 λi j=>.int (h i j)))
 (l:∀a b d,f a b= .ok d->∃i j,a= .int i/\b= .int j/\d= .int (h i j)):OpR X g (rD X.K f):=by
 rintro Y s z H x y v u Q I Z o ⟨A,C,B,d,e,r,p,p2,k⟩;obtain ⟨i,j,rfl,rfl,rfl⟩:=l _ _ _ e;exact q Y s z H x y v u Q I Z o ⟨i,j,p.int,p2.int,k _ A H (aW.refl r) (Rp.int.mpr rfl)⟩
theorem HW{f:C8}{h:Int->Int->Bool}(q:OpR X g (rI0 λi j=>.bl (h i j)))
 (l:∀a b d,f a b= .ok d->∃i j,a= .int i/\b= .int j/\d= .bool (h i j)):OpR X g (rD X.K f):=by
 rintro Y s z H x y v u Q I Z o ⟨A,C,B,d,e,r,p,p2,k⟩;obtain ⟨i,j,rfl,rfl,rfl⟩:=l _ _ _ e;exact q Y s z H x y v u Q I Z o ⟨i,j,p.int,p2.int,k _ A H (aW.refl r) (Rp.bool.mpr rfl)⟩
theorem iJ:OpR X (fv .Sub) (rD X.K iQ):=Fb ab3 λa b d e=>by
 obtain ⟨i,j,rfl,rfl,e⟩:=iZ e;cases e;exact ⟨_,_,rfl,rfl,rfl⟩
theorem jf:OpR X (fv .FloorDiv) (rD X.K kO):=wW aae λa b d e=>by
 obtain ⟨i,j,rfl,rfl,e⟩:=iZ e;obtain ⟨Y,e⟩:=b8 e;cases e;exact ⟨_,_,rfl,rfl,Y,rfl⟩
theorem gA:OpR X (fv .Mod) (rD X.K jM):=wW ack λa b d e=>by
 obtain ⟨i,j,rfl,rfl,e⟩:=iZ e;obtain ⟨Y,e⟩:=b8 e;cases e;exact ⟨_,_,rfl,rfl,Y,rfl⟩
theorem yC:OpR X (fv .LShift) (rD X.K Ak):=wW aa9 λa b d e=>by
 obtain ⟨i,j,rfl,rfl,e⟩:=iZ e;obtain ⟨Y,e⟩:=b8 e;cases e;exact ⟨_,_,rfl,rfl,Y,rfl⟩
theorem u9:OpR X (fv .RShift) (rD X.K wu):=wW adq λa b d e=>by
 obtain ⟨i,j,rfl,rfl,e⟩:=iZ e;obtain ⟨Y,e⟩:=b8 e;cases e;exact ⟨_,_,rfl,rfl,Y,rfl⟩
theorem pg:OpR X (fv .BitAnd) (rD X.K su):=Fb abf λa b d e=>by
 obtain ⟨i,j,rfl,rfl,e⟩:=iZ e;cases e;exact ⟨_,_,rfl,rfl,rfl⟩
theorem X4:OpR X (fv .BitOr) (rD X.K orD):=Fb aeG λa b d e=>by
 obtain ⟨i,j,rfl,rfl,e⟩:=iZ e;cases e;exact ⟨_,_,rfl,rfl,rfl⟩
theorem Hw:OpR X (eD .Lt) (rD X.K ltD):=HW aee λa b d e=>by
 obtain ⟨i,j,rfl,rfl,e⟩:=iZ e;cases e;exact ⟨_,_,rfl,rfl,rfl⟩
theorem aey:OpR X (eD .LtE) (rD X.K leD):=HW aei λa b d e=>by
 obtain ⟨i,j,rfl,rfl,e⟩:=iZ e;cases e;exact ⟨_,_,rfl,rfl,rfl⟩
theorem zy:OpR X (eD .Gt) (rD X.K gtD):=HW aen λa b d e=>by
 obtain ⟨i,j,rfl,rfl,e⟩:=iZ e;cases e;exact ⟨_,_,rfl,rfl,rfl⟩
theorem d7(q:X.A.units+64<h7):OpR X (eD .Eq) (rD X.K eqD):=by
 rintro Y s z H x y v u Q I l o ⟨A,B,r,d,e,Z,p,p2,k⟩;obtain ⟨⟨j,i⟩,e⟩:=b8 e;cases e;exact abD q Y s z H x y v u Q I l o ⟨B,r,p.is Z j,p2.is Z i,j,i,k _ A H (aW.refl Z) (Rp.bool.mpr rfl)⟩
theorem yL(q:X.A.units+64<h7):OpR X (eD .NotEq) (rD X.K neD):=by
 rintro Y s z H x y v u Q I l o ⟨A,B,r,d,e,Z,p,p2,k⟩;obtain ⟨⟨j,i⟩,e⟩:=b8 e;cases e;exact adG q Y s z H x y v u Q I l o ⟨B,r,p.is Z j,p2.is Z i,j,i,k _ A H (aW.refl Z) (Rp.bool.mpr rfl)⟩
theorem Pk.isNone{d:ab}(Y:aF A H)(p:Pk K A H d v):decide (v=V.non)=Xx d:=by
 cases d with
 | none=>rw[p.none];rfl
 | bool b=>rw[p.bool];rfl
 | int b=>rw[p.int];rfl
 | str b=>rw[p.str];rfl
 | list b=>obtain ⟨q,Z,rfl,_⟩:=p.list Y;rfl
 | tuple b=>obtain ⟨q,Z,rfl,_⟩:=p.tuple Y;rfl
 | dict b=>obtain ⟨q,u,rfl,_⟩:=p.dict Y;rfl
noncomputable def Br:ab->ab->x8 ab
 | .bool a,.bool b=>.ok (.bool (!(a == b)))
 | _,_=>.bad
theorem M5:OpR X (eD .IsNot) (rD X.K Br):=by
 rintro i s q H x y v u Q I Y Z ⟨A,p,l,d,e,o,j,p2,k⟩
 cases p with
 | bool a=>
  cases l with
  | bool b=>
   cases e;rw[j.bool] at Y;rw[p2.bool] at Z;cases Y;cases Z;refine wpAny_isNot_plain rfl ⟨.bl (!(a == b)),H,I,?_,k _ A H (aW.refl o) (Rp.bool.mpr rfl)⟩;cases a <;> cases b <;> rfl
  | _=>cases e
 | _=>cases e
theorem JG:OpR X (eD .Is) (rD X.K v5):=by
 rintro Y s q H x y v u Q I i l ⟨A,r,p,d,e,Z,o,p2,k⟩
 cases p with
 | none=>
  have j:=x8.ok.inj e;subst j;exact acw Y s q H x y v u Q I i l ⟨p2.none,by rw[o.isNone Z];exact k _ A H (aW.refl Z) (Rp.bool.mpr rfl)⟩
 | _=>cases e
theorem MP:OpR X (eD .IsNot) (rD X.K Cm):=by
 rintro Y s q H x y v u Q I i l ⟨A,r,p,d,e,Z,o,p2,k⟩
 cases p with
 | none=>
  have j:=x8.ok.inj e;subst j;refine Z0 Y s q H x y v u Q I i l ⟨p2.none,?_⟩;rw[o.isNone Z];exact k _ A H (aW.refl Z) (Rp.bool.mpr rfl)
 | _=>cases e
def adZ(K:av):R2:=λx y H Q=>∃l b xs zs,x= .ref l/\y= .ref b/\SqL K H l xs/\SqL K H b zs/\xs.length+zs.length<=ba/\∀p,H p=none->Q (.ref p) (xk H p (.lst (xs++zs)))
theorem aat:OpR X (fv .Add) (adZ X.K):=by
 rintro C s σ H x y v u Q I rx O ⟨l,b,xs,zs,rfl,rfl,P,R,hz,q⟩;cases rx;cases O;obtain ⟨Z,r,pl,_⟩:=I.list P;obtain ⟨Y,B,o,_⟩:=I.list R;have hl:=r.length;have hl2:=B.length;obtain ⟨⟨cls,M,J,U⟩,E,L,n,hd⟩:=pl.isList;obtain ⟨⟨D,z,data2,p⟩,e,i,S,j⟩:=o.isList;simp only at L hd i j;subst L hd i j;have ea:Z.toArray++Y.toArray=(Z++Y).toArray:=by simp
 refine uS ⟨_,E,rfl⟩ ⟨_,e,rfl⟩ noFill_list_add seq_list_add PySem.F.slot_list_add PySem.F.entry_list_add (PySem.F.args_list_add_2 _ _) (list_addW l b Z.toArray Y.toArray n S M z U p (by simp only[c8];lia)) ⟨E,e,?_⟩;rw[ea];exact ⟨.ref _,_,I.adz (r.append B) (by rw[ar];lia),rfl,q _ I.fresh⟩
theorem WD:OpR X (fv .Add) (λx y H Q=>∃a b ys,x= .ref a/\y= .ref b/\SqT X.K H a []/\SqT X.K H b ys/\Q (.ref b) H):=by
 rintro o s σ H x y v u Q I O D ⟨a,b,ys,rfl,rfl,M,R,q⟩;cases O;cases D;obtain ⟨E,S,P,_⟩:=I.tuple M;obtain ⟨Y,U,p2,_⟩:=I.tuple R;cases S;obtain ⟨⟨cls,C,z,L⟩,r,B,n,hd⟩:=id P;obtain ⟨⟨p,l,data2,j⟩,Z,e,J,i⟩:=id p2;simp only at B hd e i;subst B hd e i;exact uS ⟨_,r,rfl⟩ ⟨_,Z,rfl⟩ tm seq_tuple_add ox om (ny _ _)
  (tuple_addW0 a b _ Y.toArray n J C l L j rfl) ⟨r,Z,⟨.ref b,H,I,rfl,q⟩⟩
theorem cj:OpR X (fv .Add) (rD X.K cG):=by
 rintro Y s E H x y v u Q I B q ⟨A,d1,d2,d,e,Z,C,p2,k⟩
 cases d1 with
 | int i=>
  cases d2 with
  | int j=>cases e;exact adB Y s E H x y v u Q I B q ⟨i,j,C.int,p2.int,k _ A H (aW.refl Z) (Rp.int.mpr rfl)⟩
  | bool j=>cases e;exact Uu Y s E H x y v u Q I B q ⟨i,j,C.int,p2.bool,k _ A H (aW.refl Z) (Rp.int.mpr rfl)⟩
  | _=>cases e
 | str i=>
  cases d2 with
  | str j=>
   obtain ⟨P,e⟩:=b8 e;cases e;exact QB Y s E H x y v u Q I B q ⟨i,j,C.str,p2.str,P,k _ A H (aW.refl Z) (Rp.str.mpr rfl)⟩
  | _=>cases e
 | list i=>
  cases d2 with
  | list j=>
   obtain ⟨P,e⟩:=b8 e;cases e;obtain ⟨l1,M,J,R,l⟩:=C.list Z;obtain ⟨U,D,L,S,r⟩:=p2.list Z;refine aat Y s E H x y v u Q I B q ⟨l1,U,M,D,J,L,R,S,by rw[<- l.length,<- r.length];exact P,λp hp=>?_⟩;have g:=aW.new (o:=.lst (M++D)) Z hp;exact k _ _ _ g (Rp.list.mpr ⟨p,_,rfl,SqL.of aX,(az.mono g.aa _ l).append (az.mono g.aa _ r)⟩)
  | _=>cases e
 | tuple i=>
  cases d2 with
  | tuple j=>
   obtain ⟨P,e⟩:=b8 e;cases e;obtain ⟨l1,M,J,R,l⟩:=C.tuple Z;obtain ⟨U,D,L,S,r⟩:=p2.tuple Z
   by_cases O:i=[]
   . subst O;have ex:=l8 l.length.symm;subst ex;refine WD Y s E H x y v u Q I B q ⟨l1,U,D,J,L,R,S,?_⟩;rw[d6] at k;refine k _ A H (aW.refl Z) ?_;have:=p2.lN (λ_ z=>nomatch z) (λ_ z=>nomatch z);rwa [L] at this
   refine Zk Y s E H x y v u Q I B q ⟨l1,U,M,D,J,L,R,S,λz=>?_,by rw[<- l.length,<- r.length];exact P,λz=>?_,λz p hp=>?_⟩
   . subst z;have:=l.length;exact O (l8 this)
   . subst z;have e0:=l8 r.length;subst e0;rw[cK] at k;refine k _ A H (aW.refl Z) ?_;have:=C.lN (λ_ z=>nomatch z) (λ_ z=>nomatch z);rwa [J] at this
   . have g:=aW.new (o:=.tup (M++D)) Z hp;exact k _ _ _ g (Rp.tuple.mpr ⟨p,_,rfl,SqT.of aX,(az.mono g.aa _ l).append (az.mono g.aa _ r)⟩)
  | _=>cases e
 | _=>cases e
def ad5:R2:=λx y H Q=>∃l k xs,x= .ref l/\y= .int k/\Rd H l (.lst xs) /\ -(2^63)<=k/\k<2^63/\xs.length*k.toNat<=ba /\
 ∀p,H p=none->Q (.ref p) (xk H p (.lst (aw k.toNat xs).flatten))
theorem Zc:OpR X (fv .Mult) ad5:=by
 rintro B s σ H x y v u Q I M D ⟨l,k,xs,rfl,rfl,P,S,J,C,q⟩;cases M;obtain ⟨t,rfl⟩:=D;obtain ⟨z,Y,n,r,e⟩:=P.ok I.xw;have U:=r.length;have j:Y.toArray.size*k.toNat<=ba:=by rw[c8,<- U];exact C
 have p:¬ Y.toArray.size*k.toNat > (2^63 - 1) / 8:=by
  have:(ba:Nat)<=(2^63 - 1) / 8:=by decide
  lia
 have i:¬ (!kL k)=true:=by
  rw[fitsIndex_both S J];exact dV
 have Z:¬ lp (Y.toArray.size*k.toNat)=true:=by
  rw[XF j];exact dV
 have o:List.foldl (λL R=>L++R) #[] (aw (if Y.toArray.isEmpty=true then 0 else k.toNat) Y.toArray)=(aw k.toNat Y).flatten.toArray:=by
  have O:=λm=>by
   have:=foldl_rep Y m [];rwa [d6] at this
  rw[O]
  cases Y with
  | nil=>simp
  | cons a r'=>rw[if_neg (by simp)]
 refine wpAny_binaryOp_repeat_ref (by decide) ⟨_,e,rfl⟩ (λE=>typeIs_int E k t) noFill_list_mul F.fills_int_mul F.slot_int_rmul repeat_list F.slot_int_index.lookup
  (call_meets F.slot_int_rmul (typeIs_int s k t) F.entry_int_rmul (F.args_int_rmul_2 _ _) (int___rmul___int_list k t l Y.toArray n)
   ⟨e,rfl,⟨_,e,rfl⟩,call_meets F.slot_list_mul ⟨_,e,rfl⟩ F.entry_list_mul (F.args_list_mul_2 _ _) (AutoListH.list___mul___list_int_3 l Y.toArray n k t i p Z) ⟨e,?_⟩⟩)
 rw[o];exact ⟨.ref _,_,I.adz (r.rep k.toNat) (by rw[len_rep,Nat.mul_comm];exact C),rfl,q _ I.fresh⟩
theorem az.reps(h:az K A ds vs)(k:Nat):az K A (aw k ds).flatten (aw k vs).flatten:=by
 induction k with
 | zero=>exact az.nil.mpr rfl
 | succ k Y=>rw[en,en,ka,ka];exact h.append Y
theorem iM:OpR X (fv .Mult) (rD X.K lB):=wW ab7 λa b d e=>by
 obtain ⟨i,j,rfl,rfl,e⟩:=iZ e;obtain ⟨Y,e⟩:=b8 e;cases e;exact ⟨_,_,rfl,rfl,Y,rfl⟩
noncomputable def vo:ab->ab->x8 ab
 | .list a,.int k=>gd (-(2^63)<=k/\k<2^63/\a.length*k.toNat<=ba) (.ok (.list (aw k.toNat a).flatten))
 | _,_=>.bad
theorem CG(M:QE X a (tF X.K O m1))(R:QE X b (tP X.K O m2)):QE X (.BinOp a .Mult b pos) (tF X.K O (ao vo m1 m2)):=QE.imp (Yd Zc M.h R.h) λσ H Q Y=>by
 obtain ⟨A,B,v,d,r,em,k⟩:=Y;obtain ⟨z,I,em⟩:=x8.au em;obtain ⟨D,L,em⟩:=x8.au em;refine ⟨A,B,v,z,r,I,λx A1 H1 s P=>⟨A1,B,v,D,r.grow s,L,λy A2 H2 Z p2=>?_⟩⟩
 cases z with
 | list i=>
  cases D with
  | int j=>
   obtain ⟨q,em⟩:=b8 em;cases em;obtain ⟨S,o,rfl,h0,J,h2,⟨ds,U,l,rfl,E⟩ | ⟨x3,u,l,_⟩⟩:=P
   rotate_right
   . cases l
   cases l;refine ⟨S,j,U,rfl,p2.int,.inl (Z.hh _ _ J),q.1,q.2.1,by rw[<- E.length];exact q.2.2,λp e=>?_⟩;have C:=s.trans Z;exact k _ _ _ (C.trans (aW.lay Z.ah e)) ⟨p,_,rfl,C.hh.free e,aX,Z.ah.free e,.inl ⟨_,_,rfl,rfl,(az.mono Z.aa _ E).reps _⟩⟩
  | _=>cases em
 | _=>cases em
theorem az.atI{i:Int}{d:ab}(h:az K A ds vs)(e:Zq.atI ds i=some d):∃x,Zq.atI vs i=some x/\Rp K A d x:=by
 unfold Zq.atI at e ⊢;rw[<- h.length]
 cases q:ixN ds.length i with
 | none=>rw[q] at e;cases e
 | some j=>rw[q] at e;exact h.get' e
theorem Hs:IxR X (rD X.K xt):=by
 intro Y Z o s U H x y v u Q I O M hq R;obtain ⟨A,d1,S,d,e,r,P,p2,k⟩:=hq
 cases d1 with
 | list p=>
  cases S with
  | int i=>
   have j:(match Zq.atI p i with | some d=>x8.ok d | none=>.bad)= .ok d:=e
   cases q:Zq.atI p i with
   | none=>rw[q] at j;cases j
   | some d0=>
    rw[q] at j;cases j;obtain ⟨l,D,B,C,J⟩:=P.list r;obtain ⟨z,E,L⟩:=J.atI q;exact ZG Y Z o s U H x y v u Q I O M ⟨l,D,i,z,B,p2.int,C,E,k _ A H (aW.refl r) L⟩ R
  | _=>cases e
 | tuple p=>
  cases S with
  | int i=>
   have j:(match Zq.atI p i with | some d=>x8.ok d | none=>.bad)= .ok d:=e
   cases q:Zq.atI p i with
   | none=>rw[q] at j;cases j
   | some d0=>
    rw[q] at j;cases j;obtain ⟨l,D,B,C,J⟩:=P.tuple r;obtain ⟨z,E,L⟩:=J.atI q;exact acd Y Z o s U H x y v u Q I O M ⟨l,D,i,z,B,p2.int,C,E,k _ A H (aW.refl r) L⟩ R
  | _=>cases e
 | _=>cases e
theorem Yg(Z:QE X a (tP X.K O m1))(Y:QE X b (tP X.K O m2))(hs:lA b):QE X (.Subscript a b pos) (tE X.K O (ao xt m1 m2)):=QE.imp (Dl Hs Z.h Y.h hs) λ_ _ _=>xK
noncomputable def evs:List ME->Ev->x8 B4
 | [],_=>.ok []
 | m::ms,Γ=>(m Γ).bind λd=>(evs ms Γ).bind λds=>.ok (d::ds)
theorem qe:∀{ms:List ME}{Γ:Ev}{ds:B4},evs ms Γ = .ok ds->ds.length=ms.length
 | [],_,_,h=>by cases h;rfl
 | m::ms,Γ,ds,h=>by
  obtain ⟨d,_,h⟩:=x8.au h;obtain ⟨r,e,h⟩:=x8.au h;cases h;rw[a6,a6,qe e]
def tAi(K:av)(O:B9)(ms:List ME):TA:=λσ H Q=>∃A B Γ ds,aY K A B H O σ Γ/\evs ms Γ = .ok ds/\∀vs A' H',aW A H A' H'->az K A' ds vs->Q vs H'
def Ar(K:av)(A H:Hp):Fl->ab->V->Prop
 | .xo,d,v=>Rp K A d v
 | _,d,v=>Pk K A H d v
def pJ(K:av)(A H:Hp):B9->B4->C0->Prop
 | [],ds,vs=>ds=[]/\vs=[]
 | f::fs,ds,vs=>∃d r v s,ds=d::r/\vs=v::s/\Ar K A H f d v/\pJ K A H fs r s
def tAr(K:av)(O:B9)(fs:B9)(ms:List ME):TA:=λσ H Q=>∃A B Γ ds,aY K A B H O σ Γ/\evs ms Γ = .ok ds/\∀vs A' H',aW A H A' H'->pJ K A' H' fs ds vs->Q vs H'
variable {ms:List ME}
section
variable      {fs:B9}
theorem aH:QA X [] (tAi K O []):=QA.imp eG λe H Q Y=>by
 obtain ⟨A,B,i,Z,r,em,k⟩:=Y;cases em;exact k [] A H (aW.refl r.a) (az.nil.mpr rfl)
theorem aC(C:QE X e (tE K O m))(D:QA X es (tAi K O ms))(hs:xB e=true:=by rfl):QA X (e::es) (tAi K O (m::ms)):=QA.imp (bV C.h D.h (cR hs)) λJ H Q Y=>by
 obtain ⟨A,B,o,I,r,em,k⟩:=Y;obtain ⟨d,p,em⟩:=x8.au em;obtain ⟨Z,u,em⟩:=x8.au em;cases em;exact ⟨A,B,o,d,r,p,λv E L i s=>⟨E,B,o,Z,r.grow i,u,λl z q j p2=>k (v::l) z q (i.trans j) (az.cons.mpr ⟨v,l,rfl,Rp.mono j.aa d s,p2⟩)⟩⟩
theorem aA:QA X [] (tAr K O [] []):=QA.imp eG λe H Q Y=>by
 obtain ⟨A,B,i,Z,r,em,k⟩:=Y;cases em;exact k [] A H (aW.refl r.a) ⟨rfl,rfl⟩
theorem eX(C:QE X e (tE K O m))(D:QA X es (tAr K O fs ms))(hs:xB e=true:=by rfl):QA X (e::es) (tAr K O (.xo::fs) (m::ms)):=QA.imp (bV C.h D.h (cR hs)) λJ H Q Y=>by
 obtain ⟨A,B,o,I,r,em,k⟩:=Y;obtain ⟨d,p,em⟩:=x8.au em;obtain ⟨Z,u,em⟩:=x8.au em;cases em;exact ⟨A,B,o,d,r,p,λv E L i s=>⟨E,B,o,Z,r.grow i,u,λl z q j p2=>k (v::l) z q (i.trans j) ⟨d,Z,v,l,rfl,rfl,Rp.mono j.aa d s,p2⟩⟩⟩
theorem bw(C:QE X e (tP K O m))(D:QA X es (tAr K O fs ms))(hs:xB e=true:=by rfl):QA X (e::es) (tAr K O (.xl::fs) (m::ms)):=QA.imp (bV C.h D.h (cR hs)) λJ H Q Y=>by
 obtain ⟨A,B,o,I,r,em,k⟩:=Y;obtain ⟨d,p,em⟩:=x8.au em;obtain ⟨Z,u,em⟩:=x8.au em;cases em;exact ⟨A,B,o,d,r,p,λv E L j s=>⟨E,B,o,Z,r.grow j,u,λl z q i p2=>k (v::l) z q (j.trans i) ⟨d,Z,v,l,rfl,rfl,s.mono i.aa i.hh,p2⟩⟩⟩
noncomputable def bK(ms:List ME):ME:=λΓ=>(evs ms Γ).bind λds=>.ok (.tuple ds)
noncomputable def bR(ms:List ME):ME:=λΓ=>(evs ms Γ).bind λds=>.ok (.list ds)
theorem bA{x1}(h:QA X es (tAi K O ms))(q:ms.length<=ba:=by first | decide | exact of_decide_eq_true rfl):QE X (.Tuple es x1 pos) (tE K O (bK ms)):=QE.imp (aci h.h) λv H Q Y=>by
 obtain ⟨A,B,u,d,r,em,k⟩:=Y;obtain ⟨l,Z,em⟩:=x8.au em;cases em;refine ⟨A,B,u,l,r,Z,λj C z e i=>⟨by rw[<- i.length,qe Z];exact q,λp s=>?_⟩⟩;have g:=aW.new (o:=.tup j) e.ah s;exact k _ _ _ (e.trans g) (Rp.tuple.mpr ⟨p,j,rfl,SqT.of aX,az.mono g.aa l i⟩)
theorem bC(h:QA X es (tAi K O ms))(o:ms.length<=ba:=by first | decide | exact of_decide_eq_true rfl):QE X (.List es pos) (tF K O (bR ms)):=QE.imp (acs h.h) λu H Q Y=>by
 obtain ⟨A,B,s,d,r,em,k⟩:=Y;obtain ⟨l,i,em⟩:=x8.au em;cases em;refine ⟨A,B,s,l,r,i,λq z v Z j=>⟨by rw[<- j.length,qe i];exact o,λp e=>?_⟩⟩;exact k _ _ _ (Z.trans (aW.lay Z.ah e)) ⟨p,_,rfl,Z.hh.free e,aX,Z.ah.free e,.inl ⟨l,q,rfl,rfl,j⟩⟩
noncomputable def jy:List (Str×ME)->ME
 | []=>λ_=>.ok (.dict [])
 | (x,m)::r=>λΓ=>(m Γ).bind λd=>(jy r Γ).bind λe=>match e with
  | .dict ds=>.ok (.dict ((.str x,d)::ds))
  | _=>.bad
theorem qQ:QE X (.Dict [] [] pos) (tF K O (jy [])):=QE.imp VL λe H Q Y=>by
 obtain ⟨A,B,i,d,r,em,k⟩:=Y;cases em;intro p Z;exact k _ _ _ (aW.lay r.a Z) ⟨p,_,rfl,Z,aX,r.a.free Z,.inr ⟨_,_,rfl,rfl,bj.nil.mpr rfl⟩⟩
theorem Yx{i:UnaryOp}{f:C9}{r:V->Hp->VK->Prop}(q:UnR X (unaryOp i) r)(l:∀A H Y d x (Q:VK),f Y= .ok d->aF A H->Pk K A H Y x->(∀v A' H',aW A H A' H'->Rp K A' d v->Q v H')->r x H Q)
 (s:QE X a (tP K O m)):QE X (.UnaryOp i a pos) (tE K O (eUn f m)):=QE.imp (aeC q s.h) λD H Q Z=>by
 obtain ⟨A,B,z,d,r,em,k⟩:=Z;obtain ⟨Y,j,em⟩:=x8.au em;exact ⟨A,B,z,Y,r,j,λv C u e o=>l C u Y d v Q em e.ah o λv A' H' g p=>k v A' H' (e.trans g) p⟩
theorem Tt(Z:QE X a (tP K O m)):QE X (.UnaryOp .USub a pos) (tE K O (eUn Jd m)):=Yx ab8 (λA H j d x Q e Y p k=>by
 cases j with
 | int i=>cases e;exact ⟨i,p.int,k _ A H (aW.refl Y) (Rp.int.mpr rfl)⟩
 | _=>cases e) Z
noncomputable def eFn(f:B4->x8 ab)(ms:List ME):ME:=λΓ=>(evs ms Γ).bind f
def p7(K:av)(A H:Hp)(ds:B4)(vs:C0):Prop:=pJ K A H (ds.map λ_=>.xl) ds vs
def rC(K:av)(f:B4->x8 ab):C0->Hp->VK->Prop:=λvs H Q=>∃A ds d,f ds= .ok d/\aF A H/\p7 K A H ds vs/\∀v A' H',aW A H A' H'->Rp K A' d v->Q v H'
def rCF(K:av)(f:B4->x8 ab):C0->Hp->VK->Prop:=λvs H Q=>∃A ds d,f ds= .ok d/\aF A H/\p7 K A H ds vs/\∀v A' H',aW A H A' H'->wX K H A' H' d v->Q v H'
noncomputable def rH(ms:List ME):B9:=ms.map λ_=>.xl
theorem Rx(h:evs ms Γ = .ok ds):rH ms=ds.map λ_=>.xl:=by
 have e:=qe h;rw[rH,List.map_const',List.map_const',e]
theorem Yq{f:B4->x8 ab}{Q:VK}(h:tE K O (eFn f ms) σ H Q):tCB (rC K f) (tAr K O (rH ms) ms) σ H Q:=by
 obtain ⟨A,B,o,d,r,em,k⟩:=h;obtain ⟨e,Y,em⟩:=x8.au em;refine ⟨A,B,o,e,r,Y,λs q u Z i=>⟨q,e,d,em,Z.ah,by rw[p7,<- Rx Y];exact i,λv l j g p=>k v l j (Z.trans g) p⟩⟩
theorem ad3{f:B4->x8 ab}{Q:VK}(h:tF K O (eFn f ms) σ H Q):tCB (rCF K f) (tAr K O (rH ms) ms) σ H Q:=by
 obtain ⟨A,B,C,d,r,em,k⟩:=h;obtain ⟨i,Z,em⟩:=x8.au em;refine ⟨A,B,C,i,r,Z,λE D I Y j=>⟨D,i,d,em,Y.ah,by rw[p7,<- Rx Z];exact j,λv s l g p=>k v s l (Y.trans g) ?_⟩⟩;obtain ⟨q,o,e,z,u⟩:=p;exact ⟨q,o,e,Y.hh.free z,u⟩
variable  {p:Pos}{id:String}{f:B4->x8 ab}
theorem b7(r:fJ X (.builtin id) (rC K f))(l:Gl X x)(j:X.mg x=none)(i:eh x=some (.builtin id))(o:QA X (e::es) (tAr K O (rH ms) ms))(q:x ≠ "__name__" := by decide)(Y:nD x:=by decide)
 (hs:xB e=true:=by rfl) (Z:jd es=true:=by rfl):QE X (.Call (.Name x p) (e::es) [] pos) (tE K O (eFn f ms)):=QE.imp (Kc r l j i o.h q Y (cR hs) (jx Z)) λ_ _ _=>Yq
theorem fC(r:fJ X (.type id) (rC K f))(l:Gl X x)(j:X.mg x=none)(i:eh x=some (.type id))(o:QA X (e::es) (tAr K O (rH ms) ms))(q:x ≠ "__name__" := by decide)(Y:nD x:=by decide)
 (hs:xB e=true:=by rfl) (Z:jd es=true:=by rfl):QE X (.Call (.Name x p) (e::es) [] pos) (tE K O (eFn f ms)):=QE.imp (sY r l j i o.h q Y (cR hs) (jx Z)) λ_ _ _=>Yq
theorem t8(r:fJ X (.type id) (rCF K f))(l:Gl X x)(j:X.mg x=none)(i:eh x=some (.type id))(o:QA X (e::es) (tAr K O (rH ms) ms))(q:x ≠ "__name__" := by decide)(Y:nD x:=by decide)
 (hs:xB e=true:=by rfl) (Z:jd es=true:=by rfl):QE X (.Call (.Name x p) (e::es) [] pos) (tF K O (eFn f ms)):=QE.imp (sY r l j i o.h q Y (cR hs) (jx Z)) λ_ _ _=>ad3
end
theorem p7.nil(h:p7 K A H [] vs):vs=[]:=h.2
theorem p7.cons{K:av}{A H:Hp}{d:ab}{ds:B4}{Y:C0}(h:p7 K A H (d::ds) Y):∃v r,Y=v::r/\Pk K A H d v/\p7 K A H ds r:=by
 obtain ⟨l,o,v,s,Z,j,i,e⟩:=h;cases Z;exact ⟨v,s,j,i,e⟩
noncomputable def fG:B4->x8 ab
 | [.list ds]=>.ok (.int ds.length)
 | [.tuple ds]=>.ok (.int ds.length)
 | [.str x]=>gd (x.length<=ba) (.ok (.int x.length))
 | _=>.bad
noncomputable def BW:B4->x8 ab
 | [.list ds]=>.ok (.list ds)
 | [.tuple ds]=>.ok (.list ds)
 | _=>.bad
noncomputable def gw:B4->x8 ab
 | [.list ds]=>.ok (.tuple ds)
 | [.tuple ds]=>.ok (.tuple ds)
 | _=>.bad
noncomputable def minD:B4->x8 ab
 | [.int i,.int j]=>.ok (.int (if j<i then j else i))
 | _=>.bad
theorem fW:fJ X (.builtin "len") (rC X.K fG):=by
 rintro Y s u H E j Q I r ⟨A,D,d,e,i,p,k⟩
 match D,e with
 | [.list es],e=>
  cases e;obtain ⟨v,B,rfl,Z,p2⟩:=p.cons;obtain rfl:=p2.nil;obtain ⟨l,q,rfl,o,z⟩:=Z.list i;exact yo Y s u H _ j Q I r ⟨l,q,rfl,.inl o,by rw[<- z.length];exact k _ A H (aW.refl i) (Rp.int.mpr rfl)⟩
 | [.tuple es],e=>
  cases e;obtain ⟨v,B,rfl,Z,p2⟩:=p.cons;obtain rfl:=p2.nil;obtain ⟨l,q,rfl,o,z⟩:=Z.tuple i;exact yo Y s u H _ j Q I r ⟨l,q,rfl,.inr o,by rw[<- z.length];exact k _ A H (aW.refl i) (Rp.int.mpr rfl)⟩
 | [.str x],e=>
  obtain ⟨C,e⟩:=b8 e;cases e;obtain ⟨v,B,rfl,Z,p2⟩:=p.cons;obtain rfl:=p2.nil;exact Ih Y s u H _ j Q I r ⟨x,by rw[Z.str],C,k _ A H (aW.refl i) (Rp.int.mpr rfl)⟩
theorem Es:fJ X (.type "list") (rCF X.K BW):=by
 rintro Y s C H J B Q I r ⟨A,E,d,e,i,p,k⟩
 match E,e with
 | [.list es],e=>
  cases e;obtain ⟨v,D,rfl,j,p2⟩:=p.cons;obtain rfl:=p2.nil;obtain ⟨l,u,rfl,o,z⟩:=j.list i;exact xr Y s C H _ B Q I r ⟨l,u,rfl,.inl o,λq Z=>k _ A _ (aW.lay i Z) ⟨q,_,rfl,Z,aX,i.free Z,.inl ⟨_,_,rfl,rfl,z⟩⟩⟩
 | [.tuple es],e=>
  cases e;obtain ⟨v,D,rfl,j,p2⟩:=p.cons;obtain rfl:=p2.nil;obtain ⟨l,u,rfl,o,z⟩:=j.tuple i;exact xr Y s C H _ B Q I r ⟨l,u,rfl,.inr o,λq Z=>k _ A _ (aW.lay i Z) ⟨q,_,rfl,Z,aX,i.free Z,.inl ⟨_,_,rfl,rfl,z⟩⟩⟩
theorem gr:fJ X (.type "tuple") (rC X.K gw):=by
 rintro Y s D H O C Q I r ⟨A,M,d,e,j,p,k⟩
 match M,e with
 | [.list es],e=>
  cases e;obtain ⟨v,J,rfl,i,p2⟩:=p.cons;obtain rfl:=p2.nil;obtain ⟨l,Z,rfl,u,E⟩:=i.list j;exact wF Y s D H _ C Q I r ⟨l,Z,rfl,.inl ⟨u,λq L=>by
   have g:=aW.new (o:=.tup Z) j L;exact k _ _ _ g (Rp.tuple.mpr ⟨q,Z,rfl,SqT.of aX,az.mono g.aa _ E⟩)⟩⟩
 | [.tuple es],e=>
  cases e;obtain ⟨v,J,rfl,i,p2⟩:=p.cons;obtain rfl:=p2.nil;have B:=i.lN (λ_ z=>nomatch z) (λ_ z=>nomatch z);obtain ⟨l,Z,rfl,u,E⟩:=i.tuple j;exact wF Y s D H _ C Q I r ⟨l,Z,rfl,.inr ⟨u,k _ A H (aW.refl j) B⟩⟩
theorem adi(D:X.calm=true):fJ X (.builtin "min") (rC X.K minD):=by
 rintro Y s z H J q Q I r ⟨A,u,d,e,B,p,k⟩
 match u,e with
 | [.int i,.int j],e=>
  cases e;obtain ⟨v,l,rfl,o,C⟩:=p.cons;obtain ⟨E,l,rfl,p2,Z⟩:=C.cons;obtain rfl:=Z.nil;exact Tw D Y s z H _ q Q I r ⟨i,j,by rw[o.int,p2.int],k _ A H (aW.refl B) (Rp.int.mpr rfl)⟩
noncomputable def tyN:ab->String
 | .none => "NoneType"
 | .bool _ => "bool"
 | .int _ => "int"
 | .str _ => "str"
 | .list _ => "list"
 | .tuple _ => "tuple"
 | .dict _ => "dict"
noncomputable def fX(T:String)(d:ab):Bool:=tyN d == T||(T == "int" && tyN d == "bool")
noncomputable def Ei(T:String)(a:ME):ME:=λΓ=>(a Γ).bind λd=>.ok (.bool (fX T d))
variable {T:String}
theorem Bd(t:String):mM K (.type t) (.type t)=some true:=by rw[mM,if_pos (by simp)]
theorem Ju{t:String}{b:Bool}(Y:(ke t == ke T)=false)(h:(if PySem.W.kitMeta T=true then (fastBuiltinMro t).map (·.contains (ke T)) else none)=some b):mM K (.type t) (.type T)=some b:=by
 unfold mM PySem.W.kitCls;rw[if_neg (by rw[Y];exact dV)];exact h
def Ez(K:av)(T:String):Prop:=∀d:ab,mM K (.type (tyN d)) (.type T)=some (fX T d)
theorem Jm(h:∀t∈["NoneType", "bool", "int", "str", "list", "tuple", "dict"],mM K (.type t) (.type T)=some (t == T||(T == "int" && t == "bool"))):Ez K T:=λd=>h (tyN d) (by cases d <;> simp[tyN])
theorem aaF:Ez K "int" := Jm λt h=>by
 simp only[bE,l5,or_false] at h;rcases h with rfl | rfl | rfl | rfl | rfl | rfl | rfl <;> first | exact (Bd _).trans (by decide +kernel) | exact Ju (by decide +kernel) (by decide +kernel)
theorem Vs:Ez K "bool" := Jm λt h=>by
 simp only[bE,l5,or_false] at h;rcases h with rfl | rfl | rfl | rfl | rfl | rfl | rfl <;> first | exact (Bd _).trans (by decide +kernel) | exact Ju (by decide +kernel) (by decide +kernel)
theorem Gg:Ez K "tuple" := Jm λt h=>by
 simp only[bE,l5,or_false] at h;rcases h with rfl | rfl | rfl | rfl | rfl | rfl | rfl <;> first | exact (Bd _).trans (by decide +kernel) | exact Ju (by decide +kernel) (by decide +kernel)
section
variable     {p:Pos}
def aef(K:av)(T:String):C0->Hp->VK->Prop:=λxs H Q=>∃x A d,xs=[x,.ty T]/\aF A H/\Pk K A H d x/\Q (.bl (fX T d)) H
theorem ado(hT:Ez X.K T):fJ X (.builtin "isinstance") (aef X.K T):=by
 rintro B s O H S R Q I r ⟨x,A,d,rfl,E,Z,q⟩;obtain ⟨u,c,rfl,Y,M⟩:=xi.two r;cases M;have fin:∀J,EP X B O Q (.bool (fX T d)) { s with toks:=J }:=λJ=>⟨.bl _,H,I.tok J,rfl,q⟩;have e:=hT d
 cases d with
 | none=>rw[Z.none] at Y;cases Y;exact k7 PySem.W.kitx_none I.kIn ia e (λz=>nomatch z) fin
 | bool y=>rw[Z.bool] at Y;cases Y;exact k7 PySem.W.kitx_bool I.kIn ia e (λz=>nomatch z) fin
 | int i=>rw[Z.int] at Y;obtain ⟨t,rfl⟩:=Y;exact k7 PySem.W.kitx_int I.kIn ia e (λz=>nomatch z) fin
 | str y=>rw[Z.str] at Y;obtain ⟨t,rfl⟩:=Y;exact k7 PySem.W.kitx_str I.kIn ia e (λz=>nomatch z) fin
 | list L=>
  obtain ⟨l,vs,rfl,p,P⟩:=Z.list E;cases Y;obtain ⟨D,_,pl,_⟩:=I.list p;obtain ⟨o,v,j,_⟩:=pl.isList;exact k7 PySem.W.kitx_list I.kIn ⟨o,v,j⟩ e (λz=>nomatch z) fin
 | tuple L=>
  obtain ⟨l,vs,rfl,p,P⟩:=Z.tuple E;cases Y;obtain ⟨D,_,⟨o,v,j,_⟩,_⟩:=I.tuple p;exact k7 PySem.W.kitx_tuple I.kIn ⟨o,v,j⟩ e (λz=>nomatch z) fin
 | dict L=>
  obtain ⟨l,C,rfl,p,_⟩:=Z.dict E;cases Y;obtain ⟨_,_,vs,_,hd⟩:C.length<=ba/\(l == fb)=false/\∃vs,KV C vs/\s.heap.DictOf (bZ X.prog X.w) l vs:=qG I.xw p;obtain ⟨o,_,_,v,j,_⟩:=hd;exact k7 PySem.W.kitx_dict I.kIn ⟨o,v,j.1⟩ e (λz=>nomatch z) fin
theorem CJ(hT:Ez X.K T)(q:Gl X "isinstance")(C:X.mg "isinstance"= none)(D:QE X a (tP X.K O m))(u:PE X b (tC (.ty T)))
 (j:dc (a::[b]) X.env=(false,eval a X.env)::dc [b] X.env:=by rfl) (z:dc [b] X.env=(false,eval b X.env)::dc [] X.env:=by rfl) (Z:(lS pos (dc [b] X.env)).any (·.1)=false:=by rfl) :
 QE X (.Call (.Name "isinstance" p) [a,b] [] pos) (tE X.K O (Ei T m)):=
 QE.imp (Kc (ado hT) q C (show eh "isinstance"= some (.builtin "isinstance") by decide +kernel) (bV D.h (bV u eG z) j) (by decide) (by decide) j Z) λJ H Q Y=>by
  obtain ⟨A,B,I,d,r,em,k⟩:=Y;obtain ⟨e,o,em⟩:=x8.au em;cases em;exact ⟨A,B,I,e,r,o,λv l E i s=>⟨v,l,e,rfl,i.ah,s,k _ l E i (Rp.bool.mpr rfl)⟩⟩
theorem Hq(i:Gl X x)(Z:X.mg x=none)(Y:eh x=some (.type T))(e:x ≠ "__name__" := by decide)(hd:nD x:=by decide):PE X (.Name x pos) (tC (.ty T)):=
 aaC i Z Y rfl e hd
end
noncomputable def cutD(xs:B4)(lo hi:C3):B4:=(xs.drop (HT.sIx xs.length 0 lo)).take (HT.sIx xs.length xs.length hi - HT.sIx xs.length 0 lo)
def MO:=Ev->x8 C3
noncomputable def Qh:MO:=λ_=>.ok none
noncomputable def Qo(m:ME):MO:=λΓ=>(m Γ).bind λd=>match d with
 | .int i=>.ok (some i)
 | _=>.bad
noncomputable def slD:ab->C3->C3->x8 ab
 | .list ds,lo,hi=>.ok (.list (cutD ds lo hi))
 | .tuple ds,lo,hi=>.ok (.tuple (cutD ds lo hi))
 | _,_,_=>.bad
noncomputable def eSl(a:ME)(lo hi:MO):ME:=λΓ=>(a Γ).bind λd=>(lo Γ).bind λl=>(hi Γ).bind λh=>slD d l h
def tO(K:av)(O:B9)(m:MO):TO:=λσ H Q=>∃A B Γ o,aY K A B H O σ Γ/\m Γ = .ok o/\∀A' H',aW A H A' H'->Q o H'
theorem PO.imp{e:Option Expr}{t t':TO}(h:PO X e t)(i:∀σ H Q,t' σ H Q->t σ H Q):PO X e t':=λY s σ H Q I q=>h Y s σ H Q I (i σ H Q q)
theorem QO.imp{e:Option Expr}{t t':TO}(h:PO X e t)(i:∀σ H Q,t' σ H Q->t σ H Q):QO X e t':=⟨PO.imp h i⟩
variable {prog:fq}{w:i8}{E Q:B2}{s:cq}{hi:C3}
section
variable    {lo hi:Option Expr}{ml mh:MO}  {p p2:Pos}
theorem ZL:QO X none (tO X.K O Qh):=QO.imp Y8 λZ H Q Y=>by obtain ⟨A,B,e,o,r,em,k⟩:=Y;cases em;exact k A H (aW.refl r.a)
theorem ZD(h:QE X e (tP X.K O m)):QO X (some e) (tO X.K O (Qo m)):=QO.imp (aaB h.h) λu H Q Y=>by
 obtain ⟨A,B,p,o,r,em,k⟩:=Y;obtain ⟨d,Z,em⟩:=x8.au em
 cases d with
 | int i=>cases em;exact ⟨A,B,p,_,r,Z,λv s q j l=>⟨i,l.int,k s q j⟩⟩
 | _=>cases em
section
variable   {A:g9}
open HT in
theorem zL{t sl:Addr}{items:Array a0}{vl vu:a0}{lo hi:C3}(ht:vv s.heap t items)(hs:s.heap.IsSliceOf sl vl vu .none)(pl:u7 vl lo)(pu:u7 vu hi)
 (hw:sIx items.size 0 lo=0/\sIx items.size items.size hi=items.size) (h:Q (.ref t) s):de (dt prog w) A (nL (.ref t) (.ref sl)) Q E s:=by
 obtain ⟨os,hos,hcs,hds⟩:=id hs;have hTs:s.TypeIs (.ref sl) "slice" := ⟨os,hos,hcs⟩;unfold nL
 try with_reducible refine kF ?_
 first | refine ag (a9 ?_) | skip
 refine ag (sj ht.typeIs (by decide) ?_);refine ag (fh ht.typeIs eM
  (fi eM ht.typeIs entry_tuple_getitem ?_ (args_tuple_getitem _ _)))
 show de _ _ (mE (.ref t) >>= _) _ _ s;refine ag (tupleItemsOf_ ht (ag (va hTs ?_)));rw[if_pos (by decide)];refine ag (rN hs pl pu ?_);show de _ _ (if (((sIx items.size 0 lo:Nat):Int) == 0&&(1:Int) == 1&&(sIx items.size items.size hi - sIx items.size 0 lo) == items.size)=true then _ else _) _ _ s;rw[hw.1,hw.2,if_pos (by simp)];refine ag (ag (va ht.typeIs (a9 ?_)));rw[if_pos (by decide)];exact ag (r9 (a9 ⟨_,rfl,a9 h⟩))
end
def adU(K:av):V->C3->C3->Hp->VK->Prop:=λx lo hi H Q=>∃a xs,x= .ref a/\SqT K H a xs /\
 (HT.sIx xs.length 0 lo=0/\HT.sIx xs.length xs.length hi=xs.length)/\Q (.ref a) H
theorem ZW:SlR X (adU X.K):=by
 rintro i s L H x v D B lo C E Q I j o pl l ⟨a,p,rfl,u,z,q⟩;cases j;obtain ⟨Z,r,e,J⟩:=I.tuple u;have Y:Z.toArray.size=p.length:=by rw[c8];exact r.length.symm
 refine ⟨"tuple",_,eM.lookup,e.typeIs,?_⟩;exact zL e o pl l (by rw[Y];exact z) ⟨.ref a,H,I,rfl,q⟩
theorem Xu{lo Y:C3}(h:HT.sIx ds.length 0 lo=0/\HT.sIx ds.length ds.length Y=ds.length):cutD ds lo Y=ds:=by
 rw[cutD,h.1,h.2,sg,Nat.sub_zero,dn]
def afq(K:av):V->C3->C3->Hp->VK->Prop:=λx lo hi H Q=>aba K x lo hi H Q\/adL K x lo hi H Q\/adU K x lo hi H Q
theorem ae0:SlR X (afq X.K):=by
 intro Y s q H x v j e lo i p Q I Z o pl l h;rcases h with h | h | h
 . exact Zt Y s q H x v j e lo i p Q I Z o pl l h
 . exact abX Y s q H x v j e lo i p Q I Z o pl l h
 . exact ZW Y s q H x v j e lo i p Q I Z o pl l h
theorem az.cut(h:az K A ds vs)(lo Y:C3):az K A (cutD ds lo Y) (wZ vs lo Y):=by
 unfold cutD wZ;rw[<- h.length];exact (h.drop _).take _
theorem aeH(U:QE X a (tP X.K O m))(hl:QO X lo (tO X.K O ml))(hh:QO X hi (tO X.K O mh)):QE X (.Subscript a (.Slice lo hi none p2) pos) (tE X.K O (eSl m ml mh)):=QE.imp (U6 ae0 U.h hl.h hh.h) λσ H Q e=>by
 obtain ⟨A,B,E,d,r,em,k⟩:=e;obtain ⟨L,M,em⟩:=x8.au em;obtain ⟨l,R,em⟩:=x8.au em;obtain ⟨h,P,em⟩:=x8.au em;refine ⟨A,B,E,L,r,M,λv A1 H1 D p1=>⟨A1,B,E,l,r.grow D,R,λS H2 s=>⟨S,B,E,h,(r.grow D).grow s,P,λA3 H3 Y=>?_⟩⟩⟩;have g:=(D.trans s).trans Y;have C:=p1.mono (s.trans Y).aa (s.trans Y).hh
 cases L with
 | list p=>
  cases em;obtain ⟨q,Z,rfl,u,i⟩:=C.list Y.ah;refine .inl ⟨q,Z,rfl,u,λt I=>?_⟩;have j:=aW.new (o:=.lst (wZ Z l h)) Y.ah I;exact k _ _ _ (g.trans j) (Rp.list.mpr ⟨t,_,rfl,SqL.of aX,az.mono j.aa _ (i.cut l h)⟩)
 | tuple p=>
  cases em;have rp:=C.lN (λ_ z=>nomatch z) (λ_ z=>nomatch z);obtain ⟨q,Z,rfl,u,i⟩:=C.tuple Y.ah
  by_cases J:HT.sIx p.length 0 l=0/\HT.sIx p.length p.length h=p.length
  . refine .inr (.inr ⟨q,Z,rfl,u,by rw[<- i.length];exact J,?_⟩);rw[Xu J] at k;exact k _ _ _ g rp
  refine .inr (.inl ⟨q,Z,rfl,u,by rw[<- i.length];exact J,λt I=>?_⟩);have j:=aW.new (o:=.tup (wZ Z l h)) Y.ah I;exact k _ _ _ (g.trans j) (Rp.tuple.mpr ⟨t,_,rfl,SqT.of aX,az.mono j.aa _ (i.cut l h)⟩)
 | _=>cases em
end
theorem bI{α:Type}{l:List α}{x d:α}(h:i<l.length):(l.set i x).getD i d=x:=by
 rw[ae,kB h];rfl
variable {j:Nat}
theorem aR{α:Type}{l:List α}{x d:α}(h:i≠j):(l.set i x).getD j d=l.getD j d:=by
 rw[ae,ae,mx h]
variable {p:Addr}{B:Hp}{o:HO}
section
variable       {d:ab}
theorem aY.set(r:aY K A B H O σ Γ)(C:i < Γ.length)(q:i<O.length)(p:Rp K A d v):aY K A B H (O.set i .xo) (σ.set i (some v)) (Γ.set i (some d)):=by
 have E:i < σ.length:=by rw[<- r.len];exact C
 refine ⟨r.a,r.b,by rw[eJ,eJ];exact r.len,λj=>?_,λj k u l Z s o=>?_⟩
 . by_cases Y:i=j
   . subst Y;unfold fl gv sv;rw[bI q,bI C,bI E];exact λI e=>⟨v,rfl,by cases e;exact p⟩
   . unfold fl gv sv;rw[aR Y,aR Y,aR Y];exact r.slot j
 . have Y:i≠j:=λz=>by subst z;unfold fl at l;rw[bI q] at l;cases l
   have D:i≠k:=λz=>by subst z;unfold fl at Z;rw[bI q] at Z;cases Z
   unfold fl at l Z;unfold gv at s o;rw[aR Y] at l s;rw[aR D] at Z o;unfold sv;rw[aR Y,aR D];exact r.sep j k u l Z s o
theorem aY.afj(r:aY K A B H O σ Γ)(E:i < Γ.length)(M:i<O.length)(L:H p=some o)(J:A p=none)(I:B p=none)(P:iU K A d o)
 (D:∀j,isO (fl O j)=true->gv Γ j≠none->sv σ j≠some (.ref p)):aY K A B H (O.set i .own) (σ.set i (some (.ref p))) (Γ.set i (some d)):=by
 have C:i < σ.length:=by rw[<- r.len];exact E
 refine ⟨r.a,r.b,by rw[eJ,eJ];exact r.len,λj=>?_,λj k s u q v l=>?_⟩
 . by_cases Y:i=j
   . subst Y;unfold fl gv sv;rw[bI M,bI E,bI C];exact λQ e=>⟨_,rfl,by cases e;exact ⟨p,o,rfl,L,J,I,P⟩⟩
   . unfold fl gv sv;rw[aR Y,aR Y,aR Y];exact r.slot j
 . unfold fl at u q;unfold gv at v l;unfold sv
   by_cases Y:i=j
   . subst Y;have Z:=s;rw[aR Z] at q l;rw[bI C,aR Z];exact λz=>D k q l z.symm
   . rw[aR Y] at u v;rw[aR Y]
     by_cases Z:i=k
     . subst Z;rw[bI C];exact D j u v
     . rw[aR Z] at q l;rw[aR Z];exact r.sep j k s u q v l
theorem aY.mV(r:aY K A B H O σ Γ)(Y:isO (fl O j)=true)(l:gv Γ j≠none):∃d p o,gv Γ j=some d/\sv σ j=some (.ref p)/\H p=some o/\A p=none/\B p=none/\iU K A d o:=by
 cases e:gv Γ j with
 | none=>exact absurd e l
 | some d=>
  obtain ⟨v,i,q⟩:=r.slot j d e
  cases Z:fl O j with
  | xo=>rw[Z] at Y;cases Y
  | xl=>rw[Z] at Y;cases Y
  | own=>
   rw[Z] at q;obtain ⟨p,o,rfl,q⟩:=q;exact ⟨d,p,o,rfl,i,q⟩
  | fix s=>
   rw[Z] at q;obtain ⟨_,p,o,rfl,q⟩:=q;exact ⟨d,p,o,rfl,i,q⟩
  | exc C=>rw[Z] at Y;cases Y
  | nst b=>rw[Z] at Y;cases Y
  | kit=>rw[Z] at Y;cases Y
theorem aY.fresh(r:aY K A B H O σ Γ)(g:aW A H A' H')(e:i < Γ.length)(Z:i<O.length)(h0:H p=none)(s:H' p=some o)(q:A' p=none)(l:iU K A' d o) :
 aY K A' B H' (O.set i .own) (σ.set i (some (.ref p))) (Γ.set i (some d)):=by
 refine (r.grow g).afj e Z s q (r.b.free h0) l λj C v z=>?_;obtain ⟨J,I,E,D,u,Y,_⟩:=r.mV C v;rw[u] at z;cases z;rw[h0] at Y;cases Y
theorem aY.freeze(r:aY K A B H O σ Γ)(hi:fl O i= .own)(hO:i<O.length):∃A',aF A A'/\New A A' B/\aY K A' B H (O.set i .xo) σ Γ:=by
 by_cases Q:gv Γ i=none
 . refine ⟨A,aF.refl _,λ_ h _=>h,r.a,r.b,r.len,λj=>?_,λj k J M S h3 U=>?_⟩
   . by_cases l:i=j
     . subst l;intro d e;rw[Q] at e;cases e
     . rw[fl,aR l];exact r.slot j
   . have l:i≠j:=λz=>by subst z;exact h3 Q
     have hk:i≠k:=λz=>by subst z;exact U Q
     unfold fl at M S;rw[aR l] at M;rw[aR hk] at S;exact r.sep j k J M S h3 U
 . have D:isO (fl O i)=true:=by rw[hi];rfl
   obtain ⟨d,p,o,e1,e2,M,S,h3,U⟩:=r.mV D Q;have s:=aF.new S o;refine ⟨xk A p o,s,λq n1 n2=>?_,λb u q=>?_,r.b,r.len,λj=>?_,λj k J R P q3 q4=>?_⟩
   . have hq:q≠p:=λz=>n2 (z ▸ h3);rw[aG hq];exact n1
   . by_cases hb:b=p
     . subst hb;rw[aX] at q;rw[M];exact q
     . rw[aG hb] at q;exact r.a b u q
   . by_cases l:i=j
     . subst l;rw[fl,bI hO];intro d' L;rw[e1] at L;cases L;refine ⟨_,e2,?_⟩;exact U.share s
     . rw[fl,aR l];intro d' L;obtain ⟨v',I,q⟩:=r.slot j d' L;refine ⟨v',I,?_⟩
       cases Y:fl O j with
       | xo=>rw[Y] at q;unfold fl at Y;rw[Y];exact Rp.mono s d' q
       | xl=>rw[Y] at q;unfold fl at Y;rw[Y];exact Pk.mono s (aF.refl _) q
       | own=>
        rw[Y] at q;have E:=Y;unfold fl at Y;rw[Y];obtain ⟨v,o',rfl,g1,g2,g3,g4⟩:=q;refine ⟨v,o',rfl,g1,?_,g3,g4.mono s⟩;have Z:v≠p:=λz=>by
         refine r.sep i j l D (by rw[E];rfl) Q (by rw[L];simp) ?_;rw[e2,I,z]
        rw[aG Z];exact g2
       | fix p0=>
        rw[Y] at q;have E:=Y;unfold fl at Y;rw[Y];obtain ⟨q0,v,o',rfl,g1,g2,g3,g4⟩:=q;refine ⟨q0,v,o',rfl,g1,?_,g3,g4.mono s⟩;have Z:v≠p:=λz=>by
         refine r.sep i j l D (by rw[E];rfl) Q (by rw[L];simp) ?_;rw[e2,I,z]
        rw[aG Z];exact g2
       | kit=>rw[Y] at q;unfold fl at Y;rw[Y];exact pX.mono s q
       | exc C=>
        rw[Y] at q;unfold fl at Y;rw[Y];obtain ⟨v,ob,w1,w2,w3⟩:=q;exact ⟨v,ob,w1,s _ _ w2,w3⟩
       | nst b=>
        rw[Y] at q;unfold fl at Y;rw[Y];intro z;obtain ⟨v,xs,x3,w1,w2,w3,w4,w5,w6⟩:=q z;refine ⟨v,xs,x3,w1,w2,w3,?_,w5,w6.mono s⟩;have Z:v≠p:=λz=>by subst z;rw[M] at w3;exact U.nx w3
        rw[aG Z];exact w4
   . have l:i≠j:=λz=>by subst z;unfold fl at R;rw[bI hO] at R;cases R
     have hk:i≠k:=λz=>by subst z;unfold fl at P;rw[bI hO] at P;cases P
     unfold fl at R P;rw[aR l] at R;rw[aR hk] at P;exact r.sep j k J R P q3 q4
theorem aY.change{o':HO}{d':ab}(r:aY K A B H O σ Γ)(Z:isO (fl O i)=true)(hl:i < Γ.length)(I:gv Γ i≠none)(hs:sv σ i=some (.ref p))(h1:H p=some o)(h4:iU K A d' o') :
 aY K A B (xk H p o') O σ (Γ.set i (some d')):=by
 obtain ⟨d,s,o0,e1,e2,g1,Q,R,g4⟩:=r.mV Z I;rw[hs] at e2;cases e2;refine ⟨λb u q=>?_,λb u q=>?_,by rw[eJ];exact r.len,λj=>?_,λj k hjk q1 q2 q3 q4=>?_⟩
 . have S:b≠p:=λz=>by rw[z,Q] at q;cases q
   rw[aG S];exact r.a b u q
 . have S:b≠p:=λz=>by rw[z,R] at q;cases q
   rw[aG S];exact r.b b u q
 . by_cases D:i=j
   . subst D;rw[gv,bI hl];intro E e;cases e;refine ⟨_,hs,?_⟩
     cases Y:fl O i with
     | xo=>rw[Y] at Z;cases Z
     | xl=>rw[Y] at Z;cases Z
     | own=>exact ⟨p,o',rfl,aX,Q,R,h4⟩
     | fix p0=>
      obtain ⟨v',ev,q⟩:=r.slot i d e1;rw[Y] at q;rw[hs] at ev;cases ev;exact ⟨q.1,p,o',rfl,aX,Q,R,h4⟩
     | exc C=>rw[Y] at Z;cases Z
     | nst b=>rw[Y] at Z;cases Z
     | kit=>rw[Y] at Z;cases Z
   . rw[gv,aR D];intro E v;obtain ⟨v',ev,q⟩:=r.slot j E v;refine ⟨v',ev,?_⟩
     cases Y:fl O j with
     | xo=>rwa [Y] at q
     | xl=>rwa [Y] at q
     | own=>
      rw[Y] at q;obtain ⟨s,o',rfl,J,u2,P,M⟩:=q;refine ⟨s,o',rfl,?_,u2,P,M⟩;have l:s≠p:=λz=>by
       refine r.sep i j D Z (by rw[Y];rfl) I (by rw[gv,v];simp) ?_;rw[hs,ev,z]
      rw[aG l];exact J
     | fix p0=>
      rw[Y] at q;obtain ⟨q0,s,o',rfl,J,u2,P,M⟩:=q;refine ⟨q0,s,o',rfl,?_,u2,P,M⟩;have l:s≠p:=λz=>by
       refine r.sep i j D Z (by rw[Y];rfl) I (by rw[gv,v];simp) ?_;rw[hs,ev,z]
      rw[aG l];exact J
     | kit=>rwa [Y] at q
     | exc C=>rwa [Y] at q
     | nst b=>
      rw[Y] at q;intro z;obtain ⟨s,xs,x3,w1,w2,U,w4,w5,w6⟩:=q z;have l:s≠p:=λz=>by subst z;rw[g1] at U;exact g4.nx U
      exact ⟨s,xs,x3,w1,w2,by rw[aG l];exact U,w4,w5,w6⟩
 . have h3:gv Γ j≠none:=by
    by_cases D:i=j
    . subst D;exact I
    . unfold gv at q3 ⊢;rwa [aR D] at q3
   have L:gv Γ k≠none:=by
    by_cases hk:i=k
    . subst hk;exact I
    . unfold gv at q4 ⊢;rwa [aR hk] at q4
   exact r.sep j k hjk q1 q2 h3 L
theorem aY.weak{Γ':Ev}(r:aY K A B H O σ Γ)(i:Γ'.length=Γ.length)(h:∀j,gv Γ' j=none\/gv Γ' j=gv Γ j):aY K A B H O σ Γ':=by
 have Z:∀j,gv Γ' j≠none->gv Γ j≠none:=λj n=>by
  rcases h j with z | z
  . exact absurd z n
  . rw[<- z];exact n
 refine ⟨r.a,r.b,i.trans r.len,λj d e=>?_,λj k Y p o q l=>r.sep j k Y p o (Z j q) (Z k l)⟩;rcases h j with z | z
 . rw[z] at e;cases e
 . rw[z] at e;exact r.slot j d e
end
noncomputable def clr(l:B5)(Γ:Ev):Ev:=l.foldl (λΓ i=>Γ.set i none) Γ
theorem Bp:∀(l:B5) (Γ:Ev),(clr l Γ).length=Γ.length/\∀j,gv (clr l Γ) j=none\/gv (clr l Γ) j=gv Γ j
 | [],Γ=>⟨rfl,λ_=>.inr rfl⟩
 | i::l,Γ=>by
  obtain ⟨Z,e⟩:=Bp l (Γ.set i none);refine ⟨Z.trans (eJ ..),λj=>?_⟩;rcases e j with z | z
  . exact .inl z
  . by_cases Y:i=j
    . subst Y;left;show gv (clr l (Γ.set i none)) i=none;rw[z];rw[gv,ae]
      by_cases o:i < Γ.length
      . rw[kB o];rfl
      . rw[eg (by rw[eJ];lia)];rfl
    . right;show gv (clr l (Γ.set i none)) j=gv Γ j;rw[z];exact aR Y
theorem aY.clr(r:aY K A B H O σ Γ)(l:B5):aY K A B H O σ (Zq.clr l Γ):=r.weak (Bp l Γ).1 (Bp l Γ).2
inductive Rm where
 | f | t | m (p:Addr)
def Xw(K:av)(rm:Rm)(B A' H':Hp)(d:ab)(v:V):Prop:=match rm with
 | .f=>Rp K A' d v
 | .t=>wX K B A' H' d v
 | .m p=>∃d1 dm o,d= .tuple [d1,dm]/\Rp K A' d1 v/\H' p=some o/\A' p=none/\iU K A' dm o
def tH(K:av)(rm:Rm)(Ol O':B9)(A B:Hp)(D:Ends):Out->Prop
 | .nx Γ'=>∀σ' A' H',aY K A' B H' O' σ' Γ'->aF A A'->New A A' B->D.nx σ' H'
 | .bk Γ'=>∀σ' A' H',aY K A' B H' Ol σ' Γ'->aF A A'->New A A' B->D.bk σ' H'
 | .ct Γ'=>∀σ' A' H',aY K A' B H' Ol σ' Γ'->aF A A'->New A A' B->D.ct σ' H'
 | .rt d=>∀v A' H',aF A' H'->aF B H'->aF A A'->New A A' B->Xw K rm B A' H' d v->D.rt v H'
def tS(K:av)(rm:Rm)(Ol O O':B9)(m:MS):TS:=λD σ H=>∃A B Γ o,aY K A B H O σ Γ/\m Γ = .ok o/\tH K rm Ol O' A B D o
variable {rm:Rm}{Ol O':B9}
section
variable    {A1 H1:Hp}{D:Ends}{o:Out}
theorem tH.sub(i:aF A A1)(nw:New A A1 B)(h:tH K rm Ol O' A B D o):tH K rm Ol O' A1 B D o:=by
 cases o with
 | nx j=>exact λY e Z r s n=>h Y e Z r (i.trans s) (nw.trans n)
 | bk j=>exact λY e Z r s n=>h Y e Z r (i.trans s) (nw.trans n)
 | ct j=>exact λY e Z r s n=>h Y e Z r (i.trans s) (nw.trans n)
 | rt d=>exact λv e Z l p s n=>h v e Z l p (i.trans s) (nw.trans n)
theorem aW.nB(g:aW A H A1 H1)(b:aF B H):New A A1 B:=g.nw.mono b
end
noncomputable def cu:MS:=λΓ=>.ok (.nx Γ)
noncomputable def aJ(a b:MS):MS:=λΓ=>(a Γ).bind λo=>match o with
 | .nx Γ'=>b Γ'
 | .rt d=>.ok (.rt d)
 | .bk Γ'=>.ok (.bk Γ')
 | .ct Γ'=>.ok (.ct Γ')
noncomputable def aZ(i:Nat)(m:ME):MS:=λΓ=>(m Γ).bind λd=>gd (i < Γ.length) (.ok (.nx (Γ.set i (some d))))
noncomputable def sIf(c:ME)(a b:MS):MS:=λΓ=>(c Γ).bind λx=>match x with
 | .bool true=>a Γ
 | .bool false=>b Γ
 | _=>.bad
noncomputable def bz(m:ME):MS:=λΓ=>(m Γ).bind λd=>.ok (.rt d)
noncomputable def sEx(m:ME):MS:=λΓ=>(m Γ).bind λ_=>.ok (.nx Γ)
noncomputable def DW:MS:=λ_=>.bad
variable {O1 O2:B9}{pos':Pos}
section
variable      {m1 m2:MS}  {st:Stmt}{rest a b:C5}
theorem bO:QSs X [] (tS K rm Ol O O cu):=QSs.imp Z5 λD Z H Y=>by
 obtain ⟨A,B,e,o,r,em,k⟩:=Y;cases em;exact k Z A H r (aF.refl _) λ_ h _=>h
theorem bL(v:QS X st (tS K rm Ol O O1 m1))(u:QSs X rest (tS K rm Ol O1 O2 m2)):QSs X (st::rest) (tS K rm Ol O O2 (aJ m1 m2)):=QSs.imp (Wk v.h u.h) λD C H Y=>by
 obtain ⟨A,B,e,o,r,em,k⟩:=Y;obtain ⟨q,Z,em⟩:=x8.au em
 cases q with
 | nx i=>exact ⟨A,B,e,_,r,Z,λs p z l j nw=>⟨p,B,i,o,l,em,k.sub j nw⟩⟩
 | rt d=>cases em;exact ⟨A,B,e,_,r,Z,k⟩
 | bk d=>cases em;exact ⟨A,B,e,_,r,Z,k⟩
 | ct d=>cases em;exact ⟨A,B,e,_,r,Z,k⟩
theorem aB(Y:QS X st (tS K rm Ol O O1 m1)):QSs X [st] (tS K rm Ol O O1 m1):=⟨YM Y.h⟩
theorem RJ(i:Nat)(h:QS X st (tS K rm Ol O2 O' m1))(e:O.set i .xo=O2:=by rfl)(j:fl O i= .own:=by rfl)(Z:i<O.length:=by exact of_decide_eq_true rfl):QS X st (tS K rm Ol O O' m1):=QS.imp (e ▸ h.h) λD u H Y=>by
 obtain ⟨A,B,s,o,r,em,k⟩:=Y;obtain ⟨q,l,nw,p⟩:=r.freeze j Z;exact ⟨q,B,s,o,p,em,k.sub l nw⟩
theorem WR{Z:TE}(h:∀Y H Q,tE K O m Y H Q->Z Y H Q)(j:i<O.length){D:Ends}{Y:St}{H:Hp}(q:tS K rm Ol O (O.set i .xo) (aZ i m) D Y H):PQ Z (BZ i) D Y H:=by
 obtain ⟨A,B,z,o,r,em,k⟩:=q;obtain ⟨d,e,em⟩:=x8.au em;obtain ⟨l,em⟩:=b8 em;cases em;refine h Y H _ ⟨A,B,z,d,r,e,λv u s g p=>?_⟩;exact k _ u s ((r.grow g).set l j p) g.aa (g.nB r.b)
theorem xx{Z:TE}(h:∀Y H Q,tF K O m Y H Q->Z Y H Q)(j:i<O.length){D:Ends}{Y:St}{H:Hp}(q:tS K rm Ol O (O.set i .own) (aZ i m) D Y H):PQ Z (BZ i) D Y H:=by
 obtain ⟨A,B,J,o,r,em,k⟩:=q;obtain ⟨d,e,em⟩:=x8.au em;obtain ⟨l,em⟩:=b8 em;cases em;refine h Y H _ ⟨A,B,J,d,r,e,λv z u g p=>?_⟩;obtain ⟨p,o,rfl,s,I,E,C⟩:=p;exact k _ z u (r.fresh g l j s I E C) g.aa (g.nB r.b)
theorem adI(i:Nat)(j:X.N.Nodup)(p:X.N[i]?=some x)(Y:Loc X.env.scope x)(q:QE X e (tE K O m))(Z:i<O.length:=by exact of_decide_eq_true rfl)(hs:fR e (some (.Name x pos')) pos.line X.env=pure false:=by rfl)
 (l:X.fn x=true\/X.env.scope.names.lookup x=some .local:=by walk_at "hf") (o:O.set i .xo=O2:=by rfl):QS X (.Assign [.Name x pos'] e pos) (tS K rm Ol O O2 (aZ i m)):=
 o ▸ QS.imp (Bt j p Y q.h hs l) λD r H=>WR (λ_ _ _ z=>z) Z
theorem Zf(i:Nat)(j:X.N.Nodup)(p:X.N[i]?=some x)(Y:Loc X.env.scope x)(q:QE X e (tF K O m))(Z:i<O.length:=by exact of_decide_eq_true rfl)(hs:fR e (some (.Name x pos')) pos.line X.env=pure false:=by rfl)
 (l:X.fn x=true\/X.env.scope.names.lookup x=some .local:=by walk_at "hf") (o:O.set i .own=O2:=by rfl):QS X (.Assign [.Name x pos'] e pos) (tS K rm Ol O O2 (aZ i m)):=
 o ▸ QS.imp (Bt j p Y q.h hs l) λD r H=>xx (λ_ _ _ z=>z) Z
theorem bW(s:QT X c (tT K O m))(u:QSs X a (tS K rm Ol O O' m1))(q:QSs X b (tS K rm Ol O O' m2)):QS X (.If c a b pos) (tS K rm Ol O O' (sIf m m1 m2)):=QS.imp (ad2 s.h u.h q.h) λD v H Z=>by
 obtain ⟨A,B,e,o,r,em,k⟩:=Z;obtain ⟨p,l,em⟩:=x8.au em
 cases p with
 | bool i=>
  refine ⟨A,B,e,i,r,l,λj z Y=>?_⟩
  cases i with
  | true=>exact yw ⟨j,B,e,o,r.grow Y,em,k.sub Y.aa (Y.nB r.b)⟩
  | false=>exact yd ⟨j,B,e,o,r.grow Y,em,k.sub Y.aa (Y.nB r.b)⟩
 | _=>cases em
theorem bh(l:QE X e (tE K O m)):QS X (.Return (some e) pos) (tS K .f Ol O O' (bz m)):=QS.imp (xH l.h) λD u H Y=>by
 obtain ⟨A,B,q,o,r,em,k⟩:=Y;obtain ⟨s,Z,em⟩:=x8.au em;cases em;exact ⟨A,B,q,s,r,Z,λv j i g p=>k v j i g.ah (r.b.trans g.hh) g.aa (g.nB r.b) p⟩
theorem qT(l:QE X e (tF K O m)):QS X (.Return (some e) pos) (tS K .t Ol O O' (bz m)):=QS.imp (xH l.h) λD E H Y=>by
 obtain ⟨A,B,z,o,r,em,k⟩:=Y;obtain ⟨C,Z,em⟩:=x8.au em;cases em;refine ⟨A,B,z,C,r,Z,λv j i g p=>k v j i g.ah (r.b.trans g.hh) g.aa (g.nB r.b) ?_⟩;obtain ⟨q,o,e,u,s⟩:=p;exact ⟨q,o,e,r.b.free u,s⟩
theorem nQ(i:Nat)(p:fl O i= .own:=by rfl)(Z:Nm X i x:=by walk_at "nm"):QS X (.Return (some (.Name x pos')) pos) (tS K .t Ol O O' (bz (aj i))):=QS.imp (xH (dJ Z.1 Z.2 Z.3 Z.4)) λD I H Y=>by
 obtain ⟨A,B,J,o,r,em,k⟩:=Y;obtain ⟨E,j,em⟩:=x8.au em;cases em;obtain ⟨v,C,q⟩:=r.slot i E (qK j);rw[p] at q;refine ⟨v,dH C,k v A H r.a r.b (aF.refl _) (λ_ h _=>h) ?_⟩;obtain ⟨pos',o,e,z,u,l,s⟩:=q;exact ⟨pos',o,e,l,z,u,s⟩
theorem Ik:QS X st (tS K rm Ol O O' DW):=QS.imp WY λD Z H Y=>by obtain ⟨A,B,e,o,r,em,k⟩:=Y;cases em
theorem aeO(l:QE X e (tP K O m))(hs:fR e none pos.line X.env=pure false:=by rfl):QS X (.Expr e pos) (tS K rm Ol O O (sEx m)):=QS.imp (qI l.h hs) λD q H Y=>by
 obtain ⟨A,B,s,o,r,em,k⟩:=Y;obtain ⟨u,Z,em⟩:=x8.au em;cases em;exact ⟨A,B,s,u,r,Z,λv j i g p=>k q j i (r.grow g) g.aa (g.nB r.b)⟩
end
def spF(K:av)(fs:B9)(rm:Rm)(f:B4->x8 ab):Sp:=λvs H Q _=>∃A ds d,aF A H/\pJ K A H fs ds vs/\f ds= .ok d/\∀v A' H',aW A H A' H'->Xw K rm H A' H' d v->Q v H'
theorem pJ.length:∀{fs:B9}{ds:B4}{vs:C0},pJ K A H fs ds vs->vs.length=fs.length/\ds.length=fs.length
 | [],ds,vs,h=>by obtain ⟨rfl,rfl⟩:=h;exact ⟨rfl,rfl⟩
 | f::fs,ds,vs,h=>by
  obtain ⟨d,r,v,s,rfl,rfl,_,h⟩:=h;have:=h.length;exact ⟨by rw[a6,a6,this.1],by rw[a6,a6,this.2]⟩
noncomputable def aL(f:B4->x8 ab)(ms:List ME):ME:=λΓ=>(evs ms Γ).bind f
variable {ps:B6}
section
variable  {k:Nat}   {fs:B9}{f:B4->x8 ab}   {p:Pos}
theorem jL(F:Def X.prog X.w X.K X.mg X.base k x ps (spF X.K fs .f f))(E:dB k X.A)(q:Gl X x)(D:QA X (e::es) (tAr X.K O fs ms))(i:nD x:=by decide)
 (M:xB e=true:=by rfl) (Z:jd es=true:=by rfl):QE X (.Call (.Name x p) (e::es) [] pos) (tE X.K O (aL f ms)):=
 QE.imp (Bq F E q D.h i (cR M) (jx Z)) λP H Q Y=>by
  obtain ⟨A,B,J,d,r,em,k⟩:=Y;obtain ⟨l,o,em⟩:=x8.au em;refine ⟨A,B,J,l,r,o,λC L I j s=>?_⟩;show spF X.K fs .f f (C++[]) I Q E0;rw[cK];exact ⟨L,l,d,j.ah,s,em,λv u z g p=>k v u z (j.trans g) p⟩
theorem Er(F:Def X.prog X.w X.K X.mg X.base k x ps (spF X.K fs .t f))(M:dB k X.A)(u:Gl X x)(L:QA X (e::es) (tAr X.K O fs ms))(j:nD x:=by decide)
 (U:xB e=true:=by rfl) (Z:jd es=true:=by rfl):QE X (.Call (.Name x p) (e::es) [] pos) (tF X.K O (aL f ms)):=
 QE.imp (Bq F M u L.h j (cR U) (jx Z)) λσ H Q Y=>by
  obtain ⟨A,B,R,d,r,em,k⟩:=Y;obtain ⟨l,s,em⟩:=x8.au em;refine ⟨A,B,R,l,r,s,λJ S P i z=>?_⟩;show spF X.K fs .t f (J++[]) P Q E0;rw[cK];refine ⟨S,l,d,i.ah,z,em,λv C D g p=>k v C D (i.trans g) ?_⟩;obtain ⟨q,o,e,I,E⟩:=p;exact ⟨q,o,e,i.hh.free I,E⟩
end
noncomputable def fnR(n:Nat)(m:MS)(ds:B4):x8 ab:=(m (ds.map some++aw (n - ds.length) none)).bind λo=>match o with
 | .rt d=>.ok d
 | _=>.bad
variable {P:fq}{mg:Str->B7}{N:B6}
section
variable     {base:Heap}
theorem ph:∀{ds:B4}{vs:C0},aF A H->pJ K A H Ol ds vs->(∀i,i<Ol.length->(fl O i= .xo/\fl Ol i= .xo)\/fl O i= .xl)->Ol.length<=N.length ->
 aY K A H H O (Zq.start N vs) (ds.map some++aw (N.length - ds.length) none):=by
 intro ds vs J h E R;have D:=h.length;have one:∀(Ol:B9) (ds:B4) (vs:C0),pJ K A H Ol ds vs->∀i d,ds[i]?=some d->∃v,vs[i]?=some v/\Ar K A H (fl Ol i) d v:=by
  intro Ol
  induction Ol with
  | nil=>intro ds vs h i d e;obtain ⟨rfl,rfl⟩:=h;simp at e
  | cons f Ol I=>
   intro ds vs h i d e;obtain ⟨U,r,v,s,rfl,rfl,o,h⟩:=h
   match i with
   | 0=>simp at e;subst e;exact ⟨v,rfl,o⟩
   | i+1=>
    obtain ⟨M,B,l⟩:=I r s h i d (by simpa using e);exact ⟨M,by simpa using B,l⟩
 have Z:∀i,gv (ds.map some++aw (N.length - ds.length) none) i=ds[i]?:=λi=>by
  rw[gv,ae];rcases ff i ds.length with h | h
  . rw[bX (by simpa using h),a8,ai h];rfl
  . rw[be (by simpa using h),gu,eg h];split <;> rfl
 have u:∀i v,vs[i]?=some v->sv (Zq.start N vs) i=some v:=λi v e=>by
  unfold sv Zq.start;rw[ae];have h:=(aI.mp e).1;rw[bX (by simpa using h),a8,e];rfl
 refine ⟨J,aF.refl _,?_,λi d e=>?_,λi j Q o B l S=>?_⟩
 . rw[Zq.start,ar,ar,af,af,br,br];lia
 . rw[Z] at e;obtain ⟨v,L,q⟩:=one Ol ds vs h i d e;refine ⟨v,u i v L,?_⟩;have p:i<Ol.length:=by rw[<- D.2];exact (aI.mp e).1
   rcases E i p with ⟨z,P⟩ | z
   . rw[z];rwa [P] at q
   . rw[z]
     cases Y:fl Ol i with
     | xo=>rw[Y] at q;exact .inl q
     | xl=>rwa [Y] at q
     | own=>rwa [Y] at q
     | fix p0=>rwa [Y] at q
     | exc C=>rwa [Y] at q
     | nst b=>rwa [Y] at q
     | kit=>rwa [Y] at q
 . rw[Z] at l;have p:i<Ol.length:=by
    rw[<- D.2];rcases ff i ds.length with h | h
    . exact h
    . exact absurd (eg h) l
   rcases E i p with ⟨z,_⟩ | z <;> rw[z] at o <;> cases o
theorem aab{st:Stmt}{fd:lP}{fs:B9}{m:MS}(F:Fun K x x st p fd)(S:cM N ps (aM st))(l:fs.length=ps.length)(U:ps.length<=N.length)
 (I:∀i,i<fs.length->(fl O i= .xo/\fl fs i= .xo)\/fl O i= .xl)
 (hbody:∀(f:Addr) (Y:a0) (A:g9) (xD:C6) (s:cq) (H:Hp) (E:XK),dB j (A.deeper (mB x (aM st) s.heap.objs.size f Y)) ->
  QSs (mq CX0 P w K mg base N x (aM st) f Y A xD s H E).nox (bU st) (tS K rm Ol O O' m)):rJ P w K mg base CX0 (j+1) p fd ps (spF K fs rm (fnR N.length m)):=by
 refine F.ok S (λu H Q E h=>?_) (λY A xD s H u Q E C h=>?_)
 . obtain ⟨A,M,d,_,h,_⟩:=h;rw[h.length.1,l]
 . obtain ⟨L,M,d,B,h,em,q⟩:=h;obtain ⟨o,Z,em⟩:=x8.au em
   cases o with
   | rt d'=>
    cases em;refine ⟨_,(hbody p Y A xD s H E C).h,L,H,_,_,ph B h I (by lia),Z,λv z e D r J nw R=>q v z e ⟨J,r,D,nw⟩ R⟩
   | _=>cases em
theorem ZK{st:Stmt}{k:Nat}(F:At K mg x st ps)(S:cM N ps (aM st)):Def P w K mg base (k+1) x ps (spF K O rm (λ_=>.bad)):=by
 refine F.ok S (λZ H Q E h=>?_) (λf Y A xD s H Z Q E i h=>?_)
 . obtain ⟨A,e,d,_,_,em,_⟩:=h;cases em
 . obtain ⟨A,e,d,_,_,em,_⟩:=h;cases em
theorem abt{st:Stmt}{m:MS}(F:At K mg x st ps)(S:cM N ps (aM st))(l:O1.length=ps.length)(R:ps.length<=N.length)
 (D:∀i,i<O1.length->(fl O i= .xo/\fl O1 i= .xo)\/fl O i= .xl)
 (hbody:∀(f:Addr) (Y:a0) (A:g9) (xD:C6) (s:cq) (H:Hp) (E:XK),dB j (A.deeper (mB x (aM st) s.heap.objs.size f Y)) ->
  QSs (mq CX0 P w K mg base N x (aM st) f Y A xD s H E).nox (bU st) (tS K rm Ol O O' m)):Def P w K mg base (j+1) x ps (spF K O1 rm (fnR N.length m)):=by
 refine F.ok S (λr H Q E h=>?_) (λf Y A xD s H r Q E B h=>?_)
 . obtain ⟨A,L,d,_,h,_⟩:=h;rw[h.length.1,l]
 . obtain ⟨J,L,d,z,h,em,q⟩:=h;obtain ⟨o,Z,em⟩:=x8.au em
   cases o with
   | rt U=>
    cases em;refine ⟨_,(hbody f Y A xD s H E B).h,J,H,_,_,ph z h D (by lia),Z,λv u e C p I nw M=>q v u e ⟨I,p,C,nw⟩ M⟩
   | _=>cases em
end
abbrev MI:=Ev->x8 B4
structure rA (K:av) (A B:Hp) (J:It) (xs:B4):Prop where
 go:∀i H,aF A H->aF B H->i<xs.length->J.go i H
 stop:∀H,aF A H->aF B H->J.stop xs.length H
 yld:∀i A2 H x H',aF A A2->aF A2 H->aF B H->i<xs.length->J.yld i H x H'->∃A' d,xs[i]?=some d/\aW A2 H A' H'/\Rp K A' d x
def tI(K:av)(O:B9)(it:MI):TI:=λσ H R=>∃A B Γ xs,aY K A B H O σ Γ/\it Γ = .ok xs/\∀J A1 H1,aW A H A1 H1->rA K A1 B J xs->R J H1
def tIc(K:av)(O:B9)(it:MI):TI:=λσ H R=>∃A B Γ xs,aY K A B H O σ Γ/\it Γ = .ok xs/\∀J A1 H1,aW A H A1 H1->rA K A1 H1 J xs->R J H1
def tQ(K:av)(O:B9)(m:ME):TE:=λσ H Q=>∃A B Γ d,aY K A B H O σ Γ/\m Γ = .ok d/\∀v A' H',aW A H A' H'->Pk K A' B d v->Q v H'
theorem sq(h:QE X e (tE K O m)):QE X e (tQ K O m):=QE.imp h.h λl H Q Y=>by obtain ⟨A,B,i,d,r,em,k⟩:=Y;exact ⟨A,B,i,d,r,em,λv j Z g p=>k v j Z g (.inl p)⟩
theorem gY(i:Nat)(j:isO (fl O i)=false:=by rfl)(l:Nm X i x:=by walk_at "nm")(Z:isX (fl O i)=false:=by rfl):QE X (.Name x pos) (tQ K O (aj i)):=QE.imp (dJ l.1 l.2 l.3 l.4) λp H Q e=>by
 obtain ⟨A,B,s,d,r,em,k⟩:=e;obtain ⟨v,o,q⟩:=r.slot i d (qK em);refine ⟨v,dH o,k v A H (aW.refl r.a) ?_⟩
 cases Y:fl O i with
 | xo=>rw[Y] at q;exact .inl q
 | xl=>rwa [Y] at q
 | own=>rw[Y] at j;cases j
 | fix u=>rw[Y] at j;cases j
 | exc C=>rw[Y] at Z;cases Z
 | nst b=>rw[Y] at Z;cases Z
 | kit=>rw[Y] at Z;cases Z
theorem Pk.Pg{H:Hp}(h:Pk K A B (.list ds) v):∃p vs,v= .ref p/\az K A ds vs/\∀H,aF A H->aF B H->SqL K H p vs:=by
 rcases h with h | ⟨p,vs,l,j,i,Z,Y⟩ | ⟨_,_,_,_,i,_⟩
 . obtain ⟨a,vs,e,Z,Y⟩:=Rp.list.mp h;exact ⟨a,vs,e,Y,λH s _=>s.seq Z⟩
 . cases i;exact ⟨p,vs,j,Y,λH _ s=>s.seq Z⟩
 . cases i
theorem Pk.fP{H:Hp}(h:Pk K A B (.tuple ds) v):∃p vs,v= .ref p/\az K A ds vs/\∀H,aF A H->SqT K H p vs:=by
 obtain ⟨a,vs,e,Z,Y⟩:=Rp.tuple.mp (h.lN (λ_ z=>nomatch z) (λ_ z=>nomatch z));exact ⟨a,vs,e,Y,λH s=>s.fP Z⟩
theorem YG(o:az K A ds vs)(j:∀H,aF A H->aF B H->SqL K H p vs):rA K A B (Itl K p) ds:=by
 have z:=o.length;refine ⟨λi H Y Z s=>?_,λH Y Z=>⟨vs,j H Y Z,by lia⟩,λi v H x u l Y Z s y=>?_⟩
 . exact ⟨vs,vs[i]'(by lia),j H Y Z,ai _⟩
 . obtain ⟨rfl,y⟩:=y;have e:=y vs (j u (l.trans Y) Z);obtain ⟨d,r,q⟩:=o.get e;exact ⟨v,d,r,aW.refl Y,Rp.mono l d q⟩
theorem abA(o:az K A ds vs)(Z:∀H,aF A H->SqT K H p vs):rA K A B (Itt K p) ds:=by
 have z:=o.length;refine ⟨λi H Y j s=>?_,λH Y j=>⟨vs,Z H Y,by lia⟩,λi v H x u l Y j s y=>?_⟩
 . exact ⟨vs,vs[i]'(by lia),Z H Y,ai _⟩
 . obtain ⟨rfl,y⟩:=y;have e:=y vs (Z u (l.trans Y));obtain ⟨d,r,q⟩:=o.get e;exact ⟨v,d,r,aW.refl Y,Rp.mono l d q⟩
theorem Hy(lo:Int)(n:Nat):rA K A B (Itr lo n) ((List.range n).map λi=>ab.int (lo+(i:Nat))):=by
 have Z:((List.range n).map λi=>ab.int (lo+(i:Nat))).length=n:=by rw[af,cx]
 refine ⟨λi H _ _ Y=>(by rwa [Z] at Y),λH _ _=>(by rw[Z];exact ax _),λi j H x p o e l Y y=>?_⟩;obtain ⟨rfl,rfl⟩:=y;rw[Z] at Y;exact ⟨j,.int (lo+i),by rw[a8,dQ Y];rfl,aW.refl e,Rp.int.mpr rfl⟩
theorem acp(r:az K A ds vs)(o:∀H,aF A H->aF B H->SqL K H p vs):rA K A B (Itv K p vs.length) ds.reverse:=by
 have l:=r.length;refine ⟨λi H Y j Z=>?_,λH Y j=>?_,λi C H x z s Y j Z y=>?_⟩
 . rw[lI,l] at Z;exact ⟨Z,vs,vs[vs.length - 1 - i]'(by lia),o H Y j,ai _⟩
 . rw[lI,l];rfl
 . rw[lI,l] at Z;obtain ⟨rfl,y⟩:=y;have e:=y vs (o z (s.trans Y) j);have v:vs.reverse[i]?=some x:=by rw[List.getElem?_reverse Z];exact e
   obtain ⟨d,u,q⟩:=r.reverse.get v;exact ⟨C,d,u,aW.refl Y,Rp.mono s d q⟩
noncomputable def eY(ds:B4):B4:=(List.range ds.length).map λi=>ab.tuple [.int (i:Nat),ds.getD i .none]
theorem Ny(s:az K A ds vs)(l:∀H,aF A H->aF B H->SqL K H p vs):rA K A B (Ite K p) (eY ds):=by
 have z:=s.length;have I:(eY ds).length=vs.length:=by rw[eY,af,cx,z]
 refine ⟨λi H Y Z C=>?_,λH Y Z=>⟨vs,l H Y Z,by lia⟩,λi E H x D r Y Z C y=>?_⟩
 . exact ⟨vs,vs[i]'(by lia),l H Y Z,ai _⟩
 . obtain ⟨q,v,j,rfl,rfl,y⟩:=y;have e:=y vs (l H (r.trans Y) Z);obtain ⟨d,u,rd⟩:=s.get e;have g:=aW.new (o:=.tup [.int (i:Nat),v]) Y j;refine ⟨_,.tuple [.int i,d],?_,g,Rp.tuple.mpr ⟨q,_,rfl,SqT.of aX,az.cons.mpr ⟨_,_,rfl,Rp.int.mpr rfl,az.one (Rp.mono (r.trans g.aa) d rd)⟩⟩⟩;rw[eY,a8,dQ (by lia)];show some (ab.tuple [ab.int (i:Nat),ds.getD i .none])=_;rw[ae,u];rfl
theorem Jx(s:az K A ds vs)(j:∀H,aF A H->SqT K H p vs):rA K A B (Xe K p) (eY ds):=by
 have z:=s.length;have I:(eY ds).length=vs.length:=by rw[eY,af,cx,z]
 refine ⟨λi H Y l C=>?_,λH Y l=>⟨vs,j H Y,by lia⟩,λi E H x D r Y l C y=>?_⟩
 . exact ⟨vs,vs[i]'(by lia),j H Y,ai _⟩
 . obtain ⟨q,v,Z,rfl,rfl,y⟩:=y;have e:=y vs (j H (r.trans Y));obtain ⟨d,u,rd⟩:=s.get e;have g:=aW.new (o:=.tup [.int (i:Nat),v]) Y Z;refine ⟨_,.tuple [.int i,d],?_,g,Rp.tuple.mpr ⟨q,_,rfl,SqT.of aX,az.cons.mpr ⟨_,_,rfl,Rp.int.mpr rfl,az.one (Rp.mono (r.trans g.aa) d rd)⟩⟩⟩;rw[eY,a8,dQ (by lia)];show some (ab.tuple [ab.int (i:Nat),ds.getD i .none])=_;rw[ae,u];rfl
noncomputable def itL(m:ME):MI:=λΓ=>(m Γ).bind λd=>match d with
 | .list ds=>.ok ds
 | .tuple ds=>.ok ds
 | _=>.bad
noncomputable def ir(m:ME):MI:=λΓ=>(m Γ).bind λd=>match d with
 | .int j=>gd (-(2^62)<=j/\j<2^62) (.ok ((List.range j.toNat).map λi=>ab.int (0+(i:Nat))))
 | _=>.bad
noncomputable def itV(m:ME):MI:=λΓ=>(m Γ).bind λd=>match d with
 | .list ds=>.ok ds.reverse
 | _=>.bad
noncomputable def itE(m:ME):MI:=λΓ=>(m Γ).bind λd=>match d with
 | .list ds=>.ok (eY ds)
 | .tuple ds=>.ok (eY ds)
 | _=>.bad
variable {m':ME}{xs:B4}{elts:C1}{tpos:Pos}
section
variable     {p:Pos}
def afT(K:av)(tl:TE):TI:=λσ H R=>tl σ H λx H1=>∃a,x= .ref a/\(((∃xs,SqL K H1 a xs)/\R (Itl K a) H1)\/((∃xs,SqT K H1 a xs)/\R (Itt K a) H1))
theorem RG{B:TE}(D:PE X c B):PI X tg c (afT X.K B):=by
 intro i s O H R I h;refine thn (D i s O H _ I h) λv j Z=>?_;obtain ⟨x,C,Y,E,z⟩:=Z;obtain ⟨a,e,z⟩:=z;subst e;cases E;rcases z with ⟨⟨J,u⟩,q⟩ | ⟨⟨J,u⟩,q⟩
 . obtain ⟨r,M,p,L⟩:=Y.list u;refine sC p.isList (⟨j.heap.objs.size,[j.heap.objs.size],_,_,C,rfl,Y.kept λb o e=>aE _ e,Ra a _,⟨_,cn _ rfl,rfl,rfl⟩,λb l=>?_,q⟩);have e:=by simpa using l
   subst e;exact Y.rG (ax _) (Y.xw.fresh (ax _))
 . obtain ⟨r,M,p,L⟩:=Y.tuple u;refine md (p) (⟨j.heap.objs.size,[j.heap.objs.size],_,_,C,rfl,Y.kept λb o e=>aE _ e,Qx a _,⟨_,cn _ rfl,rfl,rfl⟩,λb l=>?_,q⟩);have e:=by simpa using l
   subst e;exact Y.rG (ax _) (Y.xw.fresh (ax _))
theorem M6{d:ab}{R:It->Hp->Prop}(j:aF A A')(l:aF B A')(p:Pk K A B d v)(e:(match d with | .list ds=>x8.ok ds | .tuple ds=>.ok ds | _=>.bad)= .ok xs)
 (k:∀J,rA K A B J xs->R J A'):∃a,v= .ref a/\(((∃xs,SqL K A' a xs)/\R (Itl K a) A')\/((∃xs,SqT K A' a xs)/\R (Itt K a) A')):=by
 cases d with
 | list ds=>
  cases e;obtain ⟨q,i,rfl,Z,Y⟩:=p.Pg (H:=A');exact ⟨q,rfl,.inl ⟨⟨i,Y A' j l⟩,k _ (YG Z Y)⟩⟩
 | tuple ds=>
  cases e;obtain ⟨q,i,rfl,Z,Y⟩:=p.fP (H:=A');exact ⟨q,rfl,.inr ⟨⟨i,Y A' j⟩,k _ (abA Z Y)⟩⟩
 | _=>cases e
theorem fc(h:QE X e (tQ X.K O m)):QI X tg e (tI X.K O (itL m)):=QI.imp (RG h.h) λu H R Y=>by
 obtain ⟨A,B,o,s,r,em,k⟩:=Y;obtain ⟨d,i,em⟩:=x8.au em;refine ⟨A,B,o,d,r,i,λv q p Z j=>M6 Z.ah (r.b.trans Z.hh) j em λJ l=>k J q p Z l⟩
theorem lM(h:QE X e (tP X.K O m)):QI X tg e (tIc X.K O (itL m)):=QI.imp (RG h.h) λu H R Y=>by
 obtain ⟨A,B,o,s,r,em,k⟩:=Y;obtain ⟨d,i,em⟩:=x8.au em;refine ⟨A,B,o,d,r,i,λv q p Z j=>M6 Z.ah (aF.refl _) j em λJ l=>k J q p Z l⟩
theorem gM(i:Gl X "range")(q:X.mg "range"= none)(s:QE X a (tP X.K O m))(hs:dc [a] X.env=[(false,eval a X.env)]:=by rfl):QI X tg (.Call (.Name "range" p) [a] [] pos) (tI X.K O (ir m)):=
 QI.imp (FP i q (bV s.h eG hs) hs) λE H R Y=>by
  obtain ⟨A,B,z,D,r,em,k⟩:=Y;obtain ⟨d,e,em⟩:=x8.au em
  cases d with
  | int j=>
   obtain ⟨Z,em⟩:=b8 em;cases em;exact ⟨A,B,z,_,r,e,λv C u l o=>⟨j,by rw[o.int],Z.1,Z.2,k _ C u l (Hy 0 _)⟩⟩
  | _=>cases em
theorem jZ(i:Gl X "range")(q:X.mg "range"= none)(s:QE X a (tP X.K O m))(hs:dc [a] X.env=[(false,eval a X.env)]:=by rfl):QI X tg (.Call (.Name "range" p) [a] [] pos) (tIc X.K O (ir m)):=
 QI.imp (FP i q (bV s.h eG hs) hs) λE H R Y=>by
  obtain ⟨A,B,z,D,r,em,k⟩:=Y;obtain ⟨d,e,em⟩:=x8.au em
  cases d with
  | int j=>
   obtain ⟨Z,em⟩:=b8 em;cases em;exact ⟨A,B,z,_,r,e,λv C u l o=>⟨j,by rw[o.int],Z.1,Z.2,k _ C u l (Hy 0 _)⟩⟩
  | _=>cases em
theorem adk(l:Gl X "reversed")(s:X.mg "reversed"= none)(C:QE X a (tQ X.K O m))(hs:dc [a] X.env=[(false,eval a X.env)]:=by rfl):QI X tg (.Call (.Name "reversed" p) [a] [] pos) (tI X.K O (itV m)):=
 QI.imp (adR l s (bV C.h eG hs) hs) λL H R Y=>by
  obtain ⟨A,B,D,I,r,em,k⟩:=Y;obtain ⟨d,j,em⟩:=x8.au em
  cases d with
  | list J=>
   cases em;refine ⟨A,B,D,_,r,j,λv E e Z o=>?_⟩;obtain ⟨q,z,rfl,u,i⟩:=o.Pg (H:=e);exact ⟨q,z,rfl,i e Z.ah (r.b.trans Z.hh),k _ E e Z (acp u i)⟩
  | _=>cases em
theorem Ey{x1}(C:Gl X "enumerate")(D:X.mg "enumerate"= none)(I:QE X a (tQ X.K O m))(hs:dc [a] X.env=[(false,eval a X.env)]:=by rfl):QI X (.Tuple elts x1 tpos) (.Call (.Name "enumerate" p) [a] [] pos) (tI X.K O (itE m)):=
 QI.imp (J9 C D (bV I.h eG hs) hs) λL H R e=>by
  obtain ⟨A,B,z,J,r,em,k⟩:=e;obtain ⟨d,u,em⟩:=x8.au em
  cases d with
  | list E=>
   cases em;refine ⟨A,B,z,_,r,u,λv s Y Z j=>?_⟩;obtain ⟨q,o,rfl,l,i⟩:=j.Pg (H:=Y);exact ⟨q,o,rfl,.inl ⟨i Y Z.ah (r.b.trans Z.hh),k _ s Y Z (Ny l i)⟩⟩
  | tuple E=>
   cases em;refine ⟨A,B,z,_,r,u,λv s Y Z j=>?_⟩;obtain ⟨q,o,rfl,l,i⟩:=j.fP (H:=Y);exact ⟨q,o,rfl,.inr ⟨i Y Z.ah,k _ s Y Z (Jx l i)⟩⟩
  | _=>cases em
theorem aal{x1}(C:Gl X "enumerate")(D:X.mg "enumerate"= none)(I:QE X a (tP X.K O m))(hs:dc [a] X.env=[(false,eval a X.env)]:=by rfl):QI X (.Tuple elts x1 tpos) (.Call (.Name "enumerate" p) [a] [] pos) (tIc X.K O (itE m)):=
 QI.imp (J9 C D (bV I.h eG hs) hs) λL H R e=>by
  obtain ⟨A,B,z,J,r,em,k⟩:=e;obtain ⟨d,u,em⟩:=x8.au em
  cases d with
  | list E=>
   cases em;refine ⟨A,B,z,_,r,u,λv s Y Z j=>?_⟩;obtain ⟨q,o,rfl,l,i⟩:=j.Pg (H:=Y);exact ⟨q,o,rfl,.inl ⟨i Y Z.ah (aF.refl _),k _ s Y Z (Ny l i)⟩⟩
  | tuple E=>
   cases em;refine ⟨A,B,z,_,r,u,λv s Y Z j=>?_⟩;obtain ⟨q,o,rfl,l,i⟩:=j.fP (H:=Y);exact ⟨q,o,rfl,.inr ⟨i Y Z.ah,k _ s Y Z (Jx l i)⟩⟩
  | _=>cases em
end
abbrev MG:=ab->Ev->x8 Ev
noncomputable def gN(i:Nat):MG:=λd Γ=>gd (i < Γ.length) (.ok (Γ.set i (some d)))
noncomputable def gTs:List MG->B4->Ev->x8 Ev
 | [],[],Γ=>.ok Γ
 | g::gs,d::ds,Γ=>(g d Γ).bind λΓ'=>gTs gs ds Γ'
 | _,_,_=>.bad
noncomputable def gT(gs:List MG):MG:=λd Γ=>match d with
 | .tuple ds=>gTs gs ds Γ
 | _=>.bad
def qR(is:B5)(σ σ':St):Prop:=σ'.length=σ.length/\∀j,j∉is->σ'[j]?=σ[j]?
theorem qR.trans{is Z:B5}{Y σ'':St}(h:qR is σ Y)(i:qR Z Y σ''):qR (is++Z) σ σ'':=
 ⟨i.1.trans h.1,λj e=>(i.2 j λz=>e (ck _ z)).trans (h.2 j λz=>e (dy _ z))⟩
def tG(K:av)(O O':B9)(is:B5)(g:MG):TG:=λv σ H Q=>∃A B Γ d Γ',aY K A B H O σ Γ/\Rp K A d v/\g d Γ = .ok Γ'/\∀σ',aY K A B H O' σ' Γ'->qR is σ σ'->Q σ' H
def tGs(K:av)(O O':B9)(is:B5)(gs:List MG):TGs:=λvs σ H Q=>∃A B Γ ds Γ',aY K A B H O σ Γ/\az K A ds vs/\gTs gs ds Γ = .ok Γ'/\∀σ',aY K A B H O' σ' Γ'->qR is σ σ'->Q σ' H
theorem PG.imp{t t':TG}(h:PG X tg t)(i:∀v σ H Q,t' v σ H Q->t v σ H Q):PG X tg t':=λY s σ H v u Q I r q=>h Y s σ H v u Q I r (i v σ H Q q)
theorem PGs.imp{t t':TGs}(h:PGs X es t)(i:∀v σ H Q,t' v σ H Q->t v σ H Q):PGs X es t':=λY s σ H v u Q I r q=>h Y s σ H v u Q I r (i v σ H Q q)
theorem QG.imp{t t':TG}(h:PG X tg t)(i:∀v σ H Q,t' v σ H Q->t v σ H Q):QG X tg t':=⟨PG.imp h i⟩
theorem QGs.imp{t t':TGs}(h:PGs X es t)(i:∀v σ H Q,t' v σ H Q->t v σ H Q):QGs X es t':=⟨PGs.imp h i⟩
theorem Di:∀{gs:List MG}{ds:B4}{Γ Y:Ev},gTs gs ds Γ = .ok Y->ds.length=gs.length
 | [],[],_,_,_=>rfl
 | g::gs,d::ds,Γ,Y,h=>by
  obtain ⟨Z,_,h⟩:=x8.au h;rw[a6,a6,Di h]
section
variable   {is js:B5}{g:MG}{gs:List MG}
theorem c7(i:Nat)(u:X.N.Nodup)(Z:X.N[i]?=some x)(s:Loc X.env.scope x)(l:i<O.length:=by exact of_decide_eq_true rfl)(o:X.fn x=true\/X.env.scope.names.lookup x=some .local:=by walk_at "hf")(q:O.set i .xo=O2:=by rfl) :
 QG X (.Name x pos) (tG X.K O O2 [i] (gN i)):=q ▸ QG.imp (Y7 u Z s o) λv D H Q Y=>by
 obtain ⟨A,B,E,d,e,r,p,em,k⟩:=Y;obtain ⟨Z,em⟩:=b8 em;cases em;exact k _ (r.set Z l p) ⟨eJ ..,λj C=>mx (λz=>C (by rw[z];exact bg))⟩
theorem mF:QGs X [] (tGs X.K O O [] []):=QGs.imp aar λj i H Q Y=>by
 obtain ⟨A,B,l,Z,e,r,p,em,k⟩:=Y
 cases Z with
 | nil=>cases em;exact ⟨az.nil.mp p,k i r ⟨rfl,λ_ _=>rfl⟩⟩
 | cons d Z=>cases em
theorem mj(D:QG X e (tG X.K O O1 is g))(C:QGs X es (tGs X.K O1 O2 js gs))(hs:(lh (e::es) X.env).map (·.2)=assign e X.env::(lh es X.env).map (·.2):=by rfl):QGs X (e::es) (tGs X.K O O2 (is++js) (g::gs)):=by
 refine QGs.imp (Wy D.h C.h ?_) λJ L H Q ⟨A,B,E,j,Z,r,p,em,k⟩=>?_
 . exact hs
 . cases j with
   | nil=>cases em
   | cons d j=>
    obtain ⟨Y,l,em⟩:=x8.au em;obtain ⟨v,q,rfl,s,p2⟩:=az.cons.mp p;exact ⟨v,q,rfl,A,B,E,d,Y,r,s,l,λz o y=>⟨A,B,Y,j,Z,o,p2,em,λi I u=>k i I (y.trans u)⟩⟩
theorem pG{n:Nat}(D:X.calm=true)(h:QGs X es (tGs X.K O O' is gs))(e:gs.length=n:=by rfl)
 (q:(lh es X.env).length=n:=by rfl) (j:(lh es X.env).findIdx? (·.1)=none:=by rfl):QG X (.Tuple es i pos) (tG X.K O O' is (gT gs)):=QG.imp (abV D h.h q j) λv E H Q Y=>by
 obtain ⟨A,B,C,d,Z,r,p,em,i⟩:=Y
 cases d with
 | tuple z=>
  have o:=Rp.tuple.mp p;obtain ⟨a,u,rfl,s,l⟩:=o;exact ⟨a,u,rfl,r.a.fP s,by rw[<- l.length,<- e];exact Di em,A,B,C,z,Z,r,l,em,i⟩
 | _=>cases em
end
noncomputable def oV(O Oe:B9)(cl:B5):Bool:=Oe.length == O.length&&(List.range O.length).all λj=>decide (fl Oe j=fl O j)||cl.contains j
variable {Oe:B9}{cl:B5}
theorem U5(h:oV O Oe cl=true)(j:Nat):fl Oe j=fl O j\/j∈cl:=by
 unfold oV at h;rw[c9,d3] at h;rcases ff j O.length with hj | hj
 . have:=h.2 j (cE.mpr hj);rw[qB] at this;rcases this with z | z
   . exact .inl (of_decide_eq_true z)
   . exact .inr (by simpa using z)
 . left;unfold fl;rw[ae,ae,eg hj,eg (by rw[show Oe.length=O.length by simpa using h.1];exact hj)]
theorem JB:∀(l:B5) (Γ:Ev) (j:Nat),j∈l->gv (clr l Γ) j=none
 | i::l,Γ,j,h=>by
  by_cases Y:j∈l
  . exact JB l (Γ.set i none) j Y
  . have e:j=i:=by
     rcases bE.mp h with z | z
     . exact z
     . exact absurd z Y
    subst e;rcases (Bp l (Γ.set j none)).2 j with z | z
    . exact z
    . show gv (clr l (Γ.set j none)) j=none;rw[z];rw[gv,ae]
      by_cases Z:j < Γ.length
      . rw[kB Z];rfl
      . rw[eg (by rw[eJ];lia)];rfl
theorem aY.il(u:oV O Oe cl=true)(r:aY K A B H Oe σ Γ):aY K A B H O σ (Zq.clr cl Γ):=by
 have Y:=r.clr cl;have l:∀j,gv (Zq.clr cl Γ) j≠none->fl O j=fl Oe j:=λj n=>by
  rcases U5 u j with z | z
  . exact z.symm
  . exact absurd (JB cl Γ j z) n
 refine ⟨Y.a,Y.b,Y.len,λj d e=>?_,λi j Z s q p o=>Y.sep i j Z (by rw[<- l i p];exact s) (by rw[<- l j o];exact q) p o⟩;have:=Y.slot j d e;rw[l j (by rw[e];simp)];exact this
noncomputable def forR(g:MG)(cl:B5)(b:MS):B4->Ev->x8 Out
 | [],Γ=>.ok (.nx Γ)
 | x::xs,Γ=>(g x Γ).bind λΓ1=>(b Γ1).bind λo=>match o with
  | .nx Γ2=>forR g cl b xs (clr cl Γ2)
  | .ct Γ2=>forR g cl b xs (clr cl Γ2)
  | .bk Γ2=>.ok (.nx (clr cl Γ2))
  | .rt d=>.ok (.rt d)
noncomputable def cI(it:MI)(g:MG)(cl:B5)(b:MS):MS:=λΓ=>(it Γ).bind λxs=>forR g cl b xs Γ
section
variable    {is:B5}{g:MG}{it:MI}  {mb:MS}{iter:Expr}{body:C5}
theorem km(hp:rV (dt X.prog X.w) X.A X.env X.xe)(hc:X.calm=true)(cl:B5)(hi:QI X tg iter (tI X.K O it))(hg:QG X tg (tG X.K O O is g))(hb:QSs X body (tS X.K rm Oe O Oe mb))(hE:oV O Oe cl=true)
 (hs:∀x,hV iter X.env x=pure x:=by intro _;rfl):QS X (.For tg iter body [] pos) (tS X.K rm Ol O O (cI it g cl mb)):=by
 refine QS.imp (TX hp hc hi.h hg.h hb.h hs) λD σ H Wm=>?_;obtain ⟨A,B,Γ,o,r,em,k⟩:=Wm;obtain ⟨j,e1,em⟩:=x8.au em;refine ⟨A,B,Γ,j,r,e1,λJ A1 H1 g1 hj=>?_⟩;refine ⟨λi n S U=>n=j.length - i/\i<=j.length/\∃P C,aY X.K P B U O S C/\aF A P/\New A P B/\aF A1 P/\forR g cl mb (j.drop i) C= .ok o,⟨j.length,rfl,iP _,A1,Γ,r.grow g1,g1.aa,g1.nB r.b,aF.refl _,em⟩,?_⟩;rintro i n S U ⟨rfl,hi.h,P,C,z,sa,nw,l,q⟩
 by_cases Z:i<j.length
 . refine .inr ⟨hj.go i U (l.trans z.a) z.b Z,λL H''=>i+1<=j.length/\∃u Y,aY X.K u B H'' O L Y/\aF A u/\New A u B/\aF A1 u/\forR g cl mb (j.drop (i+1)) Y= .ok o,?_,λx H3 y=>?_⟩
   . rintro L H'' ⟨h1,u,Y,h2⟩;exact ⟨j.length - (i+1),by lia,rfl,h1,u,Y,h2⟩
   . obtain ⟨u,d,ed,g3,p3⟩:=hj.yld i P U x H3 l z.a z.b Z y;have hd:j.drop i=d::j.drop (i+1):=by
      rw[kT Z];rw[ai Z] at ed;cases ed;rfl
     rw[hd] at q;obtain ⟨Y,e3,q⟩:=x8.au q;obtain ⟨o3,e4,q⟩:=x8.au q;have s:=sa.trans g3.aa;have p:=nw.trans (g3.nB z.b);refine ⟨u,B,C,d,Y,z.grow g3,p3,e3,λσ4 r4 _=>⟨u,B,Y,o3,r4,e4,?_⟩⟩;have sb:∀{D':Ends},tH X.K rm Ol O A B D' o->tH X.K rm Ol O u B D' o:=λh=>h.sub s p
     cases o3 with
     | nx E=>exact λQ R H5 r5 I M=>⟨Z,R,clr cl E,r5.il hE,s.trans I,p.trans M,l.trans (g3.aa.trans I),q⟩
     | ct E=>exact λQ R H5 r5 I M=>⟨Z,R,clr cl E,r5.il hE,s.trans I,p.trans M,l.trans (g3.aa.trans I),q⟩
     | bk E=>
      cases q;exact λQ R H5 r5 I M=>k Q R H5 (r5.il hE) (s.trans I) (p.trans M)
     | rt d'=>
      cases q;exact λv R H5 q1 q2 I M rv=>k v R H5 q1 q2 (s.trans I) (p.trans M) rv
 . have e:i=j.length:=by lia
   subst e;rw[tw] at q;cases q;exact .inl ⟨hj.stop U (l.trans z.a) z.b,k S P U z sa nw⟩
end
noncomputable def whR(c:ME)(cl:B5)(b:MS):Nat->Ev->x8 Out
 | 0,_=>.bad
 | n+1,Γ=>(c Γ).bind λx=>match x with
  | .bool true=>(b Γ).bind λo=>match o with
   | .nx Γ2=>whR c cl b n (clr cl Γ2)
   | .ct Γ2=>whR c cl b n (clr cl Γ2)
   | .bk Γ2=>.ok (.nx (clr cl Γ2))
   | .rt d=>.ok (.rt d)
  | .bool false=>.ok (.nx Γ)
  | _=>.bad
noncomputable def rz(fuel:Nat)(c:ME)(cl:B5)(b:MS):MS:=λΓ=>whR c cl b fuel Γ
section
variable      {mc:ME}{mb:MS}{body:C5}
theorem Wf(hp:rV (dt X.prog X.w) X.A X.env X.xe)(q:Nat)(cl:B5)(hc:QT X c (tT X.K O mc))(hb:QSs X body (tS X.K rm Oe O Oe mb))(Q:oV O Oe cl=true):QS X (.While c body [] pos) (tS X.K rm Ol O O (rz q mc cl mb)):=by
 refine QS.imp (Uy hp hc.h hb.h) λD σ H ⟨A,B,Γ,o,r,em,k⟩=>⟨λn z S=>∃j Y,aY X.K j B S O z Y/\aF A j/\New A j B/\whR mc cl mb n Y= .ok o,⟨q,A,Γ,r,aF.refl _,λ_ h _=>h,em⟩,?_⟩;rintro n z S ⟨j,Y,M,sa,nw,Z⟩
 cases n with
 | zero=>cases Z
 | succ n=>
  obtain ⟨x,e3,Z⟩:=x8.au Z
  cases x with
  | bool U=>
   refine ⟨j,B,Y,U,M,e3,λA3 H3 P=>?_⟩;have i:=sa.trans P.aa;have e:=nw.trans (P.nB M.b)
   cases U with
   | false=>
    cases Z;exact yd (k z A3 H3 (M.grow P) i e)
   | true=>
    obtain ⟨R,e4,Z⟩:=x8.au Z;refine yw ⟨λp J=>∃j Y,aY X.K j B J O p Y/\aF A j/\New A j B/\whR mc cl mb n Y= .ok o,λp J h=>⟨n,pV _,h⟩,A3,B,Y,R,M.grow P,e4,?_⟩
    cases R with
    | nx l=>exact λE u I L C s=>⟨u,clr cl l,L.il Q,i.trans C,e.trans s,Z⟩
    | ct l=>exact λE u I L C s=>⟨u,clr cl l,L.il Q,i.trans C,e.trans s,Z⟩
    | bk l=>cases Z;exact λE u I L C s=>k E u I (L.il Q) (i.trans C) (e.trans s)
    | rt d'=>cases Z;exact λv u I q1 q2 C s rv=>k v u I q1 q2 (i.trans C) (e.trans s) rv
  | _=>cases Z
end
noncomputable def oW(g:MG)(c:ME)(e:ME)(Γ:Ev):B4->x8 B4
 | []=>.ok []
 | x::xs=>(g x Γ).bind λΓ1=>(c Γ1).bind λt=>match t with
  | .bool true=>(e Γ1).bind λd=>(oW g c e Γ xs).bind λds=>.ok (d::ds)
  | .bool false=>oW g c e Γ xs
  | _=>.bad
noncomputable def gh(nt:Nat)(ix:B5)(Γ:Ev):Ev:=aw nt none++ix.map (gv Γ)
noncomputable def bfl:Fl->Fl
 | .own=>.xl
 | .fix _=>.xl
 | .nst _=>.nst false
 | f=>f
noncomputable def mX(nt:Nat)(ix:B5)(O:B9):B9:=aw nt .xo++ix.map λi=>bfl (fl O i)
noncomputable def cA(it:MI)(g:MG)(c e:ME)(nt:Nat)(ix:B5):ME:=λΓ=>(it Γ).bind λxs=>gd (xs.length<ba) ((oW g c e (gh nt ix Γ) xs).bind λds=>.ok (.list ds))
theorem ZJ:(σ[i]?).join=sv σ i:=by
 rw[sv,ae]
 cases σ[i]? with
 | none=>rfl
 | some o=>rfl
theorem tD{α:Type}{os:List α}{ix:B5}{f:Nat->α}{d:α}(j:Nat):(os++ix.map f).getD j d=if j<os.length then os.getD j d else match ix[j - os.length]? with | some i=>f i | none=>d:=by
 rw[ae];split
 . rename_i h;rw[bX h,ae]
 . rename_i h;rw[be (by lia),a8];cases ix[j - os.length]? <;> rfl
theorem aY.block(r:aY K A B H O σ Γ){os:List (Option V)}{Z:Nat}(o:os.length=Z)(ix:B5):aY K A H H (mX Z ix O) (os++ix.map λi=>(σ[i]?).join) (gh Z ix Γ):=by
 have E:∀j,isO (fl (mX Z ix O) j)=false:=λj=>by
  unfold fl mX;rw[tD,br];split
  . rw[ae,gu];split <;> rfl
  . cases ix[j - Z]? with
    | none=>rfl
    | some i=>simp only;cases fl O i <;> rfl
 refine ⟨r.a,aF.refl _,?_,λj d e=>?_,λi j _ u _ _ _=>absurd (u.symm.trans (E i)) Bool.noConfusion⟩
 . rw[gh,ar,ar,br,af,af,o]
 . unfold gv gh at e;rw[tD,br] at e;split at e
   . rw[ae,gu] at e;split at e <;> cases e
   . rename_i D
     cases q:ix[j - Z]? with
     | none=>rw[q] at e;cases e
     | some i=>
      rw[q] at e;obtain ⟨v,p,Y⟩:=r.slot i d e;refine ⟨v,?_,?_⟩
      . rw[sv,tD,if_neg (by lia),o,q];show (σ[i]?).join=some v;rw[ZJ];exact p
      . have s:fl (mX Z ix O) j=bfl (fl O i):=by
         unfold fl mX;rw[tD,br,if_neg D,q]
        rw[s]
        cases l:fl O i with
        | xo=>rwa [l] at Y
        | xl=>rw[l] at Y;exact Pk.mono (aF.refl _) r.b Y
        | own=>rw[l] at Y;exact Own.pk Y
        | fix I=>rw[l] at Y;exact Own.pk Y.2
        | exc C=>rwa [l] at Y
        | nst b=>exact λz=>nomatch z
        | kit=>rwa [l] at Y
variable {ifs:C1}
theorem sO.imp{t:TT}(h:sO X ifs t)(i:∀σ H Q,t' σ H Q->t σ H Q):sO X ifs t':=λY s σ H Q I q=>h Y s σ H Q I (i σ H Q q)
theorem xq.imp{t:TT}(h:sO X ifs t)(i:∀σ H Q,t' σ H Q->t σ H Q):xq X ifs t':=⟨sO.imp h i⟩
theorem dM:xq X [] (tT X.K O (eC (.bool true))):=xq.imp Wg λZ H Q Y=>by
 obtain ⟨A,B,e,b,r,em,k⟩:=Y;cases em;exact k A H (aW.refl r.a)
theorem vL(h:QT X c (tT X.K O m)):xq X [c] (tT X.K O m):=⟨W5 h.h⟩
section
variable  {Ob:B9}{tn:B6}{ix:B5}{it:MI}{g:MG}{mc me:ME}
theorem Ac(hOb:Ob=mX tn.length ix O){nt:Nat}(hnt:nt=tn.length)(his:∀j∈cl,j<tn.length){Q:VK}(h:tF K O (cA it g mc me nt ix) σ H Q):Hn tn ix (tIc K O it) (tG K Ob O1 cl g) (tT K O1 mc) (tE K O1 me) σ H Q:=by
 subst hOb hnt;obtain ⟨A,B,Γ,d,r,em,k⟩:=h;obtain ⟨E,e1,em⟩:=x8.au em;obtain ⟨hz,em⟩:=b8 em;obtain ⟨ds,e2,em⟩:=x8.au em;cases em;refine ⟨A,B,Γ,E,r,e1,λJ A1 H1 g1 hj D hD=>?_⟩;have r1:=r.grow g1;have hAD:=g1.ah.free hD;refine ⟨λi n σb M U=>n=E.length - i/\i<=E.length/\M.length<=i/\(∃os:List (Option V),os.length=tn.length/\σb=os++ix.map λi=>(σ[i]?).join)/\∃A2,aF A1 A2/\New A1 A2 H1/\aF A2 U/\aF H1 U/\A2 D=none/\U D=some (.lst M) /\
  ∃L S,ds=L++S/\az K A2 L M/\oW g mc me (gh tn.length ix Γ) (E.drop i)= .ok S,⟨E.length,rfl,iP _,iP _,⟨_,br,rfl⟩,A1,aF.refl _,λ_ h _=>h,g1.ah.trans (aF.new hD _),aF.new hD _,hAD,aX,[],ds,rfl,az.nil.mpr rfl,e2⟩,?_⟩
 rintro i n σb M U ⟨rfl,hi,hacc,⟨os,ho,rfl⟩,A2,s,nw,s2,Z,a2,P,L,S,rfl,rp,l⟩;refine ⟨P,?_⟩
 by_cases o:i<E.length
 . refine .inr ⟨hj.go i U (s.trans s2) Z o,by lia,λx H3 y=>?_⟩;obtain ⟨A3,dx,ed,Y,p3⟩:=hj.yld i A2 U x H3 s s2 Z o y;have hd:E.drop i=dx::E.drop (i+1):=by
    rw[kT o];rw[ai o] at ed;cases ed;rfl
   rw[hd] at l;obtain ⟨Γ1,e4,l⟩:=x8.au l;obtain ⟨t,e5,l⟩:=x8.au l;have rb:=by
    have rr:aY K A3 B H3 O σ Γ:=by
     refine ⟨Y.ah,r1.b.trans (Z.trans Y.hh),r1.len,λj=>?_,r1.sep⟩;intro d' e';obtain ⟨v',e'',q⟩:=r1.slot j d' e';refine ⟨v',e'',?_⟩
     cases hf:fl O j with
     | xo=>rw[hf] at q;exact Rp.mono (s.trans Y.aa) d' q
     | xl=>rw[hf] at q;exact Pk.mono (s.trans Y.aa) (aF.refl _) q
     | own=>
      rw[hf] at q;obtain ⟨I,o',rfl,u1,u2,u3,u4⟩:=q;have n1:=nw I u2 (by rw[u1];simp);exact ⟨I,o',rfl,Y.hh _ _ (Z _ _ u1),Y.nw I n1 (by rw[Z _ _ u1];simp),u3,u4.mono (s.trans Y.aa)⟩
     | fix p0=>
      rw[hf] at q;obtain ⟨q0,I,o',rfl,u1,u2,u3,u4⟩:=q;have n1:=nw I u2 (by rw[u1];simp);exact ⟨q0,I,o',rfl,Y.hh _ _ (Z _ _ u1),Y.nw I n1 (by rw[Z _ _ u1];simp),u3,u4.mono (s.trans Y.aa)⟩
     | kit=>rw[hf] at q;exact pX.mono (s.trans Y.aa) q
     | exc C=>
      rw[hf] at q;obtain ⟨I,ob,w1,w2,w3⟩:=q;exact ⟨I,ob,w1,(s.trans Y.aa) _ _ w2,w3⟩
     | nst b=>
      rw[hf] at q;intro z;obtain ⟨I,E,x3,w1,w2,w3,w4,w5,w6⟩:=q z;have n1:=nw I w4 (by rw[w3];simp);exact ⟨I,E,x3,w1,w2,Y.hh _ _ (Z _ _ w3),Y.nw I n1 (by rw[Z _ _ w3];simp),w5,w6.mono (s.trans Y.aa)⟩
    exact rr.block ho ix
   refine ⟨A3,H3,_,dx,Γ1,rb,p3,e4,λσ4 r4 y4=>?_⟩;have hos:∃os':List (Option V),os'.length=tn.length/\σ4=os'++ix.map λi=>(σ[i]?).join:=by
    have hl4:σ4.length=tn.length+ix.length:=by rw[y4.1,ar,af,ho]
    refine ⟨σ4.take tn.length,by rw[cp];lia,oQ λj=>?_⟩;rcases ff j tn.length with hj | hj
    . rw[bX (by rw[cp];lia),ja hj]
    . rw[y4.2 j (λz=>absurd (his j z) (by lia)),be (by lia),be (by rw[cp];lia),cp,ho];congr 1;lia
   cases t with
   | bool bb=>
    refine ⟨A3,H3,Γ1,bb,r4,e5,λA4 H4 R=>?_⟩;have nw4:=nw.trans ((Y.trans R).nw.mono Z);have hD4:=R.hh _ _ (Y.hh _ _ P);have a4:=(Y.trans R).nw D a2 (by rw[P];simp)
    cases bb with
    | false=>
     refine yd ⟨E.length - (i+1),by lia,rfl,o,by lia,hos,A4,s.trans (Y.trans R).aa,nw4,R.ah,Z.trans (Y.trans R).hh,a4,hD4,L,S,rfl,az.mono (Y.trans R).aa _ rp,l⟩
    | true=>
     obtain ⟨dv,e6,l⟩:=x8.au l;obtain ⟨ds3,e7,l⟩:=x8.au l;cases l;refine yw ⟨A4,H3,Γ1,dv,r4.grow R,e6,λv A5 H5 g5 p5=>?_⟩;have gg:=(Y.trans R).trans g5;have hD5:=g5.hh _ _ hD4;have a5:=gg.nw D a2 (by rw[P];simp);refine ⟨hD5,E.length - (i+1),by lia,rfl,o,by rw[ar,b9];lia,hos,A5,s.trans gg.aa,nw.trans (gg.nw.mono Z),λb u q=>?_,?_,a5,aX,L++[dv],ds3,by rw[da];rfl,(az.mono gg.aa _ rp).append (az.one p5),e7⟩
     . have hb:b≠D:=λz=>by rw[z,a5] at q;cases q
       rw[aG hb];exact g5.ah b u q
     . exact (Z.trans gg.hh).up hD
   | _=>cases l
 . have e:i=E.length:=by lia
   subst e;rw[tw] at l;cases l;rw[cK] at k;refine .inl ⟨hj.stop U (s.trans s2) Z,k _ A2 U ⟨g1.aa.trans s,g1.hh.trans Z,s2,λp n1 n2=>nw p (g1.nw p n1 n2) (aF.ne g1.hh n2)⟩ ⟨D,_,rfl,g1.hh.free hD,P,a2,.inl ⟨L,M,rfl,rfl,rp⟩⟩⟩
end
section
variable  {Ob:B9}{scope:rX}{tn:B6}{ix is:B5}{it:MI}{g:MG}{mc me:ME}{elt iter:Expr}   {nt:Nat}
theorem dX(e:B6)(ix:B5)(S:iC X scope ix=true)(s:X.calm=true)(l:Ob=mX e.length ix O)(i:nt=e.length)(o:∀j∈is,j<e.length)(q:QI X tg iter (tIc X.K O it))
 (r:∀cl C Z Y fp,QG (X.comp scope e ix cl C Z Y fp) tg (tG X.K Ob O1 is g)) (p:∀cl C Z Y fp,xq (X.comp scope e ix cl C Z Y fp) ifs (tT X.K O1 mc)) (u:∀cl C Z Y fp,QE (X.comp scope e ix cl C Z Y fp) elt (tE X.K O1 me))
 (hs:∀x,hV iter X.env x=pure x:=by intro _;rfl):QE X (.ListComp elt [⟨tg,iter,ifs,0⟩] scope pos) (tF X.K O (cA it g mc me nt ix)):=
 QE.imp (aau S s q.h (λcl C Z Y fp=>(r cl C Z Y fp).h) (λcl C Z Y fp=>(p cl C Z Y fp).h) (λcl C Z Y fp=>(u cl C Z Y fp).h) hs) λv H Q h=>Ac l i o h
theorem aaG(i:Nat)(e:B6)(ix:B5){y:Str}(u:X.N.Nodup)(l:X.N[i]?=some y)(L:Loc X.env.scope y)(S:iC X scope ix=true)(P:X.calm=true)(r:Ob=mX e.length ix O)(p:nt=e.length)(o:∀j∈is,j<e.length)(I:QI X tg iter (tIc X.K O it))
 (J:∀cl C Y Z fp,QG (X.comp scope e ix cl C Y Z fp) tg (tG X.K Ob O1 is g)) (z:∀cl C Y Z fp,xq (X.comp scope e ix cl C Y Z fp) ifs (tT X.K O1 mc)) (v:∀cl C Y Z fp,QE (X.comp scope e ix cl C Y Z fp) elt (tE X.K O1 me))
 (B:i<O.length:=by exact of_decide_eq_true rfl) (q:fR (.ListComp elt [⟨tg,iter,ifs,0⟩] scope pos) (some (.Name y pos')) tpos.line X.env=pure true:=by rfl)
 (s:X.fn y=true\/X.env.scope.names.lookup y=some .local:=by walk_at "hf")
 (hs:∀x,hV iter X.env x=pure x:=by intro _;rfl) (E:O.set i .own=O2:=by rfl):QS X (.Assign [.Name y pos'] (.ListComp elt [⟨tg,iter,ifs,0⟩] scope pos) tpos) (tS X.K rm Ol O O2 (aZ i (cA it g mc me nt ix))):=
 E ▸ QS.imp (Nb u l L S P I.h (λcl C Y Z fp=>(J cl C Y Z fp).h) (λcl C Y Z fp=>(z cl C Y Z fp).h) (λcl C Y Z fp=>(v cl C Y Z fp).h) q s hs) λD M H=>xx (λM H Q h=>Ac r p o h) B
end
noncomputable def my(i:Nat)(m:ME):MS:=λΓ=>(m Γ).bind λd=>match gv Γ i with
 | some (.list ds)=>gd (ds.length<ba/\i < Γ.length) (.ok (.nx (Γ.set i (some (.list (ds++[d]))))))
 | _=>.bad
noncomputable def Ow(i:Nat)(m:ME):MS:=λΓ=>(m Γ).bind λd=>match gv Γ i,d with
 | some (.list ds),.list es=>gd (ds.length+es.length<=ba/\i < Γ.length) (.ok (.nx (Γ.set i (some (.list (ds++es))))))
 | _,_=>.bad
noncomputable def Pr(i:Nat)(m m':ME):MS:=λΓ=>(m Γ).bind λk=>(m' Γ).bind λd=>match gv Γ i,k with
 | some (.list ds),.int j=>gd (0<=j/\j<=ds.length/\ds.length<1000/\i < Γ.length) (.ok (.nx (Γ.set i (some (.list (ds.take j.toNat++d::ds.drop j.toNat))))))
 | _,_=>.bad
variable {apos cpos:Pos}
section
variable      {p:Pos}
theorem rR(r:aY K A B H O σ Γ)(j:isO (fl O i)=true)(Z:gv Γ i=some (.list ds)):∃q vs,sv σ i=some (.ref q)/\H q=some (.lst vs)/\az K A ds vs:=by
 obtain ⟨d,q,o,Y,s,l,C,z,⟨p,vs,rfl,rfl,e⟩ | ⟨v,u,rfl,rfl,e⟩⟩:=r.mV j (by rw[Z];simp)
 rotate_right
 . rw[Z] at Y;cases Y
 rw[Z] at Y;cases Y;exact ⟨q,vs,s,l,e⟩
theorem jB(i:Nat)(U:QE X e (tE X.K O m))(Q:isO (fl O i)=true:=by rfl)(C:Nm X i x:=by walk_at "nm")(j:ll (.Name x p) "append" X.env (eval (.Name x p) X.env)=eval (.Name x p) X.env:=by rfl)
 (u:((lS cpos (dc (e::[]) X.env)).all (λx=>!x.1)&&(tj cpos (oj [] X.env)).all (λx=>x.1.isSome)
  && decide ((e::[]).length+([]:List nK).length+(if ([]:List nK).isEmpty then 0 else 1)<30))=true:=by rfl)
 (Z:(apos.endLine == cpos.line)=true:=by rfl) (hs:dc (e::[]) X.env=(false,eval e X.env)::dc [] X.env:=by rfl) (Y:(lS cpos (dc [] X.env)).any (·.1)=false:=by rfl)
 (J:fR (.Call (.Attribute (.Name x p) "append" apos) [e] [] cpos) none pos.line X.env=pure false:=by rfl) :
 QS X (.Expr (.Call (.Attribute (.Name x p) "append" apos) [e] [] cpos) pos) (tS X.K rm Ol O O (my i m)):=by
 refine QS.imp (qI (Hr l6 oz sP xJ (dJ C.1 C.2 C.3 C.4) (bV U.h eG hs) j u Z hs Y) J) λD σ H s=>?_;obtain ⟨A,B,P,o,r,em,k⟩:=s;obtain ⟨d,S,em⟩:=x8.au em
 cases z:gv P i with
 | none=>rw[z] at em;cases em
 | some dl=>
  rw[z] at em
  cases dl with
  | list ds=>
   obtain ⟨⟨hc,I⟩,em⟩:=b8 em;cases em;obtain ⟨q,L,M,E,R⟩:=rR r Q z;refine ⟨.ref q,dH M,.inl ⟨rfl,L,SqL.of E⟩,A,B,P,d,r,S,λv A1 H1 l p1=>⟨q,L,v,rfl,rfl,l.hh _ _ E,by rw[<- R.length];exact hc,?_⟩⟩;exact k σ A1 _ ((r.grow l).change Q I (by rw[z];simp) M (l.hh _ _ E) (.inl ⟨_,_,rfl,rfl,(az.mono l.aa _ R).append (az.one p1)⟩)) l.aa (l.nB r.b)
  | _=>cases em
theorem abT(i:Nat)(ha:QE X a (tE X.K O m))(hb:QE X b (tE X.K O m'))(hi:isO (fl O i)=true:=by rfl)(E:Nm X i x:=by walk_at "nm")(e:ll (.Name x p) "insert" X.env (eval (.Name x p) X.env)=eval (.Name x p) X.env:=by rfl)
 (s:((lS cpos (dc (a::[b]) X.env)).all (λx=>!x.1)&&(tj cpos (oj [] X.env)).all (λx=>x.1.isSome)
  && decide ((a::[b]).length+([]:List nK).length+(if ([]:List nK).isEmpty then 0 else 1)<30))=true:=by rfl)
 (Z:(apos.endLine == cpos.line)=true:=by rfl) (hs:dc (a::[b]) X.env=(false,eval a X.env)::dc [b] X.env:=by rfl) (I:dc (b::[]) X.env=(false,eval b X.env)::dc [] X.env:=by rfl) (Y:(lS cpos (dc [b] X.env)).any (·.1)=false:=by rfl)
 (Q:fR (.Call (.Attribute (.Name x p) "insert" apos) [a,b] [] cpos) none pos.line X.env=pure false:=by rfl) :
 QS X (.Expr (.Call (.Attribute (.Name x p) "insert" apos) [a,b] [] cpos) pos) (tS X.K rm Ol O O (Pr i m m')):=by
 refine QS.imp (qI (Hr l6 PySem.F.slot_list_insert PySem.F.type_list_insert S8 (dJ E.1 E.2 E.3 E.4) (bV ha.h (bV hb.h eG I) hs) e s Z hs Y) Q) λD σ H l=>?_;obtain ⟨A,B,M,o,r,em,k⟩:=l;obtain ⟨kd,e1,em⟩:=x8.au em;obtain ⟨d,e2,em⟩:=x8.au em
 cases C:gv M i with
 | none=>rw[C] at em;cases em
 | some dl=>
  rw[C] at em
  cases dl with
  | list ds=>
   cases kd with
   | int j=>
    obtain ⟨⟨R,hc2,hc3,P⟩,em⟩:=b8 em;cases em;obtain ⟨q,vs,U,L,h4⟩:=rR r hi C;have hl:=h4.length;refine ⟨.ref q,dH U,.inl ⟨rfl,vs,SqL.of L⟩,A,B,M,_,r,e1,λv A1 H1 J p1=>⟨A1,B,M,d,r.grow J,e2,λu A2 H2 S p2=>⟨q,vs,j,u,rfl,by rw[Rp.int.mp p1],(J.trans S).hh _ _ L,R,by lia,by lia,?_⟩⟩⟩;have z:=J.trans S;refine k σ A2 _ ((r.grow z).change hi P (by rw[C];simp) U (z.hh _ _ L) (.inl ⟨_,_,rfl,rfl,?_⟩)) z.aa (z.nB r.b);have h5:=az.mono z.aa _ h4;exact (h5.take _).append (az.cons.mpr ⟨u,_,rfl,p2,h5.drop _⟩)
   | _=>cases em
  | _=>cases em
end
noncomputable def intsOf:B4->Option B3
 | []=>some []
 | .int i::ds=>(intsOf ds).map (i :: ·)
 | _::_=>none
theorem Fp:∀{ds:B4}{ns:B3},intsOf ds=some ns->ds=ns.map ab.int
 | [],ns,h=>by cases h;rfl
 | .int i::ds,ns,h=>by
  unfold intsOf at h
  cases e:intsOf ds with
  | none=>rw[e] at h;cases h
  | some Y=>rw[e] at h;cases h;rw[Fp e];rfl
@[simp] theorem vp (ns:B3):intsOf (ns.map ab.int)=some ns:=by
 induction ns with
 | nil=>rfl
 | cons n ns Y=>rw[a7,intsOf,Y];rfl
noncomputable def boolsOf:B4->Option (List Bool)
 | []=>some []
 | .bool i::ds=>(boolsOf ds).map (i :: ·)
 | _::_=>none
theorem CK:∀{ds:B4}{ns:List Bool},boolsOf ds=some ns->ds=ns.map ab.bool
 | [],ns,h=>by cases h;rfl
 | .bool i::ds,ns,h=>by
  unfold boolsOf at h
  cases e:boolsOf ds with
  | none=>rw[e] at h;cases h
  | some Y=>rw[e] at h;cases h;rw[CK e];rfl
@[simp] theorem K9 (ns:List Bool):boolsOf (ns.map ab.bool)=some ns:=by
 induction ns with
 | nil=>rfl
 | cons n ns Y=>rw[a7,boolsOf,Y];rfl
noncomputable def Fg:B4->x8 ab
 | [.list ds]=>match intsOf ds with
  | some ns=>.ok (.int ns.sum)
  | none=>.bad
 | _=>.bad
noncomputable def U3:B4->x8 ab
 | [.list ds]=>match boolsOf ds with
  | some bs=>.ok (.bool (bs.all id))
  | none=>.bad
 | _=>.bad
theorem az.abS:∀{ns:B3}{vs:C0},az K A (ns.map ab.int) vs->vs=ns.map V.int
 | [],vs,h=>by rwa [ew,az.nil] at h
 | n::ns,vs,h=>by
  rw[a7,az.cons] at h;obtain ⟨v,r,rfl,Z,Y⟩:=h;rw[Rp.int.mp Z,Y.abS];rfl
theorem az.Ye:∀{ns:List Bool}{vs:C0},az K A (ns.map ab.bool) vs->vs=ns.map V.bl
 | [],vs,h=>by rwa [ew,az.nil] at h
 | n::ns,vs,h=>by
  rw[a7,az.cons] at h;obtain ⟨v,r,rfl,Z,Y⟩:=h;rw[Rp.bool.mp Z,Y.Ye];rfl
theorem Gx:∀{ns:B3}{us:B8},xi (ns.map V.int) us->IntsAre us ns
 | [],_,.nil=>.nil
 | n::ns,_,.cons r t=>by
  obtain ⟨Y,rfl⟩:=r;exact .cons n Y (Gx t)
theorem Cw:∀{ns:List Bool}{us:B8},xi (ns.map V.bl) us->us=ns.map a0.bool
 | [],_,.nil=>rfl
 | n::ns,_,.cons r t=>by
  rw[r,Cw t];rfl
theorem Ij(hc:X.calm=true):fJ X (.builtin "sum") (rC X.K Fg):=by
 rintro z s σ H xs us Q I r ⟨A,P,d,e,q,p,k⟩
 match P,e with
 | [.list es],e=>
  have Z:(match intsOf es with | some ns=>x8.ok (ab.int ns.sum) | none=>.bad)= .ok d:=e
  cases i:intsOf es with
  | none=>rw[i] at Z;cases Z
  | some ns=>
   rw[i] at Z;cases Z;obtain rfl:=Fp i;obtain ⟨v,r',rfl,O,p2⟩:=p.cons;obtain rfl:=p2.nil;obtain ⟨l,vs,rfl,E,U⟩:=O.list q;obtain rfl:=U.abS;obtain ⟨u,rfl,M⟩:=xi.one r;cases M;obtain ⟨D,S,pl,hz⟩:=I.list E;have B:=Gx S;have Y:=B.allInts;obtain ⟨C,j⟩:=Y.items;have L:=nums_intItems C;refine sum_intListG (I.ok.hd hc) (by rw[<- j];exact pl.isList) λh' tk J R=>?_;have o:numsOf (intItems C).toList=ns:=by
    rw[<- j];exact B.numsOf
   rw[L] at o;rw[preSum_eq,fA (by simp),o];exact ⟨.int ns.sum,H,I.kept R,⟨J,rfl⟩,k _ A H (aW.refl q) (Rp.int.mpr rfl)⟩
theorem LQ{A:g9}{bs:List Bool}:TruthOf P w A (λi v=>(bs.map a0.bool).toArray[i]?=some v) (λi=>bs.getD i false):=by
 intro i v s Q E j l;have Y:(bs.map a0.bool)[i]?=some v:=by simpa using j
 rw[a8] at Y
 cases e:bs[i]? with
 | none=>rw[e] at Y;cases Y
 | some b=>
  rw[e] at Y;cases Y;have Z:Q (bs.getD i false) s:=l;rw[ae,e] at Z;exact hJ Z
theorem all_range(bs:List Bool):((List.range bs.length).all λi=>bs.getD i false)=bs.all id:=by
 rw[nV,d3,d3];refine ⟨λh b e=>?_,λh i Z=>?_⟩
 . obtain ⟨i,Z,rfl⟩:=List.getElem_of_mem e;have:=h i (cE.mpr Z);rwa [ae,ai Z] at this
 . have Y:=cE.mp Z;rw[ae,ai Y];exact h _ (eL Y)
theorem abb(U:X.calm=true):fJ X (.builtin "all") (rC X.K U3):=by
 rintro C s σ H xs us Q I r ⟨A,O,d,e,B,p,k⟩
 match O,e with
 | [.list es],e=>
  have Y:(match boolsOf es with | some ns=>x8.ok (ab.bool (ns.all id)) | none=>.bad)= .ok d:=e
  cases Z:boolsOf es with
  | none=>rw[Z] at Y;cases Y
  | some bs=>
   rw[Z] at Y;cases Y;obtain rfl:=CK Z;obtain ⟨v,r',rfl,M,p2⟩:=p.cons;obtain rfl:=p2.nil;obtain ⟨l,vs,rfl,E,S⟩:=M.list B;obtain rfl:=S.Ye;obtain ⟨u,rfl,L⟩:=xi.one r;cases L;obtain ⟨D,R,pl,hz⟩:=I.list E;obtain rfl:=Cw R;have j:=pl.lt;refine call_all_walk (sC pl.isList ⟨_,_,_,_,_,_,λi=>bs.getD i false,rfl,Walks.list (A:=X.A.in1) (I.ok.hd U) s.heap.objs.size l (ef j) (bs.map a0.bool).toArray,⟨⟨_,cn _ rfl,rfl,rfl⟩,pl.isList.push _⟩,LQ,λh' tk P=>?_⟩);have J:(bs.map a0.bool).toArray.size=bs.length:=by simp
   rw[J,all_range];exact ⟨.bl _,H,I.kept λb o q=>P b o (λz=>absurd (ay.mp z) (ef (cm q))) (aE _ q),rfl,k _ A H (aW.refl B) (Rp.bool.mpr rfl)⟩
theorem QD{a:Addr}{ns:B3}{f:B4->x8 ab}{Y:Fl}{E:XK}(Z:f [.list (ns.map ab.int)]= .ok (.bool true))(e:SqL K H a (ns.map V.int)):spF K [Y] .f f [.ref a] H (λv _=>v= .bl true) E:=by
 refine ⟨H,[.list (ns.map ab.int)],.bool true,aF.refl _,⟨_,_,_,_,rfl,rfl,?_,rfl,rfl⟩,Z,λv i j g p=>(Rp.bool (K:=K) (A:=i)).mp p⟩;have q:=Rp.list.mpr ⟨a,_,rfl,e,az.ints⟩
 cases Y with
 | xo=>exact q
 | xl=>exact .inl q
 | own=>exact .inl q
 | fix l=>exact .inl q
 | exc C=>exact .inl q
 | nst b=>exact .inl q
 | kit=>exact .inl q
structure Mv (lo hi:Nat) (st st':SortSt):Prop where
 kind:kindOf st'=kindOf st
 failed:failedOf st'=failedOf st
 pend:pendingOf st'=pendingOf st
 perm:(arrOf st').Perm (arrOf st)
 out:∀i,i<lo\/hi<=i->mN (arrOf st') i=mN (arrOf st) i
def Seg(a:Array Keyed)(lo hi:Nat):Prop:=∀i j,lo<=i->i<=j->j<hi->mN a i<=mN a j
theorem Mv.trans{Y:Nat}{a b c:SortSt}(x:Mv j Y a b)(y:Mv j Y b c):Mv j Y a c:=
 ⟨y.kind.trans x.kind,y.failed.trans x.failed,y.pend.trans x.pend,y.perm.trans x.perm,λi h=>(y.out i h).trans (x.out i h)⟩
section
variable   {A:g9}
local macro_rules | `(tactic| walk_at "up_eq")=>`(tactic| (refine congrArg (_ >>= ·) (funext fun _=>?_);refine congrArg (_ >>= ·) (funext fun c=>?_);obtain ⟨r,m⟩:=c;cases r <;> rfl))
end
def leK(p q:Keyed):Prop:=numOf p.1<=numOf q.1
theorem abB{a:Array Keyed}(Y:i<a.size):mN a i=numOf a[i].1:=by rw[mN,getElem?_pos a i Y]
theorem Seg.pw{a:Array Keyed}(h:Seg a 0 a.size):a.toList.Pairwise leK:=by
 rw[List.pairwise_iff_getElem];intro i j e o l;have Z:=by simpa using e
 have Y:=by simpa using o
 have:=h i j (by lia) (by lia) Y;rw[abB Z,abB Y] at this;simpa[leK] using this
def Rn(a:Array Keyed):Nat->List (Nat×Nat×Nat)->Nat->Prop
 | lo,[],hi=>lo=hi
 | lo,(u,n,_)::r,hi=>u=lo/\1<=n/\Seg a u (u+n)/\Rn a (u+n) r hi
theorem Rn.le{a:Array Keyed}:∀{p:List (Nat×Nat×Nat)}{lo hi:Nat},Rn a lo p hi->lo+p.length<=hi
 | [],lo,hi,h=>by have:lo=hi:=h;simp;lia
 | (u,n,q)::r,lo,hi,⟨e,Z,i,Y⟩=>by have:=Rn.le Y;simp;lia
noncomputable def insI(x:Int):B3->B3
 | []=>[x]
 | y::ys=>if x<=y then x::y::ys else y::insI x ys
noncomputable def srt:B3->B3
 | []=>[]
 | x::xs=>insI x (srt xs)
theorem insI_perm(x:Int):∀ys:B3,(insI x ys).Perm (x::ys)
 | []=>.refl _
 | y::ys=>by
  unfold insI
  by_cases h:x<=y
  . rw[if_pos h]
  . rw[if_neg h];exact ((insI_perm x ys).cons y).trans (.swap ..)
theorem Aa:∀xs:B3,(srt xs).Perm xs
 | []=>.refl _
 | x::xs=>(insI_perm x (srt xs)).trans ((Aa xs).cons x)
theorem zW(x:Int):∀{ys:B3},ys.Pairwise (· <= ·)->(insI x ys).Pairwise (· <= ·)
 | [],_=>List.pairwise_singleton _ _
 | y::ys,h=>by
  unfold insI;have Z:=(n9.mp h)
  by_cases Y:x<=y
  . rw[if_pos Y];refine n9.mpr ⟨λz hz=>?_,h⟩;rcases bE.mp hz with rfl | hz
    . exact Y
    . exact xb Y (Z.1 z hz)
  . rw[if_neg Y];refine n9.mpr ⟨λz hz=>?_,zW x Z.2⟩;rcases bE.mp ((insI_perm x ys).mem_iff.mp hz) with rfl | hz
    . lia
    . exact Z.1 z hz
theorem Cp:∀xs:B3,(srt xs).Pairwise (· <= ·)
 | []=>.nil
 | x::xs=>zW x (Cp xs)
open Classical in
noncomputable def eqR(h:Heap)(x:ab)(y:a0):Bool:=if q:∃d as,Reads h y d as/\d.canLay0=true then eP (tz q) x else false
variable {h:Heap}
theorem Tg{x d:ab}{y:a0}{as:C2}(r:Reads h y d as)(hd:d.canLay0=true):eqR h x y=eP d x:=by
 unfold eqR;have q:∃d as,Reads h y d as/\d.canLay0=true:=⟨d,as,r,hd⟩;rw[dif_pos q];obtain ⟨Z,Y,e⟩:=Classical.choose_spec q;rw[(PySem.Reads.unique Y d as r).1]
theorem anyR{x:ab}:∀{us:B8}{ds:B4}{as:C2},ReadsAll h us ds as->gi ds=true->us.any (eqR h x)=ds.any λd=>eP d x
 | _,_,_,.nil,_=>rfl
 | _,_,_,.cons r Y,c=>by
  rw[gi,c9] at c;rw[iq,iq,Tg r c.1,anyR Y c.2]
theorem aca:∀{us:B8}{ds:B4}{as:C2}{u:a0},ReadsAll h us ds as->u∈us->∃d as,d∈ds/\Reads h u d as
 | _,_,_,u,.nil,m=>nomatch m
 | _,_,_,u,.cons r Y,m=>by
  rcases bE.mp m with rfl | m
  . exact ⟨_,_,bg,r⟩
  . obtain ⟨Z,as,i,e⟩:=aca Y m;exact ⟨Z,as,bq _ i,e⟩
noncomputable def inB(a:ab)(ds:B4):Bool:=ds.any λy=>eP y a
noncomputable def inX:ab->ab->x8 ab
 | a,.list ds=>gd (dr a=true/\ds.all dr=true) (.ok (.bool (inB a ds)))
 | a,.tuple ds=>gd (dr a=true/\ds.all dr=true) (.ok (.bool (inB a ds)))
 | _,_=>.bad
noncomputable def TJ:ab->ab->x8 ab
 | a,.list ds=>gd (dr a=true/\ds.all dr=true) (.ok (.bool (!inB a ds)))
 | a,.tuple ds=>gd (dr a=true/\ds.all dr=true) (.ok (.bool (!inB a ds)))
 | _,_=>.bad
theorem Eo:∀{ds:B4},ds.all dr=true->gi ds=true
 | [],_=>by rw[gi]
 | d::ds,h=>by
  rw[qa,c9] at h;rw[gi,kD h.1,Eo h.2];rfl
theorem IW{d:ab}(h:dr d=true):d.depth<=64:=by
 unfold dr at h;rw[c9] at h;exact of_decide_eq_true h.2
variable {x2:A7}
theorem Bo{Y:ab}{x:V}{v:a0}{Z:B8}(J:X.A.units+66<h7)(I:x9 X x2 σ H s)(u:xh x v)(p:aF A H)
 (B:Pk X.K A H Y x) (q:dr Y=true) (j:ds.all dr=true) (E:az X.K A ds vs) (r:xi vs Z) :
 (∀y,y∈Z.toArray->SeqAt.EqAt X.A.in1 s y v (eqR s.heap Y y))/\Z.toArray.any (eqR s.heap Y)=inB Y ds:=by
 obtain ⟨as,D⟩:=Is.reads I Y (B.is p q) u;obtain ⟨bs,o⟩:=fj.reads I ds (fj.mono p ds (az.is ds (Eo j) E)) r;refine ⟨λy z=>?_,by rw[List.any_toArray,anyR o (Eo j)];rfl⟩;obtain ⟨d,C,hd,l⟩:=aca o (by simpa using z);have i:=d3.mp j d hd;rw[Tg l (kD i)];refine SeqAt.eqAt_reads d Y X.A.in1 s y v C as l D (kD i) (kD q) ?_;have:=IW i;have e:X.A.in1.units=X.A.units+1:=rfl;have:=Nat.min_le_left d.depth Y.depth;lia
theorem Rj(M:X.A.units+66<h7):OpR X (eD .In) (rD X.K inX):=by
 rintro E s U H x y v u Q I J C ⟨A,D,R,d,e,Y,L,p2,k⟩
 cases R with
 | list S=>
  obtain ⟨⟨B,z⟩,e⟩:=b8 e;have Z:=x8.ok.inj e;subst Z;obtain ⟨l,O,rfl,o,p⟩:=p2.list Y;cases C;obtain ⟨i,r,pl,P⟩:=I.list o;obtain ⟨q,j⟩:=Bo M I J Y L B z p r;refine SeqAt.in_listAt (eqR s.heap D) pl.isList q ?_;rw[j];exact ⟨.bl _,H,I,rfl,k _ A H (aW.refl Y) (Rp.bool.mpr rfl)⟩
 | tuple S=>
  obtain ⟨⟨B,z⟩,e⟩:=b8 e;have Z:=x8.ok.inj e;subst Z;obtain ⟨l,O,rfl,o,p⟩:=p2.tuple Y;cases C;obtain ⟨i,r,pl,P⟩:=I.tuple o;obtain ⟨q,j⟩:=Bo M I J Y L B z p r;refine SeqAt.in_tupleAt (eqR s.heap D) (pl) q ?_;rw[j];exact ⟨.bl _,H,I,rfl,k _ A H (aW.refl Y) (Rp.bool.mpr rfl)⟩
 | _=>cases e
theorem Gu(M:X.A.units+66<h7):OpR X (eD .NotIn) (rD X.K TJ):=by
 rintro E s U H x y v u Q I J C ⟨A,D,R,d,e,Y,L,p2,k⟩
 cases R with
 | list S=>
  obtain ⟨⟨B,z⟩,e⟩:=b8 e;have Z:=x8.ok.inj e;subst Z;obtain ⟨l,O,rfl,o,p⟩:=p2.list Y;cases C;obtain ⟨i,r,pl,P⟩:=I.list o;obtain ⟨q,j⟩:=Bo M I J Y L B z p r;refine SeqAt.notIn_listAt (eqR s.heap D) pl.isList q ?_;rw[j];exact ⟨.bl _,H,I,rfl,k _ A H (aW.refl Y) (Rp.bool.mpr rfl)⟩
 | tuple S=>
  obtain ⟨⟨B,z⟩,e⟩:=b8 e;have Z:=x8.ok.inj e;subst Z;obtain ⟨l,O,rfl,o,p⟩:=p2.tuple Y;cases C;obtain ⟨i,r,pl,P⟩:=I.tuple o;obtain ⟨q,j⟩:=Bo M I J Y L B z p r;refine SeqAt.notIn_tupleAt (eqR s.heap D) (pl) q ?_;rw[j];exact ⟨.bl _,H,I,rfl,k _ A H (aW.refl Y) (Rp.bool.mpr rfl)⟩
 | _=>cases e
theorem _root_.Zq.dB.cW{A:g9}(r:dB i A):A.units+66<h7:=by have:=r.un;lia
noncomputable def cP(key:Key):B0->Option ab
 | []=>none
 | (k,d)::r=>if bM k=some key then some d else cP key r
noncomputable def nR(key:Key):B0->Bool
 | []=>false
 | (k,_)::r=>if bM k=some key then true else nR key r
noncomputable def ur(key:Key)(x:ab):B0->B0
 | []=>[]
 | (k,d)::r=>(if bM k=some key then (k,x) else (k,d))::ur key x r
noncomputable def gJ(kd:ab)(key:Key)(x:ab)(x3:B0):B0:=if nR key x3=true then ur key x x3 else x3++[(kd,x)]
theorem mR{k:ab}{key Y:Key}(h:bM k=some Y):bM k=some key↔Y=key:=by rw[h];simp
variable {kd:ab}{x3:B0}{u:A8}
section
variable   {key:Key}
theorem bj.look:∀{x3:B0}{u:A8},bj K A x3 u->(∀d,cP key x3=some d->∃v,gq u key=some v/\Rp K A d v)/\(cP key x3=none->gq u key=none)
 | [],u,h=>by
  rw[bj.nil] at h;subst h;exact ⟨λd e=>(nomatch e),λ_=>rfl⟩
 | (k,d)::r,u,h=>by
  obtain ⟨Z,v,l,rfl,i,hd,j⟩:=bj.cons.mp h;unfold cP
  by_cases e:bM k=some key
  . have Y:=(mR i).mp e;rw[if_pos e];exact ⟨λo z=>by cases z;exact ⟨v,nO Y,hd⟩,λz=>(nomatch z)⟩
  . have Y:=λz=>e ((mR i).mpr z);rw[if_neg e,nY Y];exact bj.look j
theorem bj.has:∀{x3:B0}{u:A8},bj K A x3 u->(u.any λi=>decide (i.1=key))=nR key x3
 | [],u,h=>by rw[bj.nil] at h;subst h;rfl
 | (k,d)::r,u,h=>by
  obtain ⟨Y,v,l,rfl,Z,hd,j⟩:=bj.cons.mp h;rw[nR,iq,bj.has j]
  by_cases e:bM k=some key
  . rw[if_pos e,decide_eq_true ((mR Z).mp e)];rfl
  . rw[if_neg e,decide_eq_false λz=>e ((mR Z).mpr z)];rfl
theorem bj.set{w:V}(j:Rp K A kd w):∀{x3:B0}{u:A8},bj K A x3 u->bj K A (ur key kd x3) (u.map λi=>if i.1=key then (i.1,w) else i)
 | [],u,h=>by rw[bj.nil] at h;subst h;exact bj.nil.mpr rfl
 | (k,d)::r,u,h=>by
  obtain ⟨Y,v,o,rfl,Z,hd,l⟩:=bj.cons.mp h;rw[ur,a7]
  by_cases e:bM k=some key
  . rw[if_pos e,if_pos ((mR Z).mp e)];exact bj.cons.mpr ⟨Y,w,_,rfl,Z,j,bj.set j l⟩
  . rw[if_neg e,if_neg λz=>e ((mR Z).mpr z)];exact bj.cons.mpr ⟨Y,v,_,rfl,Z,hd,bj.set j l⟩
theorem bj.snoc{x:ab}{w:V}(i:bM kd=some key)(e:Rp K A x w):∀{x3:B0}{u:A8},bj K A x3 u->bj K A (x3++[(kd,x)]) (u++[(key,w)])
 | [],u,h=>by rw[bj.nil] at h;subst h;exact bj.cons.mpr ⟨key,w,[],rfl,i,e,bj.nil.mpr rfl⟩
 | (k,d)::r,u,h=>by
  obtain ⟨Y,v,l,rfl,Z,hd,j⟩:=bj.cons.mp h;exact bj.cons.mpr ⟨Y,v,_,rfl,Z,hd,bj.snoc i e j⟩
theorem bj.put{x:ab}(Z:bM kd=some key)(Y:Rp K A x v)(h:bj K A x3 u):bj K A (gJ kd key x x3) (putK u key v):=by
 unfold gJ putK;rw[h.has]
 by_cases e:nR key x3=true
 . rw[if_pos e,if_pos e];exact h.set Y
 . rw[if_neg e,if_neg e];exact h.snoc Z Y
theorem bj.length:∀{x3:B0}{u:A8},bj K A x3 u->x3.length=u.length
 | [],u,h=>by rw[bj.nil] at h;subst h;rfl
 | (k,d)::r,u,h=>by
  obtain ⟨Y,v,e,rfl,_,_,Z⟩:=bj.cons.mp h;rw[a6,a6,bj.length Z]
end
noncomputable def inY:ab->ab->x8 ab
 | a,.dict x3=>match bM a with
  | some key=>.ok (.bool (cP key x3).isSome)
  | none=>.bad
 | a,b=>inX a b
noncomputable def lK:ab->ab->x8 ab
 | a,.dict x3=>match bM a with
  | some key=>.ok (.bool (!(cP key x3).isSome))
  | none=>.bad
 | a,b=>TJ a b
theorem Pk.key{key:Key}(p:Pk K A H kd v)(h:bM kd=some key):v=kV key:=by
 cases kd with
 | int i=>cases h;exact p.int
 | str x=>cases h;exact p.str
 | _=>cases h
theorem bj.some{key:Key}(h:bj K A x3 u):(gq u key).isSome=(cP key x3).isSome:=by
 have:=h.look (key:=key)
 cases e:cP key x3 with
 | none=>rw[this.2 e];rfl
 | some d=>obtain ⟨v,Y,_⟩:=this.1 d e;rw[Y];rfl
theorem Tq(B:X.A.units+66<h7):OpR X (eD .In) (rD X.K inY):=by
 rintro Y s C H x y v u Q I Z o ⟨A,j,E,d,e,i,p,p2,k⟩
 cases E with
 | dict r=>
  have e:(match bM j with | some key=>x8.ok (ab.bool (cP key r).isSome) | none=>.bad)= .ok d:=e
  cases z:bM j with
  | none=>rw[z] at e;cases e
  | some key=>
   rw[z] at e;cases e;obtain ⟨l,w,rfl,L,J⟩:=p2.dict i;cases o;rw[p.key z] at Z;exact afv (by lia) I ((gz ⟨_,key,L,rfl,rfl⟩)) Z λM D=>⟨.bl _,H,D,rfl,k _ A H (aW.refl i) (Rp.bool.mpr (by rw[J.some]))⟩
 | list q=>exact Rj B Y s C H x y v u Q I Z o ⟨A,j,.list q,d,e,i,p,p2,k⟩
 | tuple q=>exact Rj B Y s C H x y v u Q I Z o ⟨A,j,.tuple q,d,e,i,p,p2,k⟩
 | _=>cases e
theorem pA(B:X.A.units+66<h7):OpR X (eD .NotIn) (rD X.K lK):=by
 rintro Y s C H x y v u Q I Z o ⟨A,j,E,d,e,i,p,p2,k⟩
 cases E with
 | dict r=>
  have e:(match bM j with | some key=>x8.ok (ab.bool (!(cP key r).isSome)) | none=>.bad)= .ok d:=e
  cases z:bM j with
  | none=>rw[z] at e;cases e
  | some key=>
   rw[z] at e;cases e;obtain ⟨l,w,rfl,L,J⟩:=p2.dict i;cases o;rw[p.key z] at Z;exact aao (by lia) I ((gz ⟨_,key,L,rfl,rfl⟩)) Z λM D=>⟨.bl _,H,D,rfl,k _ A H (aW.refl i) (Rp.bool.mpr (by rw[J.some]))⟩
 | list q=>exact Gu B Y s C H x y v u Q I Z o ⟨A,j,.list q,d,e,i,p,p2,k⟩
 | tuple q=>exact Gu B Y s C H x y v u Q I Z o ⟨A,j,.tuple q,d,e,i,p,p2,k⟩
 | _=>cases e
noncomputable def iW(i:Nat)(mk mv:ME):MS:=λΓ=>(mv Γ).bind λx=>(mk Γ).bind λkd=>match gv Γ i with
 | some (.dict x3)=>match bM kd with
  | some key=>gd (x3.length<ba/\i < Γ.length) (.ok (.nx (Γ.set i (some (.dict (gJ kd key x x3))))))
  | none=>.bad
 | _=>.bad
section
variable      {p:Pos}
theorem vV(r:aY K A B H O σ Γ)(j:isO (fl O i)=true)(Z:gv Γ i=some (.dict x3)):∃q u,sv σ i=some (.ref q)/\H q=some (.dK u)/\bj K A x3 u:=by
 obtain ⟨d,q,o,Y,s,l,z,v,⟨p,C,rfl,rfl,e⟩ | ⟨x3,u,rfl,rfl,e⟩⟩:=r.mV j (by rw[Z];simp)
 . rw[Z] at Y;cases Y
 . rw[Z] at Y;cases Y;exact ⟨q,u,s,l,e⟩
theorem Rp.key{key:Key}(p:Rp K A kd v)(h:bM kd=some key):v=kV key:=Pk.key (H:=A) (.inl p) h
theorem qN(i:Nat)(hu:X.A.units+66<h7)(ha:QE X a (tE X.K O m))(he:QE X e (tE X.K O m'))(M:isO (fl O i)=true:=by rfl)(p:Nm X i x:=by walk_at "nm")(hs:fR e (some (.Subscript (.Name x pos') a tpos)) pos.line X.env=pure false:=by rfl) :
 QS X (.Assign [.Subscript (.Name x pos') a tpos] e pos) (tS X.K rm Ol O O (iW i m m')):=by
 refine QS.imp (Oq (by lia) (dJ p.1 p.2 p.3 p.4) ha.h he.h hs) λD σ H j=>?_;obtain ⟨A,B,z,o,r,em,k⟩:=j;obtain ⟨d,Q,em⟩:=x8.au em;obtain ⟨kd,S,em⟩:=x8.au em
 cases l:gv z i with
 | none=>rw[l] at em;cases em
 | some dl=>
  rw[l] at em
  cases dl with
  | dict x3=>
   have Y:=em
   cases s:bM kd with
   | none=>rw[s] at Y;cases Y
   | some key=>
    rw[s] at Y;obtain ⟨⟨R,C⟩,Y⟩:=b8 Y;cases Y;obtain ⟨q,u,J,L,P⟩:=vV r M l;refine ⟨A,B,z,d,r,Q,λv A1 H1 E p1=>⟨.ref q,dH J,A1,B,z,_,r.grow E,S,λw U H2 I p2=>?_⟩⟩;have Z:=E.trans I;refine ⟨q,_,rfl,by rw[Rp.key p2 s];exact xP.k (Z.hh _ _ L) (by rw[<- P.length];exact R),?_⟩;exact k σ U _ ((r.grow Z).change M C (by rw[l];simp) J (Z.hh _ _ L) (.inr ⟨_,_,rfl,rfl,bj.put s (Rp.mono I.aa _ p1) (bj.mono Z.aa _ P)⟩)) Z.aa (Z.nB r.b)
  | _=>cases em
end
noncomputable def ixY:ab->ab->x8 ab
 | .dict x3,a=>match bM a with
  | some key=>match cP key x3 with
   | some d=>.ok d
   | none=>.bad
  | none=>.bad
 | a,b=>xt a b
theorem YC:IxR X (λx y H Q=>∃a v,x= .ref a/\vI H a y (some v)/\X.A.units+1<h7/\Q v H):=by
 intro i e Z s o H x y v u Q I p B h D;obtain ⟨a,w,rfl,g,E,q⟩:=h;cases p;have hT:=Mr I g;refine ag ?_;rw[kQ hT.not_modules];refine ag (iS hT iX.lookup ?_);have fin:de (dt X.prog X.w) X.A (mI e false (.ref a) u) (λr Y=>de (dt X.prog X.w) X.A (oC i (.ref a) r >>= λ_=>pure r) (EP X Z o Q) X.xe Y) X.xe s:=by
  rw[D];exact nS (fy (Ua E I g B λC J z l=>(⟨w,H,z,l,q⟩:EP X Z o Q C J)) (λr Y j=>ag (k9 (a9 j))) λ_ _ x=>x)
 first
  | exact a9 (ag fin)
  | exact ag (a9 (ag fin))
  | exact ag fin
theorem ac9(U:X.A.units+66<h7):IxR X (rD X.K ixY):=by
 intro Y Z i s D H x y v u Q I z r L C;obtain ⟨A,P,p,d,e,o,B,p2,k⟩:=L
 cases P with
 | dict j=>
  have e:(match bM p with | some key=>(match cP key j with | some d=>x8.ok d | none=>.bad) | none=>.bad)= .ok d:=e
  cases J:bM p with
  | none=>rw[J] at e;cases e
  | some key=>
   rw[J] at e;have e:(match cP key j with | some d=>x8.ok d | none=>.bad)= .ok d:=e
   cases E:cP key j with
   | none=>rw[E] at e;cases e
   | some d0=>
    rw[E] at e;cases e;obtain ⟨l,w,rfl,O,M⟩:=B.dict o;obtain ⟨S,ev,R⟩:=(M.look).1 d E;refine YC Y Z i s D H _ y v u Q I z r ⟨l,S,rfl,?_,by lia,k _ A H (aW.refl o) R⟩ C;rw[p2.key J,<- ev];exact (.inl ⟨_,_,O,rfl,rfl⟩)
 | list q=>exact Hs Y Z i s D H x y v u Q I z r ⟨A,.list q,p,d,e,o,B,p2,k⟩ C
 | tuple q=>exact Hs Y Z i s D H x y v u Q I z r ⟨A,.tuple q,p,d,e,o,B,p2,k⟩ C
 | str q=>exact Hs Y Z i s D H x y v u Q I z r ⟨A,.str q,p,d,e,o,B,p2,k⟩ C
 | _=>cases e
theorem pB(Z:X.A.units+66<h7)(Y:QE X a (tP X.K O m1))(e:QE X b (tP X.K O m2))(hs:lA b):QE X (.Subscript a b pos) (tE X.K O (ao ixY m1 m2)):=QE.imp (Dl (ac9 Z) Y.h e.h hs) λ_ _ _=>xK
theorem Lk:fJ X (.type "range") (λxs H Q=>∃n,xs=[.int n]/\∀p,H p=none->Q (.ref p) (xk H p (.rng 0 n))):=by
 rintro Y s i H xs Z Q I r ⟨n,rfl,q⟩;obtain ⟨z,rfl,t,rfl⟩:=vals1 r;refine call_range_1 ⟨.ref s.heap.objs.size,_,I.laid (o:=.rng 0 n) (λb o e=>aE _ e) (ax _) ⟨_,_,_,cn _ rfl⟩,rfl,q _ (I.xw.fresh (ax _))⟩
theorem Ot(S:X.calm=true):fJ X (.type "list") (λxs H Q=>∃p n,xs=[.ref p]/\H p=some (.rng 0 n)/\(-(2^20)<=n/\n<=2^20)/\∀l,H l=none->Q (.ref l) (xk H l (.lst ((List.range n.toNat).map λi=>V.int (i:Nat))))):=by
 rintro D s σ H xs us Q I r ⟨p,n,rfl,M,U,q⟩;obtain ⟨z,rfl,O⟩:=vals1 r;cases O;obtain ⟨t,u,v,J⟩:=(I.xw p _ M);refine call_list_range (n:=n.toNat) (I.ok.hd S) (J) (small_one (by decide) (by decide) (by lia) (by lia)) (by rw[rangeSize_one];split <;> lia) (by lia) λh' tk Z c R P Y=>⟨.ref s.heap.objs.size,_,I.laid (o:=.lst ((List.range n.toNat).map λi=>V.int (i:Nat))) R (ax _) ⟨?_,Z.toList,c,?_,by simpa using P⟩,rfl,q _ (I.xw.fresh (ax _))⟩
 . rw[af,cx,PySem.sizeLine_eq];lia
 . have E:∀(m:Nat) vs,vs.length=m->(∀(j:Nat) v,vs[j]?=some v->∃t,v=a0.int (0+j*1) t)->∀k:Nat,(∀(j:Nat) v,vs[j]?=some v->∃t,v=a0.int (0+j*1) t)->xi ((List.range m).map λi=>V.int (i:Nat)) vs:=by
    intro m
    induction m with
    | zero=>intro vs h _ _ _;rw[kb.mp h];exact .nil
    | succ m L=>
     intro vs C g k _;rw[kr,aS];obtain ⟨ws,x,rfl⟩:∃ws x,vs=ws++[x]:=⟨vs.dropLast,vs.getLast (by intro z;rw[z] at C;cases C),(rg _).symm⟩;have B:=by simpa using C
     refine xi.append (L ws B (λj v e=>g j v (by rw[bX (aI.mp e).1];exact e)) 0 λj v e=>g j v (by rw[bX (aI.mp e).1];exact e)) (.cons ?_ .nil);obtain ⟨t,e⟩:=g m x (by rw[be (by lia)];simp[B]);exact ⟨t,by rw[e];congr 1;lia⟩
   have g:=λj v e=>Y.2 j v (by rw[<- Array.getElem?_toList];exact e);exact E n.toNat Z.toList (by rw[ly];exact Y.1) g 0 g
noncomputable def lrD:ab->x8 ab
 | .int n=>gd (-(2^20)<=n/\n<=2^20) (.ok (.list ((List.range n.toNat).map λi=>ab.int (i:Nat))))
 | _=>.bad
theorem az.range{K:av}{A:Hp}:az K A ((List.range j).map λi=>ab.int (i:Nat)) ((List.range j).map λi=>V.int (i:Nat)):=by
 have:=az.ints (K:=K) (A:=A) (ns:=(List.range j).map λi=>((i:Nat):Int));rwa [cy,cy] at this
theorem Gj(hc:X.calm=true)(C:Gl X "list")(L:X.mg "list"= none)(I:eh "list"= some (.type "list"))(p:Gl X "range")(s:X.mg "range"= none)(J:eh "range"= some (.type "range"))(S:QE X e (tP X.K O m))
 (Y:xB e=true:=by rfl):QE X (.Call (.Name "list" pos') [.Call (.Name "range" tpos) [e] [] apos] [] pos) (tF X.K O (eUn lrD m)):=by
 refine QE.imp (sY (Ot hc) C L I (bV (sY Lk p s J (bV S.h eG (cR Y)) (by decide) (by decide) (cR Y) (jx rfl)) eG)) λσ H Q Z=>?_;obtain ⟨A,B,P,d,r,em,k⟩:=Z;obtain ⟨d1,e1,em⟩:=x8.au em
 cases d1 with
 | int n=>
  obtain ⟨M,em⟩:=b8 em;cases em;refine ⟨A,B,P,_,r,e1,λv U R u p1=>⟨n,by rw[p1.int],λq hq=>⟨q,n,rfl,aX,M,λl j=>?_⟩⟩⟩;have D:R l=none:=by
   by_cases z:l=q
   . subst z;rw[aX] at j;cases j
   . rwa [aG z] at j
  have E:=aW.lay (o:=HO.rng 0 n) u.ah hq;have g3:=aW.lay (o:=HO.lst ((List.range n.toNat).map λi=>V.int (i:Nat))) E.ah j;exact k _ U _ (u.trans (E.trans g3)) ⟨l,_,rfl,u.hh.free D,aX,E.ah.free j,.inl ⟨_,_,rfl,rfl,az.range⟩⟩
 | _=>cases em
noncomputable def rem(H:Hp)(p:Addr):Hp:=λb=>if b=p then none else H b
theorem Kz:rem H p p=none:=if_pos rfl
theorem pN{b:Addr}(h:b≠p):rem H p b=H b:=if_neg h
theorem aaW:aF (rem H p) H:=λb o e=>by
 by_cases h:b=p
 . subst h;rw[Kz] at e;cases e
 . rwa [pN h] at e
theorem ou(s:aF B H)(Y:B p=none):aF B (rem H p):=λb o e=>by
 have h:b≠p:=λz=>by rw[z,Y] at e;cases e
 rw[pN h];exact s b o e
theorem Yw(h:gv Γ i≠none):i < Γ.length:=by
 rcases ff i Γ.length with z | z
 . exact z
 . exact absurd (by rw[gv,ae,eg z];rfl) h
theorem aY.abH(r:aY K A B H O σ Γ)(l:isO (fl O i)=true)(L:gv Γ i≠none)(hs:sv σ i=some (.ref p))(v:aF A A')(ah:aF A' H')(D:∀b u,b≠p->H b=some u->H' b=some u)(nw:New A A' H)
 (ap:A' p=none) (hp:H' p=some o) (ho:iU K A' kd o):aY K A' B H' O σ (Γ.set i (some kd)):=by
 obtain ⟨d,Z,o0,e1,e2,g1,g2,g3,g4⟩:=r.mV l L;rw[hs] at e2;cases e2;have hl:=Yw L;refine ⟨ah,λb u q=>?_,by rw[eJ];exact r.len,λj=>?_,λj k hjk q1 q2 q3 q4=>?_⟩
 . have hb:b≠p:=λz=>by rw[z,g3] at q;cases q
   exact D b u hb (r.b b u q)
 . by_cases I:i=j
   . subst I;rw[gv,bI hl];intro s e;cases e;refine ⟨_,hs,?_⟩
     cases Y:fl O i with
     | xo=>rw[Y] at l;cases l
     | xl=>rw[Y] at l;cases l
     | own=>exact ⟨p,o,rfl,hp,ap,g3,ho⟩
     | fix p0=>
      obtain ⟨S,ev,q⟩:=r.slot i d e1;rw[Y] at q;rw[hs] at ev;cases ev;exact ⟨q.1,p,o,rfl,hp,ap,g3,ho⟩
     | exc C=>rw[Y] at l;cases l
     | nst b=>rw[Y] at l;cases l
     | kit=>rw[Y] at l;cases l
   . rw[gv,aR I];intro s M;obtain ⟨S,ev,q⟩:=r.slot j s M;refine ⟨S,ev,?_⟩;have P:isO (fl O j)=true->∀Z,S= .ref Z->Z≠p:=λY Z ez z=>by
      refine r.sep i j I l Y L (by rw[gv,M];simp) ?_;rw[hs,ev,ez,z]
     cases Y:fl O j with
     | xo=>rw[Y] at q;exact Rp.mono v s q
     | xl=>rw[Y] at q;exact Pk.mono v (aF.refl _) q
     | own=>
      rw[Y] at q;obtain ⟨Z,o,rfl,J,u2,U,R⟩:=q;exact ⟨Z,o,rfl,D _ _ (P (by rw[Y];rfl) Z rfl) J,nw Z u2 (by rw[J];simp),U,R.mono v⟩
     | fix p0=>
      rw[Y] at q;obtain ⟨q0,Z,o,rfl,J,u2,U,R⟩:=q;exact ⟨q0,Z,o,rfl,D _ _ (P (by rw[Y];rfl) Z rfl) J,nw Z u2 (by rw[J];simp),U,R.mono v⟩
     | kit=>rw[Y] at q;exact pX.mono v q
     | exc C=>
      rw[Y] at q;obtain ⟨Z,ob,w1,w2,E⟩:=q;exact ⟨Z,ob,w1,v _ _ w2,E⟩
     | nst b=>
      rw[Y] at q;intro z;obtain ⟨Z,xs,x3,w1,w2,E,w4,w5,w6⟩:=q z;have hn:Z≠p:=λz=>by subst z;rw[g1] at E;exact g4.nx E
      exact ⟨Z,xs,x3,w1,w2,D _ _ hn E,nw Z w4 (by rw[E];simp),w5,w6.mono v⟩
 . have h3:gv Γ j≠none:=by
    by_cases I:i=j
    . subst I;exact L
    . unfold gv at q3 ⊢;rwa [aR I] at q3
   have Q:gv Γ k≠none:=by
    by_cases D:i=k
    . subst D;exact L
    . unfold gv at q4 ⊢;rwa [aR D] at q4
   exact r.sep j k hjk q1 q2 h3 Q
inductive MA where
 | xo | xl | var (i:Nat) | new
def O6(K:av)(A B:Hp)(σ:St)(Γ:Ev)(H0 H:Hp):MA->ab->V->Prop
 | .xo,d,v=>Rp K A d v
 | .xl,d,v=>Pk K A B d v
 | .var i,d,v=>sv σ i=some v/\gv Γ i=some d
 | .new,d,v=>∃p o,v= .ref p/\H0 p=none/\H p=some o/\A p=none/\iU K A d o
def o7(K:av)(A B:Hp)(σ:St)(Γ:Ev)(H0 H:Hp):List MA->B4->C0->Prop
 | [],ds,vs=>ds=[]/\vs=[]
 | a::as,ds,vs=>∃d r v s,ds=d::r/\vs=v::s/\O6 K A B σ Γ H0 H a d v/\o7 K A B σ Γ H0 H as r s
section
variable  {H0:Hp}
theorem o7.base(s:aF H0 H):∀{as:List MA}{ds:B4}{vs:C0},o7 K A B σ Γ H H' as ds vs->o7 K A B σ Γ H0 H' as ds vs
 | [],ds,vs,h=>h
 | a::as,ds,vs,h=>by
  obtain ⟨d,r,v,t,rfl,rfl,Y,j⟩:=h;refine ⟨d,r,v,t,rfl,rfl,?_,o7.base s j⟩
  cases a with
  | new=>obtain ⟨p,o,e,Z,q⟩:=Y;exact ⟨p,o,e,s.free Z,q⟩
  | xo=>exact Y
  | xl=>exact Y
  | var i=>exact Y
theorem o7.len:∀{as:List MA}{ds:B4}{vs:C0},o7 K A B σ Γ H0 H as ds vs->ds.length=as.length/\vs.length=as.length
 | [],ds,vs,h=>by obtain ⟨rfl,rfl⟩:=h;exact ⟨rfl,rfl⟩
 | a::as,ds,vs,h=>by
  obtain ⟨d,r,v,t,rfl,rfl,_,Y⟩:=h;have:=Y.len;exact ⟨by rw[a6,a6,this.1],by rw[a6,a6,this.2]⟩
theorem o7.get:∀{as:List MA}{ds:B4}{vs:C0}{i:Nat}{d:ab}{v:V}{a:MA},o7 K A B σ Γ H0 H as ds vs->as[i]?=some a->ds[i]?=some d->vs[i]?=some v->O6 K A B σ Γ H0 H a d v
 | [],ds,vs,i,d,v,a,h,Y,Z,ev=>by simp at Y
 | b::as,ds,vs,i,d,v,a,h,Y,Z,ev=>by
  obtain ⟨l,r,o,t,rfl,rfl,j,e⟩:=h
  match i with
  | 0=>simp at Y Z ev;subst Y;subst Z;subst ev;exact j
  | i+1=>exact e.get (by simpa using Y) (by simpa using Z) (by simpa using ev)
end
def tAm(K:av)(O:B9)(as:List MA)(ms:List ME):TA:=λσ H Q=>∃A B Γ ds,aY K A B H O σ Γ/\evs ms Γ = .ok ds/\∀vs A' H',aW A H A' H'->o7 K A' B σ Γ H H' as ds vs->Q vs H'
section
variable      {as:List MA}
theorem jC:QA X [] (tAm K O [] []):=QA.imp eG λe H Q Y=>by
 obtain ⟨A,B,i,Z,r,em,k⟩:=Y;cases em;exact k [] A H (aW.refl r.a) ⟨rfl,rfl⟩
theorem o9(C:QE X e (tE K O m))(D:QA X es (tAm K O as ms))(hs:xB e=true:=by rfl):QA X (e::es) (tAm K O (.xo::as) (m::ms)):=QA.imp (bV C.h D.h (cR hs)) λJ H Q Y=>by
 obtain ⟨A,B,o,I,r,em,k⟩:=Y;obtain ⟨d,p,em⟩:=x8.au em;obtain ⟨Z,u,em⟩:=x8.au em;cases em;exact ⟨A,B,o,d,r,p,λv E L i s=>⟨E,B,o,Z,r.grow i,u,λl z q j p2=>k (v::l) z q (i.trans j) ⟨d,Z,v,l,rfl,rfl,Rp.mono j.aa d s,p2.base i.hh⟩⟩⟩
theorem dZ(C:QE X e (tQ K O m))(D:QA X es (tAm K O as ms))(hs:xB e=true:=by rfl):QA X (e::es) (tAm K O (.xl::as) (m::ms)):=QA.imp (bV C.h D.h (cR hs)) λJ H Q Y=>by
 obtain ⟨A,B,o,I,r,em,k⟩:=Y;obtain ⟨d,p,em⟩:=x8.au em;obtain ⟨Z,u,em⟩:=x8.au em;cases em;exact ⟨A,B,o,d,r,p,λv E L i s=>⟨E,B,o,Z,r.grow i,u,λl z q j p2=>k (v::l) z q (i.trans j) ⟨d,Z,v,l,rfl,rfl,Pk.mono j.aa (aF.refl _) s,p2.base i.hh⟩⟩⟩
theorem jE(i:Nat)(z:QA X es (tAm K O as ms))(e:Nm X i x:=by walk_at "nm"):QA X (.Name x pos::es) (tAm K O (.var i::as) (aj i::ms)):=QA.imp (bV (dJ e.1 e.2 e.3 e.4) z.h (cR rfl)) λE H Q Y=>by
 obtain ⟨A,B,C,D,r,em,k⟩:=Y;obtain ⟨d,j,em⟩:=x8.au em;obtain ⟨Z,s,em⟩:=x8.au em;cases em;obtain ⟨v,l,_⟩:=r.slot i d (qK j);exact ⟨v,dH l,A,B,C,Z,r,s,λo u p q p2=>k (v::o) u p q ⟨d,Z,v,o,rfl,rfl,⟨l,qK j⟩,p2⟩⟩
end
def spM(K:av)(fs:B9)(j:Nat)(f:B4->x8 ab):Sp:=λvs H Q _=>∃A B ds d dm p o,aF A H/\aF B H/\vs.length=fs.length/\ds.length=fs.length/\vs[j]?=some (.ref p)/\H p=some o/\A p=none/\B p=none /\
 (∀e,ds[j]?=some e->iU K A e o)/\(∀(i:Nat) e v,i≠j->ds[i]?=some e->vs[i]?=some v->Ar K A B (fl fs i) e v)/\f ds= .ok (.tuple [d,dm]) /\
 ∀v A' H' o',aF A A'->aF A' H'->(∀b u,b≠p->H b=some u->H' b=some u)->New A A' H->A' p=none->H' p=some o'->iU K A' dm o'->Rp K A' d v->Q v H'
noncomputable def kOk:MA->Fl->Bool
 | .xo,.xo=>true
 | .xo,.xl=>true
 | .xl,.xl=>true
 | _,_=>false
theorem O6.afC{a:MA}{f:Fl}(h:O6 K A B σ Γ A' H a kd v)(Y:kOk a f=true):Ar K A B f kd v:=by
 cases a <;> cases f <;> first | exact h | exact .inl h | cases Y
noncomputable def nF:ab->Option (ab×ab)
 | .tuple [d,dm]=>some (d,dm)
 | _=>none
def tM(K:av)(O:B9)(i:Nat)(f:B4->x8 ab)(ms:List ME):TE:=λσ H Q=>∃A B Γ ds d dm,aY K A B H O σ Γ/\evs ms Γ = .ok ds/\f ds= .ok (.tuple [d,dm]) /\
 ∀v A' H',aY K A' B H' O σ (Γ.set i (some dm))->aF A A'->New A A' B->Rp K A' d v->Q v H'
section
variable  {k:Nat}   {fs:B9}  {f:B4->x8 ab}  {as:List MA}  {p:Pos}
theorem iy(i:Nat)(F:Def X.prog X.w X.K X.mg X.base k x ps (spM X.K fs j f))(hr:dB k X.A)(hg:Gl X x)(ha:QA X (e::es) (tAm X.K O as ms))(hj:as[j]?=some (.var i))(hi:isO (fl O i)=true)(hlen:as.length=fs.length)(R:∀l,l<fs.length->l≠j->kOk (as.getD l .new) (fl fs l)=true)
 (U:nD x:=by decide) (he:xB e=true:=by rfl) (P:jd es=true:=by rfl):QE X (.Call (.Name x p) (e::es) [] pos) (tM X.K O i f ms):=
 QE.imp (Bq F hr hg ha.h U (cR he) (jx P)) λσ H Q Z=>by
  obtain ⟨A,B,Γ,E,d,dm,r,e1,e2,k⟩:=Z;refine ⟨A,B,Γ,E,r,e1,λL A1 H1 J p1=>?_⟩;show spM X.K fs j f (L++[]) H1 Q E0;rw[cK];have hl:=p1.len;have M:=r.grow J;have hjl:=(aI.mp hj).1;have u:E[j]?=some E[j]:=ai (by lia);have C:L[j]?=some L[j]:=ai (by lia);obtain ⟨hs,q⟩:sv σ i=some L[j]/\gv Γ i=some E[j]:=p1.get hj u C;have Y:gv Γ i≠none:=by rw[q];simp
  obtain ⟨d',p',o,I,D,u3,u4,u5,u6⟩:=M.mV hi Y;rw[hs] at D;rw[q] at I;have I:=Option.some.inj I;have D:=Option.some.inj D;refine ⟨A1,B,E,d,dm,p',o,J.ah,M.b,by lia,by lia,by rw[C,D],u3,u4,u5,λz s=>?_,λl z v hlj s hv=>?_,e2,λv A2 H2 o2 s1 s2 s3 s4 s5 s6 s7 s8=>?_⟩
  . rw[u] at s;rw[<- Option.some.inj s,I];exact u6
  . have S:l<as.length:=by have:=(aI.mp s).1;lia
    have ea:as[l]?=some (as.getD l .new):=by rw[ae,ai S];rfl
    exact (p1.get ea s hv).afC (R l (by lia) hlj)
  . exact k v A2 H2 (M.abH hi Y (by rw[hs,D]) s1 s2 s3 s4 s5 s6 s7) (J.aa.trans s1) ((J.nB r.b).trans (s4.mono M.b)) s8
end
noncomputable def Cd(x i:Nat)(f:B4->x8 ab)(ms:List ME):MS:=λΓ=>(evs ms Γ).bind λds=>(f ds).bind λr=>match nF r with
 | some (d,dm)=>gd (x < Γ.length) (.ok (.nx ((Γ.set i (some dm)).set x (some d))))
 | none=>.bad
theorem zr{d Y:ab}(h:nF kd=some (d,Y)):kd= .tuple [d,Y]:=by
 unfold nF at h;split at h
 . cases h;rfl
 . cases h
section
variable     {f:B4->x8 ab}
theorem En(x i:Nat){y:Str}(Q:X.N.Nodup)(I:X.N[x]?=some y)(z:Loc X.env.scope y)(E:QE X e (tM K O i f ms))(R:x<O.length)(hs:fR e (some (.Name y pos')) pos.line X.env=pure false:=by rfl)
 (l:X.fn y=true\/X.env.scope.names.lookup y=some .local:=by walk_at "hf") (S:O.set x .xo=O2:=by rfl):QS X (.Assign [.Name y pos'] e pos) (tS K rm Ol O O2 (Cd x i f ms)):=
 S ▸ QS.imp (Bt Q I z E.h hs l) λD σ H Y=>by
  obtain ⟨A,B,C,o,r,em,k⟩:=Y;obtain ⟨U,M,em⟩:=x8.au em;obtain ⟨t,j,em⟩:=x8.au em
  cases h:nF t with
  | none=>rw[h] at em;cases em
  | some q=>
   obtain ⟨d,P⟩:=q;rw[h] at em;obtain ⟨Z,em⟩:=b8 em;cases em;rw[zr h] at j;exact ⟨A,B,C,U,d,P,r,M,j,λv L u s J nw p=>k _ L u (s.set (by rw[eJ];exact Z) R p) J nw⟩
noncomputable def Hu(k i:Nat)(f:B4->x8 ab)(ms:List ME):MS:=λΓ=>(evs ms Γ).bind λds=>(f ds).bind λr=>match nF r,gv Γ k with
 | some (d,dm),some (.list es)=>gd (es.length<ba) (.ok (.nx ((Γ.set i (some dm)).set k (some (.list (es++[d]))))))
 | _,_=>.bad
theorem Od(i j:Nat)(J:j≠i)(he:QE X e (tM X.K O j f ms))(M:isO (fl O i)=true:=by rfl)(C:Nm X i x:=by walk_at "nm")(l:ll (.Name x pos') "append" X.env (eval (.Name x pos') X.env)=eval (.Name x pos') X.env:=by rfl)
 (u:((lS cpos (dc (e::[]) X.env)).all (λx=>!x.1)&&(tj cpos (oj [] X.env)).all (λx=>x.1.isSome)
  && decide ((e::[]).length+([]:List nK).length+(if ([]:List nK).isEmpty then 0 else 1)<30))=true:=by rfl)
 (Z:(apos.endLine == cpos.line)=true:=by rfl) (hs:dc (e::[]) X.env=(false,eval e X.env)::dc [] X.env:=by rfl) (Y:(lS cpos (dc [] X.env)).any (·.1)=false:=by rfl)
 (P:fR (.Call (.Attribute (.Name x pos') "append" apos) [e] [] cpos) none pos.line X.env=pure false:=by rfl) :
 QS X (.Expr (.Call (.Attribute (.Name x pos') "append" apos) [e] [] cpos) pos) (tS X.K rm Ol O O (Hu i j f ms)):=by
 refine QS.imp (qI (Hr l6 oz sP xJ (dJ C.1 C.2 C.3 C.4) (bV he.h eG hs) l u Z hs Y) P) λD σ H s=>?_;obtain ⟨A,B,L,o,r,em,k⟩:=s;obtain ⟨ds,e1,em⟩:=x8.au em;obtain ⟨t,U,em⟩:=x8.au em
 cases h:nF t with
 | none=>rw[h] at em;cases em
 | some q=>
  obtain ⟨d,Q⟩:=q;rw[h] at em;rw[zr h] at U
  cases z:gv L i with
  | none=>rw[z] at em;cases em
  | some dl=>
   rw[z] at em
   cases dl with
   | list es=>
    obtain ⟨hc,em⟩:=b8 em;cases em;obtain ⟨q,vs,I,h1,h4⟩:=rR r M z;have p:gv (L.set j (some Q)) i=some (.list es):=by
     have:=z;unfold gv at this ⊢;rw[aR J];exact this
    refine ⟨.ref q,dH I,.inl ⟨rfl,vs,SqL.of h1⟩,A,B,L,ds,d,Q,r,e1,U,λv A1 H1 r1 sa nw p1=>?_⟩;obtain ⟨q',E,S,R,h6⟩:=rR r1 M p;rw[I] at S;cases S;refine ⟨q,E,v,rfl,rfl,R,by rw[<- h6.length];exact hc,?_⟩;exact k σ A1 _ (r1.change M (Yw (by rw[p];simp)) (by rw[p];simp) I R (.inl ⟨_,_,rfl,rfl,h6.append (az.one p1)⟩)) sa nw
   | _=>cases em
noncomputable def Dk(j:Nat)(m:ME):MS:=λΓ=>(m Γ).bind λd=>match gv Γ j with
 | some dm=>.ok (.rt (.tuple [d,dm]))
 | none=>.bad
theorem DN(j:Nat)(Q:fl O j= .fix p)(R:QE X e (tE K O m)):QS X (.Return (some e) pos) (tS K (.m p) Ol O O' (Dk j m)):=QS.imp (xH R.h) λD σ H Y=>by
 obtain ⟨A,B,l,o,r,em,k⟩:=Y;obtain ⟨u,z,em⟩:=x8.au em
 cases Z:gv l j with
 | none=>rw[Z] at em;cases em
 | some i=>
  rw[Z] at em;cases em;refine ⟨A,B,l,u,r,z,λv J I g q=>k v J I g.ah (r.b.trans g.hh) g.aa (g.nB r.b) ?_⟩;obtain ⟨S,_,s⟩:=(r.grow g).slot j i Z;rw[Q] at s;obtain ⟨rfl,U,E,C,M,P,_,L⟩:=s;cases C;exact ⟨u,i,E,rfl,q,M,P,L⟩
theorem Bw:oV O O cl=true:=by
 rw[oV,c9];exact ⟨beq_self_eq_true _,d3.mpr λj _=>by rw[decide_eq_true rfl];rfl⟩
end
section
variable     {base:Heap}
theorem vX(ha:aF A H)(s:aF B H)(hv:vs.length=Ol.length)(hd:ds.length=Ol.length)(hj:vs[j]?=some (.ref p))(hp:H p=some o)(U:A p=none)(r:B p=none)
 (u:∀e,ds[j]?=some e->iU K A e o) (Y:∀(i:Nat) e v,i≠j->ds[i]?=some e->vs[i]?=some v->Ar K A B (fl Ol i) e v) (M:fl O j= .fix p) (Q:∀i,i<Ol.length->i≠j->(fl O i= .xo/\fl Ol i= .xo)\/fl O i= .xl) (hn:Ol.length<=N.length) :
 aY K A (rem H p) H O (Zq.start N vs) (ds.map some++aw (N.length - ds.length) none):=by
 have I:∀i,gv (ds.map some++aw (N.length - ds.length) none) i=ds[i]?:=λi=>by
  rw[gv,ae];rcases ff i ds.length with h | h
  . rw[bX (by simpa using h),a8,ai h];rfl
  . rw[be (by simpa using h),gu,eg h];split <;> rfl
 have J:∀i v,vs[i]?=some v->sv (Zq.start N vs) i=some v:=λi v e=>by
  unfold sv Zq.start;rw[ae];have h:=(aI.mp e).1;rw[bX (by simpa using h),a8,e];rfl
 have D:∀i,i<Ol.length->isO (fl O i)=true->i=j:=λi E h=>by
  rcases Classical.em (i=j) with z | z
  . exact z
  . rcases Q i E z with ⟨q,_⟩ | q <;> rw[q] at h <;> cases h
 refine ⟨ha,aaW,?_,λi d e=>?_,λi l L h1 h2 P R=>?_⟩
 . rw[Zq.start,ar,ar,af,af,br,br];lia
 . rw[I] at e;have E:i<Ol.length:=by rw[<- hd];exact (aI.mp e).1
   by_cases z:i=j
   . subst z;exact ⟨_,J i _ hj,by rw[M];exact ⟨rfl,p,o,rfl,hp,U,Kz,u d e⟩⟩
   . have ev:vs[i]?=some vs[i]:=ai (by lia);refine ⟨_,J i _ ev,?_⟩;have q:=Y i d _ z e ev;rcases Q i E z with ⟨z1,S⟩ | z1
     . rw[z1];rwa [S] at q
     . rw[z1]
       cases Z:fl Ol i with
       | xo=>rw[Z] at q;exact .inl q
       | xl=>rw[Z] at q;exact Pk.mono (aF.refl _) (ou s r) q
       | own=>rw[Z] at q;exact Pk.mono (aF.refl _) (ou s r) q
       | fix p0=>rw[Z] at q;exact Pk.mono (aF.refl _) (ou s r) q
       | exc C=>rw[Z] at q;exact Pk.mono (aF.refl _) (ou s r) q
       | nst b=>rw[Z] at q;exact Pk.mono (aF.refl _) (ou s r) q
       | kit=>rw[Z] at q;exact Pk.mono (aF.refl _) (ou s r) q
 . rw[I] at P R;have E:i<Ol.length:=by
    rw[<- hd];rcases ff i ds.length with h | h
    . exact h
    . exact absurd (eg h) P
   have hl:l<Ol.length:=by
    rw[<- hd];rcases ff l ds.length with h | h
    . exact h
    . exact absurd (eg h) R
   exact absurd ((D i E h1).trans (D l hl h2).symm) L
theorem EY{st:Stmt}{k:Nat}{fs:B9}{O O':Addr->B9}{m:MS}(F:At K mg x st ps)(S:cM N ps (aM st))(L:fs.length=ps.length)(hn:ps.length<=N.length)
 (r:∀p,fl (O p) j= .fix p) (hO:∀p i,i<fs.length->i≠j->(fl (O p) i= .xo/\fl fs i= .xo)\/fl (O p) i= .xl)
 (hbody:∀(p:Addr) (f:Addr) (Y:a0) (A:g9) (xD:C6) (s:cq) (H:Hp) (E:XK),dB k (A.deeper (mB x (aM st) s.heap.objs.size f Y)) ->
  QSs (mq CX0 P w K mg base N x (aM st) f Y A xD s H E).nox (bU st) (tS K (.m p) Ol (O p) (O' p) m)):Def P w K mg base (k+1) x ps (spM K fs j (fnR N.length m)):=by
 refine F.ok S (λvs H Q E h=>?_) (λf Y A xD s H vs Q E hr h=>?_)
 . obtain ⟨_,_,_,_,_,_,_,_,_,h,_⟩:=h;rw[h,L]
 . obtain ⟨A',B,ds,d,dm,p,o,ha,hb,J,hd,hj,hp,ap,bp,e,Z,em,q⟩:=h;obtain ⟨out,D,em⟩:=x8.au em
   cases out with
   | rt d'=>
    cases em;refine ⟨_,(hbody p f Y A xD s H E hr).h,A',rem H p,_,_,vX ha hb J hd hj hp ap bp e Z (r p) (hO p) (by lia),D,λv A2 I s1 M sa nw rv=>?_⟩;obtain ⟨d1,dm1,o1,ed,r1,R,C,U⟩:=rv;cases ed;refine q v A2 I o1 sa s1 (λb u l hu=>M b u (by rw[pN l];exact hu)) (λb q1 q2=>?_) C R U r1
    by_cases z:b=p
    . subst z;exact C
    . exact nw b q1 (by rw[pN z];exact q2)
   | _=>cases em
theorem VH{st:Stmt}{k:Nat}(F:At K mg x st ps)(S:cM N ps (aM st)):Def P w K mg base (k+1) x ps (spM K O j (λ_=>.bad)):=by
 refine F.ok S (λZ H Q E h=>?_) (λf Y A xD s H Z Q E e h=>?_)
 . obtain ⟨_,_,_,_,_,_,_,_,_,_,_,_,_,_,_,_,_,em,_⟩:=h;cases em
 . obtain ⟨_,_,_,_,_,_,_,_,_,_,_,_,_,_,_,_,_,em,_⟩:=h;cases em
end
abbrev MZ:=Ev->x8 Str
noncomputable def Qa(lo c:Int)(n:Nat):It:=⟨λi _=>i<n,λi H x H'=>H'=H/\x= .int (lo+i*c),λi _=>n<=i⟩
theorem Lf(j:Addr)(lo c:Int)(n:Nat):Turn P w K tg (Qa lo c n) [j] j (λi h=>IsRangeIter h j (lo+(i:Nat)*c) ((n:Int) - (i:Nat)) c) where
 mem:=by simp
 obj:=λi h st b Z=>by
  have e:=by simpa using Z
  subst e;exact ⟨_,st,λv z=>by
   have U:=z;cases U⟩
 keep:=λi h D st k=>k j (by simp) _ st
 item:=by
  intro X L M q Q i Y s R H E I p st u;subst L M q;obtain ⟨B,O,f2,r,C,J⟩:=p j (by simp);have W:=Walks.range (prog:=X.prog) (w:=X.w) (I.ok.hd Q) j lo c n;refine W.item i s _ _ u st λv D tk S l kk=>?_;obtain ⟨t,rfl⟩:=S;have I1:x9 X Y R H { s with heap:=D,toks:=tk }:=I.turned (λb o Z e=>kk b o (by simpa using Z) e) B O r C J;refine ⟨_,rfl,zj l rfl rfl (by decide) ⟨.int (lo+i*c),H,I1,⟨t,rfl⟩,⟨rfl,rfl⟩,l,λb Z=>(p b Z).1⟩⟩
 done:=by
  intro X L M q Q i Y s R H E I p st u;subst L M q;obtain ⟨B,O,f2,r,C,J⟩:=p j (by simp);exact wpAny_pyNext_range_end (I.ok.hd Q) st (by have:n<=i:=u;lia) λD eb=>⟨rfl,I.turned (λb o Z e=>eb b o Z e) B O r C J⟩
 self:=λ_ _ _ _ _ st h=>wpAny_pyIter_rangeiter st h
theorem SX{R:It->Hp->Prop}{lo Y c:Int}{t u v:Tok}(I:x9 X x2 σ H s)(hs:Builtin.Range.small lo Y c=true)(h0:0<=c6 lo Y c)
 (q:R (Qa lo c (c6 lo Y c).toNat) H):de (dt X.prog X.w) X.A (pyIter (.ref s.heap.objs.size)) (PIE X x2 σ tg R) E { s with heap:=s.heap.push { cls:=.type "range",data:=.fields #[.int lo t,.int Y u,.int c v] },toks:=i }:=by
 refine wpAny_pyIter_range (IsRange.new ..) hs ?_;have Z:x9 X x2 σ H { s with heap:=s.heap.push { cls:=.type "range",data:=.fields #[.int lo t,.int Y u,.int c v] },toks:=i }:=I.kept λb o e=>aE _ e;refine ⟨(s.heap.push { cls:=.type "range",data:=.fields #[.int lo t,.int Y u,.int c v] }).objs.size,[(s.heap.push { cls:=.type "range",data:=.fields #[.int lo t,.int Y u,.int c v] }).objs.size],_,_,H,rfl,
  Z.kept λb o e=>aE _ e,Lf _ lo c (c6 lo Y c).toNat,?_,λb p=>?_,q⟩
 . have j:lo+((0:Nat):Int)*c=lo:=by simp
   have l:(((c6 lo Y c).toNat:Nat):Int) - ((0:Nat):Int)=c6 lo Y c:=by lia
   rw[j,l];exact cn _ rfl
 . have e:b=(s.heap.push { cls:=.type "range",data:=.fields #[.int lo t,.int Y u,.int c v] }).objs.size:=by simpa using p
   subst e;exact Z.rG (ax _) (Z.xw.fresh (ax _))
def aeP(ta:TA):TI:=λσ H R=>ta σ H λvs H1=>∃i j c:Int,vs=[.int i,.int j,.int c]/\(c≠0/\c.natAbs<1073741824/\Builtin.Range.small i j c=true/\0<=c6 i j c)/\R (Qa i c (c6 i j c).toNat) H1
theorem Gf{v:TA}(M:Gl X "range")(C:X.mg "range"= none)(J:PA X [a,b,c] v)(hs:dc [a,b,c] X.env=[(false,eval a X.env),(false,eval b X.env),(false,eval c X.env)]:=by rfl)(Y:dc [b,c] X.env=[(false,eval b X.env),(false,eval c X.env)]:=by rfl) :
 PI X tg (.Call (.Name "range" pos') [a,b,c] [] pos) (aeP v):=by
 intro o s P H R I h;refine Call_ (m7 I M C boot_range (gc (thn (J pos o s P H _ I h) λS s1 Z=>?_) (by rw[hs,Y]) (by rw[Y];rfl)));obtain ⟨U,H1,L,O,u⟩:=Z;obtain ⟨i,j,k,e,⟨D,u,E,Q⟩,q⟩:=u;subst e
 cases O with
 | cons r l=>
  cases l with
  | cons B l=>
   cases l with
   | cons p l=>
    cases l;obtain ⟨t,rfl⟩:=r;obtain ⟨t',rfl⟩:=B;obtain ⟨z,rfl⟩:=p;exact call_range_3 D (SX L E Q q) (.inl (uk u))
section
variable   {m'':ME}  {p:Pos}
theorem Fq(lo c:Int)(n:Nat):rA K A B (Qa lo c n) ((List.range n).map λi=>ab.int (lo+(i:Nat)*c)):=by
 have Z:((List.range n).map λi=>ab.int (lo+(i:Nat)*c)).length=n:=by rw[af,cx]
 refine ⟨λi H _ _ Y=>(by rwa [Z] at Y),λH _ _=>(by rw[Z];exact ax _),λi j H x p o e l Y y=>?_⟩;obtain ⟨rfl,rfl⟩:=y;rw[Z] at Y;exact ⟨j,.int (lo+i*c),by rw[a8,dQ Y];rfl,aW.refl e,Rp.int.mpr rfl⟩
noncomputable def Dr(d d' d'':ab):x8 B4:=match d,d',d'' with
 | .int i,.int j,.int c=>gd (c≠0/\c.natAbs<1073741824/\Builtin.Range.small i j c=true/\0<=c6 i j c) (.ok ((List.range (c6 i j c).toNat).map λk=>ab.int (i+(k:Nat)*c)))
 | _,_,_=>.bad
noncomputable def Ag(m m' m'':ME):MI:=λΓ=>(m Γ).bind λd=>(m' Γ).bind λd'=>(m'' Γ).bind λd''=>Dr d d' d''
theorem Nt{Z Y:ab}(h:Dr kd Z Y= .ok xs):∃i j c:Int,kd= .int i/\Z= .int j/\Y= .int c/\(c≠0/\c.natAbs<1073741824/\Builtin.Range.small i j c=true/\0<=c6 i j c)/\xs=(List.range (c6 i j c).toNat).map λk=>ab.int (i+(k:Nat)*c):=by
 unfold Dr at h;split at h
 . obtain ⟨e,em⟩:=b8 h;cases em;exact ⟨_,_,_,rfl,rfl,rfl,e,rfl⟩
 . cases h
theorem S7(S:Gl X "range")(E:X.mg "range"= none)(L:QE X a (tP X.K O m))(hb:QE X b (tP X.K O m'))(q:QE X c (tP X.K O m''))(hs:dc [a,b,c] X.env=[(false,eval a X.env),(false,eval b X.env),(false,eval c X.env)]:=by rfl)(Y:dc [b,c] X.env=[(false,eval b X.env),(false,eval c X.env)]:=by rfl)(e:dc [c] X.env=[(false,eval c X.env)]:=by rfl) :
 QI X tg (.Call (.Name "range" p) [a,b,c] [] pos) (tI X.K O (Ag m m' m'')):=
 QI.imp (Gf S E (bV L.h (bV hb.h (bV q.h eG e) (by rw[Y,e])) (by rw[hs,Y])) hs Y) λσ H R Z=>by
  obtain ⟨A,B,o,xs,r,em,k⟩:=Z;obtain ⟨d,z,em⟩:=x8.au em;obtain ⟨d',I,em⟩:=x8.au em;obtain ⟨P,D,em⟩:=x8.au em;obtain ⟨i,j,s,rfl,rfl,rfl,q,rfl⟩:=Nt em;exact ⟨A,B,o,_,r,z,λv A1 H1 l p1=>⟨A1,B,o,_,r.grow l,I,λv' J H2 u p2=>⟨J,B,o,_,(r.grow l).grow u,D,λv'' U Q M C=>⟨i,j,s,by rw[p1.int,p2.int,C.int],q,k _ U Q ((l.trans u).trans M) (Fq i s _)⟩⟩⟩⟩
theorem Uk(S:Gl X "range")(E:X.mg "range"= none)(L:QE X a (tP X.K O m))(hb:QE X b (tP X.K O m'))(q:QE X c (tP X.K O m''))(hs:dc [a,b,c] X.env=[(false,eval a X.env),(false,eval b X.env),(false,eval c X.env)]:=by rfl)(Y:dc [b,c] X.env=[(false,eval b X.env),(false,eval c X.env)]:=by rfl)(e:dc [c] X.env=[(false,eval c X.env)]:=by rfl) :
 QI X tg (.Call (.Name "range" p) [a,b,c] [] pos) (tIc X.K O (Ag m m' m'')):=
 QI.imp (Gf S E (bV L.h (bV hb.h (bV q.h eG e) (by rw[Y,e])) (by rw[hs,Y])) hs Y) λσ H R Z=>by
  obtain ⟨A,B,o,xs,r,em,k⟩:=Z;obtain ⟨d,z,em⟩:=x8.au em;obtain ⟨d',I,em⟩:=x8.au em;obtain ⟨P,D,em⟩:=x8.au em;obtain ⟨i,j,s,rfl,rfl,rfl,q,rfl⟩:=Nt em;exact ⟨A,B,o,_,r,z,λv A1 H1 l p1=>⟨A1,B,o,_,r.grow l,I,λv' J H2 u p2=>⟨J,B,o,_,(r.grow l).grow u,D,λv'' U Q M C=>⟨i,j,s,by rw[p1.int,p2.int,C.int],q,k _ U Q ((l.trans u).trans M) (Fq i s _)⟩⟩⟩⟩
noncomputable def acQ:ab->x8 ab
 | .int a=>.ok (.int (fF a))
 | _=>.bad
theorem adw(Z:QE X a (tP K O m)):QE X (.UnaryOp .Invert a pos) (tE K O (eUn acQ m)):=Yx abq (λA H j d x Q e Y p k=>by
 cases j with
 | int i=>cases e;exact ⟨i,p.int,k _ A H (aW.refl Y) (Rp.int.mpr rfl)⟩
 | _=>cases e) Z
end
def abx(xs:Array Nat):Prop:=xs.toList.Pairwise (· < ·)
structure TabOk (led:Bool) (t:oS):Prop where
 up:abx t.place
 led:t.led=led
noncomputable def w5(M:Nat):Nat->Nat->Nat
 | 0,x=>x
 | n+1,x=>(5*w5 M n x+1) % M
theorem Px(Y i:Nat):SetTable.runEnd Y i - i<=9:=by
 unfold SetTable.runEnd;split <;> lia
structure adQ (t:oS) (p:SetTable.Probe):Prop where
 more:p.more<=9
 afZ:p.perturb<2^64
 dum:p.dummy=none
theorem adQ.start{t:oS}{h:Int}:adQ t (t.probeStart h):=by
 refine ⟨Px _ _,?_,rfl⟩;show oS.bits h<2^64;unfold oS.bits;have:=gE h (show 0<2^64 by decide);have:=hZ h (show (2^64)≠0 by decide);lia
structure afD (t:oS):Prop where
 pw:∃k,t.mask+1=2^k/\k<=12
 odd:t.mask % 2=1
 nd:t.dummies=#[]
 room:t.place.size<=t.mask
noncomputable def afJ:a0->Int
 | .int k _=>k
 | _=>0
noncomputable def abJ(w:i8):Bool:=!(w.params.followText "set-order")
structure Kl (P:fq) (w:i8) (es:Array (Int×a0)) (t:oS) (ks:B3):Prop where
 el:ElemsOf (mT P w) es.toList
 tab:TabOk (abJ w) t
 fit:t.fits es.size=true
 pm:(es.toList.map λe=>afJ e.2).Perm ks
section
variable   {A:g9}
theorem Kl.perm{es Y:Array (Int×a0)}{t t':oS}{ks:B3}(r:Kl P w es t ks)(Z:Y.toList.Perm es.toList)(e:TabOk (abJ w) t')(i:t'.fits Y.size=true):Kl P w Y t' ks:=
 ⟨r.el.perm Z,e,i,(Z.map _).trans r.pm⟩
end
structure Hk (s s':cq):Prop where
 heap:∀b o,s.heap.get? b=some o->s'.heap.get? b=some o
 gens:s'.gens=s.gens
 os:s'.os=s.os
theorem Hk.trans{b c:cq}(x:Hk s b)(y:Hk b c):Hk s c:=⟨λp o e=>y.heap p o (x.heap p o e),y.gens.trans x.gens,y.os.trans x.os⟩
section
variable   {A:g9}
theorem U8{b:Addr}{xs Y:Array a0}{o:Obj}(e:s.heap.get? p=some { cls:=.type "list",dict:=none,data:=.seq xs i,slots:=#[] })(Z:s.heap.get? b=some o)(l:o.cls= .type "list")(hd:o.data= .seq Y j)(q:xs.size+Y.size<=ba)
 (h:Q .none { s with heap:=s.heap.update p (vb (· ++ Y)) }):de (dt P w) A (call (.builtin "list.extend") [.ref p,.ref b]) Q E s:=by
 refine fi F.slot_list_extend ⟨_,e,rfl⟩ F.entry_list_extend ?_ (F.args_list_extend_2 _ _);refine ag (wpAny_of_eq rfl ?_);unfold Builtin.List.listExtendWith;refine ag (va ⟨_,Z,l⟩ ?_);rw[show (Builtin.List.listSameRef (.ref p) (.ref b)||ke "list" == ke "list" || ke "list" == ke "tuple")=true by simp];unfold Builtin.List.listItems;refine ag (ag (eW Z hd (a9 (ag (ag (eW e rfl (a9 ?_)))))));rw[show (!xs.isEmpty&&lp (xs.size+Y.size))=false by
  rw[show lp (xs.size+Y.size)=false from by exact decide_eq_false (by lia)];exact Bool.and_false _]
 refine ag (rh e rfl (a9 ⟨_,rfl,h⟩) (by lia) (by rw[Array.size_append];lia))
end
section
variable      {p:Pos}
def UG(K:av):V->C0->Hp->VK->Prop:=λx vs H Q=>∃l b xs zs,x= .ref l/\vs=[.ref b]/\H l=some (.lst xs)/\SqL K H b zs/\xs.length+zs.length<=ba/\Q .non (xk H l (.lst (xs++zs)))
theorem O5:MtM X "list.extend" (UG X.K):=by
 rintro o s σ H x U v R Q I E M ⟨l,b,xs,zs,rfl,rfl,i,C,hz,q⟩;cases E;obtain ⟨u,rfl,L⟩:=M.one;cases L;obtain ⟨z,B,n,r,hl,e⟩:=I.UL i;obtain ⟨p,j,⟨O,S,D,Y,_,Z⟩,P⟩:=I.list C;have J:=j.length;refine U8 e D Y Z (by rw[c8,c8];lia) (⟨.non,_,I.Vq i e (by simp) (r.append j) ?_,rfl,q⟩);rw[ar];lia
theorem aaq(i:Nat)(he:QE X e (tE X.K O m))(R:isO (fl O i)=true:=by rfl)(E:Nm X i x:=by walk_at "nm")(l:ll (.Name x p) "extend" X.env (eval (.Name x p) X.env)=eval (.Name x p) X.env:=by rfl)
 (u:((lS cpos (dc (e::[]) X.env)).all (λx=>!x.1)&&(tj cpos (oj [] X.env)).all (λx=>x.1.isSome)
  && decide ((e::[]).length+([]:List nK).length+(if ([]:List nK).isEmpty then 0 else 1)<30))=true:=by rfl)
 (Z:(apos.endLine == cpos.line)=true:=by rfl) (hs:dc (e::[]) X.env=(false,eval e X.env)::dc [] X.env:=by rfl) (Y:(lS cpos (dc [] X.env)).any (·.1)=false:=by rfl)
 (L:fR (.Call (.Attribute (.Name x p) "extend" apos) [e] [] cpos) none pos.line X.env=pure false:=by rfl) :
 QS X (.Expr (.Call (.Attribute (.Name x p) "extend" apos) [e] [] cpos) pos) (tS X.K rm Ol O O (Ow i m)):=by
 refine QS.imp (qI (Hr l6 PySem.F.slot_list_extend PySem.F.type_list_extend O5 (dJ E.1 E.2 E.3 E.4) (bV he.h eG hs) l u Z hs Y) L) λD σ H s=>?_;obtain ⟨A,B,Q,o,r,em,k⟩:=s;obtain ⟨d,e1,em⟩:=x8.au em
 cases C:gv Q i with
 | none=>rw[C] at em;cases em
 | some dl=>
  rw[C] at em
  cases dl with
  | list ds=>
   cases d with
   | list es=>
    obtain ⟨⟨hc,J⟩,em⟩:=b8 em;cases em;obtain ⟨q,M,P,I,U⟩:=rR r R C;refine ⟨.ref q,dH P,.inl ⟨rfl,M,SqL.of I⟩,A,B,Q,_,r,e1,λv A1 H1 j p1=>?_⟩;obtain ⟨q2,us,rfl,h5,S⟩:=Rp.list.mp p1;refine ⟨q,q2,M,us,rfl,rfl,j.hh _ _ I,h5.elim (λz=>.inl (aF.rd j.ah z)) .inr,by rw[<- U.length,<- S.length];exact hc,?_⟩;exact k σ A1 _ ((r.grow j).change R J (by rw[C];simp) P (j.hh _ _ I) (.inl ⟨_,_,rfl,rfl,(az.mono j.aa _ U).append S⟩)) j.aa (j.nB r.b)
   | _=>cases em
  | _=>cases em
end
noncomputable def fnN(n:Nat)(m:MS)(ds:B4):x8 ab:=(m (ds.map some++aw (n - ds.length) none)).bind λo=>match o with
 | .rt d=>.ok d
 | .nx _=>.ok .none
 | _=>.bad
section
variable     {base:Heap}
theorem aaf{st:Stmt}{fs:B9}{m:MS}(F:At K mg x st ps)(S:cM N ps (aM st))(D:fs.length=ps.length)(hn:ps.length<=N.length)
 (B:∀i,i<fs.length->(fl O i= .xo/\fl fs i= .xo)\/fl O i= .xl)
 (hbody:∀(f:Addr) (Y:a0) (A:g9) (xD:C6) (s:cq) (H:Hp) (E:XK),dB j (A.deeper (mB x (aM st) s.heap.objs.size f Y)) ->
  QSs (mq CX0 P w K mg base N x (aM st) f Y A xD s H E).nox (bU st) (tS K .f Ol O O' m)) (hrm:rm= .f):Def P w K mg base (j+1) x ps (spF K fs rm (fnN N.length m)):=by
 subst hrm;refine F.ok S (λJ H Q E h=>?_) (λf Y A xD s H J Q E z h=>?_)
 . obtain ⟨A,U,d,_,h,_⟩:=h;rw[h.length.1,D]
 . obtain ⟨C,U,d,u,h,em,q⟩:=h;obtain ⟨o,p,em⟩:=x8.au em
   cases o with
   | rt d'=>
    cases em;refine ⟨_,(hbody f Y A xD s H E z).h,C,H,_,_,ph u h B (by lia),p,λv Z e M I l nw rv=>q v Z e ⟨l,I,M,nw⟩ rv⟩
   | nx L=>
    cases em;refine ⟨_,(hbody f Y A xD s H E z).h,C,H,_,_,ph u h B (by lia),p,λR Z e r l nw=>q .non Z e ⟨l,r.b,r.a,nw⟩ (show Rp K Z .none .non from Rp.none.mpr rfl)⟩
   | _=>cases em
end
noncomputable def vB(k:Str):List (Str×ab)->Option ab
 | []=>none
 | (x,d)::D=>if k=x then some d else vB k D
inductive lg (K:av):List oq->List (Str×ab)->Prop
 | nil:lg K [] []
 | cons {e:oq}{x:Str}{t:Tok}{d:ab}{v:V}{es:List oq}{D:List (Str×ab)}:e.key= .str x t->xh v e.val->(∀A,Rp K A d v)->lg K es D->lg K (e::es) ((x,d)::D)
def Xb(K:av)(a:Addr)(D:List (Str×ab)):Prop:=(a == fb)=false/\∃o es ep,K.lookup a=some o/\o.ExactDict/\o.data= .dict es ep/\lg K es.toList D
variable {D:List (Str×ab)}
theorem lg.exact{es:List oq}(h:lg K es D):(es.all λe=>isExactStrKey e.key)=true:=by
 induction h with
 | nil=>rfl
 | cons Y _ _ _ Z=>rw[qa,Z,Y];rfl
theorem lg.find{es:List oq}(h:lg K es D){k:Str}(hd:vB k D=some kd):∃i e v,es.findIdx? (λe=>e.key.isStr k)=some i/\es[i]?=some e/\xh v e.val/\∀A,Rp K A kd v:=by
 induction h with
 | nil=>cases hd
 | @cons e x t E v es D j o C Z B=>
  unfold vB at hd
  by_cases Y:k=x
  . rw[if_pos Y] at hd;cases hd;refine ⟨0,e,v,?_,rfl,o,C⟩;rw[List.findIdx?_cons,j];simp[Value.isStr,Y]
  . rw[if_neg Y] at hd;obtain ⟨i,p,l,u,s,q,r⟩:=B hd;refine ⟨i+1,p,l,?_,by simpa using s,q,r⟩;rw[List.findIdx?_cons,j];have:(a0.str x t).isStr k=false:=by simp[Value.isStr];exact λz=>Y z.symm
    rw[this,u];rfl
def ae3(K:av)(D:List (Str×ab)):R2:=λx y H Q=>∃a k d,x= .ref a/\y= .str k/\Xb K a D/\vB k D=some d/\∀v,(∀A,Rp K A d v)->Q v H
theorem acS:IxR X (ae3 X.K D):=by
 intro p z Z s S H x y v u Q I rx ry h hs;obtain ⟨a,k,d,rfl,rfl,⟨R,o,E,ep,hk,L,hd,P⟩,hl,q⟩:=h;cases rx;obtain ⟨tk,rfl⟩:∃tk,u= .str k tk:=ry;have hh:=I.kIn a o hk;have hT:s.TypeIs (.ref a) "dict" := ⟨o,hh,L.1⟩;obtain ⟨i,e,w,U,hi,J,rp⟩:=P.find hl;have M:E.findIdx? (λe=>e.key.isStr k)=some i:=by
  obtain ⟨l⟩:=E;simpa using U
 have O:E[i]?=some e:=by
  obtain ⟨l⟩:=E;simpa using hi
 have get:de (dt X.prog X.w) X.A.in1 (dictGet a (.str k tk)) (λr Y=>r=some e.val/\Y={ s with toks:=s.toks+1 }) X.xe s:=by
  try with_reducible refine kF ?_
  refine ag (wpAny_pyHash_str (ag (KTD.kt_dictFind_strs hh hd (by obtain ⟨l⟩:=E;simpa using P.exact) ?_)));rw[M];refine ag (wpAny_dictEntries hh hd (a9 ?_));simp[O]
 have item:de (dt X.prog X.w) X.A (nL (.ref a) (.str k tk)) (EP X Z S Q) X.xe s:=by
  unfold nL
  try with_reducible refine kF ?_
  refine ag (sj hT (by decide) ?_);refine ag (fh hT slot_dict_getitem
   (fi slot_dict_getitem hT entry_dict_getitem ?_ (args_dict_getitem _ _)))
  show de _ _ (dictGet a (.str k tk) >>= _) _ _ s;refine ag (fy get (λr Y B=>?_) λ_ _ x=>x);obtain ⟨rfl,rfl⟩:=B;exact a9 ⟨e.val,rfl,a9 ⟨w,H,I.tok _,J,q w rp⟩⟩
 refine ag ?_;rw[kQ hT.not_modules];refine ag (iS hT iX.lookup ?_);have fin:de (dt X.prog X.w) X.A (mI z false (.ref a) (.str k tk)) (λr j=>de (dt X.prog X.w) X.A (oC p (.ref a) r >>= λ_=>pure r) (EP X Z S Q) X.xe j) X.xe s:=by
  rw[hs];exact nS (fy item (λr j C=>ag (k9 (a9 C))) λ_ _ x=>x)
 first
  | exact a9 (ag fin)
  | exact ag (a9 (ag fin))
  | exact ag fin
noncomputable def V4(D:List (Str×ab)):ab->x8 ab
 | .str k=>(match vB k D with | some d=>.ok d | none=>.bad)
 | _=>.bad
theorem aaH(o:Gl X x)(C:X.mg x=some (.ref p))(T:Xb X.K p D)(u:QE X b (tP X.K O m))(hs:lA b)(hd:nD x:=by decide):QE X (.Subscript (.Name x pos') b pos) (tE X.K O (eUn (V4 D) m)):=
 QE.imp (Dl acS (Nu (v:=.ref p) o C rfl hd) u.h hs) λL H Q Y=>by
  obtain ⟨A,B,E,d,r,em,k⟩:=Y;obtain ⟨e,j,em⟩:=x8.au em;refine ⟨A,B,E,e,r,j,λy i I q s=>?_⟩
  cases e with
  | str z=>
   have em:(match vB z D with | some d=>x8.ok d | none=>.bad)= .ok d:=em
   cases Z:vB z D with
   | none=>rw[Z] at em;cases em
   | some J=>
    rw[Z] at em;cases em;exact ⟨p,z,d,rfl,s.str,T,Z,λv l=>k v i I q (l i)⟩
  | _=>cases em
noncomputable def lC(K:av):Nat->ab->a0->Bool
 | 0,_,_=>false
 | _+1,.int i,.int j _=>i == j
 | _+1,.str x,.str y _=>x == y
 | n+1,.tuple ds,.ref a=>(match K.lookup a with
  | some o=>o.cls == .type "tuple" && (match o.data with
   | .seq x5 _=>decide (x5.size<=1000)&&(ds.length == x5.toList.length)&&(ds.zip x5.toList).all λp=>lC K n p.1 p.2
   | _=>false)
  | none=>false)
 | _+1,_,_=>false
theorem M4(e:∀d v,lC K i d v=true->∃x,xh x v/\∀A,Rp K A d x):∀(ds:B4) (us:B8),ds.length=us.length->((ds.zip us).all λp=>lC K i p.1 p.2)=true->∃xs,xi xs us/\∀A,az K A ds xs
 | [],[],_,_=>⟨[],.nil,λ_=>az.nil.mpr rfl⟩
 | d::ds,u::us,Y,h=>by
  simp only[List.zip_cons_cons,qa,c9] at h;obtain ⟨x,j,o⟩:=e d u h.1;obtain ⟨xs,l,Z⟩:=M4 e ds us (by simpa using Y) h.2;exact ⟨x::xs,.cons j l,λA=>az.cons.mpr ⟨x,xs,rfl,o A,Z A⟩⟩
 | [],_::_,Y,_=>by simp at Y
 | _::_,[],Y,_=>by simp at Y
theorem Nv:∀(n:Nat) (d:ab) (v:a0),lC K n d v=true->∃x,xh x v/\∀A,Rp K A d x:=by
 intro n
 induction n with
 | zero=>intro d v h;simp[lC] at h
 | succ n B=>
  intro d v h;unfold lC at h;split at h
  . rename_i z;cases z
  . rename_i i j t e;have e:=eq_of_beq h;subst e;exact ⟨.int i,⟨_,rfl⟩,λA=>Rp.int.mpr rfl⟩
  . rename_i x y t e;have e:=eq_of_beq h;subst e;exact ⟨.str x,⟨_,rfl⟩,λA=>Rp.str.mpr rfl⟩
  . rename_i m C a e;cases e;split at h
    . rename_i o q;simp only[c9] at h;obtain ⟨u,h⟩:=h;split at h
      . rename_i Y sz hd;simp only[c9,decide_eq_true_eq] at h;obtain ⟨⟨D,p⟩,s⟩:=h;obtain ⟨r,l,Z⟩:=M4 B C Y.toList (beq_iff_eq.mp p) s;exact ⟨.ref a,rfl,λA=>Rp.tuple.mpr ⟨a,r,rfl,.inr ⟨o,Y,sz,q,beq_iff_eq.mp u,hd,by simp only[sizeLine_eq];lia,l⟩,Z A⟩⟩
      . cases h
    . cases h
  . cases h
noncomputable def yW(K:av):List oq->List (Str×ab)->Bool
 | [],[]=>true
 | e::es,(x,d)::D=>(match e.key with | .str y _=>y == x | _=>false)&&lC K 9 d e.val&&yW K es D
 | _,_=>false
theorem Jg:∀(es:List oq) (D:List (Str×ab)),yW K es D=true->lg K es D
 | [],[],_=>.nil
 | e::es,(x,d)::D,h=>by
  simp only[yW,c9] at h;obtain ⟨⟨Y,j⟩,i⟩:=h;split at Y
  . rename_i y t l;have e:=eq_of_beq Y;subst e;obtain ⟨v,o,Z⟩:=Nv _ _ _ j;exact .cons l o Z (Jg es D i)
  . cases Y
 | [],_::_,h=>by simp[yW] at h
 | _::_,[],h=>by simp[yW] at h
noncomputable def Kd(K:av)(a:Addr)(D:List (Str×ab)):Bool:=!(a == fb)&&(match K.lookup a with
 | some o=>o.cls == .type "dict" && o.dict.isNone&&o.slots.isEmpty&&(match o.data with | .dict es _=>yW K es.toList D | _=>false)
 | none=>false)
theorem Zr{a:Addr}(h:Kd K a D=true):Xb K a D:=by
 simp only[Kd,c9] at h;obtain ⟨p,Y⟩:=h;split at Y
 . rename_i o i;simp only[c9] at Y;obtain ⟨⟨⟨e,q⟩,j⟩,Z⟩:=Y;split at Z
   . rename_i l r hd;exact ⟨by simpa using p,o,l,r,i,⟨beq_iff_eq.mp e,by simpa using q,by simpa using j⟩,hd,Jg _ _ Z⟩
   . cases Z
 . cases Y
theorem adm(e:Gl X x)(Z:X.mg x=some (.ref p))(T:Kd X.K p D=true)(Y:QE X b (tP X.K O m))(hs:lA b)(hd:nD x:=by decide):QE X (.Subscript (.Name x pos') b pos) (tE X.K O (eUn (V4 D) m)):=aaH e Z (Zr T) Y hs hd
theorem kI{u:a0}(e:Gl X x)(i:X.mg x=some u)(r:lC X.K 9 kd u=true)(hd:nD x:=by decide):QE X (.Name x pos) (tE X.K O (eC kd)):=
 let ⟨_,Z,Y⟩:=Nv _ _ _ r
 oH e i Z Y hd
inductive jQ (X:Cx) (O:B9):List (Option Expr)->C1->List (Str×ME)->Prop
 | nil:jQ X O [] [] []
 | cons {x:Str}{v:Expr}{kj}{kp:Pos}{ks:List (Option Expr)}{vs:C1}{m:ME}{R:List (Str×ME)}:QE X v (tE X.K O m)->jQ X O ks vs R->jQ X O (some (.Constant (.str x) kj kp)::ks) (v::vs) ((x,m)::R)
noncomputable def adO(K:av)(O:B9)(R:List (Str×ME)):List (TE×TE):=R.map λp=>(tC (.str p.1),tE K O p.2)
section
variable   {ks:List (Option Expr)}{vs:C1}{R:List (Str×ME)}
theorem jQ.pps(h:jQ X O ks vs R):PPs X pos ks vs (adO X.K O R):=by
 induction h with
 | nil=>exact yV
 | cons Y _ Z=>exact rK R8 Y.h Z
theorem jQ.some(h:jQ X O ks vs R):ks.all (·.isSome)=true/\ks.length=vs.length/\ks.length=R.length:=by
 induction h with
 | nil=>exact ⟨rfl,rfl,rfl⟩
 | cons _ _ Y=>exact ⟨by rw[qa,Y.1];rfl,by rw[a6,a6,Y.2.1],by rw[a6,a6,Y.2.2]⟩
theorem JX:∀(R:List (Str×ME)) {A B H:Hp}{Γ:Ev}{d:ab}{Q:List (V×V)->Hp->Prop},aY K A B H O σ Γ->jy R Γ = .ok d ->
 (∀(us:List (Str×V)) A' H',aW A H A' H'->us.map (·.1)=R.map (·.1)->(∃ds,d= .dict ds/\bj K A' ds (us.map λu=>(mr u.1,u.2)))->Q (us.map λu=>(V.str u.1,u.2)) H')->rE (adO K O R) σ H Q
 | [],A,B,H,Γ,d,Q,r,em,k=>by
  cases em;exact k [] A H (aW.refl r.a) rfl ⟨[],rfl,bj.nil.mpr rfl⟩
 | (x,m)::R,A,B,H,Γ,d,Q,r,em,k=>by
  obtain ⟨e,i,em⟩:=x8.au em;obtain ⟨z,l,em⟩:=x8.au em;refine ⟨A,B,Γ,e,r,i,λv C s Y p=>JX R (r.grow Y) l λus o j Z q p2=>?_⟩;obtain ⟨ds,rfl,p2⟩:=p2;cases em;exact k ((x,v)::us) o j (Y.trans Z) (by rw[a7,a7,q]) ⟨_,rfl,bj.cons.mpr ⟨_,v,_,rfl,rfl,Rp.mono Z.aa e p,p2⟩⟩
theorem Cr:∀(us x4:A8),((x4++us).map (·.1)).Nodup->lH x4 us=x4++us
 | [],x4,_=>by rw[cK];rfl
 | u::us,x4,h=>by
  have i:¬ ((x4.any λY=>decide (Y.1=u.1))=true):=λz=>by
   obtain ⟨Y,e,Z⟩:=l7.mp z;rw[aS,a7,ey] at h;exact h.2.2 _ (List.mem_map_of_mem e) _ bg (of_decide_eq_true Z)
  show lH (putK x4 u.1 u.2) us=_;have:putK x4 u.1 u.2=x4++[u]:=by rw[putK,if_neg i]
  rw[this,Cr us (x4++[u]) (by rw[da];exact h),da];rfl
theorem Zg(h:jQ X O ks vs R)(J:(R.map (·.1)).Nodup)(h0:ks≠[])(l:ks.length<=15):QE X (.Dict ks vs pos) (tE X.K O (jy R)):=
 QE.imp (Fd h.pps h.some.1 h.some.2.1 h0 l) λσ H Q j=>by
  obtain ⟨A,B,Γ,d,r,em,k⟩:=j;intro p s;have L:aW A H A (xk H p (.dK [])):=aW.lay r.a s;refine JX R (r.grow L) em λi A1 M Z I v=>⟨Z.hh _ _ aX,i.map λu=>(mr u.1,u.2),by rw[cy];rfl,?_,?_⟩
  . rw[af,show i.length=R.length by have:=congrArg List.length I;simpa using this,<- h.some.2.2];exact l
  obtain ⟨S,rfl,v⟩:=v;have em:=Cr _ [] (by
   rw[d6,cy];have:(i.map ((λx:Key×V=>x.1)∘λu:Str×V=>((mr u.1:Key),u.2)))=(i.map (·.1)).map mr:=by rw[cy];rfl
   rw[this,I];exact sM.map _ (λa b C e=>C (mr.inj e)) J)
  rw[em];have E:=Z.4 p (r.a.free s) (by rw[aX];exact λz=>nomatch z);have P:aW A H (xk A1 p (.dK (i.map λu=>(mr u.1,u.2)))) (xk M p (.dK (i.map λu=>(mr u.1,u.2)))):=by
   refine ⟨(Z.aa).trans (aF.new E _),λb o q=>?_,λb o q=>?_,λb U D=>?_⟩
   . have Y:=cU q s;rw[aG Y];exact Z.hh _ _ (by rw[aG Y];exact q)
   . by_cases Y:b=p
     . subst Y;rw[aX] at q ⊢;exact q
     . rw[aG Y] at q ⊢;exact Z.ah _ _ q
   . have Y:b≠p:=λz=>D (z ▸ s);rw[aG Y];exact Z.4 b U (by rw[aG Y];exact D)
  exact k _ _ _ P (Rp.dict.mpr ⟨p,_,rfl,.inl aX,bj.mono (aF.new E _) S v⟩)
end
noncomputable def jU(key:dh):B0->Option ab
 | []=>none
 | (k,d)::r=>if jr k=some key then some d else jU key r
noncomputable def Aw(key:dh):B0->Bool
 | []=>false
 | (k,_)::r=>if jr k=some key then true else Aw key r
noncomputable def Qi(key:dh)(x:ab):B0->B0
 | []=>[]
 | (k,d)::r=>(if jr k=some key then (k,x) else (k,d))::Qi key x r
noncomputable def putN(kd:ab)(key:dh)(x:ab)(x3:B0):B0:=if Aw key x3=true then Qi key x x3 else x3++[(kd,x)]
abbrev NP(K:av)(A:Hp):B0->List (dh×V)->Prop:=hX λp q=>jr p.1=some q.1/\Rp K A p.2 q.2
section
variable   {key:dh}  {us:List (dh×V)}
theorem qU{key Y:dh}(h:jr kd=some Y):jr kd=some key↔Y=key:=by rw[h];simp
theorem NP.look(h:NP K A x3 us):(∀d,jU key x3=some d->∃v,gq us key=some v/\Rp K A d v)/\(jU key x3=none->gq us key=none):=by
 induction h with
 | nil=>exact ⟨λd e=>(nomatch e),λ_=>rfl⟩
 | @cons p q r l i t j=>
  obtain ⟨Z,hd⟩:=i;obtain ⟨k,d⟩:=p;unfold jU
  by_cases e:jr k=some key
  . have Y:=(qU Z).mp e;rw[if_pos e];exact ⟨λo z=>by cases z;exact ⟨q.2,nO Y,hd⟩,λz=>(nomatch z)⟩
  . have Y:=λz=>e ((qU Z).mpr z);rw[if_neg e,nY Y];exact j
theorem NP.any(h:NP K A x3 us):(gq us key).isSome=(jU key x3).isSome:=by
 have:=h.look (key:=key)
 cases e:jU key x3 with
 | none=>rw[this.2 e];rfl
 | some d=>obtain ⟨v,Y,_⟩:=this.1 d e;rw[Y];rfl
theorem NP.has(h:NP K A x3 us):(us.any λZ=>decide (Z.1=key))=Aw key x3:=by
 induction h with
 | nil=>rfl
 | @cons p q o l i t j=>
  obtain ⟨Y,hd⟩:=i;obtain ⟨k,d⟩:=p;rw[Aw,iq,j]
  by_cases e:jr k=some key
  . rw[if_pos e,decide_eq_true ((qU Y).mp e)];rfl
  . rw[if_neg e,decide_eq_false λz=>e ((qU Y).mpr z)];rfl
theorem NP.set(l:Rp K A kd v)(h:NP K A x3 us):NP K A (Qi key kd x3) (us.map λZ=>if Z.1=key then (Z.1,v) else Z):=by
 induction h with
 | nil=>exact .nil
 | @cons p q r o j t i=>
  obtain ⟨Y,hd⟩:=j;obtain ⟨k,d⟩:=p;rw[Qi,a7]
  by_cases e:jr k=some key
  . rw[if_pos e,if_pos ((qU Y).mp e)];exact .cons ⟨Y,l⟩ i
  . rw[if_neg e,if_neg λz=>e ((qU Y).mpr z)];exact .cons ⟨Y,hd⟩ i
theorem NP.put{x:ab}(Z:jr kd=some key)(Y:Rp K A x v)(h:NP K A x3 us):NP K A (putN kd key x x3) (putK us key v):=by
 unfold putN putK;rw[h.has]
 by_cases e:Aw key x3=true
 . rw[if_pos e,if_pos e];exact h.set Y
 . rw[if_neg e,if_neg e];exact hX.snoc h ⟨Z,Y⟩
theorem az.Ox:∀{ds:B4}{vs:C0}{ns:B3},az K A ds vs->mU ds=some ns->vs=ns.map V.int
 | [],vs,ns,h,e=>by rw[az.nil] at h;cases e;exact h
 | .int i::r,vs,ns,h,e=>by
  obtain ⟨v,Z,rfl,o,j⟩:=az.cons.mp h;unfold mU at e
  cases Y:mU r with
  | none=>rw[Y] at e;cases e
  | some l=>
   rw[Y] at e;cases e;rw[Rp.int.mp o,az.Ox j Y];rfl
 | .none::r,vs,ns,h,e=>by cases e
 | .bool _::r,vs,ns,h,e=>by cases e
 | .str _::r,vs,ns,h,e=>by cases e
 | .list _::r,vs,ns,h,e=>by cases e
 | .tuple _::r,vs,ns,h,e=>by cases e
 | .dict _::r,vs,ns,h,e=>by cases e
theorem az.Yk:∀{ds:B4}{vs:C0}{key:dh},az K A ds vs->t7 ds=some key->∃cs:C2,vs=cs.map V.ref/\hX (λ(k:B3) c=>SqT K A c (k.map V.int)) key cs
 | [],vs,key,h,e=>by rw[az.nil] at h;cases e;exact ⟨[],h,.nil⟩
 | .tuple ds::r,vs,key,h,e=>by
  obtain ⟨v,j,rfl,s,q⟩:=az.cons.mp h;obtain ⟨a,ws,rfl,i,p⟩:=Rp.tuple.mp s;unfold t7 at e
  cases Y:mU ds with
  | none=>rw[Y] at e;cases e
  | some l=>
   cases Z:t7 r with
   | none=>rw[Y,Z] at e;cases e
   | some u=>
    rw[Y,Z] at e;cases e;obtain ⟨cs,rfl,o⟩:=az.Yk q Z;rw[az.Ox p Y] at i;exact ⟨a::cs,rfl,.cons i o⟩
 | .none::r,vs,key,h,e=>by cases e
 | .bool _::r,vs,key,h,e=>by cases e
 | .str _::r,vs,key,h,e=>by cases e
 | .list _::r,vs,key,h,e=>by cases e
 | .int _::r,vs,key,h,e=>by cases e
 | .dict _::r,vs,key,h,e=>by cases e
theorem Rp.Xl(h:Rp K A kd v)(Y:jr kd=some key):∃b,v= .ref b/\nH K A key b:=by
 cases kd with
 | tuple o=>
  obtain ⟨a,l,rfl,e,Z⟩:=Rp.tuple.mp h;obtain ⟨j,rfl,i⟩:=az.Yk Z Y;exact ⟨a,rfl,j,e,i⟩
 | _=>cases Y
end
theorem aY.HS(r:aY K A B H O σ Γ)(l:fl O i= .nst true)(e:gv Γ i=some (.dict x3)) :
 ∃p xs,sv σ i=some (.ref p)/\H p=some (ie p xs)/\A p=none/\B p=none/\RpN K A x3 xs:=by
 obtain ⟨v,Z,q⟩:=r.slot i _ e;rw[l] at q;obtain ⟨p,xs,Y,rfl,u,j,s,w5,o⟩:=q rfl;cases u;exact ⟨p,xs,Z,j,s,w5,o⟩
theorem aY.afg{xs o:List (dh×Addr×a0)}(r:aY K A B H O σ Γ)(hi:fl O i= .nst true)(P:i < Γ.length)(hs:sv σ i=some (.ref p))(J:H p=some (ie p xs))(h2:A p=none)(U:B p=none)(h4:RpN K A x3 o)
 (I:∀j,i≠j->fl O j ≠ .nst true):aY K A B (xk H p (ie p o)) O σ (Γ.set i (some (.dict x3))):=by
 refine ⟨λb u q=>?_,λb u q=>?_,by rw[eJ];exact r.len,λj=>?_,λj k R q1 q2 q3 q4=>?_⟩
 . rw[aG (λz=>by rw[z,h2] at q;cases q)];exact r.a b u q
 . rw[aG (λz=>by rw[z,U] at q;cases q)];exact r.b b u q
 . by_cases S:i=j
   . subst S;rw[gv,bI P];intro d e;cases e;refine ⟨_,hs,?_⟩;rw[hi];exact λ_=>⟨p,o,x3,rfl,rfl,aX,h2,U,h4⟩
   . rw[gv,aR S];intro d e;obtain ⟨v,ev,q⟩:=r.slot j d e;refine ⟨v,ev,?_⟩
     cases Y:fl O j with
     | xo=>rwa [Y] at q
     | xl=>rwa [Y] at q
     | own=>
      rw[Y] at q;obtain ⟨E,L,rfl,s,Q,M,D⟩:=q;have Z:E≠p:=λz=>by subst z;rw[s] at J;exact D.nx J
      exact ⟨E,L,rfl,by rw[aG Z];exact s,Q,M,D⟩
     | fix p0=>
      rw[Y] at q;obtain ⟨q0,E,L,rfl,s,Q,M,D⟩:=q;have Z:E≠p:=λz=>by subst z;rw[s] at J;exact D.nx J
      exact ⟨q0,E,L,rfl,by rw[aG Z];exact s,Q,M,D⟩
     | kit=>rwa [Y] at q
     | exc C=>rwa [Y] at q
     | nst b=>
      cases b with
      | true=>exact absurd Y (I j S)
      | false=>exact λz=>nomatch z
 . have g:∀l,isO (fl O l)=true->gv (Γ.set i (some (.dict x3))) l≠none->gv Γ l≠none:=λl h z=>by
    have P:i≠l:=λz=>by subst z;rw[hi] at h;cases h
    unfold gv at z ⊢;rwa [aR P] at z
   exact r.sep j k R q1 q2 (g j q1 q3) (g k q2 q4)
theorem aY.adp(r:aY K A B H O σ Γ)(hi:fl O i= .own)(U:i<O.length)(L:gv Γ i=some (.dict [])) :
 ∃p,H p=some (.dK [])/\aY K A B (xk H p (ie p [])) (O.set i (.nst true)) σ Γ:=by
 obtain ⟨d,p,o,e1,e2,h1,h2,h3,M⟩:=r.mV (by rw[hi];rfl) (by rw[L];simp);rw[L] at e1;cases e1;rcases M with ⟨ds,vs,z,_⟩ | ⟨I,u,z,rfl,M⟩
 . cases z
 cases z;rw[bj.nil] at M;subst M;refine ⟨p,h1,λb u q=>?_,λb u q=>?_,r.len,λj=>?_,λj k hjk s l q3 q4=>?_⟩
 . rw[aG (λz=>by rw[z,h2] at q;cases q)];exact r.a b u q
 . rw[aG (λz=>by rw[z,h3] at q;cases q)];exact r.b b u q
 . by_cases J:i=j
   . subst J;rw[fl,bI U];intro d e;rw[L] at e;cases e;exact ⟨_,e2,λ_=>⟨p,[],[],rfl,rfl,aX,h2,h3,[],.nil,.nil⟩⟩
   . rw[fl,aR J];intro d e;obtain ⟨v,ev,q⟩:=r.slot j d e;refine ⟨v,ev,?_⟩;have E:isO (fl O j)=true->∀Z,v= .ref Z->Z≠p:=λY Z ez z=>by
      refine r.sep i j J (by rw[hi];rfl) Y (by rw[L];simp) (by rw[e];simp) ?_;rw[e2,ev,ez,z]
     cases Y:fl O j with
     | xo=>unfold fl at Y;rw[Y];rwa [show fl O j= .xo from Y] at q
     | xl=>unfold fl at Y;rw[Y];rwa [show fl O j= .xl from Y] at q
     | own=>
      have D:=E (by rw[Y];rfl);unfold fl at Y;rw[Y];rw[show fl O j= .own from Y] at q;obtain ⟨Z,R,rfl,P,u2,S,Q⟩:=q;exact ⟨Z,R,rfl,by rw[aG (D Z rfl)];exact P,u2,S,Q⟩
     | fix p0=>
      have D:=E (by rw[Y];rfl);unfold fl at Y;rw[Y];rw[show fl O j= .fix p0 from Y] at q;obtain ⟨q0,Z,R,rfl,P,u2,S,Q⟩:=q;exact ⟨q0,Z,R,rfl,by rw[aG (D Z rfl)];exact P,u2,S,Q⟩
     | exc C=>unfold fl at Y;rw[Y];rwa [show fl O j= .exc C from Y] at q
     | kit=>unfold fl at Y;rw[Y];rwa [show fl O j= .kit from Y] at q
     | nst b=>
      unfold fl at Y;rw[Y];rw[show fl O j= .nst b from Y] at q;intro z;obtain ⟨Z,xs,I,w1,w2,w3,w4,w5,w6⟩:=q z;have D:Z≠p:=λz=>by subst z;rw[h1] at w3;cases w3
      exact ⟨Z,xs,I,w1,w2,by rw[aG D];exact w3,w4,w5,w6⟩
 . have J:i≠j:=λz=>by subst z;unfold fl at s;rw[bI U] at s;cases s
   have hk:i≠k:=λz=>by subst z;unfold fl at l;rw[bI U] at l;cases l
   unfold fl at s l;rw[aR J] at s;rw[aR hk] at l;exact r.sep j k hjk s l q3 q4
noncomputable def yI(i:Nat)(m:ME):ME:=λΓ=>(m Γ).bind λkd=>match gv Γ i with
 | some (.dict x3)=>match jr kd with
  | some key=>.ok (.bool (!(jU key x3).isSome))
  | none=>.bad
 | _=>.bad
noncomputable def Qj(i:Nat)(m:ME):ME:=λΓ=>(m Γ).bind λkd=>match gv Γ i with
 | some (.dict x3)=>match jr kd with
  | some key=>match jU key x3 with
   | some d=>.ok d
   | none=>.bad
  | none=>.bad
 | _=>.bad
noncomputable def Ht(i:Nat)(mk mv:ME):MS:=λΓ=>(mv Γ).bind λx=>(mk Γ).bind λkd=>match gv Γ i with
 | some (.dict x3)=>match jr kd with
  | some key=>gd (x3.length<ba/\i < Γ.length) (.ok (.nx (Γ.set i (some (.dict (putN kd key x x3))))))
  | none=>.bad
 | _=>.bad
section
variable         {xp:Pos}
def aeJ(K:av):R2:=λx y H Q=>∃b p xs us k,x= .ref b/\y= .ref p/\H p=some (ie p xs)/\KN K H us xs/\nH K H k b/\Q (.bl (!(gq us k).isSome)) H
theorem RX(B:X.A.units+66<h7):OpR X (eD .NotIn) (aeJ X.K):=by
 rintro Y s D H x y v u Q I Z j ⟨b,p,r,z,k,rfl,rfl,o,l,e,q⟩;cases (Z);cases (j);exact aan (by lia) I o l e λC i=>⟨.bl _,H,i,rfl,q⟩
def ae4(K:av):R2:=λx y H Q=>∃p b xs us k v,x= .ref p/\y= .ref b/\H p=some (ie p xs)/\KN K H us xs/\nH K H k b/\gq us k=some v/\Q v H
theorem afe(U:X.A.units+66<h7):IxR X (ae4 X.K):=by
 intro e i Y s z H x y v u Q I E C h J;obtain ⟨p,b,S,R,k,w,rfl,rfl,B,o,M,L,q⟩:=h;cases (E);cases (C);have hT:=(Hj I B o).2.2.typeIs;refine ag ?_;rw[kQ hT.not_modules];refine ag (iS hT iX.lookup ?_);have fin:de (dt X.prog X.w) X.A (mI i false (.ref p) (.ref b)) (λr Z=>de (dt X.prog X.w) X.A (oC e (.ref p) r >>= λ_=>pure r) (EP X Y z Q) X.xe Z) X.xe s:=by
  rw[J];exact nS (fy (RM (by lia) I B o M L λP D O l=>(⟨w,H,O,l,q⟩:EP X Y z Q P D)) (λr Z j=>ag (k9 (a9 j))) λ_ _ x=>x)
 first
  | exact a9 (ag fin)
  | exact ag (a9 (ag fin))
  | exact ag fin
def ac2(K:av)(td ty tv:TE):TS:=λD σ H=>tv σ H λv H1=>td σ H1 λx H2=>ty σ H2 λy H3=>∃a b xs us k,x= .ref a/\y= .ref b/\H3 a=some (ie a xs)/\KN K H3 us xs/\nH K H3 k b/\us.length<ba /\
 ∀r,xh v r->D.nx σ (xk H3 a (ie a (sA xs k b r)))
theorem aag{o ty l:TE}(hu:X.A.units+66<h7)(ho:PE X e o)(hi:PE X tg ty)(q:PE X c l)(hs:fR c (some (.Subscript e tg pos')) pos.line X.env=pure false) :
 PS X (.Assign [.Subscript e tg pos'] c pos) (ac2 X.K o ty l):=by
 intro Y s i H D I h;refine wpAny_Assign_Subscript (thn (q Y s i H _ I h) λr R ⟨v,Q,I1,j,q1⟩=>thn (ho Y R i Q _ I1 q1) λu B ⟨x,z,S,U,P⟩=>thn (hi Y B i z _ S P) λL s3 Z=>?_) hs;obtain ⟨y,H3,I3,E,a,b,xs,us,k,ex,J,O,M,C,hl,q3⟩:=Z;subst ex J;obtain rfl:u=fN a:=U;obtain rfl:L=fN b:=E;exact Rr (by lia) I3 O M C j hl λs4 p=>⟨i,_,p,q3 r j⟩
theorem Sy(i:Nat)(U:X.A.units+66<h7)(J:QE X a (tE X.K O m))(M:fl O i= .nst true:=by rfl)(j:Nm X i x:=by walk_at "nm"):QT X (.Compare a [.NotIn] [.Name x xp] pos) (tT X.K O (yI i m)):=
 QT.imp (NQ (RX U) J.h (dJ j.1 j.2 j.3 j.4) rfl) λσ H Q Z=>by
  obtain ⟨A,B,q,bb,r,em,k⟩:=Z;obtain ⟨s,u,em⟩:=x8.au em
  cases l:gv q i with
  | none=>rw[l] at em;cases em
  | some dl=>
   rw[l] at em
   cases dl with
   | dict x3=>
    have em:=em
    cases o:jr s with
    | none=>rw[o] at em;cases em
    | some key=>
     rw[o] at em;cases em;obtain ⟨p,R,C,E,h2,h3,D,S,I⟩:=r.HS M l;refine ⟨A,B,q,s,r,u,λv A1 L Y P=>⟨.ref p,dH C,?_⟩⟩;obtain ⟨b,rfl,z⟩:=Rp.Xl P o;exact ⟨b,p,R,D,key,rfl,rfl,Y.hh _ _ E,S.keeps λ_ _ e=>(Y.aa.trans Y.ah).fP e,z.keeps λ_ _ e=>Y.ah.fP e,_,by rw[NP.any I],k A1 L Y⟩
   | _=>cases em
theorem abQ(i:Nat)(hu:X.A.units+66<h7)(M:QE X a (tE X.K O m))(hs:lA a)(S:fl O i= .nst true:=by rfl)(l:Nm X i x:=by walk_at "nm"):QE X (.Subscript (.Name x xp) a pos) (tE X.K O (Qj i m)):=
 QE.imp (Dl (afe hu) (dJ l.1 l.2 l.3 l.4) M.h hs) λσ H Q Z=>by
  obtain ⟨A,B,u,d,r,em,k⟩:=Z;obtain ⟨z,C,em⟩:=x8.au em
  cases q:gv u i with
  | none=>rw[q] at em;cases em
  | some dl=>
   rw[q] at em
   cases dl with
   | dict j=>
    have em:=em
    cases s:jr z with
    | none=>rw[s] at em;cases em
    | some key=>
     rw[s] at em;have em:(match jU key j with | some d=>x8.ok d | none=>.bad)= .ok d:=em
     cases o:jU key j with
     | none=>rw[o] at em;cases em
     | some d0=>
      rw[o] at em;cases em;obtain ⟨p,xs,E,J,h2,h3,I,h4,L⟩:=r.HS S q;obtain ⟨R,ev,rv⟩:=(NP.look L).1 d o;refine ⟨.ref p,dH E,A,B,u,z,r,C,λv A1 P Y U=>?_⟩;obtain ⟨b,rfl,D⟩:=Rp.Xl U s;exact ⟨p,b,xs,I,key,R,rfl,rfl,Y.hh _ _ J,h4.keeps λ_ _ e=>(Y.aa.trans Y.ah).fP e,D.keeps λ_ _ e=>Y.ah.fP e,ev,k _ A1 P Y (Rp.mono Y.aa _ rv)⟩
   | _=>cases em
noncomputable def ab6(O:B9)(i:Nat):Bool:=(List.range O.length).all λj=>j == i || !decide (fl O j= .nst true)
theorem YQ(h:ab6 O i=true)(Z:i≠j):fl O j ≠ .nst true:=λz=>by
 have Y:j<O.length:=by
  rcases ff j O.length with z' | z'
  . exact z'
  . unfold fl at z;rw[ae,eg z'] at z;cases z
 have:=d3.mp h j (cE.mpr Y);rw[decide_eq_true z] at this;simp at this;exact Z this.symm
theorem ZZ(i:Nat)(hu:X.A.units+66<h7)(ha:QE X a (tE X.K O m))(he:QE X e (tE X.K O m'))(hi:fl O i= .nst true:=by rfl)(s:ab6 O i=true:=by rfl)(u:Nm X i x:=by walk_at "nm")(hs:fR e (some (.Subscript (.Name x xp) a tpos)) pos.line X.env=pure false:=by rfl) :
 QS X (.Assign [.Subscript (.Name x xp) a tpos] e pos) (tS X.K rm Ol O O (Ht i m m')):=by
 refine QS.imp (aag hu (dJ u.1 u.2 u.3 u.4) ha.h he.h hs) λD σ H p=>?_;obtain ⟨A,B,J,o,r,em,k⟩:=p;obtain ⟨d,e1,em⟩:=x8.au em;obtain ⟨kd,e2,em⟩:=x8.au em
 cases L:gv J i with
 | none=>rw[L] at em;cases em
 | some dl=>
  rw[L] at em
  cases dl with
  | dict P=>
   have Y:=em
   cases C:jr kd with
   | none=>rw[C] at Y;cases Y
   | some key=>
    rw[C] at Y;obtain ⟨⟨hz,M⟩,Y⟩:=b8 Y;cases Y;obtain ⟨q,xs,U,I,h2,h3,us,h4,h5⟩:=r.HS hi L;refine ⟨A,B,J,d,r,e1,λv A1 H1 Q p1=>⟨.ref q,dH U,A1,B,J,_,r.grow Q,e2,λw A2 H2 S p2=>?_⟩⟩;have Z:=Q.trans S;obtain ⟨b,rfl,R⟩:=Rp.Xl p2 C;have l:=h4.keeps λ_ _ e=>Z.aa.fP e;have E:NP X.K A2 P us:=Paired.sE h5 λ_ _ z=>⟨z.1,Rp.mono Z.aa _ z.2⟩;refine ⟨q,b,xs,us,key,rfl,rfl,Z.hh _ _ I,l.keeps λ_ _ e=>Z.ah.fP e,R.keeps λ_ _ e=>Z.ah.fP e,by rw[<- hX.length h5];exact hz,λrr hr=>?_⟩;exact k σ A2 _ ((r.grow Z).afg hi M U (Z.hh _ _ I) (Z.nw q h2 (by rw[I];simp)) h3 ⟨_,l.put key R hr,NP.put C (Rp.mono S.aa _ p1) E⟩ λj hj=>YQ s hj) Z.aa (Z.nB r.b)
  | _=>cases em
theorem aaz{st:Stmt}(i:Nat)(h:QS X st (tS X.K rm Ol O O1 (aZ i (jy []))))(R:fl O1 i= .own:=by rfl)(P:i<O1.length:=by exact of_decide_eq_true rfl)(Q:O1.set i (.nst true)=O2:=by rfl):QS X st (tS X.K rm Ol O O2 (aZ i (jy []))):=by
 subst Q;refine ⟨λZ s σ H D I ⟨A,B,M,o,r,em,k⟩=>?_⟩;have l:=em;obtain ⟨d,z,em⟩:=x8.au em;obtain ⟨v,em⟩:=b8 em;cases em;cases z;refine thn (h.h Z s σ H ⟨λY e=>∃p,e p=some (.dK [])/\D.nx Y (xk e p (ie p [])),D.rt,D.bk,D.ct⟩ I ⟨A,B,M,_,r,l,λY U e J S nw=>?_⟩) λf s' q=>?_
 . obtain ⟨p,j,E⟩:=J.adp R P (by rw[gv,bI v]);exact ⟨p,j,k Y U _ E S nw⟩
 . cases f with
   | next=>
    obtain ⟨Y,e,C,p,j,L⟩:=q;exact ⟨Y,_,aeq C j,L⟩
   | brk=>exact q
   | cont=>exact q
   | ret u=>exact q
end
noncomputable def Hm(mk mv:ME):ME:=λΓ=>(mk Γ).bind λkd=>(mv Γ).bind λd=>match bM kd with
 | some _=>.ok (.dict [(kd,d)])
 | none=>.bad
theorem YF{mk:ME}(hk:QE X e (tE X.K O mk))(S:QE X tg (tE X.K O m)):QE X (.Dict [some e] [tg] pos) (tF X.K O (Hm mk m)):=
 QE.imp (Fd (rK hk.h S.h yV) rfl rfl (λz=>nomatch z) (by show 1<=15;decide)) λσ H Q l=>by
  obtain ⟨A,B,D,d,r,em,k⟩:=l;obtain ⟨I,L,em⟩:=x8.au em;obtain ⟨d1,R,em⟩:=x8.au em
  cases Y:bM I with
  | none=>rw[Y] at em;cases em
  | some key=>
   rw[Y] at em;cases em;intro p j;have C:aW A H A (xk H p (.dK [])):=aW.lay r.a j;refine ⟨A,B,D,I,r.grow C,L,λkv P H1 s p1=>⟨P,B,D,d1,(r.grow C).grow s,R,λtg U J u p2=>⟨(s.trans u).hh _ _ aX,[(key,tg)],by rw[Rp.key p1 Y];rfl,by show 1<=15;decide,?_⟩⟩⟩;have Z:=s.trans u;have E:=Z.4 p (r.a.free j) (by rw[aX];exact λz=>nomatch z);have M:aW A H U (xk J p (.dK (lH [] [(key,tg)]))):=by
    refine ⟨Z.aa,λb o q=>?_,λb o q=>?_,λb q1 v=>?_⟩
    . have i:=cU q j;rw[aG i];exact Z.hh _ _ (by rw[aG i];exact q)
    . have i:=cU q E;rw[aG i];exact u.ah _ _ q
    . have i:b≠p:=λz=>v (z ▸ j);exact Z.4 b q1 (by rw[aG i];exact v)
   exact k _ _ _ M ⟨p,_,rfl,j,aX,E,.inr ⟨_,[(key,tg)],rfl,rfl,bj.cons.mpr ⟨_,tg,[],rfl,Y,p2,bj.nil.mpr rfl⟩⟩⟩
noncomputable def Jb(ds es:B4):B4:=(ds.zip es).map λp=>ab.tuple [p.1,p.2]
section
open Builtin Builtin.Str
section
variable   {A:g9}   {o J U c d q:Addr}{k:Nat}{us vs:Array a0}{u v m n:a0}
theorem Nz{Q:Bool->cq->Prop}(Y:tJ s.heap o J U .none)(Z:Q true s):de (dt prog w) A (Builtin.SmallTypes.ownedTupleIsFree (.ref o)) Q E s:=by
 exact ag (hW Y rfl rfl (a9 Z))
theorem aaL{r:Addr}{Q:Unit->cq->Prop}(j:tJ s.heap o J U .ellipsis)(p:∀h',tJ h' o J U (qA r)->m3 o s.heap h'->Q () { s with heap:=h' }) :
 de (dt prog w) A (Builtin.SmallTypes.ownedTupleHandOut (.ref o) (.ref r)) Q E s:=by
 exact ag (kP j (by simp) λu q Z=>kP (q) (by simp) λl i e=>p l i ⟨e.1.trans Z.1,λb Y=>(e.2 b Y).trans (Z.2 b Y)⟩)
theorem Nk(Y:ZipApart o J U c d p q)(C:tJ s.heap o J U .none)(hj:mn s.heap J (.ref c) (.ref d))(hu:mn s.heap U u v)
 (hc:s.heap.IsTupleIter c p k) (hd:s.heap.IsListIter d q k) (hp:s.heap.IsTuple p us) (hq:s.heap.IsList q vs) (hm:us[k]?=some m) (hn:vs[k]?=some n)
 (hQ:∀h',tJ h' o J U (qA s.heap.objs.size)->mn h' U m n->h'.IsTupleIter c p (k+1)->h'.IsListIter d q (k+1)->mn h' s.heap.objs.size m n ->
  (∀b x,b≠o->b≠U->b≠c->b≠d->s.heap.get? b=some x->h'.get? b=some x)->Q (.ref s.heap.objs.size) { s with heap:=h' }) :
 de (dt prog w) A (Builtin.«zip.__next__» ⟨[.ref o],[]⟩) (λf t=>∃y,f= .done (.ret y)/\Q y t) E s:=by
 show de _ _ (field (.ref o) 2 >>= _) _ _ s;refine ag (hW C rfl rfl (ag (hW C rfl rfl (ag (eW hj rfl ?_)))));refine ag (Nz C (ag (r9 (ag (hW C rfl rfl (ag (kP C (by simp) λha M Z=>ag ?_)))))));replace M:tJ ha o J U .ellipsis:=M;refine ag (ag (sQ (ag (jh (hc.at λy e=>Z.extBut c y Y.i1z e) (let ⟨y,e,r⟩:=hp;⟨y,Z.extBut p y Y.l1z e,r⟩) hm λhb cb i=>a9 ?_))));have S:=i.extBut U _ Y.TOi1 (Z.extBut U _ Y.TOz hu);refine ag (eW S rfl (ag (qh S λhe I l=>ag (ot (a9 ?_)))));replace I:mn he U m v:=I;refine ag (ag (sQ ?_));have kd:=λx e=>l.extBut d x Y.TOi2.symm (i.extBut d x Y.i12.symm (Z.extBut d x Y.i2z e));have kq:=λx e=>l.extBut q x Y.l2TO (i.extBut q x Y.l2i1 (Z.extBut q x Y.l2z e));refine ag (wpAny_nextOf_list_item (hd.at kd) (let ⟨y,e,r⟩:=hq;⟨y,kq y e,r⟩) hn λhf df B=>a9 ?_);have uf:=B.extBut U _ Y.TOi2 I;refine ag (eW uf rfl (ag (qh uf λhg H z=>ag (ot (a9 (a9 ?_))))));replace H:mn hg U m n:=H;refine ag (eW H rfl (ag (wpAny_newTuple ?_)));have sz:hg.objs.size=s.heap.objs.size:=by rw[z.1,B.1,l.1,i.1,Z.1]
 have R:=z.extBut o _ Y.TOz.symm (B.extBut o _ Y.i2z.symm (l.extBut o _ Y.TOz.symm (i.extBut o _ Y.i1z.symm M)));have kg:=λb x j D O L e=>z.extBut b x D (B.extBut b x L (l.extBut b x D (i.extBut b x O (Z.extBut b x j e))));have cg:=cb.at λy e=>z.extBut c y Y.TOi1.symm (B.extBut c y Y.i12 (l.extBut c y Y.TOi1.symm e));have dg:=df.at λy e=>z.extBut d y Y.TOi2.symm e;have lo:=cm R;refine ag (aaL (aE _ R) λhl P bl=>a9 ⟨_,rfl,?_⟩);have up:=λb x j e=>bl.extBut b x j (aE _ e);have tl:=bl.extBut _ _ (ow lo) (cn _ rfl);rw[sz] at P tl;rw[sz];exact hQ hl P (up U _ Y.TOz H) (cg.at λy e=>up c y Y.i1z e) (dg.at λy e=>up d y Y.i2z e) tl λb x j D O L e=>up b x j (kg b x j D O L e)
theorem acG{Q:Fin->cq->Prop}(hh:A.handled=none)(Y:ZipApart o J U c d p q)(B:tJ s.heap o J U .none)(hj:mn s.heap J (.ref c) (.ref d))(hu:mn s.heap U u v)
 (hc:s.heap.IsTupleIter c p k) (hd:s.heap.IsListIter d q k) (hp:s.heap.IsTuple p us) (hq:s.heap.IsList q vs) (hx:us[k]?=none\/vs[k]?=none)
 (hE:∀h' y,(∀b x,b≠o->b≠U->b≠c->b≠d->s.heap.get? b=some x->h'.get? b=some x)->(∃x,h'.get? y=some x/\x.cls= .type "StopIteration")->E (.ref y) { s with heap:=h' }) :
 de (dt prog w) A (Builtin.«zip.__next__» ⟨[.ref o],[]⟩) Q E s:=by
 show de _ _ (field (.ref o) 2 >>= _) _ _ s;refine ag (hW B rfl rfl (ag (hW B rfl rfl (ag (eW hj rfl ?_)))));refine ag (Nz B (ag (r9 (ag (hW B rfl rfl (ag (kP B (by simp) λO D j=>ag ?_)))))));replace D:tJ O o J U .ellipsis:=D;refine ag (ag (sQ ?_));have ca:=hc.at λy e=>j.extBut c y Y.i1z e;have pa:O.IsTuple p us:=let ⟨y,e,r⟩:=hp;⟨y,j.extBut p y Y.l1z e,r⟩;have out:∀{P:Heap}{y:Addr}{x:Obj},P.get? y=some x->x.cls= .type "StopIteration" -> tJ P o J U .ellipsis->y≠o:=λe cl z eq=>by
  rw[eq,z] at e;cases e;exact absurd cl (by show ¬ (ke "zip"= ke "StopIteration");decide)
 cases H:us[k]? with
 | none=>
  refine ag (jz hh ca pa H λhb y i Z=>?_);obtain ⟨x,e,cl⟩:=Z;have L:=i o _ Y.i1z.symm D;exact kP L (by simp) λhe _ l=>hE he y (λb x C _ I _ e=>l.extBut b x C (i b x I (j.extBut b x C e))) ⟨x,l.extBut y x (out e cl L) e,cl⟩
 | some m=>
  have h1:=hx.resolve_left λz=>by rw[H] at z;cases z
  refine ag (jh ca pa H λhb cb i=>a9 ?_);have R:=i.extBut U _ Y.TOi1 (j.extBut U _ Y.TOz hu);refine ag (eW R rfl (ag (qh R λhe ue l=>ag (ot (a9 (ag (ag (sQ ?_))))))));have kd:=λx e=>l.extBut d x Y.TOi2.symm (i.extBut d x Y.i12.symm (j.extBut d x Y.i2z e));have kq:=λx e=>l.extBut q x Y.l2TO (i.extBut q x Y.l2i1 (j.extBut q x Y.l2z e));refine ag (wpAny_nextOf_list_end hh (hd.at kd) (let ⟨y,e,r⟩:=hq;⟨y,kq y e,r⟩) h1 λhf y S Z=>?_);obtain ⟨x,e,cl⟩:=Z;have zf:=S o _ Y.i2z.symm (l.extBut o _ Y.TOz.symm (i.extBut o _ Y.i1z.symm D));exact kP zf (by simp) λhg _ M=>hE hg y (λb x C n2 I n4 e=>M.extBut b x C (S b x n4 (l.extBut b x n2 (i.extBut b x I (j.extBut b x C e))))) ⟨x,M.extBut y x (out e cl zf) e,cl⟩
theorem O9{Q:B7->cq->Prop}(i:ZipApart o J U c d p q)(Y:tJ s.heap o J U .none)(D:mn s.heap J (.ref c) (.ref d))(z:mn s.heap U u v)
 (B:s.heap.IsTupleIter c p k) (hd:s.heap.IsListIter d q k) (j:s.heap.IsTuple p us) (r:s.heap.IsList q vs) (C:us[k]?=some m) (l:vs[k]?=some n)
 (Z:∀h',tJ h' o J U (qA s.heap.objs.size)->mn h' U m n->h'.IsTupleIter c p (k+1)->h'.IsListIter d q (k+1)->mn h' s.heap.objs.size m n ->
  (∀b x,b≠o->b≠U->b≠c->b≠d->s.heap.get? b=some x->h'.get? b=some x)->Q (some (.ref s.heap.objs.size)) { s with heap:=h' }) :
 de (dt prog w) A (pyNext (.ref o)) Q E s:=by
 have H:s.TypeIs (.ref o) "zip" := ⟨_,Y,rfl⟩;have one:=Nk (prog:=prog) (w:=w) (A:=A) (E:=λe t=>False) i Y D z B hd j r C l (Q:=λy t=>Q (some y) t) Z;refine ag (wpAny_attempt (fh H rl (fi rl H F.entry_zip_next (Nk i Y D z B hd j r C l λh' L I O M P R=>?_) (F.args_zip_next_1 _))));exact a9 (Z h' L I O M P R)
theorem T9{Q:B7->cq->Prop}(hh:A.handled=none)(i:ZipApart o J U c d p q)(Z:tJ s.heap o J U .none)(C:mn s.heap J (.ref c) (.ref d))(B:mn s.heap U u v)
 (D:s.heap.IsTupleIter c p k) (hd:s.heap.IsListIter d q k) (j:s.heap.IsTuple p us) (l:s.heap.IsList q vs) (r:us[k]?=none\/vs[k]?=none)
 (z:∀h',(∀b x,b≠o->b≠U->b≠c->b≠d->s.heap.get? b=some x->h'.get? b=some x)->Q none { s with heap:=h' }):de (dt prog w) A (pyNext (.ref o)) Q E s:=by
 have Y:s.TypeIs (.ref o) "zip" := ⟨_,Z,rfl⟩;refine ag (wpAny_attempt (fh Y rl (fi rl Y F.entry_zip_next (acG hh i Z C B D hd j l r λh' y kp ⟨x,e,cl⟩=>?_) (F.args_zip_next_1 _))));exact ag (nc ⟨x,e,cl⟩ isSubtype_stop (a9 (z _ kp)))
end
noncomputable def ztA(h:Heap)(p:Addr):Heap:=h.push { cls:=.type "tuple_iterator",data:=.fields #[.ref p,.int 0 0] }
noncomputable def ztB(h:Heap)(p q:Addr):Heap:=(ztA h p).push { cls:=.type "list_iterator",data:=.fields #[.ref q,.int 0 0] }
noncomputable def ztC(h:Heap)(p q:Addr):Heap:=(ztB h p q).push { cls:=.type "tuple",data:=.seq #[.ref h.objs.size,.ref (ztA h p).objs.size] }
noncomputable def ztD(h:Heap)(p q:Addr):Heap:=(ztC h p q).push { cls:=.type "tuple",data:=.seq #[.none,.none] }
noncomputable def ztE(h:Heap)(p q:Addr):Heap:=(ztD h p q).push { cls:=.type "zip",data:=.fields #[.none,.bool false,.bool false,.ref (ztB h p q).objs.size,.ref (ztC h p q).objs.size] }
theorem Xj(p q:Addr)(o vs:Array a0):Meets (Builtin.«zip.__new__» ⟨[.type "zip",.ref p,.ref q],[]⟩) (λ_ R s=>s.heap.IsTuple p o/\s.heap.IsList q vs /\
 R (.ok (.ret (.ref (ztD s.heap p q).objs.size))) { s with heap:=ztE s.heap p q }):=
 .of_wp λprog w A R s Y=>by
  obtain ⟨j,l,h⟩:=Y;obtain ⟨hh,g,d,e,os⟩:=s;have Z:=sub_zip;have r:=j;have i:Heap.IsList (Shared.heap ⟨hh.push { cls:=.type "tuple_iterator",data:=.fields #[.ref p,.int 0 0] },g,d,e,os⟩) q vs:=l.push _
  wp_walk using md r,sC i
  exact ⟨_,rfl,h⟩
theorem ZS{A:g9}{q:Addr}{o r:Array a0}(B:s.heap.IsTuple p o)(C:s.heap.IsList q r)
 (go:∀h' N,N=s.heap.objs.size->tJ h' (N+4) (N+2) (N+3) .none->mn h' (N+2) (.ref N) (.ref (N+1))->mn h' (N+3) .none .none->h'.IsTupleIter N p 0->h'.IsListIter (N+1) q 0 ->
  (∀b x,s.heap.get? b=some x->h'.get? b=some x)->Q (.ref (N+4)) { s with heap:=h' }):de (dt prog w) A (call (.type "zip") [.ref p,.ref q]) Q E s:=by
 have i:(ztA s.heap p).objs.size=s.heap.objs.size+1:=gy ..
 have j:(ztB s.heap p q).objs.size=s.heap.objs.size+2:=(gy ..).trans (by rw[i]);have Z:(ztC s.heap p q).objs.size=s.heap.objs.size+3:=(gy ..).trans (by rw[j]);have z:(ztD s.heap p q).objs.size=s.heap.objs.size+4:=(gy ..).trans (by rw[Z]);have Y:(ztE s.heap p q).get? (ztD s.heap p q).objs.size=some _:=cn _ rfl;have v:(ztE s.heap p q).get? (ztC s.heap p q).objs.size=some _:=aE _ (cn _ rfl);have u:(ztE s.heap p q).get? (ztB s.heap p q).objs.size=some _:=aE _ (aE _ (cn _ rfl));have l:(ztE s.heap p q).get? (ztA s.heap p).objs.size=some _:=aE _ (aE _ (aE _ (cn _ rfl)));have D:(ztE s.heap p q).get? s.heap.objs.size=some _:=aE _ (aE _ (aE _ (aE _ (cn _ rfl))));refine callType_new F.called_zip (by decide) (F.typeCall_zip_2 _ _) (F.newCall_zip_2 _ _) (λb=>F.args_object_init_3 b _ _) F.entry_zip_new (Xj p q o r) ⟨B,C,?_⟩;rw[j,Z,z] at Y;rw[Z] at v;rw[i,j] at u;rw[i] at l;rw[z];exact ⟨⟨_,Y,rfl⟩,go _ _ rfl Y u v ⟨_,D,rfl,rfl⟩ ⟨_,l,rfl,rfl⟩ λb x e=>aE _ (aE _ (aE _ (aE _ (aE _ e))))⟩
noncomputable def Xn(K:av)(a b:Addr):It:=
 ⟨λi H=>∃xs ys x y,SqT K H a xs/\SqL K H b ys/\xs[i]?=some x/\ys[i]?=some y,
  λi H v H'=>∃p x y,H p=none/\v= .ref p/\H'=xk H p (.tup [x,y])/\(∀xs,SqT K H a xs->xs[i]?=some x)/\(∀ys,SqL K H b ys->ys[i]?=some y),
  λi H=>∃xs ys,SqT K H a xs/\SqL K H b ys/\(xs.length<=i\/ys.length<=i)⟩
theorem aaY{x1}(a b z TI TO j i2:Addr)(D:ZipApart z TI TO j i2 a b) :
 Turn P w K (.Tuple elts x1 tpos) (Xn K a b) [z,TI,TO,j,i2] z (λi h=>tJ h z TI TO .none/\mn h TI (.ref j) (.ref i2)/\(∃u v,mn h TO u v)/\h.IsTupleIter j a i/\h.IsListIter i2 b i) where
 mem:=by simp
 obj:=λi h st c hc=>by
  obtain ⟨J,Y,⟨u,v,Z⟩,⟨o1,ho1,c1,d1⟩,o2,ho2,c2,d2⟩:=st;have R:c=z\/c=TI\/c=TO\/c=j\/c=i2:=by simpa using hc
  rcases R with rfl | rfl | rfl | rfl | rfl
  . exact ⟨_,J,λv z=>by cases z⟩
  . exact ⟨_,Y,λv z=>by cases z⟩
  . exact ⟨_,Z,λv z=>by cases z⟩
  . exact ⟨o1,ho1,λv z=>by rw[d1] at z;cases z⟩
  . exact ⟨o2,ho2,λv z=>by rw[d2] at z;cases z⟩
 keep:=λi h h' st k=>by
  obtain ⟨J,Y,⟨u,v,Z⟩,h1,h2⟩:=st;exact ⟨k z (by simp) _ J,k TI (by simp) _ Y,⟨u,v,k TO (by simp) _ Z⟩,h1.at λo q=>k j (by simp) o q,h2.at λo q=>k i2 (by simp) o q⟩
 item:=by
  intro X hP hw hK hc i x2 s σ H E I r st hg;subst hP hw hK;obtain ⟨J,Y,⟨u,v,Z⟩,M,B⟩:=st;obtain ⟨xs,ys,x,y,C,L,hx,hy⟩:=hg;obtain ⟨l,S,p1,_⟩:=I.tuple C;obtain ⟨its2,Q,p2,_⟩:=I.list L;obtain ⟨u1,hu1,ru1⟩:=S.get hx;obtain ⟨u2,hu2,ru2⟩:=Q.get hy;have fz:=r z (by simp);have fTI:=r TI (by simp);have fTO:=r TO (by simp);have f1:=r j (by simp);have f2:=r i2 (by simp);refine O9 D J Y Z M B (show s.heap.IsTuple a l.toArray from p1) p2.isList (m:=u1) (n:=u2) (by simpa using hu1) (by simpa using hu2) λh' hz' ae7 afw hi2' hN' hk=>?_;refine ⟨_,rfl,?_⟩;refine wpAny_letOwnedTupleGo_zip (s:={ s with heap:=h' }) hz' λh2 hz2 p=>?_;have hnew:H s.heap.objs.size=none:=I.xw.fresh (ax _);have hpz:s.heap.objs.size≠z:=ow (cm J);have hN2:mn h2 s.heap.objs.size u1 u2:=p.extBut _ _ hpz hN';have k2:∀c o,c≠z->c≠TO->c≠j->c≠i2->s.heap.get? c=some o->h2.get? c=some o:=λc o c1 c2 c3 c4 q=>p.extBut c o c1 (hk c o c1 c2 c3 c4 q);have U:∀c o,s.heap.get? c=some o->c∉[z,TI,TO,j,i2]->h2.get? c=some o:=λc o q hc=>k2 c o (λe=>hc (by simp[e])) (λe=>hc (by simp[e])) (λe=>hc (by simp[e])) (λe=>hc (by simp[e])) q;have I2:=I.za (tk:=s.toks) r U hN2 rfl rfl ru1 ru2;refine ⟨.ref s.heap.objs.size,_,I2,rfl,⟨_,x,y,hnew,rfl,rfl,λys O=>by rw[I.xj O C];exact hx,λys' O=>by rw[I.wB O L];exact hy⟩,⟨hz2,?_,⟨_,_,p.extBut _ _ D.TOz ae7⟩,afw.at λo q=>p.extBut _ o D.i1z q,hi2'.at λo q=>p.extBut _ o D.i2z q⟩,λb hb=>?_⟩
  . exact k2 TI _ D.TIz D.TITO D.TIi1 D.TIi2 Y
  . have hb':=(r b hb).1;have:b≠s.heap.objs.size:=by
     have R:b=z\/b=TI\/b=TO\/b=j\/b=i2:=by simpa using hb
     rcases R with rfl | rfl | rfl | rfl | rfl
     . exact ef (cm J)
     . exact ef (cm Y)
     . exact ef (cm Z)
     . obtain ⟨o,ho,_⟩:=M;exact ef (cm ho)
     . obtain ⟨o,ho,_⟩:=B;exact ef (cm ho)
    rw[aG this];exact hb'
 done:=by
  intro X hP hw hK hc i x2 s σ H E I r st hg;subst hP hw hK;obtain ⟨J,Y,⟨u,v,Z⟩,M,B⟩:=st;obtain ⟨xs,ys,C,L,hx⟩:=hg;obtain ⟨l,S,p1,_⟩:=I.tuple C;obtain ⟨its2,Q,p2,_⟩:=I.list L;have l1:=S.length;have l2:=Q.length;refine T9 (I.ok.hd hc) D J Y Z M B (show s.heap.IsTuple a l.toArray from p1) p2.isList (by
   rcases hx with h | h
   . exact .inl (by simp;lia)
   . exact .inr (by simp;lia)) λh' hk=>⟨rfl,?_⟩
  have U:∀c o,s.heap.get? c=some o->c∉[z,TI,TO,j,i2]->h'.get? c=some o:=λc o q hc=>hk c o (λe=>hc (by simp[e])) (λe=>hc (by simp[e])) (λe=>hc (by simp[e])) (λe=>hc (by simp[e])) q;have ge:∀c o,H c=some o->c∉[z,TI,TO,j,i2]:=λc o q hc=>by rw[(r c hc).1] at q;cases q
  have un:Un (frs X.stack) [z,TI,TO,j,i2] H H s.heap h':=by
   refine ⟨λb o q n _ hc=>U b o q hc,λb o q n _ hc=>⟨o.slots,U b o q hc⟩,λb o q n hc=>n,λb o q hc=>⟨o,U b o q hc⟩,λb ys q=>q,λb o y q=>q,λ_ _ q=>q⟩
  have xw:HOk X.prog X.w H h':=λb o q=>by
   refine (I.xw b o q).stay (λc v hc q'=>?_) (λc q'=>q') λc ys q'=>q';rcases hc with rfl | hc
   . exact U c v q' (ge c _ q)
   . exact U c v q' (ge c _ hc)
  exact I.call' rfl un xw I.bare λb hb=>by
   obtain ⟨f0,f1,f2,f3,f4,f5⟩:=r b hb;exact ⟨f3,f1,f4,f5⟩
 self:=λ_ _ _ _ _ st h=>wpAny_pyIter_zip st.1 h
def iZt(K:av)(ta:TA):TI:=λσ H R=>ta σ H λvs H1=>∃a b xs ys,vs=[.ref a,.ref b]/\SqT K H1 a xs/\SqL K H1 b ys/\R (Xn K a b) H1
theorem aeu{x1}{L:TA}(hg:Gl X "zip")(hm:X.mg "zip"= none)(ha:PA X [a,b] L)(hs:dc [a,b] X.env=[(false,eval a X.env),(false,eval b X.env)]:=by rfl)(Z:dc [b] X.env=[(false,eval b X.env)]:=by rfl) :
 PI X (.Tuple elts x1 tpos) (.Call (.Name "zip" pos') [a,b] [] pos) (iZt X.K L):=by
 intro l s σ H R I h;refine Call_ (m7 I hg hm (show eh "zip"= some (.type "zip") by decide +kernel) (gc (thn (ha pos l s σ H _ I h) λus Y j=>?_) (by rw[hs,Z]) (by rw[Z];rfl)));obtain ⟨vs,H1,p,r1,q1⟩:=j;obtain ⟨U,O,xs,ys,e,z,E,q⟩:=q1;subst e
 cases r1 with
 | cons r B=>
  cases B with
  | cons r' B=>
   cases B;cases r;cases r';obtain ⟨P,rv1,S,_⟩:=p.tuple z;obtain ⟨Q,rv2,p2,_⟩:=p.list E;have a1:U<Y.heap.objs.size:=by obtain ⟨o,e,_⟩:=S;exact cm e
   have a2:O<Y.heap.objs.size:=by obtain ⟨o,n,e,_⟩:=p2;exact cm e
   refine ZS (S) p2.isList λh' N eN M D C J v k=>?_;subst eN;refine wpAny_pyIter_zip M ?_;have i:∀b,b∈[Y.heap.objs.size+4,Y.heap.objs.size+2,Y.heap.objs.size+3,Y.heap.objs.size,Y.heap.objs.size+1]->Y.heap.objs.size<=b:=λb u=>by
    simp only[bE,l5,or_false] at u;lia
   exact ⟨Y.heap.objs.size+4,[Y.heap.objs.size+4,Y.heap.objs.size+2,Y.heap.objs.size+3,Y.heap.objs.size,Y.heap.objs.size+1],_,_,H1,rfl,p.kept k,aaY U O _ _ _ _ _ (zipApart_new a1 a2),⟨M,D,⟨_,_,C⟩,J,v⟩,λb u=>p.rG (i b u) (p.xw.fresh (i b u)),q⟩
end
noncomputable def U4(m m':ME):MI:=λΓ=>(m Γ).bind λd=>(m' Γ).bind λe=>match d,e with
 | .tuple ds,.list es=>.ok (Jb ds es)
 | _,_=>.bad
section
variable     {p:Pos}   {es:B4}{ws:C0}{q q':Addr}
theorem adW(I:az K A ds vs)(e:az K A es ws)(u:∀H,aF A H->SqT K H q vs)(Z:∀H,aF A H->SqL K H q' ws):rA K A B (Xn K q q') (Jb ds es):=by
 have L:=I.length;have D:=e.length;have R:(Jb ds es).length=min vs.length ws.length:=by rw[Jb,af,List.length_zip,L,D]
 refine ⟨λi H Y E M=>?_,λH Y E=>⟨vs,ws,u H Y,Z H Y,by lia⟩,λi Q H x P j Y E M y=>?_⟩
 . exact ⟨vs,ws,vs[i]'(by lia),ws[i]'(by lia),u H Y,Z H Y,ai _,ai _⟩
 . obtain ⟨p,v,w,l,rfl,rfl,y,O⟩:=y;obtain ⟨d,J,rd⟩:=I.get (y vs (u H (j.trans Y)));obtain ⟨C,s,r⟩:=e.get (O ws (Z H (j.trans Y)));have g:=aW.new (o:=.tup [v,w]) Y l;refine ⟨_,.tuple [d,C],?_,g,Rp.tuple.mpr ⟨p,_,rfl,SqT.of aX,az.cons.mpr ⟨_,_,rfl,Rp.mono (j.trans g.aa) d rd,az.one (Rp.mono (j.trans g.aa) C r)⟩⟩⟩;rw[Jb,a8,List.getElem?_zip_eq_some (z:=(d,C)).mpr ⟨J,s⟩];rfl
theorem Zi{x1}(Q:Gl X "zip")(E:X.mg "zip"= none)(P:QE X a (tE X.K O m))(U:QE X b (tE X.K O m'))(hs:dc [a,b] X.env=[(false,eval a X.env),(false,eval b X.env)]:=by rfl)(Y:dc [b] X.env=[(false,eval b X.env)]:=by rfl):QI X (.Tuple elts x1 tpos) (.Call (.Name "zip" p) [a,b] [] pos) (tI X.K O (U4 m m')):=
 QI.imp (aeu Q E (bV P.h (bV U.h eG Y) (by rw[hs,Y])) hs Y) λσ H R Z=>by
  obtain ⟨A,B,u,xs,r,em,k⟩:=Z;obtain ⟨d,z,em⟩:=x8.au em;obtain ⟨d',L,em⟩:=x8.au em
  cases d with
  | tuple ds=>
   cases d' with
   | list es=>
    cases em;refine ⟨A,B,u,_,r,z,λv A1 H1 l S=>⟨A1,B,u,_,r.grow l,L,λv' M C i p2=>?_⟩⟩;obtain ⟨q,J,rfl,o,I⟩:=Rp.tuple.mp (Rp.mono i.aa _ S);obtain ⟨D,ws,rfl,e,j⟩:=Rp.list.mp p2;exact ⟨q,D,J,ws,rfl,i.ah.fP o,i.ah.seq e,k _ M C (l.trans i) (adW I j (λH s=>s.fP o) λH s=>s.seq e)⟩
   | _=>cases em
  | _=>cases em
end
section
variable     {p p2 pos2:Pos}
noncomputable def uE:B4->x8 ab
 | [.dict x3]=>.ok (.int x3.length)
 | _=>.bad
theorem bj.len:∀{x3:B0}{u:A8},bj K A x3 u->x3.length=u.length
 | [],u,h=>by rw[bj.nil.mp h];rfl
 | (k,d)::r,u,h=>by
  obtain ⟨key,v,Y,rfl,_,_,h⟩:=bj.cons.mp h;rw[a6,a6,bj.len h]
theorem DK:fJ X (.builtin "len") (rC X.K uE):=by
 rintro Y s M H E J Q I r ⟨A,B,d,e,Z,p,k⟩
 match B,e with
 | [.dict x3],e=>
  cases e;obtain ⟨v,D,rfl,o,p2⟩:=p.cons;obtain rfl:=p2.nil;obtain ⟨l,u,rfl,q,C⟩:=o.dict Z;obtain ⟨z,rfl,i⟩:=vals1 r;cases i;exact aeB I q λt L j=>⟨.int x3.length,H,j,⟨t,by rw[C.len]⟩,k _ A H (aW.refl Z) (Rp.int.mpr rfl)⟩
end
theorem len0{α:Type}{P:List α->Prop}(h:P [])(us:List α)(e:us.length=0):P us:=by
 rw[kb.mp e];exact h
theorem ac3{α:Type}{P:List α->Prop}(h:∀Y,P [Y])(us:List α)(e:us.length=1):P us:=by
 cases us with
 | nil=>cases e
 | cons a r=>exact len0 (P:=λr=>P (a::r)) (h a) r (Nat.succ.inj e)
theorem acn{α:Type}{P:List α->Prop}(h:∀Z Y,P [Z,Y])(us:List α)(e:us.length=2):P us:=by
 cases us with
 | nil=>cases e
 | cons a r=>exact ac3 (P:=λr=>P (a::r)) (λb0=>h a b0) r (Nat.succ.inj e)
theorem abG{α:Type}{P:List α->Prop}(h:∀Z Y i,P [Z,Y,i])(us:List α)(e:us.length=3):P us:=by
 cases us with
 | nil=>cases e
 | cons a r=>exact acn (P:=λr=>P (a::r)) (λb0 b1=>h a b0 b1) r (Nat.succ.inj e)
theorem afR{α:Type}{P:List α->Prop}(h:∀Z Y l j,P [Z,Y,l,j])(us:List α)(e:us.length=4):P us:=by
 cases us with
 | nil=>cases e
 | cons a r=>exact abG (P:=λr=>P (a::r)) (λb0 b1 i=>h a b0 b1 i) r (Nat.succ.inj e)
theorem acC{st:Stmt}(h:∀(kV Z pm:a0) (e:C4) (Y ct:a0) (i:a0),iA (d4 x x (cD st) (bU st) (aM st) .none kV Z pm e Y ct) ⟨[i],[]⟩=pure (ps.zip [i]))(l:ps.length=1) :
 ∀(kV Z pm:a0) (e:C4) (Y ct:a0) (us:B8),us.length=ps.length->iA (d4 x x (cD st) (bU st) (aM st) .none kV Z pm e Y ct) ⟨us,[]⟩=pure (ps.zip us):=λkV Z pm e Y ct us j=>
 ac3 (P:=λus=>iA (d4 x x (cD st) (bU st) (aM st) .none kV Z pm e Y ct) ⟨us,[]⟩=pure (ps.zip us)) (h kV Z pm e Y ct) us (j.trans l)
theorem Vg{st:Stmt}(h:∀(kV Z pm:a0) (e:C4) (Y ct:a0) (i j:a0),iA (d4 x x (cD st) (bU st) (aM st) .none kV Z pm e Y ct) ⟨[i,j],[]⟩=pure (ps.zip [i,j]))(o:ps.length=2) :
 ∀(kV Z pm:a0) (e:C4) (Y ct:a0) (us:B8),us.length=ps.length->iA (d4 x x (cD st) (bU st) (aM st) .none kV Z pm e Y ct) ⟨us,[]⟩=pure (ps.zip us):=λkV Z pm e Y ct us l=>
 acn (P:=λus=>iA (d4 x x (cD st) (bU st) (aM st) .none kV Z pm e Y ct) ⟨us,[]⟩=pure (ps.zip us)) (h kV Z pm e Y ct) us (l.trans o)
theorem abp{st:Stmt}(h:∀(kV Z pm:a0) (e:C4) (Y ct:a0) (i l j:a0),iA (d4 x x (cD st) (bU st) (aM st) .none kV Z pm e Y ct) ⟨[i,l,j],[]⟩=pure (ps.zip [i,l,j]))(p:ps.length=3) :
 ∀(kV Z pm:a0) (e:C4) (Y ct:a0) (us:B8),us.length=ps.length->iA (d4 x x (cD st) (bU st) (aM st) .none kV Z pm e Y ct) ⟨us,[]⟩=pure (ps.zip us):=λkV Z pm e Y ct us o=>
 abG (P:=λus=>iA (d4 x x (cD st) (bU st) (aM st) .none kV Z pm e Y ct) ⟨us,[]⟩=pure (ps.zip us)) (h kV Z pm e Y ct) us (o.trans p)
theorem acI{st:Stmt}(h:∀(kV Z pm:a0) (e:C4) (Y ct:a0) (i l j o:a0),iA (d4 x x (cD st) (bU st) (aM st) .none kV Z pm e Y ct) ⟨[i,l,j,o],[]⟩=pure (ps.zip [i,l,j,o]))(q:ps.length=4) :
 ∀(kV Z pm:a0) (e:C4) (Y ct:a0) (us:B8),us.length=ps.length->iA (d4 x x (cD st) (bU st) (aM st) .none kV Z pm e Y ct) ⟨us,[]⟩=pure (ps.zip us):=λkV Z pm e Y ct us p=>
 afR (P:=λus=>iA (d4 x x (cD st) (bU st) (aM st) .none kV Z pm e Y ct) ⟨us,[]⟩=pure (ps.zip us)) (h kV Z pm e Y ct) us (p.trans q)
def Fnd(K:av)(x:Str)(st:Stmt):Prop:=∃(f:Addr) (oc:a0) (od an:C4) (sl:Array B7) (kV doc pm x6 ct:a0),gp K d5 x=some (some (.ref f)) /\
 K.lookup f=some ⟨oc,od,.func (d4 x x (cD st) (bU st) (aM st) .none kV doc pm an x6 ct),sl⟩/\kK K x6 x=true/\jS K (.ref f)=true
theorem Fnd.mk{st:Stmt}{e:a0}{j o:C4}{i:Array B7}{kV Z pm Y ct:a0}(a:gp K d5 x=some (some (.ref p)))
 (l:K.lookup p=some ⟨e,j,.func (d4 x x (cD st) (bU st) (aM st) .none kV Z pm o Y ct),i⟩) (c:kK K Y x=true) (k:jS K (.ref p)=true):Fnd K x st:=⟨_,_,_,_,_,_,_,_,_,_,a,l,c,k⟩
theorem Fnd.at{st:Stmt}(F:Fnd K x st)(X:K.In h)(G:h.Ns d5 mg)
 (b:∀(kV Z pm:a0) (e:C4) (Y ct:a0) (us:B8),us.length=ps.length->iA (d4 x x (cD st) (bU st) (aM st) .none kV Z pm e Y ct) ⟨us,[]⟩=pure (ps.zip us):=by first | exact acC (by intros;rfl) rfl | exact Vg (by intros;rfl) rfl | exact abp (by intros;rfl) rfl | exact acI (by intros;rfl) rfl):At K mg x st ps:=by
 obtain ⟨f,i,o,e,j,kV,Z,pm,Y,ct,a,l,c,k⟩:=F;exact At.mk' (fT X G a) l c k b
theorem sck{P:B6}{sc:rX}(a:sc.kind= .function:=by rfl)(b:sc.isCoroutine=false:=by rfl)(c:sc.isGenerator=false:=by rfl)(d:N.Nodup:=by decide +kernel)(e:N.take P.length=P:=by rfl)
 (f:∀x∈P,sc.names.lookup x=some .local\/sc.names.lookup x=some .cell:=by decide +kernel) (g:∀y∈sc.names,y.2 ≠ .free:=by decide +kernel):cM N P sc:=⟨a,b,c,d,e,f,g⟩
section
variable      {s1 s2 mb:MS}{iter:Expr}  {st:Stmt}{rest body:C5}{p:Pos}{it:MI}{g:MG}{gs:List MG}{mc:ME}{is js:B5}{k n:Nat}   {fs:B9}{f:B4->x8 ab}
theorem aV(Z:QS X st (tS K rm Ol O O s1))(Y:QSs X rest (tS K rm Ol O O2 s2)):QSs X (st::rest) (tS K rm Ol O O2 (aJ s1 s2)):=bL Z Y
theorem oM(Z:QG X e (tG X.K O O is g))(Y:QGs X es (tGs X.K O O2 js gs))(hs:(lh (e::es) X.env).map (·.2)=assign e X.env::(lh es X.env).map (·.2):=by rfl):QGs X (e::es) (tGs X.K O O2 (is++js) (g::gs)):=mj Z Y hs
theorem d8(cl:B5)(Z:QI X tg iter (tI X.K O it))(Y:QG X tg (tG X.K O O is g))(e:QSs X body (tS X.K rm O O O mb))(i:rV (dt X.prog X.w) X.A X.env X.xe:=by exact fg)(l:X.calm=true:=by rfl)(j:oV O O cl=true:=by decide)
 (hs:∀x,hV iter X.env x=pure x:=by intro _;rfl):QS X (.For tg iter body [] pos) (tS X.K rm Ol O O (cI it g cl mb)):=km i l cl Z Y e j hs
theorem aem(Y:Nat)(cl:B5)(j:QT X c (tT X.K O mc))(Z:QSs X body (tS X.K rm O O O mb))(e:rV (dt X.prog X.w) X.A X.env X.xe:=by exact fg)(i:oV O O cl=true:=by decide):QS X (.While c body [] pos) (tS X.K rm Ol O O (rz Y mc cl mb)):=Wf e Y cl j Z i
theorem bD(i:Nat)(j:X.N.Nodup)(q:QE X e (tE K O m))(p:X.N[i]?=some x:=by rfl)(Y:Loc X.env.scope x:=by first | exact .inl rfl | exact .inr rfl)(Z:i<O.length:=by exact of_decide_eq_true rfl)(hs:fR e (some (.Name x pos')) pos.line X.env=pure false:=by rfl)
 (l:X.fn x=true\/X.env.scope.names.lookup x=some .local:=by walk_at "hf") (o:O.set i .xo=O2:=by rfl):QS X (.Assign [.Name x pos'] e pos) (tS K rm Ol O O2 (aZ i m)):=adI i j p Y q Z hs l o
theorem eO(i:Nat)(j:X.N.Nodup)(q:QE X e (tF K O m))(p:X.N[i]?=some x:=by rfl)(Y:Loc X.env.scope x:=by first | exact .inl rfl | exact .inr rfl)(Z:i<O.length:=by exact of_decide_eq_true rfl)(hs:fR e (some (.Name x pos')) pos.line X.env=pure false:=by rfl)
 (l:X.fn x=true\/X.env.scope.names.lookup x=some .local:=by walk_at "hf") (o:O.set i .own=O2:=by rfl):QS X (.Assign [.Name x pos'] e pos) (tS K rm Ol O O2 (aZ i m)):=Zf i j p Y q Z hs l o
theorem dF(Z:QE X a (tP X.K O m1))(Y:QE X b (tP X.K O m2))(hs:lA b:=by exact λ_ _=>rfl):QE X (.Subscript a b pos) (tE X.K O (ao xt m1 m2)):=Yg Z Y hs
theorem sI{i:Int}:QE X (.Constant (.int i) j pos) (tP K O (eC (.int i))):=sp fY
theorem bu{i:Int}(Y:QA X es (tAi K O ms)):QA X (.Constant (.int i) j pos::es) (tAi K O (eC (.int i)::ms)):=aC fY Y
theorem aN(i:Nat)(e:QA X es (tAr X.K O fs ms))(Y:Nm X i x:=by walk_at "nm")(Z:isX (fl O i)=false:=by rfl):QA X (.Name x p::es) (tAr X.K O (.xl::fs) (aj i::ms)):=bw (aq i Y Z) e
theorem sx(i:Nat){k:Int}(Z:Nm X i x:=by walk_at "nm")(Y:isX (fl O i)=false:=by rfl)(hs:lA (.Constant (.int k) j pos'):=by exact λ_ _=>rfl) :
 QE X (.Subscript (.Name x p) (.Constant (.int k) j pos') pos) (tE X.K O (ao xt (aj i) (eC (.int k)))):=Yg (aq i Z Y) (sp fY) hs
theorem cJ(i:Nat)(e:X.N.Nodup)(o:X.N[i]?=some x:=by rfl)(Y:Loc X.env.scope x:=by first | exact .inl rfl | exact .inr rfl)(Z:i<O.length:=by exact of_decide_eq_true rfl)(j:X.fn x=true\/X.env.scope.names.lookup x=some .local:=by walk_at "hf")(l:O.set i .xo=O2:=by rfl) :
 QG X (.Name x p) (tG X.K O O2 [i] (gN i)):=c7 i e o Y Z j l
theorem cL{f:C8}(Y:OpR X (eD op) (rD K f))(Z:QE X a (tP K O m1))(e:QE X b (tP K O m2))(i:mm op b=false:=by exact xu _):QT X (.Compare a [op] [b] pos) (tT K O (ao f m1 m2)):=q8 Y Z e i
theorem bH(F:Def X.prog X.w X.K X.mg X.base k x ps (spF X.K fs .f f))(j:dB n X.A)(l:QA X (e::es) (tAr X.K O fs ms))(i:k<=n:=by decide)(o:Gl X x:=by rfl)(Y:nD x:=by decide)
 (q:xB e=true:=by rfl) (Z:jd es=true:=by rfl):QE X (.Call (.Name x p) (e::es) [] pos) (tE X.K O (aL f ms)):=jL F (j.mono i) o l Y q Z
theorem rW(F:Def X.prog X.w X.K X.mg X.base k x ps (spF X.K fs .t f))(j:dB n X.A)(l:QA X (e::es) (tAr X.K O fs ms))(i:k<=n:=by decide)(o:Gl X x:=by rfl)(Y:nD x:=by decide)
 (q:xB e=true:=by rfl) (Z:jd es=true:=by rfl):QE X (.Call (.Name x p) (e::es) [] pos) (tF X.K O (aL f ms)):=Er F (j.mono i) o l Y q Z
end
section
variable     {base:Heap}
theorem bN{k:Nat}{m:MS}(st:Stmt)(N:B6)(O:B9)(F:At K mg x st ps)
 (hbody:∀{f:Addr}{Y:a0}{A:g9}{xD:C6}{s:cq}{H:Hp}{E:XK},N.Nodup->dB k (A.deeper (mB x (aM st) s.heap.objs.size f Y)) ->
  QSs (mq CX0 P w K mg base N x (aM st) f Y A xD s H E).nox (bU st) (tS K rm [] O [] m)) (S:cM N ps (aM st):=by exact sck) (Z:Ol.length=ps.length:=by rfl) (j:ps.length<=N.length:=by decide)
 (e:∀i,i<Ol.length->(fl O i= .xo/\fl Ol i= .xo)\/fl O i= .xl:=by decide):Def P w K mg base (k+1) x ps (spF K Ol rm (fnR N.length m)):=abt F S Z j e λ_ _ _ _ _ _ _ l=>hbody S.nd l
end
end Zq
namespace PySem
open Sem (wp)
end PySem
namespace Zq
open PySem PySem.Spec PyProof.Rows
structure NZ (P:fq) (w:i8) (h:Heap) (es:Array (Int×a0)) (t:oS) (ks:List dh):Prop where
 el:∀e∈es.toList,∃b k,e.2=fN b/\du (mT P w) h k b/\k∈ks
 len:es.size=ks.length
 tb:afD t
 sz:t.place.size=es.size
 lim:5*es.size<3*t.mask
variable {P:fq}{w:i8}{h:Heap}
theorem NZ.fit{es:Array (Int×a0)}{t:oS}{ks:List dh}(r:NZ P w h es t ks):t.fits es.size=true:=by
 have:=r.tb.room;simp only[SetTable.fits,SetTable.fill,r.tb.nd,c9,beq_iff_eq,decide_eq_true_eq];exact ⟨r.sz,by simpa using this⟩
noncomputable def uq(c:ME)(cl:B5)(b:MS)(zb:MZ):Nat->MZ
 | 0,_=>.bad
 | n+1,Γ=>(c Γ).bind λx=>match x with
  | .bool true=>(match b Γ with
   | .ok (.nx Γ2)=>uq c cl b zb n (clr cl Γ2)
   | _=>zb Γ)
  | _=>.bad
noncomputable def adD(fuel:Nat)(c:ME)(cl:B5)(b:MS)(zb:MZ):MZ:=λΓ=>uq c cl b zb fuel Γ
variable {K:av}{mg:Str->B7}{a:Addr}
theorem Rq{mb:Str->B7}{CX:CXT}{k:Nat}{fa:Addr}{fd:lP}{x:Str}{sp:Sp}{s₁:cq}{J:B8}{ns:B3}
 (KX:K.In s₁.heap) (S:s₁.heap.Ns d5 mg) (Z:s₁.heap.Ns n3 mb) (hbb:∀x:Str,x ≠ "__name__" -> mb x=eh x) (L:s₁.heap.NoLimit) (hg:s₁.gens=#[]) (hbm:∃C B,mg "__builtins__"= some (.ref C)/\C≠n3/\s₁.heap.get? C=some B/\B.cls= .type "module" /\ B.dict=some n3/\B.data= .plain)
 (hT:∀T,TabAt K mg T->s₁.heap.get? T=some { cls:=.none,data:=.fields #[] }/\K.lookup T=none)
 (I:s₁.heap.get? a=some { cls:=.type "list",data:=.seq J.toArray }) (hi:IntsAre J ns) (hl:ns.length<=ba) (hr:dB k wd)
 (F:∀base:Heap,K.In base->base.Ns d5 mg->rJ P w K mg base CX k fa fd [x] sp) (E:∀(s:cq) (u:a0),BindsTo s fd ⟨[u],[]⟩ [(x,u)])
 (hsp:∀H:Hp,SqL K H a (ns.map V.int)->sp [.ref a] H (λv _=>v= .bl true) λ_ _ _=>False)
 (hCX:∀H e s',CX [] H s₁ (λ_ _ _=>False) e s'->False) :
 uu (dt P w) wd (.call (.ref fa) ⟨[.ref a],[]⟩) (λr s'=>r= .ok (.ret (.bool true))/\OldK s₁.heap s'.heap/\s'.os=s₁.os/\sh s'.gens) s₁:=by
 have rv:=FQ hi;have U:=hi.length;have aT:∀T,TabAt K mg T->T≠a:=λT h z=>by
  have:=(hT T h).1;rw[z,I] at this;cases this
 have p:∀H:Hp,(∀b,H b=none\/(∃o xs,H b=some (.frz o (.lst xs)))\/(H b=some (.tbl jc)/\TabAt K mg b))->(∀T,TabAt K mg T->H T=some (.tbl jc))->SqL K H a (ns.map V.int)->HOk P w H s₁.heap->(∀b,H b≠none->b=a\/TabAt K mg b)->(H a≠none->K.lookup a=none) ->
  uu (dt P w) wd (.call (.ref fa) ⟨[.ref a],[]⟩) (λr s'=>r= .ok (.ret (.bool true))/\OldK s₁.heap s'.heap/\s'.os=s₁.os/\sh s'.gens) s₁:=by
  intro H hO hTT hS xw hA hK;have Y:∀{b:Addr}{o:Obj},s₁.heap.get? b=some o->H b=none->(ye s₁.heap H).get? b=some o:=λe n=>Vr e n;have noA:∀{b:Addr}{o:Obj}{es:Array oq}{ep:Nat},s₁.heap.get? b=some o->o.data= .dict es ep->H b=none:=λ{b o es ep} e d=>by
   cases q:H b with
   | none=>rfl
   | some u=>
    rcases hA b (by rw[q];simp) with e' | e'
    . subst e';rw[I] at e;cases e;have d':=d;cases d'
    . rw[(hT b e').1] at e;cases e;have d':=d;cases d'
  have j:∀{b:Addr}{m:Str->B7},s₁.heap.Ns b m->(ye s₁.heap H).Ns b m:=λ{b m} ⟨o,es,ep,e,d,r⟩=>⟨o,es,ep,Y e (noA e d),d,r⟩;have M:=λb o e=>Y (KX b o e) (by
   cases q:H b with
   | none=>rfl
   | some u=>
    rcases hA b (by rw[q];simp) with e' | e'
    . subst e';rw[hK (by rw[q];simp)] at e;cases e
    . rw[(hT b e').2] at e;cases e)
  have hM:Mod K mg (ye s₁.heap H):=⟨M,j S,⟨mb,j Z,hbb⟩,let ⟨mc,h1,h2⟩:=L;⟨mc,j h1,h2⟩,by
   obtain ⟨C,B,b1,b2,Q,O,b5⟩:=hbm;refine ⟨C,B,b1,b2,Y Q ?_,O,b5⟩
   cases q:H C with
   | none=>rfl
   | some u=>
    rcases hA C (by rw[q];simp) with e' | e'
    . rw[e',I] at Q;cases Q;have O:=O;injection O with z;exact absurd z (by decide)
    . rw[(hT C e').1] at Q;cases Q;cases O⟩
  have e0:Qu P w K mg (ye s₁.heap H) wd [] s₁ H:=⟨rfl,hM,λb o e=>ZX e,Nat.le_of_eq (Ui _ _),trivial,λb Z=>absurd (show b∈([]:C2) from Z) (by simp),xw,.of_eq hg,hTT⟩;refine codeAny_mono ((F _ M (j S)).run wd [] s₁ H ⟨[.ref a],[]⟩ [.ref a] [.ref a] _ _ hr e0 (E s₁ (.ref a)) (.cons rfl .nil) (hsp H hS)) λr s' h=>?_
  cases r with
  | error e=>exact (hCX H e s' h).elim
  | ok fl=>
   cases fl with
   | next=>exact ki h
   | brk=>exact ki h
   | cont=>exact ki h
   | ret u=>
    obtain ⟨v,H',os,bare,un,D,r',q⟩:=h;have q':=q;subst q';obtain rfl:u=a0.bool true:=r';have tabs:∀b,H b=some (.tbl jc)->∃R,s'.heap.get? b=some { cls:=.none,data:=.fields R }:=λb z=>by
     obtain ⟨R,e,_⟩:=D b _ (un.kE b _ z);exact ⟨R,e⟩
    refine ⟨rfl,⟨λb o e=>?_,λb o e=>un.there b o e (by simp)⟩,os,bare⟩
    cases q:H b with
    | none=>exact .inl (un.keep b o e q (by intro z;exact absurd (show b∈([]:C2) from z) (by simp)) (by simp))
    | some u=>
     rcases hO b with z | ⟨B,xs,z⟩ | ⟨z,zt⟩
     . rw[q] at z;cases z
     . have z2:=un.mz b B _ z;obtain ⟨e1,_⟩:=xw b _ z;obtain ⟨e2,_⟩:=D b _ z2;rw[e] at e1;cases e1;exact .inl e2
     . obtain ⟨R,e2⟩:=tabs b z;have e3:=(hT b zt).1;rw[e] at e3;cases e3;obtain ⟨f,o,fd',c,t1,t2,t3,t4,t5⟩:=zt;obtain ⟨oc,vc,_,_,_,_,_,_,_,c1,c2,c3,c4,_⟩:=PySem.W.codeHd_of_K KX t5;exact .inr (.inl ⟨⟨c,oc,vc,c1,c2,c3,c4⟩,rfl,#[],R,rfl,by rw[Array.empty_append];exact e2⟩)
 have l:∀T,TabAt K mg T->∀H:Hp,fV P w H s₁.heap T (.tbl jc):=λT h H=>⟨#[],(hT T h).1,trivial,λpos cv z=>nomatch z⟩;have dec:∀T,Decidable (TabAt K mg T):=λT=>Classical.propDecidable _
 cases hk:K.lookup a with
 | some o=>
  have e:=KX a o hk;rw[I] at e;cases e;refine p (λb=>if TabAt K mg b then some (.tbl jc) else none) (λb=>?_) (λT h=>if_pos h) (.inr ⟨_,J.toArray,_,hk,rfl,rfl,rfl,by rw[c8,U];exact hl,by simpa using rv⟩) (λb u z=>?_) (λb z=>?_) λz=>?_
  . by_cases h:TabAt K mg b
    . exact .inr (.inr ⟨if_pos h,h⟩)
    . exact .inl (if_neg h)
  . by_cases h:TabAt K mg b
    . have i:=(if_pos h).symm.trans z;cases i;exact l b h _
    . have i:=(if_neg h).symm.trans z;cases i
  . by_cases h:TabAt K mg b
    . exact .inr h
    . exact absurd (if_neg h) z
  . exact absurd (if_neg λh=>aT a h rfl) z
 | none=>
  refine p (λb=>if b=a then some (.frz { cls:=.type "list",data:=.seq J.toArray } (.lst (ns.map V.int))) else if TabAt K mg b then some (.tbl jc) else none) (λb=>?_) (λT h=>(if_neg (aT T h)).trans (if_pos h)) (.inl (.inr ⟨{ cls:=.type "list",data:=.seq J.toArray },if_pos rfl⟩)) (λb u z=>?_) (λb z=>?_) λ_=>hk
  . by_cases Z:b=a
    . exact .inr (.inl ⟨_,_,if_pos Z⟩)
    . by_cases h:TabAt K mg b
      . exact .inr (.inr ⟨(if_neg Z).trans (if_pos h),h⟩)
      . exact .inl ((if_neg Z).trans (if_neg h))
  . by_cases Z:b=a
    . have i:=(if_pos Z).symm.trans z;cases i;subst Z;exact ⟨I,by rw[af];exact hl,J,_,rv,I⟩
    . by_cases h:TabAt K mg b
      . have i:=((if_neg Z).trans (if_pos h)).symm.trans z;cases i;exact l b h _
      . have i:=((if_neg Z).trans (if_neg h)).symm.trans z;cases i
  . by_cases Z:b=a
    . exact .inl Z
    . by_cases h:TabAt K mg b
      . exact .inr h
      . exact absurd ((if_neg Z).trans (if_neg h)) z
variable {c:Addr}
theorem Qe{P Q:Addr}(h:gL K c P=true)(g:gL K c Q=true):P=Q:=by
 unfold gL at h g;split at h
 . rename_i l _ i;rw[i] at g;simp only[c9] at h g;have Y:=h.1.1.1.1.1;have Z:=g.1.1.1.1.1;split at Y
   . rename_i j e;rw[e] at Z;exact (beq_iff_eq.mp Y).symm.trans (beq_iff_eq.mp Z)
   . cases Y
 . cases h
noncomputable def pO(K:av)(f P:Addr):Bool:=(match K.lookup f with
 | some ⟨_,_,.func fd,_⟩=>(match fd.code with
  | .ref c=>gL K c P
  | _=>false)
 | _=>false)&&(K.lookup P).isNone
theorem ZF{P:Addr}(p:mg "ways"= some (.ref a))(h:pO K a P=true):∀T,TabAt K mg T->T=P/\K.lookup T=none:=by
 rintro T ⟨u,o,fd,c,i,r,Z,l,j⟩;rw[p] at i;cases i;unfold pO at h;rw[c9] at h;obtain ⟨Y,q⟩:=h;rw[r] at Y;obtain ⟨s,B,v,z⟩:=o;have Z:=Z;subst Z;have Y:(match fd.code with
  | .ref c=>gL K c P
  | _=>false)=true:=Y
 rw[l] at Y;have e:=Qe j Y;subst e;exact ⟨rfl,by simpa using q⟩
variable {T:Addr}{x:Str}
theorem Vi{l:ua}{n k:Nat}{q:fq}{i:B6}{O:(Str->B7)->Heap->Prop}{d:DefRec}{K:Params->av}{as:C2}{e:∀P,as=(K P).map (·.1)}{CX:i8->CXT}{sp:i8->Sp}
 (Q:l.most=some n) (B:n<=ba) (D:d.params.defaults=[]) (S:dB k wd)
 (F:∀(w:i8) (mg:Str->B7) (z:Addr) (h:Heap),(K w.params).In h->h.Ns d5 mg->mg d.name=some (.ref z) ->
  ∃fd:lP,(∀(s:cq) (u:a0),BindsTo s fd ⟨[u],[]⟩ [(x,u)])/\(∃f,mg "ways"= some (.ref f)/\pO (K w.params) f T=true) /\
   ∀base:Heap,(K w.params).In base->base.Ns d5 mg->rJ l.prog w (K w.params) mg base (CX w) k z fd [x] (sp w))
 (C:∀(w:i8) (H:Hp) (a:Addr) (ns:B3),ns.length<=n->SqL (K w.params) H a (ns.map V.int)->sp w [.ref a] H (λv _=>v= .bl true) λ_ _ _=>False)
 (I:∀(w:i8) (H:Hp) (s:cq) (e:a0) (s':cq),CX w [] H s (λ_ _ _=>False) e s'->False) :
 PySem.W.WalkO q i O (PySem.W.kmHook K as e [T]).says l.row.toRowW d [] (λf vs=>PySem.call f vs):=by
 refine Att.Mu Q D λw s₀ p mg mb z o pm cd U a vs ns G Y ho hd hcd E r j Z hg=>?_;have J:=PySem.W.km_in_of Y;obtain ⟨fd,hb,⟨f,M,ht⟩,hF⟩:=F w mg z _ J G.T.g E;refine Rq J G.T.g G.T.b G.T.builtins G.T.nolimit hg G.T.bmain (λP h=>?_) r j (cS Z B) S hF hb (λH hS=>C w H a ns Z hS) λH e s'=>I w H p e s';obtain ⟨L,R⟩:=ZF M ht P h;subst L;exact ⟨PySem.W.km_tabs_of Y P (by simp),R⟩
def Kept(h h':Heap):Prop:=∀b o,h.get? b=some o->h'.get? b=some o
theorem Kept.trans{b c:Heap}(x:Kept h b)(y:Kept b c):Kept h c:=λp o e=>y p o (x p o e)
theorem Kept.push(o:Obj):Kept h (h.push o):=λ_ _ e=>aE _ e
def Tells(s:cq)(h:Heap)(n:Int)(x:a0)(s':cq):Prop:=∃h2 tk2 t,x= .int n t/\s'={ s with heap:=h2,toks:=tk2 }/\Kept h h2
variable {E Q:B2}{s:cq}{ep:Nat}
section
variable {prog:fq}  {A:g9}   {hA:Heap}{K:Type} [DecidableEq K] {knd:KeyKind prog w K}{x3:List (K×a0)}  {d q I S:Addr}{R:Result->cq->Prop}
def CW(knd:KeyKind prog w K)(x3:List (K×a0))(i:Nat)(v:a0):Prop:=∃k x,x3[i]?=some (k,x)/\knd.is k v=true
def QM(kf:Nat->Int)(i j:Nat):Prop:=∀l,l<j->kf i<=kf l/\(l<i->kf i<kf l)
theorem VG(Y:Nat->Int)(hh:A.handled=none)(hm:hA.DictAt knd d x3 ep)(hI:hA.get? I=none)(hS:hA.get? S=none)(C:S≠I)
 (turn:∀i key,CW knd x3 i key->∀h tk,Kept hA h->de (dt prog w) A.in1 (call (.ref q) [key]) (Tells s h (Y i)) (λ_ _=>False) { s with heap:=h,toks:=tk })
 (hR:∀i v h' p,i<x3.length->CW knd x3 i v->QM Y i x3.length->Kept hA h'->R (.ok (.ret v)) { s with heap:=h',toks:=p }) :
 ∀(r j i:Nat) (h:Heap) (tk:Nat) (D:a0) (tb:Tok) (c:Nat),x3.length - j=r->j<=x3.length->Kept hA h->h.get? S=some (seqObj "list" #[D,.int (Y i) tb] c)->h.IsKeyIter I d j x3.length ep ->
  CW knd x3 i D->i<j->QM Y i j->uu (dt prog w) A (.builtin "min.loop" ⟨[.ref I,.ref q,.ref S],[]⟩) R { s with heap:=h,toks:=tk }:=by
 have nm:(toString "min" ++ toString ".loop" : String) = "min.loop" := by decide
 have hd:hA.get? d≠none:=by
  obtain ⟨o,es,ho,_⟩:=hm;rw[ho];simp
 have dI:d≠I:=λz=>hd (z ▸ hI);have W:=Walks.dictKeys (knd:=knd) (A:=A.in1) hh I d dI x3 ep;have Z:∀{h h':Heap}{b:Addr},Kept hA h->hA.get? b=none->(∀a o,a≠b->h.get? a=some o->h'.get? a=some o)->Kept hA h':=λk n x a o e=>x a o (λz=>by rw[z,n] at e;cases e) (k a o e);have H:∀{h:Heap},Kept hA h->h.DictAt knd d x3 ep:=λk=>hm.at' λo e=>k d o e;have B:∀{h:Heap} (f:Array a0->Array a0) (a:Addr) (o:Obj),a≠S->h.get? a=some o->(h.update S (vb f)).get? a=some o:=λf a o ne e=>((nh ..).2 a ne).trans e;intro r
 induction r with
 | zero=>
  intro j i h tk D tb c hr hj kp U it hv L hb;have hjn:j=x3.length:=by lia
  subst hjn;refine vS pb ?_;rw[qk gS _];refine ag (eW U rfl ?_);refine ag (mP (W.done _ _ _ ⟨it,H kp⟩ λh' p k'=>?_));have J:∀a o,a≠I->h.get? a=some o->h'.get? a=some o:=λa o ne e=>k' a o (by simpa using ne) e;show de _ _ (updateSeq S (λ_=>#[]) >>= _) _ _ _;refine ag (rh (J S _ C U) rfl (ag (ot (a9 ?_))));exact hR i D _ _ L hv hb (Z (Z kp hI J) hS (B _))
 | succ r ih=>
  intro j i h tk D tb c hr hj kp U it hv L hb;refine vS pb ?_;rw[qk gS _];show de _ _ (seqItems? (.ref S) >>= _) _ _ _;refine ag (eW U rfl ?_);show de _ _ (tryCatch (pyNext (.ref I)) _ >>= _) _ _ _;refine ag (mP (W.item j _ _ _ (by lia) ⟨it,H kp⟩ λv h' p hP st k'=>?_));have J:∀a o,a≠I->h.get? a=some o->h'.get? a=some o:=λa o ne e=>k' a o (by simpa using ne) e;have E:=Z kp hI J;show de _ _ (tryCatch (holding [v] (call (.ref q) [v])) _ >>= _) _ _ _;refine ag (mP (kF (fy (turn j v hP h' p E) (λx s2 he=>?_) λ_ _ z=>z.elim)));obtain ⟨h2,tk2,O,rfl,rfl,k2⟩:=he;have Q:=E.trans k2;have u:=k2 S _ (J S _ C U);have M:h2.IsKeyIter I d (j+1) x3.length ep:=st.1.at λo e=>k2 _ _ e;show de _ _ (tryCatch (holding [v,.int (Y j) O] (richCompare .Lt (.int (Y j) O) (.int (Y i) tb) >>= _)) _ >>= _) _ _ _;refine ag (mP (kF (ag (CmpOf.ints_lt (prog:=prog) (w:=w) (A:=A.in1) (P:=λi v=>∃t,v= .int (Y i) t) Y (λ_ _ y=>y) j i _ _ _ _ _ ⟨O,rfl⟩ ⟨tb,rfl⟩ ?_))));refine ag (kF (hJ (ag (ot (a9 ?_)))))
  by_cases lt:Y j<Y i
  . simp only[lt,decide_true,if_true];refine ag (rh u rfl (ag (ot ?_)));rw[nm];refine a9 ⟨sR gS _,ih (j+1) j _ _ v O _ (by lia) (by lia) (Z Q hS (B _)) (get?_update_seq u λ_=>#[v,.int (Y j) O]) (M.at λo e=>B _ _ _ (lx C) e) hP (pV _) λl hl=>?_⟩
    by_cases e:l=j
    . subst e;exact ⟨la _,λz=>absurd z (ft _)⟩
    . have:=(hb l (by lia)).1;exact ⟨by lia,λ_=>by lia⟩
  . simp only[lt,decide_false,Bool.false_eq_true,if_false];refine ag (ot ?_);rw[nm];refine a9 ⟨sR gS _,ih (j+1) i _ _ D tb c (by lia) (by lia) Q u M hv (by lia) λl hl=>?_⟩
    by_cases e:l=j
    . subst e;exact ⟨by lia,λz=>by lia⟩
    . exact hb l (by lia)
theorem VF(a v:a0):argsOk "min" ⟨[a],[(Str.ofString "key",v)]⟩:=by kernel_rfl
theorem VN(D:Nat->Int)(hh:A.handled=none)(O:(d == fb)=false)(J:s.heap.DictAt knd d x3 ep)(R:0<x3.length)
 (turn:∀i key,CW knd x3 i key->∀h tk,Kept s.heap h->de (dt prog w) A.in1 (call (.ref q) [key]) (Tells s h (D i)) (λ_ _=>False) { s with heap:=h,toks:=tk })
 (hQ:∀i v h' j,i<x3.length->CW knd x3 i v->QM D i x3.length->Kept s.heap h'->Q v { s with heap:=h',toks:=j }) :
 de (dt prog w) A (call (.builtin "min") [.ref d] [(Str.ofString "key",.ref q)]) Q E s:=by
 have nm:(toString "min" ++ toString ".loop" : String) = "min.loop" := by decide
 refine kmk_tree PySem.F.kind_min PySem.F.plain_min PySem.F.entry_min (VF _ _) (ag (wpAny_of_eq (rfl) (ag (a9 (ag (wpAny_pyIter_dict O J ?_))))));refine ag (wpAny_newList ?_ (iP _));rw[nm];generalize Z:({ cls:=.type "dict_keyiterator",data:=.fields #[.ref d,.int 0 0,.int x3.length 0,.int ep 0] }:Obj)=oI;have gI:(s.heap.push oI).get? s.heap.objs.size=some oI:=cn _ (by rw[<- Z];rfl);have zS:(s.heap.push oI).objs.size=s.heap.objs.size+1:=by rw[gy]
 have kp:Kept s.heap ((s.heap.push oI).push (seqObj "list" #[] 0)):=(Kept.push _).trans (Kept.push _);have p:((s.heap.push oI).push (seqObj "list" #[] 0)).IsKeyIter s.heap.objs.size d 0 x3.length ep:=⟨oI,Kept.push _ _ _ gI,by rw[<- Z],by rw[<- Z];rfl⟩;have H:((s.heap.push oI).push (seqObj "list" #[] 0)).get? (s.heap.push oI).objs.size=some (seqObj "list" #[] 0):=cn _ rfl;have L:s.heap.get? s.heap.objs.size=none:=qf (ax _);have P:s.heap.get? (s.heap.push oI).objs.size=none:=qf (by rw[zS];lia);have Y:(s.heap.push oI).objs.size≠s.heap.objs.size:=by rw[zS];lia
 generalize (s.heap.push oI).objs.size=S at H P Y;generalize s.heap.objs.size=I at p L Y;generalize (s.heap.push oI).push (seqObj "list" #[] 0)=h at kp p H;refine a9 ⟨sR gS _,?_⟩;have hd:s.heap.get? d≠none:=by
  obtain ⟨o,es,ho,_⟩:=J;rw[ho];simp
 have dI:d≠I:=λz=>hd (z ▸ L);have W:=Walks.dictKeys (knd:=knd) (A:=A.in1) hh I d dI x3 ep;have r:∀{h h':Heap}{b:Addr},Kept s.heap h->s.heap.get? b=none->(∀a o,a≠b->h.get? a=some o->h'.get? a=some o)->Kept s.heap h':=λk n x a o e=>x a o (λz=>by rw[z,n] at e;cases e) (k a o e);have C:∀{h:Heap} (f:Array a0->Array a0) (a:Addr) (o:Obj),a≠S->h.get? a=some o->(h.update S (vb f)).get? a=some o:=λf a o ne e=>((nh ..).2 a ne).trans e;refine vS pb ?_;rw[qk gS _];refine ag (eW H rfl (ag (mP (W.item 0 _ _ _ R ⟨p,J.at' λo e=>kp d o e⟩ λv h' j hP st k'=>?_))));have k1:=λa o ne e=>k' a o (by simpa using ne) e;have u:=r kp L k1;refine ag (mP (kF (fy (turn 0 v hP h' j u) (λx s2 he=>?_) λ_ _ z=>z.elim)));obtain ⟨h2,tk2,U,rfl,rfl,M⟩:=he;have B:=M S _ (k1 S _ Y H);refine ag (rh B rfl ?_);rw[nm];refine a9 ⟨sR gS _,VG D hh J L P Y turn hQ _ 1 0 _ _ v U _ rfl R (r (u.trans M) P (C _)) (get?_update_seq B λ_=>#[v,.int (D 0) U]) ((st.1.at λo e=>M _ _ e).at λo e=>C _ _ _ (lx Y) e) hP (by decide) λl hl=>?_⟩;have e:l=0:=by lia
 subst e;exact ⟨la _,λz=>absurd z (ft _)⟩
end
variable {p p1:Pos}{j:Nat}{y:Str}{x5:Array a0}{h':Heap}{params:Arguments}{scope:rX}{clos:B1}
section
open PySem.W
section
variable {prog:fq}  {A:g9}
theorem Kr:Wq (.Name x p):=λ_ _=>rfl
theorem Lx{i:Int}:Wq (.Constant (.int i) j p):=λ_ _=>rfl
theorem Wz{env:Env}{v u J:Pos}{m:Str->B7}{key:a0}{d:Addr}{f:Key->B7}{k:Key}{n:Int}{t:Tok}
 (q:env.scope.kind= .function) (D:env.kindOf x=some .local) (z:env.kindOf y=some .free) (H:env.cells.lookup y=some c) (C:s.heap.Ns env.locals m) (I:m x=some key) (Y:s.heap.IsCell c (some (.ref d)))
 (hd:s.heap.MapOf (bZ prog w) d f) (Z:(bZ prog w).is k key=true) (r:f k=some (.ref a)) (o:vv s.heap a x5) (h0:x5[0]?=some (.int n t)) (B:x5.size<=ba)
 (e:nD x) (l:nD y) (i:(y == ("__classdict__" : Str))=false) (h:∀tk,Q (.int n t) { s with toks:=tk }) :
 de (dt prog w) A (eval (.Subscript (.Subscript (.Name y p1) (.Name x p) v) (.Constant (.int 0) j u) J) env) Q E s:=by
 refine Nq PySem.F.slot_tuple_getitem.lookup Lx (Nq iX.lookup Kr ?_);refine ub (wpAny_loadName_free q z H Y ?_ i) l;refine ub (wpAny_loadName_local q D C I ?_) e;refine ⟨hd.typeIs,wpAny_getItem_of Z hd r (wpAny_Constant_int ?_)⟩;have L:=uT;refine ⟨o.typeIs,getItem_tuple o (by decide) (by decide) ?_ h0 (h _)⟩;have:=(Array.getElem?_eq_some_iff.mp h0).1;unfold seqIndex?;simp[this]
structure X3 (h:Heap) (qual:Str) (params:Arguments) (body:Expr) (scope:rX) (clos:B1) (pm ctv:a0) (q c':Addr):Prop where
 aeW:h.get? q=some (we "<lambda>" qual params body scope clos pm c' ctv)
 code:h.CodeRec (.ref c') qual
theorem Io{Y:a0}{q:Str}(k:Kept h h')(x:h.CodeRec Y q):h'.CodeRec Y q:=by
 obtain ⟨c,j,l,o,e,Z,hd,i⟩:=x;exact ⟨c,j,l,o,e,k _ _ Z,hd,i⟩
theorem Ou(k:Kept h h')(x:vv h a x5):vv h' a x5:=by
 obtain ⟨o,e,r⟩:=x;exact ⟨o,k _ _ e,r⟩
theorem Vf{tk:Nat}{Y:Str}{pm u:a0}{c':Addr}{R Q p5:Pos}{key:a0}{d:Addr}{vs:List (Key×a0)}{k:Key}{n:Int}{t:Tok}
 (L:X3 h' Y params (.Subscript (.Subscript (.Name y p1) (.Name x p) R) (.Constant (.int 0) j Q) p5) scope clos pm u T c') (kp:Kept h' h) (l:A.depth<recursionLimit) (q:h'.NoLimit)
 (i:iA (kla_fn "<lambda>" Y params (.Subscript (.Subscript (.Name y p1) (.Name x p) R) (.Constant (.int 0) j Q) p5) scope clos pm (.ref c') u) ⟨[key],[]⟩=pure [(x,key)])
 (M:scope.isCoroutine=false) (v:scope.isGenerator=false) (hk:scope.kind= .function) (P:∀z∈scope.names,z.2 ≠ .cell) (U:scope.names.lookup x=some .local) (hy:scope.names.lookup y=some .free) (hc:clos.lookup y=some c)
 (Z:h'.IsCell c (some (.ref d))) (hd:h'.DictOf (bZ prog w) d vs) (B:(bZ prog w).is k key=true) (hv:sm vs k=some (.ref a)) (ht:vv h' a x5) (h0:x5[0]?=some (.int n t)) (E:x5.size<=ba)
 (D:nD x) (J:nD y) (O:(y == ("__classdict__" : Str))=false) :
 de (dt prog w) A (call (.ref T) [key]) (Tells s h n) (λ_ _=>False) { s with heap:=h,toks:=tk }:=by
 refine wpAny_call (kla_callFunE l (kp _ _ L.aeW) rfl M v rfl (Io kp L.code) ?_);rw[i];refine a9 (wpAny_newFunctionEnv P (λz hz=>by rw[ay.mp hz];exact U) (λh1 I H=>?_) hk);have S:=λb o e=>H.extBut b o (ef (cm e)) (aE _ e);have C:=kp.trans S;refine ⟨q.keeps C,kla_codeExpr ?_⟩;refine Wz (d:=d) hk U hy hc I (by simp) ?_ ?_ B hv (Ou C ht) h0 E D J O λtk'=>⟨_,_,t,rfl,rfl,S⟩
 . obtain ⟨o,e,r⟩:=Z;exact ⟨o,C _ _ e,r⟩
 . obtain ⟨o,es,ep,e,r⟩:=hd;exact Heap.DictOf.mapOf ⟨o,es,ep,C _ _ e,r⟩
end
end
variable {pos:Pos}{X:Cx}{x2:A7}{σ:St}{H:Hp}{cd:Addr}
section
open PySem.W
theorem Up{a b c Y:a0}:∀(l:B8),TriplesOk l->ti pos (l++[a,b,c])=some Y->ti pos l=some Y\/Y=c:=by
 intro l
 fun_induction TriplesOk l with
 | case1=>
  intro _ h;right;rw[d6] at h;unfold ti at h;split at h
  . rename_i e;cases e;split at h
    . exact (Option.some.inj h).symm
    . cases h
  . cases h
 | case2 line u col v p j o=>
  intro Z h;rw[fk,fk,fk] at h;unfold ti at h ⊢;split at h
  . rename_i i;rw[if_pos i];exact .inl h
  . rename_i i;rw[if_neg i];exact o Z h
 | case3=>intro Z;exact Z.elim
theorem Xg{P:Addr}{Y:Expr}(I:x9 X x2 σ H s)(i:X.env.code= .ref cd)(hhd:gL X.K cd P=true)(hT:TabAt X.K X.mg P)
 (hq:X.env.qual ++ "<lambda>"= jc) (O:vi scope X.env=pure clos) (hdef:defaultsOf params X.env=([],[]))
 (h:∀q c' Z H' s',x9 X x2 σ H' s'->(H'=H\/(H c'=none/\H'=xk H c' (.own P)))->X3 s'.heap jc params Y scope clos ((X.mg "__name__").getD .none) Z q c'->(∀b o,b≠P->s.heap.get? b=some o->s'.heap.get? b=some o)->Q (.ref q) s') :
 de (dt X.prog X.w) X.A (eval (.Lambda params Y scope pos) X.env) Q E s:=by
 refine kla_eval hdef ?_;rw[hq];have J:=I.base.kE _ _ (I.ok.tabs P hT);obtain ⟨ps,hP,ht,S⟩:=I.xw P _ J;have C:=codeHd_of_K I.kIn hhd;have hg:=I.mod.glob.keeps I.bk;obtain ⟨bm,ob,b1,j,v,b4,b5,b6⟩:=I.mod.bmain;have v:=I.bk _ _ v;have bP:bm≠P:=λz=>by rw[z,hP] at v;cases v;cases b4
 have gP:d5≠P:=λz=>by
  obtain ⟨o,es,ep,e,hd,_⟩:=hg;rw[z,hP] at e;cases e;cases hd
 have bG:bm≠d5:=λz=>by
  obtain ⟨o,es,ep,e,hd,_⟩:=hg;rw[<- z,v] at e;cases e;rw[b6] at hd;cases hd
 have hb:s.heap.BuiltinsAt X.mg P:=⟨bm,ob,b1,j,bG,bP,v,b4,b5,b6⟩
 cases hf:ti pos ps.toList with
 | some cv=>
  obtain ⟨c',oc,vs,t,rfl,hown,ho,hd,l⟩:=S pos cv hf;refine kla_makeFunctionHit O I.ok.glob hg i C hP ht hf hb λZ p tk hk hsz=>?_;have keep:∀b o,s.heap.get? b=some o->(p.push (we "<lambda>" jc params Y scope clos ((X.mg "__name__").getD .none) c' Z)).get? b=some o:=λb o e=>aE _ (hk b o e);exact h _ c' Z H _ (I.un (Un.kept keep) (I.xw.kept keep)) (.inl rfl) ⟨cn _ rfl,⟨c',oc,vs,t,rfl,keep _ _ ho,hd,l⟩⟩ λb o _ e=>keep b o e
 | none=>
  refine kla_makeFunction O I.ok.glob hg i C hP ht hf gP hb λc' Z p tk hx U hlt R htb=>?_;have D:=I.xw.fresh U;have nP:∀{b:Addr},H b=none->b≠P:=λn z=>by rw[z,J] at n;cases n
  have M:∀{b:Addr}{o:HO},H b=some o->b≠c':=λe z=>by rw[z,D] at e;cases e
  have old:∀b o,b≠P->s.heap.get? b=some o->(p.push (we "<lambda>" jc params Y scope clos ((X.mg "__name__").getD .none) c' Z)).get? b=some o:=λb o ne e=>aE _ (hx b o ne e);have L:(p.push (we "<lambda>" jc params Y scope clos ((X.mg "__name__").getD .none) c' Z)).get? P=some (tabObj (ps++#[qA pos.line,qA pos.col,.ref c'])):=aE _ htb;obtain ⟨c2,oc,vs,t,ec,ho,hd,l⟩:=R;cases ec;have r:(p.push (we "<lambda>" jc params Y scope clos ((X.mg "__name__").getD .none) c' Z)).get? c'=some oc:=aE _ ho;have un:Un X.fs [] H (xk H c' (.own P)) s.heap (p.push (we "<lambda>" jc params Y scope clos ((X.mg "__name__").getD .none) c' Z)):=by
   refine ⟨λb o e n _ _=>old b o (nP n) e,λb o e n _ _=>⟨o.slots,old b o (nP n) e⟩,λb o e n _=>?_,λb o e _=>?_,λb xs e=>?_,λb o u e=>?_,λb q e=>?_⟩
   . rw[aG (ef (dS (cm e) U))];exact n
   . by_cases z:b=P
     . rw[z];exact ⟨_,L⟩
     . exact ⟨o,old b o z e⟩
   . rw[aG (M e)];exact e
   . rw[aG (M e)];exact e
   . rw[aG (M e)];exact e
  have xw:HOk X.prog X.w (xk H c' (.own P)) (p.push (we "<lambda>" jc params Y scope clos ((X.mg "__name__").getD .none) c' Z)):=λb o e=>by
   by_cases z:b=c'
   . subst z;rw[aX] at e;cases e;exact ⟨oc,r⟩
   . rw[aG z] at e;have B:∀j a,H j=some (.own a)->xk H c' (.own P) j=some (.own a):=λj a q=>by rw[aG (M q)];exact q
     by_cases zP:b=P
     . subst zP;rw[J] at e;cases e;have el:(ps++#[qA pos.line,qA pos.col,fN c']).toList=ps.toList++[qA pos.line,qA pos.col,.ref c']:=by simp
       refine ⟨_,L,by rw[el];exact TriplesOk_snoc _ _ _ _ ht,λpos2 cv hv=>?_⟩;rw[el] at hv;rcases Up _ ht hv with hv | hv
       . obtain ⟨c3,ob3,vs3,t3,e1,e2,e3,e4,e5⟩:=S pos2 cv hv;exact ⟨c3,ob3,vs3,t3,e1,B _ _ e2,old _ _ (λz=>by rw[z,J] at e2;cases e2) e3,e4,e5⟩
       . exact ⟨c',oc,vs,t,hv,aX,r,hd,l⟩
     . refine (I.xw b o e).stay (λj u hb2 q=>old j u ?_ q) (λj q=>B j b q) λj xs q=>by rw[aG (M q)];exact q
       rcases hb2 with rfl | hb2
       . exact zP
       . exact λz=>by rw[z,J] at hb2;cases hb2
  exact h _ c' Z _ _ (I.un un xw) (.inr ⟨D,rfl⟩) ⟨cn _ rfl,⟨c',oc,vs,t,rfl,r,hd,l⟩⟩ old
end
variable {i:Nat}
section
open PySem.W
theorem Bj{Z:Type}[DecidableEq Z]:∀{vs:List (Z×a0)}{i:Nat}{k:Z}{x:a0},(vs.map (·.1)).Nodup->vs[i]?=some (k,x)->sm vs k=some x
 | [],i,k,x,_,e=>by simp at e
 | (k0,l)::vs,i,k,x,j,e=>by
  unfold sm;rw[a7,k6] at j
  match i with
  | 0=>
   have e:=Option.some.inj e;cases e;rw[List.find?_cons_of_pos (by simp)];rfl
  | i+1=>
   have e:=by simpa using e
   have Y:k0≠k:=λz=>j.1 (by
    rw[z];exact bo.mpr ⟨_,dA e,rfl⟩)
   rw[List.find?_cons_of_neg (by simpa using Y)];exact Bj j.2 e
theorem Paired.getL{α Y:Type}{F:α->Y->Prop}:∀{l₁:List α}{l₂:List Y}{i:Nat}{b:Y},hX F l₁ l₂->l₂[i]?=some b->∃a,l₁[i]?=some a/\F a b
 | _,_,i,b,.nil,e=>by simp at e
 | _,_,0,b,.cons r t,e=>by cases (Option.some.inj e);exact ⟨_,rfl,r⟩
 | _,_,i+1,b,.cons r t,e=>Paired.getL (i:=i) t (by simpa using e)
def afK(K:av)(i:Nat):TE:=λσ H Q=>∃(d:Addr) (x3:A8) (cs:Nat->Int),σ[i]?=some (some (.ref d))/\H d=some (.dK x3)/\0<x3.length/\(∀l k v,x3[l]?=some (k,v)->∃a xs,v= .ref a/\SqT K H a (.int (cs l)::xs)) /\
 ∀l k v H',x3[l]?=some (k,v)->QM cs l x3.length->aF H H'->Q (kV k) H'
theorem LK{env:Env}(hs:scope.names=[(x,.local),(y,.free)])(Y:env.cells.lookup y=some c):vi scope env=pure [(y,c)]:=by
 rw[vi,hs];simp[cellOf,Y]
theorem Hl{k:Key}{u:a0}(h:(bZ P w).is k u=true):xh (kV k) u:=by
 cases k with
 | inl i=>exact Value.isInt_shape h
 | inr x=>exact Value.isStrOf_shape h
theorem RK{k:Nat}{q1 q2 q3 q4 q5 afc kp:Pos}
 (hN:X.N[i]?=some y) (hv:X.env.kindOf y=some .cell) (hr:dB k X.A) (M:X.env.code= .ref cd) (hhd:gL X.K cd T=true) (hT:TabAt X.K X.mg T) (hq:X.env.qual ++ "<lambda>"= jc)
 (hg:Gl X "min") (hm:X.mg "min"= none) (hs:scope.names=[(x,.local),(y,.free)]) (hco:scope.isCoroutine=false) (U:scope.isGenerator=false) (hk:scope.kind= .function) (hdef:defaultsOf params X.env=([],[]))
 (C:∀(pm cv ctv key:a0) (clos:B1) (body:Expr),iA (kla_fn "<lambda>" jc params body scope clos pm cv ctv) ⟨[key],[]⟩=pure [(x,key)]) (hxy:(y == x)=false)
 (hdx:nD x) (hdy:nD y) (hcy:(y == ("__classdict__" : Str))=false) :
 PE X (.Call (.Name "min" p) [.Name y p1] [⟨some "key",.Lambda params (.Subscript (.Subscript (.Name y q1) (.Name x q2) q3) (.Constant (.int 0) j q4) q5) scope afc,kp⟩] pos) (afK X.K i):=by
 rintro x2 s σ H Q I ⟨d,x3,cs,S,hd,hn,D,hQ⟩;have Z:Vis X.env.scope y:=.inr (.inl hv);refine n5 (m7 I hg hm rfl (callWith_kw ?_));have hpa:PA X [.Name y p1] _:=bV (dJ hN Z hdy hcy) eG;refine thn (hpa pos x2 s σ H (λvs H1=>vs=[.ref d]/\H1=H) I ⟨.ref d,S,rfl,rfl⟩) λus s1 Wm=>?_;obtain ⟨vs,H1,I1,rv,hvs,hH1⟩:=Wm;subst hvs;subst hH1;obtain ⟨u,P,rfl,ru,rn⟩:∃u P,us=u::P/\u=fN d/\P=[]:=by
  cases rv with
  | cons r t=>cases t;exact ⟨_,_,rfl,r,rfl⟩
 subst ru;subst rn;obtain ⟨c,hc⟩:=I1.ok.has y (.inl hv);refine kws_cons (Xg I1 M hhd hT hq (LK hs hc) hdef λq c' ctv H' s' R hH' L hkeep=>kws_nil ?_);have sH:aF H1 H':=by
  rcases hH' with rfl | ⟨z,rfl⟩
  . exact aF.refl _
  . exact λb o e=>by rw[aG (λy=>by rw[y,z] at e;cases e)];exact e
 have hd':=sH _ _ hd;obtain ⟨zl,hsm,vs,E,dd⟩:=R.xw d _ hd';obtain ⟨od,es,ep,e1,e2,e3,e4,e5,e6⟩:=id dd;have hat:s'.heap.DictAt (bZ X.prog X.w) d vs ep:=⟨od,es,e1,e2,e3,e4,e5,e6⟩;have hl:=E.length;have B:s'.heap.IsCell c (some (.ref d)):=by
  obtain ⟨m,hn',hloc⟩:=R.loc;obtain ⟨u,ru,l⟩:=hloc i y (.ref d) hN S Z;obtain rfl:u=fN d:=ru;rcases l with ⟨l1,_⟩ | ⟨_,c2,l2,l3⟩
  . rw[hv] at l1;cases l1
  . rw[hc] at l2;cases l2;exact l3
 refine VN cs hr.hd hsm hat (by lia) (λl key Y h tk kp=>?_) λl v h' tk' hlt Y hb kp=>?_
 . obtain ⟨k,x',hx,O⟩:=Y;obtain ⟨⟨k2,v2⟩,g1,J,g3⟩:=Paired.getL E hx;have J:=J;subst J;obtain ⟨a,xs,ev,hq2⟩:=D l k2 v2 g1;have ev:=ev;subst ev;obtain rfl:x'=fN a:=g3;obtain ⟨x5,rr,ht,hz⟩:=R.tuple (sH.fP hq2);obtain ⟨t,its',rfl⟩:∃t its',x5=a0.int (cs l) t::its':=by
    cases rr with
    | cons r t=>obtain ⟨t',rfl⟩:=r;exact ⟨_,_,rfl⟩
   have hz2:=rr.length;refine Vf (t:=t) L kp (by have:=hr.dp;show X.A.depth<_;lia) R.nolimit (C _ _ _ _ _ _) hco U hk ?_ ?_ ?_ (by simp) B dd O (Bj e6 hx) ht (by simp) (by rw[c8,<- hz2];exact hz) hdx hdy hcy
   . intro z hz;rw[hs] at hz;rcases bE.mp hz with rfl | hz
     . intro z;cases z
     . rw[ay.mp hz];intro z;cases z
   . rw[hs];simp
   . rw[hs];rw[sk,hxy];simp[sk]
 . obtain ⟨k,x',hx,O⟩:=Y;obtain ⟨⟨k2,v2⟩,g1,J,g3⟩:=Paired.getL E hx;have J:=J;subst J;rw[<- hl] at hb;exact ⟨kV k2,H',R.un (Un.kept kp) (R.xw.kept kp),Hl O,hQ l k2 v2 H' g1 hb sH⟩
end
noncomputable def dU:ab->C3
 | .tuple (.int c::_)=>some c
 | _=>none
noncomputable def jw(k:ab)(c:Int):B0->x8 ab
 | []=>.ok k
 | (k',d)::r=>match dU d with
  | some c'=>if c'<c then jw k' c' r else jw k c r
  | none=>.bad
noncomputable def jO:B0->x8 ab
 | []=>.bad
 | (k,d)::r=>match dU d with
  | some c=>jw k c r
  | none=>.bad
noncomputable def Ce(i:Nat):ME:=λΓ=>match gv Γ i with
 | some (.dict x3)=>jO x3
 | _=>.bad
theorem vh:∀{r:B0}{k:ab}{c:Int}{k2:ab},jw k c r= .ok k2->(∀q∈r,(dU q.2).isSome=true) /\
 ((k2=k/\∀(l:Nat) (q:ab×ab) (Z:Int),r[l]?=some q->dU q.2=some Z->c<=Z)\/∃(l:Nat) (q:ab×ab) (Z:Int),r[l]?=some q/\dU q.2=some Z/\k2=q.1/\Z<c/\∀(l2:Nat) (o:ab×ab) (i:Int),r[l2]?=some o->dU o.2=some i->Z<=i/\(l2<l->Z<i))
 | [],k,c,k2,h=>by
  cases h;exact ⟨λ_ q=>(nomatch q),.inl ⟨rfl,λl q Z e=>by simp at e⟩⟩
 | (k',d)::r,k,c,k2,h=>by
  unfold jw at h
  cases p:dU d with
  | none=>rw[p] at h;cases h
  | some Z=>
   rw[p] at h;have h:(if Z<c then jw k' Z r else jw k c r)= .ok k2:=h
   by_cases lt:Z<c
   . rw[if_pos lt] at h;obtain ⟨C,s⟩:=vh h;refine ⟨λq hq=>?_,.inr ?_⟩
     . rcases bE.mp hq with rfl | hq
       . rw[p];rfl
       . exact C q hq
     . rcases s with ⟨rfl,s⟩ | ⟨l,q,D,v,E,B,u,H⟩
       . refine ⟨0,(k2,d),Z,rfl,p,rfl,lt,λl2 o i j Y=>?_⟩
         match l2 with
         | 0=>
          cases (Option.some.inj j);have Y:=Y;rw[p] at Y;cases Y;exact ⟨la _,λz=>absurd z (ft _)⟩
         | l2+1=>exact ⟨s l2 o i (by simpa using j) Y,λz=>absurd z (nX _)⟩
       . refine ⟨l+1,q,D,by simpa using v,E,B,Int.lt_trans u lt,λl2 o i j Y=>?_⟩
         match l2 with
         | 0=>
          cases (Option.some.inj j);have Y:=Y;rw[p] at Y;cases Y;exact ⟨Int.le_of_lt u,λ_=>u⟩
         | l2+1=>
          have:=H l2 o i (by simpa using j) Y;exact ⟨this.1,λz=>this.2 (by lia)⟩
   . rw[if_neg lt] at h;obtain ⟨C,s⟩:=vh h;refine ⟨λq hq=>?_,?_⟩
     . rcases bE.mp hq with rfl | hq
       . rw[p];rfl
       . exact C q hq
     . rcases s with ⟨rfl,s⟩ | ⟨l,q,D,v,E,B,u,H⟩
       . refine .inl ⟨rfl,λl2 o i j Y=>?_⟩
         match l2 with
         | 0=>
          cases (Option.some.inj j);have Y:=Y;rw[p] at Y;cases Y;lia
         | l2+1=>exact s l2 o i (by simpa using j) Y
       . refine .inr ⟨l+1,q,D,by simpa using v,E,B,u,λl2 o i j Y=>?_⟩
         match l2 with
         | 0=>
          cases (Option.some.inj j);have Y:=Y;rw[p] at Y;cases Y;exact ⟨by lia,λ_=>by lia⟩
         | l2+1=>
          have:=H l2 o i (by simpa using j) Y;exact ⟨this.1,λz=>this.2 (by lia)⟩
variable {x3:B0}
theorem CN{k:ab}(h:jO x3= .ok k):(∀q∈x3,(dU q.2).isSome=true)/\∃(l:Nat) (q:ab×ab) (c:Int),x3[l]?=some q/\dU q.2=some c/\k=q.1/\∀(l2:Nat) (i:ab×ab) (Z:Int),x3[l2]?=some i->dU i.2=some Z->c<=Z/\(l2<l->c<Z):=by
 match x3,h with
 | (k0,d)::r,h=>
  have h:(match dU d with
   | some c=>jw k0 c r
   | none=>.bad)= .ok k:=h
  cases e:dU d with
  | none=>rw[e] at h;cases h
  | some c=>
   rw[e] at h;obtain ⟨v,o⟩:=vh h;refine ⟨λq hq=>?_,?_⟩
   . rcases bE.mp hq with rfl | hq
     . rw[e];rfl
     . exact v q hq
   . rcases o with ⟨rfl,o⟩ | ⟨l,q,B,s,C,u,p,D⟩
     . refine ⟨0,(k,d),c,rfl,e,rfl,λl2 i Z j Y=>?_⟩
       match l2 with
       | 0=>
        cases (Option.some.inj j);have Y:=Y;rw[e] at Y;cases Y;exact ⟨la _,λz=>absurd z (ft _)⟩
       | l2+1=>exact ⟨o l2 i Z (by simpa using j) Y,λz=>absurd z (nX _)⟩
     . refine ⟨l+1,q,B,by simpa using s,C,u,λl2 i Z j Y=>?_⟩
       match l2 with
       | 0=>
        cases (Option.some.inj j);have Y:=Y;rw[e] at Y;cases Y;exact ⟨Int.le_of_lt p,λ_=>p⟩
       | l2+1=>
        have:=D l2 i Z (by simpa using j) Y;exact ⟨this.1,λz=>this.2 (by lia)⟩
variable {A:Hp}
theorem wA:∀{x3:B0}{u:A8}{l:Nat}{key:Key}{v:V},bj K A x3 u->u[l]?=some (key,v)->∃k d,x3[l]?=some (k,d)/\bM k=some key/\Rp K A d v
 | [],u,l,key,v,h,e=>by rw[bj.nil.mp h] at e;simp at e
 | (k,d)::r,u,l,key,v,h,e=>by
  obtain ⟨Y,z,B,rfl,q,p,Z⟩:=bj.cons.mp h
  match l with
  | 0=>cases (Option.some.inj e);exact ⟨k,d,rfl,q,p⟩
  | l+1=>
   obtain ⟨i,o,s,j⟩:=wA Z (by simpa using e);exact ⟨i,o,by simpa using s,j⟩
variable {O:B9}{v:V}
theorem XQ{d:ab}{c:Int}(h:Rp K A d v)(Y:dU d=some c):∃a xs,v= .ref a/\SqT K A a (.int c::xs):=by
 unfold dU at Y;split at Y
 . cases Y;obtain ⟨a,j,rfl,Z,e⟩:=Rp.tuple.mp h;obtain ⟨v,r,rfl,i,_⟩:=az.cons.mp e;rw[Rp.int.mp i] at Z;exact ⟨a,r,rfl,Z⟩
 . cases Y
theorem aaS{q1 q2 q3 q4 q5 M kp:Pos}(i:Nat)(hi:isO (fl O i)=true)
 (hN:X.N[i]?=some y) (hv:X.env.kindOf y=some .cell) (hr:dB ep X.A) (I:X.env.code= .ref cd) (hhd:gL X.K cd T=true) (hT:TabAt X.K X.mg T) (hq:X.env.qual ++ "<lambda>"= jc)
 (hg:Gl X "min") (hm:X.mg "min"= none) (hs:scope.names=[(x,.local),(y,.free)]) (hco:scope.isCoroutine=false) (L:scope.isGenerator=false) (hk:scope.kind= .function) (S:defaultsOf params X.env=([],[]))
 (C:∀(pm cv ctv key:a0) (clos:B1) (body:Expr),iA (PySem.W.kla_fn "<lambda>" jc params body scope clos pm cv ctv) ⟨[key],[]⟩=pure [(x,key)]) (hxy:(y == x)=false:=by decide)
 (hdx:nD x:=by decide) (hdy:nD y:=by decide) (hcy:(y == ("__classdict__" : Str))=false:=by decide) :
 QE X (.Call (.Name "min" p) [.Name y p1] [⟨some "key",.Lambda params (.Subscript (.Subscript (.Name y q1) (.Name x q2) q3) (.Constant (.int 0) j q4) q5) scope M,kp⟩] pos) (tE X.K O (Ce i)):=
 QE.imp (RK hN hv hr I hhd hT hq hg hm hs hco L hk S C hxy hdx hdy hcy) λσ H Q R=>by
  obtain ⟨A,B,Γ,d,r,em,kk⟩:=R;unfold Ce at em
  cases D:gv Γ i with
  | none=>rw[D] at em;cases em
  | some dl=>
   rw[D] at em
   cases dl with
   | dict Y=>
    have em:=em;obtain ⟨q,u,e1,h1,h2⟩:=vV r hi D;obtain ⟨J,l0,w0,c0,U,f2,f3,f4⟩:=CN em;have P:=h2.len;have s:∀l key v,u[l]?=some (key,v)->∃(w:ab×ab) (c:Int),Y[l]?=some w/\dU w.2=some c/\bM w.1=some key/\Rp X.K A w.2 v:=λl key v e=>by
     obtain ⟨k1,d1,Z,E,o⟩:=wA h2 e;obtain ⟨c,hc⟩:=fS.mp (J _ (dA Z));exact ⟨(k1,d1),c,Z,hc,E,o⟩
    refine ⟨q,u,λl=>((Y[l]?).bind λw=>dU w.2).getD 0,dH e1,h1,?_,λl key v e=>?_,λl key v H' e hb sH=>?_⟩
    . rw[<- P];exact h9 (iP _) (aI.mp U).1
    . obtain ⟨w,c,Z,E,o,g4⟩:=s l key v e;obtain ⟨a,xs,rfl,hq⟩:=XQ g4 E;refine ⟨a,xs,rfl,r.a.fP ?_⟩;show SqT X.K A a (.int (((Y[l]?).bind λw=>dU w.2).getD 0)::xs);rw[Z];show SqT X.K A a (.int ((dU w.2).getD 0)::xs);rw[E];exact hq
    . obtain ⟨w,c,Z,E,o,g4⟩:=s l key v e;have hl:=(aI.mp Z).1;have hl0:=(aI.mp U).1;have cl:((Y[l]?).bind λw=>dU w.2).getD 0=c:=by rw[Z];show (dU w.2).getD 0=c;rw[E];rfl
      have cl0:((Y[l0]?).bind λw=>dU w.2).getD 0=c0:=by rw[U];show (dU w0.2).getD 0=c0;rw[f2];rfl
      have b1:=hb l0 (by lia);have b1:((Y[l]?).bind λw=>dU w.2).getD 0<=((Y[l0]?).bind λw=>dU w.2).getD 0/\(l0<l->((Y[l]?).bind λw=>dU w.2).getD 0<((Y[l0]?).bind λw=>dU w.2).getD 0):=b1;rw[cl,cl0] at b1;have b2:=f4 l w c Z E;have el:l=l0:=by
       rcases Nat.lt_trichotomy l l0 with z | z | z
       . have:=b2.2 z;lia
       . exact z
       . have:=b1.2 z;lia
      subst el;rw[U] at Z;cases Z;refine kk _ A H' ⟨aF.refl _,sH,r.a.trans sH,λ_ h _=>h⟩ ?_;rw[f3]
      cases hw:w0.1 with
      | int n=>rw[hw] at o;cases o;exact Rp.int.mpr rfl
      | str z=>rw[hw] at o;cases o;exact Rp.str.mpr rfl
      | _=>rw[hw] at o;cases o
   | _=>cases em
noncomputable def yu(i:Nat)(f:B4->x8 ab)(ms:List ME):MS:=λΓ=>(evs ms Γ).bind λds=>(f ds).bind λr=>match nF r with
 | some (_,dm)=>.ok (.nx (Γ.set i (some dm)))
 | none=>.bad
variable {rm:Rm}{Ol O':B9}
section
variable     {f:B4->x8 ab}{ms:List ME}{m:ME}{e:Expr}
theorem KD(i:Nat)(J:QE X e (tM K O i f ms))(hs:fR e none pos.line X.env=pure false:=by rfl):QS X (.Expr e pos) (tS K rm Ol O O (yu i f ms)):=QS.imp (qI J.h hs) λD L H Y=>by
 obtain ⟨A,B,I,o,r,em,k⟩:=Y;obtain ⟨E,j,em⟩:=x8.au em;obtain ⟨t,Z,em⟩:=x8.au em
 cases h:nF t with
 | none=>rw[h] at em;cases em
 | some q=>
  obtain ⟨d,s⟩:=q;rw[h] at em;cases em;rw[zr h] at Z;exact ⟨A,B,I,E,d,s,r,j,Z,λv C z u l nw p=>k _ C z u l nw⟩
end
noncomputable def adn(n j:Nat)(m:MS)(ds:B4):x8 ab:=(m (ds.map some++aw (n - ds.length) none)).bind λo=>match o with
 | .rt d=>.ok d
 | .nx Γ=>match gv Γ j with
  | some dm=>.ok (.tuple [.none,dm])
  | none=>.bad
 | _=>.bad
variable {N ps:B6}
section
variable     {base:Heap}
theorem WN{st:Stmt}{fs:B9}{O O':Addr->B9}{m:MS}(F:At K mg x st ps)(S:cM N ps (aM st))(hf:fs.length=ps.length)(hn:ps.length<=N.length)
 (I:∀p,fl (O p) j= .fix p) (hO:∀p i,i<fs.length->i≠j->(fl (O p) i= .xo/\fl fs i= .xo)\/fl (O p) i= .xl) (J:∀p,fl (O' p) j= .fix p)
 (hbody:∀(p:Addr) (f:Addr) (Z:a0) (A:g9) (xD:C6) (s:cq) (H:Hp) (E:XK),dB ep (A.deeper (mB x (aM st) s.heap.objs.size f Z)) ->
  QSs (mq CX0 P w K mg base N x (aM st) f Z A xD s H E).nox (bU st) (tS K (.m p) Ol (O p) (O' p) m)):Def P w K mg base (ep+1) x ps (spM K fs j (adn N.length j m)):=by
 refine F.ok S (λvs H Q E h=>?_) (λf Z A xD s H vs Q E hr h=>?_)
 . obtain ⟨_,_,_,_,_,_,_,_,_,h,_⟩:=h;rw[h,hf]
 . obtain ⟨A',B,ds,d,r,p,o,ha,hb,hv,hd,hj,hp,ap,bp,e,Y,em,q⟩:=h;obtain ⟨out,e1,em⟩:=x8.au em
   cases out with
   | rt d'=>
    cases em;refine ⟨_,(hbody p f Z A xD s H E hr).h,A',rem H p,_,_,vX ha hb hv hd hj hp ap bp e Y (I p) (hO p) (by lia),e1,λv A2 L s1 s2 sa nw rv=>?_⟩;obtain ⟨d1,U,o1,ed,r1,D,r3,r4⟩:=rv;cases ed;refine q v A2 L o1 sa s1 (λb u C hu=>s2 b u (by rw[pN C];exact hu)) (λb q1 M=>?_) r3 D r4 r1
    by_cases z:b=p
    . subst z;exact r3
    . exact nw b q1 (by rw[pN z];exact M)
   | nx l=>
    cases R:gv l j with
    | none=>
     have em:(match gv l j with | some r=>x8.ok (ab.tuple [.none,r]) | none=>.bad)= .ok (ab.tuple [d,r]):=em;rw[R] at em;cases em
    | some U=>
     have em:(match gv l j with | some r=>x8.ok (ab.tuple [.none,r]) | none=>.bad)= .ok (.tuple [d,r]):=em;rw[R] at em;cases em;refine ⟨_,(hbody p f Z A xD s H E hr).h,A',rem H p,_,_,vX ha hb hv hd hj hp ap bp e Y (I p) (hO p) (by lia),e1,λσ2 A2 L D sa nw=>?_⟩;obtain ⟨v',ev,sl⟩:=D.slot j r R;rw[J p] at sl;obtain ⟨rfl,p',o',e',h1,h2,_,h4⟩:=sl;cases e';refine q .non A2 L o' sa D.a (λb u C hu=>D.b b u (by rw[pN C];exact hu)) (λb q1 M=>?_) h2 h1 h4 (Rp.none.mpr rfl)
     by_cases z:b=p
     . subst z;exact h2
     . exact nw b q1 (by rw[pN z];exact M)
   | _=>cases em
end
noncomputable def oU(key:Key)(x3:B0):B0:=x3.filter λkv=>!decide (bM kv.1=some key)
theorem Fw{key:Key}:∀{x3:B0}{u:A8},bj K A x3 u->bj K A (oU key x3) (sW u key)
 | [],u,h=>by rw[bj.nil] at h;subst h;exact bj.nil.mpr rfl
 | (k,d)::r,u,h=>by
  obtain ⟨Y,v,o,rfl,j,hd,l⟩:=bj.cons.mp h;have Z:=Fw (key:=key) l;unfold oU sW at Z ⊢
  by_cases e:bM k=some key
  . have i:=(mR j).mp e;rw[fm (by simp[e]),fm (by simp[i])];exact Z
  . have i:¬ Y=key:=λz=>e ((mR j).mpr z);rw[gx (by simp[e]),gx (by simp[i])];exact bj.cons.mpr ⟨Y,v,_,rfl,j,hd,Z⟩
noncomputable def uM(i j t:Nat):MS:=λΓ=>match gv Γ t,gv Γ i,gv Γ j with
 | some kd,some (.dict fs),some (.dict ws)=>(match bM kd with
  | some key=>(match cP key ws with
   | some d=>gd (fs.length<ba/\i < Γ.length/\j < Γ.length) (.ok (.nx ((Γ.set j (some (.dict (oU key ws)))).set i (some (.dict (gJ kd key d fs))))))
   | none=>.bad)
  | none=>.bad)
 | _,_,_=>.bad
variable {tpos apos cpos:Pos}
theorem Uv(i j t:Nat){z:Str}{Q ap:Pos}(hu:X.A.units+66<h7)(hij:i≠j)(hti:t≠i)(htj:t≠j)(hi:isO (fl O i)=true:=by rfl)(hj:isO (fl O j)=true:=by rfl)(ht:fl O t= .xo:=by rfl)
 (hNx:X.N[i]?=some x:=by rfl) (S:X.N[j]?=some y:=by rfl) (E:X.N[t]?=some z:=by rfl)
 (hvx:Vis X.env.scope x:=by first | exact gz rfl | exact rf (gz rfl) | exact rf (rf rfl)) (hvy:Vis X.env.scope y:=by first | exact gz rfl | exact rf (gz rfl) | exact rf (rf rfl)) (I:Vis X.env.scope z:=by first | exact gz rfl | exact rf (gz rfl) | exact rf (rf rfl))
 (U:nD x:=by decide) (hcx:(x == ("__classdict__" : Str))=false:=by decide) (hdy:nD y:=by decide) (hcy:(y == ("__classdict__" : Str))=false:=by decide) (q:nD z:=by decide) (J:(z == ("__classdict__" : Str))=false:=by decide)
 (hm:M1 X (.Name y Q) "pop" apos (.Name z ap) cpos:=by exact ⟨rfl,rfl,rfl,rfl⟩)
 (hs:fR (.Call (.Attribute (.Name y Q) "pop" apos) [.Name z ap] [] cpos) (some (.Subscript (.Name x p) (.Name z p1) tpos)) pos.line X.env=pure false:=by rfl) :
 QS X (.Assign [.Subscript (.Name x p) (.Name z p1) tpos] (.Call (.Attribute (.Name y Q) "pop" apos) [.Name z ap] [] cpos) pos) (tS X.K rm Ol O O (uM i j t)):=by
 refine QS.imp (Oq (by lia) (dJ hNx hvx U hcx) (dJ E I q J) (Ww (dJ S hvy hdy hcy) (dJ E I q J) hm) hs) λD σ H s=>?_;obtain ⟨A,B,Y,o,r,em,k⟩:=s;unfold uM at em
 cases C:gv Y t with
 | none=>rw[C] at em;cases em
 | some u=>
  cases L:gv Y i with
  | none=>rw[C,L] at em;cases em
  | some di=>
   cases M:gv Y j with
   | none=>rw[C,L,M] at em;cases di <;> cases em
   | some dj=>
    rw[C,L,M] at em
    cases di with
    | dict fs=>
     cases dj with
     | dict ws=>
      have em:(match bM u with
       | some key=>(match cP key ws with
        | some d=>gd (fs.length<ba/\i<Y.length/\j<Y.length) (x8.ok (Out.nx ((Y.set j (some (.dict (oU key ws)))).set i (some (.dict (gJ u key d fs))))))
        | none=>.bad)
       | none=>.bad)= .ok o:=em
      cases P:bM u with
      | none=>rw[P] at em;cases em
      | some key=>
       rw[P] at em;have em:(match cP key ws with
        | some d=>gd (fs.length<ba/\i<Y.length/\j<Y.length) (x8.ok (Out.nx ((Y.set j (some (.dict (oU key ws)))).set i (some (.dict (gJ u key d fs))))))
        | none=>.bad)= .ok o:=em
       cases hl:cP key ws with
       | none=>rw[hl] at em;cases em
       | some d=>
        rw[hl] at em;obtain ⟨⟨hz,R,hlj⟩,em⟩:=b8 em;cases em;obtain ⟨vt,et,st⟩:=r.slot t u C;rw[ht] at st;have vk:=Rp.key st P;obtain ⟨qj,uj,ej,Z,rj⟩:=vV r hj M;obtain ⟨v,lv,rv⟩:=(rj.look).1 d hl;have r1:=r.change (o':=.dK (sW uj key)) hj hlj (by rw[M];simp) ej Z (.inr ⟨_,_,rfl,rfl,Fw rj⟩);have l:gv (Y.set j (some (.dict (oU key ws)))) i=some (.dict fs):=by
         have:=L;unfold gv at this ⊢;rw[aR (lx hij)];exact this
        obtain ⟨qi,ui,ei,e,ri⟩:=vV r1 hi l;refine ⟨.ref qj,dH ej,qj,rfl,.inl ⟨uj,.inl Z⟩,vt,dH et,uj,key,v,Z,vk,lv,.ref qi,dH ei,vt,dH et,qi,_,rfl,by rw[vk];exact xP.k e (by rw[<- ri.length];exact hz),?_⟩;exact k σ A _ (r1.change hi (by rw[eJ];exact R) (by rw[l];simp) ei e (.inr ⟨_,_,rfl,rfl,bj.put P rv ri⟩)) (aF.refl _) (λ_ h _=>h)
     | _=>cases em
    | _=>cases em
variable {u:A8}{o:Obj}
section
variable      {d:Addr}
theorem x9.afP(I:x9 X x2 σ H s)(h:H d=some (.dK u)):∃o,x9 X x2 σ (xk H d (.frz o (.dK u))) s:=by
 have hd:=I.xw d _ h;obtain ⟨z,J,Q,C,o,S,P,B,R⟩:=id hd;have ne:∀{b:Addr},H b=none->b≠d:=λl y=>by rw[y,h] at l;cases l
 have nd:∀{b:Addr}{x:HO},H b=some x->x ≠ .dK u->b≠d:=λY j y=>by rw[y,h] at Y;exact j (Option.some.inj Y).symm
 refine ⟨o,⟨I.ok,I.os,I.bare,⟨I.base.keep,I.base.slot,λb Z q n j=>?_,I.base.there,λb i q=>?_,λb Z L q=>?_,λb E q=>?_⟩,I.loc,I.cell,?_,λx c q=>?_,λq D=>?_,λb Z q=>?_,I.len⟩⟩
 . have:=I.base.free b Z q n j;rw[aG (ne this)];exact this
 . have:=I.base.tups b i q;rw[aG (nd this (by intro z;cases z))];exact this
 . have:=I.base.mz b Z L q;rw[aG (nd this (by intro z;cases z))];exact this
 . have:=I.base.kE b E q;rw[aG (nd this (by intro z;cases z))];exact this
 . rw[aG (ne I.free)];exact I.free
 . rw[aG (ne (I.jP x c q))];exact I.jP x c q
 . obtain ⟨M,p,O⟩:=I.pin q D;exact ⟨M,by rw[aG (ne p)];exact p,O⟩
 . have v:∀c a,H c=some (.own a)->xk H d (.frz o (.dK u)) c=some (.own a):=λc a q=>by rw[aG (nd q (by intro z;cases z))];exact q
   have r:∀c i,H c=some (.tup i)->xk H d (.frz o (.dK u)) c=some (.tup i):=λc i q=>by rw[aG (nd q (by intro z;cases z))];exact q
   by_cases Y:b=d
   . subst Y;rw[aX] at q;cases q;exact ⟨B,hd.stay (λ_ _ _ e=>e) (λc q=>v c _ q) r⟩
   . rw[aG Y] at q;exact (I.xw b Z q).stay (λ_ _ _ e=>e) (λc q=>v c _ q) r
theorem x9.adA(I:x9 X x2 σ H s)(h:H d=some (.frz o (.dK u)))(j:∀o u,X.H₀ d≠some (.frz o u)):x9 X x2 σ (xk H d (.dK u)) s:=by
 have ne:∀{b:Addr},H b=none->b≠d:=λr y=>by rw[y,h] at r;cases r
 have nd:∀{b:Addr}{x:HO},H b=some x->x ≠ .frz o (.dK u)->b≠d:=λY l y=>by rw[y,h] at Y;exact l (Option.some.inj Y).symm
 refine ⟨I.ok,I.os,I.bare,⟨I.base.keep,I.base.slot,λb Z q n l=>?_,I.base.there,λb i q=>?_,λb Z C q=>?_,λb E q=>?_⟩,I.loc,I.cell,?_,λx c q=>?_,λq D=>?_,λb Z q=>?_,I.len⟩
 . have:=I.base.free b Z q n l;rw[aG (ne this)];exact this
 . have:=I.base.tups b i q;rw[aG (nd this (by intro z;cases z))];exact this
 . have:=I.base.mz b Z C q;rw[aG (λz=>by rw[z] at q;exact j _ _ q)];exact this
 . have:=I.base.kE b E q;rw[aG (nd this (by intro z;cases z))];exact this
 . rw[aG (ne I.free)];exact I.free
 . rw[aG (ne (I.jP x c q))];exact I.jP x c q
 . obtain ⟨J,B,L⟩:=I.pin q D;exact ⟨J,by rw[aG (ne B)];exact B,L⟩
 . have v:∀c a,H c=some (.own a)->xk H d (.dK u) c=some (.own a):=λc a q=>by rw[aG (nd q (by intro z;cases z))];exact q
   have p:∀c i,H c=some (.tup i)->xk H d (.dK u) c=some (.tup i):=λc i q=>by rw[aG (nd q (by intro z;cases z))];exact q
   by_cases Y:b=d
   . subst Y;rw[aX] at q;cases q;exact (I.xw b _ h).2.stay (λ_ _ _ e=>e) (λc q=>v c _ q) p
   . rw[aG Y] at q;exact (I.xw b Z q).stay (λ_ _ _ e=>e) (λc q=>v c _ q) p
end
noncomputable def Itk(d:Addr)(o:Obj)(u:A8):It:=⟨λi H=>H d=some (.frz o (.dK u))/\i<u.length,λi H x H'=>H'=H/\∃k v,u[i]?=some (k,v)/\x=kV k,λi H=>H d=some (.frz o (.dK u))/\u.length<=i⟩
variable {es:Array oq}
theorem p6(I:x9 X x2 σ H s)(h:H a=some (.frz o (.dK u)))(i:o.data= .dict es ep) :
 (a == fb)=false/\∃vs,KV u vs/\s.heap.DictAt (bZ X.prog X.w) a vs ep:=by
 obtain ⟨l,z,Y,vs,Z,B,r,v,e,q,j,p⟩:=I.xw a _ h;rw[l] at e;cases e;rw[i] at j;cases j;exact ⟨Y,vs,Z,o,es,l,q,i,p⟩
variable {tg:Expr}{it:Addr}
theorem Ug(ho:o.data= .dict es ep):Turn P w K tg (Itk a o u) [it] it (λi h=>h.IsKeyIter it a i u.length ep) where
 mem:=by simp
 obj:=λi h st b j=>by
  have e:=by simpa using j
  subst e;obtain ⟨o,e,c,a⟩:=st;exact ⟨o,e,λv z=>by rw[a] at z;cases z⟩
 keep:=λi h h' st k=>st.at λo e=>k it (by simp) o e
 item:=by
  intro X hP hw D hc i l s σ H E I B st O;subst hP hw D;obtain ⟨hd,hi⟩:=O;obtain ⟨R,L,Y,Z⟩:=p6 I hd ho;have C:=Y.length;obtain ⟨⟨k,x⟩,hx⟩:∃q,L[i]?=some q:=⟨L[i],ai (by lia)⟩;obtain ⟨⟨k2,v2⟩,g1,J,g3⟩:=Paired.getL Y hx;have J:=J;subst J;obtain ⟨Q,f1,f2,M,S,U⟩:=B it (by simp);rw[C] at st;refine wpAny_pyNext_dict_item st Z hx λkey h' r p sb=>?_;have I1:=I.turned (t':=s.toks) (λb o j e=>(sb.2 b j).trans e) Q f1 M S U;obtain ⟨o2,e,c,dd⟩:=id p;exact ⟨key,rfl,zj e c dd (by decide) ⟨kV k2,H,I1,Hl r,⟨rfl,k2,v2,g1,rfl⟩,by rw[C];exact p,λb j=>(B b j).1⟩⟩
 done:=by
  intro X hP hw D hc i l s σ H E I B st O;subst hP hw D;obtain ⟨hd,hi⟩:=O;obtain ⟨R,L,Y,Z⟩:=p6 I hd ho;have C:=Y.length;obtain ⟨Q,f1,f2,M,S,U⟩:=B it (by simp);rw[C] at st;exact wpAny_pyNext_dict_end (I.ok.hd hc) st Z (by simp;lia) λh' eb=>⟨rfl,I.turned (λb o j e=>eb b o j e) Q f1 M S U⟩
 self:=λ_ _ _ _ _ st h=>wpAny_pyIter_keyiter st h
def ad8(te:TE):TI:=λσ H R=>te σ H λx H1=>∃d o u,x= .ref d/\H1 d=some (.frz o (.dK u))/\R (Itk d o u) H1
theorem aad{l:Expr}{E:TE}(q:PE X l E):PI X tg l (ad8 E):=by
 intro Z s σ H R I h;refine thn (q Z s σ H _ I h) λv j Y=>?_;obtain ⟨x,P,i,S,d,o,u,ex,hd,hR⟩:=Y;subst ex;obtain rfl:v=fN d:=S;obtain ⟨D,z,r,L,p,o',U,J,B,O,C,M⟩:=i.xw d _ hd;rw[D] at B;cases B;have q:=p.length;refine wpAny_pyIter_dict r ⟨o,U,D,O,C,M⟩ ?_;have kp:∀b ob,j.heap.get? b=some ob->(j.heap.push { cls:=.type "dict_keyiterator",data:=.fields #[.ref d,.int 0 0,.int L.length 0,.int J 0] }).get? b=some ob:=λb ob e=>aE _ e;refine ⟨j.heap.objs.size,[j.heap.objs.size],_,Itk d o u,P,rfl,i.un (Un.kept kp) (i.xw.kept kp),Ug C,⟨_,cn _ rfl,rfl,by rw[q];rfl⟩,λb Q=>?_,hR⟩;rw[ay.mp Q];exact i.rG (ax _) (i.xw.fresh (ax _))
noncomputable def sw(d:Addr)(y:HO)(F:Hp):Hp:=λb=>if b=d then (F b).map λ_=>y else F b
variable {F:Hp}
theorem jW{b:Addr}{y:HO}(h:b≠a):sw a y F b=F b:=if_neg h
variable {z:HO}
theorem ug{y:HO}(h:F a=some z):sw a y F a=some y:=by rw[sw,if_pos rfl,h];rfl
theorem gj:sw a z F c=none↔F c=none:=by
 unfold sw;split
 . exact pd
 . exact Iff.rfl
theorem SJ{d:Addr}{y:HO}(h:F d=some z):sw d y F=xk F d y:=by
 funext b;unfold sw xk;split
 . rename_i e;subst e;rw[h];rfl
 . rfl
theorem Dz{d:Addr}{y:HO}(s:aF A H):aF (sw d y A) (sw d y H):=λb o e=>by
 by_cases Y:b=d
 . subst Y
   cases q:A b with
   | none=>rw[gj.mpr q] at e;cases e
   | some z=>rw[ug q] at e;cases e;exact ug (s _ _ q)
 . rw[jW Y] at e ⊢;exact s _ _ e
def IsU(u:A8)(z:HO):Prop:=z= .dK u\/∃o,z= .frz o (.dK u)
theorem IsU.rd{Y:A8}(h:A a=some z)(i:IsU u z)(r:Rd A a (.dK Y)):Y=u:=by
 rcases i with rfl | ⟨o,rfl⟩ <;> rcases r with r | ⟨Z,r⟩ <;> rw[h] at r <;> cases r <;> rfl
theorem IsU.of(h:A a=some z)(i:IsU u z):Rd A a (.dK u):=by
 rcases i with rfl | ⟨o,rfl⟩
 . exact .inl h
 . exact .inr ⟨o,h⟩
variable {B:Hp}{xs:List (B3×Addr×a0)}{Γ:Ev}
section
variable  {d:Addr}  {y:HO}
def AtU(F:Hp)(d:Addr)(u:A8):Prop:=∀z,F d=some z->IsU u z
theorem S9{xs:C0}(h:AtU F d u)(r:SqL K F a xs):SqL K (sw d y F) a xs:=by
 rcases r with (e | ⟨o,e⟩) | k
 . exact .inl (.inl (by rw[jW (λq=>by subst q;rcases h _ e with z | ⟨_,z⟩ <;> cases z)];exact e))
 . exact .inl (.inr ⟨o,by rw[jW (λq=>by subst q;rcases h _ e with z | ⟨_,z⟩ <;> cases z)];exact e⟩)
 . exact .inr k
theorem Jl{xs:C0}(h:AtU F d u)(r:SqT K F a xs):SqT K (sw d y F) a xs:=by
 rcases r with (e | ⟨o,e⟩) | k
 . exact .inl (.inl (by rw[jW (λq=>by subst q;rcases h _ e with z | ⟨_,z⟩ <;> cases z)];exact e))
 . exact .inl (.inr ⟨o,by rw[jW (λq=>by subst q;rcases h _ e with z | ⟨_,z⟩ <;> cases z)];exact e⟩)
 . exact .inr k
theorem S5{w:A8}(h:AtU F d u)(Y:IsU u y)(r:Rd F a (.dK w)):Rd (sw d y F) a (.dK w):=by
 by_cases q:a=d
 . subst q;obtain ⟨z,e⟩:∃z,F a=some z:=by rcases r with e | ⟨o,e⟩ <;> exact ⟨_,e⟩
   rw[IsU.rd e (h _ e) r];exact Y.of (ug e)
 . rcases r with e | ⟨o,e⟩
   . exact .inl (by rw[jW q];exact e)
   . exact .inr ⟨o,by rw[jW q];exact e⟩
mutual
theorem zq(h:AtU A d u)(hy:IsU u y):∀(x:ab) {v:V},Rp K A x v->Rp K (sw d y A) x v
 | .none,v,r=>by rw[Rp] at r ⊢;exact r
 | .bool _,v,r=>by rw[Rp] at r ⊢;exact r
 | .int _,v,r=>by rw[Rp] at r ⊢;exact r
 | .str _,v,r=>by rw[Rp] at r ⊢;exact r
 | .list ds,v,r=>by
  rw[Rp] at r ⊢;obtain ⟨a,vs,h1,h2,h3⟩:=r;exact ⟨a,vs,h1,S9 h h2,rT h hy ds h3⟩
 | .tuple ds,v,r=>by
  rw[Rp] at r ⊢;obtain ⟨a,vs,h1,h2,h3⟩:=r;exact ⟨a,vs,h1,Jl h h2,rT h hy ds h3⟩
 | .dict x3,v,r=>by
  rw[Rp] at r ⊢;obtain ⟨a,w,h1,h2,h3⟩:=r;exact ⟨a,w,h1,S5 h hy h2,zz h hy x3 h3⟩
theorem rT(h:AtU A d u)(hy:IsU u y):∀(ds:B4) {vs:C0},az K A ds vs->az K (sw d y A) ds vs
 | [],vs,r=>by rw[az] at r ⊢;exact r
 | x::ds,vs,r=>by
  rw[az] at r ⊢;obtain ⟨v,t,h1,h2,h3⟩:=r;exact ⟨v,t,h1,zq h hy x h2,rT h hy ds h3⟩
theorem zz(h:AtU A d u)(hy:IsU u y):∀(x3:B0) {w:A8},bj K A x3 w->bj K (sw d y A) x3 w
 | [],w,r=>by rw[bj] at r ⊢;exact r
 | (k,x)::t,w,r=>by
  rw[bj] at r ⊢;obtain ⟨key,v,w',h1,h2,h3,h4⟩:=r;exact ⟨key,v,w',h1,h2,zq h hy x h3,zz h hy t h4⟩
end
theorem ad0{x:ab}(o:AtU A d u)(q:AtU B d u)(Z:IsU u y)(p:Pk K A B x v):Pk K (sw d y A) (sw d y B) x v:=by
 rcases p with p | ⟨p,s,r,e,l,j,i⟩ | ⟨p,w,Y,e,l,j,i⟩
 . exact .inl (zq o Z x p)
 . exact .inr (.inl ⟨p,s,r,e,l,S9 q j,rT o Z r i⟩)
 . exact .inr (.inr ⟨p,w,Y,e,l,S5 q Z j,zz o Z Y i⟩)
theorem Ni{x:ab}{o:HO}(l:AtU A d u)(i:IsU u y)(h:iU K A x o):iU K (sw d y A) x o:=by
 rcases h with ⟨j,p,Z,e,h⟩ | ⟨Y,w,Z,e,h⟩
 . exact .inl ⟨j,p,Z,e,rT l i j h⟩
 . exact .inr ⟨Y,w,Z,e,zz l i Y h⟩
theorem acj{xs:List (dh×Addr×a0)}(Y:AtU A d u)(j:IsU u y)(h:RpN K A x3 xs):RpN K (sw d y A) x3 xs:=by
 obtain ⟨Z,i,e⟩:=h;exact ⟨Z,i.keeps λb l q=>Jl Y q,Paired.sE e λ_ _ z=>⟨z.1,zq Y j _ z.2⟩⟩
theorem abu(Y:AtU A d u)(Z:IsU u y)(h:RpT K A x3 xs):RpT K (sw d y A) x3 xs:=
 Paired.sE h λ_ _ z=>⟨z.1,Jl Y z.2.1,z.2.2.imp λv q=>⟨q.1,zq Y Z _ q.2⟩⟩
theorem AtU.sub(s:aF A H)(h:AtU H d u):AtU A d u:=λz e=>h z (s _ _ e)
theorem aY.sw(r:aY K A B H O σ Γ)(L:AtU H d u)(hd:A d≠none\/B d≠none)(I:IsU u y):aY K (sw d y A) (sw d y B) (sw d y H) O σ Γ:=by
 have l:=L.sub r.a;have R:=L.sub r.b;have nd:∀{p:Addr},A p=none->B p=none->p≠d:=λa b z=>by
  subst z;rcases hd with q | q
  . exact q a
  . exact q b
 refine ⟨Dz r.a,Dz r.b,r.len,λi x e=>?_,r.sep⟩;obtain ⟨v,ev,q⟩:=r.slot i x e;refine ⟨v,ev,?_⟩
 cases D:fl O i with
 | xo=>rw[D] at q;exact zq l I x q
 | xl=>rw[D] at q;exact ad0 l R I q
 | own=>
  rw[D] at q;obtain ⟨p,o,rfl,j,Z,Y,s⟩:=q;exact ⟨p,o,rfl,by rw[jW (nd Z Y)];exact j,gj.mpr Z,gj.mpr Y,Ni l I s⟩
 | fix U=>
  rw[D] at q;obtain ⟨S,p,o,rfl,j,Z,Y,s⟩:=q;exact ⟨S,p,o,rfl,by rw[jW (nd Z Y)];exact j,gj.mpr Z,gj.mpr Y,Ni l I s⟩
 | kit=>
  rw[D] at q;obtain ⟨p,J,E,j,Z,Y,s⟩:=q;exact ⟨p,J,E,j,Z,by rw[jW (λz=>by subst z;rcases l _ Y with z | ⟨_,z⟩ <;> cases z)];exact Y,abu l I s⟩
 | exc C=>
  rw[D] at q;obtain ⟨p,Q,j,Z,Y⟩:=q;exact ⟨p,Q,j,by rw[jW (λz=>by subst z;rcases l _ Z with z | ⟨_,z⟩ <;> cases z)];exact Z,Y⟩
 | nst b=>
  rw[D] at q;intro z;obtain ⟨p,J,E,j,Z,Y,s,M,P⟩:=q z;exact ⟨p,J,E,j,Z,by rw[jW (nd s M)];exact Y,gj.mpr s,gj.mpr M,acj l I P⟩
theorem My{y:HO}(h:∀x,F d=some x->x=z):sw d z (sw d y F)=F:=by
 funext b
 by_cases q:b=d
 . subst q
   cases e:F b with
   | none=>exact gj.mpr (gj.mpr e)
   | some x=>rw[ug (ug e),h x e]
 . rw[jW q,jW q]
theorem ady{y:HO}(h:New (sw d y A) H (sw d y B)):New A (sw d z H) B:=λp Y Z=>gj.mpr (h p (gj.mpr Y) (λe=>Z (gj.mp e)))
theorem Wi{y:HO}(h:aF (sw d y A) H)(Y:∀x,A d=some x->x=z):aF A (sw d z H):=by
 have:=Dz (d:=d) (y:=z) h;rwa [My Y] at this
end
def Xo(σ:St)(H:Hp)(i:Nat):Prop:=∃d o u,sv σ i=some (.ref d)/\H d=some (.frz o (.dK u))
noncomputable def itK(i:Nat):MI:=λΓ=>match gv Γ i with
 | some (.dict x3)=>.ok (x3.map (·.1))
 | _=>.bad
def abE(K:av)(O:B9)(i:Nat)(it:MI):TI:=λσ H R=>Xo σ H i/\tIc K O it σ H R
def tSz(K:av)(rm:Rm)(Ol O O':B9)(i:Nat)(m:MS):TS:=λD σ H=>Xo σ H i/\tS K rm Ol O O' m D σ H
noncomputable def isR:Fl->Bool
 | .xo=>true
 | .xl=>true
 | _=>false
theorem yH(r:aY K A B H O σ Γ)(E:isR (fl O i)=true)(J:gv Γ i=some (.dict x3)) :
 ∃d u z,sv σ i=some (.ref d)/\H d=some z/\IsU u z/\(A d≠none\/B d≠none)/\bj K A x3 u:=by
 obtain ⟨v,ev,q⟩:=r.slot i _ J;have go:∀{F:Hp}{d:Addr}{u:A8},aF F H->Rd F d (.dK u)->F d≠none/\∃z,H d=some z/\IsU u z:=λs rd=>by
  rcases rd with e | ⟨o,e⟩
  . exact ⟨by rw[e];simp,_,s _ _ e,.inl rfl⟩
  . exact ⟨by rw[e];simp,_,s _ _ e,.inr ⟨o,rfl⟩⟩
 have p:Pk K A B (.dict x3) v:=by
  cases l:fl O i with
  | xo=>rw[l] at q;exact .inl q
  | xl=>rwa [l] at q
  | _=>rw[l] at E;cases E
 rcases p with p | ⟨p,L,M,D,C,Z,Y⟩ | ⟨p,w,I,D,C,Z,Y⟩
 . obtain ⟨d,u,rfl,Z,Y⟩:=Rp.dict.mp p;obtain ⟨n,z,e,j⟩:=go r.a Z;exact ⟨d,u,z,ev,e,j,.inl n,Y⟩
 . cases C
 . cases C;subst D;obtain ⟨n,z,e,j⟩:=go r.b Z;exact ⟨p,w,z,ev,e,j,.inr n,Y⟩
theorem Ud{xs:B4}(h:itK i Γ = .ok xs):∃x3,gv Γ i=some (.dict x3)/\xs=x3.map (·.1):=by
 unfold itK at h
 cases e:gv Γ i with
 | none=>rw[e] at h;cases h
 | some d=>
  rw[e] at h
  cases d with
  | dict x3=>cases h;exact ⟨x3,rfl,rfl⟩
  | _=>cases h
theorem JD{k:ab}{key:Key}(h:bM k=some key):Rp K A k (kV key):=by
 cases k with
 | int i=>cases h;exact Rp.int.mpr rfl
 | str x=>cases h;exact Rp.str.mpr rfl
 | _=>cases h
section
variable  {Ob O1:B9}  {is:B5}{it:MI}{g:MG}{mc me:ME}{elt iter:Expr}{ifs:C1}  {nt:Nat}
theorem Z8(i:Nat)(hi:isR (fl O i)=true:=by rfl)(j:Nm X i x:=by walk_at "nm"):QI X tg (.Name x pos) (abE X.K O i (itK i)):=
 QI.imp (aad (dJ j.1 j.2 j.3 j.4)) λσ H R Z=>by
  obtain ⟨⟨d,o,u,l,e⟩,A,B,Γ,xs,r,em,k⟩:=Z;obtain ⟨x3,hg,rfl⟩:=Ud em;obtain ⟨d',C,z,E,D,U,f4,s⟩:=yH r hi hg;rw[l] at E;cases E;rw[e] at D;cases D;have Q:C=u:=by
   rcases U with z | ⟨o',z⟩ <;> cases z;rfl
  subst Q;have hl:=s.len;refine ⟨.ref d,dH l,d,o,C,rfl,e,k _ A H (aW.refl r.a) ⟨λn p S Y q=>⟨Y _ _ e,by rw[af] at q;lia⟩,λp S Y=>⟨Y _ _ e,by rw[af];lia⟩,λn P p v H3 sa Y s3 q hy=>?_⟩⟩;obtain ⟨rfl,key,w,M,rfl⟩:=hy;obtain ⟨J,d1,I,L,g3⟩:=wA s M;exact ⟨P,J,by rw[a8,I];rfl,aW.refl Y,JD L⟩
theorem Yv{st:Stmt}{m:MS}(i:Nat)(hi:isR (fl O i)=true)(hm:∀Γ o,m Γ = .ok o->(∃x3,gv Γ i=some (.dict x3))/\∃l,o= .nx l)(h:QS X st (tSz X.K rm Ol O O' i m)):QS X st (tS X.K rm Ol O O' m):=by
 refine ⟨λZ s U H D I ⟨A,B,Γ,x,r,em,k⟩=>?_⟩;obtain ⟨⟨x3,hg⟩,l,rfl⟩:=hm Γ x em;obtain ⟨d,u,z,f1,j,f3,P,f5⟩:=yH r hi hg;rcases f3 with rfl | ⟨o,rfl⟩
 . obtain ⟨o,R⟩:=I.afP j;have hH:AtU H d u:=λz e=>by rw[j] at e;cases e;exact .inl rfl
   have r1:=r.sw hH P (.inr ⟨o,rfl⟩);rw[<- SJ j] at R;have eA:∀z,A d=some z->z= .dK u:=λz e=>by have:=r.a _ _ e;rw[j] at this;cases this;rfl
   have eB:∀z,B d=some z->z= .dK u:=λz e=>by have:=r.b _ _ e;rw[j] at this;cases this;rfl
   have M:sw d (.frz o (.dK u)) A d≠none\/sw d (.frz o (.dK u)) B d≠none:=by
    rcases P with q | q
    . exact .inl λz=>q (gj.mp z)
    . exact .inr λz=>q (gj.mp z)
   refine thn (h.h Z s U _ ⟨λY E=>∃p,aY X.K p (sw d (.frz o (.dK u)) B) E O' Y l/\aF (sw d (.frz o (.dK u)) A) p/\New (sw d (.frz o (.dK u)) A) p (sw d (.frz o (.dK u)) B),λ_ _=>False,λ_ _=>False,λ_ _=>False⟩ R ⟨⟨d,o,u,f1,ug j⟩,_,_,Γ,_,r1,em,λY p E C J nw=>⟨p,C,J,nw⟩⟩) λfl s1 q=>?_
   cases fl with
   | next=>
    obtain ⟨Y,E,I2,p,C,J,nw⟩:=q;have L:E d=some (.frz o (.dK u)):=by
     rcases P with q | q
     . cases e:A d with
       | none=>exact absurd e q
       | some z=>exact C.a _ _ (J _ _ (ug e))
     . cases e:B d with
       | none=>exact absurd e q
       | some z=>exact C.b _ _ (ug e)
    have hU:AtU E d u:=λz e=>by rw[L] at e;cases e;exact .inr ⟨o,rfl⟩
    have S:=I2.adA L λo' u' q=>by have:=I.base.mz _ _ _ q;rw[j] at this;cases this
    rw[<- SJ L] at S;have Q:=C.sw hU (by
     rcases M with q | q
     . left;intro z
       cases e:sw d (.frz o (.dK u)) A d with
       | none=>exact q e
       | some x=>rw[J _ _ e] at z;cases z
     . exact .inr q) (.inl rfl)
    rw[My eB] at Q;exact ⟨Y,_,S,k Y _ _ Q (Wi J eA) (ady nw)⟩
   | ret v=>
    obtain ⟨_,_,_,_,_,z⟩:=q;exact ki z
   | brk=>obtain ⟨_,_,_,z⟩:=q;exact ki z
   | cont=>obtain ⟨_,_,_,z⟩:=q;exact ki z
 . exact h.h Z s U H D I ⟨⟨d,o,u,f1,j⟩,A,B,Γ,_,r,em,k⟩
theorem Wl(q i:Nat){O2:B9}(l:B6)(ix:B5)(s:isR (fl O q)=true)(P:X.N.Nodup)(r:X.N[i]?=some y)(hy:Loc X.env.scope y)(S:iC X scope ix=true)(hc:X.calm=true)(E:Ob=mX l.length ix O)(v:nt=l.length)(u:∀j∈is,j<l.length)(hi:QI X tg iter (abE X.K O q (itK q)))
 (hg:∀cl C Y Z fp,QG (X.comp scope l ix cl C Y Z fp) tg (tG X.K Ob O1 is g)) (U:∀cl C Y Z fp,xq (X.comp scope l ix cl C Y Z fp) ifs (tT X.K O1 mc)) (R:∀cl C Y Z fp,QE (X.comp scope l ix cl C Y Z fp) elt (tE X.K O1 me))
 (hl:i<O.length:=by exact of_decide_eq_true rfl) (B:fR (.ListComp elt [⟨tg,iter,ifs,0⟩] scope pos) (some (.Name y p)) p1.line X.env=pure true:=by rfl)
 (L:X.fn y=true\/X.env.scope.names.lookup y=some .local:=by walk_at "hf")
 (hs:∀x,hV iter X.env x=pure x:=by intro _;rfl) (hO:O.set i .own=O2:=by rfl):QS X (.Assign [.Name y p] (.ListComp elt [⟨tg,iter,ifs,0⟩] scope pos) p1) (tS X.K rm Ol O O2 (aZ i (cA (itK q) g mc me nt ix))):=
 Yv q s (λΓ o h=>by
  obtain ⟨x,J,h⟩:=x8.au h;obtain ⟨xs,Q,_⟩:=x8.au J;obtain ⟨I,e,_⟩:=Ud Q;obtain ⟨_,h⟩:=b8 h;cases h;exact ⟨⟨I,e⟩,_,rfl⟩) (hO ▸ QS.imp (Nb P r hy S hc hi.h (λcl C Y Z fp=>(hg cl C Y Z fp).h) (λcl C Y Z fp=>(U cl C Y Z fp).h) (λcl C Y Z fp=>(R cl C Y Z fp).h) B L hs) λD σ H h=>⟨h.1,xx (λM H' Q' z=>Ac E v u z) hl h.2⟩)
end
section
variable     {base:Heap}
theorem aas{st:Stmt}{fs:B9}{m:MS}(F:At K mg "ways" st ps)(hT:TabAt K mg T)(S:cM N ps (aM st))(B:fs.length=ps.length)(hn:ps.length<=N.length)
 (hO:∀i,i<fs.length->(fl O i= .xo/\fl fs i= .xo)\/fl O i= .xl)
 (hbody:∀(f cd:Addr) (A:g9) (xD:C6) (s:cq) (H:Hp) (E:XK),gL K cd T=true->dB ep (A.deeper (mB "ways" (aM st) s.heap.objs.size f (.ref cd))) ->
  QSs (mq CX0 P w K mg base N "ways" (aM st) f (.ref cd) A xD s H E).nox (bU st) (tS K rm Ol O O' m)):Def P w K mg base (ep+1) "ways" ps (spF K fs rm (fnR N.length m)):=by
 obtain ⟨f,fd,F,b,j⟩:=F.ex;refine ⟨f,fd,?_,b,F.kp,j⟩;obtain ⟨oc,od,kV,L,pm,an,D,ct,r,rfl,lk,Z⟩:=F.ex;obtain ⟨f',o,fd',c,l,p,e,Y,U⟩:=hT;rw[j] at l;cases l;rw[lk] at p;cases p;have e:=e;cases e;have Y:=Y;subst Y;refine X6 lk Z S (λI H Q E h=>?_) λA xD s H I Q E M h=>?_
 . obtain ⟨A,ds,d,_,h,_⟩:=h;rw[h.length.1,B]
 . obtain ⟨A',ds,d,R,h,em,q⟩:=h;obtain ⟨o,u,em⟩:=x8.au em
   cases o with
   | rt d'=>
    cases em;exact ⟨_,(hbody f c A xD s H E U M).h.nox,A',H,_,_,ph R h hO (by lia),u,λv J z s1 C sa nw rv=>q v J z ⟨sa,C,s1,nw⟩ rv⟩
   | _=>cases em
theorem Xa{f:Addr}(Y:mg "ways"= some (.ref f))(h:pO K f T=true):TabAt K mg T:=by
 unfold pO at h;rw[c9] at h;have h:=h.1;split at h
 . rename_i i l fd j e;split at h
   . rename_i c Z;exact ⟨f,_,fd,c,Y,e,rfl,Z,h⟩
   . cases h
 . cases h
end
noncomputable def PJ:B4->x8 ab
 | [.dict x3]=>gd (x3.length<=ba) (.ok (.list (x3.map (·.1))))
 | _=>.bad
theorem M3:∀{x3:B0}{u:A8},bj K A x3 u->az K A (x3.map (·.1)) (u.map λq=>kV q.1)
 | [],u,h=>by rw[bj.nil.mp h];exact az.nil.mpr rfl
 | (k,d)::r,u,h=>by
  obtain ⟨key,v,i,rfl,Y,e,Z⟩:=bj.cons.mp h;exact az.cons.mpr ⟨_,_,rfl,JD Y,M3 Z⟩
theorem Fo{P:fq}{w:i8}:∀{u:A8}{vs:List (Key×a0)}{x4:B8},KV u vs->x4.length=vs.length->(∀(j:Nat) (v:a0),x4[j]?=some v->∃(k:Key) (x:a0),vs[j]?=some (k,x)/\(bZ P w).is k v=true)->xi (u.map λq=>kV q.1) x4
 | [],_,[],_,_,_=>.nil
 | [],_,a::x4,.nil,Y,_=>by simp at Y
 | q::u,_,[],.cons r t,Y,_=>by simp at Y
 | q::u,vs,a::x4,h,Y,i=>by
  cases h with
  | @cons _ C _ s r t=>
   obtain ⟨k,x,Z,B⟩:=i 0 a rfl;have Z:=Option.some.inj Z;subst Z;refine .cons ?_ (Fo (P:=P) (w:=w) t (by simpa using Y) λj v e=>?_)
   . show xh (kV q.1) a;rw[r.1];exact Hl B
   . obtain ⟨l,o,p,z⟩:=i (j+1) v (by simpa using e);exact ⟨l,o,by simpa using p,z⟩
theorem QH(R:X.calm=true):fJ X (.type "list") (λxs H Q=>∃p u,xs=[.ref p]/\Rd H p (.dK u)/\∀l,H l=none->Q (.ref l) (xk H l (.lst (u.map λq=>kV q.1)))):=by
 rintro B s σ H xs U Q I r ⟨p,u,rfl,L,q⟩;obtain ⟨z,rfl,M⟩:=vals1 r;cases M;obtain ⟨hz,Z,vs,C,J⟩:=qG I.xw L;obtain ⟨S,i⟩:=J.dictAt;have hl:=C.length;refine PySem.W.kdl_call (PySem.W.kdl_dict Z) (I.ok.hd R) i (by lia) λh' tk o c D P Y=>?_;have E:=I.xw.fresh (ax s.heap.objs.size);have O:=Fo C (by rw[ly];exact Y.1) λj v e=>Y.2 j v (by rw[<- Array.getElem?_toList];exact e);refine ⟨.ref s.heap.objs.size,_,I.un (Un.laid D (ax _) E) (I.xw.laid D (ax _) ?_),rfl,q _ E⟩;exact ⟨by rw[af];lia,o.toList,c,O,by rw[Array.toArray_toList];exact P⟩
theorem Vn(E:X.calm=true):fJ X (.type "list") (rCF X.K PJ):=by
 rintro Y s C H L o Q I r ⟨A,B,d,e,i,p,k⟩
 match B,e with
 | [.dict x3],e=>
  obtain ⟨M,e⟩:=b8 e;cases e;obtain ⟨v,J,rfl,j,p2⟩:=p.cons;obtain rfl:=p2.nil;obtain ⟨l,u,rfl,z,D⟩:=j.dict i;exact QH E Y s C H _ o Q I r ⟨l,u,rfl,z,λq Z=>k _ A _ (aW.lay i Z) ⟨q,_,rfl,Z,aX,i.free Z,.inl ⟨_,_,rfl,rfl,M3 D⟩⟩⟩
def NX(m:MS):Prop:=∀Γ o,m Γ = .ok o->∃Γ',o= .nx Γ'
theorem ab1:NX cu:=λY o h=>by cases h;exact ⟨_,rfl⟩
theorem acz{a b:MS}(e:NX a)(j:NX b):NX (aJ a b):=λi o h=>by
 obtain ⟨l,Z,h⟩:=x8.au h;obtain ⟨Y,rfl⟩:=e i l Z;exact j Y o h
theorem ad7{c:ME}{a b:MS}(Z:NX a)(e:NX b):NX (sIf c a b):=λY o h=>by
 obtain ⟨x,i,h⟩:=x8.au h
 cases x with
 | bool t=>cases t with
  | true=>exact Z Y o h
  | false=>exact e Y o h
 | _=>cases h
theorem abk{m:ME}:NX (my i m):=λY o h=>by
 obtain ⟨d,_,h⟩:=x8.au h;split at h
 . obtain ⟨_,h⟩:=b8 h;cases h;exact ⟨_,rfl⟩
 . cases h
theorem abj{m Y:ME}:NX (iW i m Y):=λe o h=>by
 obtain ⟨d,_,h⟩:=x8.au h;obtain ⟨Z,_,h⟩:=x8.au h;split at h
 . split at h
   . obtain ⟨_,h⟩:=b8 h;cases h;exact ⟨_,rfl⟩
   . cases h
 . cases h
theorem NT{g:MG}{cl:B5}{b:MS}(e:NX b):∀{xs:B4}{Γ:Ev}{o:Out},forR g cl b xs Γ = .ok o->∃Y,o= .nx Y
 | [],Γ,o,h=>by cases h;exact ⟨_,rfl⟩
 | x::xs,Γ,o,h=>by
  rw[forR] at h;obtain ⟨Z,_,h⟩:=x8.au h;obtain ⟨j,i,h⟩:=x8.au h;obtain ⟨Y,rfl⟩:=e Z j i;exact NT e h
def tIK(K:av)(O:B9)(i:Nat)(it:MI):TI:=λσ H R=>Xo σ H i/\tI K O it σ H R
noncomputable def Itd(d:Addr)(o:Obj)(u:A8):It:=
 ⟨λi H=>H d=some (.frz o (.dK u))/\i<u.length,λi H x H'=>∃p k v,H p=none/\x= .ref p/\H'=xk H p (.tup [kV k,v])/\u[i]?=some (k,v),λi H=>H d=some (.frz o (.dK u))/\u.length<=i⟩
theorem aaa:entryFor table "dict_itemiterator.__iter__"= some Builtin.«dict_keyiterator.__iter__» := entryFor_alias (id':= "dict_keyiterator.__iter__") (by kernel_rfl) rfl (by decide +kernel) (by kernel_rfl)
theorem Pa{A:g9}{ok Z:a0}(Y:IsItemIter s.heap it a i j ep ok Z)(h:Q (.ref it) s):de (dt P w) A (pyIter (.ref it)) Q E s:=by
 have hT:s.TypeIs (.ref it) "dict_itemiterator" := ⟨_,Y,rfl⟩;refine wpAny_pyIter_slot hT nE (fi nE hT aaa ?_ (PySem.F.args_dict_itemiterator_iter_1 _));exact a9 ⟨_,rfl, "dict_itemiterator",_,hT,PySem.F.slot_dict_itemiterator_next.lookup,h⟩
variable {elts:C1}
theorem QJ{x1}(ho:o.data= .dict es ep) :
 Turn P w K (.Tuple elts x1 tpos) (Itd a o u) [it] it (λi h=>∃ok Z,IsItemIter h it a i u.length ep ok Z) where
 mem:=by simp
 obj:=λi h st b B=>by
  have e:b=it:=by simpa using B
  subst e;obtain ⟨ok,Z,e⟩:=st;exact ⟨_,e,λv z=>by cases z⟩
 keep:=λi h h' st k=>by
  obtain ⟨ok,Z,e⟩:=st;exact ⟨ok,Z,k it (by simp) _ e⟩
 item:=by
  intro X hP hw O J i p s σ H E I L st hg;subst hP hw O;obtain ⟨ok,Z,st⟩:=st;obtain ⟨hd,hi⟩:=hg;obtain ⟨hsm,S,Y,j⟩:=p6 I hd ho;have M:=Y.length;obtain ⟨⟨k,x⟩,hx⟩:∃q,S[i]?=some q:=⟨S[i],ai (by lia)⟩;obtain ⟨⟨k2,v2⟩,g1,R,g3⟩:=Paired.getL Y hx;have R:k2=k:=R;subst R;have fz:=L it (by simp);rw[M] at st;refine wpAny_pyNext_items_item st j hx λkey h' D st' hN hsz hk=>?_;refine ⟨_,rfl,?_⟩;refine wpAny_letOwnedTupleGo_items (s:={ s with heap:=h' }) st' λh2 U C=>?_;have r:H s.heap.objs.size=none:=I.xw.fresh (ax _);have l:s.heap.objs.size≠it:=ow (cm st);have Q:h2.get? s.heap.objs.size=some { cls:=.type "tuple",data:=.seq #[key,x] }:=C.extBut _ _ l hN;have k3:∀c ob,s.heap.get? c=some ob->c∉[it]->h2.get? c=some ob:=λc ob q J=>C.extBut c ob (λe=>J (by simp[e])) (hk c ob (λe=>J (by simp[e])) q);have I2:=I.za (tk:=s.toks) L k3 Q rfl rfl (Hl D) g3;refine ⟨.ref s.heap.objs.size,_,I2,rfl,⟨_,k2,v2,r,rfl,rfl,g1⟩,⟨key,x,by rw[M];exact U⟩,λb B=>?_⟩;have hb':b=it:=by simpa using B
  subst hb';rw[aG (lx l)];exact fz.1
 done:=by
  intro X hP hw O J i p s σ H E I L st hg;subst hP hw O;obtain ⟨ok,Z,st⟩:=st;obtain ⟨hd,hi⟩:=hg;obtain ⟨hsm,S,Y,j⟩:=p6 I hd ho;have M:=Y.length;obtain ⟨f0,f1,f2,f3,f4,f5⟩:=L it (by simp);rw[M] at st;exact wpAny_pyNext_items_end (I.ok.hd J) st j (by simp;lia) λh' eb=>⟨rfl,I.turned (t':=s.toks) (λb o B e=>eb b o B e) f0 f1 f3 f4 f5⟩
 self:=λ_ _ _ _ _ st h=>by
  obtain ⟨ok,Z,st⟩:=st;exact Pa st h
def adS(te:TE):TI:=λσ H R=>te σ H λx H1=>∃d o u,x= .ref d/\H1 d=some (.frz o (.dK u))/\R (Itd d o u) H1
theorem Vp{Q:TE}{x1}(hl:PE X tg Q)(Z:ll tg "items" X.env (eval tg X.env)=eval tg X.env:=by rfl)(Y:(apos.endLine == cpos.line)=true:=by rfl):PI X (.Tuple elts x1 tpos) (.Call (.Attribute tg "items" apos) [] [] cpos) (adS Q):=by
 intro r s σ H R I h;refine wpAny_Call_method0_late Z Y (thn (hl r s σ H _ I h) λv i q=>?_);obtain ⟨x,H1,j,r1,d,o,u,ex,hd,hR⟩:=q;subst ex;obtain rfl:v=fN d:=r1;obtain ⟨M,t2,_⟩:=Ti j (.inl ⟨u,.inr ⟨o,hd⟩⟩);obtain ⟨E,z,J,vs,B,o',S,ep,L,P,C,O⟩:=j.xw d _ hd;rw[E] at L;cases L;have l:=B.length;have U:i.heap.DictOf (bZ X.prog X.w) d vs:=⟨o,S,ep,E,P,C,O⟩;refine ⟨"dict", "dict.items",tq,tN,PySem.F.type_dict_items,M,t2,oy rfl (PySem.evalArgs_none (call_meetsIn tN M PySem.F.entry_dict_items (PySem.F.args_dict_items_1 _) (meets_dict_items (bZ X.prog X.w) d J) ⟨⟨vs,U⟩,?_⟩))⟩;have D:(i.heap.push { cls:=.type "dict_items",data:=.fields #[.ref d] }).DictAt (bZ X.prog X.w) d vs ep:=⟨o,S,aE _ E,P,C,O⟩;refine wpAny_pyIter_items ⟨_,cn _ rfl,rfl,rfl⟩ D ?_;have kp:∀b ob,i.heap.get? b=some ob->((i.heap.push { cls:=.type "dict_items",data:=.fields #[.ref d] }).push { cls:=.type "dict_itemiterator",data:=.fields #[.none,.bool false,.ref d,.int 0 0,.int vs.length 0,.int ep 0,.none,.none] }).get? b=some ob:=λb ob e=>aE _ (aE _ e);have p:i.heap.objs.size<=(i.heap.push { cls:=.type "dict_items",data:=.fields #[.ref d] }).objs.size:=by rw[gy];lia
 refine ⟨_,[(i.heap.push { cls:=.type "dict_items",data:=.fields #[.ref d] }).objs.size],_,Itd d o u,H1,rfl,j.un (Un.kept kp) (j.xw.kept kp),QJ C,⟨.none,.none,by rw[l];exact cn _ rfl⟩,λb hb=>?_,hR⟩;rw[ay.mp hb];exact j.rG p (j.xw.fresh p)
noncomputable def itI(i:Nat):MI:=λΓ=>match gv Γ i with
 | some (.dict x3)=>.ok (x3.map λq=>ab.tuple [q.1,q.2])
 | _=>.bad
theorem Tu{xs:B4}(h:itI i Γ = .ok xs):∃x3,gv Γ i=some (.dict x3)/\xs=x3.map λq=>ab.tuple [q.1,q.2]:=by
 unfold itI at h
 cases e:gv Γ i with
 | none=>rw[e] at h;cases h
 | some d=>
  rw[e] at h
  cases d with
  | dict x3=>cases h;exact ⟨x3,rfl,rfl⟩
  | _=>cases h
section
variable    {is:B5}{g:MG}{cl:B5}{mb:MS}{iter:Expr}{body:C5}
theorem Wo(i:Nat){x1}(hi:isR (fl O i)=true:=by rfl)(E:Nm X i x:=by walk_at "nm")(l:ll (.Name x pos) "items" X.env (eval (.Name x pos) X.env)=eval (.Name x pos) X.env:=by rfl)(Z:(apos.endLine == cpos.line)=true:=by rfl) :
 QI X (.Tuple elts x1 tpos) (.Call (.Attribute (.Name x pos) "items" apos) [] [] cpos) (tIK X.K O i (itI i)):=
 QI.imp (Vp (dJ E.1 E.2 E.3 E.4) l Z) λσ H R s=>by
  obtain ⟨⟨d,o,u,J,D⟩,A,B,Γ,xs,r,em,k⟩:=s;obtain ⟨x3,hg,rfl⟩:=Tu em;obtain ⟨d',I,z,U,S,f3,f4,P⟩:=yH r hi hg;rw[J] at U;cases U;rw[D] at S;cases S;have eu:I=u:=by
   rcases f3 with z | ⟨o',z⟩ <;> cases z;rfl
  subst eu;have hl:=P.len;have st:∀Y,aF A Y->aF B Y->Y d=some (.frz o (.dK I)):=λY C j=>by
   rcases f4 with q | q
   . cases e:A d with
     | none=>exact absurd e q
     | some z=>have:=r.a _ _ e;rw[D] at this;cases this;exact C _ _ e
   . cases e:B d with
     | none=>exact absurd e q
     | some z=>have:=r.b _ _ e;rw[D] at this;cases this;exact j _ _ e
  refine ⟨.ref d,dH J,d,o,I,rfl,D,k _ A H (aW.refl r.a) ⟨λn Y C j L=>⟨st Y C j,by rw[af] at L;lia⟩,λY C j=>⟨st Y C j,by rw[af];lia⟩,λn A2 Y v H3 sa j s3 L hy=>?_⟩⟩;obtain ⟨p,key,w,hp,rfl,rfl,e3⟩:=hy;obtain ⟨k1,M,g1,g2,g3⟩:=wA P e3;have Q:=aW.new (o:=.tup [kV key,w]) j hp;exact ⟨_,.tuple [k1,M],by rw[a8,g1];rfl,Q,Rp.tuple.mpr ⟨p,_,rfl,SqT.of aX,az.cons.mpr ⟨_,_,rfl,JD g2,az.one (Rp.mono (sa.trans Q.aa) M g3)⟩⟩⟩
theorem aaU(i:Nat)(hri:isR (fl O i)=true)(hnx:NX mb)(hp:rV (dt X.prog X.w) X.A X.env X.xe)(hc:X.calm=true)(cl:B5)(hi:QI X tg iter (tIK X.K O i (itI i)))(hg:QG X tg (tG X.K O O is g))(hb:QSs X body (tS X.K rm O' O O' mb))(hE:oV O O' cl=true)
 (hs:∀x,hV iter X.env x=pure x:=by intro _;rfl):QS X (.For tg iter body [] pos) (tS X.K rm Ol O O (cI (itI i) g cl mb)):=by
 refine Yv i hri (λΓ o h=>?_) ?_
 . obtain ⟨j,e1,h⟩:=x8.au h;obtain ⟨x3,e,_⟩:=Tu e1;exact ⟨⟨x3,e⟩,NT hnx h⟩
 . skip
   refine QS.imp (TX hp hc hi.h hg.h hb.h hs) λD σ H ⟨fz,A,B,Γ,o,r,em,k⟩=>⟨fz,?_⟩;obtain ⟨j,e1,em⟩:=x8.au em;refine ⟨A,B,Γ,j,r,e1,λJ A1 H1 g1 hj=>?_⟩;refine ⟨λi n S U=>n=j.length - i/\i<=j.length/\∃P C,aY X.K P B U O S C/\aF A P/\New A P B/\aF A1 P/\forR g cl mb (j.drop i) C= .ok o,⟨j.length,rfl,iP _,A1,Γ,r.grow g1,g1.aa,g1.nB r.b,aF.refl _,em⟩,?_⟩;rintro i n S U ⟨rfl,hi',P,C,z,sa,nw,l,q⟩
   by_cases Z:i<j.length
   . refine .inr ⟨hj.go i U (l.trans z.a) z.b Z,λL H''=>i+1<=j.length/\∃u Y,aY X.K u B H'' O L Y/\aF A u/\New A u B/\aF A1 u/\forR g cl mb (j.drop (i+1)) Y= .ok o,?_,λx H3 y=>?_⟩
     . rintro L H'' ⟨h1,u,Y,h2⟩;exact ⟨j.length - (i+1),by lia,rfl,h1,u,Y,h2⟩
     . obtain ⟨u,d,ed,g3,p3⟩:=hj.yld i P U x H3 l z.a z.b Z y;have hd:j.drop i=d::j.drop (i+1):=by
        rw[kT Z];rw[ai Z] at ed;cases ed;rfl
       rw[hd] at q;obtain ⟨Y,e3,q⟩:=x8.au q;obtain ⟨o3,e4,q⟩:=x8.au q;have s:=sa.trans g3.aa;have p:=nw.trans (g3.nB z.b);refine ⟨u,B,C,d,Y,z.grow g3,p3,e3,λσ4 r4 _=>⟨u,B,Y,o3,r4,e4,?_⟩⟩;have sb:∀{D':Ends},tH X.K rm Ol O A B D' o->tH X.K rm Ol O u B D' o:=λh=>h.sub s p
       cases o3 with
       | nx E=>exact λQ R H5 r5 I M=>⟨Z,R,clr cl E,r5.il hE,s.trans I,p.trans M,l.trans (g3.aa.trans I),q⟩
       | ct E=>exact λQ R H5 r5 I M=>⟨Z,R,clr cl E,r5.il hE,s.trans I,p.trans M,l.trans (g3.aa.trans I),q⟩
       | bk E=>
        cases q;exact λQ R H5 r5 I M=>k Q R H5 (r5.il hE) (s.trans I) (p.trans M)
       | rt d'=>
        cases q;exact λv R H5 q1 q2 I M rv=>k v R H5 q1 q2 (s.trans I) (p.trans M) rv
   . have e:i=j.length:=by lia
     subst e;rw[tw] at q;cases q;exact .inl ⟨hj.stop U (l.trans z.a) z.b,k S P U z sa nw⟩
end
inductive MV where
 | ev (m:ME)
 | cl (f:B4->x8 ab) (ms:List ME)
noncomputable def lV(j:Nat):List (Int×MV)->Ev->x8 (B0×Ev)
 | [],Γ=>.ok ([],Γ)
 | (k,.ev m)::r,Γ=>(m Γ).bind λd=>(lV j r Γ).bind λq=>.ok ((.int k,d)::q.1,q.2)
 | (k,.cl f ms)::r,Γ=>(evs ms Γ).bind λds=>(f ds).bind λt=>match nF t with
  | some (d,dm)=>(lV j r (Γ.set j (some dm))).bind λq=>.ok ((.int k,d)::q.1,q.2)
  | none=>.bad
inductive gW (X:Cx) (O:B9) (j:Nat):List (Option Expr)->C1->List (Int×MV)->Prop
 | nil:gW X O j [] [] []
 | ev {k:Int}{kj}{kp:Pos}{v:Expr}{ks:List (Option Expr)}{vs:C1}{m:ME}{R:List (Int×MV)}:QE X v (tE X.K O m)->gW X O j ks vs R->gW X O j (some (.Constant (.int k) kj kp)::ks) (v::vs) ((k,.ev m)::R)
 | cl {k:Int}{kj}{kp:Pos}{v:Expr}{ks:List (Option Expr)}{vs:C1}{f:B4->x8 ab}{ms:List ME}{R:List (Int×MV)}:QE X v (tM X.K O j f ms)->gW X O j ks vs R->gW X O j (some (.Constant (.int k) kj kp)::ks) (v::vs) ((k,.cl f ms)::R)
noncomputable def trM(K:av)(O:B9)(j:Nat):Int×MV->TE×TE
 | (k,.ev m)=>(tC (.int k),tE K O m)
 | (k,.cl f ms)=>(tC (.int k),tM K O j f ms)
variable {ks:List (Option Expr)}{vs:C1}
theorem gW.pps{R:List (Int×MV)}(h:gW X O j ks vs R):PPs X pos ks vs (R.map (trM X.K O j)):=by
 induction h with
 | nil=>exact yV
 | ev h _ Y=>exact rK HR h.h Y
 | cl h _ Y=>exact rK HR h.h Y
abbrev abg(K:av)(A:Hp):B0->List (V×V)->Prop:=hX λp q=>∃i,p.1= .int i/\q.1= .int i/\Rp K A p.2 q.2
theorem New.trans'(h:New A H B)(k:New H F B):New A F B:=λp Z Y=>k p (h p Z Y) Y
theorem Ep:∀(R:List (Int×MV)) (Γ Y:Ev) (A H:Hp) (x3:B0) (Q:List (V×V)->Hp->Prop),aY K A B H O σ Γ->lV j R Γ = .ok (x3,Y) ->
 (∀ps A' H',aY K A' B H' O σ Y->aF A A'->New A A' B->abg K A' x3 ps->Q ps H')->rE (R.map (trM K O j)) σ H Q
 | [],Γ,Y,A,H,x3,Q,r,e,k=>by
  cases e;exact k [] A H r (aF.refl _) (λ_ h _=>h) .nil
 | (i,.ev m)::R,Γ,Y,A,H,x3,Q,r,e,k=>by
  obtain ⟨d,l,e⟩:=x8.au e;obtain ⟨q,z,e⟩:=x8.au e;cases e;refine ⟨A,B,Γ,d,r,l,λv J D p I=>?_⟩;exact Ep R Γ q.2 J D q.1 _ (r.grow p) z λps C o s Z u p2=>k _ C o s (p.aa.trans Z) ((p.nB r.b).trans' u) (.cons ⟨i,rfl,rfl,Rp.mono Z _ I⟩ p2)
 | (i,.cl f ms)::R,Γ,Y,A,H,x3,Q,r,e,k=>by
  obtain ⟨ds,l,e⟩:=x8.au e;obtain ⟨t,z,e⟩:=x8.au e
  cases E:nF t with
  | none=>rw[E] at e;cases e
  | some S=>
   obtain ⟨d,M⟩:=S;rw[E] at e;obtain ⟨q,P,e⟩:=x8.au e;cases e;have L:=zr E;subst L;refine ⟨A,B,Γ,ds,d,M,r,l,z,λv J D r1 U n1 I=>?_⟩;exact Ep R _ q.2 J D q.1 _ r1 P λps C o s Z u p2=>k _ C o s (U.trans Z) (n1.trans' u) (.cons ⟨i,rfl,rfl,Rp.mono Z _ I⟩ p2)
theorem aY.guard{p0:Addr}{o:HO}(r:aY K A B H O σ Γ)(l:H p0=none):aY K A (xk B p0 o) (xk H p0 o) O σ Γ:=by
 have hA:=r.a.free l;have R:=r.b.free l;have U:=aF.new R o;have s:=aF.new l o;have ne:∀{p:Addr}{u:HO},H p=some u->p≠p0:=λe z=>by rw[z,l] at e;cases e
 refine ⟨r.a.trans s,λb u q=>?_,r.len,λi d e=>?_,r.sep⟩
 . by_cases M:b=p0
   . subst M;rw[aX] at q ⊢;exact q
   . rw[aG M] at q ⊢;exact r.b b u q
 . obtain ⟨v,ev,q⟩:=r.slot i d e;refine ⟨v,ev,?_⟩
   cases Y:fl O i with
   | xo=>rwa [Y] at q
   | xl=>rw[Y] at q;exact Pk.mono (aF.refl _) U q
   | own=>
    rw[Y] at q;obtain ⟨j,E,rfl,Z,J,I,D⟩:=q;exact ⟨j,E,rfl,s _ _ Z,J,by rw[aG (ne Z)];exact I,D⟩
   | fix p1=>
    rw[Y] at q;obtain ⟨S,j,E,rfl,Z,J,I,D⟩:=q;exact ⟨S,j,E,rfl,s _ _ Z,J,by rw[aG (ne Z)];exact I,D⟩
   | exc C=>rwa [Y] at q
   | kit=>rwa [Y] at q
   | nst b=>
    rw[Y] at q;intro z;obtain ⟨j,xs,L,w1,Q,P,w4,w5,w6⟩:=q z;exact ⟨j,xs,L,w1,Q,s _ _ P,w4,by rw[aG (ne P)];exact w5,w6⟩
noncomputable def Ho:List (Int×MV)->B3:=λR=>R.map (·.1)
noncomputable def Ck(j:Nat)(R:List (Int×MV)):MS:=λΓ=>(lV j R Γ).bind λq=>match gv q.2 j with
 | some dm=>gd ((Ho R).Nodup/\R.length<=15) (.ok (.rt (.tuple [.dict q.1,dm])))
 | none=>.bad
theorem xW:∀{R:List (Int×MV)}{Γ Y:Ev}{x3:B0},lV j R Γ = .ok (x3,Y)->x3.map (·.1)=(Ho R).map ab.int
 | [],Γ,Y,x3,e=>by cases e;rfl
 | (i,.ev m)::R,Γ,Y,x3,e=>by
  obtain ⟨d,o,e⟩:=x8.au e;obtain ⟨q,l,e⟩:=x8.au e;cases e;show ab.int i::q.1.map (·.1)=_;rw[xW l];rfl
 | (i,.cl f r)::R,Γ,Y,x3,e=>by
  obtain ⟨s,o,e⟩:=x8.au e;obtain ⟨t,l,e⟩:=x8.au e
  cases Z:nF t with
  | none=>rw[Z] at e;cases e
  | some u=>
   rw[Z] at e;obtain ⟨q,p,e⟩:=x8.au e;cases e;show ab.int i::q.1.map (·.1)=_;rw[xW p];rfl
theorem Gi:∀(more x3:A8),((x3++more).map (·.1)).Nodup->lH x3 more=x3++more
 | [],x3,_=>by rw[cK];rfl
 | p::r,x3,h=>by
  show lH (putK x3 p.1 p.2) r=_;have i:(x3.any λY=>decide (Y.1=p.1))=false:=by
   rw[pe];intro q Z z;rw[aS,a7] at h;exact (ey.mp h).2.2 q.1 (bo.mpr ⟨q,Z,rfl⟩) p.1 bg (of_decide_eq_true z)
  have e:putK x3 p.1 p.2=x3++[(p.1,p.2)]:=by rw[putK,if_neg (by rw[i];exact dV)]
  rw[e,Gi r (x3++[(p.1,p.2)]) (by rw[da];exact h),da];rfl
theorem adg{Y:List (V×V)}(h:abg K A x3 Y):∃u:A8,Y=u.map (λZ=>(kV Z.1,Z.2))/\bj K A x3 u/\u.map (·.1)=(x3.filterMap λp=>bM p.1)/\u.length=x3.length:=by
 induction h with
 | nil=>exact ⟨[],rfl,bj.nil.mpr rfl,rfl,rfl⟩
 | @cons p q Y D h t z=>
  obtain ⟨i,r,o,j⟩:=h;obtain ⟨u,e,B,l,s⟩:=z;obtain ⟨C,d⟩:=p;obtain ⟨x,v⟩:=q;cases r;cases o;refine ⟨(.inl i,v)::u,by rw[e];rfl,bj.cons.mpr ⟨.inl i,v,u,rfl,rfl,j,B⟩,?_,by rw[a6,a6,s]⟩;rw[a7,l];rfl
variable {values:C1}
section
variable   {keys:List (Option Expr)}  {R:List (Int×MV)}{dpos:Pos}
theorem UT(j:Nat)(hj:fl O j= .fix c)(h:gW X O j keys values R)(s:keys.all (·.isSome)=true)(hl:keys.length=values.length)(h0:keys≠[])(S:keys.length<=15) :
 QS X (.Return (some (.Dict keys values dpos)) pos) (tS X.K (.m c) Ol O O' (Ck j R)):=QS.imp (xH (Fd h.pps s hl h0 S)) λD σ H v=>by
 obtain ⟨A,B,Γ,o,r,em,k⟩:=v;obtain ⟨q,e1,em⟩:=x8.au em
 cases E:gv q.2 j with
 | none=>rw[E] at em;cases em
 | some dm=>
  rw[E] at em;obtain ⟨⟨J,afY⟩,em⟩:=b8 em;cases em;intro p0 M;refine Ep R Γ q.2 A _ q.1 _ (r.guard M) e1 λps Q H2 p s2 n2 p2=>?_;obtain ⟨u,eu,ru,ku,lu⟩:=adg p2;have hk:u.map (·.1)=(Ho R).map kz:=by
   rw[ku];have:=xW e1;have gen:∀(l:B0) (is:B3),l.map (·.1)=is.map ab.int->l.filterMap (λc=>bM c.1)=is.map kz:=λl=>by
    induction l with
    | nil=>intro is e;cases is with
     | nil=>rfl
     | cons _ _=>cases e
    | cons x l ih=>intro is e;cases is with
     | nil=>cases e
     | cons i is=>
      rw[a7,a7] at e;injection e with ea eb;rw[kx,ea,ih is eb];rfl
   exact gen _ _ this
  have U:(u.map (·.1)).Nodup:=by
   rw[hk];exact sM.map _ (λa b hab z=>hab (kz.inj z)) J
  have Z:u.length<=15:=by
   have:=congrArg List.length hk;rw[af,af] at this;unfold Ho at this;rw[af] at this;lia
  refine ⟨p.b _ _ aX,u,eu,Z,?_⟩;rw[Gi u [] (by rw[d6];exact U),d6];obtain ⟨dm',p',o',q1,q2,q3,q4,q5,q6⟩:=p.mV (by rw[hj];rfl) (by rw[E];simp);rw[E] at q1;cases q1;obtain ⟨v',ev',qv⟩:=p.slot j _ E;rw[hj] at qv;obtain ⟨rfl,_⟩:=qv;rw[ev'] at q2;cases q2;have C:c≠p0:=λz=>by rw[z,aX] at q5;cases q5
  have P:=r.a.free M;have hA2:=n2 p0 P (by rw[aX];simp);have I:=r.b.free M;have L:aF Q (xk Q p0 (.dK u)):=aF.new hA2 _;refine k (.ref p0) (xk Q p0 (.dK u)) _ (λb w e=>?_) (λb w e=>?_) (s2.trans L) (λb h1 h2=>?_) ⟨.dict q.1,dm,o',rfl,?_,?_,?_,?_⟩
  . by_cases Y:b=p0
    . subst Y;rw[aX] at e ⊢;exact e
    . rw[aG Y] at e ⊢;exact p.a _ _ e
  . have Y:b≠p0:=λz=>by rw[z,I] at e;cases e
    rw[aG Y];exact p.b _ _ (by rw[aG Y];exact e)
  . have Y:b≠p0:=λz=>h2 (by rw[z];exact I);rw[aG Y];exact n2 b h1 (by rw[aG Y];exact h2)
  . rw[Rp];exact ⟨p0,u,rfl,.inl aX,bj.mono L _ ru⟩
  . rw[aG C];exact q3
  . rw[aG C];exact q4
  . exact q6.mono L
end
theorem Yu(z:xs.length<=ba)(hd:(a == fb)=false)(i:h'.DictOfH (oi (mT P w)) a xs):fV P w A h' a (jT a xs):=by
 obtain ⟨o,u,p,e,v,j,s,_,B⟩:=i;exact ⟨⟨z,hd,B,o,u,p,e,v,j,s⟩,⟨o,e⟩,λE H ⟨r,q,C,l,Y,Z,b1,D⟩ k=>⟨r,q,C,l,Y,Z,k _ b1,D⟩⟩
section
variable      {b:Addr}  {u r:a0}{A:g9}   {k:B3}
theorem Ym(I:x9 X x2 σ H s)(e:H a=some (jT a xs))(r:∀x∈xs,SqT X.K H x.2.1 (x.1.map V.int)):xs.length<=ba/\(a == fb)=false/\s.heap.DictOfH (oi (mT X.prog X.w)) a xs:=by
 obtain ⟨⟨z,y,p,o,l,Z,q,u,Y,j⟩,_⟩:=(I.xw a _ e);exact ⟨z,y,o,l,Z,q,u,Y,j,λx i=>yM I (r x i),p⟩
theorem aeS(I:x9 X x2 σ H s)(e:H a=some (.dK [])):x9 X x2 σ (xk H a (jT a [])) s:=by
 obtain ⟨z,hd,B,Y,p⟩:=Dj I.xw e;cases Y;obtain ⟨o,i,r,l,v,q,_,j,_⟩:=p
 have Z:i.toList=[]:=by cases h:i.toList with
  | nil=>rfl
  | cons x t=>rw[h] at j;cases j
 exact mO I (by rw[e];exact ia) ⟨rfl,λ_ _=>rfl⟩ ⟨o,l⟩ (Yu (iP _) hd ⟨o,i,r,l,v,q,by rw[Z];rfl,λx u=>(nomatch u),wa⟩)
theorem stored_new{k:B3}{u:a0}(h:k∉xs.map (·.1)):sA xs k a u=xs++[(k,a,u)]:=by
 have e:nz xs k=none:=by
  rw[nz,pd,mf];exact λx Y z=>h (bo.mpr ⟨x,Y,by simpa using z⟩)
 rw[sA,if_neg (by rw[e];exact λz=>nomatch z)]
theorem aby{ys:C0}{o:HO}(e:H a=some (jT a xs))(q:SqT K H c ys):SqT K (xk H a o) c ys:=by
 rcases q with q | q
 . have Y:c≠a:=λz=>by
    subst z;rcases q with q | ⟨_,q⟩ <;> (rw[e] at q;cases q)
   left;rcases q with q | ⟨w,q⟩
   . exact .inl (by rw[aG Y];exact q)
   . exact .inr ⟨w,by rw[aG Y];exact q⟩
 . exact .inr q
theorem Oo(u:A.units<h7):∀(ys:List (B3×Addr×a0)) (xs:List (B3×Addr×a0)) (s:cq) (H:Hp) (Q:PUnit->cq->Prop),x9 X x2 σ H s->H a=some (jT a xs)->(∀x∈xs++ys,SqT X.K H x.2.1 (x.1.map V.int))->((xs++ys).map (·.1)).Nodup->(xs++ys).length<=ba ->
 (∀s',x9 X x2 σ (xk H a (jT a (xs++ys))) s'->Q PUnit.unit s')->de (dt X.prog X.w) A (storeAll a (ys.map λx=>(.ref x.2.1,x.2.2))) Q E s
 | [],xs,s,H,Q,I,e,j,Z,o,k=>by
  rw[storeAll,ew,List.forIn_nil];refine a9 (k s ?_);rw[cK];have:xk H a (jT a xs)=H:=by
   funext c
   by_cases v:c=a
   . subst v;rw[aX,e]
   . rw[aG v]
  rw[this];exact I
 | y::ys,xs,s,H,Q,I,e,j,Z,o,k=>by
  rw[storeAll,a7,vF];obtain ⟨z,hd,B⟩:=Ym I e λx i=>j x (dy _ i);refine ag (ag (wpAny_dictSet_heap u (yM I (j y (ck _ bg))) B λM Y O=>a9 ?_));have r:=λq=>by
   rw[aS,a7] at Z;exact (ey.mp Z).2.2 y.1 q y.1 bg rfl
  rw[stored_new r] at Y;have J:∃q,M.get? a=some q:=let ⟨q,_,_,D,_⟩:=Y;⟨q,D⟩;have p:(xs++[(y.1,y.2.1,y.2.2)]).length<=ba:=by
   rw[ar,a6] at o;rw[ar,b9];lia
  have L:=mO (t':=s.toks+(oi (mT X.prog X.w)).draws y.1) I (by rw[e];exact ia) O J (Yu p hd Y);have l:xs++[(y.1,y.2.1,y.2.2)]++ys=xs++y::ys:=by rw[da];rfl
  refine Oo u ys (xs++[(y.1,y.2.1,y.2.2)]) _ _ Q L aX (λx i=>?_) (by rw[l];exact Z) (by rw[l];exact o) λs' C=>k s' (by rwa [Nj,l] at C);rw[l] at i;exact aby e (j x i)
end
def afI(K:av)(trs:List (TE×TE)):TE:=λσ H Q=>∀p,H p=none->rE trs σ (xk H p (.dK [])) λps H2=>H2 p=some (.dK [])/\∃x3:List (B3×Addr×V),ps=x3.map (λkv=>(V.ref kv.2.1,kv.2.2))/\(∀kv∈x3,SqT K H2 kv.2.1 (kv.1.map V.int))/\(x3.map (·.1)).Nodup/\x3.length<=15 /\
 ∀xs,hX (λ(a:B3×Addr×V) (b:B3×Addr×a0)=>a.1=b.1/\a.2.1=b.2.1/\xh a.2.2 b.2.2) x3 xs->Q (.ref p) (xk H2 p (jT p xs))
theorem Rb:∀{x3:List (B3×Addr×V)}{ws:List (a0×a0)},VV (x3.map λY=>(V.ref Y.2.1,Y.2.2)) ws->∃xs:List (B3×Addr×a0),ws=xs.map (λx=>(.ref x.2.1,x.2.2))/\hX (λ(a:B3×Addr×V) (b:B3×Addr×a0)=>a.1=b.1/\a.2.1=b.2.1/\xh a.2.2 b.2.2) x3 xs
 | [],_,r=>by rw[ew] at r;cases r;exact ⟨[],rfl,.nil⟩
 | p::x3,_,r=>by
  rw[a7] at r
  cases r with
  | @cons a b as bs h t=>
   obtain ⟨xs,e,q⟩:=Rb t;obtain ⟨b1,j⟩:=b;obtain ⟨i,Z⟩:=h;cases (i);exact ⟨(p.1,p.2.1,j)::xs,by rw[e];rfl,.cons ⟨rfl,rfl,Z⟩ q⟩
theorem JM:∀{x3:List (B3×Addr×V)}{xs:List (B3×Addr×a0)},hX (λ(a:B3×Addr×V) (b:B3×Addr×a0)=>a.1=b.1/\a.2.1=b.2.1/\xh a.2.2 b.2.2) x3 xs->xs.map (·.1)=x3.map (·.1)/\(∀x∈xs,∃Y∈x3,Y.1=x.1/\Y.2.1=x.2.1)
 | _,_,.nil=>⟨rfl,λx hx=>nomatch hx⟩
 | _,_,.cons h t=>by
  obtain ⟨i,Z⟩:=JM t;refine ⟨by rw[a7,a7,i,h.1],λx hx=>?_⟩;rcases bE.mp hx with rfl | hx
  . exact ⟨_,bg,h.1,h.2.1⟩
  . obtain ⟨Y,j,e⟩:=Z x hx;exact ⟨Y,bq _ j,e⟩
theorem ac0{j:List (TE×TE)}(hu:X.A.units<h7)(h:PPs X pos ks values j)(Y:ks.all (·.isSome)=true)(hl:ks.length=values.length)(h0:ks≠[])(u:ks.length<=15) :
 PE X (.Dict ks values pos) (afI X.K j):=by
 intro i s σ H Q I q;have U:=I.xw.fresh (ax s.heap.objs.size);have I1:=I.laid (t':=s.toks) (λ_ _ q=>aE _ q) (ax _) (Bb s.heap I.big);refine wpAny_Dict_any Y hl h0 u (thn (h i _ σ _ _ I1 (q _ U)) λws P Z=>?_);obtain ⟨ps,O,I2,o,e,x3,S,hk,l,lk,q2⟩:=Z;subst S;obtain ⟨v,ex,J⟩:=Rb o;subst ex;obtain ⟨D,R⟩:=JM J;have I3:=aeS I2 e;have p:=by
  have:=congrArg List.length D;rwa [af,af] at this
 have B:∀x∈([]:List (B3×Addr×a0))++v,SqT X.K (xk O s.heap.objs.size (jT s.heap.objs.size [])) x.2.1 (x.1.map V.int):=λx hx=>by
  obtain ⟨E,r,M,e2⟩:=R x hx;rw[<- M,<- e2];rcases hk E r with z | z
  . have L:E.2.1≠s.heap.objs.size:=λy=>by
     rw[y] at z;rcases z with z | ⟨_,z⟩ <;> (rw[e] at z;cases z)
    left;rcases z with z | ⟨w,z⟩
    . exact .inl (by rw[aG L];exact z)
    . exact .inr ⟨w,by rw[aG L];exact z⟩
  . exact .inr z
 refine Oo hu v [] P _ _ I3 aX B (by rw[d6,D];exact l) (by rw[d6,p,sizeLine_eq];lia) λs' C=>?_;rw[Nj,d6] at C;exact ⟨.ref s.heap.objs.size,_,C,rfl,q2 v J⟩
noncomputable def zc:List (ME×ME)->Ev->x8 B0
 | [],_=>.ok []
 | (mk,mv)::r,Γ=>(mk Γ).bind λkd=>(mv Γ).bind λd=>(zc r Γ).bind λq=>match oK kd with
  | some _=>.ok ((kd,d)::q)
  | none=>.bad
noncomputable def Bs(x3:B0):List B3:=x3.filterMap λp=>oK p.1
noncomputable def yP(i:Nat)(R:List (ME×ME)):MS:=λΓ=>(zc R Γ).bind λx3=>gd ((Bs x3).Nodup/\x3.length<=15/\i < Γ.length) (.ok (.nx (Γ.set i (some (.dict x3)))))
inductive ni (X:Cx) (O:B9):List (Option Expr)->C1->List (ME×ME)->Prop
 | nil:ni X O [] [] []
 | cons {k v:Expr}{ks:List (Option Expr)}{vs:C1}{mk mv:ME}{R:List (ME×ME)}:QE X k (tE X.K O mk)->QE X v (tE X.K O mv)->ni X O ks vs R->ni X O (some k::ks) (v::vs) ((mk,mv)::R)
theorem ni.pps{R:List (ME×ME)}(h:ni X O ks vs R):PPs X pos ks vs (R.map λp=>(tE X.K O p.1,tE X.K O p.2)):=by
 induction h with
 | nil=>exact yV
 | cons Y Z _ e=>exact rK Y.h Z.h e
abbrev Ja(K:av)(A:Hp):B0->List (B3×Addr×V)->Prop:=hX λp q=>oK p.1=some q.1/\SqT K A q.2.1 (q.1.map V.int)/\Rp K A p.2 q.2.2
theorem Rp.abM{Y:ab}{k:B3}(h:Rp K A Y v)(e:oK Y=some k):∃b,v= .ref b/\SqT K A b (k.map V.int):=by
 cases Y with
 | tuple l=>
  obtain ⟨a,j,rfl,Z,i⟩:=Rp.tuple.mp h;rw[az.Ox i e] at Z;exact ⟨a,rfl,Z⟩
 | _=>cases e
theorem J6:∀(R:List (ME×ME)) (A H:Hp) (x3:B0) (Q:List (V×V)->Hp->Prop),aY K A B H O σ Γ->zc R Γ = .ok x3 ->
 (∀us A' H',aW A H A' H'->Ja K A' x3 us->Q (us.map λu=>(V.ref u.2.1,u.2.2)) H')->rE (R.map λp=>(tE K O p.1,tE K O p.2)) σ H Q
 | [],A,H,x3,Q,r,e,k=>by cases e;exact k [] A H (aW.refl r.a) .nil
 | (mk,mv)::R,A,H,x3,Q,r,e,k=>by
  obtain ⟨l,o,e⟩:=x8.au e;obtain ⟨d,D,e⟩:=x8.au e;obtain ⟨q,C,e⟩:=x8.au e
  cases Y:oK l with
  | none=>rw[Y] at e;cases e
  | some key=>
   rw[Y] at e;cases e;refine ⟨A,B,Γ,l,r,o,λU P S Z L=>⟨P,B,Γ,d,r.grow Z,D,λv E s i p2=>?_⟩⟩;obtain ⟨b,rfl,M⟩:=Rp.abM L Y;exact J6 R E s q _ ((r.grow Z).grow i) C λus J I j z=>k ((key,b,v)::us) J I ((Z.trans i).trans j) (.cons ⟨Y,(i.aa.trans j.aa).fP M,Rp.mono j.aa _ p2⟩ z)
variable {us:List (B3×Addr×V)}
theorem Ja.keys(h:Ja K A x3 us):us.map (·.1)=Bs x3/\us.length=x3.length/\∀u∈us,SqT K A u.2.1 (u.1.map V.int):=by
 induction h with
 | nil=>exact ⟨rfl,rfl,λu hu=>nomatch hu⟩
 | @cons p q l j h t i=>
  obtain ⟨Y,e,Z⟩:=i;refine ⟨by unfold Bs at Y ⊢;rw[a7,kx,h.1,Y],by rw[a6,a6,e],λu hu=>?_⟩;rcases bE.mp hu with rfl | hu
  . exact h.2.1
  . exact Z u hu
theorem Ja.kit(h:Ja K A x3 us):∀{xs:List (B3×Addr×a0)},hX (λ(a:B3×Addr×V) (b:B3×Addr×a0)=>a.1=b.1/\a.2.1=b.2.1/\xh a.2.2 b.2.2) us xs->RpT K A x3 xs:=by
 induction h with
 | nil=>intro xs p;cases p;exact .nil
 | @cons p q j i h t Z=>
  intro xs e
  cases e with
  | @cons _ b _ bs Y tb=>
   refine .cons ⟨by rw[<- Y.1];exact h.1,by rw[<- Y.1,<- Y.2.1];exact h.2.1,q.2.2,Y.2.2,h.2.2⟩ (Z tb)
theorem aY.ur{d:ab}(r:aY K A B H O σ Γ)(C:i < Γ.length)(q:i<O.length)(p:pX K A d v):aY K A B H (O.set i .kit) (σ.set i (some v)) (Γ.set i (some d)):=by
 have E:i < σ.length:=by rw[<- r.len];exact C
 refine ⟨r.a,r.b,by rw[eJ,eJ];exact r.len,λj=>?_,λj k u l Z o s=>?_⟩
 . by_cases Y:i=j
   . subst Y;unfold fl gv sv;rw[bI q,bI C,bI E];exact λI e=>by cases e;exact ⟨v,rfl,p⟩
   . unfold fl gv sv;rw[aR Y,aR Y,aR Y];exact r.slot j
 . have Y:i≠j:=λz=>by subst z;unfold fl at l;rw[bI q] at l;cases l
   have D:i≠k:=λz=>by subst z;unfold fl at Z;rw[bI q] at Z;cases Z
   unfold fl at l Z;unfold gv at o s;rw[aR Y] at l o;rw[aR D] at Z s;unfold sv;rw[aR Y,aR D];exact r.sep j k u l Z o s
section
variable    {keys:List (Option Expr)}  {R:List (ME×ME)}{dpos pos':Pos}
theorem acF(i:Nat){O2:B9}(U:X.A.units+66<h7)(hN:X.N.Nodup)(hi:X.N[i]?=some y)(hx:Loc X.env.scope y)(h:ni X O keys values R)(e:keys.all (·.isSome)=true)(hl:keys.length=values.length)(h0:keys≠[])(M:keys.length<=15)(E:i<O.length)
 (hs:fR (.Dict keys values dpos) (some (.Name y pos')) pos.line X.env=pure false:=by rfl) (hf:X.fn y=true\/X.env.scope.names.lookup y=some .local:=by walk_at "hf") (hO:O.set i .kit=O2:=by rfl) :
 QS X (.Assign [.Name y pos'] (.Dict keys values dpos) pos) (tS X.K rm Ol O O2 (yP i R)):=
 hO ▸ QS.imp (Bt hN hi hx (ac0 (by lia) h.pps e hl h0 M) hs hf) λD σ H j=>by
  obtain ⟨A,B,Γ,o,r,em,k⟩:=j;obtain ⟨l,e1,em⟩:=x8.au em;obtain ⟨⟨I,hkl,Q⟩,em⟩:=b8 em;cases em;intro p s;have g0:aW A H A (xk H p (.dK [])):=aW.lay r.a s;refine J6 R A _ l _ (r.grow g0) e1 λus L H2 Z pk=>?_;obtain ⟨k1,k2,k3⟩:=pk.keys;have pa:=Z.nw p (r.a.free s) (by rw[aX];simp);refine ⟨Z.hh _ _ aX,us,rfl,λu U=>Z.ah.fP (k3 u U),by rw[k1];exact I,by lia,λC px=>?_⟩;have J:aF L (xk L p (jT p C)):=aF.new pa _;have P:aW A H (xk L p (jT p C)) (xk H2 p (jT p C)):=by
   refine ⟨Z.aa.trans J,λb o q=>?_,λb o q=>?_,λb q1 S=>?_⟩
   . have Y:=cU q s;rw[aG Y];exact Z.hh _ _ (by rw[aG Y];exact q)
   . by_cases Y:b=p
     . subst Y;rw[aX] at q ⊢;exact q
     . rw[aG Y] at q ⊢;exact Z.ah _ _ q
   . have Y:b≠p:=λz=>S (z ▸ s);rw[aG Y];exact Z.nw b q1 (by rw[aG Y];exact S)
  exact k _ _ _ ((r.grow P).ur Q E ⟨p,C,l,rfl,rfl,aX,Paired.sE (pk.kit px) λ_ _ z=>⟨z.1,J.fP z.2.1,z.2.2.imp λv y=>⟨y.1,Rp.mono J _ y.2⟩⟩⟩) P.aa (P.nB r.b)
end
noncomputable def zp(key:B3):B0->Option ab
 | []=>none
 | (k,d)::r=>if oK k=some key then some d else zp key r
noncomputable def Kv(i:Nat)(m:ME):ME:=λΓ=>(m Γ).bind λkd=>match gv Γ i with
 | some (.dict x3)=>match oK kd with
  | some key=>match zp key x3 with
   | some d=>.ok d
   | none=>.bad
  | none=>.bad
 | _=>.bad
theorem RpT.look{key:B3}{d:ab}(h:RpT K A x3 xs)(e:zp key x3=some d):∃p v,nz xs key=some p/\xh v p.2/\Rp K A d v:=by
 induction h with
 | nil=>cases e
 | @cons p q H D h t B=>
  obtain ⟨l,I⟩:=p;obtain ⟨i,E,v,r,u⟩:=h;unfold zp at e
  by_cases Y:oK l=some key
  . rw[if_pos Y] at e;cases e;have Z:=Option.some.inj (i.symm.trans Y);exact ⟨q.2,v,by simp[nz,fI,Z],r,u⟩
  . rw[if_neg Y] at e;obtain ⟨s,o,j,C⟩:=B e;have Z:¬ q.1=key:=λz=>Y (i.trans (by rw[z]));exact ⟨s,o,by rw[<- j];simp[nz,fI,Z],C⟩
theorem RpT.all(h:RpT K A x3 xs):∀x∈xs,SqT K A x.2.1 (x.1.map V.int):=by
 induction h with
 | nil=>intro x hx;exact nomatch hx
 | cons h t Y=>
  intro x hx;rcases bE.mp hx with rfl | hx
  . exact h.2.1
  . exact Y x hx
section
variable   {m:ME}{a:Expr}{xp:Pos}
def ab2(K:av):R2:=λx y H Q=>∃p b xs k q v,x= .ref p/\y= .ref b/\H p=some (jT p xs)/\(∀z∈xs,SqT K H z.2.1 (z.1.map V.int))/\SqT K H b (k.map V.int)/\nz xs k=some q/\xh v q.2/\Q v H
theorem ae1(S:X.A.units+66<h7):IxR X (ab2 X.K):=by
 intro e i Y s o H x y v u Q I E B h J;obtain ⟨p,b,R,k,w,M,rfl,rfl,P,C,O,L,D,q⟩:=h;cases (E);cases (B);have z:=(Ym I P C).2.2;have hT:=z.typeIs;refine ag ?_;rw[kQ hT.not_modules];refine ag (iS hT iX.lookup ?_);have j:=show X.A.units+1<h7 by lia
 have fin:de (dt X.prog X.w) X.A (mI i false (.ref p) (.ref b)) (λr Z=>de (dt X.prog X.w) X.A (oC e (.ref p) r >>= λ_=>pure r) (EP X Y o Q) X.xe Z) X.xe s:=by
  rw[J];exact nS (fy (sd j (yM I O) z L (⟨M,H,I.tok _,D,q⟩:EP X Y o Q w.2 _)) (λr Z l=>ag (k9 (a9 l))) λ_ _ x=>x)
 first
  | exact a9 (ag fin)
  | exact ag (a9 (ag fin))
  | exact ag fin
theorem adH(i:Nat)(hu:X.A.units+66<h7)(U:QE X a (tE X.K O m))(hs:lA a)(hi:fl O i= .kit:=by rfl)(j:Nm X i x:=by walk_at "nm"):QE X (.Subscript (.Name x xp) a pos) (tE X.K O (Kv i m)):=
 QE.imp (Dl (ae1 hu) (dJ j.1 j.2 j.3 j.4) U.h hs) λσ H Q Z=>by
  obtain ⟨A,B,D,d,r,em,k⟩:=Z;obtain ⟨E,I,em⟩:=x8.au em
  cases o:gv D i with
  | none=>rw[o] at em;cases em
  | some dl=>
   rw[o] at em
   cases dl with
   | dict e=>
    have em:=em
    cases s:oK E with
    | none=>rw[s] at em;cases em
    | some key=>
     rw[s] at em;have em:(match zp key e with | some d=>x8.ok d | none=>.bad)= .ok d:=em
     cases l:zp key e with
     | none=>rw[l] at em;cases em
     | some d0=>
      rw[l] at em;cases em;obtain ⟨v,ev,q⟩:=r.slot i _ o;rw[hi] at q;obtain ⟨p,xs,u,rfl,S,M,C⟩:=q;cases S;obtain ⟨w,v0,J,h4,P⟩:=RpT.look C l;refine ⟨.ref p,dH ev,A,B,D,E,r,I,λv A1 H1 Y p1=>?_⟩;obtain ⟨b,rfl,L⟩:=Rp.abM p1 s;exact ⟨p,b,xs,key,w,v0,rfl,rfl,Y.hh _ _ (r.a _ _ M),λz R=>(Y.aa.trans Y.ah).fP (RpT.all C z R),Y.ah.fP L,J,h4,k _ A1 H1 Y (Rp.mono Y.aa _ P)⟩
   | _=>cases em
end
def spT(K:av)(f0:Fl)(rm:Rm)(f:B4->x8 ab):Sp:=λvs H Q _=>∃A d0 dk d v0 v1,aF A H/\vs=[v0,v1]/\Ar K A H f0 d0 v0/\pX K A dk v1/\f [d0,dk]= .ok d/\∀v A' H',aW A H A' H'->Xw K rm H A' H' d v->Q v H'
section
variable     {base:Heap}
theorem Q5{f0 o0:Fl}{o l:ab}{q:V}(B:aF A H)(h0:Ar K A H f0 o v)(z:pX K A l q)(r:(o0= .xo/\f0= .xo)\/(o0= .xl/\f0= .xl))(D:2<=N.length) :
 aY K A H H (o0 :: .kit::O) (Zq.start N [v,q]) ([o,l].map some++aw (N.length - 2) none):=by
 have Z:∀i,2<=i->gv ([o,l].map some++aw (N.length - 2) none) i=none:=λi s=>by
  rw[gv,ae,be (by simpa using s),gu];split <;> rfl
 refine ⟨B,aF.refl _,?_,λi d e=>?_,λi j u Y E p C=>?_⟩
 . unfold Zq.start;simp
 . match i,e with
   | 0,e=>
    cases e;refine ⟨v,rfl,?_⟩;rcases r with ⟨rfl,rfl⟩ | ⟨rfl,rfl⟩
    . exact h0
    . exact h0
   | 1,e=>cases e;exact ⟨q,rfl,z⟩
   | i+2,e=>rw[Z (i+2) (by lia)] at e;cases e
 . match i,Y,p with
   | 0,Y,_=>
    have Y:=Y;rcases r with ⟨rfl,_⟩ | ⟨rfl,_⟩ <;> cases Y
   | 1,Y,_=>cases Y
   | i+2,_,p=>exact absurd (Z (i+2) (by lia)) p
theorem T6{st:Stmt}{f0 o0:Fl}{m:MS}(F:At K mg x st ps)(S:cM N ps (aM st))(i:ps.length=2)(l:2<=N.length)(D:(o0= .xo/\f0= .xo)\/(o0= .xl/\f0= .xl))
 (hbody:∀(f:Addr) (Y:a0) (A:g9) (xD:C6) (s:cq) (H:Hp) (E:XK),dB ep (A.deeper (mB x (aM st) s.heap.objs.size f Y)) ->
  QSs (mq CX0 P w K mg base N x (aM st) f Y A xD s H E).nox (bU st) (tS K rm Ol (o0 :: .kit::O) O' m)):Def P w K mg base (ep+1) x ps (spT K f0 rm (fnR N.length m)):=by
 refine F.ok S (λr H Q E h=>?_) (λf Y A xD s H r Q E B h=>?_)
 . obtain ⟨A,d0,M,d,v0,R,_,rfl,_⟩:=h;rw[i];rfl
 . obtain ⟨L,d0,M,d,v0,R,z,rfl,J,p,em,q⟩:=h;obtain ⟨o,Z,em⟩:=x8.au em
   cases o with
   | rt d'=>
    cases em;refine ⟨_,(hbody f Y A xD s H E B).h,L,H,_,_,Q5 z J p D l,Z,λv u e C j I nw U=>q v u e ⟨I,j,C,nw⟩ U⟩
   | _=>cases em
end
section
variable   {k:Nat}{fn:Str}  {f:B4->x8 ab}{m:ME}{e:Expr}{p2:Pos}
noncomputable def Kw(f:B4->x8 ab)(m:ME)(i:Nat):ME:=λΓ=>(m Γ).bind λd=>match gv Γ i with
 | some dk=>f [d,dk]
 | none=>.bad
theorem Ws(i:Nat)(J:fl O i= .kit)(F:Def X.prog X.w X.K X.mg X.base k fn ps (spT X.K .xl .f f))(U:dB k X.A)(I:Gl X fn)(S:QE X e (tP X.K O m))(o:nD fn:=by decide)(C:xB e=true:=by rfl)(j:Nm X i y:=by walk_at "nm") :
 QE X (.Call (.Name fn p) [e,.Name y p2] [] pos) (tE X.K O (Kw f m i)):=
 QE.imp (Bq F U I (bV S.h (bV (dJ j.1 j.2 j.3 j.4) eG (cR rfl)) (cR C)) o (cR C) (jx rfl)) λσ H Q Z=>by
  obtain ⟨A,B,z,d,r,em,k⟩:=Z;obtain ⟨u,D,em⟩:=x8.au em
  cases Y:gv z i with
  | none=>rw[Y] at em;cases em
  | some R=>
   rw[Y] at em;refine ⟨A,B,z,u,r,D,λE A1 H1 l L=>?_⟩;obtain ⟨s,ev,q⟩:=r.slot i _ Y;rw[J] at q;refine ⟨s,dH ev,?_⟩;exact ⟨A1,u,R,d,E,s,l.ah,rfl,L,pX.mono l.aa q,em,λv M P g p=>k v M P (l.trans g) p⟩
end
noncomputable def bf(xs:B3):Int:=xs.foldr (λf n=>2*n+f) 0
theorem cT(x:Int)(xs:B3):bf (x::xs)=2*bf xs+x:=rfl
theorem jG:∀{xs:B3},(∀x∈xs,0<=x)->0<=bf xs
 | [],_=>la 0
 | x::xs,h=>by
  have e:=h x (by simp);have Z:=jG λy Y=>h y (bq _ Y);rw[cT];lia
theorem two_pos(n:Nat):(0:Int)<2^n:=Int.pow_pos (by decide)
theorem yf(xs:B3)(y:Int):bf (xs++[y])=bf xs+2^xs.length*y:=by
 induction xs with
 | nil=>simp[bf]
 | cons x xs Y=>
  rw[fk,cT,Y,cT,a6,jv];have:(2:Int)^xs.length*2*y=2*(2^xs.length*y):=by rw[pf (2^xs.length) 2,nI]
  rw[this];lia
theorem VM(xs:B3):xs.reverse.foldl (λn f=>2*n+f) 0=bf xs:=by
 rw[List.foldl_reverse];rfl
noncomputable def ak(b p:Int):Int:=b / 2^p.toNat % 2
theorem aO(b p:Int):ak b p=0\/ak b p=1:=by unfold ak;lia
theorem Ma(b p:Int):0<=ak b p:=by unfold ak;lia
theorem aaj(b p:Int):ak b p<=1:=by unfold ak;lia
noncomputable def bx(k r:Nat):B3:=(List.range k).map λj=>((r / 2^j % 2:Nat):Int)
theorem bF(k r:Nat):(bx k r).length=k:=by simp[bx]
variable {r:Nat}
theorem j7{x:Int}(h:x∈bx ep r):x=0\/x=1:=by
 obtain ⟨j,_,e⟩:=bo.mp h;lia
theorem uv(k r:Nat):bx (k+1) r=bx k r++[((r / 2^k % 2:Nat):Int)]:=by
 rw[bx,kr,aS];rfl
theorem um(k r:Nat):bf (bx k r)=((r % 2^k:Nat):Int):=by
 induction k with
 | zero=>simp[bx,bf,Nat.mod_one]
 | succ k Y=>
  rw[uv,yf,Y,bF,rL,Nat.mod_mul];have e:((2:Int)^k)=(((2^k:Nat)):Int):=by simp
  rw[e,<- Int.natCast_mul];lia
theorem cC(h:r<2^ep):bf (bx ep r)=(r:Int):=by
 rw[um,t9 h]
noncomputable def gather(b:Int):Nat->Int
 | 0=>0
 | n+1=>gather b n+2^n*ak b n
theorem Qy(b:Int)(n:Nat):gather b n=b % 2^n:=by
 induction n with
 | zero=>simp[gather,Int.emod_one]
 | succ n o=>
  have Z:=two_pos n;rw[gather,o,ak,cc,jv];have q:=Int.emod_add_mul_ediv b (2^n);have j:=Int.emod_add_mul_ediv (b / 2^n) 2;have l:b=(b % 2^n+2^n*(b / 2^n % 2))+2^n*2*(b / 2^n / 2):=by
   have e:2^n*(b / 2^n)=2^n*(b / 2^n % 2)+2^n*2*(b / 2^n / 2):=by
    rw[nI,<- Int.mul_add,j]
   lia
  have p:=hZ b (Int.ne_of_gt Z);have r:=gE b Z;have Y:(b / 2^n % 2=0)\/(b / 2^n % 2=1):=by lia
  have i:=by
   have e:=congrArg (· % (2^n*2)) l;simp only[Int.add_mul_emod_self_left] at e;exact e.symm
  rw[<- i];refine (Int.emod_eq_of_lt ?_ ?_).symm
  . rcases Y with h | h <;> rw[h] <;> lia
  . rcases Y with h | h <;> rw[h] <;> lia
variable {b:Int}
theorem Pb(h0:0<=b)(Y:b<2^ep):gather b ep=b:=by
 rw[Qy,Int.emod_eq_of_lt h0 Y]
def bQ(xs:B3):Prop:=∀x∈xs,x=0\/x=1
theorem bQ.nn{xs:B3}(h:bQ xs):∀x∈xs,0<=x:=λx Y=>by rcases h x Y with z | z <;> lia
theorem bQ.tail{xs:B3}(h:bQ (b::xs)):bQ xs:=λy Y=>h y (bq _ Y)
theorem bQ.map{α:Type}{l:List α}{f:α->Int}(h:∀a∈l,f a=0\/f a=1):bQ (l.map f):=λx Y=>by
 obtain ⟨a,Z,rfl⟩:=bo.mp Y;exact h a Z
theorem bQ.bits{α:Type}{l:List α}{f g:α->Int}:bQ (l.map λa=>ak (f a) (g a)):=bQ.map λa _=>aO _ _
theorem zA:∀{xs:B3},bQ xs->bf xs<2^xs.length
 | [],_=>by decide
 | x::xs,h=>by
  have Z:=zA h.tail;have Y:=h x (by simp);rw[cT,a6,jv];lia
theorem tK(b:Int):ak b 0=b % 2:=by unfold ak;simp
theorem ud(b:Int)(n:Nat):ak b ((n+1:Nat):Int)=ak (b / 2) (n:Nat):=by
 unfold ak;rw[cc,cc,Nat.add_comm,Int.pow_add,Int.VD ,<- Int.ediv_ediv_of_nonneg (by decide)]
where
 Int.VD:(2:Int)^1=2:=by decide
theorem Az:∀{xs:B3}{r:Nat}{x:Int},bQ xs->xs[r]?=some x->ak (bf xs) (r:Nat)=x
 | [],r,x,_,h=>by simp at h
 | y::xs,0,x,h,e=>by
  have Y:=h y (by simp);have i:=by simpa using e
  rw[cT];show ak (2*bf xs+y) 0=x;rw[tK];lia
 | y::xs,r+1,x,h,e=>by
  have Y:=h y (by simp);rw[cT,ud];have Z:(2*bf xs+y) / 2=bf xs:=by lia
  rw[Z];exact Az h.tail (by simpa using e)
variable {m:Nat}
theorem Gk(h0:0<=b)(Y:b<2^m):bf ((List.range m).map λr=>ak b ((r:Nat):Int))=b:=by
 have key:∀m:Nat,bf ((List.range m).map λr=>ak b ((r:Nat):Int))=gather b m:=by
  intro m
  induction m with
  | zero=>rfl
  | succ m Z=>
   rw[kr,aS,List.map_singleton,yf,Z,af,cx];rfl
 rw[key,Pb h0 Y]
theorem Vl{c:Int}(h0:0<=b)(Z:b<2^m)(e:0<=c)(i:c<2^m)(h:∀r:Nat,r<m->ak b (r:Nat)=ak c (r:Nat)):b=c:=by
 rw[<- Gk h0 Z,<- Gk e i];congr 1;exact bt λr Y=>h r (cE.mp Y)
noncomputable def tab(m:Nat)(f:Nat->Int):Int:=bf ((List.range m).map f)
theorem Ji{f:Nat->Int}(h:∀r,f r=0\/f r=1):bQ ((List.range m).map f):=bQ.map λa _=>h a
theorem ql{f:Nat->Int}(h:∀r,f r=0\/f r=1):0<=tab m f:=jG (Ji h).nn
theorem De{f:Nat->Int}(h:∀r,f r=0\/f r=1):tab m f<2^m:=by
 have:=zA (Ji (m:=m) h);rwa [af,cx] at this
theorem iw{f:Nat->Int}(h:∀r,f r=0\/f r=1){r:Nat}(Y:r<m):ak (tab m f) (r:Nat)=f r:=
 Az (Ji h) (by rw[a8,dQ Y];rfl)
theorem adK{f:Nat->Int}(h:∀r,f r=0\/f r=1)(h0:0<=b)(Z:b<2^m)(e:∀r,r<m->f r=ak b (r:Nat)):tab m f=b:=
 Vl (ql h) (De h) h0 Z λr Y=>by rw[iw h Y,e r Y]
theorem dW{f g:Nat->Int}(e:∀r,r<m->f r=g r):tab m f=tab m g:=by
 unfold tab;congr 1;exact bt λr Y=>e r (cE.mp Y)
theorem Tf:∀{m r:Nat},0<=b->b<2^m->r<m->ak (2^m - 1 - b) (r:Nat)=1 - ak b (r:Nat):=by
 intro m
 induction m generalizing b with
 | zero=>intro r _ _ h;lia
 | succ m Z=>
  intro r i Y l;rw[jv] at Y ⊢;have j:=two_pos m
  cases r with
  | zero=>
   show ak _ 0=1 - ak _ 0;rw[tK,tK];lia
  | succ r=>
   rw[ud,ud];have e:(2^m*2 - 1 - b) / 2=2^m - 1 - b / 2:=by lia
   rw[e];exact Z (by lia) (by lia) (by lia)
noncomputable def g8(n j:Nat):Int:=tab (2^n) λr=>ak (r:Nat) (j:Nat)
noncomputable def cz(b:Int)(ts:B3)(n:Nat):Int:=tab (2^n) λr=>ak b (bf (ts.map λt=>ak t (r:Nat)))
theorem Sh(h:r<2^ep):ak (g8 ep j) (r:Nat)=ak (r:Nat) (j:Nat):=iw (λ_=>aO _ _) h
theorem Ib(n j:Nat):0<=g8 n j:=ql λ_=>aO _ _
theorem Vw(n j:Nat):g8 n j<2^2^n:=De λ_=>aO _ _
theorem Wh{ts:B3}(h:r<2^ep):ak (cz b ts ep) (r:Nat)=ak b (bf (ts.map λt=>ak t (r:Nat))):=iw (λ_=>aO _ _) h
theorem Le(b:Int)(ts:B3)(n:Nat):0<=cz b ts n:=ql λ_=>aO _ _
theorem YZ(b:Int)(ts:B3)(n:Nat):cz b ts n<2^2^n:=De λ_=>aO _ _
theorem Je(r j:Nat):ak (r:Nat) (j:Nat)=((r / 2^j % 2:Nat):Int):=by
 rw[ak,cc];simp
theorem zT:(List.range ep).map (λj=>ak (r:Nat) (j:Nat))=bx ep r:=by
 exact bt λj _=>Je r j
theorem uF{xs:B3}(h:bQ xs):bx xs.length (bf xs).toNat=xs:=by
 refine List.ext_getElem (bF _ _) λj l Z=>?_;have i:=Az h (ai Z);have Y:=jG h.nn;have e:(bx xs.length (bf xs).toNat)[j]=ak (((bf xs).toNat:Nat):Int) (j:Nat):=by
  simp only[bx,List.getElem_map,List.getElem_range,Je]
 rw[e,nk Y];exact i
theorem Jv{xs:B3}(h:bQ xs):∃r:Nat,r<2^xs.length/\bf xs=(r:Nat)/\bx xs.length r=xs:=by
 have Y:=jG h.nn;have Z:=zA h;refine ⟨(bf xs).toNat,?_,(nk Y).symm,uF h⟩;have e:((2:Int)^xs.length)=(((2^xs.length:Nat)):Int):=by simp
 lia
theorem bQ.bx:bQ (bx ep r):=λ_ Y=>j7 Y
noncomputable def rQ(xs:B3):B3:=xs.map λx=>1 - x
theorem TV(r:Int):ak 0 r=0:=by unfold ak;simp
noncomputable def kW(j:Nat)(w:Int)(xs:B3):B3:=xs.take j++w::xs.drop j
theorem S6(f:Int->Int)(j:Nat)(w:Int)(xs:B3):(kW j w xs).map f=kW j (f w) (xs.map f):=by
 unfold kW;rw[aS,a7,wm,List.map_drop]
theorem JK{xs:B3}(h:j<=xs.length):(kW j b xs).length=xs.length+1:=by
 rw[kW,ar,a6,cp,lT];lia
noncomputable def Vv(n:Nat)(w:Int):Int:=if w=1 then 2^2^n - 1 else 0
theorem V2(h:r<m):ak (2^m - 1) (r:Nat)=1:=by
 have e:=Tf (la 0) (two_pos m) h;rw[TV] at e;simpa using e
theorem U7{w:Int}(Y:w=0\/w=1)(h:r<2^ep):ak (Vv ep w) (r:Nat)=w:=by
 unfold Vv;rcases Y with rfl | rfl
 . rw[if_neg (by decide)];exact TV _
 . rw[if_pos rfl];exact V2 h
noncomputable def d9(n:Nat)(b:Int)(j:Nat)(w:Int):Int:=cz b (kW j (Vv n w) ((List.range n).map λi=>g8 n i)) n
theorem Qw(n:Nat)(b:Int)(j:Nat)(w:Int):0<=d9 n b j w:=Le _ _ _
theorem acx(n:Nat)(b:Int)(j:Nat)(w:Int):d9 n b j w<2^2^n:=YZ _ _ _
theorem aah{w:Int}(Z:w=0\/w=1)(Y:r<2^ep):ak (d9 ep b j w) (r:Nat)=ak b (bf (kW j w (bx ep r))):=by
 rw[d9,Wh Y,S6,U7 Z Y,cy,<- zT];congr 3;exact bt λi _=>Sh Y
noncomputable def zm:ab:=(.tuple [(.int 2),(.int 8)])
noncomputable def pL:ab:=(.tuple [(.str "low"),(.str "high"),(.str "turn"),(.str "rise"),(.str "even")])
noncomputable def dO:ab:=(.tuple [(.int 2),(.int 7)])
noncomputable def gk:ab:=(.tuple [(.int 1),(.int 1)])
noncomputable def pR:List (Str×ab):=[("low",(.tuple [(.int 1),(.tuple [(.int 0)])])),("high",(.tuple [(.int 1),(.tuple [(.int 1)])])),("turn",(.tuple [(.int 2),(.tuple [(.int 1),(.int 2)])])),("rise",(.tuple [(.int 2),(.tuple [(.int 0),(.int 2),(.int 3)])])),("even",(.tuple [(.int 4),(.tuple [(.int 0),(.int 3),(.int 5),(.int 6),(.int 9),(.int 10),(.int 12),(.int 15)])]))]
noncomputable def fQ:B4->x8 ab:=fnR 1 (bz (nC (Ei "int" (aj 0)) (lZ (Ei "bool" (aj 0)))))
noncomputable def iK:B4->x8 ab:=fnR 2 (bz (nC (aL fQ [(aj 0)]) (Bl leD ltD (eC (.int 0)) (aj 0) (aj 1))))
noncomputable def jA:B4->x8 ab:=fnR 2 (bz (nC (Ei "tuple" (aj 0)) (ao eqD (eFn fG [(aj 0)]) (aj 1))))
noncomputable def jJ:B4->x8 ab:=fnR 3 (aJ (aZ 1 (eC (.int 1)))
 (aJ (cI (ir (aj 0)) (gN 2) [2] (aZ 1 (ao lB (eC (.int 2)) (aj 1))))
 (bz (aj 1))))
noncomputable def jD:B4->x8 ab:=fnR 3 (aJ (aZ 1 (eC (.int 2)))
 (aJ (cI (ir (aj 0)) (gN 2) [2] (aZ 1 (ao lB (aj 1) (aj 1))))
 (bz (aj 1))))
noncomputable def gZ:B4->x8 ab:=fnR 1 (bz (ao iQ (aL jD [(aj 0)]) (eC (.int 1))))
noncomputable def tU:B4->x8 ab:=fnR 1 (bz (nC (aL jA [(aj 0),(eC (.int 2))]) (nC (aL iK [(ao xt (aj 0) (eC (.int 0))),(ao cG (eC (.int 4)) (eC (.int 1)))]) (aL iK [(ao xt (aj 0) (eC (.int 1))),(aL jD [(ao xt (aj 0) (eC (.int 0)))])]))))
noncomputable def Dg:B4->x8 ab:=fnR 2 (bz (ao su (ao wu (aj 0) (aj 1)) (eC (.int 1))))
noncomputable def o4:B4->x8 ab:=fnR 3 (aJ (aZ 1 (eC (.int 0)))
 (aJ (cI (itV (aj 0)) (gN 2) [2] (aZ 1 (ao cG (ao lB (eC (.int 2)) (aj 1)) (aj 2))))
 (bz (aj 1))))
noncomputable def lX:B4->x8 ab:=fnR 2 (bz (aL o4 [(cA (ir (aL jJ [(aj 0)])) (gN 0) (eC (.bool true)) (aL Dg [(aj 0),(aj 1)]) 1 [1])]))
noncomputable def jg:B4->x8 ab:=fnR 1 (bz (cA (ir (aj 0)) (gN 0) (eC (.bool true)) (aL lX [(aj 1),(aj 0)]) 1 [0]))
noncomputable def pC:B4->x8 ab:=fnR 5 (aJ (aZ 3 (cA (ir (aL jJ [(ao xt (aj 0) (eC (.int 0)))])) (gN 0) (eC (.bool true)) (ao lB (aj 1) (aL Dg [(ao xt (aj 2) (eC (.int 1))),(aj 0)])) 1 [2,0]))
 (aJ (cI (itL (aj 1)) (gN 4) [4] (aZ 3 (cA (Ag (eC (.int 0)) (eFn fG [(aj 3)]) (eC (.int 2))) (gN 0) (eC (.bool true)) (ao orD (ao su (ao xt (aj 1) (aj 0)) (eUn acQ (aj 2))) (ao su (ao xt (aj 1) (ao cG (aj 0) (eC (.int 1)))) (aj 2))) 1 [3,4])))
 (bz (ao xt (aj 3) (eC (.int 0))))))
noncomputable def o8:B4->x8 ab:=fnR 3 (bz (aL pC [(aj 0),(aj 1),(aL gZ [(aj 2)])]))
noncomputable def jt:B4->x8 ab:=fnR 5 (aJ (aZ 3 (ao iQ (ao xt (aj 0) (eC (.int 0))) (eC (.int 1))))
 (aJ (aZ 4 (aL jg [(aj 3)]))
 (aJ (Pr 4 (aj 1) (eIf (ao eqD (aj 2) (eC (.int 1))) (aL gZ [(aj 3)]) (eC (.int 0))))
 (bz (bK [(aj 3),(aL o8 [(aj 0),(aj 4),(aj 3)])])))))
noncomputable def tX:B4->x8 ab:=fnR 3 (aJ (sIf (eOr (lZ (eUn oE (aL jA [(aj 0),(eC (.int 2))]))) (lZ (eUn oE (aL tU [(ao xt (aj 0) (eC (.int 0)))])))) (bz (eC (.bool false))) cu)
 (aJ (aZ 2 (ao xt (aj 0) (eC (.int 0))))
 (aJ (sIf (lZ (eUn oE (aL jA [(ao xt (aj 0) (eC (.int 1))),(ao xt (aj 2) (eC (.int 0)))]))) (bz (eC (.bool false))) cu)
 (bz (eFn U3 [(cA (itL (ao xt (aj 0) (eC (.int 1)))) (gN 0) (eC (.bool true)) (aL iK [(aj 0),(aj 1)]) 1 [1])])))))
noncomputable def m5:B4->x8 ab:=fnR 5 (aJ (sIf (eOr (lZ (eUn oE (aL jA [(aj 0),(eC (.int 3))]))) (lZ (eUn oE (aL iK [(ao xt (aj 0) (eC (.int 0))),(ao cG (eC (.int 4)) (eC (.int 1)))])))) (bz (eC (.bool false))) cu)
 (aJ (aZ 1 (ao xt (aj 0) (eC (.int 0))))
 (aJ (aZ 2 (ao xt (aj 0) (eC (.int 1))))
 (aJ (sIf (eOr (lZ (Ei "tuple" (aj 2))) (ao gtD (eFn fG [(aj 2)]) (eC (.int 600)))) (bz (eC (.bool false))) cu)
 (aJ (cI (itE (aj 2)) (gT [(gN 3),(gN 4)]) [3,4] (sIf (lZ (eUn oE (aL tX [(aj 4),(ao cG (aj 1) (aj 3))]))) (bz (eC (.bool false))) cu))
 (bz (aL iK [(ao xt (aj 0) (eC (.int 2))),(ao cG (aj 1) (eFn fG [(aj 2)]))])))))))
noncomputable def jl:B4->x8 ab:=fnR 2 (bz (bK [(ao xt (aj 0) (eC (.int 0))),(eFn gw [(cA (itL (ao xt (aj 0) (eC (.int 1)))) (gN 0) (eC (.bool true)) (ao ixY (aj 1) (aj 0)) 1 [1])])]))
noncomputable def dq:B4->x8 ab:=fnR 6 (aJ (aZ 4 (eFn BW [(aj 3)]))
 (aJ (cI (itL (ao xt (aj 2) (eC (.int 1)))) (gN 5) [5] (aJ (my 0 (aL jl [(aj 5),(aj 4)]))
 (my 4 (ao iQ (ao cG (aj 1) (eFn fG [(aj 0)])) (eC (.int 1))))))
 (Dk 0 (ao xt (aj 4) (ao xt (aj 2) (eC (.int 2)))))))
noncomputable def m9:B4->x8 ab:=fnR 6 (aJ (aZ 2 (ao xt (aj 0) (eC (.int 0))))
 (aJ (aZ 3 (eUn lrD (aj 2)))
 (aJ (aZ 4 (bR []))
 (aJ (cI (itL (ao xt (aj 0) (eC (.int 1)))) (gN 5) [5] (Hu 3 4 dq [(aj 4),(aj 2),(Kv 1 (ao xt (aj 5) (eC (.int 0)))),(cA (itL (ao xt (aj 5) (eC (.int 1)))) (gN 0) (eC (.bool true)) (ao xt (aj 1) (aj 0)) 1 [3])]))
 (bz (bK [(aj 2),(eFn gw [(aj 4)]),(ao xt (aj 3) (ao xt (aj 0) (eC (.int 2))))]))))))
noncomputable def iV:B4->x8 ab:=fnR 7 (aJ (aZ 1 (ao xt (aj 0) (eC (.int 0))))
 (aJ (aZ 2 (eUn lrD (aj 1)))
 (aJ (aZ 3 (bR []))
 (aJ (aZ 4 (jy []))
 (aJ (cI (itL (ao xt (aj 0) (eC (.int 1)))) (gN 5) [5,6] (aJ (aZ 6 (aL jl [(aj 5),(aj 2)]))
 (aJ (sIf (yI 4 (aj 6)) (aJ (Ht 4 (aj 6) (ao cG (aj 1) (eFn fG [(aj 3)])))
 (my 3 (aj 6))) cu)
 (my 2 (Qj 4 (aj 6))))))
 (bz (bK [(aj 1),(eFn gw [(aj 3)]),(ao xt (aj 2) (ao xt (aj 0) (eC (.int 2))))])))))))
noncomputable def m8:B4->x8 ab:=fnR 6 (aJ (aZ 1 (ao xt (aj 0) (eC (.int 0))))
 (aJ (aZ 2 (ao xt (aj 0) (eC (.int 1))))
 (aJ (aZ 3 (Hm (ao xt (aj 0) (eC (.int 2))) (eC (.bool true))))
 (aJ (cI (Ag (ao iQ (eFn fG [(aj 2)]) (eC (.int 1))) (eUn Jd (eC (.int 1))) (eUn Jd (eC (.int 1)))) (gN 4) [4,5] (sIf (ao inY (ao cG (aj 1) (aj 4)) (aj 3)) (cI (itL (ao xt (ao xt (aj 2) (aj 4)) (eC (.int 1)))) (gN 5) [5] (iW 3 (aj 5) (eC (.bool true)))) cu))
 (bz (aj 3))))))
noncomputable def fL:B4->x8 ab:=fnR 8 (aJ (aZ 1 (ao xt (aj 0) (eC (.int 0))))
 (aJ (aZ 2 (aL m8 [(aj 0)]))
 (aJ (aZ 3 (jy []))
 (aJ (cI (ir (aj 1)) (gN 4) [4] (iW 3 (aj 4) (aj 4)))
 (aJ (aZ 5 (bR []))
 (aJ (cI (itE (ao xt (aj 0) (eC (.int 1)))) (gT [(gN 6),(gN 7)]) [6,7] (sIf (ao inY (ao cG (aj 1) (aj 6)) (aj 2)) (aJ (my 5 (aL jl [(aj 7),(aj 3)]))
 (iW 3 (ao cG (aj 1) (aj 6)) (ao iQ (ao cG (aj 1) (eFn fG [(aj 5)])) (eC (.int 1))))) cu))
 (bz (bK [(aj 1),(eFn gw [(aj 5)]),(ao ixY (aj 3) (ao xt (aj 0) (eC (.int 2))))]))))))))
noncomputable def nZ:B4->x8 ab:=fnR 1 (bz (aL fL [(aL iV [(aj 0)])]))
noncomputable def jq:Nat->B4->x8 ab
 | 0=>λ_=>.bad
 | fu+1=>fnR 5 (aJ (sIf (eUn oE (aL fQ [(aj 2)])) (Dk 0 (aj 2)) cu)
  (aJ (aZ 3 (bR []))
  (aJ (cI (itL (ao xt (aj 2) (eC (.int 1)))) (gN 4) [4] (Hu 3 0 (jq fu) [(aj 0),(aj 1),(aj 4)]))
  (aJ (my 0 (bK [(ao xt (aj 2) (eC (.int 0))),(eFn gw [(aj 3)])]))
  (Dk 0 (ao iQ (ao cG (aj 1) (eFn fG [(aj 0)])) (eC (.int 1))))))))
noncomputable def jb:B4->x8 ab:=fnR 4 (aJ (aZ 2 (bR []))
 (aJ (Cd 3 2 (jq 100) [(aj 2),(aj 1),(aj 0)])
 (bz (bK [(aj 1),(eFn gw [(aj 2)]),(aj 3)]))))
noncomputable def vD:B4->x8 ab:=fnR 3 (aJ (aZ 1 (jy []))
 (aJ (cI (itL (aj 0)) (gN 2) [2] (iW 1 (aj 2) (eC (.bool true))))
 (bz (aj 1))))
noncomputable def qm:B4->x8 ab:=fnR 3 (bz (aL pC [(aj 0),(aj 1),(ao iQ (aL jJ [(aj 2)]) (eC (.int 1)))]))
noncomputable def zB:B4->x8 ab:=fnR 4 (aJ (aZ 2 (eC (.int 1)))
 (aJ (cI (ir (aj 1)) (gN 3) [3] (aZ 2 (ao lB (aj 0) (aj 2))))
 (bz (aj 2))))
noncomputable def je:B4->x8 ab:=fnR 2 (bz (eFn Fg [(cA (itL (aj 1)) (gN 0) (eC (.bool true)) (aL zB [(aj 1),(ao xt (aj 0) (eC (.int 0)))]) 1 [0])]))
noncomputable def iG:B4->x8 ab:=fnR 6 (aJ (aZ 1 (bR [(bR [])]))
 (aJ (cI (itL (aj 0)) (gN 2) [2,3,4,5] (aJ (aZ 3 (bR []))
 (aJ (cI (itL (aj 1)) (gN 4) [4,5] (cI (itL (aj 2)) (gN 5) [5] (my 3 (ao cG (aj 4) (bR [(aj 5)])))))
 (aZ 1 (aj 3)))))
 (bz (aj 1))))
noncomputable def rO:B4->x8 ab:=fnR 6 (aJ (aZ 2 (ao xt (aj 1) (eC (.int 0))))
 (aJ (aZ 3 (ao xt (aj 1) (eC (.int 1))))
 (aJ (sIf (ao gtD (aL je [(eFn fG [(aj 3)]),(bR [(aj 0)])]) (eC (.int 20000))) DW cu)
 (aJ (aZ 4 (aL vD [(aj 3)]))
 (aJ (cI (itL (aL iG [(ao vo (bR [(aj 3)]) (ao xt (aj 0) (eC (.int 0))))])) (gN 5) [5] (sIf (ao lK (aL qm [(aj 0),(aj 5),(aj 2)]) (aj 4)) (bz (aj 5)) cu))
 (bz (eC .none)))))))
noncomputable def lU:B4->x8 ab:=fnR 5 (aJ (aZ 3 (bR []))
 (aJ (cI (ir (aj 2)) (gN 4) [4] (Ow 3 (aL iG [(ao cG (ao cG (ao vo (bR [(aj 0)]) (aj 4)) (bR [(aj 1)])) (ao vo (bR [(ao cG (aj 0) (aj 1))]) (ao iQ (ao iQ (aj 2) (aj 4)) (eC (.int 1)))))])))
 (bz (aj 3))))
noncomputable def fB:B4->x8 ab:=fnN 2 (sIf (eOr (ao gtD (aj 0) (eC (.int 128))) (ao gtD (aL je [(aj 0),(aj 1)]) (eC (.int 20000)))) DW cu)
noncomputable def mJ:B4->x8 ab:=adn 3 0 (sIf (eOr (ao lK (aj 1) (aj 0)) (ao ltD (ao xt (aj 2) (eC (.int 0))) (ao xt (ao ixY (aj 0) (aj 1)) (eC (.int 0))))) (iW 0 (aj 1) (aj 2)) cu)
noncomputable def jX:B4->x8 ab:=fnR 5 (aJ (aZ 2 (jy []))
 (aJ (cI (itL (aL jg [(aj 1)])) (gN 3) [3] (yu 2 mJ [(aj 2),(aj 3),(bK [(eC (.int 0)),(eC .none),(bK [])])]))
 (aJ (cI (itL (aj 0)) (gN 4) [4] (sIf (ao eqD (ao xt (aj 4) (eC (.int 0))) (eC (.int 0))) (yu 2 mJ [(aj 2),(aL o8 [(aj 4),(bR []),(aj 1)]),(bK [(eC (.int 1)),(aj 4),(bK [])])]) cu))
 (bz (aj 2)))))
noncomputable def jF:B4->x8 ab:=fnR 9 (aJ (aZ 4 (cA (itK 0) (gN 0) (ao neD (aj 0) (aj 1)) (aj 0) 1 [1]))
 (aJ (aZ 5 (bR []))
 (aJ (cI (itL (aL lU [(aj 4),(bR [(aj 1)]),(ao xt (aj 2) (eC (.int 0)))])) (gN 6) [6,7,8] (aJ (aZ 7 (aL o8 [(aj 2),(aj 6),(aj 3)]))
 (sIf (ao lK (aj 7) (aj 0)) (aJ (aZ 8 (ao cG (eC (.int 1)) (eFn Fg [(cA (itL (aj 6)) (gN 0) (eC (.bool true)) (ao xt (ao ixY (aj 1) (aj 0)) (eC (.int 0))) 1 [0])])))
 (my 5 (bK [(aj 7),(bK [(aj 8),(aj 2),(eFn gw [(aj 6)])])]))) cu)))
 (bz (aj 5)))))
noncomputable def pq:B4->x8 ab:=fnR 8 (aJ (aZ 2 (jy []))
 (aJ (aZ 3 (aL jX [(aj 0),(aj 1)]))
 (aJ (rz 1000000 (ao gtD (eFn uE [(aj 3)]) (eC (.int 0))) [4,5,6,7] (aJ (aZ 4 (Ce 3))
 (aJ (uM 2 3 4)
 (aJ (sEx (aL fB [(eFn uE [(aj 2)]),(aj 0)]))
 (cI (itL (aj 0)) (gN 5) [5,6,7] (cI (itL (aL jF [(aj 2),(aj 4),(aj 5),(aj 1)])) (gT [(gN 6),(gN 7)]) [6,7] (yu 3 mJ [(aj 3),(aj 6),(aj 7)])))))))
 (bz (aj 2)))))
noncomputable def iu:B4->x8 ab:=fnR 7 (aJ (aZ 3 (jy []))
 (aJ (aZ 4 (bR []))
 (aJ (cI (itI 0) (gT [(gN 5),(gN 6)]) [5,6] (aJ (iW 3 (aj 5) (eFn uE [(aj 3)]))
 (sIf (ao Cm (ao xt (aj 6) (eC (.int 1))) (eC .none)) (my 4 (bK [(ao xt (aj 6) (eC (.int 1))),(eFn gw [(cA (itL (ao xt (aj 6) (eC (.int 2)))) (gN 0) (eC (.bool true)) (ao ixY (aj 1) (aj 0)) 1 [3])])])) cu)))
 (bz (aL fL [(bK [(aj 2),(eFn gw [(aj 4)]),(ao ixY (aj 3) (aj 1))])])))))
noncomputable def Kh:B4->x8 ab:=fnR 1 (bz (eUn (V4 pR) (aj 0)))
noncomputable def jk:B4->x8 ab:=fnR 5 (aJ (cI (itE (aj 0)) (gT [(gN 2),(gN 3)]) [2,3,4] (aJ (aZ 4 (aL rO [(aj 3),(aj 1)]))
 (sIf (ao Cm (aj 4) (eC .none)) (bz (bK [(aj 2),(aj 4)])) cu)))
 (bz (eC .none)))
noncomputable def uQ:B4->x8 ab:=fnR 1 (bz (cA (itL (eC pL)) (gN 0) (eC (.bool true)) (aL jk [(aj 1),(aL Kh [(aj 0)])]) 1 [0]))
noncomputable def oY:B4->x8 ab:=fnR 1 (bz (ao lK (eC .none) (aL uQ [(aj 0)])))
noncomputable def jo:B4->x8 ab:=fnR 2 (Ck 0 [(10,.ev (eC (.int 0))),(12,.ev (eC (.int 1))),(5,.cl dq [(aj 0),(eC (.int 2)),(ao xt (aj 1) (eC (.int 1))),(bR [(eC (.int 0))])]),(3,.cl dq [(aj 0),(eC (.int 2)),(ao xt (aj 1) (eC (.int 1))),(bR [(eC (.int 1))])]),(0,.cl dq [(aj 0),(eC (.int 2)),(ao xt (aj 1) (eC (.int 0))),(bR [(eC (.int 0))])]),(15,.cl dq [(aj 0),(eC (.int 2)),(ao xt (aj 1) (eC (.int 3))),(bR [(eC (.int 0))])])])
noncomputable def jj:B4->x8 ab:=fnR 4 (aJ (cI (itL (aj 1)) (gN 3) [3] (sIf (ao eqD (aL o8 [(aj 0),(aj 3),(eC (.int 2))]) (aj 2)) (bz (aj 3)) cu))
 (bz (eC .none)))
noncomputable def fO:B4->x8 ab:=fnR 8 (aJ (aZ 2 (bR []))
 (aJ (Cd 3 2 jo [(aj 2),(aj 1)])
 (aJ (aZ 4 (aL iG [(ao vo (bR [(eFn PJ [(aj 3)])]) (ao xt (aj 0) (eC (.int 0))))]))
 (aJ (aZ 5 (aL jj [(aj 0),(aj 4),(ao xt (eC dO) (eC (.int 1)))]))
 (aJ (aZ 6 (eIf (ao v5 (aj 5) (eC .none)) (aL jj [(aj 0),(aj 4),(ao xt (eC zm) (eC (.int 1)))]) (aj 5)))
 (aJ (my 2 (bK [(aj 0),(eFn gw [(cA (itL (aj 6)) (gN 0) (eC (.bool true)) (ao ixY (aj 1) (aj 0)) 1 [3])])]))
 (aJ (aZ 7 (ao cG (eFn fG [(aj 2)]) (eC (.int 1))))
 (aJ (sIf (ao v5 (aj 5) (eC .none)) (Cd 7 2 dq [(aj 2),(eC (.int 2)),(ao xt (aj 1) (eC (.int 1))),(bR [(aj 7)])]) cu)
 (bz (aL nZ [(bK [(eC (.int 2)),(eFn gw [(aj 2)]),(aj 7)])]))))))))))
noncomputable def cH:B4->x8 ab:=fnR 1 (aJ (sIf (nC (lZ (eUn oE (aL fQ [(aj 0)]))) (ao eqD (ao xt (aj 0) (eC (.int 0))) (eC gk))) (bz (ao xt (ao xt (aj 0) (eC (.int 1))) (eC (.int 0)))) cu)
 (bz (bK [(eC gk),(bK [(aj 0)])])))
noncomputable def sG(pt:B4->x8 ab):B4->x8 ab:=fnR 2 (aJ (sIf (ao eqD (ao xt (aj 0) (eC (.int 1))) (eC (.int 0))) (bz (bR [])) cu)
 (aJ (sIf (ao eqD (ao xt (aj 0) (eC (.int 1))) (aL gZ [(ao xt (aj 0) (eC (.int 0)))])) (bz (bR [(aL cH [(aj 1)])])) cu)
 (bz (bR [(bK [(eC dO),(bK [(aj 1),(aL pt [(aj 0)])])])]))))
noncomputable def cF:Nat->B4->x8 ab
 | 0=>λ_=>.bad
 | fu+1=>fnR 5 (aJ (aZ 1 (ao iQ (ao xt (aj 0) (eC (.int 0))) (eC (.int 1))))
  (aJ (aZ 2 (aL jt [(aj 0),(aj 1),(eC (.int 0))]))
  (aJ (aZ 3 (aL jt [(aj 0),(aj 1),(eC (.int 1))]))
  (aJ (sIf (ao eqD (aj 2) (aj 3)) (bz (aL (cF fu) [(aj 2)])) cu)
  (aJ (aZ 4 (ao cG (aL (sG (cF fu)) [(aj 2),(aL cH [(aj 1)])]) (aL (sG (cF fu)) [(aj 3),(aj 1)])))
  (aJ (sIf (ao eqD (eFn fG [(aj 4)]) (eC (.int 1))) (bz (aL cH [(ao xt (aj 4) (eC (.int 0)))])) cu)
  (bz (bK [(eC dO),(eFn gw [(aj 4)])]))))))))
noncomputable def oX:B4->x8 ab:=fnR 2 (aJ (aZ 1 (bK [(eC dO),(bK [(eC (.int 0)),(aL cH [(eC (.int 0))])])]))
 (aJ (sIf (ao eqD (ao xt (aj 0) (eC (.int 1))) (aL gZ [(ao xt (aj 0) (eC (.int 0)))])) (bz (aj 1)) cu)
 (bz (eIf (ao eqD (ao xt (aj 0) (eC (.int 1))) (eC (.int 0))) (aL cH [(aj 1)]) (aL (cF 8) [(aj 0)])))))
noncomputable def qO:B4->x8 ab:=fnR 9 (aJ (aZ 2 (aL uQ [(aj 0)]))
 (aJ (cI (U4 (eC pL) (aj 2)) (gT [(gN 3),(gN 4)]) [3,4] (sIf (ao v5 (aj 4) (eC .none)) DW cu))
 (aJ (aZ 5 (aL pq [(aj 0),(eC (.int 1))]))
 (aJ (aZ 6 (cA (ir (eC (.int 4))) (gN 0) (eC (.bool true)) (aL iu [(aj 1),(aj 0),(eC (.int 1))]) 1 [5]))
 (aJ (aZ 7 (ao xt (aj 0) (ao xt (ao xt (aj 2) (eC (.int 4))) (eC (.int 0)))))
 (aJ (yP 8 [((eC gk),(ao xt (aj 6) (eC (.int 1)))),((eC dO),(aL fO [(aj 7),(aj 6)]))])
 (bz (aL nZ [(Kw m9 (aL jb [(aL oX [(aj 1)]),(ao xt (aj 1) (eC (.int 0)))]) 8)]))))))))
end Zq
theorem Zq.sizeLine_eq:ba=16777216:=by decide
namespace Zq
open PySem PySem.Spec PyProof.Rows
variable {o:Option ab}{Γ:Ev}
theorem aa8:gv (o::Γ) 0=o:=rfl
variable {i:Nat}
theorem aa7:gv (o::Γ) (i+1)=gv Γ i:=rfl
theorem Rt{d:ab}:aj 0 (some d::Γ)= .ok d:=rfl
theorem RW:aj (i+1) (o::Γ)=aj i Γ:=rfl
theorem Bu{d:ab}:eC d Γ = .ok d:=rfl
theorem Ir{f:C8}{a b:ME}:ao f a b Γ=(a Γ).bind λx=>(b Γ).bind λy=>f x y:=rfl
theorem Z4{f:C9}{a:ME}:eUn f a Γ=(a Γ).bind f:=rfl
variable {ms:List ME}
theorem aaP{f:B4->x8 ab}:eFn f ms Γ=(evs ms Γ).bind f:=rfl
theorem mD{f:B4->x8 ab}:aL f ms Γ=(evs ms Γ).bind f:=rfl
theorem YL:evs [] Γ = .ok []:=rfl
variable {m:ME}
theorem Ay:evs (m::ms) Γ=(m Γ).bind λd=>(evs ms Γ).bind λds=>.ok (d::ds):=rfl
theorem V9:bK ms Γ=(evs ms Γ).bind λds=>.ok (.tuple ds):=rfl
theorem VB:bR ms Γ=(evs ms Γ).bind λds=>.ok (.list ds):=rfl
theorem XC{T:String}:Ei T m Γ=(m Γ).bind λd=>.ok (.bool (fX T d)):=rfl
noncomputable def bT(x:ab)(a b:x8 ab):x8 ab:=match x with
 | .bool true=>a
 | .bool false=>b
 | _=>.bad
noncomputable def bS(x:ab)(a b:x8 Out):x8 Out:=match x with
 | .bool true=>a
 | .bool false=>b
 | _=>.bad
theorem Zv{a b:x8 ab}:bT (.bool true) a b=a:=rfl
theorem Xy{a b:x8 ab}:bT (.bool false) a b=b:=rfl
theorem N6{a b:x8 Out}:bS (.bool true) a b=a:=rfl
theorem JR{a b:x8 Out}:bS (.bool false) a b=b:=rfl
theorem Jy{c:Bool}{a b:x8 ab}:bT (.bool c) a b=if c=true then a else b:=by cases c <;> rfl
theorem CQ{c:Bool}{a b:x8 Out}:bS (.bool c) a b=if c=true then a else b:=by cases c <;> rfl
variable {c:ME}
theorem aaA{b:ME}:eIf c m b Γ=(c Γ).bind λx=>bT x (m Γ) (b Γ):=by
 rfl
theorem W7:nC m c Γ=(m Γ).bind λx=>bT x (c Γ) (.ok (.bool false)):=by
 rfl
theorem aa6{a b:ME}:eOr a b Γ=(a Γ).bind λx=>bT x (.ok (.bool true)) (b Γ):=by
 unfold eOr;congr 1;funext x;cases x <;> first | rfl | (rename_i b;cases b <;> rfl)
noncomputable def ac6:ab->x8 ab
 | .bool t=>.ok (.bool (!t))
 | _=>.bad
theorem W3{t:Bool}:ac6 (.bool t)= .ok (.bool (!t)):=rfl
theorem Ux:lZ m Γ=(m Γ).bind ac6:=rfl
theorem aaK{lo Y:MO}:eSl m lo Y Γ=(m Γ).bind λd=>(lo Γ).bind λl=>(Y Γ).bind λh=>slD d l h:=rfl
theorem RZ:Qh Γ = .ok none:=rfl
noncomputable def abn:ab->x8 C3
 | .int i=>.ok (some i)
 | _=>.bad
theorem Wx{i:Int}:abn (.int i)= .ok (some i):=rfl
theorem Q9:Qo m Γ=(m Γ).bind abn:=rfl
noncomputable def Xr(b:MS):Out->x8 Out
 | .nx Γ'=>b Γ'
 | .rt d=>.ok (.rt d)
 | .bk Γ'=>.ok (.bk Γ')
 | .ct Γ'=>.ok (.ct Γ')
theorem lr{b:MS}:Xr b (.nx Γ)=b Γ:=rfl
theorem aa2{b:MS}{d:ab}:Xr b (.rt d)= .ok (.rt d):=rfl
theorem gm{a b:MS}:aJ a b Γ=(a Γ).bind (Xr b):=by
 rfl
theorem aaT{α:Type}{r:x8 α}:gd True r=r:=rfl
theorem Aj:aZ i m Γ=(m Γ).bind λd=>gd (i < Γ.length) (.ok (.nx (Γ.set i (some d)))):=rfl
theorem Nx{a b:MS}:sIf c a b Γ=(c Γ).bind λx=>bS x (a Γ) (b Γ):=by
 rfl
theorem Xm:bz m Γ=(m Γ).bind λd=>.ok (.rt d):=rfl
theorem Xh:cu Γ = .ok (.nx Γ):=rfl
variable {it:MI}{g:MG}{cl:B5}
theorem Xp{b:MS}:cI it g cl b Γ=(it Γ).bind λxs=>forR g cl b xs Γ:=rfl
noncomputable def fin:Out->x8 ab
 | .rt d=>.ok d
 | _=>.bad
theorem adl{d:ab}:fin (.rt d)= .ok d:=rfl
variable {ds:B4}
theorem MN{m:MS}:fnR i m ds=(m (ds.map some++aw (i - ds.length) none)).bind fin:=by
 rfl
noncomputable def ab5:Out->x8 ab
 | .rt d=>.ok d
 | .nx _=>.ok .none
 | _=>.bad
theorem aaZ:ab5 (.nx Γ)= .ok .none:=rfl
theorem Z7{m:MS}:fnN i m ds=(m (ds.map some++aw (i - ds.length) none)).bind ab5:=by
 rfl
noncomputable def acB(Γ:Ev)(i:Nat)(d:ab):Option ab->x8 Out
 | some (.list ds)=>gd (ds.length<ba/\i < Γ.length) (.ok (.nx (Γ.set i (some (.list (ds++[d]))))))
 | _=>.bad
theorem V7{d:ab}:acB Γ i d (some (.list ds))=gd (ds.length<ba/\i < Γ.length) (.ok (.nx (Γ.set i (some (.list (ds++[d])))))):=rfl
theorem W9:my i m Γ=(m Γ).bind λd=>acB Γ i d (gv Γ i):=by
 rfl
theorem BV{d:ab}:gN i d Γ=gd (i < Γ.length) (.ok (Γ.set i (some d))):=rfl
theorem abF{gs:List MG}:gT gs (.tuple ds) Γ=gTs gs ds Γ:=rfl
theorem aaI:gTs [] [] Γ = .ok Γ:=rfl
theorem Xk{gs:List MG}{d:ab}:gTs (g::gs) (d::ds) Γ=(g d Γ).bind λΓ'=>gTs gs ds Γ':=rfl
noncomputable def Ao:ab->x8 B4
 | .list ds=>.ok ds
 | .tuple ds=>.ok ds
 | _=>.bad
theorem Uh:Ao (.list ds)= .ok ds:=rfl
theorem Py:Ao (.tuple ds)= .ok ds:=rfl
theorem Nf:itL m Γ=(m Γ).bind Ao:=by
 rfl
noncomputable def upN(n:Nat):B4:=(List.range n).map λi=>ab.int (i:Nat)
noncomputable def Qt:ab->x8 B4
 | .int j=>gd (-(2^62)<=j/\j<2^62) (.ok (upN j.toNat))
 | _=>.bad
theorem Wb{j:Int}:Qt (.int j)=gd (-(2^62)<=j/\j<2^62) (.ok (upN j.toNat)):=rfl
theorem dw(h:i<2^62):Qt (.int (i:Nat))= .ok (upN i):=by
 rw[Wb,bB (by lia),cc]
theorem Wn:ir m Γ=(m Γ).bind Qt:=by
 unfold ir;congr 1;funext d
 cases d with
 | int j=>show gd _ _=gd _ _;congr 2;unfold upN;simp only[Int.zero_add]
 | _=>rfl
noncomputable def acu:ab->x8 B4
 | .list ds=>.ok ds.reverse
 | _=>.bad
theorem Xv:acu (.list ds)= .ok ds.reverse:=rfl
theorem YD:itV m Γ=(m Γ).bind acu:=by
 rfl
theorem ZV:clr [] Γ=Γ:=rfl
theorem W4:clr (i::cl) Γ=clr cl (Γ.set i none):=rfl
variable {a b:Int}
theorem U9:cG (.int a) (.int b)= .ok (.int (a+b)):=rfl
theorem Vh:iQ (.int a) (.int b)= .ok (.int (a - b)):=rfl
theorem Wt:lB (.int a) (.int b)=gd (q9 a b) (.ok (.int (a*b))):=rfl
theorem RB:kO (.int a) (.int b)=gd (Ds a b) (.ok (.int (a / b))):=rfl
theorem U0:jM (.int a) (.int b)=gd (0<b) (.ok (.int (a % b))):=rfl
theorem UJ:Ak (.int a) (.int b)=gd (Ec a b) (.ok (.int (a*2^b.toNat))):=rfl
theorem Vk:wu (.int a) (.int b)=gd (0<=b) (.ok (.int (a / 2^b.toNat))):=rfl
theorem VJ:su (.int a) (.int b)= .ok (.int (fE a b)):=rfl
theorem aaE:orD (.int a) (.int b)= .ok (.int (i9 a b)):=rfl
theorem Yz:ltD (.int a) (.int b)= .ok (.bool (decide (a<b))):=rfl
theorem aaw:leD (.int a) (.int b)= .ok (.bool (decide (a<=b))):=rfl
theorem Zn:gtD (.int a) (.int b)= .ok (.bool (decide (b<a))):=rfl
theorem qy:dr (.int a)=true:=by rw[dr,iL,ab.depth];rfl
theorem aak:eqD (.int a) (.int b)= .ok (.bool (decide (a=b))):=by
 rw[eqD,bB ⟨qy,qy⟩,eP];congr 2
theorem YS:neD (.int a) (.int b)= .ok (.bool (!decide (a=b))):=by
 rw[neD,bB ⟨qy,qy⟩,eP];congr 2
mutual
noncomputable def plain:ab->Bool
 | .int _=>true
 | .none=>true
 | .list ds=>iz ds
 | .tuple ds=>iz ds
 | .bool _=>false
 | .str _=>false
 | .dict _=>false
noncomputable def iz:B4->Bool
 | []=>true
 | d::ds=>plain d&&iz ds
end
mutual
theorem FW:∀(d:ab),plain d=true->d.canLay0=true
 | .int _,_=>by rw[iL]
 | .none,_=>by rw[iL]
 | .list ds,h=>by rw[iL];exact vG ds (by rwa [plain] at h)
 | .tuple ds,h=>by rw[iL];exact vG ds (by rwa [plain] at h)
 | .bool _,h=>by rw[plain] at h;cases h
 | .str _,h=>by rw[plain] at h;cases h
 | .dict _,h=>by rw[plain] at h;cases h
theorem vG:∀(ds:B4),iz ds=true->gi ds=true
 | [],_=>by rw[gi]
 | d::ds,h=>by
  rw[iz,c9] at h;rw[gi,FW d h.1,vG ds h.2];rfl
end
mutual
theorem mQ:∀(d e:ab),plain d=true->plain e=true->(eP d e=true↔d=e)
 | .int a,.int b,_,_=>by rw[eP];simp
 | .none,.none,_,_=>by rw[eP];simp
 | .list ds,.list es,h,g=>by
  rw[plain] at h g;rw[eP,vW ds es h g];exact ⟨λz=>by rw[z],λz=>by cases z;rfl⟩
 | .tuple ds,.tuple es,h,g=>by
  rw[plain] at h g;rw[eP,vW ds es h g];exact ⟨λz=>by rw[z],λz=>by cases z;rfl⟩
 | .int _,.none,_,_ | .int _,.list _,_,_ | .int _,.tuple _,_,_ | .none,.int _,_,_ | .none,.list _,_,_ | .none,.tuple _,_,_
 | .list _,.int _,_,_ | .list _,.none,_,_ | .list _,.tuple _,_,_ | .tuple _,.int _,_,_ | .tuple _,.none,_,_ | .tuple _,.list _,_,_=>by
  rw[eP];exact ⟨(λz=>nomatch z),(λz=>nomatch z)⟩
 | .bool _,_,h,_=>by rw[plain] at h;cases h
 | .str _,_,h,_=>by rw[plain] at h;cases h
 | .dict _,_,h,_=>by rw[plain] at h;cases h
 | _,.bool _,_,h=>by rw[plain] at h;cases h
 | _,.str _,_,h=>by rw[plain] at h;cases h
 | _,.dict _,_,h=>by rw[plain] at h;cases h
theorem vW:∀(ds es:B4),iz ds=true->iz es=true->(qc ds es=true↔ds=es)
 | [],[],_,_=>by rw[qc];simp
 | [],_::_,_,_=>by rw[qc];simp
 | _::_,[],_,_=>by rw[qc];simp
 | d::ds,e::es,h,g=>by
  rw[iz,c9] at h g;rw[qc,c9,mQ d e h.1 g.1,vW ds es h.2 g.2];simp
end
theorem jm{d:ab}(h:plain d=true)(hd:d.depth<=64):dr d=true:=by
 rw[dr,FW d h,decide_eq_true hd];rfl
theorem uc{a b:ab}(Z:plain a=true)(Y:plain b=true)(i:a.depth<=64)(j:b.depth<=64):(eqD a b= .ok (.bool true)↔a=b)/\(eqD a b= .ok (.bool false)↔a≠b)/\(neD a b= .ok (.bool true)↔a≠b)/\(neD a b= .ok (.bool false)↔a=b):=by
 unfold eqD neD;rw[bB ⟨jm Z i,jm Y j⟩,bB ⟨jm Z i,jm Y j⟩];have h:=mQ a b Z Y
 cases q:eP a b with
 | true=>have e:=h.mp q;simp[e]
 | false=>
  have e:a≠b:=λz=>by rw[h.mpr z] at q;cases q
  simp[e]
theorem uI:∀ns:B3,iz (ns.map ab.int)=true
 | []=>by rw[ew,iz]
 | n::ns=>by rw[a7,iz,plain,uI ns];rfl
theorem vC(ns:B3):plain (.list (ns.map ab.int))=true:=by rw[plain];exact uI ns
theorem Lp(ns:B3):plain (.tuple (ns.map ab.int))=true:=by rw[plain];exact uI ns
theorem sZ(ns:B3):(ab.list (ns.map ab.int)).depth<=64:=by rw[ab.depth,qt];decide
theorem Aq(ns:B3):(ab.tuple (ns.map ab.int)).depth<=64:=by rw[ab.depth,qt];decide
theorem Mg{a b:B3}(h:a.map ab.int=b.map ab.int):a=b:=by
 have:=vp a;rw[h,vp] at this;exact (Option.some.inj this).symm
theorem RP{a b:B3}:eqD (.list (a.map ab.int)) (.list (b.map ab.int))= .ok (.bool (decide (a=b))):=by
 have h:=uc (vC a) (vC b) (sZ a) (sZ b)
 by_cases e:a=b
 . subst e;rw[h.1.mpr rfl];simp
 . rw[h.2.1.mpr λz=>e (Mg (ab.list.inj z))];simp[e]
noncomputable def il(cl:B5):Out->x8 Out
 | .nx Γ=>.ok (.nx (clr cl Γ))
 | .ct Γ=>.ok (.nx (clr cl Γ))
 | .bk Γ=>.ok (.bk (clr cl Γ))
 | .rt d=>.ok (.rt d)
theorem YJ:il cl (.nx Γ)= .ok (.nx (clr cl Γ)):=rfl
theorem Y5{d:ab}:il cl (.rt d)= .ok (.rt d):=rfl
def Goes(r:x8 Out)(P:Ev->Prop):Prop:=∃Γ,r= .ok (.nx Γ)/\P Γ
theorem Zh{P:Ev->Prop}:Goes (.ok (.nx Γ)) P↔P Γ:=⟨λY=>by obtain ⟨Z,e,h⟩:=Y;cases e;exact h,λh=>⟨Γ,rfl,h⟩⟩
variable {x:ab}{xs:B4}
theorem yR{b:MS}{Γ':Ev}(h:((g x Γ).bind b).bind (il cl)= .ok (.nx Γ')):forR g cl b (x::xs) Γ=forR g cl b xs Γ':=by
 obtain ⟨o,e,Z⟩:=x8.au h;obtain ⟨j,i,Y⟩:=x8.au e;rw[forR,i,x8.aP,Y,x8.aP];cases o <;> cases Z <;> rfl
theorem Jk{b:MS}(I:Nat->Ev->Prop):∀{xs:B4}{Γ:Ev},I 0 Γ ->
 (∀i x Γ,xs[i]?=some x->I i Γ->Goes (((g x Γ).bind b).bind (il cl)) (I (i+1)))->∃Γ',forR g cl b xs Γ = .ok (.nx Γ')/\I xs.length Γ':=by
 intro xs
 induction xs generalizing I with
 | nil=>intro Γ Y _;exact ⟨Γ,rfl,Y⟩
 | cons x xs r=>
  intro Γ Y Z;obtain ⟨o,e,q⟩:=Z 0 x Γ rfl Y;obtain ⟨Γ',p,j⟩:=r (λi=>I (i+1)) q λi y Γ l h=>Z (i+1) y Γ (by simpa using l) h;refine ⟨Γ',?_,j⟩;rw[yR e];exact p
theorem MT{b:MS}(S:Nat->Ev)(h0:Γ=S 0)
 (h:∀i x,xs[i]?=some x->((g x (S i)).bind b).bind (il cl)= .ok (.nx (S (i+1)))):forR g cl b xs Γ = .ok (.nx (S xs.length)):=by
 obtain ⟨Y,e,l⟩:=Jk (λi Γ=>Γ=S i) h0 λi x Γ Z j=>by
  subst j;exact ⟨_,h i x Z,rfl⟩
 rw[e,l]
theorem bJ{α:Type}{b:MS}{f:Out->x8 α}{r:x8 α}(S:Nat->Ev)(h0:Γ=S 0)
 (h:∀i x,xs[i]?=some x->((g x (S i)).bind b).bind (il cl)= .ok (.nx (S (i+1)))) (k:f (.nx (S xs.length))=r):(forR g cl b xs Γ).bind f=r:=by
 rw[MT S h0 h];exact k
theorem x8.bind_assoc{α Y Z:Type}{r:x8 α}{f:α->x8 Y}{g:Y->x8 Z}:(r.bind f).bind g=r.bind λa=>(f a).bind g:=by cases r <;> rfl
variable {e:ME}
theorem Ft(F:ab->ab):∀{xs:B4},(∀x∈xs,(g x Γ).bind e= .ok (F x))->oW g (eC (.bool true)) e Γ xs= .ok (xs.map F)
 | [],_=>rfl
 | x::xs,h=>by
  obtain ⟨j,Y,i⟩:=x8.au (h x bg);rw[oW,Y,x8.aP,Bu,x8.aP,i,x8.aP,Ft F λy Z=>h y (bq _ Z)];rfl
variable {nt:Nat}{ix:B5}
theorem wQ(F:ab->ab)(Y:it Γ = .ok xs)(Z:xs.length<ba)(h:∀x∈xs,(g x (gh nt ix Γ)).bind e= .ok (F x)) :
 cA it g (eC (.bool true)) e nt ix Γ = .ok (.list (xs.map F)):=by
 rw[cA,Y,x8.aP,bB Z,Ft F h];rfl
theorem mH{n:Nat}(F:Nat->ab)(Y:it Γ = .ok (upN n))(l:n<ba)(h:∀i,i<n->(g (.int (i:Nat)) (gh nt ix Γ)).bind e= .ok (F i)) :
 cA it g (eC (.bool true)) e nt ix Γ = .ok (.list ((List.range n).map F)):=by
 have Z:(upN n).map (λd=>match d with | .int i=>F i.toNat | _=>.none)=(List.range n).map F:=by
  rw[upN,cy];refine bt λi _=>?_;show F ((i:Nat):Int).toNat=F i;rw[cc]
 rw[<- Z];refine wQ _ Y (by rw[upN,af,cx];exact l) λx j=>?_;obtain ⟨i,Y,rfl⟩:=bo.mp j;show _=x8.ok (F ((i:Nat):Int).toNat);rw[cc];exact h i (cE.mp Y)
variable {ns:B3}
theorem Cq(F:Int->ab)(Y:it Γ = .ok (ns.map ab.int))(l:ns.length<ba)(h:∀x∈ns,(g (.int x) (gh nt ix Γ)).bind e= .ok (F x)) :
 cA it g (eC (.bool true)) e nt ix Γ = .ok (.list (ns.map F)):=by
 have Z:(ns.map ab.int).map (λd=>match d with | .int i=>F i | _=>.none)=ns.map F:=by
  rw[cy];rfl
 rw[<- Z];refine wQ _ Y (by rw[af];exact l) λx j=>?_;obtain ⟨i,Y,rfl⟩:=bo.mp j;exact h i Y
theorem jK(h:(upN nt)[i]?=some x):i<nt/\x= .int (i:Nat):=by
 unfold upN at h;rw[a8] at h;rcases ff i nt with hi | hi
 . rw[dQ hi] at h;exact ⟨hi,(Option.some.inj h).symm⟩
 . rw[eg (by rw[cx];exact hi)] at h;cases h
theorem eV(n:Nat):(upN n).length=n:=by rw[upN,af,cx]
theorem ints_get(h:(ns.map ab.int)[i]?=some x):∃v,x= .int v/\ns[i]?=some v:=by
 rw[a8] at h
 cases e:ns[i]? with
 | none=>rw[e] at h;cases h
 | some v=>rw[e] at h;exact ⟨v,(Option.some.inj h).symm,rfl⟩
theorem Pj:gh nt ix Γ=aw nt none++ix.map (gv Γ):=rfl
theorem iT{d:ab}(h:ds[i]?=some d):xt (.list ds) (.int (i:Nat))= .ok d:=by
 show (match Zq.atI ds (i:Nat) with | some d=>x8.ok d | none=>.bad)=_;rw[Zq.Og h]
theorem sV{d:ab}(h:ds[i]?=some d):xt (.tuple ds) (.int (i:Nat))= .ok d:=by
 show (match Zq.atI ds (i:Nat) with | some d=>x8.ok d | none=>.bad)=_;rw[Zq.Og h]
theorem Gv:fG [.list ds]= .ok (.int ds.length):=rfl
theorem vz:fG [.tuple ds]= .ok (.int ds.length):=rfl
theorem P0:BW [.list ds]= .ok (.list ds):=rfl
theorem Lw:gw [.list ds]= .ok (.tuple ds):=rfl
theorem RD{b:Bool}:oE (.bool b)= .ok (.bool b):=rfl
noncomputable def Xd(Γ:Ev)(i:Nat)(k d:ab):Option ab->x8 Out
 | some (.list ds)=>match k with
  | .int j=>gd (0<=j/\j<=ds.length/\ds.length<1000/\i < Γ.length) (.ok (.nx (Γ.set i (some (.list (ds.take j.toNat++d::ds.drop j.toNat))))))
  | _=>.bad
 | _=>.bad
theorem WW:Xd Γ i (.int a) x (some (.list ds))=gd (0<=a/\a<=ds.length/\ds.length<1000/\i < Γ.length) (.ok (.nx (Γ.set i (some (.list (ds.take a.toNat++x::ds.drop a.toNat)))))):=rfl
theorem V6:Pr i m c Γ=(m Γ).bind λk=>(c Γ).bind λd=>Xd Γ i k d (gv Γ i):=by
 unfold Pr Xd;congr 1;funext k;congr 1;funext d
 cases gv Γ i with
 | none=>rfl
 | some x=>cases x <;> cases k <;> rfl
noncomputable def XS:ab->x8 B4
 | .list ds=>.ok (eY ds)
 | .tuple ds=>.ok (eY ds)
 | _=>.bad
theorem Wd:XS (.list ds)= .ok (eY ds):=rfl
theorem Ax:XS (.tuple ds)= .ok (eY ds):=rfl
theorem aai:itE m Γ=(m Γ).bind XS:=by
 rfl
theorem KC(ds:B4):(eY ds).length=ds.length:=by rw[eY,af,cx]
theorem Td(h:(eY ds)[i]?=some x):∃d,ds[i]?=some d/\x= .tuple [.int (i:Nat),d]:=by
 unfold eY at h;rw[a8] at h;rcases ff i ds.length with hi | hi
 . rw[dQ hi] at h;refine ⟨ds[i],ai hi,?_⟩;have e:ab.tuple [.int (i:Nat),ds.getD i .none]=x:=Option.some.inj h;rw[<- e,ae,ai hi];rfl
 . rw[eg (by rw[cx];exact hi)] at h;cases h
theorem xg(p:ab->Bool)(F:ab->ab):∀{xs:B4},(∀x∈xs,(g x Γ).bind c= .ok (.bool (p x)))->(∀x∈xs,p x=true->(g x Γ).bind e= .ok (F x))->oW g c e Γ xs= .ok ((xs.filter p).map F)
 | [],_,_=>rfl
 | x::xs,h,j=>by
  obtain ⟨r,i,q⟩:=x8.au (h x bg);rw[oW,i,x8.aP,q,x8.aP];have o:=xg p F (λy Y=>h y (bq _ Y)) (λy Y=>j y (bq _ Y))
  cases Z:p x with
  | true=>
   have l:=j x bg Z;rw[i,x8.aP] at l;rw[l,x8.aP,o,gx Z];rfl
  | false=>
   rw[o,fm (by rw[Z];exact dV)]
theorem HQ(p:ab->Bool)(F:ab->ab)(Z:it Γ = .ok xs)(i:xs.length<ba)
 (h:∀x∈xs,(g x (gh nt ix Γ)).bind c= .ok (.bool (p x))) (Y:∀x∈xs,p x=true->(g x (gh nt ix Γ)).bind e= .ok (F x)):cA it g c e nt ix Γ = .ok (.list ((xs.filter p).map F)):=by
 rw[cA,Z,x8.aP,bB i,xg p F h Y];rfl
theorem GX{n:Nat}(p:Nat->Bool)(F:Nat->ab)(Y:it Γ = .ok (upN n))(o:n<ba)
 (h:∀i,i<n->(g (.int (i:Nat)) (gh nt ix Γ)).bind c= .ok (.bool (p i))) (r:∀i,i<n->p i=true->(g (.int (i:Nat)) (gh nt ix Γ)).bind e= .ok (F i)):cA it g c e nt ix Γ = .ok (.list (((List.range n).filter p).map F)):=by
 have l:((upN n).filter (λd=>match d with | .int i=>p i.toNat | _=>false)).map (λd=>match d with | .int i=>F i.toNat | _=>.none)=((List.range n).filter p).map F:=by
  rw[upN,List.filter_map,cy];have q:((λd=>match d with | .int i=>p i.toNat | _=>false)∘λ(i:Nat)=>ab.int (i:Nat))=p:=by
   funext i;show p ((i:Nat):Int).toNat=p i;rw[cc]
  rw[q];refine bt λi _=>?_;show F ((i:Nat):Int).toNat=F i;rw[cc]
 rw[<- l];refine HQ _ _ Y (by rw[eV];exact o) (λx j=>?_) λx j s=>?_
 . obtain ⟨i,Y,rfl⟩:=bo.mp j;show _=x8.ok (ab.bool (p ((i:Nat):Int).toNat));rw[cc];exact h i (cE.mp Y)
 . obtain ⟨i,Y,rfl⟩:=bo.mp j;have Z:p ((i:Nat):Int).toNat=true:=s;show _=x8.ok (F ((i:Nat):Int).toNat);rw[cc] at Z ⊢;exact r i (cE.mp Y) Z
theorem Kf:fX "int" (.none)=false:=rfl
theorem Jt{b:Bool}:fX "int" (.bool b)=true:=rfl
theorem Mi:fX "int" (.int a)=true:=rfl
theorem La{x:Str}:fX "int" (.str x)=false:=rfl
theorem Iz:fX "int" (.list ds)=false:=rfl
theorem G9:fX "int" (.tuple ds)=false:=rfl
theorem JL{ds:B0}:fX "int" (.dict ds)=false:=rfl
theorem G7:fX "bool" (.none)=false:=rfl
theorem G4{b:Bool}:fX "bool" (.bool b)=true:=rfl
theorem JP:fX "bool" (.int a)=false:=rfl
theorem KJ{x:Str}:fX "bool" (.str x)=false:=rfl
theorem G6:fX "bool" (.list ds)=false:=rfl
theorem Fi:fX "bool" (.tuple ds)=false:=rfl
theorem Hf{ds:B0}:fX "bool" (.dict ds)=false:=rfl
theorem Dp:fX "tuple" (.none)=false:=rfl
theorem El{b:Bool}:fX "tuple" (.bool b)=false:=rfl
theorem GZ:fX "tuple" (.int a)=false:=rfl
theorem G5{x:Str}:fX "tuple" (.str x)=false:=rfl
theorem Ex:fX "tuple" (.list ds)=false:=rfl
theorem Bf:fX "tuple" (.tuple ds)=true:=rfl
theorem DY{ds:B0}:fX "tuple" (.dict ds)=false:=rfl
theorem Pn{f g:C8}:Bl f g m e c Γ=(m Γ).bind λx=>(e Γ).bind λy=>(f x y).bind λt=>bT t ((c Γ).bind λz=>g y z) (.ok (.bool false)):=by
 rfl
theorem Y6(xs:B4)(j:Nat):cutD xs none (some ((j:Nat):Int))=xs.take j:=by
 rw[cutD,HT.V3,HT.ZR,sg,Nat.sub_zero];rcases Nat.le_total j xs.length with h | h
 . rw[ro h]
 . rw[Nat.min_eq_right h,fA (ax _),fA h]
theorem Sg:slD (.list ds) none (some ((i:Nat):Int))= .ok (.list (ds.take i)):=by
 show x8.ok (ab.list (cutD ds none (some ((i:Nat):Int))))=_;rw[Y6]
theorem tu(h:ds.length+xs.length<=ba):cG (.list ds) (.list xs)= .ok (.list (ds++xs)):=bB h
theorem Gm{α:Type}(enc:α->ab)(p:α->Bool)(F:α->ab):∀{xs:List α},(∀a∈xs,(g (enc a) Γ).bind c= .ok (.bool (p a)))->(∀a∈xs,p a=true->(g (enc a) Γ).bind e= .ok (F a))->oW g c e Γ (xs.map enc)= .ok ((xs.filter p).map F)
 | [],_,_=>rfl
 | x::xs,h,o=>by
  obtain ⟨r,i,q⟩:=x8.au (h x bg);rw[a7,oW,i,x8.aP,q,x8.aP];have l:=Gm enc p F (λy Z=>h y (bq _ Z)) (λy Z=>o y (bq _ Z))
  cases Y:p x with
  | true=>
   have j:=o x bg Y;rw[i,x8.aP] at j;rw[j,x8.aP,l,gx Y];rfl
  | false=>
   rw[l,fm (by rw[Y];exact dV)]
theorem qz{α:Type}{xs:List α}(enc:α->ab)(p:α->Bool)(F:α->ab)(Y:it Γ = .ok (xs.map enc))(Z:xs.length<ba)
 (h:∀a∈xs,(g (enc a) (gh nt ix Γ)).bind c= .ok (.bool (p a))) (i:∀a∈xs,p a=true->(g (enc a) (gh nt ix Γ)).bind e= .ok (F a)):cA it g c e nt ix Γ = .ok (.list ((xs.filter p).map F)):=by
 rw[cA,Y,x8.aP,bB (by rw[af];exact Z),Gm enc p F h i];rfl
theorem jn{α:Type}{xs:List α}(enc:α->ab)(F:α->ab)(i:it Γ = .ok (xs.map enc))(j:xs.length<ba)
 (h:∀a∈xs,(g (enc a) (gh nt ix Γ)).bind e= .ok (F a)):cA it g (eC (.bool true)) e nt ix Γ = .ok (.list (xs.map F)):=by
 rw[qz enc (λ_=>true) F i j (λa Y=>?_) λa Y _=>h a Y,List.filter_eq_self.mpr λ_ _=>rfl];obtain ⟨l,Z,o⟩:=x8.au (h a Y);rw[Z];rfl
theorem cZ{α:Type}{enc:α->ab}{xs:List α}(h:(xs.map enc)[i]?=some x):∃a,xs[i]?=some a/\x=enc a:=by
 rw[a8] at h
 cases e:xs[i]? with
 | none=>rw[e] at h;cases h
 | some v=>rw[e] at h;exact ⟨v,rfl,(Option.some.inj h).symm⟩
def Gives{α:Type}(r:x8 α)(P:α->Prop):Prop:=∃a,r= .ok a/\P a
theorem VR{α:Type}{a:α}{P:α->Prop}:Gives (.ok a) P↔P a:=⟨λY=>by obtain ⟨b,e,h⟩:=Y;cases e;exact h,λh=>⟨a,rfl,h⟩⟩
theorem vO{α:Type}{b:MS}{f:Out->x8 α}{P:α->Prop}(I:Nat->Ev->Prop)(h0:I 0 Γ)
 (h:∀i x Γ,xs[i]?=some x->I i Γ->Goes (((g x Γ).bind b).bind (il cl)) (I (i+1))) (k:∀Γ,I xs.length Γ->Gives (f (.nx Γ)) P):Gives ((forR g cl b xs Γ).bind f) P:=by
 obtain ⟨Y,e,Z⟩:=Jk I h0 h;rw[e];exact k Y Z
theorem ada{a:ab}:xt (.tuple (a::ds)) (.int 0)= .ok a:=sV rfl
theorem acJ{b:ab}:xt (.tuple (x::b::ds)) (.int 1)= .ok b:=sV rfl
theorem ab0{b c:ab}:xt (.tuple (x::b::c::ds)) (.int 2)= .ok c:=sV rfl
noncomputable def dG(n:Nat)(b:Int):ab:=.tuple [.int (n:Nat),.int b]
noncomputable def dL(ns:B3):ab:=.list (ns.map ab.int)
theorem ix0:xt (dG i b) (.int 0)= .ok (.int (i:Nat)):=rfl
theorem ix1:xt (dG i b) (.int 1)= .ok (.int b):=rfl
theorem aaN:fG [dL ns]= .ok (.int ns.length):=by rw[dL,Gv,af]
theorem Z2:Ao (dL ns)= .ok (ns.map ab.int):=rfl
theorem Rk{b:B3}:eqD (dL ns) (dL b)= .ok (.bool (decide (ns=b))):=RP
theorem oG:plain (dG i b)=true:=Lp [i,b]
theorem Ad:(dG i b).depth<=64:=Aq [i,b]
theorem abv{m:Nat}(z:dG i a=dG m b):i=m/\a=b:=by
 injection z with z;injection z with z1 z2;injection z2 with z3 z4;injection z1 with z5;injection z3 with z6;exact ⟨by lia,z6⟩
theorem Ke{m:Nat}:eqD (dG i a) (dG m b)= .ok (.bool (decide (i=m/\a=b))):=by
 have h:=uc (a:=dG i a) (b:=dG m b) oG oG Ad Ad
 by_cases e:i=m/\a=b
 . obtain ⟨rfl,rfl⟩:=e;rw[h.1.mpr rfl];simp
 . rw[h.2.1.mpr λz=>e (abv z)];simp[e]
theorem pZ{α:Type}{b:MS}{d:ab}(enc:α->ab)(p:α->Bool):∀{xs:List α},(∀a∈xs,((g (enc a) Γ).bind b).bind (il cl)=if p a=true then .ok (.rt d) else .ok (.nx Γ)) ->
 forR g cl b (xs.map enc) Γ=if xs.any p=true then .ok (.rt d) else .ok (.nx Γ)
 | [],_=>rfl
 | x::xs,h=>by
  have Z:=h x bg;have r:=pZ enc p λy i=>h y (bq _ i);rw[a7]
  cases Y:p x with
  | true=>
   rw[if_pos Y] at Z;obtain ⟨o,l,e⟩:=x8.au Z;obtain ⟨s,j,q⟩:=x8.au l;rw[iq,Y,xa,if_pos rfl,forR,j,x8.aP,q,x8.aP];cases o <;> cases e;rfl
  | false=>
   rw[if_neg (by rw[Y];exact dV)] at Z;rw[yR Z,r,iq,Y,sN]
noncomputable def rtM(d:ab):Option ab->x8 Out
 | some dm=>.ok (.rt (.tuple [d,dm]))
 | none=>.bad
variable {dm:ab}
theorem YH:rtM x (some dm)= .ok (.rt (.tuple [x,dm])):=rfl
theorem Ue:Dk i m Γ=(m Γ).bind λd=>rtM d (gv Γ i):=by
 rfl
noncomputable def stM(Γ:Ev)(x i:Nat)(r:ab):x8 Out:=match nF r with
 | some (d,dm)=>gd (x < Γ.length) (.ok (.nx ((Γ.set i (some dm)).set x (some d))))
 | none=>.bad
theorem Zy:stM Γ nt i (.tuple [x,dm])=gd (nt < Γ.length) (.ok (.nx ((Γ.set i (some dm)).set nt (some x)))):=rfl
theorem R7{f:B4->x8 ab}:Cd nt i f ms Γ=(evs ms Γ).bind λds=>(f ds).bind (stM Γ nt i):=rfl
noncomputable def apM(Γ:Ev)(k i:Nat)(o:Option ab)(r:ab):x8 Out:=match nF r,o with
 | some (d,dm),some (.list es)=>gd (es.length<ba) (.ok (.nx ((Γ.set i (some dm)).set k (some (.list (es++[d]))))))
 | _,_=>.bad
theorem YT:apM Γ nt i (some (.list ds)) (.tuple [x,dm])=gd (ds.length<ba) (.ok (.nx ((Γ.set i (some dm)).set nt (some (.list (ds++[x])))))):=rfl
theorem SQ{f:B4->x8 ab}:Hu nt i f ms Γ=(evs ms Γ).bind λds=>(f ds).bind (apM Γ nt i (gv Γ nt)):=rfl
theorem Zj:lrD (.int a)=gd (-(2^20)<=a/\a<=2^20) (.ok (.list (upN a.toNat))):=rfl
end Zq
set_option hygiene false in
local macro_rules | `(tactic| ext)=>`(tactic| simp (config:={ decide:=true,implicitDefEqProofs:=false }) only[Zq.MN,Zq.Z7,Zq.gm,Zq.lr,Zq.aa2,Zq.aaT,Zq.Xv,Zq.Aj,Zq.Nx,Zq.Xm,Zq.Xh,Zq.Xp,Zq.W9,Zq.V7,Zq.V6,Zq.WW,Zq.Ue,Zq.YH,Zq.R7,Zq.Zy,Zq.SQ,Zq.YT,Zq.Zj,Zq.aai,Zq.Wd,Zq.aa8,Zq.aa7,Zq.Rt,Zq.RW,Zq.Bu,Zq.Ir,Zq.Z4,Zq.aaP,Zq.mD,Zq.YL,Zq.Ay,Zq.V9,Zq.VB,Zq.XC,Zq.aaA,Zq.W7,Zq.aa6,Zq.Ux,Zq.Pn,Zq.Sg,Zq.Kf,Zq.Jt,Zq.Mi,Zq.La,Zq.Iz,Zq.G9,Zq.JL,Zq.G7,Zq.G4,Zq.JP,Zq.KJ,Zq.G6,Zq.Fi,Zq.Hf,Zq.Dp,Zq.El,Zq.GZ,Zq.G5,Zq.Ex,Zq.Bf,Zq.DY,Zq.W3,Zq.aaK,Zq.RZ,Zq.Q9,Zq.Wx,Zq.Nf,Zq.Wn,Zq.YD,Zq.Uh,Zq.Py,Zq.BV,Zq.abF,Zq.aaI,Zq.Xk,Zq.ZV,Zq.YJ,Zq.Y5,Zq.Zh,Zq.VR,Zq.W4,Zq.Pj,Zq.x8.aP,Zq.x8.bind_assoc,Zq.adl,Zq.aaZ,Zq.Zv,Zq.Xy,Zq.N6,Zq.JR,Zq.U9,Zq.Vh,Zq.Wt,Zq.RB,Zq.U0,Zq.UJ,Zq.Vk,Zq.VJ,Zq.aaE,Zq.Yz,Zq.aaw,Zq.Zn,Zq.aak,Zq.YS,Zq.ada,Zq.acJ,Zq.ab0,Zq.ix0,Zq.ix1,Zq.aaN,Zq.Z2,Zq.Rk,Zq.Ke,Zq.Gv,Zq.vz,Zq.P0,Zq.Lw,Zq.RD,decide_false,decide_true,if_true,if_false,Bool.not_true,Bool.not_false,and_true,true_and,a7,ew,a6,ko,af,cx,en,ky,fk,d6,List.set_cons_zero,List.set_cons_succ,Nat.reduceSub,Nat.reduceAdd,xc])
set_option hygiene false in
local macro_rules | `(tactic| walk_at "gd")=>`(tactic| (rw[Zq.bB (by first | omega (config:={}) | (unfold Zq.q9;omega (config:={})) | (unfold Zq.Ds;omega (config:={})) | (unfold Zq.Ec;omega (config:={})) | (simp (config:={ decide:=true }) only[Zq.sizeLine_eq,ar,af,cx,cp,lT,a6,ko];omega (config:={})))]))
set_option hygiene false in
local macro_rules | `(tactic| walk_at "go")=>`(tactic| (repeat (first | ext | walk_at "gd")))
namespace Zq
open PySem PySem.Spec PyProof.Rows
theorem Ys{a p:Int}(Y:0<=p):Dg [.int a,.int p]= .ok (.int (ak a p)):=by
 unfold Dg;ext;rw[bB Y];ext;rw[gX];rfl
variable {xs:B3}
theorem Lr:o4 [dL xs]= .ok (.int (bf xs)):=by
 unfold o4 dL;ext;refine bJ (λi=>[some (.list (xs.map ab.int)),some (.int ((xs.reverse.take i).foldl (λn f=>2*n+f) 0)),none]) rfl (λi x Y=>?_) ?_
 rotate_left
 . ext;rw[lI,af,<- lI,dn,VM]
 . rw[<- List.map_reverse] at Y;obtain ⟨v,rfl,Z⟩:=ints_get Y;ext;rw[bB (.inl ⟨by decide,by decide⟩)];ext;rw[mu,Z,e8];rfl
theorem uw{n:Nat}(Z:n<=100):jJ [.int (n:Nat)]= .ok (.int (2^n)):=by
 unfold jJ;ext;rw[dw (by lia)];ext;refine bJ (λi=>[some (.int n),some (.int (2^i)),none]) rfl (λi x Y=>?_) ?_
 . obtain ⟨_,rfl⟩:=jK Y;ext;rw[bB (.inl ⟨by decide,by decide⟩)];ext;rw[show (2:Int)*2^i=2^(i+1) by rw[jv,pf]]
 . rw[eV];ext
theorem wJ{n:Nat}(e:n<=4):jD [.int (n:Nat)]= .ok (.int (2^2^n)):=by
 unfold jD;ext;rw[dw (by lia)];ext;refine bJ (λi=>[some (.int n),some (.int (2^2^i)),none]) rfl (λi x Y=>?_) ?_
 . obtain ⟨j,rfl⟩:=jK Y;ext;have Z:(2:Int)^2^i<=65536/\0<(2:Int)^2^i:=by
    have:i=0\/i=1\/i=2\/i=3:=by lia
    rcases this with rfl | rfl | rfl | rfl <;> decide
   rw[bB (.inl ⟨by lia,by lia⟩)];ext;rw[show (2:Int)^2^i*2^2^i=2^2^(i+1) by rw[<- Int.pow_add,rL];congr 1;lia]
 . rw[eV];ext
theorem gU{n:Nat}(Y:n<=4):gZ [.int (n:Nat)]= .ok (.int (2^2^n - 1)):=by
 unfold gZ;ext;rw[wJ Y];ext
theorem yF{n:Nat}(h:n<=4):2^n<=16:=by
 have:n=0\/n=1\/n=2\/n=3\/n=4:=by lia
 rcases this with rfl | rfl | rfl | rfl | rfl <;> decide
theorem Iv{n:Nat}(h:n<=4):Qt (.int (2^n))= .ok (upN (2^n)):=by
 have e:((2:Int)^n)=(((2^n:Nat)):Int):=by simp
 have:=yF h;rw[e,dw (by lia)]
theorem J7{n:Nat}(h:n<=4):2^n<ba:=by
 have:=yF h;exact h9 this (by decide)
theorem xC{n:Nat}(h:n<=100000):n<ba:=h9 h (by decide)
theorem qM{n:Nat}{f:Nat->Int}:(List.range n).map (λi=>ab.int (f i))=((List.range n).map f).map ab.int:=by rw[cy];rfl
variable {j:Nat}
theorem GR{n:Nat}(Y:n<=4):lX [.int (n:Nat),.int (j:Nat)]= .ok (.int (g8 n j)):=by
 unfold lX;ext;rw[mH (λi=>.int (ak i j)) ?_ (J7 Y) λi _=>?_]
 . ext;rw[qM];exact (congrArg (λr=>r.bind λd=>x8.ok d) (Lr)).trans rfl
 . ext;rw[uw (by lia)];ext;exact Iv Y
 . ext;rw[Ys (by lia)]
theorem uP{n:Nat}(Y:n<=4):jg [.int (n:Nat)]= .ok (dL ((List.range n).map λj=>g8 n j)):=by
 unfold jg;ext;rw[mH (n:=n) (λj=>.int (g8 n j)) ?_ (xC (by lia)) λi _=>?_]
 . ext;rw[qM];rfl
 . ext;exact dw (by lia)
 . ext;rw[GR Y]
theorem uB(x y:Int):fE x y / 2=fE (x / 2) (y / 2)/\fE x y % 2=(x % 2)*(y % 2):=by
 have h:=PySem.W.kbt_halves x y;have hx:x % 2=0\/x % 2=1:=by lia
 have hy:y % 2=0\/y % 2=1:=by lia
 rcases hx with hx | hx <;> rcases hy with hy | hy <;> simp only[hy] at h ⊢ <;> (try simp at h) <;> lia
theorem oZ(x:Int):fF x / 2=fF (x / 2)/\fF x % 2=1 - x % 2:=by
 unfold fF;lia
theorem Qv(x y:Int):i9 x y / 2=i9 (x / 2) (y / 2)/\i9 x y % 2=1 - (1 - x % 2)*(1 - y % 2):=by
 unfold i9;obtain ⟨Y,o⟩:=oZ (fE (fF x) (fF y));obtain ⟨b1,l⟩:=uB (fF x) (fF y);obtain ⟨i,j⟩:=oZ x;obtain ⟨e,Z⟩:=oZ y;rw[Y,o,b1,l,i,j,e,Z];exact ⟨rfl,rfl⟩
noncomputable def yD(x y t:Int):Int:=i9 (fE x (fF t)) (fE y t)
theorem Ql(x y t:Int):yD x y t / 2=yD (x / 2) (y / 2) (t / 2)/\yD x y t % 2=if t % 2=1 then y % 2 else x % 2:=by
 unfold yD;obtain ⟨Y,o⟩:=Qv (fE x (fF t)) (fE y t);obtain ⟨b1,l⟩:=uB x (fF t);obtain ⟨i,j⟩:=uB y t;obtain ⟨e,Z⟩:=oZ t;rw[Y,o,b1,l,i,j,e,Z];refine ⟨rfl,?_⟩;have ht:t % 2=0\/t % 2=1:=by lia
 rcases ht with ht | ht <;> rw[ht] <;> simp <;> lia
theorem Fz(x:Int):fE 0 x=0:=by
 have:=PySem.W.kbt_mask' x 0;simpa using this
variable {W:Nat}
theorem vM{f:Nat->Int}:tab (W+1) f=2*tab W (λr=>f (r+1))+f 0:=by
 rw[tab,vn,a7,cT,cy];rfl
theorem Nr{f g:Nat->Int}(t:Int)(Y:∀r,f r=0\/f r=1)(Z:∀r,g r=0\/g r=1):∀W:Nat,yD (tab W f) (tab W g) t=tab W λr=>if ak t (r:Nat)=1 then g r else f r
 | 0=>by
  show yD 0 0 t=0;rw[yD,Fz,Fz];rfl
 | W+1=>by
  have l:=Nr (f:=λr=>f (r+1)) (g:=λr=>g (r+1)) (t / 2) (λr=>Y (r+1)) (λr=>Z (r+1)) W;rw[vM,vM,vM];have o:=Y 0;have p:=Z 0;obtain ⟨j,i⟩:=Ql (2*tab W (λr=>f (r+1))+f 0) (2*tab W (λr=>g (r+1))+g 0) t;rw[show (2*tab W (λr=>f (r+1))+f 0) / 2=tab W (λr=>f (r+1)) by lia,show (2*tab W (λr=>g (r+1))+g 0) / 2=tab W (λr=>g (r+1)) by lia,l] at j;rw[show (2*tab W (λr=>f (r+1))+f 0) % 2=f 0 by lia,show (2*tab W (λr=>g (r+1))+g 0) % 2=g 0 by lia] at i;have e:(λr:Nat=>if ak t ((r+1:Nat):Int)=1 then g (r+1) else f (r+1))=λr:Nat=>if ak (t / 2) (r:Nat)=1 then g (r+1) else f (r+1):=by
   funext r;rw[ud]
  rw[e,show ak t ((0:Nat):Int)=t % 2 from tK t];lia
theorem mG(c:Int):∀W:Nat,tab W (λ_=>c)=(2^W - 1)*c
 | 0=>by simp[tab,bf]
 | W+1=>by
  rw[vM,mG c W,jv];have:(2^W*2 - 1)*c=2*((2^W - 1)*c)+c:=by
   rw[Int.sub_mul,Int.sub_mul,Int.mul_sub,nI,Int.mul_left_comm (2^W) 2 c];lia
  rw[this]
variable {x:Int}
theorem mZ(h0:0<=x)(Y:x<4000):mw x=true:=by
 rw[mw,decide_eq_true (show -(2^63)<=x by lia),decide_eq_true (show x<2^63 by lia)];rfl
theorem Vx(h:j<1000):Dr (.int 0) (.int ((2*j:Nat):Int)) (.int 2)= .ok ((List.range j).map λ(k:Nat)=>ab.int (((2*k:Nat)):Int)):=by
 have e:c6 0 ((2*j:Nat):Int) 2=(j:Nat):=by
  rw[c6,if_pos (by decide)];split <;> lia
 have Z:Builtin.Range.small 0 ((2*j:Nat):Int) 2=true:=by
  rw[Builtin.Range.small,e,mZ (by decide) (by decide),mZ (by lia) (by lia),mZ (by decide) (by decide),mZ (by lia) (by lia),if_pos (by decide),mZ (by lia) (by lia),Bool.or_true];rfl
 have Y:Dr (.int 0) (.int ((2*j:Nat):Int)) (.int 2)=gd ((2:Int)≠0/\(2:Int).natAbs<1073741824/\Builtin.Range.small 0 ((2*j:Nat):Int) 2=true/\0<=c6 0 ((2*j:Nat):Int) 2) (.ok ((List.range (c6 0 ((2*j:Nat):Int) 2).toNat).map λk=>ab.int (0+(k:Nat)*2))):=rfl;have i:(2:Int)≠0/\(2:Int).natAbs<1073741824/\Builtin.Range.small 0 ((2*j:Nat):Int) 2=true/\0<=c6 0 ((2*j:Nat):Int) 2:=⟨by lia,by lia,Z,by rw[e];lia⟩;refine Y.trans ((bB i).trans ?_);rw[e,cc];refine congrArg x8.ok (bt λk _=>congrArg ab.int ?_);lia
noncomputable def JS(W N:Nat)(F:Int->Nat->Int):B3:=(List.range N).map λp=>tab W (F (p:Nat))
variable {p:Nat}
theorem DR{F:Int->Nat->Int}(h:p<j):((JS W j F).map ab.int)[p]?=some (.int (tab W (F (p:Nat)))):=by
 rw[JS,cy,a8,dQ h];rfl
noncomputable def Hv(t:Int)(F:Int->Nat->Int):Int->Nat->Int:=λp r=>F (2*p+ak t (r:Nat)) r
noncomputable def kY:B3->(Int->Nat->Int)->Int->Nat->Int
 | [],F=>F
 | t::ts,F=>kY ts (Hv t F)
theorem JW:∀{ts:B3}{F:Int->Nat->Int},(∀p r,F p r=0\/F p r=1)->∀p r,kY ts F p r=0\/kY ts F p r=1
 | [],F,h=>h
 | t::ts,F,h=>JW (ts:=ts) λp r=>h _ r
theorem BK:∀{ts:B3}{t:Int}{F:Int->Nat->Int},kY (ts++[t]) F=Hv t (kY ts F)
 | [],t,F=>rfl
 | u::ts,t,F=>BK (ts:=ts)
theorem Jh:∀{ts:B3}{F:Int->Nat->Int}{p:Int}{r:Nat},kY ts F p r=F (2^ts.length*p+bf (ts.map λt=>ak t (r:Nat))) r
 | [],F,p,r=>by show F p r=F (2^0*p+0) r;simp
 | t::ts,F,p,r=>by
  show kY ts (Hv t F) p r=_;rw[Jh];rw[Hv,a7,cT,a6,jv];congr 1;rw[pf (2^ts.length) 2,nI];lia
variable {m:Nat}{b:Int}{ts:B3}
theorem Fy(e:ts.length=m)(Z:m<=4):pC [dG m b,dL ts,.int (2^W - 1)]= .ok (.int (tab W λr=>ak b (bf (ts.map λt=>ak t (r:Nat))))):=by
 have l:=λi=>by have:=yF (n:=m - i) (by lia);lia
 unfold pC;ext;rw[mH (λp=>.int (tab W λ_=>ak b p)) ?_ (J7 Z) λi _=>?_]
 rotate_left
 . ext;rw[uw (by lia)];ext;exact Iv Z
 . ext;rw[Ys (by lia)];ext;have v:q9 (2^W - 1) (ak b (i:Nat)):=.inr ⟨by have:=Ma b i;lia,by have:=aaj b i;lia⟩;rw[bB v,mG]
 ext;rw[qM];refine bJ (λi=>[some (dG m b),some (dL ts),some (.int (2^W - 1)),some (dL (JS W (2^(m - i)) (kY (ts.take i) λp r=>ak b p))),none]) rfl (λi x o=>?_) ?_
 rotate_left
 . rw[af,e,iN,<- e,dn];unfold dL;ext;rw[show (ab.int 0)= .int ((0:Nat):Int) from rfl,iT (DR (by decide))];ext;congr 2;refine dW λr u=>?_;rw[Jh];congr 1;simp
 . obtain ⟨t,rfl,j⟩:=ints_get o;have C:=(aI.mp j).1;have q:2^(m - i)=2*2^(m - (i+1)):=by rw[show m - i=(m - (i+1))+1 by lia,rL];lia
   have s:=l (i+1);have Y:∀p r,kY (ts.take i) (λp r=>ak b p) p r=0\/kY (ts.take i) (λp r=>ak b p) p r=1:=JW λp r=>aO b p;ext;rw[jn (xs:=List.range (2^(m - (i+1)))) (λk=>.int ((2*k:Nat):Int)) (λk=>.int (tab W (kY (ts.take (i+1)) (λp r=>ak b p) k))) ?_ (xC (by rw[cx];lia)) λk B=>?_]
   . ext;rw[qM];rfl
   . unfold Ag;ext;rw[show (JS W (2^(m - i)) (kY (ts.take i) λp r=>ak b p)).length=2*2^(m - (i+1)) by rw[JS,af,cx,q]];exact Vx (by lia)
   . have z:=cE.mp B;unfold dL;ext;rw[iT (DR (by lia)),show ((2*k:Nat):Int)+1=((2*k+1:Nat):Int) by lia,iT (DR (by lia))];ext;show x8.ok (ab.int (yD (tab W _) (tab W _) t))=_;rw[Nr t (Y _) (Y _)];congr 2;refine dW λr u=>?_;rw[mu,j];show _=kY (ts.take i++[t]) _ _ _;rw[BK];rcases aO t r with h | h <;> rw[h]
     . rw[if_neg (by decide)];congr 1 <;> lia
     . rw[if_pos rfl];congr 1 <;> lia
theorem Hg(e:ts.length=m)(Y:m<=4)(Z:j<=4):o8 [dG m b,dL ts,.int (j:Nat)]= .ok (.int (cz b ts j)):=by
 unfold o8;ext;rw[gU Z];ext;rw[Fy e Y];rfl
theorem Bm{n:Nat}(e:n<=3)(i:j<=n)(l:x=0\/x=1):jt [dG (n+1) b,.int (j:Nat),.int x]= .ok (dG n (d9 n b j x)):=by
 have Y:n<=4:=by lia
 unfold jt;ext;have Z:(((n+1:Nat):Nat):Int) - 1=(n:Nat):=by lia
 rw[Z,uP Y];unfold dL;ext;have ins:∀t:Int,((((List.range n).map λj=>g8 n j).map ab.int).take ((j:Nat):Int).toNat++ab.int t::(((List.range n).map λj=>g8 n j).map ab.int).drop ((j:Nat):Int).toNat)=(kW j t ((List.range n).map λj=>g8 n j)).map ab.int:=λt=>by
  rw[kW,cc,aS,wm,a7,List.map_drop]
 have len:(((List.range n).map λj=>g8 n j).map ab.int).length=n:=by simp
 have fin:∀t:Int,o8 [dG (n+1) b,.list ((kW j t ((List.range n).map λj=>g8 n j)).map ab.int),.int (n:Nat)]= .ok (.int (cz b (kW j t ((List.range n).map λj=>g8 n j)) n)):=λt=>
  Hg (by rw[JK (by simpa using i)];simp) (by lia) Y
 rcases l with rfl | rfl
 . ext;walk_at "gd";ext;rw[ins,fin];rfl
 . ext;rw[gU Y];ext;walk_at "gd";ext;rw[ins,fin];rfl
theorem beyond(h:j<=4):xt (.list [.int 2,.int 4,.int 16,.int 256,.int 65536]) (.int (j:Nat))= .ok (.int (2^2^j)):=by
 have:j=0\/j=1\/j=2\/j=3\/j=4:=by lia
 rcases this with rfl | rfl | rfl | rfl | rfl <;> rfl
theorem Fj(a:Int){m:Int}(h:0<m):∃n:Nat,a % m=(n:Nat)/\(n:Int)<m:=
 ⟨(a % m).toNat,by have:=hZ a (show m≠0 by lia);lia,by have:=gE a h;have:=hZ a (show m≠0 by lia);lia⟩
structure aD where
 m:Nat
 b:Int
 ws:B5
noncomputable def dN(ks:B5):B4:=ks.map λk=>ab.int (k:Nat)
noncomputable def aD.d(s:aD):ab:=.tuple [dG s.m s.b,.tuple (dN s.ws)]
structure aD.Ok (t:Nat) (s:aD):Prop where
 m4:s.m<=4
 len:s.ws.length=s.m
 lt:∀k∈s.ws,k<t
 b0:0<=s.b
 b1:s.b<2^2^s.m
def aU(n:Nat)(ss:List aD):Prop:=∀(i:Nat) (s:aD),ss[i]?=some s->s.Ok (n+i)
noncomputable def dC(n:Nat)(ss:List aD)(o:Nat):ab:=.tuple [.int (n:Nat),.tuple (ss.map aD.d),.int (o:Nat)]
noncomputable def stepV(vs:B3)(s:aD):B3:=vs++[ak s.b (bf (s.ws.map λk=>vs.getD k 0))]
noncomputable def bY(n:Nat)(ss:List aD)(r:Nat):B3:=ss.foldl stepV (bx n r)
variable {ss:List aD}{s:aD}{r:Nat}
theorem iB:bY j (ss++[s]) r=stepV (bY j ss r) s:=by rw[bY,e8];rfl
theorem snoc_ind{α:Type}{P:List α->Prop}(h0:P [])(h:∀l a,P l->P (l++[a]))(l:List α):P l:=by
 have:∀k:Nat,∀l:List α,l.length=k->P l:=by
  intro k
  induction k with
  | zero=>intro l Y;rw[kb.mp Y];exact h0
  | succ k e=>
   intro l Y;have Z:l≠[]:=λz=>by rw[z] at Y;cases Y
   rw[<- rg Z];exact h _ _ (e _ (by rw[List.length_dropLast,Y];rfl))
 exact this _ l rfl
theorem eU{n:Nat}:(bY n ss r).length=n+ss.length:=by
 induction ss using snoc_ind with
 | h0=>unfold bY;simp[bF]
 | h l a Y=>rw[iB];rw[stepV,ar,Y,ar];simp;lia
theorem NB{n:Nat}:bQ (bY n ss r):=by
 induction ss using snoc_ind with
 | h0=>exact bQ.bx
 | h l a Z=>
  rw[iB];unfold stepV;intro x Y;rcases cf.mp Y with z | z
  . exact Z x z
  . rw[ay.mp z];exact aO _ _
theorem zu(h:bQ xs)(k:Nat):xs.getD k 0=0\/xs.getD k 0=1:=by
 rw[ae]
 cases e:xs[k]? with
 | none=>exact .inl rfl
 | some x=>exact h x (dA e)
theorem aU.nil:aU j []:=λi s h=>by cases h
theorem aU.snoc(h:aU j ss)(hs:s.Ok (j+ss.length)):aU j (ss++[s]):=λi t Y=>by
 rcases ff i ss.length with hi | hi
 . rw[bX hi] at Y;exact h i t Y
 . rw[be hi] at Y;have:=by
    have:=(aI.mp Y).1;simp at this;lia
   rw[this] at Y;have e:=Option.some.inj Y;subst e;rw[show i=ss.length by lia];exact hs
theorem uZ(h:j<ts.length):xt (dL ts) (.int (j:Nat))= .ok (.int (ts.getD j 0)):=by
 refine iT ?_;rw[a8,ae,ai h];rfl
variable {i:Nat}
theorem nu(h:ss[i]?=some s):ss.take (i+1)=ss.take i++[s]:=by
 rw[mu,h];rfl
theorem yE:Fg [.list (xs.map ab.int)]= .ok (.int xs.sum):=by
 show (match intsOf (xs.map ab.int) with | some ns=>x8.ok (ab.int ns.sum) | none=>.bad)=_;rw[vp]
theorem O7:∀(xs:B3),((List.range xs.length).map λi=>xs.getD i 0*2^i).sum=bf xs:=by
 intro xs
 induction xs using snoc_ind with
 | h0=>rfl
 | h l a Z=>
  rw[ar,b9,kr,aS,n0,yf,<- Z];congr 1
  . congr 1;refine bt λi Y=>?_;rw[ae,ae,bX (cE.mp Y)]
  . show List.sum [(l++[a]).getD l.length 0*2^l.length]=_;rw[ae,be (ax _),iN];show a*2^l.length+0=_;rw[Int.add_zero,pf]
theorem ZM(b:Int)(k:Nat):fE (b / 2^k) 1=ak b (k:Nat):=by
 rw[gX];rw[ak,cc]
theorem zR:∀{ds:B4},(∀d∈ds,d.depth<=j)->kn ds<=j
 | [],_=>by rw[kn];exact iP _
 | d::ds,h=>by
  rw[kn];exact Nat.max_le.mpr ⟨h d bg,zR λe Y=>h e (bq _ Y)⟩
variable {ds:B4}
theorem xY{k:Nat}(h:∀d∈ds,d.depth<=k):(ab.tuple ds).depth<=k+1:=by
 rw[ab.depth];have:=zR h;lia
theorem Gr(h:∀d∈ds,plain d=true):iz ds=true:=by
 induction ds with
 | nil=>rw[iz]
 | cons d ds Z=>rw[iz,h d bg,Z λe Y=>h e (bq _ Y)];rfl
theorem RL(h:∀d∈ds,plain d=true):plain (.tuple ds)=true:=by rw[Zq.plain];exact Gr h
theorem Zb:plain (.int x)=true:=by rw[Zq.plain]
theorem Ew:(ab.int x).depth<=0:=by rw[ab.depth];exact ax _
theorem Tz:(dG j b).depth<=1:=xY λd hd=>by
 rcases bE.mp hd with rfl | hd
 . exact Ew
 . rw[ay.mp hd];exact Ew
variable {o:Nat}
theorem Qc:xt (dC j ss o) (.int 0)= .ok (.int (j:Nat)):=rfl
theorem HY:xt (dC j ss o) (.int 1)= .ok (.tuple (ss.map aD.d)):=rfl
theorem Pz:xt (dC j ss o) (.int 2)= .ok (.int (o:Nat)):=rfl
theorem wO(xs:B3):bf (rQ xs)=2^xs.length - 1 - bf xs:=by
 induction xs with
 | nil=>rfl
 | cons x xs Y=>
  show bf ((1 - x)::rQ xs)=_;rw[cT,Y,cT,a6,jv];lia
theorem aU.init(h:aU j (ss++[s])):aU j ss/\s.Ok (j+ss.length):=by
 refine ⟨λi t e=>h i t ?_,h ss.length s ?_⟩
 . rw[bX (aI.mp e).1];exact e
 . rw[be (ax _),iN];rfl
noncomputable def Kg:ab->Bool
 | .int _=>true
 | _=>false
noncomputable def gb(d:ab)(b:Int):Bool:=match d with
 | .int i=>decide (0<=i)&&decide (i<b)
 | _=>false
noncomputable def uz(d:ab)(n:Int):Bool:=match d with
 | .tuple ds=>decide ((ds.length:Int)=n)
 | _=>false
noncomputable def aew(a b:ab):Bool:=match a with
 | .int i=>match b with
  | .int j=>decide (0<=i/\i<5/\0<=j/\j<2^2^i.toNat)
  | _=>false
 | _=>false
noncomputable def zE:ab->Bool
 | .tuple [a,b]=>aew a b
 | _=>false
theorem Qn(d:ab):fQ [d]= .ok (.bool (Kg d)):=by
 unfold fQ;cases d <;> ext <;> rfl
theorem aaX{a b:Bool}:(if a=true then x8.ok (ab.bool b) else .ok (.bool false))= .ok (.bool (a&&b)):=by cases a <;> rfl
theorem nq(d:ab)(b:Int):iK [d,.int b]= .ok (.bool (gb d b)):=by
 unfold iK;ext;rw[Qn]
 cases d with
 | int i=>
  unfold Kg gb;ext;rw[Jy,aaX];ext
 | _=>unfold Kg gb;ext
theorem qC(d:ab)(n:Int):jA [d,.int n]= .ok (.bool (uz d n)):=by
 unfold jA
 cases d with
 | tuple Y=>unfold uz;ext
 | _=>unfold uz;ext
theorem Sx(d:ab):tU [d]= .ok (.bool (zE d)):=by
 unfold tU;ext;rw[qC]
 cases d with
 | tuple o=>
  match o with
  | []=>rfl
  | [a]=>rfl
  | a::b::c::r=>
   have e:uz (.tuple (a::b::c::r)) 2=false:=by
    show decide (((a::b::c::r).length:Int)=2)=false;refine decide_eq_false ?_;simp only[a6];lia
   rw[e];rfl
  | [a,b]=>
   have e:uz (.tuple [a,b]) 2=true:=rfl;rw[e];ext;rw[nq]
   cases a with
   | int i=>
    by_cases Y:0<=i/\i<5
    . obtain ⟨n,rfl⟩:∃n:Nat,i=n:=⟨i.toNat,by lia⟩;have l:gb (.int (n:Nat)) 5=true:=by unfold gb;simp;lia
      have Z:gb (.int (n:Nat)) (4+1)=true:=l;simp only[Z];ext;rw[wJ (by lia)];ext;rw[nq];ext
      cases b with
      | int j=>
       show x8.ok (ab.bool (decide (0<=j)&&decide (j<2^2^n)))=x8.ok (ab.bool (decide (0<=((n:Nat):Int)/\((n:Nat):Int)<5/\0<=j/\j<2^2^((n:Nat):Int).toNat)));rw[cc];congr 2;rw[<- Bool.decide_and];exact decide_eq_decide.mpr ⟨λh=>⟨Y.1,Y.2,h⟩,λh=>h.2.2⟩
      | _=>rfl
    . have l:=by
       show (decide (0<=i)&&decide (i<5))=false;rw[<- Bool.decide_and];exact decide_eq_false Y
      have Z:gb (.int i) (4+1)=false:=l;simp only[Z];ext
      cases b with
      | int j=>
       show _=x8.ok (ab.bool (decide (0<=i/\i<5/\0<=j/\j<2^2^i.toNat)));rw[decide_eq_false λh=>Y ⟨h.1,h.2.1⟩]
      | _=>rfl
   | _=>
    rfl
 | _=>rfl
noncomputable def KH(ws:ab)(m t:Int):Bool:=match ws with
 | .tuple ds=>decide ((ds.length:Int)=m)&&ds.all λd=>gb d t
 | _=>false
noncomputable def PB:ab->Int
 | .tuple (.int i::_)=>i
 | _=>0
noncomputable def o5(d:ab)(t:Int):Bool:=match d with
 | .tuple [g,ws]=>zE g&&KH ws (PB g) t
 | _=>false
theorem Vc{g:ab}(h:zE g=true):∃(n:Nat) (b:Int),g=dG n b/\n<=4:=by
 cases g with
 | tuple Y=>
  match Y with
  | []=>cases h
  | [a]=>cases h
  | a::b::c::r=>cases h
  | [a,b]=>
   cases a with
   | int i=>
    cases b with
    | int j=>
     have h:=h;have h:=of_decide_eq_true h;exact ⟨i.toNat,j,by rw[dG,nk h.1],by lia⟩
    | _=>cases h
   | _=>cases h
 | _=>cases h
theorem QV{α:Type}{xs:List α}{f:α->Bool}:U3 [.list (xs.map λa=>ab.bool (f a))]= .ok (.bool (xs.all f)):=by
 show (match boolsOf (xs.map λa=>ab.bool (f a)) with | some bs=>x8.ok (ab.bool (bs.all id)) | none=>.bad)=_;rw[show xs.map (λa=>ab.bool (f a))=(xs.map f).map ab.bool by rw[cy];rfl,K9];show x8.ok (ab.bool ((xs.map f).all id))=_;rw[List.all_map];rfl
theorem RV(d:ab)(t:Int):tX [d,.int t]= .ok (.bool (o5 d t)):=by
 unfold tX;ext;rw[qC]
 cases d with
 | tuple Y=>
  match Y with
  | []=>rfl
  | [a]=>rfl
  | a::b::c::r=>
   have e:uz (.tuple (a::b::c::r)) 2=false:=by
    show decide (((a::b::c::r).length:Int)=2)=false;refine decide_eq_false ?_;simp only[a6];lia
   rw[e];rfl
  | [g,ws]=>
   have e:uz (.tuple [g,ws]) 2=true:=rfl;rw[e];ext;rw[Sx];show _=x8.ok (ab.bool (zE g&&KH ws (PB g) t))
   cases i:zE g with
   | false=>rfl
   | true=>
    obtain ⟨n,b,rfl,j⟩:=Vc i;ext;rw[qC,show PB (dG n b)=(n:Nat) from rfl]
    cases ws with
    | tuple Y=>
     show _=x8.ok (ab.bool (true&&(decide ((Y.length:Int)=(n:Nat))&&Y.all λd=>gb d t)));unfold uz
     by_cases Z:(Y.length:Int)=n
     . rw[show (match ab.tuple Y with | .tuple Y=>decide ((Y.length:Int)=(n:Nat)) | _=>false)=true from decide_eq_true Z,decide_eq_true Z];ext;rw[wQ (xs:=Y) (λd=>.bool (gb d t)) ?_ (xC (by lia)) λx _=>?_]
       . ext;rw[QV];rfl
       . ext
       . ext;rw[nq]
     . rw[show (match ab.tuple Y with | .tuple Y=>decide ((Y.length:Int)=(n:Nat)) | _=>false)=false from decide_eq_false Z,decide_eq_false Z];rfl
    | _=>rfl
 | _=>rfl
noncomputable def X7(d:ab):Bool:=match d with
 | .tuple [a,ss,o]=>match a with
  | .int n=>match ss with
   | .tuple ds=>(decide (0<=n)&&decide (n<5))&&decide (ds.length<=600)&&(List.range ds.length).all (λi=>o5 (ds.getD i .none) (n+(i:Nat)))&&gb o (n+ds.length)
   | _=>false
  | _=>false
 | _=>false
theorem Ip(d:ab):m5 [d]= .ok (.bool (X7 d)):=by
 unfold m5;ext;rw[qC]
 cases d with
 | tuple Y=>
  match Y with
  | []=>rfl
  | [a]=>rfl
  | [a,b]=>rfl
  | a::b::c::e::r=>
   have e:uz (.tuple (a::b::c::e::r)) 3=false:=by
    show decide (((a::b::c::e::r).length:Int)=3)=false;refine decide_eq_false ?_;simp only[a6];lia
   rw[e];rfl
  | [a,Z,o]=>
   have e:uz (.tuple [a,Z,o]) 3=true:=rfl;rw[e];ext;rw[nq]
   cases a with
   | int n=>
    have p:gb (.int n) (4+1)=(decide (0<=n)&&decide (n<5)):=rfl;rw[p]
    cases l:(decide (0<=n)&&decide (n<5)) with
    | false=>
     cases Z with
     | tuple Y=>
      show _=x8.ok (ab.bool ((decide (0<=n)&&decide (n<5))&&decide (Y.length<=600)&&(List.range Y.length).all (λi=>o5 (Y.getD i .none) (n+(i:Nat)))&&gb o (n+Y.length)));rw[l];rfl
     | _=>rfl
    | true=>
     ext
     cases Z with
     | tuple Y=>
      show _=x8.ok (ab.bool ((decide (0<=n)&&decide (n<5))&&decide (Y.length<=600)&&(List.range Y.length).all (λi=>o5 (Y.getD i .none) (n+(i:Nat)))&&gb o (n+Y.length)));rw[l];ext
      by_cases j:Y.length<=600
      . rw[decide_eq_false (show ¬ (600:Int)<Y.length by lia),decide_eq_true j];ext;rw[Ax];ext;rw[eY,pZ (λi=>ab.tuple [.int (i:Nat),Y.getD i .none]) (λi=>!o5 (Y.getD i .none) (n+i)) λi u=>?_]
        . have q:(List.range Y.length).any (λi=>!o5 (Y.getD i .none) (n+(i:Nat)))= !((List.range Y.length).all λi=>o5 (Y.getD i .none) (n+(i:Nat))):=by
           rw[List.all_eq_not_any_not,Bool.not_not]
          rw[q]
          cases s:(List.range Y.length).all (λi=>o5 (Y.getD i .none) (n+i)) with
          | true=>
           ext;rw[nq];rfl
          | false=>rfl
        . ext;rw[RV];ext;rw[CQ];cases o5 (Y.getD i .none) (n+i) <;> rfl
      . rw[decide_eq_true (show (600:Int)<Y.length by lia),decide_eq_false j];rfl
     | _=>rfl
   | _=>rfl
 | _=>rfl
noncomputable def gC(b:Int)(ts:B3)(w:Nat):Int:=tab w λc=>ak b (bf (ts.map λt=>ak t (c:Nat)))
theorem acy{f:Nat->Int}:ab.list ((List.range j).map λi=>ab.int (f i))=dL ((List.range j).map f):=by rw[dL,cy];rfl
variable {w:Nat}
theorem Pu(e:ts.length=m)(Y:m<=4)(Z:w<=100):qm [dG m b,dL ts,.int (w:Nat)]= .ok (.int (gC b ts w)):=by
 unfold qm;ext;rw[uw Z];ext;rw[Fy e Y];rfl
theorem take_snoc{α:Type}{l:List α}{x:α}(h:l[i]?=some x):l.take (i+1)=l.take i++[x]:=by
 rw[List.take_succ,h];rfl
noncomputable def dT(m:Nat)(b:Int)(ds:B4):ab:=.tuple [dG m b,.tuple ds]
def gQ(n:Nat):Nat->ab->Prop
 | 0,d=>∃i:Nat,i<n/\d= .int (i:Nat)
 | k+1,d=>(∃i:Nat,i<n/\d= .int (i:Nat))\/∃(m:Nat) (b:Int) (ds:B4),m<=4/\0<=b/\b<2^2^m/\ds.length=m/\d=dT m b ds/\∀e∈ds,gQ n k e
theorem gQ.inp{n k i:Nat}(h:i<n):gQ n k (.int (i:Nat)):=by
 cases k with
 | zero=>exact ⟨i,h,rfl⟩
 | succ k=>exact .inl ⟨i,h,rfl⟩
theorem gQ.up:∀{k:Nat}{d:ab},gQ j k d->gQ j (k+1) d
 | 0,d,h=>.inl h
 | k+1,d,h=>by
  rcases h with h | ⟨m,b,r,l,i,o,Z,p,q⟩
  . exact .inl h
  . exact .inr ⟨m,b,r,l,i,o,Z,p,λe Y=>(q e Y).up⟩
noncomputable def xG(r:Nat):Nat->ab->Int
 | _,.int i=>ak (r:Nat) i
 | k+1,.tuple [.tuple [_,.int b],.tuple ds]=>ak b (bf (ds.map (xG r k)))
 | _,_=>0
noncomputable def ik:Nat->ab->Int
 | _,.int _=>0
 | k+1,.tuple [_,.tuple ds]=>1+(ds.map (ik k)).sum
 | _,_=>0
theorem n8{i:Int}:xG r j (.int i)=ak (r:Nat) i:=by cases j <;> rfl
theorem pI:xG r (j+1) (dT m b ds)=ak b (bf (ds.map (xG r j))):=rfl
theorem mC:ik j (.int x)=0:=by cases j <;> rfl
theorem mL:ik (j+1) (dT m b ds)=1+(ds.map (ik j)).sum:=rfl
theorem Va{α:Type}{xs:List α}{f:α->Int}{x:α}(h:xs[i]?=some x):((xs.take (i+1)).map f).sum=((xs.take i).map f).sum+f x:=by
 rw[List.take_succ,h,aS,n0];simp
theorem uU:fQ [.int x]= .ok (.bool true):=by
 unfold fQ;ext
theorem oh:fQ [.tuple ds]= .ok (.bool false):=by
 unfold fQ;ext
noncomputable def ren(n1 t:Nat)(hs:B5)(w:Nat):Nat:=if w<n1 then hs.getD w 0 else t+(w - n1)
noncomputable def mv(n1 t:Nat)(hs:B5)(s:aD):aD:=⟨s.m,s.b,s.ws.map (ren n1 t hs)⟩
theorem Bk{ks:B5}(h:w<ks.length):xt (.list (dN ks)) (.int (w:Nat))= .ok (.int (ks.getD w 0:Nat)):=by
 refine iT ?_;rw[dN,a8,ai h,ae,ai h];rfl
theorem xR{a b:B5}:dN (a++b)=dN a++dN b:=by unfold dN;rw[aS]
theorem rB{a:B5}:(dN a).length=a.length:=by rw[dN,af]
variable {hs:B5}{n1:Nat}
theorem Bh(hh:hs.length=n1)(Y:w<n1+i):(hs++(List.range i).map (j + ·)).getD w 0=ren n1 j hs w:=by
 rw[ren,ae]
 by_cases h:w<n1
 . rw[if_pos h,bX (by lia),ae]
 . rw[if_neg h,be (by lia),a8,dQ (by lia),hh];rfl
theorem FZ(Z:∀w∈s.ws,w<hs.length)(e:s.ws.length<=100):jl [s.d,.list (dN hs)]= .ok (aD.mk s.m s.b (s.ws.map λw=>hs.getD w 0)).d:=by
 unfold jl aD.d;ext;rw[jn (xs:=s.ws) (λw=>ab.int w) (λw=>.int (hs.getD w 0:Nat)) ?_ (xC (by lia)) λw Y=>?_]
 rotate_left
 . ext;rfl
 . ext;exact Bk (Z w Y)
 ext;rw[dN,cy];rfl
variable {x4:List aD}
theorem p_add{n:Nat}(p:aU n1 ss)(hh:hs.length=n1)(C:x4.length<=5000)(D:ss.length<=5000)(v:o<n1+ss.length)(z:n1<=100) :
 dq [.list (x4.map aD.d),.int (n:Nat),dC n1 ss o,.list (dN hs)]= .ok (.tuple [.int (ren n1 (n+x4.length) hs o:Nat),.list ((x4++ss.map (mv n1 (n+x4.length) hs)).map aD.d)]):=by
 unfold dq;ext;rw[HY];ext;refine bJ (λi=>[some (.list ((x4++(ss.take i).map (mv n1 (n+x4.length) hs)).map aD.d)),some (.int n),some (dC n1 ss o),some (.list (dN hs)),some (.list (dN (hs++(List.range i).map (n+x4.length + ·)))),none]) ?_ (λi x l=>?_) ?_
 . rw[kN,ew,cK,List.range_zero,ew,cK]
 . obtain ⟨s,e,rfl⟩:=cZ l;have ok:=p i s e;have E:=(aI.mp e).1;have m4:=ok.m4;have B:=ok.len;ext;rw[FZ (λw Y=>by have:=ok.lt w Y;rw[ar,af,cx];lia) (by lia)];have Z:(aD.mk s.m s.b (s.ws.map λw=>(hs++(List.range i).map (n+x4.length + ·)).getD w 0))=mv n1 (n+x4.length) hs s:=by
    congr 1;exact bt λw Y=>Bh hh (ok.lt w Y)
   have r:(x4++(ss.take i).map (mv n1 (n+x4.length) hs)).length=x4.length+i:=by
    rw[ar,af,cp];lia
   rw[Z];ext;rw[bB (xC (by lia))];ext;rw[bB (xC (by rw[rB,ar,af,cx];lia))];ext;have j:((n:Nat):Int)+(((x4++(ss.take i).map (mv n1 (n+x4.length) hs)).map aD.d++[(mv n1 (n+x4.length) hs s).d]).length:Nat) - 1=((n+x4.length+i:Nat):Nat):=by
    rw[ar,af,r,b9];lia
   have q:(x4++(ss.take (i+1)).map (mv n1 (n+x4.length) hs)).map aD.d=(x4++(ss.take i).map (mv n1 (n+x4.length) hs)).map aD.d++[(mv n1 (n+x4.length) hs s).d]:=by
    rw[nu e,aS (f:=mv n1 (n+x4.length) hs),<- da];exact aS
   have u:dN (hs++(List.range (i+1)).map (n+x4.length + ·))=dN (hs++(List.range i).map (n+x4.length + ·))++[.int (n+x4.length+i:Nat)]:=by
    rw[kr,aS,<- da];exact xR
   rw[j,q,u]
 . rw[af,dn];ext;rw[Pz];ext;rw[Bk (by rw[ar,af,cx];lia),Bh hh v];ext
theorem z8{n:Nat}(Z:w<n)(ss:List aD):(bY n ss r).getD w 0=(bx n r).getD w 0:=by
 induction ss using snoc_ind with
 | h0=>rfl
 | h ss s Y=>
  rw[iB,<- Y];unfold stepV;have:=eU (n:=n) (ss:=ss) (r:=r);rw[ae,bX (by lia),ae]
variable {ys:B3}
theorem t6(h:w<xs.length):(xs++ys).getD w 0=xs.getD w 0:=by
 rw[ae,bX h,ae]
theorem getD_map{α:Type}{f:Nat->Int}(h:w<hs.length):(hs.map f).getD w 0=f (hs.getD w 0):=by
 rw[ae,a8,ai h,ae,ai h];rfl
theorem Oj{w:Nat}(hh:hs.length=n1)(Y:∀x∈hs,x<xs.length)(i:ts.length=n1+j)(e:∀w,w<n1->ts.getD w 0=xs.getD (hs.getD w 0) 0)(l:w<n1+j) :
 (xs++ts.drop n1).getD (ren n1 xs.length hs w) 0=ts.getD w 0:=by
 unfold ren
 by_cases h:w<n1
 . have Z:hs.getD w 0<xs.length:=by
    rw[ae,ai (by lia)];exact Y _ (eL _)
   rw[if_pos h,e w h,t6 Z]
 . rw[if_neg h,ae,be (by lia),List.getElem?_drop,ae];congr 2;lia
theorem Z3{n:Nat}(hh:hs.length=n1)(Y:∀x∈hs,x<n+x4.length)(v:bx n1 j=hs.map λw=>(bY n x4 r).getD w 0)(ss:List aD) :
 aU n1 ss->bY n (x4++ss.map (mv n1 (n+x4.length) hs)) r=bY n x4 r++(bY n1 ss j).drop n1:=by
 have e:=eU (n:=n) (ss:=x4) (r:=r)
 induction ss using snoc_ind with
 | h0=>
  intro _;rw[ew,cK,show bY n1 [] j=bx n1 j from rfl,vr (by rw[bF];exact ax _),cK]
 | h ss s q=>
  intro h;obtain ⟨p,o⟩:=h.init;have i:=eU (n:=n1) (ss:=ss) (r:=j);rw[aS,a7,ew,<- da,iB,iB,q p];unfold stepV;have key:=λw Z=>by
   have:=Oj hh (λx l=>by rw[e];exact Y x l) i (λu z=>by rw[z8 z,v,getD_map (α:=Nat) (by lia)]) (o.lt w Z);rwa [e] at this
  rw[da,List.drop_append_of_le_length (by lia)];congr 2;show [ak s.b (bf ((s.ws.map (ren n1 (n+x4.length) hs)).map λk=>_))]=_;rw[cy];congr 3;exact bt λw Z=>key w Z
theorem adY{n:Nat}(o:aU n x4)(l:aU n1 ss)(hh:hs.length=n1)(Y:∀x∈hs,x<n+x4.length):aU n (x4++ss.map (mv n1 (n+x4.length) hs)):=λi s e=>by
 by_cases h:i<x4.length
 . rw[bX h] at e;exact o i s e
 . rw[be (by lia),a8] at e
   cases q:ss[i - x4.length]? with
   | none=>rw[q] at e;cases e
   | some j=>
    rw[q] at e;cases e;have ok:=l _ _ q;refine ⟨ok.m4,by show (j.ws.map _).length=j.m;rw[af,ok.len],λw r=>?_,ok.b0,ok.b1⟩;obtain ⟨u,p,rfl⟩:=bo.mp r;have:=ok.lt u p;unfold ren
    by_cases Z:u<n1
    . rw[if_pos Z,ae,ai (by lia)];have:=Y _ (eL (n:=u) (by lia));show hs[u]<_;lia
    . rw[if_neg Z];lia
theorem adT{k:Nat}(hh:hs.length=n1)(Y:∀x∈hs,x<j)(e:w<n1+k):ren n1 j hs w<j+k:=by
 unfold ren
 by_cases Z:w<n1
 . rw[if_pos Z,ae,ai (by lia)];have:=Y _ (eL (n:=w) (by lia));show hs[w]<_;lia
 . rw[if_neg Z];lia
noncomputable abbrev Part:=List aD×Nat
structure Part.Ok (n:Nat) (p:Part):Prop where
 st:aU n p.1
 le:p.1.length<=600
 lt:p.2<n+p.1.length
noncomputable def fK(f:List aD->ab->List aD×Nat)(x4:List aD)(ds:B4):List aD×B5:=ds.foldl (λa d=>((f a.1 d).1,a.2++[(f a.1 d).2])) (x4,[])
noncomputable def dD(n:Nat):Nat->List aD->ab->List aD×Nat
 | 0=>λx4 d=>match d with
  | .int i=>(x4,i.toNat)
  | _=>(x4,0)
 | k+1=>λx4 d=>match d with
  | .int i=>(x4,i.toNat)
  | .tuple [.tuple [.int m,.int b],.tuple ds]=>((fK (dD n k) x4 ds).1++[⟨m.toNat,b,(fK (dD n k) x4 ds).2⟩],n+(fK (dD n k) x4 ds).1.length)
  | _=>(x4,0)
theorem Am:dD j W x4 (.int (i:Nat))=(x4,i):=by cases W <;> rfl
theorem sU:dD j (W+1) x4 (dT m b ds)=((fK (dD j W) x4 ds).1++[⟨m,b,(fK (dD j W) x4 ds).2⟩],j+(fK (dD j W) x4 ds).1.length):=rfl
theorem GF{f:List aD->ab->List aD×Nat}{d:ab}:fK f x4 (ds++[d])=((f (fK f x4 ds).1 d).1,(fK f x4 ds).2++[(f (fK f x4 ds).1 d).2]):=by
 rw[fK,e8];rfl
noncomputable def cN{β:Type}(φ:Nat->Int->List β->β)(z:β)(base:List β)(ss:List aD):List β:=ss.foldl (λxs s=>xs++[φ s.m s.b (s.ws.map λw=>xs.getD w z)]) base
section
variable {β:Type}{φ:Nat->Int->List β->β}{z:β}{base:List β}{n:Nat}
theorem mK:cN φ z base (ss++[s])=cN φ z base ss++[φ s.m s.b (s.ws.map λw=>(cN φ z base ss).getD w z)]:=by rw[cN,e8];rfl
theorem lJ(Y:base.length=n):(cN φ z base ss).length=n+ss.length:=by
 induction ss using snoc_ind with
 | h0=>exact Y
 | h ss s Z=>rw[mK,ar,Z,ar];rfl
theorem CZ{xs Y:List β}(h:w<xs.length):(xs++Y).getD w z=xs.getD w z:=by
 rw[ae,bX h,ae]
theorem n6(Y:base.length=n)(e:w<n+x4.length)(more:List aD):(cN φ z base (x4++more)).getD w z=(cN φ z base x4).getD w z:=by
 induction more using snoc_ind with
 | h0=>rw[cK]
 | h i s Z=>
  rw[<- da,mK,CZ (by rw[lJ Y,ar];lia),Z]
structure Kid (φ:Nat->Int->List β->β) (z:β) (base:List β) (n:Nat) (x4:List aD) (q:List aD×Nat) (g:β) (c:Int):Prop where
 pre:∃more,q.1=x4++more
 ok:aU n q.1
 lt:q.2<n+q.1.length
 val:(cN φ z base q.1).getD q.2 z=g
 len:((q.1.length:Nat):Int)=x4.length+c
structure abI (φ:Nat->Int->List β->β) (z:β) (base:List β) (n:Nat) (x4:List aD) (q:List aD×B5) (gs:List β) (c:Int):Prop where
 pre:∃more,q.1=x4++more
 ok:aU n q.1
 lt:∀w∈q.2,w<n+q.1.length
 val:(q.2.map λw=>(cN φ z base q.1).getD w z)=gs
 len:((q.1.length:Nat):Int)=x4.length+c
theorem Oa(u:base.length=n){f:List aD->ab->List aD×Nat}{G:ab->β}{C:ab->Int}(E:aU n x4)(ds:B4) :
 (∀d∈ds,∀x4,aU n x4->Kid φ z base n x4 (f x4 d) (G d) (C d))->abI φ z base n x4 (fK f x4 ds) (ds.map G) (ds.map C).sum:=by
 induction ds using snoc_ind with
 | h0=>exact λ_=>⟨⟨[],(cK _).symm⟩,E,λw hw=>(nomatch hw),rfl,by show ((x4.length:Nat):Int)=x4.length+(0:Int);lia⟩
 | h ds d D=>
  intro h;obtain ⟨⟨v,o⟩,p,i,s,r⟩:=D λe H=>h e (dy _ H);obtain ⟨⟨B,p2⟩,Z,l,Y,j⟩:=h d (ck _ (ay.mpr rfl)) _ p;rw[GF];generalize fK f x4 ds=a at o p i s r p2 Z l Y j;generalize f a.1 d=q at p2 Z l Y j;refine ⟨⟨v++B,by rw[p2,o,da]⟩,Z,λw hw=>?_,?_,?_⟩
  . rcases cf.mp hw with hw | hw
    . have:=i w hw;rw[p2,ar];lia
    . rw[ay.mp hw];exact l
  . rw[aS,aS,<- s,a7,ew,a7,ew,<- Y];congr 1;refine bt λw hw=>?_;rw[p2];exact n6 u (i w hw) _
  . rw[j,r,aS,n0];show _=_+(_+(C d+0));lia
theorem Et(j:base.length=n){G:Nat->ab->β}(h0:∀k i:Nat,i<n->G k (.int (i:Nat))=base.getD i z)(u:∀k m b ds,G (k+1) (dT m b ds)=φ m b (ds.map (G k))) :
 ∀{k:Nat}{d:ab}{x4:List aD},gQ n k d->aU n x4->Kid φ z base n x4 (dD n k x4 d) (G k d) (ik k d):=by
 have inp:∀{k i:Nat}{x4:List aD},i<n->aU n x4->Kid φ z base n x4 (dD n k x4 (.int (i:Nat))) (G k (.int (i:Nat))) (ik k (.int (i:Nat))):=λ{k i x4} Z Y=>by
  rw[Am,mC,h0 k i Z];refine ⟨⟨[],(cK _).symm⟩,Y,by lia,?_,by show ((x4.length:Nat):Int)=x4.length+(0:Int);lia⟩;have:=n6 (φ:=φ) (z:=z) j (x4:=[]) (by lia) x4;exact this
 intro k
 induction k with
 | zero=>
  intro d x4 h Y;obtain ⟨i,Z,rfl⟩:=h;exact inp Z Y
 | succ k v=>
  intro d x4 h Y;rcases h with ⟨i,Z,rfl⟩ | ⟨m,b,ds,s,b0,b1,E,rfl,B⟩
  . exact inp Z Y
  . obtain ⟨⟨D,o⟩,q,p,l,r⟩:=Oa j (C:=ik k) Y ds λd hd x4 Y=>v (B d hd) Y;rw[sU,mL,u];have e:(fK (dD n k) x4 ds).2.length=m:=by
     have:=congrArg List.length l;rw[af,af] at this;lia
    generalize fK (dD n k) x4 ds=a at o q p l r e;refine ⟨⟨D++[⟨m,b,a.2⟩],by rw[o,da]⟩,q.snoc ⟨s,e,p,b0,b1⟩,by rw[ar];show _<_+(_+1);lia,?_,?_⟩
    . rw[mK,ae,be (by rw[lJ j];exact ax _),lJ j,iN];show φ m b (a.2.map λw=>(cN φ z base a.1).getD w z)=_;rw[l]
    . rw[ar,b9];lia
end
theorem Qm:∀{k:Nat}{d:ab}{x4:List aD}{fu:Nat},gQ j k d->aU j x4->k<fu->((x4.length:Nat):Int)+ik k d<=5000 ->
 jq fu [.list (x4.map aD.d),.int (j:Nat),d]= .ok (.tuple [.int ((dD j k x4 d).2:Nat),.list ((dD j k x4 d).1.map aD.d)]):=by
 have o:∀{k:Nat}{d:ab}{x4:List aD},gQ j k d->aU j x4->Kid (λ_ _ z=>1+z.sum) 0 (aw j (0:Int)) j x4 (dD j k x4 d) (ik k d) (ik k d):=
  Et br (λk i s=>by rw[mC,ae,fw s];rfl) λk m b Y=>mL
 have inp:∀(k i fu:Nat) (x4:List aD),jq (fu+1) [.list (x4.map aD.d),.int (j:Nat),.int (i:Nat)]= .ok (.tuple [.int ((dD j k x4 (.int (i:Nat))).2:Nat),.list ((dD j k x4 (.int (i:Nat))).1.map aD.d)]):=λk i fu x4=>by
  rw[Am];unfold jq;ext;rw[uU];ext
 intro k
 induction k with
 | zero=>
  intro d x4 fu h r I H;obtain ⟨i,s,rfl⟩:=h;obtain ⟨fu,rfl⟩:∃f,fu=f+1:=⟨fu - 1,by lia⟩;exact inp 0 i fu x4
 | succ k u=>
  intro d x4 fu h r I H;obtain ⟨fu,rfl⟩:∃f,fu=f+1:=⟨fu - 1,by lia⟩;rcases h with ⟨i,s,rfl⟩ | ⟨m,b,Y,Q,b0,b1,R,rfl,B⟩
  . exact inp (k+1) i fu x4
  . rw[mL] at H;rw[sU];unfold jq dT;ext;rw[oh];ext;have E:∀i,abI (λ_ _ z=>1+z.sum) 0 (aw j (0:Int)) j x4 (fK (dD j k) x4 (Y.take i)) ((Y.take i).map (ik k)) ((Y.take i).map (ik k)).sum:=λi=>
     Oa br r _ λd hd x4 r=>o (B d (j1 hd)) r
    have C:∀i,((Y.take i).map (ik k)).sum<=(Y.map (ik k)).sum:=λi=>by
     have e:Y.map (ik k)=(Y.take i).map (ik k)++(Y.drop i).map (ik k):=by rw[<- aS,pS]
     have p:∀(l:B3),(∀x∈l,0<=x)->0<=l.sum:=λl=>by
      induction l with
      | nil=>exact λ_=>la _
      | cons x l u=>intro h;rw[hY];have:=h x bg;have:=u λy L=>h y (bq _ L);lia
     have q:=p ((Y.drop i).map (ik k)) λx Z=>by
      obtain ⟨d,hd,rfl⟩:=bo.mp Z;have K:=o (B d (List.mem_of_mem_drop hd)) (aU.nil);have:=K.len;have P:((([]:List aD).length:Nat):Int)=0:=rfl;lia
     rw[e,n0];lia
    refine bJ (λi=>[some (.list ((fK (dD j k) x4 (Y.take i)).1.map aD.d)),some (.int j),some (.tuple [dG m b,.tuple Y]),some (.list (dN (fK (dD j k) x4 (Y.take i)).2)),none]) rfl (λi x Z=>?_) ?_
    . have s:=(aI.mp Z).1;have K:=E i;have O:=C (i+1);rw[Va Z] at O;have M:=by
       have:=congrArg List.length K.val;rw[af,af,cp] at this;lia
      have J:Y.take (i+1)=Y.take i++[x]:=by rw[mu,Z];rfl
      rw[J,GF];have v:=K.len;have D:=K.ok;generalize fK (dD j k) x4 (Y.take i)=a at v D M;ext;rw[u (B x (dA Z)) D (by lia) (by lia)];ext;rw[bB (xC (by rw[rB];lia))];ext;rw[xR];rfl
    . rw[dn];have K:=E Y.length;rw[dn] at K;have v:=K.len;generalize fK (dD j k) x4 Y=a at v;ext;rw[bB (xC (by lia))];ext;rw[show ((j:Nat):Int)+((a.1.map aD.d++[ab.tuple [dG m b,.tuple (dN a.2)]]).length:Nat) - 1=((j+a.1.length:Nat):Nat) by rw[ar,af,b9];lia,aS];rfl
theorem Ea{d:ab}(h:gQ j W d)(Y:W<100)(Z:ik W d<=5000):jb [d,.int (j:Nat)]= .ok (dC j (dD j W [] d).1 (dD j W [] d).2):=by
 unfold jb;ext;rw[show ab.list []= .list (([]:List aD).map aD.d) from rfl,Qm h aU.nil Y (by show ((0:Nat):Int)+_<=_;lia)];ext;rfl
noncomputable def kS(s:aD):dh:=[[(s.m:Int),s.b],s.ws.map λw=>((w:Nat):Int)]
theorem HN:∀{a b:B5},(a.map λw=>((w:Nat):Int))=(b.map λw=>((w:Nat):Int))->a=b
 | [],[],_=>rfl
 | [],_::_,e=>by cases e
 | _::_,[],e=>by cases e
 | x::Y,y::Z,e=>by
  rw[a7,a7] at e;injection e with e1 e2;rw[wh.inj e1,HN e2]
theorem ach{t:aD}(h:kS s=kS t):s=t:=by
 obtain ⟨m,b,ws⟩:=s;obtain ⟨Z,e,Y⟩:=t;injection h with h1 h2;injection h1 with h3 h4;injection h4 with h5 _;injection h2 with h6 _;rw[show m=Z from wh.inj h3,show b=e from h5,show ws=Y from HN h6]
theorem Jj:∀ks:B5,mU (dN ks)=some (ks.map λw=>((w:Nat):Int))
 | []=>rfl
 | k::ks=>by
  show (match mU (dN ks) with | some l=>some (((k:Nat):Int)::l) | none=>none)=_;rw[Jj ks];rfl
theorem sr(s:aD):jr s.d=some (kS s):=by
 show (match mU [ab.int (s.m:Nat),.int s.b],t7 [.tuple (dN s.ws)] with | some a,some b=>some (a::b) | _,_=>none)=_;have e:t7 [.tuple (dN s.ws)]=some [s.ws.map λw=>((w:Nat):Int)]:=by
  show (match mU (dN s.ws),t7 [] with | some a,some b=>some (a::b) | _,_=>none)=_;rw[Jj];rfl
 rw[e];rfl
noncomputable def stK:Nat->List aD->B0
 | _,[]=>[]
 | k,s::r=>(s.d,.int (k:Nat))::stK (k+1) r
noncomputable def plc(t:aD):List aD->Option Nat
 | []=>none
 | s::r=>if kS s=kS t then some 0 else (plc t r).map (· + 1)
theorem Bc(t:aD):∀(k:Nat) (x4:List aD),jU (kS t) (stK k x4)=(plc t x4).map λi=>ab.int ((k+i:Nat):Int)
 | k,[]=>rfl
 | k,s::r=>by
  unfold stK jU plc
  by_cases h:kS s=kS t
  . rw[if_pos (by rw[sr,h]),if_pos h];rfl
  . rw[if_neg (by rw[sr];exact λz=>h (Option.some.inj z)),if_neg h,Bc t (k+1) r,Option.map_map];congr 1;funext i;congr 2;simp;lia
theorem M7(t:aD):∀(k:Nat) (x4:List aD),Aw (kS t) (stK k x4)=(plc t x4).isSome
 | k,[]=>rfl
 | k,s::r=>by
  unfold stK Aw plc
  by_cases h:kS s=kS t
  . rw[if_pos (by rw[sr,h]),if_pos h];rfl
  . rw[if_neg (by rw[sr];exact λz=>h (Option.some.inj z)),if_neg h,M7 t (k+1) r,iF]
theorem Il(t:aD):∀(k:Nat) (x4:List aD),stK k (x4++[t])=stK k x4++[(t.d,ab.int ((k+x4.length:Nat):Int))]
 | k,[]=>rfl
 | k,s::r=>by
  rw[fk,stK,Il t (k+1) r,stK,fk,a6];congr 4;congr 2;lia
theorem Ng:∀(k:Nat) (x4:List aD),(stK k x4).length=x4.length
 | k,[]=>rfl
 | k,s::r=>by rw[stK,a6,Ng,a6]
theorem DX{t:aD}:∀{x4:List aD}{i:Nat},plc t x4=some i->x4[i]?=some t
 | [],i,h=>by cases h
 | s::r,i,h=>by
  unfold plc at h
  by_cases e:kS s=kS t
  . rw[if_pos e] at h;cases h;rw[ach e];rfl
  . rw[if_neg e] at h;obtain ⟨j,Y,rfl⟩:=kC.mp h;rw[List.getElem?_cons_succ];exact DX Y
noncomputable def rnS(ks:B5)(s:aD):aD:=⟨s.m,s.b,s.ws.map λw=>ks.getD w 0⟩
noncomputable def zZ(n:Nat)(a:List aD×B5)(s:aD):List aD×B5:=match plc (rnS a.2 s) a.1 with
 | some i=>(a.1,a.2++[n+i])
 | none=>(a.1++[rnS a.2 s],a.2++[n+a.1.length])
noncomputable def eE(n:Nat)(ss:List aD):List aD×B5:=ss.foldl (zZ n) ([],List.range n)
theorem tW:eE j (ss++[s])=zZ j (eE j ss) s:=by rw[eE,e8];rfl
theorem fold_at{Y:Type}{φ:Nat->Int->List Y->Y}{z:Y}{base:List Y}(v:base.length=j)(l:List aD):aU j l->∀i t,l[i]?=some t->(cN φ z base l).getD (j+i) z=φ t.m t.b (t.ws.map λk=>(cN φ z base l).getD k z):=by
 refine snoc_ind (P:=λl=>aU j l->∀i t,l[i]?=some t->(cN φ z base l).getD (j+i) z=φ t.m t.b (t.ws.map λk=>(cN φ z base l).getD k z)) (λ_ i t h=>by cases h) (λl s o Z i t h=>?_) l;have xw:=Z i t h;obtain ⟨r,_⟩:=aU.init Z;have q:=(aI.mp h).1;rw[ar,b9] at q;have u:(cN φ z base l).length=j+l.length:=lJ v;have e:(t.ws.map λk=>(cN φ z base (l++[s])).getD k z)=t.ws.map λk=>(cN φ z base l).getD k z:=bt λk C=>by
  have:=xw.lt k C;rw[mK];exact CZ (by lia)
 rw[e,mK]
 by_cases p:i<l.length
 . rw[bX p] at h;rw[CZ (by lia)];exact o r i t h
 . have B:i=l.length:=by lia
   subst B;rw[be (ax _),iN] at h;cases h;rw[<- u,ae,be (ax _),iN];rfl
theorem HB(h:w<hs.length):(hs++[j]).getD w 0=hs.getD w 0:=CZ h
theorem Cz{Y:Type}{z:Y}{xs:List Y}{y:Y}:(xs++[y]).getD xs.length z=y:=by
 rw[ae,be (ax _),iN];rfl
theorem zg{xs:B5}(h:w<xs.length):xs.getD w 0∈xs:=by
 rw[ae,ai h];exact eL h
theorem yq{Y:Type}{φ:Nat->Int->List Y->Y}{z:Y}{base:List Y}(Z:base.length=j):(cN φ z base (ss++[s])).getD (j+ss.length) z=φ s.m s.b (s.ws.map λk=>(cN φ z base ss).getD k z):=by
 rw[mK,<- lJ Z];exact Cz
theorem adv{a:List aD×B5}(xw:s.Ok (j+ss.length))(Z:a.2.length=j+ss.length)(Y:∀x∈a.2,x<j+a.1.length):(rnS a.2 s).Ok (j+a.1.length):=⟨xw.m4,by show (s.ws.map _).length=_;rw[af];exact xw.len,λk e=>by
 obtain ⟨w,i,rfl⟩:=bo.mp e;exact Y _ (zg (by rw[Z];exact xw.lt w i)),xw.b0,xw.b1⟩
theorem zF(ss:List aD):aU j ss->aU j (eE j ss).1/\(eE j ss).2.length=j+ss.length/\(eE j ss).1.length<=ss.length/\(∀x∈(eE j ss).2,x<j+(eE j ss).1.length):=by
 refine snoc_ind (P:=λss=>aU j ss->aU j (eE j ss).1/\(eE j ss).2.length=j+ss.length/\(eE j ss).1.length<=ss.length/\(∀x∈(eE j ss).2,x<j+(eE j ss).1.length)) ?_ ?_ ss
 . exact λ_=>⟨aU.nil,by show (List.range j).length=_;rw[cx];rfl,ax _,λx hx=>by have:=cE.mp hx;exact this⟩
 . intro ss s p o;obtain ⟨q,xw⟩:=aU.init o;obtain ⟨e,Z,u,Y⟩:=p q;rw[tW];generalize eE j ss=a at e Z u Y;have l:=adv xw Z Y;unfold zZ
   cases r:plc (rnS a.2 s) a.1 with
   | none=>
    refine ⟨e.snoc l,by simp[Z];lia,by simp;lia,λx hx=>?_⟩;rw[ar,b9];rcases cf.mp hx with hx | hx
    . have:=Y x hx;lia
    . rw[ay.mp hx];lia
   | some i=>
    have v:=(aI.mp (DX r)).1;refine ⟨e,by simp[Z];lia,by simp;lia,λx hx=>?_⟩;rcases cf.mp hx with hx | hx
    . exact Y x hx
    . rw[ay.mp hx];show j+i<j+a.1.length;lia
theorem Tn{o:Type}{φ:Nat->Int->List o->o}{z:o}{base:List o}{n:Nat}(j:base.length=n)(ss:List aD):aU n ss->∀w,w<n+ss.length->(cN φ z base (eE n ss).1).getD ((eE n ss).2.getD w 0) z=(cN φ z base ss).getD w z:=by
 refine snoc_ind (P:=λss=>aU n ss->∀w,w<n+ss.length->(cN φ z base (eE n ss).1).getD ((eE n ss).2.getD w 0) z=(cN φ z base ss).getD w z) ?_ ?_ ss
 . intro _ w Y;show (cN φ z base []).getD ((List.range n).getD w 0) z=_;have Y:w<n:=Y;rw[ae (l:=List.range n),dQ Y];rfl
 . intro ss s H E w Y;obtain ⟨r,xw⟩:=aU.init E;have p:=H r;obtain ⟨v,q,I,B⟩:=zF ss r;rw[tW];generalize eE n ss=a at v q I B p;have C:((rnS a.2 s).ws.map λk=>(cN φ z base a.1).getD k z)=s.ws.map λk=>(cN φ z base ss).getD k z:=by
    show (s.ws.map _).map _=_;rw[cy];exact bt λw Y=>p w (xw.lt w Y)
   have D:∀w,w<n+ss.length->a.2.getD w 0<n+a.1.length:=λw Y=>B _ (zg (by rw[q];exact Y));rw[ar,b9] at Y
   by_cases Z:w<n+ss.length
   . rw[n6 j Z,<- p w Z];unfold zZ
     cases u:plc (rnS a.2 s) a.1 with
     | none=>
      rw[HB (by lia),n6 j (D w Z)]
     | some i=>
      rw[HB (by lia)]
   . have e:w=n+ss.length:=by lia
     subst e;rw[yq j,<- q,<- C];unfold zZ
     cases u:plc (rnS a.2 s) a.1 with
     | none=>
      rw[Cz,yq j];rfl
     | some i=>
      rw[Cz,fold_at j a.1 v i _ (DX u)];rfl
variable {Γ:Ev}
section
variable {k:Nat}{m m':ME}  {t:aD}
theorem RC(h:m Γ = .ok t.d)(Y:gv Γ i=some (.dict (stK k x4))):yI i m Γ = .ok (.bool (!(plc t x4).isSome)):=by
 rw[yI,h,x8.aP,Y];rw[sr];show x8.ok (ab.bool (!(jU (kS t) (stK k x4)).isSome))=_;rw[Bc,iF]
theorem Rw(h:m Γ = .ok t.d)(Z:gv Γ i=some (.dict (stK k x4)))(Y:plc t x4=some j):Qj i m Γ = .ok (.int ((k+j:Nat):Int)):=by
 rw[Qj,h,x8.aP,Z];rw[sr];show (match jU (kS t) (stK k x4) with | some d=>x8.ok d | none=>.bad)=_;rw[Bc,Y];rfl
theorem Z6(h:m Γ = .ok t.d)(Z:m' Γ = .ok (.int ((k+x4.length:Nat):Int)))(j:gv Γ i=some (.dict (stK k x4)))(e:plc t x4=none)(Y:x4.length<=100000)(l:i < Γ.length):Ht i m m' Γ = .ok (.nx (Γ.set i (some (.dict (stK k (x4++[t])))))):=by
 rw[Ht,Z,x8.aP,h,x8.aP,j];rw[sr];show gd ((stK k x4).length<ba/\i < Γ.length) (x8.ok (Out.nx (Γ.set i (some (.dict (putN t.d (kS t) _ (stK k x4)))))))=_;rw[bB ⟨by rw[Ng];exact h9 Y (by rw[Zq.sizeLine_eq];decide),l⟩];rw[putN,M7,e,if_neg (by decide),Il]
end
theorem N8{t:aD}:∀{x4:List aD},plc t x4=none->plc t (x4++[t])=some x4.length
 | [],_=>by show (if kS t=kS t then some 0 else _)=_;rw[if_pos rfl];rfl
 | s::r,h=>by
  unfold plc at h
  by_cases e:kS s=kS t
  . rw[if_pos e] at h;cases h
  . rw[if_neg e] at h;show (if kS s=kS t then some 0 else (plc t (r++[t])).map (· + 1))=_;rw[if_neg e,N8 (pd.mp h)];rfl
theorem Ul(hs:aU W ss)(C:W<=100)(z:ss.length<=5000)(q:o<W+ss.length):iV [dC W ss o]= .ok (dC W (eE W ss).1 ((eE W ss).2.getD o 0)):=by
 unfold iV;ext;rw[Qc];ext;rw[bB (by lia)];ext;rw[HY];ext;refine bJ (λi=>[some (dC W ss o),some (.int W),some (.list (dN (eE W (ss.take i)).2)),some (.list ((eE W (ss.take i)).1.map aD.d)),some (.dict (stK W (eE W (ss.take i)).1)),none,none]) ?_ (λi x u=>?_) ?_
 . rw[kN,cc];rfl
 . obtain ⟨s,e,rfl⟩:=cZ u;have ok:=hs i s e;have B:=(aI.mp e).1;have m4:=ok.m4;have D:=ok.len;obtain ⟨_,Z,l,r⟩:=zF (ss.take i) λj t h=>by
    rw[List.getElem?_take] at h;split at h
    . exact hs j t h
    . cases h
   rw[cp,ro (by lia)] at Z l;rw[nu e,tW];generalize eE W (ss.take i)=a at Z l r;ext;rw[FZ (λw v=>by have:=ok.lt w v;rw[Z];exact this) (by lia),show aD.mk s.m s.b (s.ws.map λw=>a.2.getD w 0)=rnS a.2 s from rfl];generalize p:rnS a.2 s=t;ext;rw[RC rfl rfl];rw[zZ,p]
   cases Y:plc t a.1 with
   | none=>
    rw[show (ab.bool !(none:Option Nat).isSome)= .bool true from rfl];ext;rw[Z6 rfl (by ext;rfl) rfl Y (by lia) (of_decide_eq_true rfl)];ext;rw[bB (xC (by lia))];ext;rw[Rw rfl rfl (N8 Y)];ext;rw[bB (xC (by rw[rB];lia))];ext;rw[xR,aS];rfl
   | some j=>
    rw[show (ab.bool !(some j).isSome)= .bool false from rfl];ext;rw[Rw rfl rfl Y];ext;rw[bB (xC (by rw[rB];lia))];ext;rw[xR];rfl
 . rw[af,dn];ext;rw[Pz];ext;rw[Bk (by rw[(zF ss hs).2.1];exact q)];rfl
noncomputable def mk(ks:B3):B0:=ks.map λk=>(ab.int k,ab.bool true)
noncomputable def rY(x:Int)(ks:B3):B3:=if x∈ks then ks else ks++[x]
theorem RN:∀ks:B3,nR (.inl x) (mk ks)=decide (x∈ks)
 | []=>rfl
 | k::ks=>by
  show (if bM (ab.int k)=some (.inl x) then true else nR (.inl x) (mk ks))=_;rw[RN ks]
  by_cases h:k=x
  . subst h;rw[if_pos (show bM (ab.int k)=some (.inl k) from rfl),decide_eq_true bg]
  . rw[if_neg (show ¬ (bM (ab.int k)=some (.inl x)) from λz=>h (kz.inj (Option.some.inj z)))];have:(x∈k::ks)↔x∈ks:=⟨λz=>(bE.mp z).resolve_left (λe=>h e.symm),bq _⟩;exact decide_eq_decide.mpr this.symm
theorem Ej:∀ks:B3,(cP (.inl x) (mk ks)).isSome=decide (x∈ks)
 | []=>rfl
 | k::ks=>by
  show (if bM (ab.int k)=some (.inl x) then some (ab.bool true) else cP (.inl x) (mk ks)).isSome=_
  by_cases h:k=x
  . subst h;rw[if_pos (show bM (ab.int k)=some (.inl k) from rfl),decide_eq_true bg];rfl
  . rw[if_neg (show ¬ (bM (ab.int k)=some (.inl x)) from λz=>h (kz.inj (Option.some.inj z))),Ej ks];have:(x∈k::ks)↔x∈ks:=⟨λz=>(bE.mp z).resolve_left (λe=>h e.symm),bq _⟩;exact decide_eq_decide.mpr this.symm
theorem Tv:∀ks:B3,ur (.inl x) (.bool true) (mk ks)=mk ks
 | []=>rfl
 | k::ks=>by
  show (if bM (ab.int k)=some (.inl x) then (ab.int k,ab.bool true) else (ab.int k,ab.bool true))::ur (.inl x) (.bool true) (mk ks)=(ab.int k,ab.bool true)::mk ks;rw[Tv ks,ite_self]
variable {ks:B3}
theorem ac8:gJ (.int x) (.inl x) (.bool true) (mk ks)=mk (rY x ks):=by
 unfold gJ rY;rw[RN]
 by_cases h:x∈ks
 . rw[if_pos (decide_eq_true h),if_pos h,Tv]
 . rw[if_neg (by rw[decide_eq_true_eq];exact h),if_neg h];unfold mk;rw[aS];rfl
theorem Kq:(rY x ks).length<=ks.length+1:=by
 unfold rY;split
 . lia
 . rw[ar];exact ax _
theorem Jf{y:Int}:y∈rY x ks↔y=x\/y∈ks:=by
 unfold rY;split
 . rename_i h;exact ⟨.inr,λz=>z.elim (λe=>e ▸ h) id⟩
 . rw[cf,ay];exact Or.comm
theorem acL:(mk ks).length=ks.length:=by rw[mk,af]
variable {m1 m2:ME}
theorem J1(e:m2 Γ = .ok (.bool true))(j:m1 Γ = .ok (.int x))(l:gv Γ i=some (.dict (mk ks)))(Z:ks.length<=100000)(o:i < Γ.length):iW i m1 m2 Γ = .ok (.nx (Γ.set i (some (.dict (mk (rY x ks)))))):=by
 rw[iW,e,j];show (match gv Γ i with
  | some (.dict Y)=>(match bM (.int x) with
   | some key=>gd (Y.length<ba/\i < Γ.length) (.ok (Out.nx (Γ.set i (some (.dict (gJ (.int x) key (.bool true) Y))))))
   | none=>.bad)
  | _=>x8.bad)=_
 rw[l];show gd ((mk ks).length<ba/\i < Γ.length) (.ok (Out.nx (Γ.set i (some (.dict (gJ (.int x) (.inl x) (.bool true) (mk ks)))))))=_;rw[bB ⟨xC (by rw[acL];exact Z),o⟩,ac8]
noncomputable def dR(rs:B3):ab:=.tuple (rs.map ab.int)
theorem Vd:lK (.int x) (.dict (mk ks))= .ok (.bool (!decide (x∈ks))):=by
 show x8.ok (ab.bool (!(cP (.inl x) (mk ks)).isSome))=_;rw[Ej]
noncomputable def iY(rs:B3)(ls:List B3):List B3:=ls.flatMap λc=>rs.map λr=>c++[r]
noncomputable def lD(rs:B3):Nat->List B3
 | 0=>[[]]
 | m+1=>iY rs (lD rs m)
variable {rs:B3}
theorem tY:∀ls:List B3,(iY rs ls).length=ls.length*rs.length
 | []=>by show 0=0*_;lia
 | c::ls=>by
  show ((rs.map λr=>c++[r])++iY rs ls).length=_;rw[ar,af,tY ls,a6,ve];lia
theorem Gs:∀m,∀c∈lD rs m,c.length=m
 | 0,c,h=>by rw[ay.mp h];rfl
 | m+1,c,h=>by
  obtain ⟨e,Z,Y⟩:=ij.mp h;obtain ⟨r,_,rfl⟩:=bo.mp Y;rw[ar,Gs m e Z];rfl
variable {ls:List B3}{c:B3}
theorem Bv:iY rs (ls++[c])=iY rs ls++rs.map λr=>c++[r]:=by
 unfold iY;rw[nr];show _++((rs.map λr=>c++[r])++[])=_;rw[cK]
theorem acD{r:Int}(h:c.length<=100):cG (dL c) (.list [.int r])= .ok (dL (c++[r])):=by
 unfold dL;rw[tu (kA (xC (by rw[af,b9];lia))),aS];rfl
variable {cl:B5}
theorem qp{α:Type}{g:MG}{b:MS}(enc D:α->ab)(p:α->Bool):∀{xs:List α},(∀a∈xs,((g (enc a) Γ).bind b).bind (il cl)=if p a=true then .ok (.rt (D a)) else .ok (.nx Γ)) ->
 forR g cl b (xs.map enc) Γ=match xs.find? p with | some a=>.ok (.rt (D a)) | none=>.ok (.nx Γ)
 | [],_=>rfl
 | x::xs,h=>by
  have Z:=h x bg;have q:=qp enc D p λa s=>h a (bq _ s);rw[a7]
  cases Y:p x with
  | true=>
   rw[if_pos Y] at Z;obtain ⟨o,j,e⟩:=x8.au Z;obtain ⟨r,i,l⟩:=x8.au j;rw[fI,Y,forR,i,x8.aP,l,x8.aP];cases o <;> cases e;rfl
  | false=>
   rw[if_neg (by rw[Y];exact dV)] at Z;rw[yR Z,q,fI,Y]
theorem aac(h : -(2^63)<=x/\x<2^63/\ds.length*x.toNat<=ba):vo (.list ds) (.int x)= .ok (.list (aw x.toNat ds).flatten):=bB h
theorem rep1{x:ab}(Y:j<=100):vo (.list [x]) (.int (j:Nat))= .ok (.list (aw j x)):=by
 rw[aac ⟨by lia,by lia,by rw[cc,b9,Nat.one_mul];exact kA (xC (by lia))⟩,cc];congr 2;clear Y
 induction j with
 | zero=>rfl
 | succ j Z=>rw[en,ka,Z,en];rfl
noncomputable def markL(rs:B3):B3:=rs.foldl (λks r=>rY r ks) []
theorem vR{r:Int}:markL (rs++[r])=rY r (markL rs):=by rw[markL,e8];rfl
theorem Um(rs:B3):x∈markL rs↔x∈rs:=by
 induction rs using snoc_ind with
 | h0=>exact Iff.rfl
 | h rs r Y=>rw[vR,Jf,Y,cf,ay];exact Or.comm
theorem Rg(Y:B3):(markL Y).length<=Y.length:=by
 induction Y using snoc_ind with
 | h0=>exact ax _
 | h Y r Z=>rw[vR,ar];exact cS Kq (Nat.succ_le_succ Z)
theorem Vo(e:rs.length<=1000):vD [dR rs]= .ok (.dict (mk (markL rs))):=by
 unfold vD;ext;rw[show Ao (dR rs)= .ok (rs.map ab.int) from rfl,show jy [] [some (dR rs),none,none]= .ok (.dict []) from rfl];ext;refine bJ (λi=>[some (dR rs),some (.dict (mk (markL (rs.take i)))),none]) rfl (λi x Y=>?_) ?_
 . obtain ⟨r,Z,rfl⟩:=cZ Y;ext;rw[J1 rfl rfl rfl (cS (Rg _) (by rw[cp];lia)) (of_decide_eq_true rfl)];ext;rw[take_snoc Z,vR]
 . rw[af,dn];ext
noncomputable def cO(cs:List B3):List B3:=cs.foldl (λls rs=>iY rs ls) [[]]
theorem mW(cs:List B3)(Y:B3):cO (cs++[Y])=iY Y (cO cs):=by rw[cO,e8];rfl
theorem Uj:c∈iY rs ls↔∃d∈ls,∃r∈rs,c=d++[r]:=by
 rw[iY,ij];constructor
 . rintro ⟨d,hd,h⟩;obtain ⟨r,Y,rfl⟩:=bo.mp h;exact ⟨d,hd,r,Y,rfl⟩
 . rintro ⟨d,hd,r,Y,rfl⟩;exact ⟨d,hd,bo.mpr ⟨r,Y,rfl⟩⟩
variable {cs:List B3}
theorem pF:c∈cO cs↔c.length=cs.length/\∀i,i<cs.length->c.getD i 0∈cs.getD i []:=by
 induction cs using snoc_ind generalizing c with
 | h0=>
  constructor
  . intro h;rw[ay.mp h];exact ⟨rfl,λi Y=>absurd Y (nX _)⟩
  . rintro ⟨h,_⟩;rw[kb.mp h];exact ay.mpr rfl
 | h cs u p=>
  rw[mW,Uj];constructor
  . rintro ⟨d,hd,r,v,rfl⟩;obtain ⟨Z,j⟩:=p.mp hd;refine ⟨by rw[ar,ar,Z];rfl,λi Y=>?_⟩;rw[ar] at Y;have Y:i<cs.length+1:=Y;rcases ff i cs.length with q | q
    . have:=j i q;rw[ae,ae] at this ⊢;rw[bX (l₁:=d) (by lia),bX q];exact this
    . have e:i=cs.length:=by lia
      subst e;rw[ae,ae,be (l₁:=d) (by lia),be (ax _),Z,iN];exact v
  . rintro ⟨Z,j⟩;rw[ar] at Z;have Z:c.length=cs.length+1:=Z;have o:cs.length<c.length:=by lia
    refine ⟨c.take cs.length,p.mpr ⟨by rw[cp];lia,λi Y=>?_⟩,c.getD cs.length 0,?_,?_⟩
    . have:=j i (by rw[ar];exact Nat.lt_succ_of_lt Y);rw[ae,ae] at this ⊢;rw[bX Y] at this;rw[List.getElem?_take,if_pos Y];exact this
    . have:=j cs.length (by rw[ar];exact pV _);rwa [ae (l:=cs++[u]),be (ax _),iN] at this
    . rw[ae,ai o];show c=c.take cs.length++[c[cs.length]];have s:c.take (cs.length+1)=c.take cs.length++[c[cs.length]]:=by rw[mu,ai o];rfl
      rw[<- s,fA (by lia)]
theorem BL(h:c∈cO cs):c.length=cs.length:=(pF.mp h).1
variable {B:Nat}
theorem wY:∀{cs:List B3},(∀rs∈cs,rs.length<=B)->(cO cs).length<=B^cs.length:=λ{cs}=>by
 induction cs using snoc_ind with
 | h0=>exact λ_=>ax _
 | h cs rs Z=>
  intro Y;rw[mW,tY,ar];show _<=B^(cs.length+1);rw[rL];exact wb (Z λr e=>Y r (dy _ e)) (Y rs (by simp))
theorem sX(Y:B3):∀m,lD Y m=cO (aw m Y)
 | 0=>rfl
 | m+1=>by
  rw[qo,mW,<- sX Y m];rfl
theorem lY:c∈lD rs m↔c.length=m/\∀x∈c,x∈rs:=by
 rw[sX,pF,br];constructor
 . rintro ⟨Z,Y⟩;refine ⟨Z,λx j=>?_⟩;obtain ⟨i,e,rfl⟩:=ip.mp j;have:=Y i (by lia);rwa [ae,ae,ai e,fw (by lia)] at this
 . rintro ⟨Z,Y⟩;refine ⟨Z,λi e=>?_⟩;rw[ae,ae,ai (l:=c) (by lia),fw e];exact Y _ (eL _)
theorem ae2(Z:j<=16)(Y:m<=4):j^m<=65536:=cS (nv Z m) (cS (eI (by decide) Y) (by decide))
variable {enc:B3->ab}
theorem CT(u:∀rs,Ao (enc rs)= .ok (rs.map ab.int))(o:∀rs∈cs,rs.length<=16)(B:cs.length<=4):iG [.list (cs.map enc)]= .ok (.list ((cO cs).map dL)):=by
 unfold iG;ext;refine bJ (λi=>[some (.list (cs.map enc)),some (.list ((cO (cs.take i)).map dL)),none,none,none,none]) rfl (λi x Z=>?_) ?_
 . obtain ⟨rs,Y,rfl⟩:=cZ Z;have C:=(aI.mp Y).1;have e:=o rs (dA Y);have s:(cO (cs.take i)).length<=65536:=cS (wY λr q=>o r (j1 q)) (ae2 (ax _) (by rw[cp];lia));ext;refine bJ (λj=>[some (.list (cs.map enc)),some (.list ((cO (cs.take i)).map dL)),some (enc rs),some (.list ((iY rs ((cO (cs.take i)).take j)).map dL)),none,none]) rfl (λj x Z=>?_) ?_
   . obtain ⟨c,l,rfl⟩:=cZ Z;have v:=BL (dA l);rw[cp] at v;have z:(iY rs ((cO (cs.take i)).take j)).length<=1100000:=by
      rw[tY,cp];exact cS (wb (cS (tp _ _) s) e) (by decide)
     ext;rw[u];ext;refine bJ (λk=>[some (.list (cs.map enc)),some (.list ((cO (cs.take i)).map dL)),some (enc rs),some (.list ((iY rs ((cO (cs.take i)).take j)++(rs.take k).map λr=>c++[r]).map dL)),some (dL c),none]) ?_ (λk x Z=>?_) ?_
     . rw[kN,ew,cK]
     . obtain ⟨r,p,rfl⟩:=cZ Z;have D:=(aI.mp p).1;ext;rw[acD (by lia)];ext;rw[bB (h9 (show _<=1200000 by rw[ar,af,cp];lia) (by decide))];ext;rw[take_snoc p,aS (f:=λr=>c++[r]),<- da,aS (l₂:=List.map (λr=>c++[r]) [r])];rfl
     . rw[af,dn];ext;rw[take_snoc l,Bv]
   . rw[af,dn];ext;rw[take_snoc Y,mW]
 . rw[af,dn];ext
theorem Y9(o:j<=100000)(Z:m<=4):zB [.int (j:Nat),.int (m:Nat)]= .ok (.int ((j^m:Nat):Int)):=by
 unfold zB;ext;rw[dw (by lia)];ext;refine bJ (λi=>[some (.int j),some (.int m),some (.int ((j^i:Nat):Int)),none]) rfl (λi x Y=>?_) ?_
 . obtain ⟨l,rfl⟩:=jK Y;have e:((j^(i+1):Nat):Int)=(j:Nat)*((j^i:Nat):Int):=by rw[rL,Nat.mul_comm,Int.natCast_mul]
   rw[e];generalize j^i=q;walk_at "go"
 . rw[eV];ext
noncomputable abbrev xy(g:Nat×Int):ab:=dG g.1 g.2
theorem ZQ{m:ME}{es:B4}(Z:m Γ = .ok (.list es))(e:gv Γ i=some (.list ds))(Y:ds.length+es.length<=ba)(j:i < Γ.length):Ow i m Γ = .ok (.nx (Γ.set i (some (.list (ds++es))))):=by
 rw[Ow,Z];show (match gv Γ i,ab.list es with
  | some (.list ds),.list es=>gd (ds.length+es.length<=ba/\i < Γ.length) (.ok (Out.nx (Γ.set i (some (.list (ds++es))))))
  | _,_=>x8.bad)=_
 rw[e];exact bB ⟨Y,j⟩
noncomputable def gB(old fresh:B3)(n p:Nat):List B3:=aw p old++[fresh]++aw (n - p - 1) (old++fresh)
noncomputable def j9(old fresh:B3)(n:Nat):List B3:=(List.range n).flatMap λp=>cO (gB old fresh n p)
variable {old:B3}
theorem iD{n:Nat}(h:p<n):(gB old xs n p).length=n:=by
 rw[gB,ar,ar,br,br,b9];lia
theorem xX{fresh:B3}(h:p<j)(Y:i<j):(gB old fresh j p).getD i []=if i<p then old else if i=p then fresh else old++fresh:=by
 rw[gB,ae];rcases Nat.lt_trichotomy i p with q | q | q
 . rw[if_pos q,da,bX (by rw[br];exact q),fw q];rfl
 . subst q;rw[if_neg (ft _),if_pos rfl,da,be (by rw[br];exact ax _),br,iN];rfl
 . rw[if_neg (by lia),if_neg (by lia),be (by rw[ar,br,b9];lia),ar,br,b9,fw (by lia)];rfl
theorem sS{fresh:B3}(h:c∈j9 old fresh j):c.length=j/\∀x∈c,x∈old++fresh:=by
 obtain ⟨p,Y,h⟩:=ij.mp h;have Y:=cE.mp Y;obtain ⟨e,Z⟩:=pF.mp h;rw[iD Y] at e Z;refine ⟨e,λx l=>?_⟩;obtain ⟨i,o,rfl⟩:=ip.mp l;have:=Z i (by lia);rw[xX Y (by lia),ae,ai o] at this;have this:=this;split at this
 . exact dy _ this
 . split at this
   . exact ck _ this
   . exact this
theorem QL{fresh:B3}{n:Nat}(p:c.length=n)(u:∀x∈c,x∈old++fresh)(o:∃x∈c,x∉old):c∈j9 old fresh n:=by
 have e:c.findIdx (λx=>!decide (x∈old))<c.length:=List.findIdx_lt_length.mpr (by
  obtain ⟨x,s,r⟩:=o;exact ⟨x,s,by rw[decide_eq_false r];rfl⟩)
 have l:=List.findIdx_getElem (w:=e);refine ij.mpr ⟨c.findIdx (λx=>!decide (x∈old)),cE.mpr (by lia),pF.mpr ⟨by rw[iD (by lia),p],λi j=>?_⟩⟩;rw[iD (by lia)] at j;rw[xX (by lia) j,ae,ai (by lia)];have Y:=u _ (eL (show i<c.length by lia));split
 . rename_i q;have:=List.not_of_lt_findIdx q;simp only[Bool.not_eq_false'] at this;exact of_decide_eq_true this
 . split
   . rename_i q;subst q;have Z:c[c.findIdx (λx=>!decide (x∈old))]∉old:=by
      intro z;rw[decide_eq_true z] at l;cases l
     exact (cf.mp Y).resolve_left Z
   . exact Y
theorem qd{b:B4}(h:ds.length+b.length<=1000):cG (.list ds) (.list b)= .ok (.list (ds++b)):=tu (kA (xC (by lia)))
noncomputable def jY(n:Nat)(gs:A9):Nat:=(gs.map λg=>n^g.1).sum
variable {gs:A9}
theorem qX{n:Nat}(l:n<=100000)(i:gs.length<=100)(Z:∀g∈gs,g.1<=4):je [.int (n:Nat),.list (gs.map xy)]= .ok (.int (jY n gs:Nat)):=by
 unfold je;ext;rw[jn (xs:=gs) xy (λg=>.int ((n^g.1:Nat):Int)) ?_ (xC (by lia)) λg h=>?_]
 . ext;rw[show gs.map (λg=>ab.int ((n^g.1:Nat):Int))=(gs.map λg=>((n^g.1:Nat):Int)).map ab.int by rw[cy];rfl];have:∀Y:B3,Fg [.list (Y.map ab.int)]= .ok (.int Y.sum):=λY=>yE;rw[this];ext;unfold jY;congr 2
   induction gs with
   | nil=>rfl
   | cons g gs j=>
    rw[a7,hY,a7,hY,vT,j (by rw[a6] at i;lia) λq e=>Z q (bq _ e)]
 . ext
 . ext;rw[Y9 l (Z g h)]
theorem K7(e:j<=128)(Z:gs.length<=100)(Y:∀g∈gs,g.1<=4)(i:jY j gs<=20000):fB [.int (j:Nat),.list (gs.map xy)]= .ok .none:=by
 unfold fB;ext;rw[decide_eq_false (by lia)];ext;rw[qX (by lia) Z Y];ext;rw[decide_eq_false (by lia)];ext
def Z1(gs:A9)(w:Nat)(Z:Int->Prop):Prop:=∀g∈gs,∀c:B3,c.length=g.1->(∀x∈c,Z x)->Z (gC g.2 c w)
def Reach(gs:A9)(w:Nat)(rs:B3)(x:Int):Prop:=∀Z:Int->Prop,(∀r∈rs,Z r)->Z1 gs w Z->Z x
theorem qY:∀{N:Nat}{l:B3},l.Nodup->(∀x∈l,0<=x/\x<N)->l.length<=N
 | 0,l,e,Z=>by
  cases l with
  | nil=>exact ax _
  | cons x l=>have:=Z x bg;lia
 | N+1,l,e,Z=>by
  have j:(l.erase (N:Int)).length<=N:=qY (e.erase _) λx Y=>by
   have Y:=(e.mem_erase_iff).mp Y;have:=Z x Y.2;have o:=Y.1;lia
  by_cases i:(N:Int)∈l
  . rw[List.length_erase_of_mem i] at j;lia
  . rw[List.erase_of_not_mem i] at j;lia
theorem oF{l:B3}:x∈srt l↔x∈l:=(Aa l).mem_iff
theorem acY{m:ME}{d:ab}(h:m Γ = .ok d):sEx m Γ = .ok (.nx Γ):=by rw[sEx,h];rfl
theorem acP(h:∀g∈gs,j^g.1<=B):jY j gs<=gs.length*B:=by
 unfold jY
 induction gs with
 | nil=>simp
 | cons g gs Z=>
  rw[a7,hY,a6,ve];have i:=h g bg;have e:=Z λq Y=>h q (bq _ Y);lia
noncomputable def Du(w:Nat)(rs:B3):ab:=.tuple [.int (w:Nat),dR rs]
noncomputable def brk(b:Int)(w:Nat)(rs:B3)(m:Nat):Option B3:=(lD rs m).find? λc=>!decide (gC b c w∈rs)
noncomputable def yh:Option B3->ab
 | none=>.none
 | some c=>dL c
theorem Ve(i:rs.length<=16)(Y:m<=4)(l:rs.length^m<=20000)(j:w<=100):rO [dG m b,Du w rs]= .ok (yh (brk b w rs m)):=by
 unfold rO Du;ext;rw[show fG [dR rs]= .ok (.int (rs.length:Nat)) by rw[dR,vz,af]];ext;have Z:=qX (n:=rs.length) (gs:=[(m,b)]) (by lia) (by simp) λg e=>by rw[ay.mp e];exact Y
 rw[show ab.list [dG m b]= .list ([(m,b)].map xy) from rfl,Z,show jY rs.length [(m,b)]=rs.length^m by unfold jY;simp];ext;rw[decide_eq_false (by lia)];ext;rw[Vo (by lia)];ext;rw[rep1 (by lia)];ext;rw[show aw m (dR rs)=(aw m rs).map dR by rw[i7],CT (λ_=>rfl) (λr h=>by rw[(og.mp h).2];exact i) (by rw[br];exact Y),<- sX];ext;rw[qp dL dL (λc=>!decide (gC b c w∈rs)) λc Z=>?_]
 . unfold brk
   cases (lD rs m).find? λc=>!decide (gC b c w∈rs) with
   | none=>ext;rfl
   | some c=>ext;rfl
 . ext;rw[Pu (by rw[Gs m c Z]) Y j];ext;rw[Vd,decide_eq_decide.mpr (Um rs)];ext;rw[CQ]
   by_cases h:gC b c w∈rs
   . rw[decide_eq_true h];rfl
   . rw[decide_eq_false h];rfl
theorem WM:(brk b w rs m).isNone=(lD rs m).all λc=>decide (gC b c w∈rs):=by
 unfold brk
 cases h:(lD rs m).find? λc=>!decide (gC b c w∈rs) with
 | none=>
  have:=mf.mp h;symm;show _=true;rw[d3];intro c e;have:=this c e;simpa using this
 | some c=>
  have Y:=rq h;have Z:=kU h;symm;show _=false;rw[<- Bool.not_eq_true,d3];intro z;have:=z c Z;rw[this] at Y;cases Y
theorem Yc:inY (.int x) (.dict (mk ks))= .ok (.bool (decide (x∈ks))):=by
 show x8.ok (ab.bool ((cP (.inl x) (mk ks)).isSome))=_;rw[Ej]
theorem SM(h:W<=100000):Dr (.int (((W:Nat):Int) - 1)) (.int (-1)) (.int (-1))= .ok ((List.range W).map λi=>ab.int (((W:Nat):Int) - 1 - (i:Nat))):=by
 have e:c6 (((W:Nat):Int) - 1) (-1) (-1)=((W:Nat):Int):=by
  unfold c6;simp;lia
 show gd ((-1:Int)≠0/\(-1:Int).natAbs<1073741824/\Builtin.Range.small (((W:Nat):Int) - 1) (-1) (-1)=true/\0<=c6 (((W:Nat):Int) - 1) (-1) (-1)) (x8.ok ((List.range (c6 (((W:Nat):Int) - 1) (-1) (-1)).toNat).map λj=>ab.int (((W:Nat):Int) - 1+(j:Nat)*(-1))))=_;rw[e,bB ⟨by decide,by decide,by unfold Builtin.Range.small;simp only[mw];simp;lia,by lia⟩,cc];congr 1;exact bt λi _=>by congr 1;lia
noncomputable def lF(U:B3)(ws:B5):B3:=ws.foldl (λU w=>rY ((w:Nat):Int) U) U
variable {U:B3}
theorem uD:lF U (hs++[w])=rY ((w:Nat):Int) (lF U hs):=by rw[lF,e8];rfl
theorem vZ(ws:B5):x∈lF U ws↔x∈U\/∃w∈ws,x=((w:Nat):Int):=by
 induction ws using snoc_ind with
 | h0=>simp[lF]
 | h ws w Y=>
  rw[uD,Jf,Y];constructor
  . rintro (rfl | h | ⟨v,hv,rfl⟩)
    . exact .inr ⟨w,by simp,rfl⟩
    . exact .inl h
    . exact .inr ⟨v,by simp[hv],rfl⟩
  . rintro (h | ⟨v,hv,rfl⟩)
    . exact .inr (.inl h)
    . rcases cf.mp hv with hv | hv
      . exact .inr (.inr ⟨v,hv,rfl⟩)
      . rw[ay.mp hv];exact .inl rfl
theorem wz(ws:B5):(lF U ws).length<=U.length+ws.length:=by
 induction ws using snoc_ind with
 | h0=>exact ax _
 | h ws w Y=>rw[uD,ar,b9];have:=Kq (x:=((w:Nat):Int)) (ks:=lF U ws);lia
noncomputable def dz(n:Nat)(ss:List aD)(o:Nat):Nat->B3
 | 0=>[((o:Nat):Int)]
 | i+1=>if ((n+(ss.length - 1 - i):Nat):Int)∈dz n ss o i then lF (dz n ss o i) ((ss[ss.length - 1 - i]?.map aD.ws).getD []) else dz n ss o i
theorem J3{o:Nat}(hs:aU j ss):∀i,(dz j ss o i).length<=1+4*i
 | 0=>ax _
 | i+1=>by
  have Y:=J3 (o:=o) hs i;unfold dz;split
  . cases e:ss[ss.length - 1 - i]? with
    | none=>have:=wz (U:=dz j ss o i) [];simp at this ⊢;lia
    | some s=>
     have:=wz (U:=dz j ss o i) s.ws;have ok:=hs _ s e;have:=ok.len;have:=ok.m4;simp;lia
  . lia
theorem acg(hs:aU W ss)(D:ss.length<=5000):m8 [dC W ss o]= .ok (.dict (mk (dz W ss o ss.length))):=by
 unfold m8;ext;rw[Qc];ext;rw[HY];ext;rw[show ∀Y:Ev,gv Y 0=some (dC W ss o)->Hm (ao xt (aj 0) (eC (.int 2))) (eC (.bool true)) Y= .ok (.dict (mk [((o:Nat):Int)])) from λY h=>by
  rw[Hm,show (ao xt (aj 0) (eC (.int 2))) Y= .ok (.int (o:Nat)) by unfold ao aj;rw[h];rfl];rfl]
 . ext;rw[show ∀Y:Ev,gv Y 2=some (.tuple (ss.map aD.d))->Ag (ao iQ (eFn fG [(aj 2)]) (eC (.int 1))) (eUn Jd (eC (.int 1))) (eUn Jd (eC (.int 1))) Y= .ok ((List.range ss.length).map λi=>ab.int (((ss.length:Nat):Int) - 1 - (i:Nat))) from λY h=>by
    rw[Ag,show (ao iQ (eFn fG [(aj 2)]) (eC (.int 1))) Y= .ok (.int ((ss.length:Int) - 1)) by
     show ((eFn fG [(aj 2)]) Y).bind _=_;rw[show (eFn fG [(aj 2)]) Y= .ok (.int ss.length) by
      unfold eFn evs aj;rw[h];show fG [.tuple (ss.map aD.d)]=_;rw[vz,af]]
     rfl]
    exact SM (by lia)]
   . ext;refine bJ (λi=>[some (dC W ss o),some (.int W),some (.tuple (ss.map aD.d)),some (.dict (mk (dz W ss o i))),none,none]) rfl (λi x q=>?_) ?_
     . obtain ⟨B,v,rfl⟩:=cZ q;obtain ⟨E,l⟩:i<ss.length/\B=i:=by
        have:=(aI.mp v);obtain ⟨u,r⟩:=this;rw[cx] at u;rw[List.getElem_range] at r;exact ⟨u,r.symm⟩
       rw[l];have z:=J3 (o:=o) hs i;ext;rw[show (W:Int)+((ss.length:Int) - 1 - i)=((W+(ss.length - 1 - i):Nat):Int) by lia,Yc,show dz W ss o (i+1)=if ((W+(ss.length - 1 - i):Nat):Int)∈dz W ss o i then lF (dz W ss o i) ((ss[ss.length - 1 - i]?.map aD.ws).getD []) else dz W ss o i from rfl]
       by_cases e:((W+(ss.length - 1 - i):Nat):Int)∈dz W ss o i
       . rw[if_pos e,decide_eq_true e];generalize dz W ss o i=U at z;have p:ss.length - 1 - i<ss.length:=by lia
         have Z:=ai p;generalize ss[ss.length - 1 - i]=s at Z;have ok:=hs _ s Z;have H:=ok.len;have m4:=ok.m4;ext;rw[show (ss.length:Int) - 1 - i=((ss.length - 1 - i:Nat):Int) by lia,sV (by rw[a8,Z];rfl),Z];ext;rw[show xt s.d (.int 1)= .ok (.tuple (dN s.ws)) from rfl];ext;refine bJ (λj=>[some (dC W ss o),some (.int W),some (.tuple (ss.map aD.d)),some (.dict (mk (lF U (s.ws.take j)))),some (.int ((ss.length - 1 - i:Nat):Int)),none]) rfl (λj x q=>?_) ?_
         . obtain ⟨w,C,rfl⟩:=cZ q;have:=wz (U:=U) (s.ws.take j);rw[cp] at this;ext;rw[J1 rfl rfl rfl (by lia) (of_decide_eq_true rfl)];ext;rw[take_snoc C,uD]
         . rw[rB,dn];ext;rfl
       . rw[if_neg e,decide_eq_false e];ext
     . rw[af,cx];ext
   . rfl
 . rfl
section
variable {n:Nat}
theorem FT(h:x∈dz n ss o i):x∈dz n ss o (i+1):=by
 unfold dz;split
 . exact (vZ _).mpr (.inl h)
 . exact h
theorem Gb:∀d,x∈dz n ss o i->x∈dz n ss o (i+d)
 | 0,h=>h
 | d+1,h=>FT (Gb d h)
theorem vQ:∀i,((o:Nat):Int)∈dz n ss o i
 | 0=>ay.mpr rfl
 | i+1=>FT (vQ i)
theorem z9(hs:aU n ss):∀d,i+d<=ss.length->x∈dz n ss o (i+d)->x∈dz n ss o i\/x<((n+(ss.length - 1 - i):Nat):Int)
 | 0,_,h=>.inl h
 | d+1,hd,h=>by
  have h:x∈dz n ss o (i+d+1):=h;unfold dz at h;split at h
  . rcases (vZ _).mp h with h | ⟨w,Z,rfl⟩
    . exact z9 hs d (by lia) h
    . have Y:ss.length - 1 - (i+d)<ss.length:=by lia
      rw[ai Y] at Z;have:=(hs _ _ (ai Y)).lt w Z;right;lia
  . exact z9 hs d (by lia) h
theorem uA(hs:aU n ss)(e:ss[j]?=some s)(h:((n+j:Nat):Int)∈dz n ss o ss.length):∀w∈s.ws,((w:Nat):Int)∈dz n ss o ss.length:=λw p=>by
 have r:=(aI.mp e).1;obtain ⟨i,q⟩:∃i,i=ss.length - 1 - j:=⟨_,rfl⟩;have Y:ss.length - 1 - i=j:=by lia
 have l:((n+j:Nat):Int)∈dz n ss o i:=by
  rcases z9 hs (i:=i) (ss.length - i) (by lia) (by rw[show i+(ss.length - i)=ss.length by lia];exact h) with h | h
  . exact h
  . rw[Y] at h;lia
 have Z:((w:Nat):Int)∈dz n ss o (i+1):=by
  rw[dz,Y,if_pos l,e];exact (vZ _).mpr (.inr ⟨w,p,rfl⟩)
 have:=Gb (ss.length - (i+1)) Z;rwa [show i+1+(ss.length - (i+1))=ss.length by lia] at this
end
noncomputable def dP(ps:List (Nat×Nat)):B0:=ps.map λp=>(ab.int (p.1:Nat),ab.int (p.2:Nat))
noncomputable def lkP(w:Nat):List (Nat×Nat)->Option Nat
 | []=>none
 | p::r=>if p.1=w then some p.2 else lkP w r
theorem Ff(w:Nat):∀ps:List (Nat×Nat),cP (.inl ((w:Nat):Int)) (dP ps)=(lkP w ps).map λv=>ab.int (v:Nat)
 | []=>rfl
 | p::r=>by
  show (if bM (ab.int (p.1:Nat))=some (.inl ((w:Nat):Int)) then some (ab.int (p.2:Nat)) else cP (.inl ((w:Nat):Int)) (dP r))=_;unfold lkP
  by_cases h:p.1=w
  . rw[if_pos (by rw[h];rfl),if_pos h];rfl
  . rw[if_neg (show ¬ (bM (ab.int (p.1:Nat))=some (.inl ((w:Nat):Int))) from λz=>h (wh.inj (kz.inj (Option.some.inj z)))),if_neg h,Ff w r]
theorem Sv(w:Nat):∀ps:List (Nat×Nat),nR (.inl ((w:Nat):Int)) (dP ps)=(lkP w ps).isSome
 | []=>rfl
 | p::r=>by
  show (if bM (ab.int (p.1:Nat))=some (.inl ((w:Nat):Int)) then true else nR (.inl ((w:Nat):Int)) (dP r))=_;unfold lkP
  by_cases h:p.1=w
  . rw[if_pos (by rw[h];rfl),if_pos h];rfl
  . rw[if_neg (show ¬ (bM (ab.int (p.1:Nat))=some (.inl ((w:Nat):Int))) from λz=>h (wh.inj (kz.inj (Option.some.inj z)))),if_neg h,Sv w r]
theorem uL:∀{ps:List (Nat×Nat)},lkP w (ps++[(j,W)])=match lkP w ps with | some u=>some u | none=>if j=w then some W else none
 | []=>rfl
 | p::r=>by
  show (if p.1=w then some p.2 else lkP w (r++[(j,W)]))=match (if p.1=w then some p.2 else lkP w r) with | some u=>some u | none=>if j=w then some W else none
  by_cases h:p.1=w
  . rw[if_pos h,if_pos h]
  . rw[if_neg h,if_neg h,uL]
variable {ps:List (Nat×Nat)}
theorem abl{v:Nat}{m:ME}(h:m Γ = .ok (.int (j:Nat)))(l:m1 Γ = .ok (.int (v:Nat)))(Z:gv Γ i=some (.dict (dP ps)))(o:lkP j ps=none)(Y:ps.length<=100000)(e:i < Γ.length) :
 iW i m m1 Γ = .ok (.nx (Γ.set i (some (.dict (dP (ps++[(j,v)])))))):=by
 rw[iW,l,x8.aP,h,x8.aP,Z];show gd ((dP ps).length<ba/\i < Γ.length) (x8.ok (Out.nx (Γ.set i (some (.dict (gJ (.int (j:Nat)) (.inl ((j:Nat):Int)) (.int (v:Nat)) (dP ps)))))))=_;rw[bB ⟨xC (by rw[dP,af];exact Y),e⟩];rw[gJ,Sv,o,if_neg (by decide)];unfold dP;rw[aS];rfl
noncomputable def rnP(ps:List (Nat×Nat))(s:aD):aD:=⟨s.m,s.b,s.ws.map λw=>(lkP w ps).getD 0⟩
theorem QF(Z:∀w∈s.ws,(lkP w ps).isSome=true)(i:s.ws.length<=100):jl [s.d,.dict (dP ps)]= .ok (rnP ps s).d:=by
 unfold jl aD.d;ext;rw[jn (xs:=s.ws) (λw=>ab.int w) (λw=>.int ((lkP w ps).getD 0:Nat)) ?_ (xC (by lia)) λw Y=>?_]
 rotate_left
 . ext;rfl
 . ext;show (match cP (.inl ((w:Nat):Int)) (dP ps) with | some d=>x8.ok d | none=>.bad)=_;rw[Ff];obtain ⟨v,e⟩:=fS.mp (Z w Y);rw[e];rfl
 ext;unfold rnP dN;rw[cy];rfl
noncomputable def gf(n:Nat)(U:B3)(ss:List aD):Nat->List aD×List (Nat×Nat)
 | 0=>([],(List.range n).map λj=>(j,j))
 | i+1=>if ((n+i:Nat):Int)∈U then ((gf n U ss i).1++[rnP (gf n U ss i).2 (ss.getD i ⟨0,0,[]⟩)],(gf n U ss i).2++[(n+i,n+(gf n U ss i).1.length)]) else gf n U ss i
theorem rZ:∀l:B5,lkP w (l.map λj=>(j,j))=if w∈l then some w else none
 | []=>rfl
 | j::r=>by
  show (if j=w then some j else lkP w (r.map λj=>(j,j)))=_;rw[rZ r]
  by_cases h:j=w
  . rw[if_pos h,if_pos (by rw[h];exact bg),h]
  . rw[if_neg h]
    by_cases Y:w∈r
    . rw[if_pos Y,if_pos (bq _ Y)]
    . rw[if_neg Y,if_neg (λz=>(bE.mp z).elim (λz=>h z.symm) Y)]
theorem yZ(h:((j+i:Nat):Int)∈U):gf j U ss (i+1)=((gf j U ss i).1++[rnP (gf j U ss i).2 (ss.getD i ⟨0,0,[]⟩)],(gf j U ss i).2++[(j+i,j+(gf j U ss i).1.length)]):=by
 show (if _ then _ else _)=_;rw[if_pos h]
theorem vA(h:((j+i:Nat):Int)∉U):gf j U ss (i+1)=gf j U ss i:=by
 show (if _ then _ else _)=_;rw[if_neg h]
structure aeD (n:Nat) (U:B3) (i:Nat) (a:List aD×List (Nat×Nat)):Prop where
 st:aU n a.1
 len:a.1.length<=i
 pl:a.2.length<=n+i
 has:∀w,w<n+i->(w<n\/((w:Nat):Int)∈U)->∃v,lkP w a.2=some v/\v<n+a.1.length
 new:∀w,n+i<=w->lkP w a.2=none
noncomputable def Jz(n:Nat)(U:B3)(ss:List aD):Prop:=∀j s,ss[j]?=some s->((n+j:Nat):Int)∈U->∀w∈s.ws,w<n\/((w:Nat):Int)∈U
theorem qL(hs:aU W ss)(B:Jz W U ss):∀i,i<=ss.length->aeD W U i (gf W U ss i)
 | 0,_=>by
  refine ⟨aU.nil,ax _,by show ((List.range W).map _).length<=_;rw[af,cx];exact ax _,λw Y _=>⟨w,?_,Y⟩,λw Y=>?_⟩
  . show lkP w ((List.range W).map λj=>(j,j))=_;rw[rZ,if_pos (cE.mpr (show w<W from Y))]
  . show lkP w ((List.range W).map λj=>(j,j))=_;rw[rZ,if_neg (λz=>by have:=cE.mp z;lia)]
 | i+1,H=>by
  obtain ⟨q,C,D,Z,o⟩:=qL hs B i (by lia)
  by_cases h:((W+i:Nat):Int)∈U
  . have l:ss[i]?=some ss[i]:=ai (by lia);rw[yZ h,show ss.getD i ⟨0,0,[]⟩=ss[i] by rw[ae,l];rfl];generalize ss[i]=s at l;have ok:=hs i s l;have cl:=B i s l h;generalize gf W U ss i=a at q C D Z o;refine ⟨q.snoc ⟨ok.m4,by show (s.ws.map _).length=_;rw[af];exact ok.len,λk E=>?_,ok.b0,ok.b1⟩,by simp;lia,by simp;lia,λw Y hu=>?_,λw Y=>?_⟩
    . obtain ⟨w,Y,rfl⟩:=bo.mp E;obtain ⟨v,e,u⟩:=Z w (ok.lt w Y) (cl w Y);rw[e];exact u
    . rw[ar,b9]
      by_cases p:w<W+i
      . obtain ⟨v,e,u⟩:=Z w p hu;exact ⟨v,by rw[uL,e],by lia⟩
      . have r:w=W+i:=by lia
        subst r;exact ⟨W+a.1.length,by rw[uL,o _ (ax _),if_pos rfl],by lia⟩
    . rw[uL,o w (by lia),if_neg (by lia)]
  . rw[vA h];refine ⟨q,by lia,by lia,λw Y hu=>Z w ?_ hu,λw Y=>o w (by lia)⟩;rcases ff w (W+i) with z | z
    . exact z
    . have r:w=W+i:=by lia
      subst r;rcases hu with hu | hu
      . lia
      . exact absurd hu h
theorem xn{q:Type}{φ:Nat->Int->List q->q}{z:q}{base:List q}(l:base.length=W)(hs:aU W ss)(r:Jz W U ss):∀i,i<=ss.length->∀w v,w<W+i->(w<W\/((w:Nat):Int)∈U)->lkP w (gf W U ss i).2=some v->(cN φ z base (gf W U ss i).1).getD v z=(cN φ z base ss).getD w z
 | 0,_,w,v,Y,_,e=>by
  have e:lkP w ((List.range W).map λj=>(j,j))=some v:=e;rw[rZ,if_pos (cE.mpr (show w<W from Y))] at e;cases e;have:=n6 (φ:=φ) (z:=z) l (x4:=[]) Y ss;exact this.symm
 | i+1,M,w,v,Y,hu,e=>by
  obtain ⟨I,H,J,B,E⟩:=qL hs r i (by lia);have p:=xn (φ:=φ) (z:=z) l hs r i (by lia)
  by_cases h:((W+i:Nat):Int)∈U
  . have o:ss[i]?=some ss[i]:=ai (by lia);rw[yZ h,show ss.getD i ⟨0,0,[]⟩=ss[i] by rw[ae,o];rfl] at e ⊢;generalize ss[i]=s at o e;have ok:=hs i s o;have cl:=r i s o h;generalize gf W U ss i=a at I H J B E p e;rw[uL] at e
    by_cases Z:w<W+i
    . obtain ⟨L,D,C⟩:=B w Z hu;rw[D] at e;cases e;rw[n6 l C];exact p w v Z hu D
    . have u:w=W+i:=by lia
      subst u;rw[E _ (ax _),if_pos rfl] at e;cases e;rw[yq l,fold_at l ss hs i s o];show φ s.m s.b ((s.ws.map _).map _)=_;rw[cy];congr 1;refine bt λw Y=>?_;obtain ⟨v,e,C⟩:=B w (ok.lt w Y) (cl w Y);show (cN φ z base a.1).getD ((lkP w a.2).getD 0) z=_;rw[e];exact p w v (ok.lt w Y) (cl w Y) e
  . rw[vA h] at e ⊢;refine p w v ?_ hu e;rcases ff w (W+i) with y | y
    . exact y
    . have u:w=W+i:=by lia
      subst u;rcases hu with hu | hu
      . lia
      . exact absurd hu h
theorem KR{n:Nat}(hs:aU n ss)(H:n<=100)(r:ss.length<=5000)(D:o<n+ss.length) :
 fL [dC n ss o]= .ok (dC n (gf n (dz n ss o ss.length) ss ss.length).1 ((lkP o (gf n (dz n ss o ss.length) ss ss.length).2).getD 0)):=by
 have p:Jz n (dz n ss o ss.length) ss:=λj s e h w l=>.inr (uA hs e h w l);have Y:=vQ (n:=n) (ss:=ss) (o:=o) ss.length;unfold fL;ext;rw[Qc];ext;rw[acg hs r];generalize dz n ss o ss.length=U at p Y;ext;rw[dw (by lia)];ext;refine bJ (λi=>[some (dC n ss o),some (.int n),some (.dict (mk U)),some (.dict (dP ((List.range i).map λj=>(j,j)))),none,none,none,none]) rfl (λi x q=>?_) ?_
 . obtain ⟨B,rfl⟩:=jK q;ext;rw[abl rfl rfl rfl (by rw[rZ,if_neg (λz=>by have:=cE.mp z;lia)]) (by rw[af,cx];lia) (of_decide_eq_true rfl)];ext;rw[kr,aS];rfl
 . rw[eV];ext;rw[HY];ext;rw[Ax];ext;refine bJ (λi=>[some (dC n ss o),some (.int n),some (.dict (mk U)),some (.dict (dP (gf n U ss i).2)),none,some (.list ((gf n U ss i).1.map aD.d)),none,none]) rfl (λi x q=>?_) ?_
   . obtain ⟨d,hd,rfl⟩:=Td q;obtain ⟨s,Z,rfl⟩:=cZ hd;have B:=(aI.mp Z).1;have ok:=hs i s Z;have m4:=ok.m4;have I:=ok.len;have u:=qL hs p i (by lia);have E:=u.len;have C:=u.pl;ext;rw[show (n:Int)+i=((n+i:Nat):Int) by lia,Yc]
     by_cases h:((n+i:Nat):Int)∈U
     . rw[decide_eq_true h,yZ h,show ss.getD i ⟨0,0,[]⟩=s by rw[ae,Z];rfl];have cl:=p i s Z h;generalize gf n U ss i=a at u E C;ext;rw[QF (λw l=>by obtain ⟨v,e,_⟩:=u.has w (ok.lt w l) (cl w l);rw[e];rfl) (by lia)];ext;rw[bB (xC (by lia))];ext;rw[abl (v:=n+a.1.length) (by ext;congr 1) (by ext;congr 2;rw[ar,af,b9];lia) rfl (u.new _ (ax _)) (by lia) (of_decide_eq_true rfl)];ext;rw[aS];rfl
     . rw[decide_eq_false h,vA h];ext
   . rw[KC,af];have u:=qL hs p ss.length (ax _);obtain ⟨v,e,_⟩:=u.has o D (.inr Y);ext;rw[Pz];ext;rw[show ixY (.dict (dP (gf n U ss ss.length).2)) (.int (o:Nat))= .ok (.int (v:Nat)) from by
      show (match cP (.inl ((o:Nat):Int)) (dP (gf n U ss ss.length).2) with | some d=>x8.ok d | none=>.bad)=_;rw[Ff,e];rfl,e]
     rfl
structure Alike (n:Nat) (ss:List aD) (o:Nat) (ss':List aD) (o':Nat):Prop where
 ok:aU n ss'
 lt:o'<n+ss'.length
 same:∀{β:Type} (φ:Nat->Int->List β->β) (z:β) (base:List β),base.length=n->(cN φ z base ss').getD o' z=(cN φ z base ss).getD o z
theorem Vt(u:j<=4)(hs:aU j ss)(l:ss.length<=600)(q:o<j+ss.length):X7 (dC j ss o)=true:=by
 show ((decide ((0:Int)<=(j:Nat))&&decide (((j:Nat):Int)<5))&&decide ((ss.map aD.d).length<=600)&&(List.range (ss.map aD.d).length).all (λi=>o5 ((ss.map aD.d).getD i .none) (((j:Nat):Int)+(i:Nat)))&&gb (.int (o:Nat)) (((j:Nat):Int)+(ss.map aD.d).length))=true;rw[af,decide_eq_true (by lia),decide_eq_true (by lia),decide_eq_true l];have e:gb (.int (o:Nat)) (((j:Nat):Int)+(ss.length:Nat))=true:=decide_eq_true (by lia);rw[e,Bool.and_true,tf,tf,tf,d3];intro i Z;have Z:=cE.mp Z;have Y:=ai Z;rw[ae,a8,Y];generalize ss[i]=s at Y;have ok:=hs i s Y;have m4:=ok.m4;have r:=ok.len;show (zE (dG s.m s.b)&&KH (.tuple (dN s.ws)) (PB (dG s.m s.b)) _)=true;rw[c9];constructor
 . exact decide_eq_true ⟨by lia,by lia,ok.b0,by rw[cc];exact ok.b1⟩
 . show (decide (((dN s.ws).length:Int)=((s.m:Nat):Int))&&(dN s.ws).all λd=>gb d _)=true;rw[rB,decide_eq_true (by lia),tf,d3];intro d hd;obtain ⟨w,p,rfl⟩:=bo.mp hd;have:=ok.lt w p;exact decide_eq_true (by lia)
theorem W8(h:j^m<=B)(Z:1<=B)(e:i<=m):j^i<=B:=by
 by_cases Y:j=0
 . subst Y;exact cS (by cases i with | zero=>exact ax _ | succ i=>rw[Nat.zero_pow (Nat.succ_pos i)];exact iP _) Z
 . exact cS (eI (Nat.pos_of_ne_zero Y) e) h
theorem Lg(u:∀rs,Ao (enc rs)= .ok (rs.map ab.int))(s:∀rs∈cs,rs.length<=256)(C:cs.length<=4)(p:∀i,i<cs.length->(cO (cs.take i)).length<=20000):iG [.list (cs.map enc)]= .ok (.list ((cO cs).map dL)):=by
 unfold iG;ext;refine bJ (λi=>[some (.list (cs.map enc)),some (.list ((cO (cs.take i)).map dL)),none,none,none,none]) rfl (λi x Z=>?_) ?_
 . obtain ⟨rs,Y,rfl⟩:=cZ Z;have v:=(aI.mp Y).1;have e:=s rs (dA Y);have q:=p i v;ext;refine bJ (λj=>[some (.list (cs.map enc)),some (.list ((cO (cs.take i)).map dL)),some (enc rs),some (.list ((iY rs ((cO (cs.take i)).take j)).map dL)),none,none]) rfl (λj x Z=>?_) ?_
   . obtain ⟨c,l,rfl⟩:=cZ Z;have z:=BL (dA l);rw[cp] at z;have B:(iY rs ((cO (cs.take i)).take j)).length<=5200000:=by
      rw[tY,cp];exact cS (wb (cS (tp _ _) q) e) (by decide)
     ext;rw[u];ext;refine bJ (λk=>[some (.list (cs.map enc)),some (.list ((cO (cs.take i)).map dL)),some (enc rs),some (.list ((iY rs ((cO (cs.take i)).take j)++(rs.take k).map λr=>c++[r]).map dL)),some (dL c),none]) ?_ (λk x Z=>?_) ?_
     . rw[kN,ew,cK]
     . obtain ⟨r,o,rfl⟩:=cZ Z;have D:=(aI.mp o).1;ext;rw[acD (by lia)];ext;rw[bB (h9 (show _<=5300000 by rw[ar,af,cp];lia) (by decide))];ext;rw[take_snoc o,aS (f:=λr=>c++[r]),<- da,aS (l₂:=List.map (λr=>c++[r]) [r])];rfl
     . rw[af,dn];ext;rw[take_snoc l,Bv]
   . rw[af,dn];ext;rw[take_snoc Y,mW]
 . rw[af,dn];ext
theorem tR(h:rs∈gB old xs j p):rs.length<=old.length+xs.length:=by
 rcases cf.mp h with h | h
 . rcases cf.mp h with h | h
   . rw[(og.mp h).2];lia
   . rw[ay.mp h];lia
 . rw[(og.mp h).2,ar];exact ax _
theorem Sq(Z:∀rs∈cs,rs.length<=B)(e:B^cs.length<=20000)(Y:i<=cs.length):(cO (cs.take i)).length<=20000:=by
 have:=wY (cs:=cs.take i) (λrs h=>Z rs (j1 h));rw[cp,ro Y] at this;exact cS this (W8 e (by decide) Y)
theorem Ig(Y:∀rs∈cs,rs.length<=B)(Z:B^cs.length<=20000):(cO cs).length<=20000:=cS (wY Y) Z
theorem places_len(Y:(old.length+xs.length)^j<=20000):∀k,k<=j->(((List.range k).flatMap λp=>cO (gB old xs j p))).length<=k*20000:=λk=>by
 induction k with
 | zero=>intro _;simp
 | succ k Z=>
  intro q;rw[kr,nr,ar,ve];have o:=Z (by lia);have l:(cO (gB old xs j k)).length<=20000:=Ig (λi h=>tR h) (by rw[iD (by lia)];exact Y);have e:([k].flatMap λp=>cO (gB old xs j p)).length=(cO (gB old xs j k)).length:=by simp
  rw[e];lia
theorem DP(z:old.length+xs.length<=128)(s:W<=4)(e:(old.length+xs.length)^W<=20000):lU [dL old,dL xs,.int (W:Nat)]= .ok (.list ((j9 old xs W).map dL)):=by
 unfold lU;ext;rw[dw (by lia)];ext;refine bJ (λi=>[some (dL old),some (dL xs),some (.int W),some (.list (((List.range i).flatMap λp=>cO (gB old xs W p)).map dL)),none]) rfl (λi x o=>?_) ?_
 . obtain ⟨Z,rfl⟩:=jK o;have l:(W:Int) - (i:Nat) - 1=((W - i - 1:Nat):Int):=by lia
   have q:evs [ao cG (ao cG (ao vo (bR [aj 0]) (aj 4)) (bR [aj 1])) (ao vo (bR [ao cG (aj 0) (aj 1)]) (ao iQ (ao iQ (aj 2) (aj 4)) (eC (.int 1))))] [some (dL old),some (dL xs),some (.int (W:Nat)),some (.list (((List.range i).flatMap λp=>cO (gB old xs W p)).map dL)),some (.int (i:Nat))]= .ok [.list ((gB old xs W i).map dL)]:=by
    ext;rw[l,rep1 (by lia)];ext;rw[qd (by rw[br];show i+1<=1000;lia)];ext;rw[show cG (dL old) (dL xs)= .ok (dL (old++xs)) by unfold dL;rw[qd (by rw[af,af];lia),aS]];ext;rw[rep1 (by lia)];ext;rw[qd (by rw[ar,br,br];show i+1+_<=1000;lia)];rw[gB,aS,aS,i7,i7];rfl
   have v:=places_len e i (by lia);have u:=Ig (λY h=>tR h) (by rw[iD Z];exact e);rw[BV];ext;rw[ZQ (es:=(cO (gB old xs W i)).map dL) ?_ rfl ?_ (of_decide_eq_true rfl)]
   . ext;rw[kr,nr,aS];simp
   . rw[mD,q,x8.aP];exact Lg (λY=>rfl) (λY h=>cS (tR h) (by lia)) (by rw[iD Z];exact s) (λj r=>Sq (λY h=>tR h) (by rw[iD Z];exact e) (kA r))
   . rw[af,af];exact cS (show _<=400000 by lia) (by decide)
 . rw[eV];ext;rfl
def iH(n:Nat)(gs:A9):Prop:=128<n\/20000<jY n gs
theorem Te(h:j<=W)(gs:A9):jY j gs<=jY W gs:=by
 unfold jY
 induction gs with
 | nil=>exact ax _
 | cons g gs Y=>
  rw[a7,hY,a7,hY];exact Nat.add_le_add (nv h _) Y
variable {g:Nat×Int}
theorem V5(h:g∈gs):j^g.1<=jY j gs:=by
 unfold jY
 induction gs with
 | nil=>cases h
 | cons q gs Y=>
  rw[a7,hY];rcases bE.mp h with rfl | h
  . lia
  . have:=Y h;lia
noncomputable def gtC:ME:=eOr (ao gtD (aj 0) (eC (.int 128))) (ao gtD (aL je [(aj 0),(aj 1)]) (eC (.int 20000)))
theorem Z9(h:iH j gs)(e:gs.length<=100)(Y:∀g∈gs,g.1<=4):gtC [some (.int (j:Nat)),some (.list (gs.map xy))]= .ok (.bool true):=by
 unfold gtC;ext
 by_cases Z:128<j
 . rw[decide_eq_true (show (128:Int)<j by lia)];ext
 . rw[decide_eq_false (show ¬ (128:Int)<j by lia)];ext;rw[qX (by lia) e Y];ext;rcases h with h | h
   . exact absurd h Z
   . rw[decide_eq_true (show (20000:Int)<(jY j gs:Nat) by lia)]
theorem ace{c:ME}(h:c Γ = .ok (.bool true)):sIf c DW cu Γ = .bad:=by
 rw[Nx,h];rfl
theorem Lj(h:iH j gs)(Z:gs.length<=100)(Y:∀g∈gs,g.1<=4):fB [.int (j:Nat),.list (gs.map xy)]= .bad:=by
 show x8.bind (sIf gtC DW cu [some (.int (j:Nat)),some (.list (gs.map xy))]) _=_;rw[ace (Z9 h Z Y)];rfl
structure acO (gs:A9) (w:Nat) (rs old fresh:B3):Prop where
 nd:(old++fresh).Nodup
 bd:∀x∈old++fresh,0<=x/\x<2^w
 re:∀x∈old++fresh,Reach gs w rs x
 rw:∀r∈rs,r∈old++fresh
 cl:∀g∈gs,∀c:B3,c.length=g.1->(∀x∈c,x∈old)->gC g.2 c w∈old++fresh
def afo(gs:A9)(w:Nat)(rs:B3):Prop:=∀l:B3,l.Nodup->(∀x∈l,Reach gs w rs x)->l.length<=300
theorem acO.len(h:acO gs w rs old xs)(Y:afo gs w rs):old.length+xs.length<=300:=by
 have:=Y _ h.nd h.re;rwa [ar] at this
structure Way where
 c:Nat
 g:Option (Nat×Int)
 ts:B3
abbrev A6:=List (Int×Way)
noncomputable def gD:Option (Nat×Int)->ab
 | none=>.none
 | some g=>xy g
noncomputable def wD(w:Way):ab:=.tuple [.int (w.c:Nat),gD w.g,dR w.ts]
noncomputable def xA(ws:A6):B0:=ws.map λq=>(ab.int q.1,wD q.2)
noncomputable def lk(t:Int):A6->Option Way
 | []=>none
 | (k,w)::r=>if k=t then some w else lk t r
theorem Qp:∀ws:A6,cP (.inl x) (xA ws)=(lk x ws).map wD
 | []=>rfl
 | (k,w)::r=>by
  show (if bM (.int k)=some (.inl x) then some (wD w) else cP (.inl x) (xA r))=_;unfold lk
  by_cases h:k=x
  . subst h;rw[if_pos (show bM (.int k)=some (.inl k) from rfl),if_pos rfl];rfl
  . rw[if_neg (show ¬ bM (.int k)=some (.inl x) from λz=>h (kz.inj (Option.some.inj z))),if_neg h];exact Qp r
theorem BR{w:Way}:∀{ws:A6},lk x ws=some w->(x,w)∈ws
 | (k,Y)::r,h=>by
  unfold lk at h
  by_cases e:k=x
  . rw[if_pos e] at h;cases h;subst e;exact bg
  . rw[if_neg e] at h;exact bq _ (BR h)
theorem qP:∀{ws:A6},(lk x ws).isSome=true↔x∈ws.map (·.1)
 | []=>by simp[lk]
 | (k,Y)::r=>by
  unfold lk
  by_cases e:k=x
  . rw[if_pos e];simp[e]
  . rw[if_neg e,qP];simp[lx e]
variable {ws:A6}
theorem yO:lk x ws=none↔x∉ws.map (·.1):=by
 rw[<- qP];cases lk x ws <;> simp
theorem qu{w:Way}:∀{ws:A6},(ws.map (·.1)).Nodup->(x,w)∈ws->lk x ws=some w
 | (k,Z)::r,Y,h=>by
  unfold lk;rw[a7,k6] at Y;rcases bE.mp h with e | h
  . cases e;rw[if_pos rfl]
  . rw[if_neg (λz=>Y.1 (by rw[z];exact bo.mpr ⟨_,h,rfl⟩))];exact qu Y.2 h
noncomputable def yc(t:Int)(w:Way)(ws:A6):A6:=ws.map λq=>if q.1=t then (q.1,w) else q
noncomputable def ig(t:Int)(w:Way)(ws:A6):A6:=if (lk t ws).isSome=true then yc t w ws else ws++[(t,w)]
theorem Rz:∀ws:A6,nR (.inl x) (xA ws)=(lk x ws).isSome
 | []=>rfl
 | (k,w)::r=>by
  show (if bM (.int k)=some (.inl x) then true else nR (.inl x) (xA r))=_;unfold lk
  by_cases h:k=x
  . subst h;rw[if_pos (show bM (.int k)=some (.inl k) from rfl),if_pos rfl];rfl
  . rw[if_neg (show ¬ bM (.int k)=some (.inl x) from λz=>h (kz.inj (Option.some.inj z))),if_neg h];exact Rz r
theorem Rv{w:Way}:∀ws:A6,ur (.inl x) (wD w) (xA ws)=xA (yc x w ws)
 | []=>rfl
 | (k,Y)::r=>by
  show (if bM (.int k)=some (.inl x) then (ab.int k,wD w) else (.int k,wD Y))::ur (.inl x) (wD w) (xA r)=_;rw[Rv r];show _=(ab.int (if k=x then (k,w) else (k,Y)).1,wD (if k=x then (k,w) else (k,Y)).2)::xA (yc x w r)
  by_cases h:k=x
  . subst h;rw[if_pos (show bM (.int k)=some (.inl k) from rfl),if_pos rfl]
  . rw[if_neg (show ¬ bM (.int k)=some (.inl x) from λz=>h (kz.inj (Option.some.inj z))),if_neg h]
theorem Yh{w:Way}:gJ (.int x) (.inl x) (wD w) (xA ws)=xA (ig x w ws):=by
 unfold gJ ig;rw[Rz];split
 . exact Rv ws
 . unfold xA;rw[aS];rfl
noncomputable def cB(ws:A6)(q:Int×Way):A6:=match lk q.1 ws with
 | none=>ig q.1 q.2 ws
 | some w0=>if q.2.c<w0.c then ig q.1 q.2 ws else ws
theorem yN:(xA ws).length=ws.length:=by rw[xA,af]
theorem Yo{w:Way}(Z:m2 Γ = .ok (wD w))(e:m1 Γ = .ok (.int x))(j:gv Γ i=some (.dict (xA ws)))(Y:ws.length<=100000)(l:i < Γ.length):iW i m1 m2 Γ = .ok (.nx (Γ.set i (some (.dict (xA (ig x w ws)))))):=by
 rw[iW,Z,x8.aP,e,x8.aP,j];show gd ((xA ws).length<ba/\i < Γ.length) (x8.ok (Out.nx (Γ.set i (some (.dict (gJ (.int x) (.inl x) (wD w) (xA ws)))))))=_;rw[bB ⟨by rw[yN];exact xC Y,l⟩,Yh]
theorem X8{w:Way}(h:lk x ws=some w):ixY (.dict (xA ws)) (.int x)= .ok (wD w):=by
 show (match cP (.inl x) (xA ws) with
  | some d=>x8.ok d
  | none=>.bad)=_
 rw[Qp,h];rfl
theorem MF:lK (.int x) (.dict (xA ws))= .ok (.bool (!(lk x ws).isSome)):=by
 show x8.ok (ab.bool (!(cP (.inl x) (xA ws)).isSome))=_;rw[Qp,iF]
theorem PX{w:Way}:xt (wD w) (.int 0)= .ok (.int (w.c:Nat)):=rfl
theorem Yy{w:Way}(Z:ws.length<=100000):mJ [.dict (xA ws),.int x,wD w]= .ok (.tuple [.none,.dict (xA (cB ws (x,w)))]):=by
 show x8.bind (sIf _ _ _ [some (.dict (xA ws)),some (.int x),some (wD w)]) _=_;ext;rw[MF];ext;unfold cB
 cases h:lk x ws with
 | none=>
  ext;rw[show (!(none:Option Way).isSome)=true from rfl];ext;rw[Yo rfl rfl rfl Z (of_decide_eq_true rfl)];rfl
 | some Y=>
  rw[show (!(some Y:Option Way).isSome)=false from rfl];ext;rw[PX,X8 h];ext;rw[PX];ext
  by_cases lt:w.c<Y.c
  . rw[if_pos lt,decide_eq_true (show (w.c:Int)<(Y.c:Int) by lia)];ext;rw[Yo rfl rfl rfl Z (of_decide_eq_true rfl)];rfl
  . rw[if_neg lt,decide_eq_false (show ¬ (w.c:Int)<(Y.c:Int) by lia)];ext
theorem An{Y:List ME}{w:Way}(h:evs Y Γ = .ok [.dict (xA ws),.int x,wD w])(Z:ws.length<=100000):yu i mJ Y Γ = .ok (.nx (Γ.set i (some (.dict (xA (cB ws (x,w))))))):=by
 rw[yu,h,x8.aP,Yy Z];rfl
variable {q:Int×Way}
theorem Vu:(cB ws q).length<=ws.length+1:=by
 have Y:(ig q.1 q.2 ws).length<=ws.length+1:=by
  unfold ig yc;split
  . rw[af];lia
  . rw[ar];exact ax _
 unfold cB;split
 . exact Y
 . split
   . exact Y
   . lia
noncomputable def cQ(n:Nat):B3:=(List.range n).map λj=>g8 n j
noncomputable def fH:Way:=⟨0,none,[]⟩
noncomputable def vU(n:Nat):A6:=((cQ n).map λt=>(t,fH)).foldl cB []
noncomputable def pP(gs:A9)(n:Nat):A6:=(gs.filter λg=>decide (g.1=0)).map λg=>(cz g.2 [] n,⟨1,some g,[]⟩)
noncomputable def m6(gs:A9)(n:Nat):A6:=(pP gs n).foldl cB (vU n)
theorem wy:∀{qs ws:A6},(qs.foldl cB ws).length<=ws.length+qs.length
 | [],ws=>ax _
 | q::qs,ws=>by
  rw[nN,a6];have Z:=wy (qs:=qs) (ws:=cB ws q);have Y:=Vu (ws:=ws) (q:=q);lia
theorem JV{n:Nat}(l:n<=4)(v:gs.length<=100):jX [.list (gs.map xy),.int (n:Nat)]= .ok (.dict (xA (m6 gs n))):=by
 unfold jX;ext;rw[show jy [] [some (.list (gs.map xy)),some (.int (n:Nat)),none,none,none]= .ok (.dict (xA [])) from rfl];ext;rw[uP l];ext;have z:(cQ n).length=n:=by rw[cQ,af,cx]
 refine bJ (xs:=(cQ n).map ab.int) (λi=>[some (.list (gs.map xy)),some (.int n),some (.dict (xA ((((cQ n).take i).map λt=>(t,fH)).foldl cB []))),none,none]) rfl (λi x Y=>?_) ?_
 . obtain ⟨t,p,rfl⟩:=cZ Y;have r:=(aI.mp p).1;have e:=wy (qs:=((cQ n).take i).map λt=>(t,fH)) (ws:=[]);rw[af,cp,ko] at e;rw[BV];show x8.bind (x8.bind (x8.ok ([some (.list (gs.map xy)),some (.int (n:Nat)),some (.dict (xA ((((cQ n).take i).map λt=>(t,fH)).foldl cB []))),some (.int t),none]:Ev)) _) _=_;rw[x8.aP,An (w:=fH) rfl (by lia),take_snoc p,aS,e8];rfl
 . rw[af,dn];ext;refine bJ (λi=>[some (.list (gs.map xy)),some (.int n),some (.dict (xA ((pP (gs.take i) n).foldl cB (vU n)))),none,none]) rfl (λi x Y=>?_) ?_
   . obtain ⟨g,j,rfl⟩:=cZ Y;have r:=(aI.mp j).1;have Z:=wy (qs:=(cQ n).map λt=>(t,fH)) (ws:=[]);rw[af,ko] at Z;have o:(vU n).length<=n:=by show (((cQ n).map λt=>(t,fH)).foldl cB []).length<=n;lia
     have q:(pP (gs.take i) n).length<=i:=by
      rw[pP,af];exact cS (pz _ _) (by rw[cp];exact Nat.min_le_left _ _)
     have e:=wy (qs:=pP (gs.take i) n) (ws:=vU n);have u:pP (gs.take (i+1)) n=pP (gs.take i) n++if g.1=0 then [(cz g.2 [] n,⟨1,some g,[]⟩)] else []:=by
      rw[pP,take_snoc j,List.filter_append,aS];congr 1
      by_cases h:g.1=0
      . rw[gx (by simpa using h),if_pos h];rfl
      . rw[fm (by simpa using h),if_neg h];rfl
     rw[u,e8];generalize (pP (gs.take i) n).foldl cB (vU n)=ws at e ⊢;rw[BV];show x8.bind (x8.bind (x8.ok ([some (.list (gs.map xy)),some (.int (n:Nat)),some (.dict (xA ws)),none,some (dG g.1 g.2)]:Ev)) _) _=_;rw[x8.aP];ext
     by_cases h:g.1=0
     . rw[decide_eq_true (show (g.1:Int)=0 by lia),if_pos h];ext;have s:evs [(aj 2),(aL o8 [(aj 4),(bR []),(aj 1)]),(bK [(eC (.int 1)),(aj 4),(bK [])])] [some (.list (gs.map xy)),some (.int (n:Nat)),some (.dict (xA ws)),none,some (dG g.1 g.2)]= .ok [.dict (xA ws),.int (cz g.2 [] n),wD ⟨1,some g,[]⟩]:=by
        ext;rw[show ab.list []=dL [] from rfl,Hg (by rw[h];rfl) (by lia) l];ext;rfl
       rw[An s (by lia)];rfl
     . rw[decide_eq_false (show ¬ (g.1:Int)=0 by lia),if_neg h];ext;rfl
   . rw[af,dn];ext;rfl
noncomputable def aQ(ws:A6):B3:=ws.map (·.1)
noncomputable def lq(fs:A6)(t:Int):Nat:=((lk t fs).map (·.c)).getD 0
noncomputable def jV(fs:A6)(c:B3):Nat:=(c.map λp=>lq fs p).sum
noncomputable def kJ(fs:A6)(t:Int):B3:=(aQ fs).filter λk=>!decide (k=t)
noncomputable def qF(fs:A6)(g:Nat×Int)(n:Nat)(c:B3):Option (Int×Way):=if (lk (cz g.2 c n) fs).isSome=true then none else some (cz g.2 c n,⟨1+jV fs c,some g,c⟩)
noncomputable def vg(fs:A6)(t:Int)(g:Nat×Int)(n:Nat):A6:=(j9 (kJ fs t) [t] g.1).filterMap (qF fs g n)
noncomputable def qD(q:Int×Way):ab:=.tuple [.int q.1,wD q.2]
theorem Km:∀ns:B5,(ns.map λk=>((k:Nat):Int)).sum=((ns.sum:Nat):Int)
 | []=>rfl
 | k::ns=>by rw[a7,hY,Km ns,hY,vT]
theorem Wr{a b:ab}{q:List (Option ab)}(Z:ws.length<=128):cA (itK 0) (gN 0) (ao neD (aj 0) (aj 1)) (aj 0) 1 [1] (some (.dict (xA ws))::some (.int x)::q)= .ok (dL (kJ ws x)):=by
 rw[qz (xs:=aQ ws) ab.int (λk=>!decide (k=x)) ab.int ?_ (xC (by rw[aQ,af];lia)) (λk Y=>?_) λk Y h=>?_]
 . rfl
 . show x8.ok ((xA ws).map (·.1))=_;unfold xA aQ;rw[cy,cy];rfl
 . ext
 . ext
theorem abY{α Y:Type}{f:α->Option Y}{a:α}:List.filterMap f [a]=(f a).toList:=by cases h:f a <;> simp[h]
theorem Mj{fs:A6}{t:Int}(v:fs.length<=128)(s:g.1<=4)(C:j<=4)(D:(kJ fs t).length+1<=fs.length)(B:fs.length^g.1<=20000)(z:t∈aQ fs) :
 jF [.dict (xA fs),.int t,dG g.1 g.2,.int (j:Nat)]= .ok (.list ((vg fs t g j).map qD)):=by
 have Z:((kJ fs t).length+[t].length)^g.1<=20000:=cS (nv D _) B;have E:(j9 (kJ fs t) [t] g.1).length<=80000:=by
  have:=places_len Z g.1 (ax _);show ((List.range g.1).flatMap λp=>cO (gB (kJ fs t) [t] g.1 p)).length<=_;lia
 unfold jF;ext;rw[Wr (a:=.none) (b:=.none) v];ext;rw[show ab.list [.int t]=dL [t] from rfl,DP (by show (kJ fs t).length+1<=128;lia) s Z];ext;refine bJ (λi=>[some (.dict (xA fs)),some (.int t),some (dG g.1 g.2),some (.int j),some (dL (kJ fs t)),some (.list ((((j9 (kJ fs t) [t] g.1).take i).filterMap (qF fs g j)).map qD)),none,none,none]) rfl (λi x H=>?_) ?_
 . obtain ⟨c,o,rfl⟩:=cZ H;have I:=(aI.mp o).1;obtain ⟨q,r⟩:=sS (dA o);have l:=λp Y=>by
    have:p∈aQ fs:=by
     rcases cf.mp (r p Y) with h | h
     . exact (iO.mp h).1
     . rw[ay.mp h];exact z
    exact fS.mp (qP.mpr this)
   ext;rw[Hg q s C];ext;rw[MF,take_snoc o,List.filterMap_append];ext;rw[abY];have e:(((j9 (kJ fs t) [t] g.1).take i).filterMap (qF fs g j)).length<=80000:=cS (List.length_filterMap_le _ _) (by rw[cp];lia);generalize ((j9 (kJ fs t) [t] g.1).take i).filterMap (qF fs g j)=L at e ⊢;unfold qF
   by_cases h:(lk (cz g.2 c j) fs).isSome=true
   . rw[if_pos h,h];ext;rw[show (none:Option (Int×Way)).toList=[] from rfl,cK]
   . rw[if_neg h,lb.mpr h];ext;rw[jn (xs:=c) ab.int (λp=>.int ((lq fs p:Nat):Int)) ?_ (xC (by lia)) λp Y=>?_]
     rotate_left
     . ext
     . obtain ⟨w,u⟩:=l p Y;ext;rw[X8 u];ext;rw[PX];rw[lq,u];rfl
     ext;rw[show c.map (λp=>ab.int ((lq fs p:Nat):Int))=((c.map λp=>lq fs p).map λk=>((k:Nat):Int)).map ab.int by rw[cy,cy];rfl,yE,Km];ext;rw[show gw [dL c]= .ok (dR c) from rfl];ext;rw[bB (h9 e (by decide))];ext;rw[aS,show (1:Int)+(((c.map λp=>lq fs p).sum:Nat):Int)=((1+jV fs c:Nat):Int) by rw[vT];rfl];rfl
 . rw[af,dn];ext;rfl
theorem TF{w:Way}:aQ (yc x w ws)=aQ ws:=by
 unfold aQ yc;rw[cy];refine bt λq _=>?_;show (if q.1=x then (q.1,w) else q).1=q.1;split <;> rfl
theorem Ur{t:Int}{w:Way}(h:(aQ ws).Nodup):(aQ (ig t w ws)).Nodup:=by
 unfold ig;split
 . rw[TF];exact h
 . rename_i i;rw[aQ,aS];refine ey.mpr ⟨h,by simp,λa Y b Z e=>?_⟩;have:=by simpa using Z
   subst this;subst e;exact i (qP.mpr Y)
theorem Xc{t:Int}{w:Way}(h:q∈ig t w ws):(q∈ws/\q.1≠t)\/q=(t,w):=by
 unfold ig at h;split at h
 . obtain ⟨r,Y,e⟩:=bo.mp h
   by_cases z:r.1=t
   . rw[if_pos z] at e;subst e;exact .inr (by rw[z])
   . rw[if_neg z] at e;subst e;exact .inl ⟨Y,z⟩
 . rename_i Z;rcases cf.mp h with h | h
   . refine .inl ⟨h,λz=>Z (qP.mpr ?_)⟩;exact bo.mpr ⟨q,h,z⟩
   . exact .inr (ay.mp h)
theorem Ii{t:Int}{w:Way}:(t,w)∈ig t w ws:=by
 unfold ig;split
 . rename_i h;obtain ⟨Y,Z⟩:=fS.mp h;exact bo.mpr ⟨(t,Y),BR Z,by rw[if_pos rfl]⟩
 . exact ck _ (ay.mpr rfl)
theorem Wj{w:Way}(h:q∈ws)(Y:q.1≠x):q∈ig x w ws:=by
 unfold ig;split
 . exact bo.mpr ⟨q,h,by rw[if_neg Y]⟩
 . exact dy _ h
structure yK (ws:A6) (qs:A6) (ws':A6):Prop where
 nd:(aQ ws').Nodup
 mem:∀q∈ws',q∈ws\/q∈qs
 old:∀q∈ws,∃w',(q.1,w')∈ws'/\w'.c<=q.2.c
 new:∀q∈qs,∃w',(q.1,w')∈ws'/\w'.c<=q.2.c
theorem abO(h:(aQ ws).Nodup):yK ws [q] (cB ws q):=by
 obtain ⟨t,w⟩:=q;have put:(∀Z,(t,Z)∈ws->w.c<=Z.c)->yK ws [(t,w)] (ig t w ws):=λl=>by
  refine ⟨Ur h,λr Y=>?_,λr Y=>?_,λr Y=>?_⟩
  . rcases Xc Y with z | z
    . exact .inl z.1
    . exact .inr (ay.mpr z)
  . by_cases z:r.1=t
    . refine ⟨w,by rw[z];exact Ii,l r.2 ?_⟩;rw[<- z];exact Y
    . exact ⟨r.2,Wj Y z,ax _⟩
  . rw[ay.mp Y];exact ⟨w,Ii,ax _⟩
 unfold cB
 cases e:lk t ws with
 | none=>exact put λZ j=>absurd (bo.mpr ⟨_,j,rfl⟩) (yO.mp e)
 | some Z=>
  show yK ws [(t,w)] (if w.c<Z.c then ig t w ws else ws)
  by_cases lt:w.c<Z.c
  . rw[if_pos lt];refine put λo i=>?_;have:=qu h i;rw[e] at this;cases this;lia
  . rw[if_neg lt];refine ⟨h,λr Y=>.inl Y,λr Y=>⟨r.2,Y,ax _⟩,λr Y=>?_⟩;rw[ay.mp Y];exact ⟨Z,BR e,ib lt⟩
theorem nM:∀{qs ws:A6},(aQ ws).Nodup->yK ws qs (qs.foldl cB ws)
 | [],ws,h=>⟨h,λr hr=>.inl hr,λr hr=>⟨r.2,hr,ax _⟩,λr hr=>nomatch hr⟩
 | q::qs,ws,h=>by
  have a:=abO (q:=q) h;have b:=nM (qs:=qs) a.nd;rw[nN];refine ⟨b.nd,λr hr=>?_,λr hr=>?_,λr hr=>?_⟩
  . rcases b.mem r hr with z | z
    . rcases a.mem r z with y | y
      . exact .inl y
      . exact .inr (by rw[ay.mp y];exact bg)
    . exact .inr (bq _ z)
  . obtain ⟨l,i,j⟩:=a.old r hr;obtain ⟨Z,e,Y⟩:=b.old _ i;exact ⟨Z,e,cS Y j⟩
  . rcases bE.mp hr with rfl | hr
    . obtain ⟨l,i,j⟩:=a.new _ (ay.mpr rfl);obtain ⟨Z,e,Y⟩:=b.old _ i;exact ⟨Z,e,cS Y j⟩
    . exact b.new r hr
def VW(gs:A9)(n:Nat)(fs:A6)(q:Int×Way):Prop:=
 (q.2=fH/\q.1∈cQ n)\/∃g∈gs,q.2.g=some g/\q.2.ts.length=g.1/\(∀p∈q.2.ts,p∈aQ fs)/\cz g.2 q.2.ts n=q.1/\q.2.c=1+jV fs q.2.ts
theorem R0{fs:A6}(h:x∈aQ fs):lk x (fs++ws)=lk x fs:=by
 induction fs with
 | nil=>cases h
 | cons q fs Y=>
  obtain ⟨k,w⟩:=q;show lk x ((k,w)::(fs++ws))=_;unfold lk
  by_cases e:k=x
  . rw[if_pos e,if_pos e]
  . rw[if_neg e,if_neg e];refine Y ?_;rcases bE.mp h with z | z
    . exact absurd z.symm e
    . exact z
theorem Fx{gs:A6}(h:∀p∈c,p∈aQ ws):jV (ws++gs) c=jV ws c:=by
 unfold jV;congr 1;refine bt λp Y=>?_;unfold lq;rw[R0 (h p Y)]
theorem VW.app{hs:A6}(h:VW gs j ws q):VW gs j (ws++hs) q:=by
 rcases h with h | ⟨g,e,Z,i,Y,l,o⟩
 . exact .inl h
 . exact .inr ⟨g,e,Z,i,λp r=>by rw[aQ,aS];exact dy _ (Y p r),l,by rw[Fx Y];exact o⟩
structure fM (gs:A9) (n:Nat) (fs ws:A6):Prop where
 nd:(aQ fs++aQ ws).Nodup
 bd:∀t∈aQ fs++aQ ws,0<=t/\t<2^2^n
 vf:∀(i:Nat) (q:Int×Way),fs[i]?=some q->VW gs n (fs.take i) q
 vw:∀q∈ws,VW gs n fs q
 inp:∀t∈cQ n,∃w,(t,w)∈fs++ws/\w.c=0
 cl:∀g∈gs,∀c:B3,c.length=g.1->(∀p∈c,p∈aQ fs)->∃w,(cz g.2 c n,w)∈fs++ws/\w.c<=1+jV fs c
 mo:∀q∈fs,∀r∈ws,q.2.c<=r.2.c
theorem aa1{n:Nat}:∀t∈cQ n,0<=t/\t<2^2^n:=λt Y=>by
 obtain ⟨j,_,rfl⟩:=bo.mp Y;exact ⟨Ib _ _,Vw _ _⟩
theorem M9{n:Nat}:0<=cz b ts n/\cz b ts n<2^2^n:=⟨ql λ_=>aO _ _,De λ_=>aO _ _⟩
theorem VW.bd{n:Nat}(h:VW gs n ws q):0<=q.1/\q.1<2^2^n:=by
 rcases h with ⟨_,h⟩ | ⟨g,_,_,_,_,h,_⟩
 . exact aa1 _ h
 . rw[<- h];exact M9
theorem Ub:fM gs j [] (m6 gs j):=by
 have a:yK [] ((cQ j).map λt=>(t,fH)) (vU j):=nM wa;have b:yK (vU j) (pP gs j) (m6 gs j):=nM a.nd;have z:∀q∈m6 gs j,VW gs j [] q:=λq l=>by
  rcases b.mem q l with h | h
  . rcases a.mem q h with h | h
    . cases h
    . obtain ⟨t,Y,rfl⟩:=bo.mp h;exact .inl ⟨rfl,Y⟩
  . obtain ⟨g,Z,rfl⟩:=bo.mp h;obtain ⟨Z,C⟩:=iO.mp Z;exact .inr ⟨g,Z,rfl,(of_decide_eq_true C).symm,(λp D=>nomatch D),rfl,rfl⟩
 refine ⟨b.nd,λt Y=>?_,λi q e=>by simp at e,z,λt Y=>?_,λg Z c B I=>?_,λq l=>nomatch l⟩
 . obtain ⟨q,l,rfl⟩:=bo.mp (Y);exact (z q l).bd
 . obtain ⟨u,r,o⟩:=a.new (t,fH) (bo.mpr ⟨t,Y,rfl⟩);obtain ⟨v,H,s⟩:=b.old _ r;have o:u.c<=0:=o;have s:v.c<=u.c:=s;exact ⟨v,H,by lia⟩
 . have e:=List.eq_nil_iff_forall_not_mem.mpr λx E=>nomatch I x E
   subst e;obtain ⟨w,r,o⟩:=b.new (cz g.2 [] j,⟨1,some g,[]⟩) (bo.mpr ⟨g,iO.mpr ⟨Z,decide_eq_true B.symm⟩,rfl⟩);exact ⟨w,r,o⟩
theorem T7{fresh:B3}(h:c∈j9 old fresh j):∃x∈c,x∈fresh:=by
 obtain ⟨p,Y,h⟩:=ij.mp h;have Y:=cE.mp Y;obtain ⟨i,e⟩:=pF.mp h;rw[iD Y] at i e;have Z:=e p Y;rw[xX Y Y,if_neg (ft _),if_pos rfl] at Z;refine ⟨_,?_,Z⟩;rw[ae,ai (by lia)];exact eL _
noncomputable def gn(gs:A9)(fs:A6)(t:Int)(n:Nat):A6:=gs.flatMap λg=>vg fs t g n
theorem Eg{fs:A6}:∀{c:B3},x∈c->lq fs x<=jV fs c
 | a::c,h=>by
  rw[jV,a7,hY];rcases bE.mp h with rfl | h
  . lia
  . have:=Eg (fs:=fs) h;unfold jV at this;lia
theorem fM.step{n:Nat}{fs:A6}{t:Int}{w:Way}(I:fM gs n fs ws)(h:(t,w)∈ws)(R:∀q∈ws,w.c<=q.2.c) :
 fM gs n (fs++[(t,w)]) ((gn gs (fs++[(t,w)]) t n).foldl cB (ws.filter λq=>!decide (q.1=t))):=by
 obtain ⟨nd,bd,vf,vw,inp,cl,mo⟩:=I;have ndf:=(ey.mp nd).1;have D:=(ey.mp nd).2.1;have dis:=(ey.mp nd).2.2;have S:t∈aQ ws:=bo.mpr ⟨_,h,rfl⟩;have htf:=λz=>dis t z t S rfl;have P:aQ (fs++[(t,w)])=aQ fs++[t]:=by rw[aQ,aS];rfl
 have M:(aQ (fs++[(t,w)])).Nodup:=by
  rw[P];exact ey.mpr ⟨ndf,by simp,λa L b hb e=>by rw[ay] at hb;subst hb;subst e;exact htf L⟩
 have u:∀q,q∈ws.filter (λq=>!decide (q.1=t))↔q∈ws/\q.1≠t:=λq=>by simp
 have Q:(aQ (ws.filter λq=>!decide (q.1=t))).Nodup:=by
  exact List.Sublist.nodup (List.Sublist.map _ (List.filter_sublist)) D
 have O:=nM (qs:=gn gs (fs++[(t,w)]) t n) Q;have cw:lq (fs++[(t,w)]) t=w.c:=by
  rw[lq,qu M (ck _ (ay.mpr rfl))];rfl
 have o:∀q∈gn gs (fs++[(t,w)]) t n,∃g∈gs,∃c∈j9 (kJ (fs++[(t,w)]) t) [t] g.1,q=(cz g.2 c n,⟨1+jV (fs++[(t,w)]) c,some g,c⟩)/\cz g.2 c n∉aQ (fs++[(t,w)]):=λq Z=>by
  obtain ⟨g,J,Z⟩:=ij.mp Z;obtain ⟨c,l,e⟩:=kH.mp Z;unfold qF at e;split at e
  . cases e
  . rename_i hs;cases e;exact ⟨g,J,c,l,rfl,λz=>hs (qP.mpr z)⟩
 have hck:∀{g:Nat×Int}{c:B3},c∈j9 (kJ (fs++[(t,w)]) t) [t] g.1->∀p∈c,p∈aQ (fs++[(t,w)]):=λl p hp=>by
  rcases cf.mp ((sS l).2 p hp) with z | z
  . exact (iO.mp z).1
  . rw[ay.mp z,P];exact ck _ (ay.mpr rfl)
 have U:∀q∈gn gs (fs++[(t,w)]) t n,VW gs n (fs++[(t,w)]) q:=λq Z=>by
  obtain ⟨g,J,c,l,rfl,_⟩:=o q Z;exact .inr ⟨g,J,rfl,(sS l).1,hck l,rfl,rfl⟩
 have C:∀q∈(gn gs (fs++[(t,w)]) t n).foldl cB (ws.filter λq=>!decide (q.1=t)),VW gs n (fs++[(t,w)]) q:=λq Z=>by
  rcases O.mem q Z with z | z
  . exact (vw q ((u q).mp z).1).app
  . exact U q z
 have mv:∀{v:Int}{s:Way}{k:Nat},(v,s)∈fs++ws->s.c<=k->∃B,(v,B)∈(fs++[(t,w)])++(gn gs (fs++[(t,w)]) t n).foldl cB (ws.filter λq=>!decide (q.1=t))/\B.c<=k:=λ{v s k} hv hk=>by
  rcases cf.mp hv with z | z
  . exact ⟨s,dy _ (dy _ z),hk⟩
  . by_cases e:v=t
    . subst e;have:=qu D z;rw[qu D h] at this;cases this;exact ⟨w,dy _ (ck _ (ay.mpr rfl)),hk⟩
    . obtain ⟨B,H,c2⟩:=O.old (v,s) ((u _).mpr ⟨z,e⟩);exact ⟨B,ck _ H,cS c2 hk⟩
 refine ⟨?_,λx Y=>?_,λi q e=>?_,C,λx Y=>?_,λg J c hl l=>?_,λq Z r hr=>?_⟩
 . refine ey.mpr ⟨M,O.nd,λa L b hb e=>?_⟩;subst e;obtain ⟨q,Z,rfl⟩:=bo.mp hb;rcases O.mem q Z with z | z
   . obtain ⟨z1,z2⟩:=(u q).mp z;rw[P] at L;rcases cf.mp L with y | y
     . exact dis _ y _ (bo.mpr ⟨q,z1,rfl⟩) rfl
     . exact z2 (ay.mp y)
   . obtain ⟨g,_,c,_,rfl,hn⟩:=o q z;exact hn L
 . rcases cf.mp Y with z | z
   . rw[P] at z;rcases cf.mp z with y | y
     . exact bd x (dy _ y)
     . rw[ay.mp y];exact bd t (ck _ S)
   . obtain ⟨q,Z,rfl⟩:=bo.mp z;exact (C q Z).bd
 . rcases ff i fs.length with hi | hi
   . rw[bX hi] at e;rw[l9 (kA hi)];exact vf i q e
   . have hi':=(aI.mp e).1;rw[ar] at hi';have hie:i=fs.length:=by
      have:i<fs.length+1:=hi';lia
     subst hie;rw[be (ax _),iN] at e;have e:=Option.some.inj e;subst e;rw[l9 (ax _),dn];exact vw _ h
 . obtain ⟨s,h1,H⟩:=inp x Y;obtain ⟨B,h3,h4⟩:=mv (k:=0) h1 (by lia);exact ⟨B,h3,by lia⟩
 . by_cases j:∀p∈c,p∈aQ fs
   . obtain ⟨s,h1,H⟩:=cl g J c hl j;rw[Fx j];exact mv h1 H
   . have Y:∃x∈c,x∉aQ fs:=fx λz=>j λx Y=>fx λz'=>z ⟨x,Y,z'⟩;obtain ⟨x,Y,hxn⟩:=Y;have E:x=t:=by
      have:=l x Y;rw[P] at this;rcases cf.mp this with y | y
      . exact absurd y hxn
      . exact ay.mp y
     subst E;have hct:w.c<=jV (fs++[(x,w)]) c:=by rw[<- cw];exact Eg Y
     have hno:x∉kJ (fs++[(x,w)]) x:=λz=>by
      have:=(iO.mp z).2;simp at this
     have hcf:=QL hl (λp hp=>by
      by_cases e:p=x
      . exact ck _ (ay.mpr e)
      . exact dy _ (iO.mpr ⟨l p hp,by simp[e]⟩)) ⟨x,Y,hno⟩
     by_cases hv:(lk (cz g.2 c n) (fs++[(x,w)])).isSome=true
     . obtain ⟨s,hw'⟩:=fS.mp hv;have hm:=BR hw';refine ⟨s,dy _ hm,?_⟩;rcases cf.mp hm with z | z
       . have:=mo _ z _ h;have:s.c<=w.c:=this;lia
       . have:=ay.mp z;cases this;lia
     . obtain ⟨B,H,c2⟩:=O.new (cz g.2 c n,⟨1+jV (fs++[(x,w)]) c,some g,c⟩) (ij.mpr ⟨g,J,kH.mpr ⟨c,hcf,by rw[qF,if_neg hv]⟩⟩);exact ⟨B,ck _ H,c2⟩
 . have hq':q.2.c<=w.c:=by
    rcases cf.mp Z with z | z
    . exact mo q z _ h
    . rw[ay.mp z];exact ax _
   rcases O.mem r hr with z | z
   . exact cS hq' (R r ((u r).mp z).1)
   . obtain ⟨g,_,c,l,rfl,_⟩:=o r z;obtain ⟨x,Y,E⟩:=T7 l;rw[ay.mp E] at Y;have:=Eg (fs:=fs++[(t,w)]) Y;rw[cw] at this;show q.2.c<=1+jV (fs++[(t,w)]) c;lia
theorem Eb:∀{ws:A6}{t:Int}{c:Int},∃t',jw (.int t) c (xA ws)= .ok (.int t')
 | [],t,c=>⟨t,rfl⟩
 | (k,w)::r,t,c=>by
  show ∃t',(if ((w.c:Nat):Int)<c then jw (.int k) (w.c:Nat) (xA r) else jw (.int t) c (xA r))= .ok (.int t')
  by_cases h:(w.c:Int)<c
  . rw[if_pos h];exact Eb
  . rw[if_neg h];exact Eb
theorem aek(h:ws≠[]):∃t w,jO (xA ws)= .ok (.int t)/\(t,w)∈ws/\∀q∈ws,w.c<=q.2.c:=by
 cases ws with
 | nil=>exact absurd rfl h
 | cons q r=>
  obtain ⟨k,w⟩:=q;obtain ⟨t,o⟩:∃i,jO (xA ((k,w)::r))= .ok (.int i):=by
   exact Eb
  obtain ⟨_,l,q,c,Y,j,z,B⟩:=CN o;unfold xA at Y;rw[a8] at Y;obtain ⟨⟨i,p⟩,C,Z⟩:=kC.mp Y;subst Z;cases z;have j:some ((p.c:Nat):Int)=some c:=j;cases j;refine ⟨i,p,o,dA C,λq v=>?_⟩;obtain ⟨s,e,Z⟩:=ip.mp v;have u:(xA ((k,w)::r))[s]?=some (ab.int q.1,wD q.2):=by
   rw[xA,a8,ai e,Z];rfl
  have:=(B s _ (q.2.c:Int) u rfl).1;lia
theorem SN{t:Int}:∀{ws:A6},oU (.inl t) (xA ws)=xA (ws.filter λq=>!decide (q.1=t))
 | []=>rfl
 | (k,w)::r=>by
  have Y:=SN (t:=t) (ws:=r);unfold oU at Y;unfold oU;show ((ab.int k,wD w)::xA r).filter _=_
  by_cases e:k=t
  . subst e;rw[fm (by simp[bM]),fm (by simp)];exact Y
  . rw[gx (by simp[bM,e]),gx (by simp[e]),Y];rfl
theorem aaQ{qs:A6}(l:j<=4)(h:(aQ ws).Nodup)(i:∀q∈ws,0<=q.1/\q.1<2^2^j)(e:∀q∈qs,0<=q.1/\q.1<2^2^j):(qs.foldl cB ws).length<=65536:=by
 have O:=nM (qs:=qs) h;have o:2^2^j<=2^2^4:=eI (by decide) (eI (by decide) l);have:=qY O.nd λx Z=>by
  rw[show ((2^2^j:Nat):Int)=2^2^j by simp];obtain ⟨q,Y,rfl⟩:=bo.mp Z;rcases O.mem q Y with z | z
  . exact i q z
  . exact e q z
 unfold aQ at this;rw[af] at this;lia
noncomputable def wCn:ME:=ao gtD (eFn uE [(aj 3)]) (eC (.int 0))
noncomputable def wRf:MS:=sEx (aL fB [(eFn uE [(aj 2)]),(aj 0)])
noncomputable def wFr:MS:=cI (itL (aj 0)) (gN 5) [5,6,7] (cI (itL (aL jF [(aj 2),(aj 4),(aj 5),(aj 1)])) (gT [(gN 6),(gN 7)]) [6,7] (yu 3 mJ [(aj 3),(aj 6),(aj 7)]))
noncomputable def wBd:MS:=aJ (aZ 4 (Ce 3)) (aJ (uM 2 3 4) (aJ wRf wFr))
noncomputable def wG(gs:A9)(n:Nat)(fs ws:A6):Ev:=[some (.list (gs.map xy)),some (.int (n:Nat)),some (.dict (xA fs)),some (.dict (xA ws)),none,none,none,none]
noncomputable def wG2(gs:A9)(n:Nat)(fs ws:A6)(t:Int):Ev:=[some (.list (gs.map xy)),some (.int (n:Nat)),some (.dict (xA fs)),some (.dict (xA ws)),some (.int t),none,none,none]
section
variable  {n:Nat}{fs:A6}
theorem YX(Y:ws≠[]):wCn (wG gs n fs ws)= .ok (.bool true):=by
 unfold wCn wG;ext;rw[show uE [.dict (xA ws)]= .ok (.int ((xA ws).length:Nat)) from rfl,yN];ext;rw[decide_eq_true (show (0:Int)<((ws.length:Nat):Int) by have:=List.length_pos_iff.mpr Y;lia)]
theorem acZ:wCn (wG gs n fs [])= .ok (.bool false):=by
 unfold wCn wG;ext;rfl
theorem J2:evs [(eFn uE [(aj 2)]),(aj 0)] (wG2 gs n fs ws x)= .ok [.int (fs.length:Nat),.list (gs.map xy)]:=by
 unfold wG2;ext;rw[show uE [.dict (xA fs)]= .ok (.int ((xA fs).length:Nat)) from rfl,yN];ext
theorem ac4{w:Way}(i:jO (xA ws)= .ok (.int x))(I:fM gs n fs ws)(h:(x,w)∈ws)(e:fs.length<=100000):∃Γ,aZ 4 (Ce 3) (wG gs n fs ws)= .ok (.nx Γ)/\uM 2 3 4 Γ = .ok (.nx (wG2 gs n (fs++[(x,w)]) (ws.filter λq=>!decide (q.1=x)) x)):=by
 have Z:=(ey.mp I.nd).2.1;have Y:=λz=>(ey.mp I.nd).2.2 x z x (bo.mpr ⟨_,h,rfl⟩) rfl;refine ⟨[some (.list (gs.map xy)),some (.int n),some (.dict (xA fs)),some (.dict (xA ws)),some (.int x),none,none,none],?_,?_⟩
 . rw[Aj];show x8.bind (jO (xA ws)) _=_;rw[i];rfl
 . show (match cP (.inl x) (xA ws) with
    | some d=>gd ((xA fs).length<ba/\2<8/\3<8) (x8.ok (Out.nx [some (.list (gs.map xy)),some (.int n),some (.dict (gJ (.int x) (.inl x) d (xA fs))),some (.dict (oU (.inl x) (xA ws))),some (.int x),none,none,none]))
    | none=>.bad)=_
   rw[Qp,qu Z h];show gd ((xA fs).length<ba/\2<8/\3<8) _=_;rw[bB ⟨by rw[yN];exact xC e,by decide,by decide⟩,Yh,SN];rw[ig,yO.mpr Y];rfl
theorem adE(h:iH fs.length gs)(Z:gs.length<=8)(Y:∀g∈gs,g.1<=4):wRf (wG2 gs n fs ws x)= .bad:=by
 unfold wRf sEx;rw[mD,J2,x8.aP,Lj h (by lia) Y];rfl
theorem aco(h:¬ iH fs.length gs)(i:gs.length<=8)(Z:∀g∈gs,g.1<=4):wRf (wG2 gs n fs ws x)= .ok (.nx (wG2 gs n fs ws x)):=by
 have e:=ib λz=>h (.inl z);have Y:=ib λz=>h (.inr z);refine acY (d:=.none) ?_;rw[mD,J2,x8.aP,K7 e (by lia) Z Y]
theorem adu(v:n<=4)(P:gs.length<=8)(H:∀g∈gs,g.1<=4)(h:¬ iH fs.length gs)(E:(kJ fs b).length+1<=fs.length)(B:b∈aQ fs)(hd:(aQ ws).Nodup)(D:∀q∈ws,0<=q.1/\q.1<2^2^n) :
 wFr (wG2 gs n fs ws b)= .ok (.nx (wG2 gs n fs ((gn gs fs b n).foldl cB ws) b)):=by
 have I:=ib λz=>h (.inl z);have J:=ib λz=>h (.inr z);have o:∀g:Nat×Int,∀q∈vg fs b g n,0<=q.1/\q.1<2^2^n:=λg q o=>by
  obtain ⟨c,_,e⟩:=kH.mp o;unfold qF at e;split at e
  . cases e
  . cases e;exact M9
 have p:∀gs:A9,∀q∈gn gs fs b n,0<=q.1/\q.1<2^2^n:=λgs q Y=>by
  obtain ⟨g,_,h⟩:=ij.mp Y;exact o g q h
 unfold wFr wG2;ext;have step:∀(i:Nat) (x:ab),(gs.map xy)[i]?=some x->((gN 5 x (wG2 gs n fs ((gn (gs.take i) fs b n).foldl cB ws) b)).bind (cI (itL (aL jF [(aj 2),(aj 4),(aj 5),(aj 1)])) (gT [(gN 6),(gN 7)]) [6,7] (yu 3 mJ [(aj 3),(aj 6),(aj 7)]))).bind (il [5,6,7])= .ok (.nx (wG2 gs n fs ((gn (gs.take (i+1)) fs b n).foldl cB ws) b)):=λi x r=>by
  obtain ⟨g,u,rfl⟩:=cZ r;have l:=dA u;unfold wG2;ext;rw[Mj I (H g l) v E (cS (V5 l) J) B];ext;have O:=nM (qs:=gn (gs.take i) fs b n) hd;have Z:∀q∈(gn (gs.take i) fs b n).foldl cB ws,0<=q.1/\q.1<2^2^n:=λq Y=>by
   rcases O.mem q Y with z | z
   . exact D q z
   . exact p _ q z
  have L:gn (gs.take (i+1)) fs b n=gn (gs.take i) fs b n++vg fs b g n:=by
   unfold gn;rw[take_snoc u,nr];simp
  rw[L,e8];have s:=O.nd;generalize (gn (gs.take i) fs b n).foldl cB ws=ws1 at Z s ⊢;refine bJ (λj=>[some (.list (gs.map xy)),some (.int n),some (.dict (xA fs)),some (.dict (xA (((vg fs b g n).take j).foldl cB ws1))),some (.int b),some (dG g.1 g.2),none,none]) rfl (λj x r=>?_) ?_
  . obtain ⟨q,M,rfl⟩:=cZ r;have C:=aaQ (qs:=(vg fs b g n).take j) v s Z (λq Y=>o g q (j1 Y));rw[take_snoc M,e8];generalize ((vg fs b g n).take j).foldl cB ws1=ws2 at C ⊢;show x8.bind (x8.bind (x8.ok ([some (.list (gs.map xy)),some (.int (n:Nat)),some (.dict (xA fs)),some (.dict (xA ws2)),some (.int b),some (dG g.1 g.2),some (.int q.1),some (wD q.2)]:Ev)) _) _=_;rw[x8.aP,An rfl (by lia)];rfl
  . rw[af,dn];rfl
 have e:=MT (λi=>wG2 gs n fs ((gn (gs.take i) fs b n).foldl cB ws) b) rfl step;rwa [af,dn] at e
theorem Zz{w:Way}:(kJ (ws++[(x,w)]) x).length+1<=(ws++[(x,w)]).length:=by
 unfold kJ aQ;rw[aS,List.filter_append,ar,ar];have Z:=pz (λk=>!decide (k=x)) (ws.map (·.1));rw[af] at Z;have Y:(([(x,w)]:A6).map (·.1)).filter (λk=>!decide (k=x))=[]:=by simp
 rw[Y];simp only[ko,b9];lia
theorem fM.len(I:fM gs n fs ws)(Z:n<=4):fs.length+ws.length<=65536:=by
 have e:2^2^n<=2^2^4:=eI (by decide) (eI (by decide) Z);have:=qY I.nd λx Y=>by
  rw[show ((2^2^n:Nat):Int)=2^2^n by simp];exact I.bd x Y
 unfold aQ at this;rw[ar,af,af] at this;lia
theorem abC{w:Way}(I:fM gs n fs ws)(o:n<=4)(j:gs.length<=8)(i:∀g∈gs,g.1<=4)(v:jO (xA ws)= .ok (.int x))(h:(x,w)∈ws)(p:¬ iH (fs.length+1) gs) :
 ∃Y,wBd (wG gs n fs ws)= .ok (.nx Y)/\clr [4,5,6,7] Y=wG gs n (fs++[(x,w)]) ((gn gs (fs++[(x,w)]) x n).foldl cB (ws.filter λq=>!decide (q.1=x))):=by
 have l:=I.len o;obtain ⟨z,s,u⟩:=ac4 v I h (by lia);have Z:¬ iH (fs++[(x,w)]).length gs:=by rw[ar];exact p
 have e:=(ey.mp I.nd).2.1;refine ⟨wG2 gs n (fs++[(x,w)]) ((gn gs (fs++[(x,w)]) x n).foldl cB (ws.filter λq=>!decide (q.1=x))) x,?_,rfl⟩;rw[wBd,gm,s,x8.aP,lr,gm,u,x8.aP,lr,gm,aco Z j i,x8.aP,lr];refine adu o j i Z Zz ?_ ?_ ?_
 . rw[aQ,aS];exact ck _ (ay.mpr rfl)
 . exact List.Sublist.nodup (List.Sublist.map _ (List.filter_sublist)) e
 . exact λq r=>(I.vw q (iO.mp r).1).bd
theorem ab4{w:Way}(I:fM gs n fs ws)(q:n<=4)(l:gs.length<=8)(j:∀g∈gs,g.1<=4)(p:jO (xA ws)= .ok (.int x))(h:(x,w)∈ws)(e:iH (fs.length+1) gs):wBd (wG gs n fs ws)= .bad:=by
 have Z:=I.len q;obtain ⟨r,i,o⟩:=ac4 p I h (by lia);have Y:iH (fs++[(x,w)]).length gs:=by rw[ar];exact e
 rw[wBd,gm,i,x8.aP,lr,gm,o,x8.aP,lr,gm,adE Y l j];rfl
theorem Ut(J:A6->A6->Prop)(D:∀fs ws t w,J fs ws->fM gs n fs ws->jO (xA ws)= .ok (.int t)->(t,w)∈ws->J (fs++[(t,w)]) ((gn gs (fs++[(t,w)]) t n).foldl cB (ws.filter λq=>!decide (q.1=t))))(o:n<=4)(z:gs.length<=8)(u:∀g∈gs,g.1<=4):∀(m k:Nat) (fs ws:A6),J fs ws->fM gs n fs ws->(fs=[]\/¬ iH fs.length gs)->k+fs.length=65536->k<m ->
 (∃L,whR wCn [4,5,6,7] wBd m (wG gs n fs ws)= .ok (.nx (wG gs n L []))/\fM gs n L []/\J L []/\(L=[]\/¬ iH L.length gs)) \/
 (whR wCn [4,5,6,7] wBd m (wG gs n fs ws)= .bad/\(∀(Y:MZ) (T:Str),(∀fs ws t w,fM gs n fs ws->jO (xA ws)= .ok (.int t)->(t,w)∈ws->iH (fs.length+1) gs->Y (wG gs n fs ws)= .ok T)->uq wCn [4,5,6,7] wBd Y m (wG gs n fs ws)= .ok T)/\∃fs ws,fM gs n fs ws/\iH fs.length gs)
 | 0,k,fs,ws,_,_,_,_,h=>absurd h (nX _)
 | m+1,k,fs,ws,j,I,R,U,P=>by
  by_cases p:ws=[]
  . subst p;left;refine ⟨fs,?_,I,j,R⟩;rw[whR,acZ];rfl
  . have r:=YX (gs:=gs) (n:=n) (fs:=fs) p;have M:=List.length_pos_iff.mpr p;have C:=I.len o;obtain ⟨t,w,e,h,Z⟩:=aek p;have s:=I.step h Z;have H:=D fs ws t w j I e h
    by_cases i:iH (fs.length+1) gs
    . right;have E:=ab4 I o z u e h i;refine ⟨?_,λY T Q=>?_,_,_,s,by rw[ar];exact i⟩
      . rw[whR,r,x8.aP,E];rfl
      . rw[uq,r,x8.aP];show (match wBd (wG gs n fs ws) with
         | .ok (.nx Γ2)=>uq wCn [4,5,6,7] wBd Y m (clr [4,5,6,7] Γ2)
         | _=>Y (wG gs n fs ws))=_
        rw[E];exact Q fs ws t w I e h i
    . obtain ⟨l,B,v⟩:=abC I o z u e h i;generalize (gn gs (fs++[(t,w)]) t n).foldl cB (ws.filter λq=>!decide (q.1=t))=ws' at s H v;have S:whR wCn [4,5,6,7] wBd (m+1) (wG gs n fs ws)=whR wCn [4,5,6,7] wBd m (wG gs n (fs++[(t,w)]) ws'):=by
       rw[whR,r,x8.aP,B,x8.aP];show whR wCn [4,5,6,7] wBd m (clr [4,5,6,7] l)=_;rw[v]
      have O:∀Y:MZ,uq wCn [4,5,6,7] wBd Y (m+1) (wG gs n fs ws)=uq wCn [4,5,6,7] wBd Y m (wG gs n (fs++[(t,w)]) ws'):=λY=>by
       rw[uq,r,x8.aP];show (match wBd (wG gs n fs ws) with
        | .ok (.nx Γ2)=>uq wCn [4,5,6,7] wBd Y m (clr [4,5,6,7] Γ2)
        | _=>Y (wG gs n fs ws))=_
       rw[B];show uq wCn [4,5,6,7] wBd Y m (clr [4,5,6,7] l)=_;rw[v]
      rw[S];simp only[O];exact Ut J D o z u m (k - 1) (fs++[(t,w)]) ws' H s (.inr (by rw[ar];exact i)) (by rw[ar];show k - 1+(fs.length+1)=_;lia) (by lia)
theorem QC(J:A6->A6->Prop)(p:∀fs ws t w,J fs ws->fM gs n fs ws->jO (xA ws)= .ok (.int t)->(t,w)∈ws->J (fs++[(t,w)]) ((gn gs (fs++[(t,w)]) t n).foldl cB (ws.filter λq=>!decide (q.1=t))))(h0:J [] (m6 gs n))(i:n<=4)(o:gs.length<=8)(r:∀g∈gs,g.1<=4) :
 (∃L,pq [.list (gs.map xy),.int (n:Nat)]= .ok (.dict (xA L))/\fM gs n L []/\J L []/\(L=[]\/¬ iH L.length gs)) \/
 (pq [.list (gs.map xy),.int (n:Nat)]= .bad/\rz 1000000 wCn [4,5,6,7] wBd (wG gs n [] (m6 gs n))= .bad/\(∀(j:MZ) (T:Str),(∀fs ws t w,fM gs n fs ws->jO (xA ws)= .ok (.int t)->(t,w)∈ws->iH (fs.length+1) gs->j (wG gs n fs ws)= .ok T)->adD 1000000 wCn [4,5,6,7] wBd j (wG gs n [] (m6 gs n))= .ok T)/\∃fs ws,fM gs n fs ws/\iH fs.length gs):=by
 have l:pq [.list (gs.map xy),.int (n:Nat)]=x8.bind (aJ (rz 1000000 wCn [4,5,6,7] wBd) (bz (aj 2)) (wG gs n [] (m6 gs n))) fin:=by
  unfold pq;show x8.bind (aJ (aZ 2 (jy [])) _ [some (.list (gs.map xy)),some (.int (n:Nat)),none,none,none,none,none,none]) fin=_;rw[gm,show aZ 2 (jy []) [some (.list (gs.map xy)),some (.int (n:Nat)),none,none,none,none,none,none]= .ok (.nx [some (.list (gs.map xy)),some (.int (n:Nat)),some (.dict (xA [])),none,none,none,none,none]) from rfl,x8.aP,lr,gm,show aZ 3 (aL jX [(aj 0),(aj 1)]) [some (.list (gs.map xy)),some (.int n),some (.dict (xA [])),none,none,none,none,none]= .ok (.nx (wG gs n [] (m6 gs n))) by
   rw[Aj,mD,show evs [(aj 0),(aj 1)] [some (.list (gs.map xy)),some (.int (n:Nat)),some (.dict (xA [])),none,none,none,none,none]= .ok [.list (gs.map xy),.int (n:Nat)] from rfl,x8.aP,JV i (by lia)];rfl,x8.aP,lr]
  rfl
 rcases Ut J p i o r 1000000 65536 [] (m6 gs n) h0 Ub (.inl rfl) rfl (by decide) with ⟨L,Y,e,Z⟩ | ⟨Y,e,Z⟩
 . left;have Y:rz 1000000 wCn [4,5,6,7] wBd (wG gs n [] (m6 gs n))=_:=Y;refine ⟨L,?_,e,Z⟩;rw[l,gm,Y,x8.aP,lr];rfl
 . right;have Y:rz 1000000 wCn [4,5,6,7] wBd (wG gs n [] (m6 gs n))= .bad:=Y;refine ⟨?_,Y,e,Z⟩;rw[l,gm,Y];rfl
end
structure XX (gs:A9) (n:Nat) (ts:B3) (f:Int->Nat):Prop where
 nd:ts.Nodup
 so:ts.Pairwise (· <= ·)
 bd:∀t∈ts,0<=t/\t<2^2^n
 inp:∀t∈cQ n,t∈ts
 zer:∀t∈ts,(f t=0↔t∈cQ n)
 cl:∀g∈gs,∀c:B3,c.length=g.1->(∀p∈c,p∈ts)->cz g.2 c n∈ts/\f (cz g.2 c n)<=1+(c.map f).sum
 ju:∀t∈ts,0<f t->∃g∈gs,∃c:B3,c.length=g.1/\(∀p∈c,p∈ts)/\cz g.2 c n=t/\f t=1+(c.map f).sum
variable {L:A6}
theorem vJ{w:Way}(h:(aQ L).Nodup)(Y:(x,w)∈L):lq L x=w.c:=by
 rw[lq,qu h Y];rfl
theorem fM.whole(I:fM gs j L []):XX gs j (srt (aQ L)) (lq L):=by
 obtain ⟨nd,bd,vf,vw,inp,cl,mo⟩:=I;rw[show aQ L++aQ []=aQ L from cK _] at nd bd;rw[cK] at inp cl;have u:∀{t w},(t,w)∈L->t∈srt (aQ L):=λh=>oF.mpr (bo.mpr ⟨_,h,rfl⟩);have r:∀t∈aQ L,∃w,(t,w)∈L/\VW gs j L (t,w):=λt l=>by
  obtain ⟨⟨z,w⟩,s,rfl⟩:=bo.mp l;obtain ⟨i,E,e⟩:=ip.mp s;have Y:=vf i (z,w) (by rw[ai E,e]);have Z:=Y.app (hs:=L.drop i);rw[pS] at Z;exact ⟨w,s,Z⟩
 refine ⟨(Aa _).nodup_iff.mpr nd,Cp _,λt l=>bd t (oF.mp l),λt l=>?_,λt l=>?_,λg D c C J=>?_,λt l o=>?_⟩
 . obtain ⟨w,Y,_⟩:=inp t l;exact u Y
 . constructor
   . intro o;obtain ⟨w,Y,Z⟩:=r t (oF.mp l);rw[vJ nd Y] at o;rcases Z with ⟨_,h⟩ | ⟨g,_,_,_,_,_,h⟩
     . exact h
     . have h:w.c=_:=h;lia
   . intro h;obtain ⟨w,Y,Z⟩:=inp t h;rw[vJ nd Y];exact Z
 . obtain ⟨w,Y,Z⟩:=cl g D c C λp q=>oF.mp (J p q);refine ⟨u Y,?_⟩;rw[vJ nd Y];exact Z
 . obtain ⟨w,Y,Z⟩:=r t (oF.mp l);have e:=vJ nd Y;rcases Z with ⟨h,_⟩ | ⟨g,v,P,M,H,O,B⟩
   . have h:w=fH:=h;rw[e,h] at o;exact absurd o (ft 0)
   . refine ⟨g,v,w.ts,M,λp q=>oF.mpr (H p q),O,?_⟩;rw[e];exact B
noncomputable def kvC(ts:B3)(f:Int->Nat):B0:=ts.map λt=>(ab.int t,ab.int (f t:Nat))
theorem RT{f:Int->Nat}:∀{ts:B3},cP (.inl x) (kvC ts f)=if x∈ts then some (.int (f x:Nat)) else none
 | []=>rfl
 | k::ts=>by
  show (if bM (.int k)=some (.inl x) then some (ab.int (f k:Nat)) else cP (.inl x) (kvC ts f))=_
  by_cases h:k=x
  . subst h;rw[if_pos (show bM (.int k)=some (.inl k) from rfl),if_pos bg]
  . rw[if_neg (show ¬ bM (.int k)=some (.inl x) from λz=>h (kz.inj (Option.some.inj z))),RT];simp only[bE,show ¬ x=k from λz=>h z.symm,false_or]
theorem Yt{f:Int->Nat}(h:x∈ts):ixY (.dict (kvC ts f)) (.int x)= .ok (.int (f x:Nat)):=by
 show (match cP (.inl x) (kvC ts f) with
  | some d=>x8.ok d
  | none=>.bad)=_
 rw[RT,if_pos h]
theorem Yn{f:Int->Nat}:∀{ts:B3},nR (.inl x) (kvC ts f)=decide (x∈ts)
 | []=>rfl
 | k::ts=>by
  show (if bM (.int k)=some (.inl x) then true else nR (.inl x) (kvC ts f))=_
  by_cases h:k=x
  . subst h;rw[if_pos (show bM (.int k)=some (.inl k) from rfl)];simp
  . rw[if_neg (show ¬ bM (.int k)=some (.inl x) from λz=>h (kz.inj (Option.some.inj z))),Yn];simp only[bE,show ¬ x=k from λz=>h z.symm,false_or]
theorem ad9{f:Int->Nat}(h:x∉ts):gJ (.int x) (.inl x) (.int (f x:Nat)) (kvC ts f)=kvC (ts++[x]) f:=by
 rw[gJ,Yn,decide_eq_false h];unfold kvC;rw[aS];rfl
theorem ad1{f:Int->Nat}(Z:m2 Γ = .ok (.int (f x:Nat)))(e:m1 Γ = .ok (.int x))(j:gv Γ i=some (.dict (kvC ts f)))(o:x∉ts)(Y:ts.length<=100000)(l:i < Γ.length):iW i m1 m2 Γ = .ok (.nx (Γ.set i (some (.dict (kvC (ts++[x]) f))))):=by
 rw[iW,Z,x8.aP,e,x8.aP,j];show gd ((kvC ts f).length<ba/\i < Γ.length) (x8.ok (Out.nx (Γ.set i (some (.dict (gJ (.int x) (.inl x) (.int (f x:Nat)) (kvC ts f)))))))=_;rw[bB ⟨by rw[kvC,af];exact xC Y,l⟩,ad9 o]
theorem WL{n:Nat}(J:A6->A6->Prop)(i:∀fs ws t w,J fs ws->fM gs n fs ws->jO (xA ws)= .ok (.int t)->(t,w)∈ws->J (fs++[(t,w)]) ((gn gs (fs++[(t,w)]) t n).foldl cB (ws.filter λq=>!decide (q.1=t))))(h0:J [] (m6 gs n))(e:n<=2)(Z:gs.length<=8)(o:∀g∈gs,g.1<=4)(u:jY (2^2^n) gs<=20000):∃L,pq [.list (gs.map xy),.int (n:Nat)]= .ok (.dict (xA L))/\fM gs n L []/\J L []/\L.length<=16:=by
 have l:2^2^n<=2^2^2:=eI (by decide) (eI (by decide) e);have len:∀{fs ws:A6},fM gs n fs ws->fs.length<=2^2^n:=λ{fs ws} I=>by
  have:=qY (ey.mp I.nd).1 λx j=>by
   rw[show ((2^2^n:Nat):Int)=2^2^n by simp];exact I.bd x (dy _ j)
  unfold aQ at this;rwa [af] at this
 rcases QC J i h0 (by lia) Z o with ⟨L,p,Y,s,_⟩ | ⟨_,_,_,fs,ws,Y,h3⟩
 . exact ⟨L,p,Y,s,cS (len Y) l⟩
 . have r:=len Y;rcases h3 with h3 | h3
   . lia
   . have:=Te r gs;lia
noncomputable def inW(ts:B3):A6:=ts.map λt=>(t,fH)
structure p8 (n:Nat) (fs ws:A6):Prop where
 few:fs.length<n->fs=inW ((cQ n).take fs.length)/\∃rest,ws=inW ((cQ n).drop fs.length)++rest/\∀q∈rest,1<=q.2.c
 all:n<=fs.length->fs.take n=inW (cQ n)
theorem TQ:∀{ts:B3},x∈ts->lk x (inW ts)=some fH
 | k::ts,h=>by
  show (if k=x then some fH else lk x (inW ts))=_
  by_cases e:k=x
  . rw[if_pos e]
  . rw[if_neg e];exact TQ ((bE.mp h).resolve_left λz=>e z.symm)
theorem vq:aQ (inW ts)=ts:=by unfold aQ inW;rw[cy];exact List.map_id' ts
theorem DQ:∀{a b:A6},x∉aQ a->lk x (a++b)=lk x b
 | [],b,_=>rfl
 | (k,w)::a,b,h=>by
  show (if k=x then some w else lk x (a++b))=_;rw[if_neg (λz=>h (by rw[<- z];exact bg)),DQ λz=>h (bq _ z)]
variable {rest:A6}
theorem adF(e:∀r∈rest,1<=r.2.c)(l:1<=q.2.c):∃Y,cB (inW ts++rest) q=inW ts++Y/\∀r∈Y,1<=r.2.c:=by
 by_cases j:q.1∈ts
 . refine ⟨rest,?_,e⟩;rw[cB,R0 (by rw[vq];exact j),TQ j];show (if q.2.c<fH.c then ig q.1 q.2 (inW ts++rest) else inW ts++rest)=_;rw[if_neg (show ¬ q.2.c<fH.c from nX _)]
 . have Z:q.1∉aQ (inW ts):=by rw[vq];exact j
   have i:∃Y,ig q.1 q.2 (inW ts++rest)=inW ts++Y/\∀r∈Y,1<=r.2.c:=by
    rw[ig,DQ Z];split
    . refine ⟨yc q.1 q.2 rest,?_,λr h=>?_⟩
      . rw[yc,aS];congr 1;refine (bt λr h=>?_).trans (qq _);rw[if_neg (λz=>Z (bo.mpr ⟨r,h,z⟩))];rfl
      . obtain ⟨p,i,rfl⟩:=bo.mp h;split
        . exact l
        . exact e p i
    . refine ⟨rest++[(q.1,q.2)],by rw[da],λr h=>?_⟩;rcases cf.mp h with z | z
      . exact e r z
      . rw[ay.mp z];exact l
   rw[cB,DQ Z];split
   . exact i
   . split
     . exact i
     . exact ⟨rest,rfl,e⟩
theorem Ef:∀{qs rest:A6},(∀r∈rest,1<=r.2.c)->(∀q∈qs,1<=q.2.c)->∃Y,qs.foldl cB (inW ts++rest)=inW ts++Y/\∀r∈Y,1<=r.2.c
 | [],rest,Z,_=>⟨rest,rfl,Z⟩
 | q::qs,rest,Z,e=>by
  obtain ⟨o,i,j⟩:=adF Z (e q bg);rw[nN,i];exact Ef j λp l=>e p (bq _ l)
theorem Jp:∀{ts us:B3},(us++ts).Nodup->(ts.map λt=>(t,fH)).foldl cB (inW us)=inW (us++ts)
 | [],us,_=>by rw[cK];rfl
 | t::ts,us,h=>by
  have Z:=λz=>(ey.mp h).2.2 t z t bg rfl;have Y:t∉aQ (inW us):=by rw[vq];exact Z
  rw[a7,nN,show cB (inW us) (t,fH)=inW (us++[t]) by
   rw[cB,yO.mpr Y];rw[ig,yO.mpr Y];unfold inW;rw[aS];rfl,Jp (by rw[da];exact h),da]
  rfl
theorem KY(l:(cQ j).Nodup):p8 j [] (m6 gs j):=by
 have e:vU j=inW (cQ j):=by
  show ((cQ j).map λt=>(t,fH)).foldl cB (inW [])=_;rw[Jp (by rw[d6];exact l),d6]
 obtain ⟨rest,Y,i⟩:=Ef (qs:=pP gs j) (rest:=[]) (λr h=>nomatch h) λq Z=>by
  obtain ⟨g,_,rfl⟩:=bo.mp Z;exact ax _
 rw[cK] at Y;refine ⟨λ_=>⟨rfl,rest,?_,i⟩,λh=>?_⟩
 . show (pP gs j).foldl cB (vU j)=_;rw[e,Y];rfl
 . have h:=Nat.le_zero.mp h;subst h;rfl
theorem j5{n:Nat}:(cQ n).length=n:=by rw[cQ,af,cx]
theorem ZP(h:x∉ts)(i:x∉aQ rest):(inW (x::ts)++rest).filter (λq=>!decide (q.1=x))=inW ts++rest:=by
 show ((x,fH)::(inW ts++rest)).filter _=_;rw[fm (by simp)];refine List.filter_eq_self.mpr λq Y=>?_;rcases cf.mp Y with z | z
 . obtain ⟨u,Z,rfl⟩:=bo.mp z;simp only[sD,decide_eq_false_iff_not];exact λz=>h (z ▸ Z)
 . simp only[sD,decide_eq_false_iff_not];exact λe=>i (bo.mpr ⟨q,z,e⟩)
theorem Bx{k:ab}:∀{r:A6},jw k 0 (xA r)= .ok k
 | []=>rfl
 | (u,w)::r=>by
  show (if ((w.c:Nat):Int)<0 then jw (.int u) (w.c:Nat) (xA r) else jw k 0 (xA r))=_;rw[if_neg (by lia)];exact Bx
theorem p8.step{w:Way}(F:p8 j L ws)(I:fM gs j L ws)(u:jO (xA ws)= .ok (.int x))(h:(x,w)∈ws)(hn:(cQ j).Nodup) :
 p8 j (L++[(x,w)]) ((gn gs (L++[(x,w)]) x j).foldl cB (ws.filter λq=>!decide (q.1=x))):=by
 have v:(L++[(x,w)]).length=L.length+1:=by rw[ar];rfl
 by_cases Y:L.length<j
 . obtain ⟨M,rest,H,R⟩:=F.few Y;obtain ⟨b,B⟩:∃b,(cQ j)[L.length]?=some b:=⟨_,ai (by rw[j5];exact Y)⟩;have U:(cQ j).drop L.length=b::(cQ j).drop (L.length+1):=by
    rw[kT (by rw[j5];exact Y)];rw[ai (by rw[j5];exact Y)] at B;rw[Option.some.inj B]
   rw[U] at H;have i:=(ey.mp I.nd).2.1;have o:ws=(b,fH)::(inW ((cQ j).drop (L.length+1))++rest):=H;have D:=by
    rw[o] at u;have u:jw (.int b) 0 (xA (inW ((cQ j).drop (L.length+1))++rest))= .ok (.int x):=u;rw[Bx] at u;exact (ab.int.inj (x8.ok.inj u)).symm
   subst D;have S:=by
    have p:=qu i h;have s:=qu i (show (x,fH)∈ws by rw[o];exact bg);rw[p] at s;exact Option.some.inj s
   subst S;have r:x∉(cQ j).drop (L.length+1)/\x∉aQ rest:=by
    rw[o] at i;have p:(x::(aQ (inW ((cQ j).drop (L.length+1)))++aQ rest)).Nodup:=by
     have:aQ ((x,fH)::(inW ((cQ j).drop (L.length+1))++rest))=x::(aQ (inW ((cQ j).drop (L.length+1)))++aQ rest):=by
      unfold aQ;rw[a7,aS]
     rwa [this] at i
    rw[vq] at p;have s:=(k6.mp p).1;exact ⟨λz=>s (dy _ z),λz=>s (ck _ z)⟩
   have O:ws.filter (λq=>!decide (q.1=x))=inW ((cQ j).drop (L.length+1))++rest:=by
    rw[H];exact ZP r.1 r.2
   have J:L++[(x,fH)]=inW ((cQ j).take (L.length+1)):=by
    have p:=take_snoc B;rw[p];rw[inW,aS];show L++_=inW ((cQ j).take L.length)++_;rw[<- M];rfl
   obtain ⟨l,P,C⟩:=Ef (qs:=gn gs (L++[(x,fH)]) x j) R λq E=>by
    obtain ⟨g,_,E⟩:=ij.mp E;obtain ⟨c,_,e⟩:=kH.mp E;unfold qF at e;split at e
    . cases e
    . cases e;exact Nat.le_add_right _ _
   rw[O,P];refine ⟨λ_=>⟨by rw[v];exact J,l,by rw[v],C⟩,λZ=>?_⟩;rw[v] at Z;have Q:j=L.length+1:=by lia
   rw[J,<- Q,fA (by rw[inW,af,cp];lia),fA (by rw[j5];exact ax _)]
 . have Z:=ib Y;refine ⟨λz=>absurd z (by lia),λ_=>?_⟩;rw[l9 Z];exact F.all Z
theorem Mx:∀{k:Nat}{d:ab},gQ j k d->xG r (k+1) d=xG r k d
 | 0,d,h=>by obtain ⟨i,_,rfl⟩:=h;rw[n8,n8]
 | k+1,d,h=>by
  rcases h with ⟨i,_,rfl⟩ | ⟨m,b,Z,_,_,_,_,rfl,hd⟩
  . rw[n8,n8]
  . rw[pI,pI,bt λe Y=>Mx (hd e Y)]
theorem Oi:∀{k:Nat}{d:ab},gQ j k d->ik (k+1) d=ik k d
 | 0,d,h=>by obtain ⟨i,_,rfl⟩:=h;rw[mC,mC]
 | k+1,d,h=>by
  rcases h with ⟨i,_,rfl⟩ | ⟨m,b,Z,_,_,_,_,rfl,hd⟩
  . rw[mC,mC]
  . rw[mL,mL,bt λe Y=>Oi (hd e Y)]
structure TOk (n k:Nat) (t:Int) (c:Nat) (d:ab):Prop where
 ok:gQ n k d
 tb:tab (2^n) (λr=>xG r k d)=t
 sz:ik k d=(c:Nat)
theorem TOk.up{c:Nat}{d:ab}(h:TOk j W x c d):TOk j (W+1) x c d:=
 ⟨h.ok.up,by rw[<- h.tb];exact dW λr _=>Mx h.ok,by rw[Oi h.ok];exact h.sz⟩
section
variable  {n:Nat}
theorem tV(F:p8 n L []):L.take n=inW (cQ n)/\n<=L.length:=by
 have h:=ib λz=>by
  obtain ⟨_,Z,e,_⟩:=F.few z;have Y:=congrArg List.length e;rw[ko,ar] at Y;unfold inW at Y;rw[af,lT,j5] at Y;lia
 exact ⟨F.all h,h⟩
theorem aeA(I:fM gs n L [])(F:p8 n L [])(r:L[i]?=some q)(u:q.1∈cQ n):i<n/\q.1=g8 n i:=by
 obtain ⟨e,v⟩:=tV F;have nd:=by have:=I.nd;rwa [show aQ L++aQ []=aQ L from cK _] at this
 obtain ⟨j,Y,p⟩:=ip.mp u;rw[j5] at Y;have l:(L.take n)[j]?=some (q.1,fH):=by
  rw[e];rw[inW,a8,ai (by rw[j5];exact Y),p];rfl
 rw[ja Y] at l;have s:(aQ L)[j]?=(aQ L)[i]?:=by
  rw[aQ,a8,a8,l,r];rfl
 have Z:=(List.getElem?_inj (by rw[aQ,af];lia) nd).mp s;subst Z;refine ⟨Y,?_⟩;have o:(cQ n)[j]?=some (g8 n j):=by rw[cQ,a8,dQ Y];rfl
 rw[ai (by rw[j5];exact Y),p] at o;exact Option.some.inj o
end
noncomputable def Kp(b:Int)(w:Nat)(rs:B3)(m:Nat):Prop:=∀c:B3,c.length=m->(∀x∈c,x∈rs)->gC b c w∈rs
theorem kh:(brk b w rs m).isNone=true↔Kp b w rs m:=by
 rw[WM,d3];exact ⟨λh c e Z=>of_decide_eq_true (h c (lY.mpr ⟨e,Z⟩)),λh c Y=>decide_eq_true (h c (lY.mp Y).1 (lY.mp Y).2)⟩
theorem aeM(f:Nat->Int):tab 1 f=f 0:=by show 2*0+f 0=_;lia
theorem Yj(f:Nat->Int):tab 2 f=f 0+2*f 1:=by show 2*(2*0+f 1)+f 0=_;lia
theorem Yp(f:Nat->Int):tab 4 f=f 0+2*f 1+4*f 2+8*f 3:=by show 2*(2*(2*(2*0+f 3)+f 2)+f 1)+f 0=_;lia
theorem iI:∀m,bf (aw m 0)=0
 | 0=>rfl
 | m+1=>by rw[en,cT,iI m];rfl
theorem yp:∀m,bf (aw m 1)=2^m - 1
 | 0=>rfl
 | m+1=>by rw[en,cT,yp m,jv];lia
noncomputable abbrev col(c:B3)(j:Nat):B3:=c.map λt=>ak t (j:Nat)
theorem Ro(c:B3)(j:Nat):bQ (col c j):=bQ.map λ_ _=>aO _ _
theorem Su:gC b c 1=ak b (bf (col c 0)):=aeM _
theorem Ca:gC b c 2=ak b (bf (col c 0))+2*ak b (bf (col c 1)):=Yj _
theorem Ss:gC b c 4=ak b (bf (col c 0))+2*ak b (bf (col c 1))+4*ak b (bf (col c 2))+8*ak b (bf (col c 3)):=Yp _
theorem Rh:Kp b 1 [0] m↔ak b 0=0:=by
 have e:gC b (aw m 0) 1=ak b 0:=by
  rw[Su];show ak b (bf ((aw m 0).map _))=_;rw[i7];show ak b (bf (aw m 0))=_;rw[iI]
 constructor
 . intro h;have:=h (aw m 0) br λx Y=>ay.mpr (jI Y);rwa [e,ay] at this
 . intro h c i Z;have:=pT.mpr ⟨i,λx Y=>ay.mp (Z x Y)⟩;rw[this,e,h];exact ay.mpr rfl
theorem Mz:Kp b 1 [1] m↔ak b (2^m - 1)=1:=by
 have e:gC b (aw m 1) 1=ak b (2^m - 1):=by
  rw[Su];show ak b (bf ((aw m 1).map _))=_;rw[i7];show ak b (bf (aw m 1))=_;rw[yp]
 constructor
 . intro h;have:=h (aw m 1) br λx Y=>ay.mpr (jI Y);rwa [e,ay] at this
 . intro h c i Z;have:=pT.mpr ⟨i,λx Y=>ay.mp (Z x Y)⟩;rw[this,e,h];exact ay.mpr rfl
theorem HF:x∈([1,2]:B3)↔x=1\/x=2:=by simp
theorem Np:Kp b 2 [1,2] m↔∀r:Nat,r<2^m->ak b (r:Nat)≠ak b (2^m - 1 - (r:Nat)):=by
 constructor
 . intro h r Z;have k:=h ((bx m r).map λx=>2 - x) (by rw[af,bF]) λx Y=>by
    obtain ⟨y,o,rfl⟩:=bo.mp Y;rcases j7 o with z | z <;> rw[z] <;> simp
   rw[Ca,HF] at k;have q:col ((bx m r).map λx=>2 - x) 0=bx m r:=by
    rw[col,cy];refine (bt λx Y=>?_).trans (qq _);rcases j7 Y with z | z <;> rw[z] <;> rfl
   have e:col ((bx m r).map λx=>2 - x) 1=rQ (bx m r):=by
    unfold col rQ;rw[cy];refine bt λx Y=>?_;rcases j7 Y with z | z <;> rw[z] <;> rfl
   rw[q,e,wO,bF,cC Z] at k;have j:=aO b r;have i:=aO b (2^m - 1 - r);lia
 . intro h c j i;have e:col c 1=rQ (col c 0):=by
    unfold rQ col;rw[cy];refine bt λx Y=>?_;rcases HF.mp (i x Y) with z | z <;> rw[z] <;> rfl
   obtain ⟨r,Z,p,_⟩:=Jv (Ro c 0);have l:(col c 0).length=m:=by rw[af,j]
   rw[l] at Z;have k:=h r Z;rw[Ca,e,wO,l,p,HF];have j:=aO b r;have i:=aO b (2^m - 1 - r);lia
theorem yJ:x∈([0,2,3]:B3)↔x=0\/x=2\/x=3:=by simp
theorem Ek(n i:Nat):ak (n:Nat) (i:Nat)=if n.testBit i then 1 else 0:=by
 rw[ak,cc,Nat.testBit_eq_decide_div_mod_eq];have:(n:Int) / 2^i % 2=((n / 2^i % 2:Nat):Int):=by push_cast;rfl
 rw[this]
 by_cases h:n / 2^i % 2=1
 . rw[h];simp
 . have:n / 2^i % 2=0:=by lia
   rw[this];simp
theorem qw:bx m r=(List.range m).map λj=>ak (r:Nat) (j:Nat):=by
 refine bt λj _=>?_;rw[ak,cc]
 push_cast
 rfl
theorem Dt{k:Nat}(e:k<m):bx m (r ||| 2^k)=(bx m r).set k 1:=by
 rw[qw,qw];refine oQ λi=>?_;rw[sF,a8,a8,af,cx]
 by_cases Z:i<m
 . rw[dQ Z];simp only[Ek,Nat.testBit_two_pow]
   by_cases Y:k=i
   . subst Y;simp[e]
   . simp[Y]
 . have:(List.range m)[i]?=none:=by rw[List.getElem?_eq_none_iff,cx];lia
   rw[this,if_neg (by lia)];rfl
inductive Below:B3->B3->Prop
 | nil:Below [] []
 | cons {x y:Int}{xs ys:B3}:(x=0/\y=0)\/(x=0/\y=1)\/(x=1/\y=1)->Below xs ys->Below (x::xs) (y::ys)
theorem Ga:∀{c:B3},(∀x∈c,x∈([0,2,3]:B3))->Below (col c 0) (col c 1)
 | [],_=>.nil
 | x::c,h=>.cons (by
  rcases yJ.mp (h x bg) with z | z | z <;> rw[z] <;> decide) (Ga λy Y=>h y (bq _ Y))
theorem bQ.app(h:bQ xs)(Z:bQ ys):bQ (xs++ys):=λx Y=>by
 rcases cf.mp Y with z | z
 . exact h x z
 . exact Z x z
theorem Below.left(h:Below xs ys):bQ xs:=by
 induction h with
 | nil=>exact λx Y=>nomatch Y
 | cons h _ Z=>exact λx Y=>by rcases bE.mp Y with z | z;(· lia);exact Z x z
theorem aaM(h:∀r k:Nat,r<2^m->k<m->ak b (r:Nat)<=ak b ((r ||| 2^k:Nat)))(p:Below xs ys):∀pre,bQ pre->pre.length+xs.length=m->ak b (bf (pre++xs))<=ak b (bf (pre++ys)):=by
 induction p with
 | nil=>intro pre _ _;exact la _
 | @cons x y xs ys o p B=>
  intro pre s E;rw[a6] at E;have Z:bQ (pre++x::xs):=s.app λz i=>by rcases bE.mp i with e | e;(· lia);exact p.left z e
  have D:ak b (bf (pre++x::xs))<=ak b (bf (pre++y::xs)):=by
   rcases o with ⟨rfl,rfl⟩ | ⟨rfl,rfl⟩ | ⟨rfl,rfl⟩
   . exact la _
   . obtain ⟨r,j,H,u⟩:=Jv Z;have v:(pre++0::xs).length=m:=by rw[ar,a6];lia
     rw[v] at j u;have k:=h r pre.length j (by lia);have Y:=Dt (m:=m) (r:=r) (k:=pre.length) (by lia);rw[u] at Y;have C:(pre++0::xs).set pre.length 1=pre++1::xs:=by
      rw[List.set_append_right _ _ (ax _),iN];rfl
     rw[C] at Y;have l:r ||| 2^pre.length<2^m:=pj j (j2 (by decide) (by lia))
     rw[H,<- Y,cC l];exact k
   . exact la _
  have q:=B (pre++[y]) (s.app λz i=>by rw[ay.mp i];lia) (by rw[ar];show pre.length+1+xs.length=m;lia);rw[da,da] at q;exact xb D q
theorem Eu:Kp b 2 [0,2,3] m↔∀r k:Nat,r<2^m->k<m->ak b (r:Nat)<=ak b ((r ||| 2^k:Nat)):=by
 constructor
 . intro h r k l q;have e:=pj l (j2 (by decide) q);have mem:∀j:Nat,(ak (r:Nat) (j:Nat)=0/\ak ((r ||| 2^k:Nat)) (j:Nat)=0)\/(ak (r:Nat) (j:Nat)=0/\ak ((r ||| 2^k:Nat)) (j:Nat)=1)\/(ak (r:Nat) (j:Nat)=1/\ak ((r ||| 2^k:Nat)) (j:Nat)=1):=λj=>by
    rw[Ek,Ek,Nat.testBit_or];cases r.testBit j <;> cases (2^k).testBit j <;> simp
   have p:=h ((List.range m).map λj=>ak r (j:Nat)+2*ak ((r ||| 2^k:Nat)) j) (by rw[af,cx]) λx i=>by
    obtain ⟨j,_,rfl⟩:=bo.mp i;rw[yJ];have:=mem j;lia
   have s:col ((List.range m).map λj=>ak (r:Nat) (j:Nat)+2*ak ((r ||| 2^k:Nat)) (j:Nat)) 0=bx m r:=by
    rw[qw];rw[col,cy];refine bt λj _=>?_;show ak (ak (r:Nat) (j:Nat)+2*ak ((r ||| 2^k:Nat)) (j:Nat)) ((0:Nat):Int)=ak (r:Nat) (j:Nat);rcases mem j with ⟨Z,Y⟩ | ⟨Z,Y⟩ | ⟨Z,Y⟩ <;> rw[Z,Y] <;> rfl
   have o:col ((List.range m).map λj=>ak (r:Nat) (j:Nat)+2*ak ((r ||| 2^k:Nat)) (j:Nat)) 1=bx m (r ||| 2^k):=by
    rw[qw];rw[col,cy];refine bt λj _=>?_;show ak (ak (r:Nat) (j:Nat)+2*ak ((r ||| 2^k:Nat)) (j:Nat)) ((1:Nat):Int)=ak ((r ||| 2^k:Nat)) (j:Nat);rcases mem j with ⟨Z,Y⟩ | ⟨Z,Y⟩ | ⟨Z,Y⟩ <;> rw[Z,Y] <;> rfl
   rw[Ca,s,o,cC l,cC e,yJ] at p;have Z:=aO b r;have Y:=aO b ((r ||| 2^k:Nat));lia
 . intro h c Z Y;have k:=aaM h (Ga Y) [] (λx i=>nomatch i) (by show 0+_=m;rw[af];lia);rw[d6,d6] at k;rw[Ca,yJ];have Z:=aO b (bf (col c 0));have Y:=aO b (bf (col c 1));lia
noncomputable def gG:B3:=[0,3,5,6,9,10,12,15]
theorem Q8:x∈gG↔x=0\/x=3\/x=5\/x=6\/x=9\/x=10\/x=12\/x=15:=by simp[gG]
noncomputable def wgt(b:Int)(k:Nat):Int:=ak b (2^k)+ak b 0
noncomputable def gR(b:Int):Nat->B3->Int
 | _,[]=>0
 | k,x::xs=>x*wgt b k+gR b (k+1) xs
noncomputable def vY(b:Int)(r:Nat):Nat->Int
 | 0=>ak b 0
 | k+1=>vY b r k+ak (r:Nat) (k:Nat)*wgt b k
theorem FJ(b:Int)(y:Int):∀(xs:B3) (k:Nat),gR b k (xs++[y])=gR b k xs+y*wgt b (k+xs.length)
 | [],k=>by show y*wgt b k+0=0+y*wgt b k;lia
 | x::xs,k=>by
  show x*wgt b k+gR b (k+1) (xs++[y])=x*wgt b k+gR b (k+1) xs+y*wgt b (k+(xs.length+1));rw[FJ b y xs (k+1),show k+1+xs.length=k+(xs.length+1) by lia];lia
theorem v9(b:Int)(r:Nat):∀m,vY b r m=ak b 0+gR b 0 (bx m r)
 | 0=>by show ak b 0=ak b 0+0;lia
 | m+1=>by
  show vY b r m+ak (r:Nat) (m:Nat)*wgt b m=_;have e:ak (r:Nat) (m:Nat)=((r / 2^m % 2:Nat):Int):=by
   rw[ak,cc]
   push_cast
   rfl
  rw[v9 b r m,uv,FJ,bF,e,xc];lia
theorem Ku(b:Int):∀(c:B3) (k:Nat),(∀x∈c,x∈gG)->(gR b k (col c 0)+gR b k (col c 1)+gR b k (col c 2)+gR b k (col c 3)) % 2=0
 | [],k,_=>rfl
 | x::c,k,h=>by
  have o:=Ku b c (k+1) λy Z=>h y (bq _ Z);show (ak x ((0:Nat):Int)*wgt b k+gR b (k+1) (col c 0)+(ak x ((1:Nat):Int)*wgt b k+gR b (k+1) (col c 1))+(ak x ((2:Nat):Int)*wgt b k+gR b (k+1) (col c 2))+(ak x ((3:Nat):Int)*wgt b k+gR b (k+1) (col c 3))) % 2=0;generalize gR b (k+1) (col c 0)=l0 at *
  generalize gR b (k+1) (col c 1)=l1 at *
  generalize gR b (k+1) (col c 2)=l2 at *
  generalize gR b (k+1) (col c 3)=l3 at *
  generalize wgt b k=w at *
  have bits:∀v:Int,v∈gG->(ak v ((0:Nat):Int)=0\/ak v ((0:Nat):Int)=1)/\(ak v ((1:Nat):Int)=0\/ak v ((1:Nat):Int)=1)/\(ak v ((2:Nat):Int)=0\/ak v ((2:Nat):Int)=1)/\(ak v ((3:Nat):Int)=0\/ak v ((3:Nat):Int)=1)/\(ak v ((0:Nat):Int)+ak v ((1:Nat):Int)+ak v ((2:Nat):Int)+ak v ((3:Nat):Int)) % 2=0:=by decide
  obtain ⟨e,j,i,Y,l⟩:=bits x (h x bg);rcases e with z0 | z0 <;> rcases j with z1 | z1 <;> rcases i with z2 | z2 <;> rcases Y with z3 | z3 <;> rw[z0,z1,z2,z3] at l ⊢ <;> first | lia
theorem Gy{c d:Int}(Y:x=0\/x=1)(Z:b=0\/b=1)(e:c=0\/c=1)(hd:d=0\/d=1):x+2*b+4*c+8*d∈gG↔(x+b+c+d) % 2=0:=by
 rcases Y with rfl | rfl <;> rcases Z with rfl | rfl <;> rcases e with rfl | rfl <;> rcases hd with rfl | rfl <;> decide
theorem uW{α Y:Type}(f:α->Y)(x:α)(n:Nat):(aw n x).map f=aw n (f x):=i7
theorem Om(h:Kp b 4 gG m):∀(xs:B3) (k:Nat),bQ xs->k+xs.length=m->ak b (bf (aw k 0++xs)) % 2=(ak b 0+gR b k xs) % 2
 | [],k,_,_=>by
  rw[cK,iI];show _=(ak b 0+0) % 2;lia
 | x::xs,k,Z,D=>by
  rw[a6] at D;have i:=Om h xs (k+1) Z.tail (by lia);have B:aw (k+1) (0:Int)++xs=aw k 0++0::xs:=by
   rw[qo,da];rfl
  rw[B] at i;show _=(ak b 0+(x*wgt b k+gR b (k+1) xs)) % 2;rcases Z x bg with rfl | rfl
  . rw[i];lia
  . have q:=h (aw k 0++5::xs.map λy=>3*y) (by simp;lia) λy H=>by
     rw[Q8];rcases cf.mp H with z | z
     . exact .inl (jI z)
     . rcases bE.mp z with z | z
       . lia
       . obtain ⟨v,Y,rfl⟩:=bo.mp z;rcases Z.tail v Y with e | e <;> lia
    have s:col (aw k 0++5::xs.map λy=>3*y) 0=aw k 0++1::xs:=by
     rw[col,aS,uW,a7,cy];congr 2;refine (bt λv Y=>?_).trans (qq _);rcases Z.tail v Y with e | e <;> rw[e] <;> rfl
    have p:col (aw k 0++5::xs.map λy=>3*y) 1=aw k 0++0::xs:=by
     rw[col,aS,uW,a7,cy];congr 2;refine (bt λv Y=>?_).trans (qq _);rcases Z.tail v Y with e | e <;> rw[e] <;> rfl
    have l:∀j:Nat,(j=2\/j=3)->(xs.map λy=>3*y).map (λt=>ak t (j:Nat))=aw xs.length 0:=λj L=>by
     rw[cy];refine pT.mpr ⟨by rw[af],λv Y=>?_⟩;obtain ⟨u,I,rfl⟩:=bo.mp Y;rcases L with rfl | rfl <;> rcases Z.tail u I with e | e <;> rw[e] <;> rfl
    have E:col (aw k 0++5::xs.map λy=>3*y) 2=aw k 0++1::aw xs.length 0:=by
     rw[col,aS,uW,a7,l 2 (.inl rfl)];rfl
    have J:col (aw k 0++5::xs.map λy=>3*y) 3=aw k 0++0::aw xs.length 0:=by
     rw[col,aS,uW,a7,l 3 (.inr rfl)];rfl
    have o:∀(k:Nat) (ys:B3),bf (aw k 0++ys)=2^k*bf ys:=λk ys=>by
     induction k with
     | zero=>rw[ky,d6];lia
     | succ k i=>rw[en,fk,cT,i,jv,pf (2^k) 2,nI];lia
    have C:bf (aw k 0++1::aw xs.length 0)=2^k:=by
     rw[o,cT,iI];lia
    have r:bf (aw k 0++0::aw xs.length 0)=0:=by
     rw[o,cT,iI];lia
    rw[Ss,s,p,E,J,C,r,Gy (aO _ _) (aO _ _) (aO _ _) (aO _ _)] at q;unfold wgt;lia
theorem Em:Kp b 4 gG m↔∀r:Nat,r<2^m->vY b r m % 2=ak b (r:Nat):=by
 constructor
 . intro h r Y;have k:=Om h (bx m r) 0 bQ.bx (by rw[bF];lia);rw[ky,d6,cC Y,<- v9] at k;have:=aO b r;lia
 . intro h c o l;rw[Ss,Gy (aO _ _) (aO _ _) (aO _ _) (aO _ _)];have e:∀j,ak b (bf (col c j))=(ak b 0+gR b 0 (col c j)) % 2:=λj=>by
    obtain ⟨r,Y,p,Z⟩:=Jv (Ro c j);have i:(col c j).length=m:=by rw[af,o]
    rw[i] at Y Z;rw[p,<- h r Y,v9,Z]
   rw[e 0,e 1,e 2,e 3];have:=Ku b c 0 l;lia
theorem Below.len(h:Below xs ys):xs.length=ys.length:=by
 induction h with
 | nil=>rfl
 | cons _ _ Y=>rw[a6,a6,Y]
structure Fam (gs:A9) (F:Int->Prop):Prop where
 clo:∀g∈gs,∀ts:B3,ts.length=g.1->(∀t∈ts,F t)->F (gC g.2 ts 4)
 x:F 10
 y:F 12
noncomputable def dY(t:Int):Int:=tab 4 λr=>1 - ak t (r:Nat)
noncomputable def uH(p q:Int):Int:=tab 4 λr=>ak p (r:Nat)*ak q (r:Nat)
variable {v:Int}
section
variable  {F:Int->Prop}
theorem Uo(h:v=0\/v=1):bf (aw m v)=if v=0 then 0 else 2^m - 1:=by
 rcases h with rfl | rfl
 . rw[iI,if_pos rfl]
 . rw[yp,if_neg (by decide)]
theorem Fam.one(h:Fam gs F)(Z:g∈gs)(Y:F b):F (tab 4 λr=>if ak b (r:Nat)=0 then ak g.2 0 else ak g.2 (2^g.1 - 1)):=by
 have k:=h.clo g Z (aw g.1 b) br λx i=>by rw[jI i];exact Y
 have e:gC g.2 (aw g.1 b) 4=tab 4 λr=>if ak b (r:Nat)=0 then ak g.2 0 else ak g.2 (2^g.1 - 1):=by
  refine dW λr _=>?_;rw[uW,Uo (aO _ _)];split <;> rfl
 rwa [e] at k
theorem Fam.not_of(h:Fam gs F)(i:g∈gs)(h0:ak g.2 0=1)(Z:ak g.2 (2^g.1 - 1)=0){t:Int}(Y:F t):F (dY t):=by
 have k:=h.one i Y;have e:(tab 4 λr=>if ak t (r:Nat)=0 then ak g.2 0 else ak g.2 (2^g.1 - 1))=dY t:=by
  refine dW λr _=>?_;rw[h0,Z];rcases aO t r with z | z <;> rw[z] <;> rfl
 rwa [e] at k
theorem Fam.Jr(h:Fam gs F)(Z:g∈gs)(h0:ak g.2 0=v)(Y:ak g.2 (2^g.1 - 1)=v):F (tab 4 λ_=>v):=by
 have k:=h.one Z h.x;have e:(tab 4 λr=>if ak 10 (r:Nat)=0 then ak g.2 0 else ak g.2 (2^g.1 - 1))=tab 4 λ_=>v:=by
  refine dW λr _=>?_;rw[h0,Y];split <;> rfl
 rwa [e] at k
theorem tab0:(tab 4 λ_=>(0:Int))=0:=by decide
theorem acT:(tab 4 λ_=>(1:Int))=15:=by decide
theorem yX(Y:r<4):ak (dY x) (r:Nat)=1 - ak x (r:Nat):=iw (λr=>by rcases aO x r with z | z <;> lia) Y
theorem Fam.Df(h:Fam gs F)(l:∀t,F t->F (dY t))(s:g∈gs)(Y:¬ Kp g.2 2 [1,2] g.1):F 0/\F 15:=by
 rw[Np] at Y;have ⟨r,Y⟩:=er.mp Y;have ⟨p,Y⟩:=er.mp Y;have Y:=Classical.not_not.mp Y;have o:=l _ h.x;have k:=h.clo g s ((bx g.1 r).map λv=>if v=1 then 10 else dY 10) (by rw[af,bF]) λt q=>by
  obtain ⟨v,_,rfl⟩:=bo.mp q;split
  . exact h.x
  . exact o
 have e:gC g.2 ((bx g.1 r).map λv=>if v=1 then 10 else dY 10) 4=tab 4 λ_=>ak g.2 (r:Nat):=by
  refine dW λZ i=>?_;rw[cy];rcases aO 10 Z with z | z
  . have:(bx g.1 r).map ((λt=>ak t (Z:Nat))∘λv=>if v=1 then 10 else dY 10)=rQ (bx g.1 r):=by
     refine bt λv j=>?_;show ak (if v=1 then 10 else dY 10) (Z:Nat)=1 - v;rcases j7 j with e | e
     . rw[e,if_neg (by decide),yX i,z]
     . rw[e,if_pos rfl,z];rfl
    rw[this,wO,bF,cC p,Y]
  . have:(bx g.1 r).map ((λt=>ak t (Z:Nat))∘λv=>if v=1 then 10 else dY 10)=bx g.1 r:=by
     refine (bt λv j=>?_).trans (qq _);show ak (if v=1 then 10 else dY 10) (Z:Nat)=v;rcases j7 j with e | e
     . rw[e,if_neg (by decide),yX i,z];rfl
     . rw[e,if_pos rfl,z]
    rw[this,cC p]
 rw[e] at k;rcases aO g.2 r with z | z
 . rw[z,tab0] at k;exact ⟨k,by have:=l _ k;rwa [show dY 0=15 by decide] at this⟩
 . rw[z,acT] at k;exact ⟨by have:=l _ k;rwa [show dY 15=0 by decide] at this,k⟩
theorem afn:ak 0 (r:Nat)=0:=by rw[ak,wo];rfl
theorem aeN(h:r<4):ak 15 (r:Nat)=1:=by
 have:∀r<4,ak 15 ((r:Nat):Int)=1:=by decide
 exact this r h
noncomputable def cst(v:Int):Int:=if v=1 then 15 else 0
theorem aa3(h:v=0\/v=1)(Y:r<4):ak (cst v) (r:Nat)=v:=by
 unfold cst;rcases h with rfl | rfl
 . rw[if_neg (by decide),afn]
 . rw[if_pos rfl,aeN Y]
theorem BX(h0:F 0)(Y:F 15)(v:Int):F (cst v):=by
 unfold cst;split
 . exact Y
 . exact h0
theorem nG(h:bQ xs)(Z:r<4):(xs.map cst).map (λt=>ak t (r:Nat))=xs:=by
 rw[cy];exact (bt λv Y=>aa3 (h v Y) Z).trans (qq _)
theorem Fam.XM(h:Fam gs F)(h0:F 0)(s:F 15)(D:g∈gs)(Z:¬ Kp g.2 2 [0,2,3] g.1):∀t,F t->F (dY t):=by
 rw[Eu] at Z;have ⟨r,Z⟩:=er.mp Z;have ⟨k,Z⟩:=er.mp Z;have ⟨o,Z⟩:=er.mp Z;have ⟨Y,Z⟩:=er.mp Z;have b1:=aO g.2 r;have L:=aO g.2 ((r ||| 2^k:Nat));have J:ak g.2 (r:Nat)=1:=by lia
 have q:ak g.2 ((r ||| 2^k:Nat))=0:=by lia
 have j:=pj o (j2 (by decide) Y);have p:(bx g.1 r).getD k 0=0:=by
  rcases zu (bQ.bx) k with z | z
  . exact z
  . exfalso
    have:bx g.1 (r ||| 2^k)=bx g.1 r:=by
     rw[Dt Y];refine oQ λi=>?_;rw[sF]
     by_cases e:k=i
     . subst e;rw[if_pos rfl,if_pos (by rw[bF];exact Y)];rw[ae,ai (by rw[bF];exact Y)] at z;rw[ai (by rw[bF];exact Y)];exact congrArg some z.symm
     . rw[if_neg e]
    have:=congrArg bf this;rw[cC j,cC o] at this;rw[this] at q;lia
 have I:(bx g.1 r).set k 0=bx g.1 r:=by
  refine oQ λi=>?_;rw[sF]
  by_cases e:k=i
  . subst e;rw[if_pos rfl,if_pos (by rw[bF];exact Y)];rw[ae,ai (by rw[bF];exact Y)] at p;rw[ai (by rw[bF];exact Y)];exact congrArg some p.symm
  . rw[if_neg e]
 intro t C;have B:=h.clo g D (((bx g.1 r).map cst).set k t) (by rw[eJ,af,bF]) λu H=>by
  rcases List.mem_or_eq_of_mem_set H with z | z
  . obtain ⟨v,_,rfl⟩:=bo.mp z;exact BX h0 s v
  . rw[z];exact C
 have e:gC g.2 (((bx g.1 r).map cst).set k t) 4=dY t:=by
  refine dW λE l=>?_;rw[List.map_set,nG bQ.bx l];rcases aO t E with z | z
  . rw[z,I,cC o,J];rfl
  . rw[z,<- Dt Y,cC j,q];rfl
 rwa [e] at B
noncomputable def Fe(b:Int)(pre mid suf:B3):Int:=ak b (bf (pre++0::(mid++0::suf)))+ak b (bf (pre++1::(mid++0::suf)))+ak b (bf (pre++0::(mid++1::suf)))+ak b (bf (pre++1::(mid++1::suf)))
theorem KQ(k:Nat)(ys:B3):aw (k+1) (0:Int)++ys=aw k 0++0::ys:=by
 rw[qo,da];rfl
theorem abo(k:Nat):bQ (aw k 0):=λx Y=>.inl (jI Y)
theorem Ky(h:∀pre Z Y:B3,bQ pre->bQ Z->bQ Y->pre.length+Z.length+Y.length+2=m->Fe b pre Z Y % 2=0)(k:Nat):∀(ys:B3) (j:Nat),bQ ys->k+1+j+ys.length=m ->
 (ak b (bf (aw k 0++1::(aw j 0++ys)))+ak b (bf (aw k 0++0::(aw j 0++ys)))) % 2=(ak b (bf (aw k 0++1::aw (j+ys.length) 0))+ak b (bf (aw k 0++0::aw (j+ys.length) 0))) % 2
 | [],j,_,_=>by rw[cK];rfl
 | y::ys,j,i,l=>by
  rw[a6] at l;have e:=Ky h k ys (j+1) i.tail (by lia);rw[KQ,show j+1+ys.length=j+(y::ys).length by rw[a6];lia] at e;rcases i y bg with rfl | rfl
  . exact e
  . have d:=h (aw k 0) (aw j 0) ys (abo k) (abo j) i.tail (by rw[br,br];lia);unfold Fe at d;rw[<- e];lia
theorem zO(h:∀pre e Z:B3,bQ pre->bQ e->bQ Z->pre.length+e.length+Z.length+2=m->Fe b pre e Z % 2=0):Kp b 4 gG m:=by
 have up:∀(Y:B3) (k:Nat),bQ Y->k+Y.length=m->ak b (bf (aw k 0++Y)) % 2=(ak b 0+gR b k Y) % 2:=by
  intro Y
  induction Y with
  | nil=>
   intro k _ _;rw[cK,iI];show _=(ak b 0+0) % 2;lia
  | cons x Y i=>
   intro k j o;rw[a6] at o;have i:=i (k+1) j.tail (by lia);rw[KQ] at i;show _=(ak b 0+(x*wgt b k+gR b (k+1) Y)) % 2;rcases j x bg with rfl | rfl
   . rw[i];lia
   . have d:=Ky h k Y 0 j.tail (by lia);rw[ky,d6,xc] at d;have l:∀(k:Nat) (ys:B3),bf (aw k 0++ys)=2^k*bf ys:=λk ys=>by
      induction k with
      | zero=>rw[ky,d6];lia
      | succ k i=>rw[en,fk,cT,i,jv,pf (2^k) 2,nI];lia
     rw[show bf (aw k 0++1::aw Y.length 0)=2^k by rw[l,cT,iI];lia,show bf (aw k 0++0::aw Y.length 0)=0 by rw[l,cT,iI];lia] at d;unfold wgt;lia
 rw[Em];intro r p;have k:=up (bx m r) 0 bQ.bx (by rw[bF];lia);rw[ky,d6,cC p,<- v9] at k;have:=aO b r;lia
theorem Fam.odd(h:Fam gs F)(h0:F 0)(j:F 15)(s:g∈gs)(i:¬ Kp g.2 4 gG g.1):∃H:Int->Int->Int,(∀a b,H a b=0\/H a b=1)/\(H 0 0+H 1 0+H 0 1+H 1 1) % 2=1/\∀p q,F p->F q->F (tab 4 λr=>H (ak p (r:Nat)) (ak q (r:Nat))):=by
 have i:=λz=>i (zO z);have ⟨pre,i⟩:=er.mp i;have ⟨Z,i⟩:=er.mp i;have ⟨Y,i⟩:=er.mp i;have ⟨C,i⟩:=er.mp i;have ⟨B,i⟩:=er.mp i;have ⟨E,i⟩:=er.mp i;have ⟨I,i⟩:=er.mp i;refine ⟨λa b=>ak g.2 (bf (pre++a::(Z++b::Y))),λ_ _=>aO _ _,?_,λp q u D=>?_⟩
 . unfold Fe at i;show (ak g.2 (bf (pre++0::(Z++0::Y)))+ak g.2 (bf (pre++1::(Z++0::Y)))+ak g.2 (bf (pre++0::(Z++1::Y)))+ak g.2 (bf (pre++1::(Z++1::Y)))) % 2=1;lia
 . have k:=h.clo g s (pre.map cst++p::(Z.map cst++q::Y.map cst)) (by simp;lia) λt o=>by
    simp only[cf,bE,bo] at o;rcases o with ⟨v,_,rfl⟩ | rfl | ⟨v,_,rfl⟩ | rfl | ⟨v,_,rfl⟩
    . exact BX h0 j v
    . exact u
    . exact BX h0 j v
    . exact D
    . exact BX h0 j v
   have e:gC g.2 (pre.map cst++p::(Z.map cst++q::Y.map cst)) 4=tab 4 λr=>ak g.2 (bf (pre++ak p (r:Nat)::(Z++ak q (r:Nat)::Y))):=by
    refine dW λr l=>?_;rw[aS,a7,aS,a7,nG C l,nG B l,nG E l]
   rwa [e] at k
theorem Fam.and(D:∀t,F t->F (dY t)){H:Int->Int->Int}(s:∀a b,H a b=0\/H a b=1)(O:(H 0 0+H 1 0+H 0 1+H 1 1) % 2=1)(U:∀p q,F p->F q->F (tab 4 λr=>H (ak p (r:Nat)) (ak q (r:Nat)))):∀p q,F p->F q->F (uH p q):=by
 intro p q L M;have go:∀(Z Y u:Bool),(∀a b:Int,(a=0\/a=1)->(b=0\/b=1)->(if u=true then 1 - H (if Z=true then 1 - a else a) (if Y=true then 1 - b else b) else H (if Z=true then 1 - a else a) (if Y=true then 1 - b else b))=a*b)->F (uH p q):=λZ Y u hh=>by
  have I:F (if Z=true then dY p else p):=by split;(· exact D p L);exact L
  have C:F (if Y=true then dY q else q):=by split;(· exact D q M);exact M
  have k:=U _ _ I C;have Q:∀r:Nat,r<4->ak (if Z=true then dY p else p) (r:Nat)=if Z=true then 1 - ak p (r:Nat) else ak p (r:Nat):=λr v=>by
   split
   . exact yX v
   . rfl
  have P:∀r:Nat,r<4->ak (if Y=true then dY q else q) (r:Nat)=if Y=true then 1 - ak q (r:Nat) else ak q (r:Nat):=λr v=>by
   split
   . exact yX v
   . rfl
  have e:(tab 4 λr=>H (ak (if Z=true then dY p else p) (r:Nat)) (ak (if Y=true then dY q else q) (r:Nat)))=tab 4 λr=>H (if Z=true then 1 - ak p (r:Nat) else ak p (r:Nat)) (if Y=true then 1 - ak q (r:Nat) else ak q (r:Nat)):=dW λr v=>by rw[Q r v,P r v]
  rw[e] at k
  cases u with
  | false=>
   have:(tab 4 λr=>H (if Z=true then 1 - ak p (r:Nat) else ak p (r:Nat)) (if Y=true then 1 - ak q (r:Nat) else ak q (r:Nat)))=uH p q:=dW λr _=>by
    have:=hh _ _ (aO p r) (aO q r);rwa [if_neg (by decide)] at this
   rwa [this] at k
  | true=>
   have k:=D _ k;have:dY (tab 4 λr=>H (if Z=true then 1 - ak p (r:Nat) else ak p (r:Nat)) (if Y=true then 1 - ak q (r:Nat) else ak q (r:Nat)))=uH p q:=by
    refine dW λr v=>?_;rw[iw (λr=>s _ _) v];have:=hh _ _ (aO p r) (aO q r);rwa [if_pos rfl] at this
   rwa [this] at k
 have fill:∀(Z Y u:Bool) (o j i l:Int),H 0 0=o->H 1 0=j->H 0 1=i->H 1 1=l ->
  ((if u=true then 1 - (if Z=true then (if Y=true then l else j) else (if Y=true then i else o)) else (if Z=true then (if Y=true then l else j) else (if Y=true then i else o)))=0) ->
  ((if u=true then 1 - (if Z=true then (if Y=true then i else o) else (if Y=true then l else j)) else (if Z=true then (if Y=true then i else o) else (if Y=true then l else j)))=0) ->
  ((if u=true then 1 - (if Z=true then (if Y=true then j else l) else (if Y=true then o else i)) else (if Z=true then (if Y=true then j else l) else (if Y=true then o else i)))=0) ->
  ((if u=true then 1 - (if Z=true then (if Y=true then o else i) else (if Y=true then j else l)) else (if Z=true then (if Y=true then o else i) else (if Y=true then j else l)))=1)->F (uH p q):=by
  intro Z Y u o j i l e00 e10 e01 e11 E B J z;refine go Z Y u λa b R S=>?_;cases Z <;> cases Y <;> cases u <;> rcases R with rfl | rfl <;> rcases S with rfl | rfl <;> simp[e10,e11] at E B J z ⊢ <;> lia
 rcases s 0 0 with e00 | e00 <;> rcases s 1 0 with e10 | e10 <;> rcases s 0 1 with e01 | e01 <;> rcases s 1 1 with e11 | e11 <;> rw[e00,e10,e01,e11] at O <;> first
  | exact absurd O (by decide)
  | exact fill false false false _ _ _ _ e00 e10 e01 e11 (by decide) (by decide) (by decide) (by decide)
  | exact fill false false true _ _ _ _ e00 e10 e01 e11 (by decide) (by decide) (by decide) (by decide)
  | exact fill false true false _ _ _ _ e00 e10 e01 e11 (by decide) (by decide) (by decide) (by decide)
  | exact fill false true true _ _ _ _ e00 e10 e01 e11 (by decide) (by decide) (by decide) (by decide)
  | exact fill true false false _ _ _ _ e00 e10 e01 e11 (by decide) (by decide) (by decide) (by decide)
  | exact fill true false true _ _ _ _ e00 e10 e01 e11 (by decide) (by decide) (by decide) (by decide)
  | exact fill true true false _ _ _ _ e00 e10 e01 e11 (by decide) (by decide) (by decide) (by decide)
  | exact fill true true true _ _ _ _ e00 e10 e01 e11 (by decide) (by decide) (by decide) (by decide)
theorem Fam.full(h:Fam gs F)(k1:∃g∈gs,¬ Kp g.2 1 [0] g.1)(J:∃g∈gs,¬ Kp g.2 1 [1] g.1)(k3:∃g∈gs,¬ Kp g.2 2 [1,2] g.1)(k4:∃g∈gs,¬ Kp g.2 2 [0,2,3] g.1)(U:∃g∈gs,¬ Kp g.2 4 gG g.1):∀n:Nat,n<16->F (n:Nat):=by
 have base:(F 0/\F 15)/\∀t,F t->F (dY t):=by
  obtain ⟨e,D,h0⟩:=k1;obtain ⟨j,u,h1⟩:=J;obtain ⟨g3,B,C⟩:=k3;obtain ⟨g4,m4,S⟩:=k4;rw[Rh] at h0;rw[Mz] at h1;have I:ak e.2 0=1:=by have:=aO e.2 0;lia
  have z:ak j.2 (2^j.1 - 1)=0:=by have:=aO j.2 (2^j.1 - 1);lia
  by_cases c0:ak e.2 (2^e.1 - 1)=0
  . have Y:∀t,F t->F (dY t):=λt r=>h.not_of D I c0 r;exact ⟨h.Df Y B C,Y⟩
  . by_cases c1:ak j.2 0=1
    . have Y:∀t,F t->F (dY t):=λt r=>h.not_of u c1 z r;exact ⟨h.Df Y B C,Y⟩
    . have d0:ak e.2 (2^e.1 - 1)=1:=by have:=aO e.2 (2^e.1 - 1);lia
      have d1:ak j.2 0=0:=by have:=aO j.2 0;lia
      have Z:=h.Jr D I d0;have p:=h.Jr u d1 z;rw[acT] at Z;rw[tab0] at p;exact ⟨⟨p,Z⟩,h.XM p Z m4 S⟩
 obtain ⟨⟨p,Z⟩,Y⟩:=base;obtain ⟨g5,O,P⟩:=U;obtain ⟨H,q,R,hc⟩:=h.odd p Z O P;have o:=Fam.and Y q R hc;have i:=h.x;have l:=h.y;have v:=by have:=Y _ i;rwa [show dY 10=5 by decide] at this
 have E:=by have:=Y _ l;rwa [show dY 12=3 by decide] at this
 have f8:=by have:=o _ _ i l;rwa [show uH 10 12=8 by decide] at this
 have f2:=by have:=o _ _ i E;rwa [show uH 10 3=2 by decide] at this
 have Q:=by have:=o _ _ v l;rwa [show uH 5 12=4 by decide] at this
 have f1:=by have:=o _ _ v E;rwa [show uH 5 3=1 by decide] at this
 have L:=by have:=Y _ f8;rwa [show dY 8=7 by decide] at this
 have f13:=by have:=Y _ f2;rwa [show dY 2=13 by decide] at this
 have M:=by have:=Y _ Q;rwa [show dY 4=11 by decide] at this
 have s:=by have:=Y _ f1;rwa [show dY 1=14 by decide] at this
 have f6:=by have:=o _ _ L s;rwa [show uH 7 14=6 by decide] at this
 have f9:=by have:=Y _ f6;rwa [show dY 6=9 by decide] at this
 intro n hn';have:n=0\/n=1\/n=2\/n=3\/n=4\/n=5\/n=6\/n=7\/n=8\/n=9\/n=10\/n=11\/n=12\/n=13\/n=14\/n=15:=by lia
 rcases this with rfl | rfl | rfl | rfl | rfl | rfl | rfl | rfl | rfl | rfl | rfl | rfl | rfl | rfl | rfl | rfl <;> assumption
end
inductive pQ (n:Nat):ab->(Nat->Int)->Nat->Nat->Prop
 | inp {i:Nat} (hi:i<n):pQ n (.int (i:Nat)) (λr=>ak (r:Nat) (i:Nat)) 0 0
 | not {d:ab}{v:Nat->Int}{w k:Nat} (h:pQ n d v w k):pQ n (dT 1 1 [d]) (λr=>1 - v r) (w+3) (k+1)
 | vK {d e:ab}{v u:Nat->Int}{w x k l:Nat} (h:pQ n d v w k) (h':pQ n e u x l):pQ n (dT 2 7 [d,e]) (λr=>1 - v r*u r) (w+x+16) (max k l+1)
noncomputable def wt(s:aD):Nat:=if s.m=1 then 3 else 16
noncomputable def stW(ss:List aD):Nat:=(ss.map wt).sum
noncomputable def NNs(ss:List aD):Prop:=∀s∈ss,(s.m=1/\s.b=1)\/(s.m=2/\s.b=7)
variable {a:List aD}
theorem NNs.app(h:NNs a)(Y:NNs ss):NNs (a++ss):=λs Z=>(cf.mp Z).elim (h s) (Y s)
theorem uN{b:List aD}:stW (a++b)=stW a+stW b:=by unfold stW;rw[aS,n0]
theorem pQ.v01{d:ab}{v:Nat->Int}(h:pQ j d v w W):∀r,v r=0\/v r=1:=by
 induction h with
 | inp i=>exact λr=>aO _ _
 | not h Z=>exact λr=>by rcases Z r with z | z <;> simp only[z] <;> decide
 | vK h l Y e=>exact λr=>by rcases Y r with z | z <;> rcases e r with y | y <;> simp only[z,y] <;> decide
theorem Zd(h:x=0\/x=1):ak 1 (bf [x])=1 - x:=by
 rcases h with rfl | rfl <;> decide
theorem XJ{y:Int}(h:x=0\/x=1)(Y:y=0\/y=1):ak 7 (bf [x,y])=1 - x*y:=by
 rcases h with rfl | rfl <;> rcases Y with rfl | rfl <;> decide
theorem pQ.ok{d:ab}{v:Nat->Int}(h:pQ j d v w W):∀K,W<=K->gQ j K d/\(∀r,xG r K d=v r)/\∀x4,∃more,(dD j K x4 d).1=x4++more/\NNs more/\stW more<=w:=by
 induction h with
 | inp Q=>exact λK _=>⟨gQ.inp Q,λr=>n8,λx4=>⟨[],by rw[Am,cK],(λs Y=>by cases Y),ax _⟩⟩
 | @not d v w W h M=>
  intro K I;obtain ⟨K,rfl⟩:∃p,K=p+1:=⟨K - 1,by lia⟩;obtain ⟨Z,q,z⟩:=M K (by lia);refine ⟨.inr ⟨1,1,[d],by decide,by decide,by decide,rfl,rfl,λe P=>by rw[ay.mp P];exact Z⟩,λr=>?_,λx4=>?_⟩
  . rw[pI,a7,ew,q r];exact Zd (h.v01 r)
  . obtain ⟨more,e,o,J⟩:=z x4;rw[sU,show fK (dD j K) x4 [d]=((dD j K x4 d).1,[(dD j K x4 d).2]) from rfl,e];exact ⟨more++[⟨1,1,[(dD j K x4 d).2]⟩],da _ _ _,o.app λs Y=>by rw[ay.mp Y];exact .inl ⟨rfl,rfl⟩,by rw[uN];show stW more+3<=_;lia⟩
 | @vK d e v u w x W l h R i U=>
  intro K I;obtain ⟨K,rfl⟩:∃p,K=p+1:=⟨K - 1,by lia⟩;obtain ⟨Z,q,z⟩:=i K (by lia);obtain ⟨S,H,L⟩:=U K (by lia);refine ⟨.inr ⟨2,7,[d,e],by decide,by decide,by decide,rfl,rfl,λf hf=>?_⟩,λr=>?_,λx4=>?_⟩
  . rcases bE.mp hf with rfl | hf
    . exact Z
    . rw[ay.mp hf];exact S
  . rw[pI,a7,a7,ew,q r,H r];exact XJ (h.v01 r) (R.v01 r)
  . obtain ⟨C,D,o,J⟩:=z x4;obtain ⟨B,O,E,h4⟩:=L (dD j K x4 d).1;rw[sU,show fK (dD j K) x4 [d,e]=((dD j K (dD j K x4 d).1 e).1,[(dD j K x4 d).2,(dD j K (dD j K x4 d).1 e).2]) from rfl,O,D];exact ⟨C++(B++[⟨2,7,_⟩]),by rw[da,da],o.app (E.app λs Y=>by rw[ay.mp Y];exact .inr ⟨rfl,rfl⟩),by rw[uN,uN];show stW C+(stW B+16)<=_;lia⟩
noncomputable def gH(n:Nat)(d:ab)(u:Nat->Int)(x l:Nat):Prop:=∃v w k,pQ n d v w k/\(∀r,v r=u r)/\w<=x/\k<=l
theorem gH.inp{n i:Nat}(Y:i<n):gH n (.int (i:Nat)) (λr=>ak (r:Nat) (i:Nat)) 0 0:=⟨_,_,_,.inp Y,λ_=>rfl,ax _,ax _⟩
variable {u:Nat->Int}
theorem gH.ext{d:ab}{v:Nat->Int}(h:gH j d u W i)(e:∀r,u r=v r)(o:W<=p)(q:i<=m):gH j d v p m:=by
 obtain ⟨Y,w,k,l,Z,z,s⟩:=h;exact ⟨Y,w,k,l,λr=>(Z r).trans (e r),by lia,by lia⟩
theorem gH.vK{n:Nat}{d e:ab}{u v:Nat->Int}{x y l m:Nat}(h:gH n d u x l)(Y:gH n e v y m):gH n (dT 2 7 [d,e]) (λr=>1 - u r*v r) (x+y+16) (max l m+1):=by
 obtain ⟨E,s,B,i,Z,D,H⟩:=h;obtain ⟨o,C,p,b1,j,q,z⟩:=Y;exact ⟨_,_,_,.vK i b1,λr=>by simp only[Z r,j r],by lia,by lia⟩
theorem kZ{d:ab}(h:gH j d u W p):∃e,cH [d]= .ok e/\gH j e (λr=>1 - u r) (W+3) (p+1):=by
 obtain ⟨v,w,k,q,Z,I,H⟩:=h;have ne:∀{d:ab},cH [d]= .ok (dT 1 1 [d])->pQ j d v w k->∃e,cH [d]= .ok e/\gH j e (λr=>1 - u r) (W+3) (p+1):=λe a=>⟨_,e,_,_,_,.not a,λr=>by simp only[Z r],by lia,by lia⟩
 cases q with
 | @inp i l=>
  refine ne ?_ (.inp l);unfold cH;ext;rw[uU];ext;rfl
 | @not d Y o s a=>
  refine ⟨d,?_,Y,o,s,a,λr=>?_,by lia,by lia⟩
  . unfold cH dT;ext;rw[oh];ext;rw[show eqD (dG 1 1) gk= .ok (.bool true) by unfold gk;exact Ke];ext
  . have:1 - Y r=u r:=Z r;show Y r=1 - u r;lia
 | @vK d e J z C E D B a b=>
  refine ne ?_ (.vK a b);unfold cH dT;ext;rw[oh];ext;rw[show eqD (dG 2 7) gk= .ok (.bool false) by unfold gk;exact Ke];ext;rfl
theorem UW:bx j (r % 2^j)=bx j r:=by
 have h:=uF (xs:=bx j r) λx Y=>j7 Y;rwa [bF,um,cc] at h
theorem Hx(Y:b=0\/b=1)(h:((r / 2^j % 2:Nat):Int)=b):ak (d9 j x j b) ((r % 2^j:Nat):Int)=ak x ((r % 2^(j+1):Nat):Int):=by
 rw[aah Y (w9 _ (sL (by decide))),UW];have e:kW j b (bx j r)=bx (j+1) r:=by
  rw[kW,uv,h,fA (by rw[bF];exact ax _),vr (by rw[bF];exact ax _)]
 rw[e,um]
theorem Iw:ak (r:Nat) (j:Nat)=((r / 2^j % 2:Nat):Int):=by
 rw[ak,cc,Int.natCast_emod,Int.natCast_ediv,k8];rfl
theorem O4{r:Int}:ak 0 r=0:=by rw[ak,wo];rfl
noncomputable def wN:Nat->Nat
 | 0=>0
 | 1=>9
 | n+2=>2*wN (n+1)+51
theorem ad6:∀n,wN n<=wN (n+1)
 | 0=>by decide
 | n+1=>by rw[show wN (n+1+1)=2*wN (n+1)+51 from rfl];lia
theorem Ze{n:Nat}{p:Prop}[Decidable p](Y:j<=3)(h:n=0->¬ p):(if p then j+wN n+16 else j+3)+3<=wN (n+1):=by
 match n with
 | 0=>
  rw[if_neg (h rfl)];show j+3+3<=9;lia
 | n+1=>
  rw[show wN (n+1+1)=2*wN (n+1)+51 from rfl];split <;> lia
theorem aax{n:Nat}{p q:Prop}[Decidable p][Decidable q](h:n≠0):(if p then 0+3+wN n+16 else 0+3+3)+(if q then 0+wN n+16 else 0+3)+16<=wN (n+1):=by
 match n with
 | 0=>exact absurd rfl h
 | n+1=>
  rw[show wN (n+1+1)=2*wN (n+1)+51 from rfl];split <;> split <;> lia
theorem Us{there:ab}(B:W<=3)(h0:0<=x)(C:x<2^2^W)(l:gH j there u p m)
 (z:0<x->x<2^2^W - 1->∃d,cF w [dG W x]= .ok d/\gH j d (λr=>ak x ((r % 2^W:Nat):Int)) (wN W) (3*W)) :
 ∃ds,sG (cF w) [dG W x,there]= .ok (.list ds)/\((x=0/\ds=[])\/(x≠0/\∃d,ds=[d]/\gH j d (λr=>1 - u r*ak x ((r % 2^W:Nat):Int)) (if x<2^2^W - 1 then p+wN W+16 else p+3) (max m (3*W)+1))):=by
 unfold sG
 by_cases Y:x=0
 . subst Y;refine ⟨[],?_,.inl ⟨rfl,rfl⟩⟩;ext
 . by_cases Z:x<2^2^W - 1
   . obtain ⟨d,e,hd⟩:=z (by lia) Z;refine ⟨[dT 2 7 [there,d]],?_,.inr ⟨Y,_,rfl,?_⟩⟩
     . ext;rw[decide_eq_false Y];ext;rw[gU (by lia)];ext;rw[decide_eq_false (by lia)];ext;rw[e];ext;rfl
     . rw[if_pos Z];exact (l.vK hd).ext (λ_=>rfl) (ax _) (ax _)
   . have i:x=2^2^W - 1:=by lia
     obtain ⟨o,s,v⟩:=kZ l;refine ⟨[o],?_,.inr ⟨Y,_,rfl,?_⟩⟩
     . ext;rw[decide_eq_false Y];ext;rw[gU (by lia)];ext;rw[decide_eq_true i];ext;rw[s];ext
     . rw[if_neg Z];refine v.ext (λr=>?_) (ax _) (by lia);have:ak x ((r % 2^W:Nat):Int)=1:=by
        rw[i];have q:(2:Int)^2^W - 1=tab (2^W) λ_=>1:=by rw[mG,si]
        rw[q];exact iw (λ_=>.inr rfl) (w9 _ (sL (by decide)))
       rw[this,si]
theorem rM:cF (j+1) ds=fnR 5 (aJ (aZ 1 (ao iQ (ao xt (aj 0) (eC (.int 0))) (eC (.int 1))))
 (aJ (aZ 2 (aL jt [(aj 0),(aj 1),(eC (.int 0))]))
 (aJ (aZ 3 (aL jt [(aj 0),(aj 1),(eC (.int 1))]))
 (aJ (sIf (ao eqD (aj 2) (aj 3)) (bz (aL (cF j) [(aj 2)])) cu)
 (aJ (aZ 4 (ao cG (aL (sG (cF j)) [(aj 2),(aL cH [(aj 1)])]) (aL (sG (cF j)) [(aj 3),(aj 1)])))
 (aJ (sIf (ao eqD (eFn fG [(aj 4)]) (eC (.int 1))) (bz (aL cH [(ao xt (aj 4) (eC (.int 0)))])) cu)
 (bz (bK [(eC dO),(eFn gw [(aj 4)])])))))))) ds:=rfl
theorem Dw{N:Nat}:∀(n fu:Nat) (t:Int),n<=4->n<=N->n<=fu->0<t->t<2^2^n - 1->∃d,cF fu [dG n t]= .ok d/\gH N d (λr=>ak t ((r % 2^n:Nat):Int)) (wN n) (3*n)
 | 0,fu,t,_,_,_,h0,D=>by
  have D:=D;lia
 | n+1,0,t,_,_,M,_,_=>by lia
 | n+1,fu+1,t,hn,hN,M,h0,D=>by
  have lt:=λw=>acx n t n w;have nn:=λw=>Qw n t n w;have L:∀r:Nat,ak (r:Nat) (n:Nat)=0\/ak (r:Nat) (n:Nat)=1:=λr=>aO _ _;have p:∀r:Nat,ak (r:Nat) (n:Nat)=0->ak t ((r % 2^(n+1):Nat):Int)=ak (d9 n t n 0) ((r % 2^n:Nat):Int):=λr h=>(Hx (.inl rfl) (by rw[<- Iw];exact h)).symm;have s:∀r:Nat,ak (r:Nat) (n:Nat)=1->ak t ((r % 2^(n+1):Nat):Int)=ak (d9 n t n 1) ((r % 2^n:Nat):Int):=λr h=>(Hx (.inr rfl) (by rw[<- Iw];exact h)).symm;rw[rM];have I:=Bm (b:=t) (j:=n) (by lia) (ax _) (.inl rfl);have e2:=Bm (b:=t) (j:=n) (by lia) (ax _) (.inr rfl);have n1:((n+1:Nat):Int) - 1=((n:Nat):Int):=by lia
  by_cases Y:d9 n t n 0=d9 n t n 1
  . have u:∀r:Nat,ak t ((r % 2^(n+1):Nat):Int)=ak (d9 n t n 0) ((r % 2^n:Nat):Int):=λr=>by
     rcases L r with h | h
     . exact p r h
     . rw[s r h,Y]
    have B:∀v:Int,(∀r:Nat,ak (d9 n t n 0) ((r % 2^n:Nat):Int)=v)->t=(2^2^(n+1) - 1)*v:=λv hv=>by
     have e0:tab (2^(n+1)) (λr=>ak t (r:Nat))=t:=adK (λr=>aO _ _) (by lia) (by lia) λr _=>rfl;rw[<- e0,<- mG];exact dW λr hr=>by
      have:=u r;rw[t9 hr] at this;rw[this,hv r]
    have E:d9 n t n 0≠0:=λz=>by
     have:=B 0 λr=>by rw[z];rw[ak,wo];rfl
     lia
    have a1:d9 n t n 0<2^2^n - 1:=by
     have:=lt 0;refine fx λz=>?_;have H:d9 n t n 0=2^2^n - 1:=by lia
     have:=B 1 λr=>by
      have I:(2:Int)^2^n - 1=tab (2^n) λ_=>1:=by rw[mG,si]
      rw[H,I];exact iw (λ_=>.inr rfl) (w9 _ (sL (by decide)))
     lia
    obtain ⟨d,e,hd⟩:=Dw (N:=N) n fu (d9 n t n 0) (by lia) (by lia) (by lia) (by have:=nn 0;lia) a1;refine ⟨d,?_,hd.ext (λr=>(u r).symm) ?_ (by lia)⟩
    . ext;rw[n1,I];ext;rw[e2];ext;rw[decide_eq_true Y];ext;rw[e];rfl
    . exact ad6 n
  . obtain ⟨o,eo,ho⟩:=kZ (gH.inp (n:=N) (i:=n) (by lia));have ih:∀w:Int,0<d9 n t n w->d9 n t n w<2^2^n - 1->∃d,cF fu [dG n (d9 n t n w)]= .ok d/\gH N d (λr=>ak (d9 n t n w) ((r % 2^n:Nat):Int)) (wN n) (3*n):=λw P Q=>Dw n fu _ (by lia) (by lia) (by lia) P Q;obtain ⟨Z,ea,ha⟩:=Us (by lia) (nn 0) (lt 0) ho (ih 0);obtain ⟨l,eb,S⟩:=Us (by lia) (nn 1) (lt 1) (gH.inp (i:=n) (by lia)) (ih 1);have go:∀{q:ab},(Z.length+l.length=1->cH [(Z++l).getD 0 .none]= .ok q)->(Z.length+l.length≠1->q= .tuple [dO,.tuple (Z++l)])->cF (fu+1) [dG (n+1) t]= .ok q:=λ{q} P Q=>by
     have hl:(Z++l).length<=2:=by
      rcases ha with ⟨_,rfl⟩ | ⟨_,d,rfl,_⟩ <;> rcases S with ⟨_,rfl⟩ | ⟨_,U,rfl,_⟩ <;> simp
     rw[rM];ext;rw[n1,I];ext;rw[e2];ext;rw[decide_eq_false Y];ext;rw[eo];ext;rw[ea];ext;rw[eb];ext;rw[tu (kA (xC (by rw[<- ar];lia)))];ext
     by_cases D:Z.length+l.length=1
     . rw[decide_eq_true (by rw[ar];lia)];ext;have hx:(Z++l)[0]?=some ((Z++l).getD 0 .none):=by
        rw[ae,ai (by rw[ar];lia)];rfl
       rw[show xt (.list (Z++l)) (.int 0)= .ok ((Z++l).getD 0 .none) from iT (i:=0) hx];ext;rw[P D];rfl
     . rw[decide_eq_false (by rw[ar];lia),Q D];ext
    rw[<- rM];have H:n=0->∀w,d9 n t n w≠0->d9 n t n w=1/\¬ d9 n t n w<2^2^n - 1:=λz w hw=>by
     subst z;have D:d9 0 t 0 w<2:=lt w;have h2:=nn w;have h3:d9 0 t 0 w=1:=by lia
     exact ⟨h3,by rw[h3];decide⟩
    have hw:∀(w:Int) (J:Nat),J<=3->d9 n t n w≠0->(if d9 n t n w<2^2^n - 1 then J+wN n+16 else J+3)+3<=wN (n+1):=λw J hwy h=>Ze hwy λz=>(H z w h).2;rcases ha with ⟨E,rfl⟩ | ⟨E,d,rfl,hd⟩
    . rcases S with ⟨b0,rfl⟩ | ⟨b0,U,rfl,C⟩
      . exact absurd (E.trans b0.symm) Y
      . obtain ⟨q,R,O⟩:=kZ C;refine ⟨q,go (λ_=>R) (λz=>absurd rfl z),O.ext (λr=>?_) (hw 1 0 (by lia) b0) (by lia)⟩;rcases L r with h | h
        . rw[p r h,E,h,O4];lia
        . rw[s r h,h];have:=aO (d9 n t n 1) ((r % 2^n:Nat):Int);lia
    . rcases S with ⟨b0,rfl⟩ | ⟨b0,U,rfl,C⟩
      . obtain ⟨q,R,O⟩:=kZ hd;refine ⟨q,go (λ_=>R) (λz=>absurd rfl z),O.ext (λr=>?_) (hw 0 3 (by lia) E) (by lia)⟩;rcases L r with h | h
        . rw[p r h,h];have:=aO (d9 n t n 0) ((r % 2^n:Nat):Int);lia
        . rw[s r h,b0,h,O4];lia
      . refine ⟨dT 2 7 [d,U],go (λz=>by cases z) (λ_=>rfl),(hd.vK C).ext (λr=>?_) ?_ (by lia)⟩
        . have y0:=aO (d9 n t n 0) ((r % 2^n:Nat):Int);have y1:=aO (d9 n t n 1) ((r % 2^n:Nat):Int);rcases L r with h | h
          . rw[p r h,h];rcases y0 with z | z <;> rcases y1 with z' | z' <;> rw[z,z'] <;> decide
          . rw[s r h,h];rcases y0 with z | z <;> rcases y1 with z' | z' <;> rw[z,z'] <;> decide
        . exact aax λz=>Y ((H z 0 E).1.trans (H z 1 b0).1.symm)
theorem Mh(B:j<=4)(C:1<=j)(h0:0<=x)(I:x<2^2^j):∃d,oX [dG j x]= .ok d/\gH j d (λr=>ak x ((r % 2^j:Nat):Int)) 429 12:=by
 have u:gH j (.int ((0:Nat):Int)) (λr=>ak (r:Nat) ((0:Nat):Int)) 0 0:=gH.inp (by lia);obtain ⟨o,Y,D⟩:=kZ u;have Y:cH [.int 0]= .ok o:=Y;have i:=u.vK D;have Z:∀r:Nat,1 - ak (r:Nat) ((0:Nat):Int)*(1 - ak (r:Nat) ((0:Nat):Int))=1:=λr=>by
  rcases aO r ((0:Nat):Int) with z | z <;> rw[z] <;> decide
 unfold oX
 by_cases l:x=2^2^j - 1
 . refine ⟨dT 2 7 [.int 0,o],?_,i.ext (λr=>?_) (by decide) (by decide)⟩
   . ext;rw[Y];ext;rw[gU (by lia)];ext;rw[decide_eq_true l];ext;rfl
   . rw[Z r,l];have v:(2:Int)^2^j - 1=tab (2^j) λ_=>1:=by rw[mG,si]
     rw[v];exact (iw (λ_=>.inr rfl) (w9 _ (sL (by decide)))).symm
 . by_cases p:x=0
   . obtain ⟨q,s,E⟩:=kZ i;have s:cH [.tuple [dO,.tuple [.int 0,o]]]= .ok q:=s;refine ⟨q,?_,E.ext (λr=>?_) (by decide) (by decide)⟩
     . ext;rw[Y];ext;rw[gU (by lia)];ext;rw[decide_eq_false l];ext;rw[decide_eq_true p];ext;rw[s];rfl
     . rw[Z r,p,O4];decide
   . obtain ⟨d,e,hd⟩:=Dw j 8 x B (ax _) (by lia) (by lia) (by lia);have H:wN j<=429:=by
      rcases (by lia:j=1\/j=2\/j=3\/j=4) with rfl | rfl | rfl | rfl <;> decide
     refine ⟨d,?_,hd.ext (λ_=>rfl) H (by lia)⟩;ext;rw[Y];ext;rw[gU (by lia)];ext;rw[decide_eq_false l];ext;rw[decide_eq_false p];ext;rw[e];rfl
structure gF (gs:A9) (n:Nat) (t:Int) (k:Nat) (ss:List aD) (o:Nat):Prop where
 ok:aU n ss
 lt:o<n+ss.length
 gin:∀s∈ss,(s.m,s.b)∈gs
 val:∀r,r<2^n->(bY n ss r).getD o 0=ak t (r:Nat)
 len:ss.length<=k
noncomputable def Ae(ss' ss:List aD):Prop:=∀s∈ss',∃t∈ss,s.m=t.m/\s.b=t.b
theorem Dv{n:Nat}{U:B3}{ss:List aD}:∀i,i<=ss.length->Ae (gf n U ss i).1 ss
 | 0,_=>λs Y=>by cases Y
 | i+1,e=>by
  have Z:=Dv (n:=n) (U:=U) (ss:=ss) i (by lia)
  by_cases h:((n+i:Nat):Int)∈U
  . rw[yZ h];intro s Y;rcases cf.mp Y with z | z
    . exact Z s z
    . rw[ay.mp z];refine ⟨ss.getD i ⟨0,0,[]⟩,?_,rfl,rfl⟩;rw[ae,ai (show i<ss.length by lia)];exact eL _
  . rw[vA h];exact Z
theorem Zx{n:Nat}(ss:List aD):Ae (eE n ss).1 ss:=by
 induction ss using snoc_ind with
 | h0=>intro s Z;cases Z
 | h ss s l=>
  rw[tW];unfold zZ;intro x Y;have old:∀y∈(eE n ss).1,∃t∈ss++[s],y.m=t.m/\y.b=t.b:=λy j=>by
   obtain ⟨t,i,e⟩:=l y j;exact ⟨t,dy _ i,e⟩
  revert Y;split
  . exact λY=>old x Y
  . intro Y;rcases cf.mp Y with z | z
    . exact old x z
    . rw[ay.mp z];exact ⟨s,ck _ bg,rfl,rfl⟩
theorem Ae.trans{c:List aD}(h:Ae a ss)(k:Ae ss c):Ae a c:=λs Z=>by
 obtain ⟨t,i,Y,j⟩:=h s Z;obtain ⟨u,e,o,l⟩:=k t i;exact ⟨u,e,Y.trans o,j.trans l⟩
theorem R6{n:Nat}(hs:aU n ss)(H:n<=100)(M:ss.length<=5000)(D:o<n+ss.length) :
 ∃(Z:List aD) (o':Nat),nZ [dC n ss o]= .ok (dC n Z o')/\Alike n ss o Z o'/\Z.length<=ss.length/\Ae Z ss:=by
 obtain ⟨l,O,I,P⟩:=zF ss hs;have C:∀{r:Type} (p:Nat->Int->List r->r) (z:r) (base:List r),base.length=n->(cN p z base (eE n ss).1).getD ((eE n ss).2.getD o 0) z=(cN p z base ss).getD o z:=λp z base q=>Tn q ss hs o D;have E:=Zx (n:=n) ss;have Y:=P _ (zg (by rw[O];exact D));have B:=Ul hs H M D;generalize (eE n ss).2.getD o 0=o1 at C Y B;generalize (eE n ss).1=s1 at l I C E Y B;have Q:=KR l H (by lia) Y;have J:Jz n (dz n s1 o1 s1.length) s1:=λj s e h w R=>.inr (uA l e h w R);have i:=vQ (n:=n) (ss:=s1) (o:=o1) s1.length;have u:=qL l J s1.length (ax _);obtain ⟨v,ev,L⟩:=u.has o1 Y (.inr i);refine ⟨(gf n (dz n s1 o1 s1.length) s1 s1.length).1,v,?_,⟨u.st,L,λp z base q=>?_⟩,cS u.len I,(Dv s1.length (ax _)).trans E⟩
 . unfold nZ;ext;rw[B];ext;rw[Q,ev];ext;rfl
 . rw[<- C p z base q];exact xn q l J _ (ax _) o1 v Y (.inr i) ev
theorem pD:bY j ss r=cN (λ_ b xs=>ak b (bf xs)) 0 (bx j r) ss:=rfl
theorem Alike.vals(h:Alike j ss o a W):(bY j a r).getD W 0=(bY j ss r).getD o 0:=by
 rw[pD,pD];exact h.same _ 0 _ (bF j r)
theorem gF.shared(h:gF gs j x W ss o)(i:j<=100)(B:W<=5000):∃Y o',nZ [dC j ss o]= .ok (dC j Y o')/\gF gs j x W Y o':=by
 obtain ⟨Y,o',e,a,l,g⟩:=R6 h.ok i (by have:=h.len;lia) h.lt;refine ⟨Y,o',e,a.ok,a.lt,λs p=>?_,λr z=>by rw[a.vals];exact h.val r z,cS l h.len⟩;obtain ⟨u,q,Z,v⟩:=g s p;rw[Z,v];exact h.gin u q
theorem gF.unused{n:Nat}(h:gF gs n b W ss o)(q:n<=100)(H:W<=5000):∃Z o',fL [dC n ss o]= .ok (dC n Z o')/\gF gs n b W Z o':=by
 have i:Jz n (dz n ss o ss.length) ss:=λj s e hh w E=>.inr (uA h.ok e hh w E);have Y:=vQ (n:=n) (ss:=ss) (o:=o) ss.length;have u:=qL h.ok i ss.length (ax _);obtain ⟨v,ev,p⟩:=u.has o h.lt (.inr Y);have e:=KR h.ok q (by have:=h.len;lia) h.lt;rw[ev] at e;refine ⟨_,v,e,u.st,p,λs z=>?_,λr D=>?_,cS u.len h.len⟩
 . obtain ⟨x,B,l,C⟩:=Dv ss.length (ax _) s z;rw[l,C];exact h.gin x B
 . rw[<- h.val r D,pD,pD];exact xn (bF n r) h.ok i _ (ax _) o v h.lt (.inr Y) ev
theorem Ab:bx m r=(List.range m).map λj=>ak (r:Nat) (j:Nat):=by
 refine bt λj _=>?_;rw[ak,cc,Int.natCast_emod,Int.natCast_ediv,k8];rfl
section
variable  {n:Nat}
noncomputable def iR(L:A6)(t:Int):Nat:=(aQ L).idxOf t
noncomputable def uX(L:A6)(q:Int×Way):Option aD:=q.2.g.map λg=>⟨g.1,g.2,q.2.ts.map (iR L)⟩
noncomputable def cY(L:A6)(i:Nat):List aD:=(L.take i).filterMap (uX L)
theorem pos_at(nd:(aQ L).Nodup)(h:L[i]?=some q):iR L q.1=i:=by
 have j:=(aI.mp h).1;have Z:(aQ L)[i]?=some q.1:=by rw[aQ,a8,h];rfl
 have Y:=dA Z;have e:(aQ L)[iR L q.1]?=some q.1:=by
  rw[iR,ai (rS Y),List.getElem_idxOf]
 exact (List.getElem?_inj (rS Y) nd).mp (e.trans Z.symm)
theorem Ci(nd:(aQ L).Nodup){p:Int}(h:p∈aQ (L.take i)):iR L p<i/\∃q,L[iR L p]?=some q/\q.1=p:=by
 obtain ⟨q,Z,rfl⟩:=bo.mp h;obtain ⟨j,l,e⟩:=ip.mp Z;rw[cp] at l;have Y:L[j]?=some q:=by
  rw[ai (by lia)];rw[List.getElem_take] at e;rw[e]
 rw[pos_at nd Y];exact ⟨by lia,q,Y,rfl⟩
theorem uC(h:L[i]?=some q):cY L (i+1)=cY L i++(match uX L q with | some s=>[s] | none=>[]):=by
 rw[cY,take_snoc h,List.filterMap_append];congr 1;rw[kx,List.filterMap_nil];cases uX L q <;> rfl
structure ae9 (gs:A9) (n:Nat) (L:A6) (i:Nat):Prop where
 len:(cY L i).length=i - n
 ok:aU n (cY L i)
 gin:∀s∈cY L i,(s.m,s.b)∈gs
 val:n<=i->∀j q,j<i->L[j]?=some q->∀r,r<2^n->(bY n (cY L i) r).getD j 0=ak q.1 (r:Nat)
theorem We(I:fM gs n L [])(F:p8 n L [])(R:∀g∈gs,g.1<=4/\0<=g.2/\g.2<2^2^g.1):∀i,i<=L.length->ae9 gs n L i
 | 0,_=>⟨by rw[cY,kN];show 0=0 - n;lia,by exact aU.nil,(λs v=>by cases v),λ_ j q U _=>by lia⟩
 | i+1,hi=>by
  have nd:=by have:=I.nd;rwa [show aQ L++aQ []=aQ L from cK _] at this
  have C:=We I F R i (by lia);obtain ⟨q,B⟩:∃q,L[i]?=some q:=⟨_,ai (by lia)⟩;rcases I.vf i q B with ⟨Q,hb⟩ | ⟨g,l,O,h3,S,h5,h6⟩
  . obtain ⟨hin,hu⟩:=aeA I F B hb;have e:cY L (i+1)=cY L i:=by
     rw[uC B];rw[uX,Q];exact cK _
    have hl:=C.len;have h0:cY L i=[]:=kb.mp (by lia);rw[h0] at e;refine ⟨by rw[e];show 0=_;lia,by rw[e];exact aU.nil,λs v=>(by rw[e] at v;cases v),λhn j q' U Y r D=>?_⟩;rw[e];show (bx n r).getD j 0=_;have u:j<n:=by lia
    have H:q'.1=g8 n j:=by
     obtain ⟨J,_⟩:=tV F;have l:(L.take n)[j]?=some q':=by rw[ja u];exact Y
     rw[J] at l;unfold inW cQ at l;rw[a8,a8,dQ u] at l;cases l;rfl
    rw[H];rw[g8,iw (λ_=>aO _ _) D,Ab,ae,a8,dQ u];rfl
  . obtain ⟨g1,g2,g3⟩:=R g l;have E:n<=i:=by
     refine ib λz=>?_;obtain ⟨J,_⟩:=tV F;have Z:(L.take n)[i]?=some q:=by rw[ja z];exact B
     rw[J] at Z;unfold inW at Z;rw[a8] at Z;obtain ⟨x,hx,e2⟩:=kC.mp Z;have:q.2=fH:=by rw[<- e2]
     rw[this] at O;cases O
    have es:uX L q=some ⟨g.1,g.2,q.2.ts.map (iR L)⟩:=by rw[uX,O];rfl
    have e:cY L (i+1)=cY L i++[⟨g.1,g.2,q.2.ts.map (iR L)⟩]:=by rw[uC B,es]
    have hl:=C.len;have P:∀w∈q.2.ts.map (iR L),w<n+(cY L i).length:=λw Q=>by
     obtain ⟨p,M,rfl⟩:=bo.mp Q;have:=(Ci nd (S p M)).1;lia
    refine ⟨by rw[e,ar,b9];lia,by rw[e];exact C.ok.snoc ⟨g1,by rw[af];exact h3,P,g2,g3⟩,λs v=>?_,λ_ j q' U Y r D=>?_⟩
    . rw[e] at v;rcases cf.mp v with z | z
      . exact C.gin s z
      . rw[ay.mp z];exact l
    . rw[e,iB];unfold stepV;have hvl:=eU (n:=n) (ss:=cY L i) (r:=r)
      by_cases o:j<i
      . rw[t6 (by lia)];exact C.val E j q' o Y r D
      . have o:j=i:=by lia
        subst o;rw[B] at Y;cases Y;rw[ae,be (by lia),show j - (bY n (cY L j) r).length=0 by lia];show ak g.2 (bf ((q.2.ts.map (iR L)).map _))=_;rw[<- h5];rw[cz,iw (λ_=>aO _ _) D,cy];congr 2;refine bt λp M=>?_;obtain ⟨a1,q2,a2,a3⟩:=Ci nd (S p M);show (bY n (cY L j) r).getD (iR L p) 0=_;rw[C.val E _ q2 a1 a2 r D,a3]
theorem abW{f:Int->Nat}:uE [.dict (kvC ts f)]= .ok (.int (ts.length:Nat)):=by
 show x8.ok (ab.int ((kvC ts f).length:Nat))=_;rw[kvC,af]
theorem GK(I:fM gs n L [])(F:p8 n L [])(B:∀g∈gs,g.1<=4/\0<=g.2/\g.2<2^2^g.1)(hL:L.length<=1000)(S:n<=100)(O:b∈aQ L) :
 ∃ss o,iu [.dict (xA L),.int b,.int (n:Nat)]= .ok (dC n ss o)/\gF gs n b (L.length - n) ss o:=by
 have nd:=by have:=I.nd;rwa [show aQ L++aQ []=aQ L from cK _] at this
 have W:=We I F B L.length (ax _);obtain ⟨_,l⟩:=tV F;have v:b∈aQ (L.take L.length):=by rw[dn];exact O
 obtain ⟨p1,q,p2,Q⟩:=Ci nd v;have C:gF gs n b (L.length - n) (cY L L.length) (iR L b):=⟨W.ok,by rw[W.len];lia,W.gin,λr hr=>by rw[W.val l _ q p1 p2 r hr,Q],by rw[W.len];exact ax _⟩;obtain ⟨ss,o,e,hC⟩:=C.unused S (by lia);refine ⟨ss,o,?_,hC⟩;unfold iu;ext;rw[show ∀Γ,jy [] Γ = .ok (.dict (kvC [] (iR L))) from λ_=>rfl];ext;rw[show itI 0 [some (.dict (xA L)),some (.int b),some (.int n),some (.dict (kvC [] (iR L))),some (.list []),none,none]= .ok (L.map λq=>ab.tuple [.int q.1,wD q.2]) by
  show x8.ok ((xA L).map (λq=>ab.tuple [q.1,q.2]))=_;rw[xA,cy];rfl,x8.aP]
 refine bJ (λi=>[some (.dict (xA L)),some (.int b),some (.int n),some (.dict (kvC (aQ (L.take i)) (iR L))),some (.list ((cY L i).map aD.d)),none,none]) rfl (λi x U=>?_) ?_
 . obtain ⟨⟨u,w⟩,Y,rfl⟩:=cZ U;have hi:=(aI.mp Y).1;have D:(aQ (L.take i)).length=i:=by rw[aQ,af,cp];lia
   have E:iR L u=i:=pos_at nd Y;have j:u∉aQ (L.take i):=λz=>by have:=(Ci nd z).1;lia
   have Z:aQ (L.take (i+1))=aQ (L.take i)++[u]:=by rw[take_snoc Y];rw[aQ,aS];rfl
   show x8.bind (x8.bind (x8.ok ([some (.dict (xA L)),some (.int b),some (.int (n:Nat)),some (.dict (kvC (aQ (L.take i)) (iR L))),some (.list ((cY L i).map aD.d)),some (.int u),some (wD w)]:Ev)) _) _=_;rw[x8.aP,gm,ad1 (by
    ext;rw[abW,D,E]) rfl rfl j (by lia) (of_decide_eq_true rfl)]
   rw[<- Z];have P:=uC Y;rcases I.vf i (u,w) Y with ⟨J,hb⟩ | ⟨g,h1,s,M,H,h5,h6⟩
   . have J:=J;subst J;rw[show cY L (i+1)=cY L i by rw[P];exact cK _];unfold wD fH gD;ext;rw[show Cm .none .none= .ok (.bool false) from rfl];ext
   . obtain ⟨wc,wg,wt⟩:=w;have s:=s;have M:wt.length=g.1:=M;have H:=H;subst s;have m4:=(B g h1).1;have hsl:=(We I F B i (by lia)).len;rw[show cY L (i+1)=cY L i++[⟨g.1,g.2,wt.map (iR L)⟩] by rw[P];rfl,aS];unfold wD gD;ext;rw[show Cm (xy g) .none= .ok (.bool true) from rfl];ext;rw[Cq (ns:=wt) (λp=>.int (iR L p:Nat)) ?_ (xC (by lia)) λp R=>?_]
     rotate_left
     . ext;rfl
     . ext;rw[Yt (by rw[Z];exact dy _ (H p R))]
     ext;rw[bB (xC (by lia))];ext;unfold aD.d dN;rw[cy];rfl
 . rw[af,dn];ext;rw[Yt O];ext;rw[show ab.tuple [.int (n:Nat),.tuple ((cY L L.length).map aD.d),.int (iR L b:Nat)]=dC n (cY L L.length) (iR L b) from rfl,e];ext
end
theorem N5{n:Nat}(C:gF gs m b j ss o)(I:aU n x4)(l:∀s∈x4,(s.m,s.b)∈gs)(hh:hs.length=m)(Y:∀x∈hs,x<n+x4.length) :
 aU n (x4++ss.map (mv m (n+x4.length) hs))/\(∀s∈x4++ss.map (mv m (n+x4.length) hs),(s.m,s.b)∈gs)/\ren m (n+x4.length) hs o<n+(x4++ss.map (mv m (n+x4.length) hs)).length/\(x4++ss.map (mv m (n+x4.length) hs)).length<=x4.length+j /\
 ∀r,(∀w,w<n+x4.length->(bY n (x4++ss.map (mv m (n+x4.length) hs)) r).getD w 0=(bY n x4 r).getD w 0)/\(bY n (x4++ss.map (mv m (n+x4.length) hs)) r).getD (ren m (n+x4.length) hs o) 0=ak b (bf (hs.map λw=>(bY n x4 r).getD w 0)):=by
 have L:=C.len;refine ⟨adY I C.ok hh Y,λs p=>?_,?_,by rw[ar,af];lia,λr=>?_⟩
 . rcases cf.mp p with z | z
   . exact l s z
   . obtain ⟨t,B,rfl⟩:=bo.mp z;exact C.gin t B
 . rw[ar,af,<- p9];exact adT hh Y C.lt
 . have Z:bQ (hs.map λw=>(bY n x4 r).getD w 0):=bQ.map λw _=>zu NB w;have i:=uF Z;rw[af,hh] at i;have v:=Z3 hh Y i ss C.ok;have q:=eU (n:=n) (ss:=x4) (r:=r);rw[v];refine ⟨λw M=>t6 (by lia),?_⟩;have key:=Oj hh (λx E=>by rw[q];exact Y x E) eU (λu H=>by rw[z8 H,i,getD_map (α:=Nat) (by lia)]) C.lt;rw[q] at key;have J:=jG (Z.nn);have D:(bf (hs.map λw=>(bY n x4 r).getD w 0)).toNat<2^m:=by
    have:=zA Z;rw[af,hh] at this;have e:((2^m:Nat):Int)=2^m:=by simp
    lia
   rw[key,C.val _ D,nk J]
structure Rpl (gs:A9) (n:Nat) (ss:List aD) (i:Nat) (x4:List aD) (names:B5):Prop where
 nl:names.length=n+i
 ok:aU n x4
 gin:∀s∈x4,(s.m,s.b)∈gs
 lt:∀x∈names,x<n+x4.length
 val:∀r w,w<n+i->(bY n x4 r).getD (names.getD w 0) 0=(bY n (ss.take i) r).getD w 0
 len:x4.length<=stW (ss.take i)
noncomputable def Eh(ssN:List aD)(oN:Nat)(ssA:List aD)(oA:Nat):ab:=.dict [(gk,dC 1 ssN oN),(dO,dC 2 ssA oA)]
variable {ssN ssA:List aD}
theorem kit_at(l:gF gs 1 1 3 ssN j)(p:gF gs 2 7 16 ssA W)(h:(s.m=1/\s.b=1)\/(s.m=2/\s.b=7)) :
 ∃ss o,gF gs s.m s.b (wt s) ss o/\∀(Γ:Ev) (m:ME) (i:Nat),m Γ = .ok (dG s.m s.b)->gv Γ i=some (Eh ssN j ssA W)->Kv i m Γ = .ok (dC s.m ss o):=by
 obtain ⟨m,b,ws⟩:=s;rcases h with ⟨Z,Y⟩ | ⟨Z,Y⟩
 . have Z:=Z;have Y:=Y;subst Z Y;exact ⟨ssN,j,l,λΓ m i e g=>by rw[Kv,e,x8.aP,g];rfl⟩
 . have Z:=Z;have Y:=Y;subst Z Y;exact ⟨ssA,W,p,λΓ m i e g=>by rw[Kv,e,x8.aP,g];rfl⟩
theorem aam(h:ss[i]?=some s):stW (ss.take (i+1))=stW (ss.take i)+wt s:=by
 rw[nu h,uN];rfl
theorem Q6{n:Nat}(hN:gF gs 1 1 3 ssN j)(S:gF gs 2 7 16 ssA W)(hs:aU n ss)(H:NNs ss)(Z:stW ss<=4000)(hn:n<=100)(ho:o<n+ss.length) :
 ∃x4 o',m9 [dC n ss o,Eh ssN j ssA W]= .ok (dC n x4 o')/\aU n x4/\(∀s∈x4,(s.m,s.b)∈gs)/\o'<n+x4.length/\x4.length<=stW ss/\∀r,(bY n x4 r).getD o' 0=(bY n ss r).getD o 0:=by
 have J:∀l:List aD,l.length<=stW l:=λl=>by
  induction l with
  | nil=>exact ax _
  | cons s l ih=>
   have:stW (s::l)=wt s+stW l:=by unfold stW;rw[a7,hY]
   have h3:3<=wt s:=by unfold wt;split <;> lia
   rw[a6];lia
 have L:=λi=>by
  have:=uN (a:=ss.take i) (b:=ss.drop i);rw[pS] at this;lia
 have hsl:=J ss
 suffices hG:Gives (m9 [dC n ss o,Eh ssN j ssA W]) λd=>∃x4 o',d=dC n x4 o'/\aU n x4/\(∀s∈x4,(s.m,s.b)∈gs)/\o'<n+x4.length/\x4.length<=stW ss/\∀r,(bY n x4 r).getD o' 0=(bY n ss r).getD o 0 by
  obtain ⟨d,e,x4,o',rfl,h⟩:=hG;exact ⟨x4,o',e,h⟩
 unfold m9;ext;rw[Qc];ext;rw[bB (by lia),cc,show upN n=dN (List.range n) from rfl];ext;rw[HY];ext;refine vO (λi I=>∃x4 Y,I=[some (dC n ss o),some (Eh ssN j ssA W),some (.int n),some (.list (dN Y)),some (.list (x4.map aD.d)),none]/\Rpl gs n ss i x4 Y) ⟨[],List.range n,rfl,?_⟩ (λi x I q E=>?_) λI E=>?_
 . refine ⟨by rw[cx];rfl,aU.nil,(λs hs=>by cases hs),λx q=>?_,λr w Z=>?_,iP _⟩
   . have:=cE.mp q;lia
   . rw[kN,show (List.range n).getD w 0=w by rw[ae,dQ (by lia)];rfl]
 . obtain ⟨x4,Y,rfl,R⟩:=E;obtain ⟨s,u,rfl⟩:=cZ q;have ok:=hs i s u;have hi:=(aI.mp u).1;have hal:=R.len;have p:=R.nl;have D:=L i;obtain ⟨ssK,U,v,B⟩:=kit_at hN S (H s (dA u));have hKl:=v.len;have P:wt s<=16:=by unfold wt;split <;> lia
   have hh:(s.ws.map λw=>Y.getD w 0).length=s.m:=by rw[af];exact ok.len
   have M:∀x∈s.ws.map λw=>Y.getD w 0,x<n+x4.length:=λx q=>by
    obtain ⟨w,Z,rfl⟩:=bo.mp q;exact R.lt _ (zg (by rw[p];exact ok.lt w Z))
   obtain ⟨a1,a2,a3,a4,a5⟩:=N5 v R.ok R.gin hh M;have Q:=p_add (n:=n) (x4:=x4) v.ok hh (by lia) (by lia) v.lt (by have:=ok.m4;lia);have m4:=ok.m4;have wl:=ok.len;show Goes (x8.bind (x8.bind (x8.ok ([some (dC n ss o),some (Eh ssN j ssA W),some (.int (n:Nat)),some (.list (dN Y)),some (.list (x4.map aD.d)),some s.d]:Ev)) _) _) _;rw[x8.aP];ext;rw[B _ _ 1 (by unfold aD.d;ext) rfl];ext;rw[jn (xs:=s.ws) (λw=>ab.int (w:Int)) (λw=>.int (Y.getD w 0:Nat)) ?_ (xC (by lia)) λw Z=>?_]
   rotate_left
   . ext;rfl
   . ext;rw[Bk (by rw[p];exact ok.lt w Z)]
   rw[show ab.list (s.ws.map λw=>ab.int (Y.getD w 0:Nat))= .list (dN (s.ws.map λw=>Y.getD w 0)) by rw[dN,cy];rfl];ext;rw[Q];ext;rw[bB (xC (by rw[rB];lia))];ext;refine ⟨_,Y++[ren s.m (n+x4.length) (s.ws.map λw=>Y.getD w 0) U],by rw[xR];rfl,⟨by rw[ar,b9];lia,a1,a2,λx q=>?_,λr w Z=>?_,by rw[aam u];lia⟩⟩
   . rcases cf.mp q with z | z
     . have:=R.lt x z;rw[ar];lia
     . rw[ay.mp z];exact a3
   . obtain ⟨b1,b2⟩:=a5 r;rw[nu u,iB];unfold stepV;have C:=eU (n:=n) (ss:=ss.take i) (r:=r);rw[cp] at C
     by_cases O:w<n+i
     . rw[HB (by lia),t6 (by lia),b1 _ (R.lt _ (zg (by lia)))];exact R.val r w O
     . have:w=n+i:=by lia
       subst this;rw[show n+i=Y.length by lia,Cz,b2,ae,be (by lia),show Y.length - (bY n (ss.take i) r).length=0 by lia,cy];congr 2;exact bt λw Z=>R.val r w (ok.lt w Z)
 . obtain ⟨x4,Y,rfl,R⟩:=E;rw[af] at R;have p:=R.nl;have D:=R.len;rw[dn] at D;ext;rw[Pz];ext;rw[Bk (by lia)];ext;refine ⟨x4,Y.getD o 0,rfl,R.ok,R.gin,R.lt _ (zg (by lia)),D,λr=>?_⟩;have:=R.val r o ho;rwa [dn] at this
inductive K5:Str->Nat->B3->Prop
 | low:K5 "low" 1 [0]
 | high:K5 "high" 1 [1]
 | turn:K5 "turn" 2 [1,2]
 | rise:K5 "rise" 2 [0,2,3]
 | even:K5 "even" 4 gG
variable {nm:Str}
theorem aaR(N:K5 nm w rs):Kh [.str nm]= .ok (Du w rs):=by
 cases N <;> rfl
noncomputable def jN(gs:A9)(w:Nat)(rs:B3):Bool:=gs.all λg=>(brk g.2 w rs g.1).isNone
theorem W6:jN gs w rs=true↔∀g∈gs,Kp g.2 w rs g.1:=by
 rw[jN,d3];exact ⟨λh g Y=>kh.mp (h g Y),λh g Y=>kh.mpr (h g Y)⟩
theorem K5.small(N:K5 nm w rs):rs.length<=8/\w<=100:=by cases N <;> decide
theorem Ri(N:K5 nm w rs)(Y:m<=4):rO [dG m b,Du w rs]= .ok (yh (brk b w rs m)):=
 Ve (by have:=N.small;lia) Y (cS (nv N.small.1 _) (cS (eI (by decide) Y) (by decide))) N.small.2
theorem Gq:(List.range gs.length).find? (λi=>!(brk (gs.getD i (0,0)).2 w rs (gs.getD i (0,0)).1).isNone)=none↔jN gs w rs=true:=by
 rw[mf];rw[jN,d3];constructor
 . intro h g Z;obtain ⟨i,Y,e⟩:=ip.mp Z;have:=h i (cE.mpr Y);rw[ae,ai Y] at this;simpa[e] using this
 . intro h i Y;have Y:=cE.mp Y;rw[ae,ai Y];have:=h gs[i] (eL Y);simp[this]
noncomputable def Ks5:List (Str×Nat×B3):=[("low",1,[0]),("high",1,[1]),("turn",2,[1,2]),("rise",2,[0,2,3]),("even",4,gG)]
theorem Th{k:Str×Nat×B3}(h:k∈Ks5):K5 k.1 k.2.1 k.2.2:=by
 simp only[Ks5,bE,l5,or_false] at h;rcases h with rfl | rfl | rfl | rfl | rfl
 . exact .low
 . exact .high
 . exact .turn
 . exact .rise
 . exact .even
theorem Vz(N:K5 nm w rs)(p:∀g∈gs,g.1<=4):∃d,jk [.list (gs.map xy),Du w rs]= .ok d/\((d= .none/\jN gs w rs=true)\/((∃(i:Nat) (c:B3) (g:Nat×Int),d= .tuple [.int (i:Nat),dL c]/\gs[i]?=some g/\¬ Kp g.2 w rs g.1)/\jN gs w rs=false)):=by
 unfold jk;ext;have e:eY (gs.map xy)=(List.range gs.length).map λi=>ab.tuple [.int (i:Nat),(gs.map xy).getD i .none]:=by
  rw[eY,af]
 rw[e,qp (λi=>ab.tuple [.int (i:Nat),(gs.map xy).getD i .none]) (λi=>.tuple [.int i,yh (brk (gs.getD i (0,0)).2 w rs (gs.getD i (0,0)).1)]) (λi=>!(brk (gs.getD i (0,0)).2 w rs (gs.getD i (0,0)).1).isNone) λi Y=>?_]
 . cases Z:(List.range gs.length).find? (λi=>!(brk (gs.getD i (0,0)).2 w rs (gs.getD i (0,0)).1).isNone) with
   | none=>
    ext;exact ⟨_,rfl,.inl ⟨rfl,Gq.mp Z⟩⟩
   | some i=>
    have j:=rq Z;ext;refine ⟨_,rfl,.inr ⟨⟨i,?_⟩,lb.mpr λz=>by rw[Gq.mpr z] at Z;cases Z⟩⟩;have Y:=cE.mp (kU Z);have l:gs[i]?=some (gs.getD i (0,0)):=by rw[ae,ai Y];rfl
    have r:¬ Kp (gs.getD i (0,0)).2 w rs (gs.getD i (0,0)).1:=λz=>by rw[kh.mpr z] at j;cases j
    cases q:brk (gs.getD i (0,0)).2 w rs (gs.getD i (0,0)).1 with
    | none=>rw[q] at j;cases j
    | some c=>exact ⟨c,_,rfl,l,r⟩
 . have Y:=cE.mp Y;have o:(gs.map xy).getD i .none=xy (gs.getD i (0,0)):=by
    rw[ae,a8,ae,ai Y];rfl
   have l:gs.getD i (0,0)∈gs:=by
    rw[ae,ai Y];exact eL Y
   rw[o];generalize gs.getD i (0,0)=g at *
   ext;rw[Ri N (p g l)];ext;cases brk g.2 w rs g.1 <;> rfl
structure Brs (gs:A9) (F:Str×Nat×B3->ab):Prop where
 h:∀k∈Ks5,(F k= .none/\jN gs k.2.1 k.2.2=true)\/((∃(i:Nat) (c:B3) (g:Nat×Int),F k= .tuple [.int (i:Nat),dL c]/\gs[i]?=some g/\¬ Kp g.2 k.2.1 k.2.2 g.1)/\jN gs k.2.1 k.2.2=false)
theorem Ie(j:∀g∈gs,g.1<=4):∃F,uQ [.list (gs.map xy)]= .ok (.list (Ks5.map F))/\Brs gs F:=by
 have H:∀k:Str×Nat×B3,∃d,k∈Ks5->jk [.list (gs.map xy),Du k.2.1 k.2.2]= .ok d/\((d= .none/\jN gs k.2.1 k.2.2=true)\/((∃(i:Nat) (c:B3) (g:Nat×Int),d= .tuple [.int (i:Nat),dL c]/\gs[i]?=some g/\¬ Kp g.2 k.2.1 k.2.2 g.1)/\jN gs k.2.1 k.2.2=false)):=λk=>by
  by_cases h:k∈Ks5
  . obtain ⟨d,l,e⟩:=Vz (Th h) j;exact ⟨d,λ_=>⟨l,e⟩⟩
  . exact ⟨.none,λz=>absurd z h⟩
 have Z:=λk Y=>Classical.choose_spec (H k) Y;refine ⟨λk=>tz (H k),?_,⟨λk Y=>(Z k Y).2⟩⟩;unfold uQ;ext;rw[jn (xs:=Ks5) (λk=>ab.str k.1) (λk=>tz (H k)) rfl (xC (by decide)) λk Y=>?_]
 . rfl
 . ext;rw[aaR (Th Y)];ext;exact (Z k Y).1
noncomputable def qg(gs:A9):Bool:=Ks5.all λk=>!jN gs k.2.1 k.2.2
theorem Qd{F:Str×Nat×B3->ab}(l:Brs gs F):lK .none (.list (Ks5.map F))= .ok (.bool (qg gs)):=by
 have pl:∀(i:Nat) (c:B3),plain (.tuple [.int (i:Nat),dL c])=true:=λi c=>RL λd hd=>by
  rcases bE.mp hd with rfl | hd
  . exact Zb
  . rw[ay.mp hd];exact vC c
 have pn:plain .none=true:=by rw[Zq.plain]
 have o:∀k∈Ks5,dr (F k)=true:=λk Z=>by
  rcases l.h k Z with ⟨e,_⟩ | ⟨⟨i,c,_,e,_,_⟩,_⟩
  . rw[e];decide
  . rw[e];refine jm (pl i c) (cS (xY (k:=1) λd hd=>?_) (by decide));rcases bE.mp hd with rfl | hd
    . exact cS Ew (by decide)
    . rw[ay.mp hd];show (ab.list (c.map ab.int)).depth<=1;rw[ab.depth,qt];exact ax _
 have ev:∀k∈Ks5,eP (F k) .none=jN gs k.2.1 k.2.2:=λk Z=>by
  rcases l.h k Z with ⟨e,j⟩ | ⟨⟨i,c,_,e,_,_⟩,j⟩
  . rw[e,j];exact (mQ _ _ pn pn).mpr rfl
  . rw[e,j];exact lb.mpr λz=>nomatch (mQ _ _ (pl i c) pn).mp z
 show gd (dr .none=true/\(Ks5.map F).all dr=true) (x8.ok (ab.bool (!inB .none (Ks5.map F))))=_;rw[bB ⟨by decide,d3.mpr λd hd=>by obtain ⟨k,Z,rfl⟩:=bo.mp hd;exact o k Z⟩];have p:inB .none (Ks5.map F)=Ks5.any λk=>jN gs k.2.1 k.2.2:=by
  rw[inB,List.any_map,nV,l7,l7];exact ⟨λY=>by obtain ⟨k,Z,e⟩:=Y;exact ⟨k,Z,by rw[<- ev k Z];exact e⟩,λY=>by obtain ⟨k,Z,e⟩:=Y;exact ⟨k,Z,by rw[<- ev k Z] at e;exact e⟩⟩
 rw[p];rw[qg,List.not_any_eq_all_not]
theorem Xf(e:∀g∈gs,g.1<=4):oY [.list (gs.map xy)]= .ok (.bool (qg gs)):=by
 obtain ⟨F,Y,Z⟩:=Ie e;unfold oY;ext;rw[Y];ext;rw[Qd Z];rfl
theorem Vm(h:qg gs=true):(∃g∈gs,¬ Kp g.2 1 [0] g.1)/\(∃g∈gs,¬ Kp g.2 1 [1] g.1)/\(∃g∈gs,¬ Kp g.2 2 [1,2] g.1)/\(∃g∈gs,¬ Kp g.2 2 [0,2,3] g.1)/\∃g∈gs,¬ Kp g.2 4 gG g.1:=by
 have ex:∀{w:Nat}{Y:B3},((!jN gs w Y)=true)->∃g∈gs,¬ Kp g.2 w Y g.1:=λ{w Y} z=>by
  rw[sD,lb,ne_eq,W6] at z;exact fx λy=>z λg Z=>fx λx=>y ⟨g,Z,x⟩
 unfold qg Ks5 at h;simp only[qa,List.all_nil,Bool.and_true,c9] at h;exact ⟨ex h.1,ex h.2.1,ex h.2.2.1,ex h.2.2.2.1,ex h.2.2.2.2⟩
noncomputable def eQ:B3:=[10,12,5,3,0,15]
theorem z7:cst v∈eQ:=by unfold cst;split <;> decide
theorem R9(P:¬ Kp g.2 4 gG g.1):∃c:B3,c.length=g.1/\(∀p∈c,p∈eQ)/\(cz g.2 c 2=7\/cz g.2 c 2=8):=by
 have hd:∃pre Z Y:B3,bQ pre/\bQ Z/\bQ Y/\pre.length+Z.length+Y.length+2=g.1/\Fe g.2 pre Z Y % 2≠0:=fx λz=>P (zO λpre Z Y s o l E=>fx λy=>z ⟨pre,Z,Y,s,o,l,E,y⟩);obtain ⟨pre,Z,Y,s,o,l,E,L⟩:=hd;have put:∀p q:Int,cz g.2 (pre.map cst++p::(Z.map cst++q::Y.map cst)) 2=tab 4 λr=>ak g.2 (bf (pre++ak p (r:Nat)::(Z++ak q (r:Nat)::Y))):=λp q=>by
  refine dW λr B=>?_;rw[aS,a7,aS,a7,nG s B,nG o B,nG l B]
 have e:∀p q:Int,p∈eQ->q∈eQ->(pre.map cst++p::(Z.map cst++q::Y.map cst)).length=g.1/\∀x∈pre.map cst++p::(Z.map cst++q::Y.map cst),x∈eQ:=λp q i j=>by
  refine ⟨by simp;lia,λx J=>?_⟩;rcases cf.mp J with z | z
  . obtain ⟨y,_,rfl⟩:=bo.mp z;exact z7
  rcases bE.mp z with rfl | z
  . exact i
  rcases cf.mp z with z | z
  . obtain ⟨y,_,rfl⟩:=bo.mp z;exact z7
  rcases bE.mp z with rfl | z
  . exact j
  obtain ⟨y,_,rfl⟩:=bo.mp z;exact z7
 have fin:∀p q:Int,p∈eQ->q∈eQ->(cz g.2 (pre.map cst++p::(Z.map cst++q::Y.map cst)) 2=7\/cz g.2 (pre.map cst++p::(Z.map cst++q::Y.map cst)) 2=8)->∃c:B3,c.length=g.1/\(∀p∈c,p∈eQ)/\(cz g.2 c 2=7\/cz g.2 c 2=8):=λp q i j h=>⟨_,(e p q i j).1,(e p q i j).2,h⟩;have b:=λ(x y:Int)=>aO g.2 (bf (pre++x::(Z++y::Y)));unfold Fe at L;have val:∀p q:Int,cz g.2 (pre.map cst++p::(Z.map cst++q::Y.map cst)) 2=ak g.2 (bf (pre++ak p 0::(Z++ak q 0::Y)))+2*ak g.2 (bf (pre++ak p 1::(Z++ak q 1::Y)))+4*ak g.2 (bf (pre++ak p 2::(Z++ak q 2::Y)))+8*ak g.2 (bf (pre++ak p 3::(Z++ak q 3::Y))):=λp q=>by rw[put,Yp];rfl
 have D:=val 10 12;have C:=val 5 12;have v:=val 10 3;have u:=val 5 3;rw[show ak 10 0=0 by decide,show ak 10 1=1 by decide,show ak 10 2=0 by decide,show ak 10 3=1 by decide] at D v;rw[show ak 5 0=1 by decide,show ak 5 1=0 by decide,show ak 5 2=1 by decide,show ak 5 3=0 by decide] at C u;rw[show ak 12 0=0 by decide,show ak 12 1=0 by decide,show ak 12 2=1 by decide,show ak 12 3=1 by decide] at D C;rw[show ak 3 0=1 by decide,show ak 3 1=1 by decide,show ak 3 2=0 by decide,show ak 3 3=0 by decide] at v u;have H:=b 0 0;have I:=b 1 0;have O:=b 0 1;have M:=b 1 1;generalize ak g.2 (bf (pre++0::(Z++0::Y)))=a00 at *
 generalize ak g.2 (bf (pre++1::(Z++0::Y)))=a10 at *
 generalize ak g.2 (bf (pre++0::(Z++1::Y)))=a01 at *
 generalize ak g.2 (bf (pre++1::(Z++1::Y)))=a11 at *
 have:(a00+2*a10+4*a01+8*a11=7\/a00+2*a10+4*a01+8*a11=8)\/(a10+2*a00+4*a11+8*a01=7\/a10+2*a00+4*a11+8*a01=8)\/(a01+2*a11+4*a00+8*a10=7\/a01+2*a11+4*a00+8*a10=8)\/(a11+2*a01+4*a10+8*a00=7\/a11+2*a01+4*a10+8*a00=8):=by lia
 rcases this with h | h | h | h
 . exact fin 10 12 (by decide) (by decide) (by rw[D];exact h)
 . exact fin 5 12 (by decide) (by decide) (by rw[C];exact h)
 . exact fin 10 3 (by decide) (by decide) (by rw[v];exact h)
 . exact fin 5 3 (by decide) (by decide) (by rw[u];exact h)
noncomputable def o6(t:Int):Int:=ak t 0+2*ak t 3
theorem XD:o6 (gC b ts 4)=cz b (ts.map o6) 1:=by
 have Z:cz b (ts.map o6) 1=tab 2 λr=>ak b (bf ((ts.map o6).map λt=>ak t (r:Nat))):=rfl;have Y:∀r:Nat,r<4->ak (gC b ts 4) (r:Nat)=ak b (bf (ts.map λt=>ak t (r:Nat))):=λr e=>iw (λ_=>aO _ _) e;have j:∀t:Int,ak (o6 t) 0=ak t 0:=λt=>by
  unfold o6;rcases aO t 0 with z | z <;> rcases aO t 3 with y | y <;> rw[z,y] <;> decide
 have i:∀t:Int,ak (o6 t) 1=ak t 3:=λt=>by
  unfold o6;rcases aO t 0 with z | z <;> rcases aO t 3 with y | y <;> rw[z,y] <;> decide
 rw[Z,Yj];rw[o6,show ak (gC b ts 4) 0=_ from Y 0 (by decide),show ak (gC b ts 4) 3=_ from Y 3 (by decide),cy,cy];congr 3
 . congr 1;exact funext λt=>(j t).symm
 . congr 2;exact funext λt=>(i t).symm
theorem Xz{f:Int->Nat}(W:XX gs 1 ts f)(e:qg gs=true):∀t:Int,0<=t->t<4->t∈ts:=by
 obtain ⟨r,i,u,o,v⟩:=Vm e;have Y:Fam gs (λt=>o6 t∈ts):=⟨λg j C Z z=>by
  rw[XD];exact (W.cl g j _ (by rw[af];exact Z) λp l=>by
   obtain ⟨q,s,rfl⟩:=bo.mp l;exact z q s).1,W.inp _ (by decide +kernel),W.inp _ (by decide +kernel)⟩
 have all:=Y.full r i u o v;intro t B D;rcases (by lia:t=0\/t=1\/t=2\/t=3) with rfl | rfl | rfl | rfl
 . exact all 0 (by decide)
 . exact all 1 (by decide)
 . exact all 10 (by decide)
 . exact all 15 (by decide)
structure WAt (x4:List aD) (w:Nat) (t:Int):Prop where
 lt:w<2+x4.length
 val:∀r,r<4->(bY 2 x4 r).getD w 0=ak t (r:Nat)
structure By (gs:A9) (x4:List aD):Prop where
 ok:aU 2 x4
 gin:∀s∈x4,(s.m,s.b)∈gs
theorem Wu:bf [x]=x:=by simp[bf]
theorem qZ{u:Int}(C:gF gs 1 b 3 ss o)(A:By gs x4)(j:WAt x4 w u)(E:x4.length<=1000)(p:∀r,r<4->ak b (ak u (r:Nat))=ak v (r:Nat)) :
 ∃Y i,dq [.list (x4.map aD.d),.int 2,dC 1 ss o,.list [.int (w:Nat)]]= .ok (.tuple [.int (i:Nat),.list (Y.map aD.d)])/\By gs Y/\Y.length<=x4.length+3/\WAt Y i v/\∀x y,WAt x4 x y->WAt Y x y:=by
 have e:∀x∈[w],x<2+x4.length:=λx z=>by rw[ay.mp z];exact j.lt
 obtain ⟨s,q,B,D,l⟩:=N5 C A.ok A.gin rfl e;refine ⟨_,_,p_add (hs:=[w]) C.ok rfl (by lia) (by have:=C.len;lia) C.lt (by decide),⟨s,q⟩,D,⟨B,λr Z=>?_⟩,λx y h=>⟨by rw[ar];have:=h.lt;lia,λr Z=>by rw[(l r).1 x h.lt];exact h.val r Z⟩⟩;rw[(l r).2,a7,ew,j.val r Z,<- p r Z];congr 1;rw[Wu]
theorem Cu{t:Int}(Y:i<2)(h:∀r:Nat,r<4->ak (r:Nat) (i:Nat)=ak t (r:Nat)):WAt x4 i t:=⟨by lia,λr Z=>by
 rw[z8 Y,Ab,ae,a8,dQ Y,<- h r Z];rfl⟩
theorem qH{P:Nat->Prop}(h0:P 0)(e:P 1)(Z:P 2)(Y:P 3):∀r,r<4->P r:=λr i=>by
 rcases (by lia:r=0\/r=1\/r=2\/r=3) with rfl | rfl | rfl | rfl <;> assumption
structure VP (gs:A9) (C:Nat->List aD×Nat):Prop where
 h:∀j,j<4->gF gs 1 (j:Nat) 3 (C j).1 (C j).2
noncomputable def jR(C:Nat->List aD×Nat):ab:=.list ((List.range 4).map λj=>dC 1 (C j).1 (C j).2)
variable {C:Nat->List aD×Nat}
theorem uO(Y:j<4):xt (jR C) (.int (j:Nat))= .ok (dC 1 (C j).1 (C j).2):=iT (by rw[a8,dQ Y];rfl)
noncomputable def wR(w5 w3 w0 w15:Nat):ab:=.dict [(.int 10,.int 0),(.int 12,.int 1),(.int 5,.int (w5:Nat)),(.int 3,.int (w3:Nat)),(.int 0,.int (w0:Nat)),(.int 15,.int (w15:Nat))]
theorem Wa(L:VP gs C):∃x4 w5 o i Y,jo [.list [],jR C]= .ok (.tuple [wR w5 o i Y,.list (x4.map aD.d)])/\By gs x4/\x4.length<=12/\WAt x4 w5 5/\WAt x4 o 3/\WAt x4 i 0/\WAt x4 Y 15:=by
 have Q:By gs []:=⟨aU.nil,λs hs=>by cases hs⟩;have E:∀x4,WAt x4 0 10:=λx4=>Cu (by decide) (qH (by decide) (by decide) (by decide) (by decide));have x1:∀x4,WAt x4 1 12:=λx4=>Cu (by decide) (qH (by decide) (by decide) (by decide) (by decide));obtain ⟨a1,w5,p,A1,l1,e,u1⟩:=qZ (v:=5) (L.h 1 (by decide)) Q (E []) (by decide) (qH (by decide) (by decide) (by decide) (by decide));obtain ⟨S,o,H,A2,l2,Z,u2⟩:=qZ (v:=3) (L.h 1 (by decide)) A1 (x1 a1) (by have:([]:List aD).length=0:=rfl;lia) (qH (by decide) (by decide) (by decide) (by decide));obtain ⟨U,i,B,A3,l3,u,J⟩:=qZ (v:=0) (L.h 0 (by decide)) A2 (E S) (by have:([]:List aD).length=0:=rfl;lia) (qH (by decide) (by decide) (by decide) (by decide));obtain ⟨a4,Y,D,A4,l4,h4,r⟩:=qZ (v:=15) (L.h 3 (by decide)) A3 (E U) (by have:([]:List aD).length=0:=rfl;lia) (qH (by decide) (by decide) (by decide) (by decide));refine ⟨a4,w5,o,i,Y,?_,A4,by have:([]:List aD).length=0:=rfl;lia,r _ _ (J _ _ (u2 _ _ e)),r _ _ (J _ _ Z),r _ _ u,h4⟩;have M:xt (jR C) (.int 1)= .ok (dC 1 (C 1).1 (C 1).2):=uO (by decide);have i0:xt (jR C) (.int 0)= .ok (dC 1 (C 0).1 (C 0).2):=uO (by decide);have i3:xt (jR C) (.int 3)= .ok (dC 1 (C 3).1 (C 3).2):=uO (by decide);have p:=p;have H:=H;have B:=B;have D:=D;have cl:∀{k:Int}{f:B4->x8 ab}{O:List ME}{R:List (Int×MV)}{Γ:Ev}{P:B4}{d I:ab}{q:B0×Ev},evs O Γ = .ok P->f P= .ok (.tuple [d,I])->lV 0 R (Γ.set 0 (some I))= .ok q->lV 0 ((k,.cl f O)::R) Γ = .ok ((.int k,d)::q.1,q.2):=λe Z u=>by
  rw[lV,e,x8.aP,Z,x8.aP];show x8.bind (lV 0 _ _) _=_;rw[u];rfl
 have ev:∀{k:Int}{m:ME}{R:List (Int×MV)}{Γ:Ev}{d:ab}{q:B0×Ev},m Γ = .ok d->lV 0 R Γ = .ok q->lV 0 ((k,.ev m)::R) Γ = .ok ((.int k,d)::q.1,q.2):=λe Z=>by
  rw[lV,e,x8.aP,Z];rfl
 have l:∀{x y z:ab}{j k:Int},xt (jR C) (.int j)= .ok z->evs [aj 0,eC (.int 2),ao xt (aj 1) (eC (.int j)),bR [eC (.int k)]] [some x,some (jR C)]= .ok [x,.int 2,z,.list [.int k]]:=λh=>by
  ext;rw[h];ext
 have run:=ev (k:=10) (m:=eC (.int 0)) (Γ:=[some (.list []),some (jR C)]) rfl (ev (k:=12) (m:=eC (.int 1)) rfl (cl (k:=5) (l (y:=.none) (k:=0) M) p (cl (k:=3) (l (y:=.none) (k:=1) M) H (cl (k:=0) (l (y:=.none) (k:=0) i0) B (cl (k:=15) (l (y:=.none) (k:=0) i3) D (R:=[]) rfl)))));rw[jo,MN];show x8.bind (Ck 0 _ [some (.list []),some (jR C)]) fin=_;rw[Ck,run,x8.aP];show x8.bind (gd _ _) fin=_;rw[bB (by decide)];rfl
theorem uR{w:Int}(Z:g.1<=4)(e:∀c∈cs,c.length=g.1):jj [dG g.1 g.2,.list (cs.map dL),.int w]= .ok (yh (cs.find? λc=>decide (cz g.2 c 2=w))):=by
 unfold jj;ext;rw[qp dL dL (λc=>decide (cz g.2 c 2=w)) λc Y=>?_]
 . cases cs.find? λc=>decide (cz g.2 c 2=w) with
   | none=>ext;rfl
   | some c=>ext;rfl
 . ext;rw[show o8 [dG g.1 g.2,dL c,.int 2]= .ok (.int (cz g.2 c 2)) from Hg (e c Y) Z (by decide)];ext;cases decide (cz g.2 c 2=w) <;> rfl
theorem Lh:PJ [wR j W p m]= .ok (dL eQ):=by
 show gd (6<=ba) _=_;rw[bB (by decide)];rfl
noncomputable def fZ(w5 w3 w0 w15:Nat)(t:Int):Nat:=if t=10 then 0 else if t=12 then 1 else if t=5 then w5 else if t=3 then w3 else if t=0 then w0 else w15
theorem WK(h:x∈eQ):ixY (wR j W p m) (.int x)= .ok (.int (fZ j W p m x:Nat)):=by
 have:=by simpa[eQ] using h
 rcases this with rfl | rfl | rfl | rfl | rfl | rfl <;> rfl
theorem abm(L:VP gs C)(hg:g∈gs)(hG:g.1<=4/\0<=g.2/\g.2<2^2^g.1)(hk:¬ Kp g.2 4 gG g.1):∃ss o,fO [dG g.1 g.2,jR C]= .ok (dC 2 ss o)/\gF gs 2 7 16 ss o:=by
 obtain ⟨Y,w5,j,i,Z,et,A,hl,h5,h3,h0,U⟩:=Wa L;obtain ⟨m4,b0,b1⟩:=hG;have B:∀t∈eQ,WAt Y (fZ w5 j i Z t) t:=λt p=>by
  have:=by simpa[eQ] using p
  rcases this with rfl | rfl | rfl | rfl | rfl | rfl
  . exact (show WAt Y 0 10 from Cu (by decide) (qH (by decide) (by decide) (by decide) (by decide)))
  . exact (show WAt Y 1 12 from Cu (by decide) (qH (by decide) (by decide) (by decide) (by decide)))
  . exact h5
  . exact h3
  . exact h0
  . exact U
 have H:∀c∈lD eQ g.1,c.length=g.1:=λc l=>(lY.mp l).1;have f7:=uR (w:=7) m4 H;have f8:=uR (w:=8) m4 H;have lay:∀(c:B3) (v:Int),c∈lD eQ g.1->cz g.2 c 2=v->By gs (Y++[⟨g.1,g.2,c.map (fZ w5 j i Z)⟩])/\WAt (Y++[⟨g.1,g.2,c.map (fZ w5 j i Z)⟩]) (2+Y.length) v:=λc v l I=>by
  obtain ⟨c1,Q⟩:=lY.mp l;have ok:aU 2 (Y++[⟨g.1,g.2,c.map (fZ w5 j i Z)⟩]):=A.ok.snoc ⟨m4,by rw[af];exact c1,λk hk=>by
   obtain ⟨t,p,rfl⟩:=bo.mp hk;exact (B t (Q t p)).lt,b0,b1⟩
  refine ⟨⟨ok,λs E=>?_⟩,by rw[ar,b9];lia,λr hr=>?_⟩
  . rcases cf.mp E with z | z
    . exact A.gin s z
    . rw[ay.mp z];exact hg
  . rw[iB];unfold stepV;have hvl:=eU (n:=2) (ss:=Y) (r:=r);rw[ae,be (by lia),show 2+Y.length - (bY 2 Y r).length=0 by lia,<- I];show ak g.2 (bf ((c.map (fZ w5 j i Z)).map _))=_;rw[cz,iw (λ_=>aO _ _) hr,cy];congr 2;exact bt λt p=>(B t (Q t p)).val r hr
 have hk6:eQ.length<=16:=by decide
 have comp:∀(c:B3) (u:Ev),c∈lD eQ g.1->gv u 3=some (wR w5 j i Z)->gv u 6=some (dL c)->cA (itL (aj 6)) (gN 0) (eC (.bool true)) (ao ixY (aj 1) (aj 0)) 1 [3] u= .ok (.list (dN (c.map (fZ w5 j i Z)))):=λc u l g3 g6=>by
  obtain ⟨c1,Q⟩:=lY.mp l;rw[Cq (ns:=c) (λt=>.int (fZ w5 j i Z t:Nat)) ?_ (xC (by lia)) λt p=>?_]
  . rw[dN,cy];rfl
  . rw[Nf,show aj 6 u= .ok (dL c) by rw[aj,g6]];rfl
  . have eb:gh 1 [3] u=[none,some (wR w5 j i Z)]:=by rw[<- g3];rfl
    rw[eb];ext;rw[WK (Q t p)]
 have i1:xt (jR C) (.int 1)= .ok (dC 1 (C 1).1 (C 1).2):=uO (by decide);have fin:∀(c:B3) (v:Int),c∈lD eQ g.1->cz g.2 c 2=v->aD.d ⟨g.1,g.2,c.map (fZ w5 j i Z)⟩= .tuple [dG g.1 g.2,.tuple (dN (c.map (fZ w5 j i Z)))]:=λc v _ _=>rfl;unfold fO;ext;rw[et];ext;rw[Lh];ext;rw[rep1 (by lia)];ext;rw[show aw g.1 (dL eQ)=(aw g.1 eQ).map dL by rw[i7],CT (enc:=dL) (λ_=>rfl) (λq hq=>by rw[(og.mp hq).2];exact hk6) (by rw[br];exact m4),<- sX];ext;rw[show xt dO (.int 1)= .ok (.int 7) from rfl];ext;rw[f7]
 cases R:(lD eQ g.1).find? (λc=>decide (cz g.2 c 2=7)) with
 | some c=>
  have l:=kU R;have E:=rq R;have I:cz g.2 c 2=7:=of_decide_eq_true E;obtain ⟨M,J⟩:=lay c 7 l I;ext;rw[show v5 (yh (some c)) .none= .ok (.bool false) from rfl];ext;rw[comp c _ l rfl rfl];ext;rw[bB (xC (by lia))];ext;rw[show v5 (yh (some c)) .none= .ok (.bool false) from rfl];ext;have eC:ab.tuple [.int 2,.tuple (Y.map aD.d++[.tuple [dG g.1 g.2,.tuple (dN (c.map (fZ w5 j i Z)))]]),.int ((((Y.map aD.d++[ab.tuple [dG g.1 g.2,.tuple (dN (c.map (fZ w5 j i Z)))]]).length:Nat):Int)+1)]=dC 2 (Y++[⟨g.1,g.2,c.map (fZ w5 j i Z)⟩]) (2+Y.length):=by
   rw[dC,aS];congr 3;rw[ar,af,b9];congr 2;lia
  rw[eC];have Cc:gF gs 2 7 16 (Y++[⟨g.1,g.2,c.map (fZ w5 j i Z)⟩]) (2+Y.length):=⟨M.ok,J.lt,M.gin,J.val,by rw[ar,b9];lia⟩;obtain ⟨ss,o,e,S⟩:=Cc.shared (by decide) (by decide);rw[e];exact ⟨ss,o,rfl,S⟩
 | none=>
  have n7:∀c∈lD eQ g.1,cz g.2 c 2≠7:=λc l z=>by
   have:=mf.mp R c l;rw[decide_eq_true z] at this;exact this rfl
  obtain ⟨P,q1,q2,q3⟩:=R9 hk;have D:P∈lD eQ g.1:=lY.mpr ⟨q1,q2⟩;have h80:cz g.2 P 2=8:=q3.resolve_left (n7 P D);ext;rw[show v5 (yh none) .none= .ok (.bool true) from rfl];ext;rw[show xt zm (.int 1)= .ok (.int 8) from rfl];ext;rw[f8]
  cases h8:(lD eQ g.1).find? (λc=>decide (cz g.2 c 2=8)) with
  | none=>
   have:=mf.mp h8 P D;rw[decide_eq_true h80] at this;exact absurd rfl this
  | some c=>
   have l:=kU h8;have E:=rq h8;have I:cz g.2 c 2=8:=of_decide_eq_true E;obtain ⟨M,J⟩:=lay c 8 l I;obtain ⟨O,w2,e2,A2,l2,W2,_⟩:=qZ (v:=7) (L.h 1 (by decide)) M J (by rw[ar,b9];lia) (qH (by decide) (by decide) (by decide) (by decide));rw[ar,b9] at l2;ext;rw[comp c _ l rfl rfl];ext;rw[bB (xC (by lia))];ext;rw[show v5 (yh none) .none= .ok (.bool true) from rfl];ext;rw[i1];ext;have eA:dq [.list (Y.map aD.d++[.tuple [dG g.1 g.2,.tuple (dN (c.map (fZ w5 j i Z)))]]),.int 2,dC 1 (C 1).1 (C 1).2,.list [.int ((((Y.map aD.d++[ab.tuple [dG g.1 g.2,.tuple (dN (c.map (fZ w5 j i Z)))]]).length:Nat):Int)+1)]]= .ok (.tuple [.int (w2:Nat),.list (O.map aD.d)]):=by
    rw[<- e2,aS];have ee:(((Y.map aD.d++[ab.tuple [dG g.1 g.2,.tuple (dN (c.map (fZ w5 j i Z)))]]).length:Nat):Int)+1=((2+Y.length:Nat):Int):=by
     rw[ar,af,b9];lia
    rw[ee];rfl
   rw[eA];ext;have Cc:gF gs 2 7 16 O w2:=⟨A2.ok,W2.lt,A2.gin,W2.val,by lia⟩;obtain ⟨ss,o,e,S⟩:=Cc.shared (by decide) (by decide);rw[show ab.tuple [.int 2,.tuple (O.map aD.d),.int (w2:Nat)]=dC 2 O w2 from rfl,e];exact ⟨ss,o,rfl,S⟩
theorem Nh:(cQ 1).Nodup:=by decide +kernel
theorem gH.aeV{d:ab}{l:Nat}(h:gH j d u W l)(U:l<=90)(O:W<=4000):∃ss o,jb [d,.int (j:Nat)]= .ok (dC j ss o)/\aU j ss/\NNs ss/\stW ss<=W/\o<j+ss.length/\∀r,r<2^j->(bY j ss r).getD o 0=u r:=by
 obtain ⟨v,w,k,D,C,B,h4⟩:=h;obtain ⟨Y,H,I⟩:=D.ok k (ax _);obtain ⟨more,e,E,P⟩:=I [];rw[d6] at e;have Z:=Et (φ:=λ_ _ q=>1+q.sum) (z:=(0:Int)) br (λk i p=>by rw[mC,ae,fw p];rfl) (λk m b L=>mL) Y (aU.nil);have J:=by
  have:∀l:List aD,l.length<=stW l:=λl=>by
   induction l with
   | nil=>exact ax _
   | cons s l Q=>
    have:stW (s::l)=wt s+stW l:=by unfold stW;rw[a7,hY]
    have B:3<=wt s:=by unfold wt;split <;> lia
    rw[a6];lia
  exact this more
 have M:=Z.len;rw[e] at M;have S:((([]:List aD).length:Nat):Int)=0:=rfl;refine ⟨_,_,Ea Y (by lia) (by lia),Z.ok,by rw[e];exact E,by rw[e];lia,Z.lt,λr R=>?_⟩;have KV:=Et (φ:=λ_ b q=>ak b (bf q)) (z:=(0:Int)) (bF j r) (λk i p=>by
  rw[n8,Ab,ae,a8,dQ p];rfl) (λk m b L=>pI) Y (aU.nil)
 rw[pD,KV.val,H r,C r]
theorem aaV{n:Nat}(Q:∀g∈gs,g.1<=4/\0<=g.2/\g.2<2^2^g.1)(D:gs.length<=8)(hf:qg gs=true)(hn:n<=4)(R:1<=n)(h0:0<=b)(h1:b<2^2^n) :
 ∃ss o,qO [.list (gs.map xy),dG n b]= .ok (dC n ss o)/\gF gs n b 429 ss o:=by
 have U:=λg h=>(Q g h).1;have S:jY (2^2^1) gs<=20000:=by
  have H:jY (2^2^1) gs<=gs.length*256:=acP λg O=>by
   have h6:(2^2^1)^g.1<=(2^2^1)^4:=eI (by decide) (U g O);exact cS h6 (by decide)
  have e3:gs.length*256<=8*256:=Nat.mul_le_mul_right _ D;lia
 obtain ⟨W,H,I,F,hL⟩:=WL (p8 1) (λfs ws b w j I e h=>j.step I e h Nh) (KY Nh) (by decide) D U S;have H:pq [.list (gs.map xy),.int 1]= .ok (.dict (xA W)):=H;have nd:=by have:=I.nd;rwa [show aQ W++aQ []=aQ W from cK _] at this
 have hW4:=by
  have:=qY (N:=4) nd λx M=>I.bd x (dy _ M);unfold aQ at this;rwa [af] at this
 have four:=Xz I.whole hf;have l:∀j:Nat,∃q:List aD×Nat,j<4->iu [.dict (xA W),.int (j:Nat),.int ((1:Nat):Int)]= .ok (dC 1 q.1 q.2)/\gF gs 1 (j:Nat) 3 q.1 q.2:=λj=>by
  by_cases p:j<4
  . obtain ⟨ss,o,e,Z⟩:=GK I F Q (by lia) (by decide) (oF.mp (four j (by lia) (by lia)));exact ⟨(ss,o),λ_=>⟨e,Z.ok,Z.lt,Z.gin,Z.val,cS Z.len (by lia)⟩⟩
  . exact ⟨([],0),λz=>absurd z p⟩
 obtain ⟨C,Z⟩:∃C:Nat->List aD×Nat,∀j,j<4->iu [.dict (xA W),.int (j:Nat),.int (1:Int)]= .ok (dC 1 (C j).1 (C j).2)/\gF gs 1 j 3 (C j).1 (C j).2:=⟨λj=>(l j).choose,λj p=>(l j).choose_spec p⟩;have L:VP gs C:=⟨λj p=>(Z j p).2⟩;obtain ⟨B,ek,hB⟩:=Ie U;have E:∀k∈Ks5,∃(i:Nat) (c:B3) (g:Nat×Int),B k= .tuple [.int (i:Nat),dL c]/\gs[i]?=some g/\¬ Kp g.2 k.2.1 k.2.2 g.1:=λk J=>by
  rcases hB.h k J with ⟨_,z⟩ | ⟨h,_⟩
  . have:=d3.mp hf k J;rw[z] at this;cases this
  . exact h
 obtain ⟨i5,c5,v,b5,q5,k5⟩:=E ("even",4,gG) (by decide);have u:=dA q5;obtain ⟨s,P,eA,hA⟩:=abm L u (Q v u) k5;obtain ⟨d,ed,hd⟩:=Mh hn R h0 h1;obtain ⟨sT,oT,eT,T1,T2,T3,T4,T5⟩:=hd.aeV (by decide) (by decide);obtain ⟨x4,o',eR,R1,R2,R3,R4,R5⟩:=Q6 (L.h 1 (by decide)) hA T1 T2 (by lia) (by lia) T4;have Cc:gF gs n b 429 x4 o':=⟨R1,R3,R2,λr hr=>by rw[R5,T5 r hr,t9 hr],by lia⟩;obtain ⟨ss,o,eS,hS⟩:=Cc.shared (by lia) (by decide);refine ⟨ss,o,?_,hS⟩;unfold qO;ext;rw[ek];ext;rw[show U4 (eC pL) (aj 2) [some (.list (gs.map xy)),some (dG n b),some (.list (Ks5.map B)),none,none,none,none,none,none]= .ok (Ks5.map λk=>ab.tuple [.str k.1,B k]) from rfl,x8.aP];refine bJ (λ_=>[some (.list (gs.map xy)),some (dG n b),some (.list (Ks5.map B)),none,none,none,none,none,none]) rfl (λi x M=>?_) ?_
 . obtain ⟨k,J,rfl⟩:=cZ M;obtain ⟨i,c,g,e,_,_⟩:=E k (dA J);rw[e];ext;rw[show v5 (.tuple [.int (i:Nat),dL c]) .none= .ok (.bool false) from rfl];ext
 ext;rw[H];ext;rw[show ab.int 4= .int ((4:Nat):Int) from rfl,mH (n:=4) (λj=>dC 1 (C j).1 (C j).2) ?_ (xC (by decide)) λj p=>?_]
 rotate_left
 . ext;rw[dw (by decide)]
 . ext;rw[(Z j p).1]
 ext;rw[show ab.int ((4:Nat):Int)= .int 4 from rfl,show xt (.list (Ks5.map B)) (.int 4)= .ok (.tuple [.int (i5:Nat),dL c5]) by rw[<- b5];rfl];ext;rw[iT (by rw[a8,q5];rfl)];ext;rw[show ab.list ((List.range 4).map λj=>dC 1 (C j).1 (C j).2)=jR C from rfl];have kit:∀Y:Ev,gv Y 6=some (jR C)->gv Y 7=some (dG v.1 v.2)->8<Y.length->yP 8 [((eC gk),(ao xt (aj 6) (eC (.int 1)))),((eC dO),(aL fO [(aj 7),(aj 6)]))] Y= .ok (.nx (Y.set 8 (some (Eh (C 1).1 (C 1).2 s P)))):=λY g6 g7 hl=>by
  have v6:aj 6 Y= .ok (jR C):=by rw[aj,g6]
  have v7:aj 7 Y= .ok (dG v.1 v.2):=by rw[aj,g7]
  have a1:ao xt (aj 6) (eC (.int 1)) Y= .ok (dC 1 (C 1).1 (C 1).2):=by
   rw[Ir,v6];ext;exact uO (by decide)
  have a2:aL fO [(aj 7),(aj 6)] Y= .ok (dC 2 s P):=by
   rw[mD,Ay,v7,x8.aP,Ay,v6];exact eA
  rw[yP,show zc [((eC gk),(ao xt (aj 6) (eC (.int 1)))),((eC dO),(aL fO [(aj 7),(aj 6)]))] Y= .ok [(gk,dC 1 (C 1).1 (C 1).2),(dO,dC 2 s P)] by
   rw[zc,Bu,x8.aP,a1,x8.aP,zc,Bu,x8.aP,a2];rfl,x8.aP,bB ⟨show (Bs [(gk,ab.none),(dO,ab.none)]).Nodup by decide,Nat.le_of_ble_eq_true rfl,hl⟩]
  rfl
 rw[kit _ rfl rfl (of_decide_eq_true rfl)];ext;unfold Kw;ext;rw[ed];ext;rw[eT];ext;rw[eR];ext;rw[eS];rfl
noncomputable def cV:B4->x8 ab:=fnR 2 (aJ (sIf (ao ltD (aj 1) (eFn fG [(aj 0)])) (bz (ao xt (aj 0) (aj 1))) cu)
 (aJ (sIf (ao eqD (eFn fG [(aj 0)]) (eC (.int 0))) (bz (ao cG (ao lB (ao lB (aj 1) (aj 1)) (eC (.int 48271))) (ao lB (eC (.int 7)) (aj 1)))) cu)
 (bz (ao cG (ao kO (ao xt (aj 0) (ao jM (aj 1) (eFn fG [(aj 0)]))) (ao cG (eC (.int 1)) (ao kO (aj 1) (eFn fG [(aj 0)])))) (ao lB (ao lB (aj 1) (aj 1)) (eC (.int 7919)))))))
noncomputable def qb:B4->x8 ab:=fnR 3 (aJ (aZ 1 (ao xt (bR [(eC (.int 2)),(eC (.int 2)),(eC (.int 1)),(eC (.int 3)),(eC (.int 2)),(eC (.int 2)),(eC (.int 3)),(eC (.int 1)),(eC (.int 0)),(eC (.int 4))]) (ao jM (aj 0) (eC (.int 10)))))
 (aJ (aZ 0 (ao kO (aj 0) (eC (.int 10))))
 (aJ (aZ 2 (bR [(eC (.int 8)),(eC (.int 14)),(eC (.int 6)),(eC (.int 7)),(eC (.int 9)),(eC (.int 1)),(eC (.int 11)),(eC (.int 2))]))
 (aJ (sIf (nC (ao eqD (aj 1) (eC (.int 2))) (ao eqD (ao jM (aj 0) (eC (.int 3))) (eC (.int 0)))) (bz (bK [(eC (.int 2)),(ao xt (aj 2) (ao jM (ao kO (aj 0) (eC (.int 3))) (eC (.int 8))))])) cu)
 (bz (bK [(aj 1),(ao jM (ao cG (ao lB (ao kO (aj 0) (eC (.int 3))) (eC (.int 40503))) (aj 0)) (ao xt (bR [(eC (.int 2)),(eC (.int 4)),(eC (.int 16)),(eC (.int 256)),(eC (.int 65536))]) (aj 1)))]))))))
noncomputable def cX:B4->x8 ab:=fnR 7 (aJ (aZ 2 (ao Ak (eC (.int 1)) (ao xt (aj 0) (eC (.int 0)))))
 (aJ (aZ 3 (cA (ir (aj 2)) (gN 0) (eC (.bool true)) (ao su (ao wu (ao xt (aj 1) (eC (.int 1))) (aj 0)) (eC (.int 1))) 1 [0]))
 (aJ (sIf (ao eqD (aj 1) (eC (.str "low"))) (bz (ao eqD (ao xt (aj 3) (eC (.int 0))) (eC (.int 0)))) cu)
 (aJ (sIf (ao eqD (aj 1) (eC (.str "high"))) (bz (ao eqD (ao xt (aj 3) (ao iQ (aj 2) (eC (.int 1)))) (eC (.int 1)))) cu)
 (aJ (sIf (ao eqD (aj 1) (eC (.str "turn"))) (bz (ao eqD (cA (ir (aj 2)) (gN 0) (ao eqD (ao xt (aj 1) (aj 0)) (ao xt (aj 1) (ao iQ (ao iQ (aj 2) (eC (.int 1))) (aj 0)))) (aj 0) 1 [3,2]) (bR []))) cu)
 (aJ (cI (ir (aj 2)) (gN 4) [4,5,6] (aJ (aZ 5 (ao xt (aj 3) (eC (.int 0))))
 (aJ (cI (ir (ao xt (aj 0) (eC (.int 0)))) (gN 6) [6] (aJ (sIf (nC (ao eqD (aj 1) (eC (.str "rise"))) (ao gtD (ao xt (aj 3) (aj 4)) (ao xt (aj 3) (ao orD (aj 4) (ao Ak (eC (.int 1)) (aj 6)))))) (bz (eC (.bool false))) cu)
 (aZ 5 (ao cG (aj 5) (ao lB (ao su (ao wu (aj 4) (aj 6)) (eC (.int 1))) (ao cG (ao xt (aj 3) (ao Ak (eC (.int 1)) (aj 6))) (ao xt (aj 3) (eC (.int 0)))))))))
 (sIf (nC (ao eqD (aj 1) (eC (.str "even"))) (ao neD (ao jM (aj 5) (eC (.int 2))) (ao xt (aj 3) (aj 4)))) (bz (eC (.bool false))) cu))))
 (bz (eC (.bool true)))))))))
noncomputable def pK:B4->x8 ab:=fnR 8 (aJ (aZ 2 (aL cV [(aj 0),(aj 1)]))
 (aJ (aZ 3 (ao xt (bR [(eC (.str "low")),(eC (.str "high")),(eC (.str "turn")),(eC (.str "rise")),(eC (.str "even"))]) (ao jM (ao kO (aj 2) (eC (.int 4))) (eC (.int 5)))))
 (aJ (aZ 4 (bR [(bR [(bK [(eC (.int 2)),(eC (.int 7))])]),(bR [(bK [(eC (.int 2)),(eC (.int 1))])]),(bR [(bK [(eC (.int 2)),(eC (.int 8))]),(bK [(eC (.int 1)),(eC (.int 1))])]),(bR [(bK [(eC (.int 2)),(eC (.int 14))]),(bK [(eC (.int 1)),(eC (.int 1))])]),(bR [(bK [(eC (.int 2)),(eC (.int 8))]),(bK [(eC (.int 2)),(eC (.int 6))]),(bK [(eC (.int 0)),(eC (.int 1))])]),(bR [(bK [(eC (.int 2)),(eC (.int 13))]),(bK [(eC (.int 0)),(eC (.int 0))])])]))
 (aJ (aZ 4 (ao cG (aj 4) (bR [(bR [(bK [(eC (.int 3)),(eC (.int 23))]),(bK [(eC (.int 2)),(eC (.int 7))])]),(bR [(bK [(eC (.int 2)),(eC (.int 2))]),(bK [(eC (.int 0)),(eC (.int 1))])]),(bR [(bK [(eC (.int 3)),(eC (.int 202))]),(bK [(eC (.int 0)),(eC (.int 0))]),(bK [(eC (.int 0)),(eC (.int 1))])]),(bR [(bK [(eC (.int 2)),(eC (.int 11))]),(bK [(eC (.int 1)),(eC (.int 1))])]),(bR [(bK [(eC (.int 4)),(eC (.int 32767))])])])))
 (aJ (sIf (ao eqD (ao jM (aj 2) (eC (.int 4))) (eC (.int 0))) (bz (eFn BW [(ao xt (aj 4) (ao jM (ao kO (aj 2) (eC (.int 4))) (eC (.int 11))))])) cu)
 (aJ (aZ 5 (bR []))
 (aJ (cI (ir (ao jM (ao kO (aj 2) (eC (.int 20))) (eC (.int 7)))) (gN 6) [6,7] (aJ (aZ 7 (aL qb [(aL cV [(aj 0),(ao cG (ao cG (aj 1) (eC (.int 1))) (aj 6))])]))
 (aJ (sIf (nC (ao ltD (ao jM (aj 2) (eC (.int 4))) (eC (.int 3))) (lZ (eUn oE (aL cX [(aj 7),(aj 3)])))) (aZ 7 (ao ixY (jy [("low",(bK [(eC (.int 2)),(eC (.int 8))])),("high",(bK [(eC (.int 2)),(eC (.int 14))])),("turn",(bK [(eC (.int 1)),(eC (.int 1))])),("rise",(bK [(eC (.int 2)),(eC (.int 8))])),("even",(bK [(eC (.int 2)),(eC (.int 6))]))]) (aj 3))) cu)
 (my 5 (aj 7)))))
 (bz (aj 5)))))))))
noncomputable def tL:B4->x8 ab:=fnR 6 (aJ (aZ 2 (cA (ir (ao xt (aj 0) (eC (.int 0)))) (gN 0) (eC (.bool true)) (ao su (ao wu (aj 1) (aj 0)) (eC (.int 1))) 1 [1]))
 (aJ (cI (itL (ao xt (aj 0) (eC (.int 1)))) (gT [(gN 3),(gN 4)]) [3,4,5] (aJ (aZ 5 (eFn Fg [(cA (itE (aj 4)) (gT [(gN 0),(gN 1)]) (eC (.bool true)) (ao Ak (ao xt (aj 2) (aj 1)) (aj 0)) 2 [2])]))
 (my 2 (ao su (ao wu (ao xt (aj 3) (eC (.int 1))) (aj 5)) (eC (.int 1))))))
 (bz (ao xt (aj 2) (ao xt (aj 0) (eC (.int 2)))))))
noncomputable def mY:B4->x8 ab:=fnR 3 (aJ (aZ 1 (aL pK [(aj 0),(eC (.int 0))]))
 (aJ (cI (itL (bR [(eC (.str "low")),(eC (.str "high")),(eC (.str "turn")),(eC (.str "rise")),(eC (.str "even"))])) (gN 2) [2] (sIf (ao eqD (cA (itL (aj 1)) (gN 0) (lZ (eUn oE (aL cX [(aj 0),(aj 1)]))) (aj 0) 1 [2]) (bR [])) (aZ 1 (ao cG (eSl (aj 1) Qh (Qo (eC (.int 5)))) (bR [(ao xt (bR [(bK [(eC (.int 2)),(eC (.int 7))]),(bK [(eC (.int 2)),(eC (.int 1))]),(bK [(eC (.int 3)),(eC (.int 127))]),(bK [(eC (.int 4)),(eC (.int 1))])]) (ao jM (aL cV [(aj 0),(eC (.int 8))]) (eC (.int 4))))]))) cu))
 (bz (aj 1))))
noncomputable def lz:B4->x8 ab:=fnR 4 (aJ (aZ 1 (ao cG (eC (.int 1)) (ao jM (aj 0) (eC (.int 4)))))
 (aJ (aZ 2 (ao xt (bR [(eC (.int 0)),(eC (.int 4)),(eC (.int 16)),(eC (.int 256)),(eC (.int 65536))]) (aj 1)))
 (aJ (aZ 3 (bR [(eC (.int 0)),(ao iQ (aj 2) (eC (.int 1))),(eC (.int 2)),(ao jM (ao lB (ao kO (aj 0) (eC (.int 20))) (eC (.int 40503))) (aj 2)),(ao jM (ao lB (ao kO (aj 0) (eC (.int 20))) (eC (.int 48271))) (aj 2))]))
 (bz (bK [(aj 1),(ao xt (aj 3) (ao jM (ao kO (aj 0) (eC (.int 4))) (eC (.int 5))))])))))
noncomputable def jH:B4->x8 ab:=fnR 4 (aJ (sIf (eOr (ao Br (aL m5 [(aj 2)]) (eC (.bool true))) (ao neD (ao xt (aj 2) (eC (.int 0))) (ao xt (aj 1) (eC (.int 0))))) (bz (eC (.bool false))) cu)
 (aJ (sIf (ao neD (cA (itL (ao xt (aj 2) (eC (.int 1)))) (gN 0) (ao lK (ao xt (aj 0) (eC (.int 0))) (aj 1)) (aj 0) 1 [0]) (bR [])) (bz (eC (.bool false))) cu)
 (aJ (cI (ir (ao Ak (eC (.int 1)) (ao xt (aj 1) (eC (.int 0))))) (gN 3) [3] (sIf (ao neD (aL tL [(aj 2),(aj 3)]) (ao su (ao wu (ao xt (aj 1) (eC (.int 1))) (aj 3)) (eC (.int 1)))) (bz (eC (.bool false))) cu))
 (bz (eC (.bool true))))))
noncomputable def vP:B4->x8 ab:=fnR 5 (aJ (aZ 1 (aL mY [(aj 0)]))
 (aJ (aZ 2 (eFn BW [(aj 1)]))
 (aJ (sIf (ao Br (aL oY [(aj 2)]) (eC (.bool true))) (bz (eC (.bool false))) cu)
 (aJ (cI (ir (ao cG (eC (.int 2)) (eFn minD [(eFn fG [(aj 0)]),(eC (.int 2))]))) (gN 3) [3,4] (aJ (aZ 4 (aL lz [(aL cV [(aj 0),(ao cG (eC (.int 10)) (aj 3))])]))
 (sIf (eOr (lZ (eUn oE (aL jH [(aj 1),(aj 4),(aL qO [(aj 2),(aj 4)])]))) (ao neD (aj 2) (aj 1))) (bz (eC (.bool false))) cu)))
 (aJ (aZ 4 (aL lz [(aL cV [(aj 0),(eC (.int 10))])]))
 (bz (aL jH [(aj 1),(aj 4),(aL qO [(aj 2),(aj 4)])])))))))
variable {h:Nat×Int}
section
theorem Cg(ns:B3)(i:ns.length<=63){k:Nat}(r:k<=10000):∃c:Int,cV [dL ns,.int (k:Nat)]= .ok (.int c):=by
 unfold cV;ext;rw[CQ]
 by_cases h:k<ns.length
 . rw[if_pos (decide_eq_true (by lia)),uZ h];ext;exact ⟨_,rfl⟩
 . rw[if_neg (by rw[decide_eq_true_eq];lia)];ext;rw[CQ];have Z:((k:Nat):Int)*(k:Nat)<=10000*10000:=Int.mul_le_mul (by lia) (by lia) (by lia) (by lia);have e:0<=((k:Nat):Int)*(k:Nat):=Int.mul_nonneg (by lia) (by lia)
   by_cases o:ns.length=0
   . rw[if_pos (decide_eq_true (by lia))];walk_at "go";exact ⟨_,rfl⟩
   . rw[if_neg (by rw[decide_eq_true_eq];lia)];have Y:(0:Int)<ns.length:=by lia
     obtain ⟨q,j,p⟩:=Fj (k:Int) Y;have hd:((k:Nat):Int) / ns.length<=10000:=xb (Int.ediv_le_self _ (by lia)) (by lia);have l:0<=((k:Nat):Int) / ns.length:=Int.ediv_nonneg (by lia) (by lia);ext;rw[bB Y];ext;rw[j,uZ (by lia)];ext;rw[bB (⟨Y,by lia⟩)];ext;rw[bB (⟨by lia,by lia⟩)];walk_at "go";exact ⟨_,rfl⟩
theorem ten(h:0<=v/\v<10):∃n:Nat,n<=4/\xt (.list [.int 2,.int 2,.int 1,.int 3,.int 2,.int 2,.int 3,.int 1,.int 0,.int 4]) (.int v)= .ok (.int (n:Nat)):=by
 have:v=0\/v=1\/v=2\/v=3\/v=4\/v=5\/v=6\/v=7\/v=8\/v=9:=by lia
 rcases this with rfl | rfl | rfl | rfl | rfl | rfl | rfl | rfl | rfl | rfl
 . exact ⟨2,by decide,rfl⟩
 . exact ⟨2,by decide,rfl⟩
 . exact ⟨1,by decide,rfl⟩
 . exact ⟨3,by decide,rfl⟩
 . exact ⟨2,by decide,rfl⟩
 . exact ⟨2,by decide,rfl⟩
 . exact ⟨3,by decide,rfl⟩
 . exact ⟨1,by decide,rfl⟩
 . exact ⟨0,by decide,rfl⟩
 . exact ⟨4,by decide,rfl⟩
theorem eight(h:0<=v/\v<8):∃x:Int,0<=x/\x<16/\xt (.list [.int 8,.int 14,.int 6,.int 7,.int 9,.int 1,.int 11,.int 2]) (.int v)= .ok (.int x):=by
 have:v=0\/v=1\/v=2\/v=3\/v=4\/v=5\/v=6\/v=7:=by lia
 rcases this with rfl | rfl | rfl | rfl | rfl | rfl | rfl | rfl <;> exact ⟨_,by decide,by decide,rfl⟩
theorem GJ{a b:Bool}:(if a=true then x8.ok (ab.bool b) else .ok (.bool false))= .ok (.bool (a&&b)):=by cases a <;> rfl
theorem acv(c:Int):∃(m:Nat) (b:Int),m<=4/\0<=b/\b<2^2^m/\qb [.int c]= .ok (dG m b):=by
 unfold qb;walk_at "go";obtain ⟨m,Y,em⟩:=ten ⟨hZ _ (by decide),gE _ (by decide)⟩;rw[em];walk_at "go";rw[Jy,GJ];have i:=two_pos (2^m);generalize (decide ((m:Int)=2)&&decide (c / 10 % 3=0))=t
 cases t with
 | true=>
  obtain ⟨x,e,Z,ex⟩:=eight ⟨hZ _ (by decide),gE _ (by decide)⟩;rw[ex];walk_at "go";exact ⟨2,x,by decide,e,Z,rfl⟩
 | false=>
  walk_at "go";rw[beyond Y];walk_at "go";exact ⟨m,_,Y,hZ _ (by lia),gE _ i,rfl⟩
theorem qS{y:Str}{t:Bool}(Z:dr (.str nm)=true)(e:dr (.str y)=true)(Y:eP (.str nm) (.str y)=t):eqD (.str nm) (.str y)= .ok (.bool t):=by
 rw[eqD,bB ⟨Z,e⟩,Y]
theorem Tr:eqD (.str "low") (.str "low")= .ok (.bool true):=qS (by decide +kernel) (by decide +kernel) (by decide +kernel)
theorem Oz:eqD (.str "low") (.str "high")= .ok (.bool false):=qS (by decide +kernel) (by decide +kernel) (by decide +kernel)
theorem Q0:eqD (.str "low") (.str "turn")= .ok (.bool false):=qS (by decide +kernel) (by decide +kernel) (by decide +kernel)
theorem Q4:eqD (.str "low") (.str "rise")= .ok (.bool false):=qS (by decide +kernel) (by decide +kernel) (by decide +kernel)
theorem Q3:eqD (.str "low") (.str "even")= .ok (.bool false):=qS (by decide +kernel) (by decide +kernel) (by decide +kernel)
theorem Qf:eqD (.str "high") (.str "low")= .ok (.bool false):=qS (by decide +kernel) (by decide +kernel) (by decide +kernel)
theorem LC:eqD (.str "high") (.str "high")= .ok (.bool true):=qS (by decide +kernel) (by decide +kernel) (by decide +kernel)
theorem Ld:eqD (.str "high") (.str "turn")= .ok (.bool false):=qS (by decide +kernel) (by decide +kernel) (by decide +kernel)
theorem Li:eqD (.str "high") (.str "rise")= .ok (.bool false):=qS (by decide +kernel) (by decide +kernel) (by decide +kernel)
theorem K6:eqD (.str "high") (.str "even")= .ok (.bool false):=qS (by decide +kernel) (by decide +kernel) (by decide +kernel)
theorem Qk:eqD (.str "turn") (.str "low")= .ok (.bool false):=qS (by decide +kernel) (by decide +kernel) (by decide +kernel)
theorem Mq:eqD (.str "turn") (.str "high")= .ok (.bool false):=qS (by decide +kernel) (by decide +kernel) (by decide +kernel)
theorem Ls:eqD (.str "turn") (.str "turn")= .ok (.bool true):=qS (by decide +kernel) (by decide +kernel) (by decide +kernel)
theorem KZ:eqD (.str "turn") (.str "rise")= .ok (.bool false):=qS (by decide +kernel) (by decide +kernel) (by decide +kernel)
theorem Mf:eqD (.str "turn") (.str "even")= .ok (.bool false):=qS (by decide +kernel) (by decide +kernel) (by decide +kernel)
theorem QR:eqD (.str "rise") (.str "low")= .ok (.bool false):=qS (by decide +kernel) (by decide +kernel) (by decide +kernel)
theorem Mp:eqD (.str "rise") (.str "high")= .ok (.bool false):=qS (by decide +kernel) (by decide +kernel) (by decide +kernel)
theorem Ms:eqD (.str "rise") (.str "turn")= .ok (.bool false):=qS (by decide +kernel) (by decide +kernel) (by decide +kernel)
theorem Mt:eqD (.str "rise") (.str "rise")= .ok (.bool true):=qS (by decide +kernel) (by decide +kernel) (by decide +kernel)
theorem Ly:eqD (.str "rise") (.str "even")= .ok (.bool false):=qS (by decide +kernel) (by decide +kernel) (by decide +kernel)
theorem OD:eqD (.str "even") (.str "low")= .ok (.bool false):=qS (by decide +kernel) (by decide +kernel) (by decide +kernel)
theorem K3:eqD (.str "even") (.str "high")= .ok (.bool false):=qS (by decide +kernel) (by decide +kernel) (by decide +kernel)
theorem K8:eqD (.str "even") (.str "turn")= .ok (.bool false):=qS (by decide +kernel) (by decide +kernel) (by decide +kernel)
theorem Lb:eqD (.str "even") (.str "rise")= .ok (.bool false):=qS (by decide +kernel) (by decide +kernel) (by decide +kernel)
theorem Lz:eqD (.str "even") (.str "even")= .ok (.bool true):=qS (by decide +kernel) (by decide +kernel) (by decide +kernel)
local macro_rules | `(tactic| walk_at "eq")=>`(tactic| simp only[Tr,Oz,Q0,Q4,Q3,Qf,LC,Ld,Li,K6,Qk,Mq,Ls,KZ,Mf,QR,Mp,Ms,Mt,Ly,OD,K3,K8,Lb,Lz])
noncomputable def vals(m:Nat)(b:Int):B3:=(List.range (2^m)).map λr=>ak b ((r:Nat):Int)
theorem ixV(Y:r<2^m):xt (dL (vals m b)) (.int (r:Nat))= .ok (.int (ak b (r:Nat))):=by
 rw[uZ (by unfold vals;simpa using Y)];unfold vals;simp[dQ Y]
theorem p2(m:Nat):(2:Int)^((m:Nat):Int).toNat=((2^m:Nat):Int):=by rw[cc];exact (k8 2 m).symm
theorem Hh(Y:m<=4):2^m<=16:=cS (eI (by decide) Y) (by decide)
theorem pos2(m:Nat):0<2^m:=sL (by decide)
theorem u0{e:ab}(Z:m<=4):cA (ir (aj 2)) (gN 0) (eC (.bool true)) (ao su (ao wu (ao xt (aj 1) (eC (.int 1))) (aj 0)) (eC (.int 1))) 1 [0] [some (dG m b),some e,some (.int ((2^m:Nat):Int)),none,none,none,none]= .ok (dL (vals m b)):=by
 have Y:=Hh Z;rw[mH (n:=2^m) (λr=>.int (ak b (r:Int))) ?_ (xC (by lia)) λr i=>?_]
 . rw[vals,acy]
 . ext;rw[dw (by lia)]
 . walk_at "go";rw[gX];rfl
theorem aex(Y:m<=4):cX [dG m b,.str "low"]= .ok (.bool (decide (ak b 0=0))):=by
 unfold cX;walk_at "go";rw[p2,mS,u0 Y];ext;walk_at "eq";ext;rw[show xt (dL (vals m b)) (.int 0)= .ok (.int (ak b 0)) from ixV (pos2 m)];ext
theorem adP(Y:m<=4):cX [dG m b,.str "high"]= .ok (.bool (decide (ak b (2^m - 1)=1))):=by
 have Z:=pos2 m;unfold cX;walk_at "go";rw[p2,mS,u0 Y];ext;walk_at "eq";ext;walk_at "eq";ext;have e:((2^m:Nat):Int) - 1=((2^m - 1:Nat):Int):=by lia
 rw[e,ixV (by lia),<- e,k8];ext;rfl
theorem say{a t:Bool}{P:Prop}(Y:t=true↔P)(h:a=true↔P):x8.ok (ab.bool a)= .ok (.bool t):=by
 have:=nV.mpr (h.trans Y.symm);rw[this]
theorem abN(Z:m<=4){t:Bool}(i:t=true↔Kp b 2 [1,2] m):cX [dG m b,.str "turn"]= .ok (.bool t):=by
 have l:=pos2 m;have j:=Hh Z;unfold cX;walk_at "go";rw[p2,mS,u0 Z];ext;walk_at "eq";ext;walk_at "eq";ext;walk_at "eq";ext;rw[GX (n:=2^m) (λr=>decide (ak b r=ak b ((2^m - 1 - r:Nat):Int))) (λr=>.int r) ?_ (xC (by lia)) (λr Y=>?_) λr Y _=>?_]
 . ext;have e:ab.list (((List.range (2^m)).filter λr=>decide (ak b (r:Nat)=ak b ((2^m - 1 - r:Nat):Int))).map λr=>ab.int (r:Nat))=dL (((List.range (2^m)).filter λr=>decide (ak b (r:Nat)=ak b ((2^m - 1 - r:Nat):Int))).map λr=>((r:Nat):Int)):=by rw[dL,cy];rfl
   rw[e,show ab.list []=dL [] from rfl,Rk];ext;refine say i ?_;rw[decide_eq_true_eq,List.map_eq_nil_iff,pv,Np];refine ⟨λh r Y=>?_,λh r Y=>?_⟩
   . have:=h r (cE.mpr Y);rw[decide_eq_true_eq] at this;rw[show (2:Int)^m - 1 - (r:Nat)=((2^m - 1 - r:Nat):Int) by rw[show (2:Int)^m=((2^m:Nat):Int) from (k8 2 m).symm];lia];exact this
   . have Y:=cE.mp Y;have:=h r Y;rw[decide_eq_true_eq];rw[show (2:Int)^m - 1 - (r:Nat)=((2^m - 1 - r:Nat):Int) by rw[show (2:Int)^m=((2^m:Nat):Int) from (k8 2 m).symm];lia] at this;exact this
 . ext;rw[dw (by lia)]
 . ext;rw[ixV Y];ext;rw[show ((2^m:Nat):Int) - 1 - r=((2^m - 1 - r:Nat):Int) by lia,ixV (by lia)];ext
 . ext
theorem J5{g:MG}{b:MS}{d:ab}:∀{xs:B4} (S:Nat->Ev) (p:Nat->Bool),(∀i x,xs[i]?=some x->((g x (S i)).bind b).bind (il cl)=if p i=true then .ok (.rt d) else .ok (.nx (S (i+1)))) ->
 forR g cl b xs (S 0)=if (List.range xs.length).any p=true then .ok (.rt d) else .ok (.nx (S xs.length))
 | [],_,_,_=>rfl
 | x::xs,S,p,h=>by
  have Y:=h 0 x rfl;have s:=J5 (λi=>S (i+1)) (λi=>p (i+1)) λi y j=>h (i+1) y j;rw[a6,vn,iq,List.any_map]
  cases Z:p 0 with
  | true=>
   rw[if_pos Z] at Y;obtain ⟨o,q,e⟩:=x8.au Y;obtain ⟨u,l,r⟩:=x8.au q;rw[xa,if_pos rfl,forR,l,x8.aP,r,x8.aP];cases o <;> cases e;rfl
  | false=>
   rw[if_neg (by rw[Z];exact dV)] at Y;rw[yR Y,s,sN];rfl
theorem RQ{α:Type}{g:MG}{b:MS}{d:ab}{f:Out->x8 α}{r:x8 α}(S:Nat->Ev)(p:Nat->Bool)(h0:Γ=S 0)(h:∀i x,ds[i]?=some x->((g x (S i)).bind b).bind (il cl)=if p i=true then .ok (.rt d) else .ok (.nx (S (i+1))))
 (e:(List.range ds.length).any p=true->f (.rt d)=r) (Z:(List.range ds.length).any p=false->f (.nx (S ds.length))=r):(forR g cl b ds Γ).bind f=r:=by
 rw[h0,J5 S p h]
 cases Y:(List.range ds.length).any p with
 | true=>rw[if_pos rfl];exact e Y
 | false=>rw[if_neg dV];exact Z Y
theorem adJ(Z:r<16)(Y:j<4):i9 (r:Nat) ((2^j:Nat):Int)=((r ||| 2^j:Nat):Int):=by
 have:∀r<16,∀j<4,i9 (r:Nat) ((2^j:Nat):Int)=((r ||| 2^j:Nat):Int):=by decide +kernel
 exact this r Z j Y
theorem ix2(h:2^i<2^m):xt (dL (vals m b)) (.int (1*2^((i:Nat):Int).toNat))= .ok (.int (ak b (2^i))):=by
 rw[p2,mS,ixV h,show ((2^i:Nat):Int)=2^i from k8 2 i]
theorem Qs:xt (dL (vals m b)) (.int 0)= .ok (.int (ak b 0)):=ixV (pos2 m)
theorem abd(q:m<=4){t:Bool}(s:t=true↔Kp b 2 [0,2,3] m):cX [dG m b,.str "rise"]= .ok (.bool t):=by
 have E:=pos2 m;have B:=Hh q;unfold cX;walk_at "go";rw[p2,mS,u0 q];ext;walk_at "eq";ext;walk_at "eq";ext;walk_at "eq";ext;rw[dw (by lia)];ext;rw[upN,pZ (d:=.bool false) (λr:Nat=>ab.int r) (λr=>(List.range m).any λk=>decide (ak b ((r ||| 2^k:Nat):Int)<ak b r)) λr Z=>?_]
 . cases Y:(List.range (2^m)).any λr=>(List.range m).any λk=>decide (ak b ((r ||| 2^k:Nat):Int)<ak b r) with
   | true=>
    rw[if_pos rfl];ext;refine say s ⟨λh=>(nomatch h),λh=>?_⟩;obtain ⟨r,Z,j⟩:=l7.mp Y;obtain ⟨k,o,p⟩:=l7.mp j;have:=Eu.mp h r k (cE.mp Z) (cE.mp o);have p:=of_decide_eq_true p;lia
   | false=>
    rw[if_neg dV];ext;refine say s ⟨λ_=>Eu.mpr λr k Z o=>?_,λ_=>rfl⟩;have z:=pe.mp Y r (cE.mpr Z);have j:=pe.mp (lb.mpr z) k (cE.mpr o);rw[decide_eq_true_eq] at j;lia
 . have Z:=cE.mp Z;ext;rw[show xt (dL (vals m b)) (.int 0)= .ok (.int (ak b 0)) from ixV (pos2 m)];ext;rw[dw (by lia)];ext;refine RQ (d:=.bool false) (λi=>[some (dG m b),some (.str "rise"),some (.int ((2^m:Nat):Int)),some (dL (vals m b)),some (.int r),some (.int (vY b r i)),none]) (λk=>decide (ak b ((r ||| 2^k:Nat):Int)<ak b r)) rfl (λi x v=>?_) (λY=>?_) λY=>?_
   . obtain ⟨u,rfl⟩:=jK v;have l:=pj Z (j2 (by decide) u);have e:2^i<2^m:=j2 (by decide) u;ext;walk_at "eq";ext;rw[ixV Z];walk_at "go";rw[p2,mS,adJ (by lia) (by lia),ixV l];walk_at "go"
     by_cases Y:ak b ((r ||| 2^i:Nat):Int)<ak b r
     . rw[decide_eq_true Y];ext
     . rw[decide_eq_false Y];walk_at "go";rw[ix2 e,Qs];ext;rw[gX];change (gd (q9 (ak r i) (ak b (2^i)+ak b 0)) (x8.ok (ab.int (ak r i*(ak b (2^i)+ak b 0))))).bind _=_;have b1:=aO r i;have D:=aO b (2^i);have C:=aO b 0;walk_at "gd";ext;rfl
   . rw[eV] at Y;rw[if_pos Y];ext
   . rw[eV] at Y;rw[if_neg (by rw[Y];exact dV),eV];ext;walk_at "eq";ext
theorem acq(j:m<=4){t:Bool}(o:t=true↔Kp b 4 gG m):cX [dG m b,.str "even"]= .ok (.bool t):=by
 have B:=pos2 m;have u:=Hh j;unfold cX;walk_at "go";rw[p2,mS,u0 j];ext;walk_at "eq";ext;walk_at "eq";ext;walk_at "eq";ext;rw[dw (by lia)];ext;rw[upN,pZ (d:=.bool false) (λr:Nat=>ab.int r) (λr=>!decide (vY b r m % 2=ak b r)) λr Y=>?_]
 . cases Z:(List.range (2^m)).any λr=>!decide (vY b r m % 2=ak b r) with
   | true=>
    rw[if_pos rfl];ext;refine say o ⟨λh=>(nomatch h),λh=>?_⟩;obtain ⟨r,Y,l⟩:=l7.mp Z;have:=Em.mp h r (cE.mp Y);rw[decide_eq_true this] at l;cases l
   | false=>
    rw[if_neg dV];ext;refine say o ⟨λ_=>Em.mpr λr Y=>?_,λ_=>rfl⟩;have q:=pe.mp Z r (cE.mpr Y);simpa using q
 . have Y:=cE.mp Y;ext;rw[Qs];ext;rw[dw (by lia)];ext;refine bJ (λi=>[some (dG m b),some (.str "even"),some (.int ((2^m:Nat):Int)),some (dL (vals m b)),some (.int r),some (.int (vY b r i)),none]) rfl (λi x p=>?_) ?_
   . obtain ⟨s,rfl⟩:=jK p;have e:2^i<2^m:=j2 (by decide) s;ext;walk_at "eq";walk_at "go";rw[ix2 e,Qs];ext;rw[gX];change (gd (q9 (ak r i) (ak b (2^i)+ak b 0)) (x8.ok (ab.int (ak r i*(ak b (2^i)+ak b 0))))).bind _=_;have b1:=aO r i;have z:=aO b (2^i);have v:=aO b 0;walk_at "gd";ext;rfl
   . rw[eV];ext;walk_at "eq";walk_at "go";rw[ixV Y];ext
     by_cases Z:vY b r m % 2=ak b r
     . rw[decide_eq_true Z];ext
     . rw[decide_eq_false Z];ext
inductive pU:Str->Nat->B3->Prop
 | low:pU "low" 1 [0]
 | high:pU "high" 1 [1]
 | turn:pU "turn" 2 [1,2]
 | rise:pU "rise" 2 [0,2,3]
 | even:pU "even" 4 gG
theorem M8(N:pU nm w rs)(Y:m<=4):cX [dG m b,.str nm]= .ok (.bool (brk b w rs m).isNone):=by
 cases N with
 | low=>rw[aex Y];exact say kh (decide_eq_true_iff.trans Rh.symm)
 | high=>rw[adP Y];exact say kh (decide_eq_true_iff.trans Mz.symm)
 | turn=>exact abN Y kh
 | rise=>exact abd Y kh
 | even=>exact acq Y kh
theorem Za{a b:ab}(e:dr a=true)(Z:dr b=true)(Y:eP a b=true):neD a b= .ok (.bool false):=by
 rw[neD,bB ⟨e,Z⟩,Y];rfl
theorem Goes.two{α:Type}{c:Bool}{x y:x8 Out}{f:Out->x8 Out}{P:Ev->Prop}(V:α->Prop)(E:α->Ev)(Y:c=true->∃v,V v/\x= .ok (.nx (E v)))(Z:c=false->∃v,V v/\y= .ok (.nx (E v)))
 (k:∀v,V v->Goes (f (.nx (E v))) P):Goes ((bS (.bool c) x y).bind f) P:=by
 cases c with
 | true=>obtain ⟨v,h,e⟩:=Y rfl;rw[N6,e];exact k v h
 | false=>obtain ⟨v,h,e⟩:=Z rfl;rw[JR,e];exact k v h
theorem pU.small(N:pU nm w rs):rs.length<=8/\w<=100:=by cases N <;> decide
noncomputable def Ks:List (Str×Nat×B3):=[("low",1,[0]),("high",1,[1]),("turn",2,[1,2]),("rise",2,[0,2,3]),("even",4,gG)]
theorem aeQ{k:Str×Nat×B3}(h:k∈Ks):pU k.1 k.2.1 k.2.2:=by
 simp only[Ks,bE,l5,or_false] at h;rcases h with rfl | rfl | rfl | rfl | rfl
 . exact .low
 . exact .high
 . exact .turn
 . exact .rise
 . exact .even
structure GOk (g:Nat×Int):Prop where
 m4:g.1<=4
 b0:0<=g.2
 b1:g.2<2^2^g.1
noncomputable def D5:B0:=[(.str "low",xy (2,8)),(.str "high",xy (2,14)),(.str "turn",xy (1,1)),(.str "rise",xy (2,8)),(.str "even",xy (2,6))]
theorem aa5(Γ:Ev):jy [("low",(bK [(eC (.int 2)),(eC (.int 8))])),("high",(bK [(eC (.int 2)),(eC (.int 14))])),("turn",(bK [(eC (.int 1)),(eC (.int 1))])),("rise",(bK [(eC (.int 2)),(eC (.int 8))])),("even",(bK [(eC (.int 2)),(eC (.int 6))]))] Γ = .ok (.dict D5):=rfl
theorem abZ(N:pU nm w rs):∃g,GOk g/\ixY (.dict D5) (.str nm)= .ok (xy g):=by
 cases N
 . exact ⟨(2,8),⟨by decide,by decide,by decide⟩,rfl⟩
 . exact ⟨(2,14),⟨by decide,by decide,by decide⟩,rfl⟩
 . exact ⟨(1,1),⟨by decide,by decide,by decide⟩,rfl⟩
 . exact ⟨(2,8),⟨by decide,by decide,by decide⟩,rfl⟩
 . exact ⟨(2,6),⟨by decide,by decide,by decide⟩,rfl⟩
theorem five(h:0<=v/\v<5):∃nm w rs,pU nm w rs/\xt (.list [.str "low",.str "high",.str "turn",.str "rise",.str "even"]) (.int v)= .ok (.str nm):=by
 have:v=0\/v=1\/v=2\/v=3\/v=4:=by lia
 rcases this with rfl | rfl | rfl | rfl | rfl
 . exact ⟨_,_,_,.low,rfl⟩
 . exact ⟨_,_,_,.high,rfl⟩
 . exact ⟨_,_,_,.turn,rfl⟩
 . exact ⟨_,_,_,.rise,rfl⟩
 . exact ⟨_,_,_,.even,rfl⟩
noncomputable def good:List A9:=[[(2,7)],[(2,1)],[(2,8),(1,1)],[(2,14),(1,1)],[(2,8),(2,6),(0,1)],[(2,13),(0,0)],[(3,23),(2,7)],[(2,2),(0,1)],[(3,202),(0,0),(0,1)],[(2,11),(1,1)],[(4,32767)]]
theorem aaJ:∀gs∈good,gs.length<=6/\∀g∈gs,g.1<=4/\0<=g.2/\g.2<2^2^g.1:=by decide +kernel
theorem aeI(ns:B3)(h:ns.length<=63):∃gs:A9,pK [dL ns,.int 0]= .ok (.list (gs.map xy))/\gs.length<=6/\∀g∈gs,GOk g:=by
 suffices z:Gives (pK [dL ns,.int 0]) λd=>∃gs:A9,d= .list (gs.map xy)/\gs.length<=6/\∀g∈gs,GOk g by
  obtain ⟨d,e,gs,rfl,h⟩:=z;exact ⟨gs,e,h⟩
 obtain ⟨c,l⟩:=Cg ns h (k:=0) (by decide);have l:cV [dL ns,.int 0]= .ok (.int c):=l;unfold pK;ext;rw[l];walk_at "go";obtain ⟨B,w,rs,N,Q⟩:=five ⟨hZ _ (by decide),gE _ (by decide)⟩;rw[Q];walk_at "go";generalize M:cG (ab.list _) (ab.list _)=X;have P:X= .ok (.list (good.map λgs=>ab.list (gs.map xy))):=by
  rw[<- M,tu (xC (by decide))];rfl
 rw[P];ext
 by_cases C:c % 4=0
 . rw[decide_eq_true C];obtain ⟨k,E,hk⟩:=Fj (c / 4) (m:=11) (by decide);have j:=by show k<11;lia
   rw[E,iT (by rw[a8,ai j];rfl)];ext;have:=aaJ good[k] (eL j);exact ⟨good[k],rfl,this.1,λg Z=>⟨(this.2 g Z).1,(this.2 g Z).2.1,(this.2 g Z).2.2⟩⟩
 . rw[decide_eq_false C];obtain ⟨q,J,S⟩:=Fj (c / 20) (m:=7) (by decide);walk_at "go";rw[J,dw (by lia)];ext;generalize ab.list (good.map λgs=>ab.list (gs.map xy))=gd0;refine vO (λi p=>∃gs:A9,p=[some (dL ns),some (.int 0),some (.int c),some (.str B),some gd0,some (.list (gs.map xy)),none,none]/\gs.length=i/\∀g∈gs,GOk g) ⟨[],rfl,rfl,λg Z=>nomatch Z⟩ (λi x p I o=>?_) λp o=>?_
   . obtain ⟨gs,rfl,r,Y⟩:=o;obtain ⟨hi,rfl⟩:=jK I;obtain ⟨d,O⟩:=Cg ns h (k:=1+i) (by lia);obtain ⟨m,b,u,b0,b1,H⟩:=acv d;ext;rw[show 0+1+i=((1+i:Nat):Int) by lia,O];ext;rw[H];walk_at "go";obtain ⟨R,s,L⟩:=abZ N;rw[M8 N u,aa5];ext;rw[Jy,GJ];ext;refine Goes.two GOk (λv=>[some (dL ns),some (.int 0),some (.int c),some (.str B),some gd0,some (.list (gs.map xy)),some (.int i),some (xy v)]) (λ_=>⟨R,s,by rw[L];rfl⟩) (λ_=>⟨(m,b),⟨u,b0,b1⟩,rfl⟩) λv D=>?_;have U:gs.length<ba:=xC (by lia);walk_at "go";refine ⟨gs++[v],by rw[aS];rfl,by rw[ar,r];rfl,λg Z=>?_⟩;rcases cf.mp Z with z | z
     . exact Y g z
     . rw[ay.mp z];exact D
   . obtain ⟨gs,rfl,r,Y⟩:=o;rw[eV] at r;ext;exact ⟨gs,rfl,by lia,Y⟩
theorem adb:eP (xy g) (xy h)=decide (g=h):=by
 refine nV.mpr ((mQ _ _ oG oG).trans ⟨λz=>decide_eq_true ?_,λz=>by rw[of_decide_eq_true z]⟩);have z:=z;injection z with z;injection z with Y z2;injection z2 with z2 _;injection Y with Y;injection z2 with z2;exact Prod.ext (wh.inj Y) z2
theorem GD:dr (xy g)=true:=jm oG Ad
theorem ac5(gs:A9):inB (xy h) (gs.map xy)=decide (h∈gs):=by
 unfold inB
 induction gs with
 | nil=>rfl
 | cons g gs Y=>
  rw[a7,iq,Y,adb]
  by_cases e:g=h
  . subst e;rw[decide_eq_true rfl,decide_eq_true bg];rfl
  . rw[decide_eq_false e,sN];exact decide_eq_decide.mpr ⟨bq _,λz=>(bE.mp z).resolve_left λq=>e q.symm⟩
theorem acV(gs:A9):(gs.map xy).all dr=true:=by
 rw[d3];intro d hd;obtain ⟨x,_,rfl⟩:=bo.mp hd;exact GD
theorem XN:lK (xy h) (.list (gs.map xy))= .ok (.bool (!decide (h∈gs))):=by
 show gd (dr (xy h)=true/\(gs.map xy).all dr=true) (x8.ok (ab.bool (!inB (xy h) (gs.map xy))))=_;rw[bB ⟨GD,acV gs⟩,ac5]
theorem j0(gs:A9):plain (.list (gs.map xy))=true:=by
 rw[Zq.plain];exact Gr λd hd=>by obtain ⟨g,_,rfl⟩:=bo.mp hd;exact oG
theorem Uz(h:∀d∈ds,d.depth<=j)(i:j<=8):(ab.list ds).depth<=64:=by
 have Z:=xY h;have Y:(ab.tuple ds).depth=kn ds+1:=by rw[ab.depth]
 have e:(ab.list ds).depth=kn ds+1:=by rw[ab.depth]
 lia
theorem nJ(gs:A9):(ab.list (gs.map xy)).depth<=64:=Uz (λd hd=>by obtain ⟨g,_,rfl⟩:=bo.mp hd;exact Tz) (by decide)
theorem Zo:eY (dN hs)=(List.range hs.length).map λi=>ab.tuple [.int (i:Nat),.int (hs.getD i 0:Nat)]:=by
 unfold eY dN;rw[af];refine bt λi Y=>?_;have Y:=cE.mp Y;rw[ae,ae,a8,ai Y];rfl
theorem l_out{n:Nat}(H:n<=4)(hs:aU n ss)(D:ss.length<=10000)(v:o<n+ss.length):tL [dC n ss o,.int (r:Nat)]= .ok (.int ((bY n ss r).getD o 0)):=by
 unfold tL dC;ext;rw[mH (n:=n) (λi=>.int (ak r i)) ?_ (xC (by lia)) λi _=>?_]
 rotate_left
 . ext;exact dw (by lia)
 . walk_at "go";rw[cc,ZM]
 ext;rw[qM,zT];refine bJ (λi=>[some (.tuple [.int n,.tuple (ss.map aD.d),.int o]),some (.int r),some (dL (bY n (ss.take i) r)),none,none,none]) rfl (λi x e=>?_) ?_
 . obtain ⟨s,p,rfl⟩:=cZ e;have ok:=hs i s p;have E:=(aI.mp p).1;have C:(bY n (ss.take i) r).length=n+i:=by rw[eU,cp];lia
   have m4:=ok.m4;have Y:=NB (n:=n) (ss:=ss.take i) (r:=r);unfold aD.d;ext;rw[jn (xs:=List.range s.ws.length) (λi=>ab.tuple [.int i,.int (s.ws.getD i 0:Nat)]) (λj=>.int ((s.ws.map λk=>(bY n (ss.take i) r).getD k 0).getD j 0*2^j)) ?_ (xC (by rw[cx,ok.len];lia)) λj Z=>?_]
   rotate_left
   . ext;rw[Ax,Zo]
   . have Z:=cE.mp Z;have J:=ok.lt s.ws[j] (eL Z);have u:s.ws.getD j 0=s.ws[j]:=by rw[ae,ai Z];rfl
     have I:=zu Y s.ws[j];ext;rw[u,uZ (by lia)];ext;rw[bB (⟨by lia,by have:=ok.len;lia,by lia⟩),cc,ae (l:=s.ws.map _),a8,ai Z];rfl
   ext;rw[qM,yE];have q:=O7 (s.ws.map λk=>(bY n (ss.take i) r).getD k 0);rw[af] at q;rw[q];have B:0<=bf (s.ws.map λk=>(bY n (ss.take i) r).getD k 0):=jG λx e=>by
    obtain ⟨k,_,rfl⟩:=bo.mp e;rcases zu Y k with z | z <;> lia
   unfold dL;ext;rw[bB B];ext;rw[bB (xC (by lia)),gX];ext;rw[nu p,iB];rw[stepV,aS];rfl
 . rw[af,dn];ext;rw[uZ (by rw[eU];exact v)];ext
theorem Yl(gs:A9):neD (.list (gs.map xy)) (.list (gs.map xy))= .ok (.bool false):=
 Za (jm (j0 gs) (nJ gs)) (jm (j0 gs) (nJ gs)) ((mQ _ _ (j0 gs) (j0 gs)).mpr rfl)
theorem YW(Y:j<=4)(C:gF gs j v W ss o)(q:W<=600):jH [.list (gs.map xy),dG j v,dC j ss o]= .ok (.bool true):=by
 have p:=C.len;have i:2^j<=16:=cS (eI (by decide) Y) (by decide);unfold jH;ext;rw[Ip,Vt Y C.ok (by lia) C.lt,show xt (dC j ss o) (.int 0)= .ok (.int (j:Nat)) from rfl];ext;rw[show Br (.bool true) (.bool true)= .ok (.bool false) from rfl];ext;rw[qz (xs:=ss) aD.d (λs=>!decide ((s.m,s.b)∈gs)) aD.d ?_ (xC (by lia)) (λs Z=>?_) λs _ _=>?_]
 rotate_left
 . ext;rfl
 . ext;rw[show xt s.d (.int 0)= .ok (xy (s.m,s.b)) from rfl];ext;exact XN
 . ext
 rw[pv.mpr λs Z=>by rw[decide_eq_true (C.gin s Z)];decide];ext;rw[show neD (.list []) (.list [])= .ok (.bool false) from Yl []];ext;rw[show (1:Int)*2^((j:Nat):Int).toNat=((2^j:Nat):Int) by rw[mS];exact p2 j,bB (⟨by lia,by lia,by lia⟩)];ext;rw[dw (by lia)];ext;refine bJ (λ_=>[some (.list (gs.map xy)),some (dG j v),some (dC j ss o),none]) rfl (λr x e=>?_) ?_
 . obtain ⟨l,rfl⟩:=jK e;ext;rw[l_out Y C.ok (by lia) C.lt,C.val r l];walk_at "go";rw[cc,gX,show v / 2^r % 2=ak v (r:Nat) from rfl,decide_eq_true rfl];rfl
 ext
theorem ae5:minD [.int (j:Nat),.int (W:Nat)]= .ok (.int (min j W:Nat)):=by
 show x8.ok (ab.int (if ((W:Nat):Int)<(j:Nat) then ((W:Nat):Int) else (j:Nat)))=_
 by_cases h:W<j
 . rw[if_pos (by lia),Nat.min_eq_right (by lia)]
 . rw[if_neg (by lia),ro (by lia)]
noncomputable def four:A9:=[(2,7),(2,1),(3,127),(4,1)]
theorem aa0:∀g∈four,(g.1<=4/\0<=g.2/\g.2<2^2^g.1)/\Ks5.all (λk=>!(brk g.2 k.2.1 k.2.2 g.1).isNone)=true:=by decide +kernel
theorem YK(hs:A9):eqD (.list (hs.map xy)) (.list [])= .ok (.bool hs.isEmpty):=by
 have Y:ab.list []= .list (([]:A9).map xy):=rfl;rw[Y]
 cases hs with
 | nil=>exact (uc (j0 _) (j0 _) (nJ _) (nJ _)).1.mpr rfl
 | cons h hs=>exact (uc (j0 _) (j0 _) (nJ _) (nJ _)).2.1.mpr λz=>by injection z with z;exact nomatch z
theorem nm5:∀k∈Ks5,pU k.1 k.2.1 k.2.2:=λk h=>aeQ h
theorem abw(ns:B3)(h:ns.length<=63):∃gs:A9,mY [dL ns]= .ok (.list (gs.map xy))/\gs.length<=6/\(∀g∈gs,GOk g)/\qg gs=true:=by
 suffices z:Gives (mY [dL ns]) λd=>∃gs:A9,d= .list (gs.map xy)/\gs.length<=6/\(∀g∈gs,GOk g)/\qg gs=true by
  obtain ⟨d,e,gs,rfl,h⟩:=z;exact ⟨gs,e,h⟩
 obtain ⟨p,O,R,M⟩:=aeI ns h;obtain ⟨c,v⟩:=Cg ns h (k:=8) (by decide);have v:cV [dL ns,.int 8]= .ok (.int c):=v;obtain ⟨q,S,B⟩:=Fj c (m:=4) (by decide);have B:=by show q<4;lia
 have o:=aa0 four[q] (eL B);unfold mY;ext;rw[O];ext;rw[show [ab.str "low",.str "high",.str "turn",.str "rise",.str "even"]=Ks5.map λk=>ab.str k.1 from rfl];refine vO (λi r=>∃gs:A9,r=[some (dL ns),some (.list (gs.map xy)),none]/\gs.length<=6/\(∀g∈gs,GOk g)/\∀k∈Ks5.take i,jN gs k.2.1 k.2.2=false) ⟨p,rfl,R,M,λk j=>nomatch j⟩ (λi x r L C=>?_) λr C=>?_
 . obtain ⟨gs,rfl,E,l,j⟩:=C;obtain ⟨k,J,rfl⟩:=cZ L;have H:=dA J;ext;rw[qz (xs:=gs) xy (λg=>!(brk g.2 k.2.1 k.2.2 g.1).isNone) xy ?_ (xC (by lia)) (λg Y=>?_) λg _ _=>?_]
   rotate_left
   . ext
   . ext;rw[M8 (nm5 k H) (l g Y).m4];rfl
   . ext
   rw[x8.aP,YK];ext;have P:(gs.filter λg=>!(brk g.2 k.2.1 k.2.2 g.1).isNone).isEmpty=jN gs k.2.1 k.2.2:=by
    rw[nV,List.isEmpty_iff,pv];rw[jN,d3];exact ⟨λz g Y=>by have:=z g Y;simpa using this,λz g Y=>by rw[z g Y];decide⟩
   rw[P];have U:=take_snoc J
   cases hb:jN gs k.2.1 k.2.2 with
   | true=>
    ext;rw[show slD (.list (gs.map xy)) none (some 5)= .ok (.list ((gs.map xy).take 5)) from Sg];ext;rw[v];ext;rw[S,show xt (.list [.tuple [.int 2,.int 7],.tuple [.int 2,.int 1],.tuple [.int 3,.int 127],.tuple [.int 4,.int 1]]) (.int (q:Nat))= .ok (xy four[q]) from iT (ds:=four.map xy) (by rw[a8,ai B];rfl)];ext;rw[qd (by rw[cp,af];show _+1<=_;lia)];ext;refine ⟨gs.take 5++[four[q]],by rw[aS,wm];rfl,by rw[ar,cp,b9];lia,λg Y=>?_,λs Z=>?_⟩
    . rcases cf.mp Y with z | z
      . exact l g (j1 z)
      . rw[ay.mp z];exact ⟨o.1.1,o.1.2.1,o.1.2.2⟩
    . have D:=j1 Z;refine lb.mpr λz=>?_;have Q:=d3.mp z four[q] (ck _ (ay.mpr rfl));have I:=d3.mp o.2 s D;rw[Q] at I;cases I
   | false=>
    ext;refine ⟨gs,rfl,E,l,λs Z=>?_⟩;rw[U] at Z;rcases cf.mp Z with z | z
    . exact j s z
    . rw[ay.mp z];exact hb
 . obtain ⟨gs,rfl,E,l,j⟩:=C;rw[af] at j;ext;refine ⟨gs,rfl,E,l,d3.mpr λk u=>?_⟩;rw[j k (by rw[dn];exact u)];rfl
theorem acK(c:Int):∃(n:Nat) (t:Int),lz [.int c]= .ok (dG n t)/\1<=n/\n<=4/\0<=t/\t<2^2^n:=by
 obtain ⟨q,l,s⟩:=Fj c (m:=4) (by decide);obtain ⟨k,e,v⟩:=Fj (c / 4) (m:=5) (by decide);have r:∃M:Nat,M=2^2^(1+q)/\4<=M/\xt (.list [.int 0,.int 4,.int 16,.int 256,.int 65536]) (.int (1+(q:Nat)))= .ok (.int (M:Nat)):=by
  have:q=0\/q=1\/q=2\/q=3:=by lia
  rcases this with rfl | rfl | rfl | rfl
  . exact ⟨4,by decide,by decide,rfl⟩
  . exact ⟨16,by decide,by decide,rfl⟩
  . exact ⟨256,by decide,by decide,rfl⟩
  . exact ⟨65536,by decide,by decide,rfl⟩
 obtain ⟨M,o,u,ix⟩:=r;have Y:(0:Int)<(M:Nat):=by lia
 have Z:(M:Int)≠0:=by lia
 unfold lz;walk_at "go";rw[l,ix];walk_at "go";rw[e];have fin:∃t:Int,xt (.list [.int 0,.int ((M:Nat) - 1),.int 2,.int (c / 20*40503 % (M:Nat)),.int (c / 20*48271 % (M:Nat))]) (.int (k:Nat))= .ok (.int t)/\0<=t/\t<(M:Nat):=by
  have:k=0\/k=1\/k=2\/k=3\/k=4:=by lia
  rcases this with rfl | rfl | rfl | rfl | rfl
  . exact ⟨_,rfl,by lia,by lia⟩
  . exact ⟨_,rfl,by lia,by lia⟩
  . exact ⟨_,rfl,by lia,by lia⟩
  . exact ⟨_,rfl,hZ _ Z,gE _ Y⟩
  . exact ⟨_,rfl,hZ _ Z,gE _ Y⟩
 obtain ⟨t,p,i,j⟩:=fin;rw[p];ext;refine ⟨1+q,t,?_,by lia,by lia,i,?_⟩
 . rw[dG,show ((1+q:Nat):Int)=1+q by lia]
 . rwa [o] at j
theorem main(ns:B3)(h:ns.length<=63):vP [.list (ns.map ab.int)]= .ok (.bool true):=by
 obtain ⟨Z,B,O,q,s⟩:=abw ns h;have e:∀g∈Z,g.1<=4/\0<=g.2/\g.2<2^2^g.1:=λg z=>⟨(q g z).m4,(q g z).b0,(q g z).b1⟩;have one:∀k:Nat,k<=10000->∃(n:Nat) (t:Int) (c:Int) (Y:List aD) (o:Nat),cV [dL ns,.int (k:Nat)]= .ok (.int c)/\lz [.int c]= .ok (dG n t)/\qO [.list (Z.map xy),dG n t]= .ok (dC n Y o)/\jH [.list (Z.map xy),dG n t,dC n Y o]= .ok (.bool true):=λk L=>by
  obtain ⟨c,v⟩:=Cg ns h L;obtain ⟨n,t,M,J,u,C,H⟩:=acK c;obtain ⟨Y,o,I,E⟩:=aaV e (by lia) s u J C H;exact ⟨n,t,c,Y,o,v,M,I,YW u E (by decide)⟩
 show vP [dL ns]=_;unfold vP;ext;rw[B];ext;rw[Xf λg z=>(e g z).1,s];ext;rw[show Br (.bool true) (.bool true)= .ok (.bool false) from rfl];ext;rw[show minD [.int (ns.length:Nat),.int 2]=_ from ae5];ext;rw[show 2+(min ns.length 2:Nat)=((2+min ns.length 2:Nat):Int) by lia,dw (by lia)];ext;refine bJ (λ_=>[some (dL ns),some (.list (Z.map xy)),some (.list (Z.map xy)),none,none]) rfl (λi x D=>?_) ?_
 . obtain ⟨P,rfl⟩:=jK D;obtain ⟨n,t,c,Y,o,j,p,r,l⟩:=one (10+i) (by lia);ext;rw[show 10+i=((10+i:Nat):Int) by lia,j];ext;rw[p];ext;rw[r];ext;rw[l];ext;rw[Yl];ext
 obtain ⟨n,t,c,Y,o,j,p,r,l⟩:=one 10 (by decide);have j:cV [dL ns,.int 10]= .ok (.int c):=j;ext;rw[j];ext;rw[p];ext;rw[r];ext;rw[l];ext
end
noncomputable def top(i:Nat):Stmt:=PySem.Challenge.pw_gatekin_k44_every_wish_built.main.body.getD i (.Pass ⟨0,0,0,0⟩)
noncomputable abbrev dE(x:Str)(n:Nat):Str×Nat:=(x,n)
noncomputable def defs:List (Str×Nat):=[dE "is_whole" 6,dE "is_below" 7,dE "is_tuple" 8,dE "row_count" 9,dE "table_limit" 10,dE "full_table" 11,dE "is_gate" 12,dE "bit" 13,dE "number_of" 14,dE "input_table" 15,dE "input_tables" 16,dE "put_all" 17,dE "put" 18,dE "with_set" 19,dE "is_step" 22,dE "is_circuit" 23,dE "renamed" 25,dE "add_circuit" 26,dE "replaced" 27,dE "without_doubles" 28,dE "used_wires" 29,dE "without_unused" 30,dE "shared" 31,dE "marked" 35,dE "put_rows" 36,dE "power" 37,dE "list_count" 38,dE "lists_of" 39,dE "broken" 40,dE "fresh_lists" 41,dE "refuse_too_many" 42,dE "kind" 46,dE "first_breach" 47,dE "kinds" 48,dE "add_tree" 50,dE "tree_circuit" 51,dE "offer" 53,dE "first_ways" 54,dE "ways_from" 55,dE "way_circuit" 57,dE "makes_all" 62,dE "opposite" 63,dE "side" 64,dE "plain_tree" 65,dE "wish_tree" 66,dE "tables_at_hand" 67,dE "first_giving" 68,dE "nand_circuit" 69,dE "build" 70,dE "_law_cell_at" 72,dE "_law_gate" 73,dE "_law_keeps" 74,dE "_law_set" 75,dE "_law_out" 76,dE "_law_good" 77,dE "_law_wish" 78,dE "_law_right" 79]
noncomputable def V8:B6:=["all", "bool", "enumerate", "int", "isinstance", "len", "list", "min", "range", "reversed", "sum", "tuple", "zip"]
inductive Al (K:av):List (Str×Nat)->Prop
 | nil:Al K []
 | cons {x:Str}{i:Nat}{l:List (Str×Nat)} (a:Fnd K x (top i)) (t:Al K l):Al K ((x,i)::l)
variable {K:av}
theorem Al.get{l:List (Str×Nat)}(h:Al K l)(m:(nm,i)∈l):Fnd K nm (top i):=by
 induction h with
 | nil=>cases m
 | cons a t Y=>
  cases m with
  | head=>exact a
  | tail _ m=>exact Y m
inductive Ah (K:av):B6->Prop
 | nil:Ah K []
 | cons {x:Str}{l:B6} (a:gp K d5 x=some none) (t:Ah K l):Ah K (x::l)
theorem Ah.get{l:B6}(h:Ah K l)(m:nm∈l):gp K d5 nm=some none:=by
 induction h with
 | nil=>cases m
 | cons a t Y=>
  cases m with
  | head=>exact a
  | tail _ m=>exact Y m
structure Ctx (K:av) (mg:Str->B7) where
 h:Heap
 X:K.In h
 G:h.Ns d5 mg
 F:Al K defs
 N:Ah K V8
 W:At K mg "ways" (top 56) ["gates", "inputs"]
 Cj:a0
 aeb:mg "AND"= some Cj
 Be:lC K 9 zm Cj=true
 uV:a0
 Oh:mg "KINDS"= some uV
 qJ:lC K 9 pL uV=true
 pH:a0
 yx:mg "MOST_CLOSED_ROWS"= some pH
 xU:xh (.int 128) pH
 wM:a0
 wI:mg "MOST_INPUTS"= some wM
 wC:xh (.int 4) wM
 xM:a0
 xT:mg "MOST_LISTS"= some xM
 yl:xh (.int 20000) xM
 xQ:a0
 Im:mg "MOST_STEPS"= some xQ
 Iu:xh (.int 600) xQ
 xf:a0
 xN:mg "NAND"= some xf
 nj:lC K 9 dO xf=true
 Dm:a0
 PN:mg "NOT"= some Dm
 vH:lC K 9 gk Dm=true
 zU:Addr
 K4:mg "RELATIONS"= some (.ref zU)
 lE:Kd K zU pR=true
 T:Addr
 hT:TabAt K mg T
variable {mg:Str->B7}
theorem Ctx.n(C:Ctx K mg)(m:nm∈V8:=by decide +kernel):mg nm=none:=PySem.W.mg_none_of C.X C.G (C.N.get m)
theorem Ctx.f{n:Nat}{ps:B6}(C:Ctx K mg)(m:(nm,n)∈defs:=by decide +kernel)
 (b:∀(kV Z pm:a0) (e:C4) (Y ct:a0) (us:B8),us.length=ps.length->iA (d4 nm nm (cD (top n)) (bU (top n)) (aM (top n)) .none kV Z pm e Y ct) ⟨us,[]⟩=pure (ps.zip us):=by first | exact acC (by intros;rfl) rfl | exact Vg (by intros;rfl) rfl | exact abp (by intros;rfl) rfl | exact acI (by intros;rfl) rfl):At K mg nm (top n) ps:=(C.F.get m).at C.X C.G b
theorem acf:eh "all"= some (.builtin "all"):=by decide +kernel
theorem aa4:eh "bool"= some (.type "bool"):=by decide +kernel
theorem ac1:eh "int"= some (.type "int"):=by decide +kernel
theorem eF:eh "len"= some (.builtin "len"):=by decide +kernel
theorem qW:eh "list"= some (.type "list"):=by decide +kernel
theorem acr:eh "min"= some (.builtin "min"):=by decide +kernel
theorem Jc:eh "range"= some (.type "range"):=by decide +kernel
theorem HJ:eh "sum"= some (.builtin "sum"):=by decide +kernel
theorem eZ:eh "tuple"= some (.type "tuple"):=by decide +kernel
section
variable {P:fq}{w:i8}   {base:Heap}
theorem uG(C:Ctx K mg):Def P w K mg base 1 "is_whole" ["thing"] (spF K [.xl] .f fQ):=
 bN (top 6) ["thing"] [.xl] C.f λnd Y=>
 (aB (bh (wV (CJ aaF rfl C.n (aq 0) (Hq rfl C.n ac1)) (Dc (acM (CJ Vs rfl C.n (aq 0) (Hq rfl C.n aa4)))))))
theorem lQ(C:Ctx K mg):Def P w K mg base 2 "is_below" ["thing", "bound"] (spF K [.xl,.xl] .f iK):=
 bN (top 7) ["thing", "bound"] [.xl,.xl] C.f λnd Y=>
 (aB (bh (wV (bH (uG C) Y (aN 0 aA)) (Dc (Xi aey Hw sI (aq 0) (aq 1))))))
theorem oJ(C:Ctx K mg):Def P w K mg base 1 "is_tuple" ["thing", "length"] (spF K [.xl,.xl] .f jA):=
 bN (top 8) ["thing", "length"] [.xl,.xl] C.f λnd Y=>
 (aB (bh (wV (CJ Gg rfl C.n (aq 0) (Hq rfl C.n eZ)) (Dc (xZ (d7 Y.units) (sp (b7 fW rfl C.n eF (aN 0 aA))) (aq 1) (xu _))))))
theorem rF(C:Ctx K mg):Def P w K mg base 1 "row_count" ["inputs"] (spF K [.xl] .f jJ):=
 bN (top 9) ["inputs", "count", "j"] [.xl,.xo,.xo] C.f λnd Y=>
 (aV (bD 1 nd fY)
  (aV (d8 [2] (gM rfl C.n (aq 0)) (cJ 2 nd) (aB (bD 1 nd (aK iM sI (aq 1)))))
  (aB (bh (bc 1)))))
theorem vd(C:Ctx K mg):Def P w K mg base 1 "table_limit" ["inputs"] (spF K [.xl] .f jD):=
 bN (top 10) ["inputs", "limit", "j"] [.xl,.xo,.xo] C.f λnd Y=>
 (aV (bD 1 nd fY)
  (aV (d8 [2] (gM rfl C.n (aq 0)) (cJ 2 nd) (aB (bD 1 nd (aK iM (aq 1) (aq 1)))))
  (aB (bh (bc 1)))))
theorem lW(C:Ctx K mg):Def P w K mg base 2 "full_table" ["inputs"] (spF K [.xl] .f gZ):=
 bN (top 11) ["inputs"] [.xl] C.f λnd Y=>
 (aB (bh (aK iJ (sp (bH (vd C) Y (aN 0 aA))) sI)))
theorem O3(C:Ctx K mg):Def P w K mg base 3 "is_gate" ["thing"] (spF K [.xl] .f tU):=
 bN (top 12) ["thing"] [.xl] C.f λnd Y=>
 (aB (bh (wV (bH (oJ C) Y (aN 0 (bw sI aA))) (wV (bH (lQ C) Y (bw (sp (sx 0)) (bw (sp (aK cj (sp (oH rfl C.wI C.wC (λ_=>Rp.int.mpr rfl))) sI)) aA))) (Dc (bH (lQ C) Y (bw (sp (sx 0)) (bw (sp (bH (vd C) Y (bw (sp (sx 0)) aA))) aA))))))))
theorem TY(C:Ctx K mg):Def P w K mg base 1 "bit" ["number", "place"] (spF K [.xl,.xl] .f Dg):=
 bN (top 13) ["number", "place"] [.xl,.xl] C.f λnd Y=>
 (aB (bh (aK pg (sp (aK u9 (aq 0) (aq 1))) sI)))
theorem Jo(C:Ctx K mg):Def P w K mg base 1 "number_of" ["figures"] (spF K [.xl] .f o4):=
 bN (top 14) ["figures", "number", "figure"] [.xl,.xo,.xo] C.f λnd Y=>
 (aV (bD 1 nd fY)
  (aV (d8 [2] (adk rfl C.n (gY 0)) (cJ 2 nd) (aB (bD 1 nd (aK cj (sp (aK iM sI (aq 1))) (aq 2)))))
  (aB (bh (bc 1)))))
theorem Ed(C:Ctx K mg):Def P w K mg base 2 "input_table" ["inputs", "j"] (spF K [.xl,.xl] .f lX):=
 bN (top 15) ["inputs", "j"] [.xl,.xl] C.f λnd Y=>
 (aB (bh (bH (Jo C) Y (bw (sfp (dX ["row"] [1] rfl rfl rfl rfl (by decide) (jZ rfl C.n (sp (bH (rF C) Y (aN 0 aA)))) (λ_ _ _ _ _=>(c7 0 (show fo (["row", "j"]:B6) by decide +kernel) rfl (gz rfl))) (λ_ _ _ _ _=>dM) (λ_ _ _ _ _=>(bH (TY C) Y (aN 0 (aN 1 aA)))))) aA))))
theorem uh(C:Ctx K mg):Def P w K mg base 3 "input_tables" ["inputs"] (spF K [.xl] .t jg):=
 bN (top 16) ["inputs"] [.xl] C.f λnd Y=>
 (aB (qT (dX ["j"] [0] rfl rfl rfl rfl (by decide) (jZ rfl C.n (aq 0)) (λ_ _ _ _ _=>(c7 0 (show fo (["j", "inputs"]:B6) by decide +kernel) rfl (gz rfl))) (λ_ _ _ _ _=>dM) (λ_ _ _ _ _=>(bH (Ed C) Y (aN 1 (aN 0 aA)))))))
theorem Cv(C:Ctx K mg):Def P w K mg base 2 "put_all" ["gate", "numbers", "full"] (spF K [.xl,.xl,.xl] .f pC):=
 bN (top 17) ["gate", "numbers", "full", "given", "number"] [.xl,.xl,.xl,.xo,.xo] C.f λnd Y=>
 (aV (bD 3 nd (sfe (dX ["place"] [2,0] rfl rfl rfl rfl (by decide) (jZ rfl C.n (sp (bH (rF C) Y (bw (sp (sx 0)) aA)))) (λ_ _ _ _ _=>(c7 0 (show fo (["place", "full", "gate"]:B6) by decide +kernel) rfl (gz rfl))) (λ_ _ _ _ _=>dM) (λ_ _ _ _ _=>(aK iM (aq 1) (sp (bH (TY C) Y (bw (sp (sx 2)) (aN 0 aA)))))))))
  (aV (d8 [4] (fc (gY 1)) (cJ 4 nd) (aB (bD 3 nd (sfe (dX ["k"] [3,4] rfl rfl rfl rfl (by decide) (Uk rfl C.n sI (sp (b7 fW rfl C.n eF (aN 3 aA))) sI) (λ_ _ _ _ _=>(c7 0 (show fo (["k", "given", "number"]:B6) by decide +kernel) rfl (gz rfl))) (λ_ _ _ _ _=>dM) (λ_ _ _ _ _=>(aK X4 (sp (aK pg (sp (dF (aq 1) (aq 0))) (sp (adw (aq 2))))) (sp (aK pg (sp (dF (aq 1) (sp (aK cj (aq 0) sI)))) (aq 2))))))))))
  (aB (bh (sx 3)))))
theorem Bg(C:Ctx K mg):Def P w K mg base 3 "put" ["gate", "tables", "inputs"] (spF K [.xl,.xl,.xl] .f o8):=
 bN (top 18) ["gate", "tables", "inputs"] [.xl,.xl,.xl] C.f λnd Y=>
 (aB (bh (bH (Cv C) Y (aN 0 (aN 1 (bw (sp (bH (lW C) Y (aN 2 aA))) aA))))))
theorem zV(C:Ctx K mg):Def P w K mg base 4 "with_set" ["gate", "j", "w"] (spF K [.xl,.xo,.xl] .f jt):=
 bN (top 19) ["gate", "j", "w", "inputs", "tables"] [.xl,.xo,.xl,.xo,.own] C.f λnd Y=>
 (aV (bD 3 nd (aK iJ (sp (sx 0)) sI))
  (aV (eO 4 nd (rW (uh C) Y (aN 3 aA)))
  (aV (abT 4 (bc 1) (QQ (cL (d7 Y.units) (aq 2) sI) (bH (lW C) Y (aN 3 aA)) fY))
  (aB (bh (bA (aC (bc 3) (aC (bH (Bg C) Y (aN 0 (aN 4 (aN 3 aA)))) aH))))))))
theorem QX(C:Ctx K mg):Def P w K mg base 4 "is_step" ["thing", "bound"] (spF K [.xl,.xl] .f tX):=
 bN (top 22) ["thing", "bound", "gate"] [.xl,.xl,.xo] C.f λnd Y=>
 (aV (bW (lR (vN (j4 (j8 (sp (bH (oJ C) Y (aN 0 (bw sI aA)))))) (sJ (j4 (j8 (sp (bH (O3 C) Y (bw (sp (sx 0)) aA)))))))) (aB (bh gK)) bO)
  (aV (bD 2 nd (sx 0))
  (aV (bW (j4 (j8 (sp (bH (oJ C) Y (bw (sp (sx 0)) (bw (sp (sx 2)) aA)))))) (aB (bh gK)) bO)
  (aB (bh (b7 (abb rfl) rfl C.n acf (bw (sfp (dX ["wire"] [1] rfl rfl rfl rfl (by decide) (lM (sp (sx 0))) (λ_ _ _ _ _=>(c7 0 (show fo (["wire", "bound"]:B6) by decide +kernel) rfl (gz rfl))) (λ_ _ _ _ _=>dM) (λ_ _ _ _ _=>(bH (lQ C) Y (aN 0 (aN 1 aA)))))) aA)))))))
theorem G8(C:Ctx K mg):Def P w K mg base 5 "is_circuit" ["thing"] (spF K [.xl] .f m5):=
 bN (top 23) ["thing", "inputs", "steps", "s", "step"] [.xl,.xo,.xo,.xo,.xo] C.f λnd Y=>
 (aV (bW (lR (vN (j4 (j8 (sp (bH (oJ C) Y (aN 0 (bw sI aA)))))) (sJ (j4 (j8 (sp (bH (lQ C) Y (bw (sp (sx 0)) (bw (sp (aK cj (sp (oH rfl C.wI C.wC (λ_=>Rp.int.mpr rfl))) sI)) aA))))))))) (aB (bh gK)) bO)
  (aV (bD 1 nd (sx 0))
  (aV (bD 2 nd (sx 0))
  (aV (bW (lR (vN (j4 (abr (CJ Gg rfl C.n (aq 2) (Hq rfl C.n eZ)))) (sJ (cL zy (sp (b7 fW rfl C.n eF (aN 2 aA))) (sp (oH rfl C.Im C.Iu (λ_=>Rp.int.mpr rfl))))))) (aB (bh gK)) bO)
  (aV (d8 [3,4] (Ey rfl C.n (gY 2)) (pG rfl (oM (cJ 3 nd) (oM (cJ 4 nd) mF))) (aB (bW (j4 (j8 (sp (bH (QX C) Y (aN 4 (bw (sp (aK cj (aq 1) (aq 3))) aA)))))) (aB (bh gK)) bO)))
  (aB (bh (bH (lQ C) Y (bw (sp (sx 0)) (bw (sp (aK cj (aq 1) (sp (b7 fW rfl C.n eF (aN 2 aA))))) aA))))))))))
theorem vm(C:Ctx K mg):Def P w K mg base 1 "renamed" ["step", "names"] (spF K [.xl,.xl] .f jl):=
 bN (top 25) ["step", "names"] [.xl,.xl] C.f λnd Y=>
 (aB (bh (bA (aC (sx 0) (aC (fC gr rfl C.n eZ (bw (sfp (dX ["wire"] [1] rfl rfl rfl rfl (by decide) (lM (sp (sx 0))) (λ_ _ _ _ _=>(c7 0 (show fo (["wire", "names"]:B6) by decide +kernel) rfl (gz rfl))) (λ_ _ _ _ _=>dM) (λ_ _ _ _ _=>(pB Y.cW (aq 1) (aq 0) (λ_ _=>rfl))))) aA)) aH)))))
theorem nT:cM ["steps", "inputs", "circuit", "starts", "names", "step"] ["steps", "inputs", "circuit", "starts"] (aM (top 26)):=sck
theorem gO(C:Ctx K mg):Def P w K mg base 2 "add_circuit" ["steps", "inputs", "circuit", "starts"] (spM K [.xl,.xl,.xl,.xl] 0 dq):=
 EY (N:=["steps", "inputs", "circuit", "starts", "names", "step"]) (fs:=[.xl,.xl,.xl,.xl]) (O:=λp=>[.fix p,.xl,.xl,.xl,.own,.xo]) (O':=λ_=>[]) (Ol:=[]) (j:=0) (C.f (n:=26)) nT rfl (by decide) (λ_=>rfl) (λp=>of_decide_eq_true rfl) λp f Y A xD s H E Z=>
 (bL (eO 4 nT.nd (t8 Es rfl C.n qW (aN 3 aA)))
  (bL (km fg rfl [5] (fc (sq (sx 2))) (cJ 5 nT.nd) (bL (jB 0 (bH (vm C) Z (aN 5 (aN 4 aA))))
  (aB (jB 4 (aK iJ (sp (aK cj (aq 1) (sp (b7 fW rfl C.n eF (aN 0 aA))))) sI)))) Bw)
  (aB (DN 0 rfl (dF (aq 4) (sp (sx 2)))))))
theorem lG:cM ["circuit", "kit", "inputs", "names", "steps", "step"] ["circuit", "kit"] (aM (top 27)):=sck
theorem Ml(C:Ctx K mg):Def P w K mg base 3 "replaced" ["circuit", "kit"] (spT K .xl .f m9):=
 T6 (N:=["circuit", "kit", "inputs", "names", "steps", "step"]) (f0:=.xl) (o0:=.xl) (O:=[.xo,.own,.own,.xo]) (O':=[]) (Ol:=[]) (rm:=.f) (C.f (n:=27)) lG rfl (by decide) (.inr ⟨rfl,rfl⟩) λf Z A xD s H E Y=>
 (bL (bD 2 lG.nd (sx 0))
  (bL (eO 3 lG.nd (Gj rfl rfl C.n qW rfl C.n Jc (aq 2)))
  (bL (eO 4 lG.nd (bC aH))
  (bL (km fg rfl [5] (fc (sq (sx 0))) (cJ 5 lG.nd) (aB (Od 3 4 (by decide) (iy 4 (gO C) (Y.mono (by decide)) rfl (jE 4 (dZ (gY 2) (dZ (sq (adH 1 Y.cW (sx 5) (λ_ _=>rfl))) (dZ (sq (sfe (dX ["wire"] [3] rfl rfl rfl rfl (by decide) (lM (sp (sx 5))) (λ_ _ _ _ _=>(c7 0 (show fo (["wire", "names"]:B6) by decide +kernel) rfl (gz rfl))) (λ_ _ _ _ _=>dM) (λ_ _ _ _ _=>(dF (aq 1) (aq 0)))))) jC)))) rfl rfl rfl (by decide)))) (by decide))
  (aB (bh (bA (aC (bc 2) (aC (fC gr rfl C.n eZ (aN 4 aA)) (aC (dF (aq 3) (sp (sx 0))) aH))))))))))
theorem yG(C:Ctx K mg):Def P w K mg base 2 "without_doubles" ["circuit"] (spF K [.xl] .f iV):=
 bN (top 28) ["circuit", "inputs", "names", "steps", "stayed", "old", "step"] [.xl,.xo,.own,.own,.own,.xo,.xo] C.f λnd Y=>
 (bL (bD 1 nd (sx 0))
  (bL (eO 2 nd (Gj rfl rfl C.n qW rfl C.n Jc (aq 1)))
  (bL (eO 3 nd (bC aH))
  (bL (aaz 4 (O1:=[.xl,.xo,.own,.own,.own,.xo,.xo]) (eO 4 nd qQ))
  (bL (km fg rfl [5,6] (fc (sq (sx 0))) (cJ 5 nd) (bL (bD 6 nd (bH (vm C) Y (aN 5 (aN 2 aA))))
  (bL (bW (Sy 4 Y.cW (bc 6)) (bL (ZZ 4 Y.cW (bc 6) (aK cj (aq 1) (sp (b7 fW rfl C.n eF (aN 3 aA)))))
  (aB (jB 3 (bc 6)))) bO)
  (aB (jB 2 (abQ 4 Y.cW (bc 6) (λ_ _=>rfl)))))) (by decide))
  (aB (bh (bA (aC (bc 1) (aC (fC gr rfl C.n eZ (aN 3 aA)) (aC (dF (aq 2) (sp (sx 0))) aH)))))))))))
theorem Ha(C:Ctx K mg):Def P w K mg base 1 "used_wires" ["circuit"] (spF K [.xl] .t m8):=
 bN (top 29) ["circuit", "inputs", "steps", "used", "s", "wire"] [.xl,.xo,.xo,.own,.xo,.xo] C.f λnd Y=>
 (aV (bD 1 nd (sx 0))
  (aV (bD 2 nd (sx 0))
  (aV (eO 3 nd (YF (sx 0) gK))
  (aV (d8 [4,5] (S7 rfl C.n (sp (aK iJ (sp (b7 fW rfl C.n eF (aN 2 aA))) sI)) (sp (Tt sI)) (sp (Tt sI))) (cJ 4 nd) (aB (bW (q8 (Tq Y.cW) (sp (aK cj (aq 1) (aq 4))) (aq 3) rfl) (aB (d8 [5] (fc (sq (dF (sp (dF (aq 2) (aq 4))) sI))) (cJ 5 nd) (aB (qN 3 Y.cW (bc 5) gK)))) bO)))
  (aB (nQ 3))))))
theorem pY(C:Ctx K mg):Def P w K mg base 2 "without_unused" ["circuit"] (spF K [.xl] .f fL):=
 bN (top 30) ["circuit", "inputs", "used", "names", "j", "steps", "s", "step"] [.xl,.xo,.xo,.own,.xo,.own,.xo,.xo] C.f λnd Y=>
 (aV (bD 1 nd (sx 0))
  (aV (bD 2 nd (sfe (rW (Ha C) Y (aN 0 aA))))
  (aV (eO 3 nd qQ)
  (aV (d8 [4] (gM rfl C.n (aq 1)) (cJ 4 nd) (aB (qN 3 Y.cW (bc 4) (bc 4))))
  (aV (eO 5 nd (bC aH))
  (aV (d8 [6,7] (Ey rfl C.n (sq (sx 0))) (pG rfl (oM (cJ 6 nd) (oM (cJ 7 nd) mF))) (aB (bW (q8 (Tq Y.cW) (sp (aK cj (aq 1) (aq 6))) (aq 2) rfl) (aV (jB 5 (bH (vm C) Y (aN 7 (aN 3 aA))))
  (aB (qN 3 Y.cW (aK cj (aq 1) (aq 6)) (aK iJ (sp (aK cj (aq 1) (sp (b7 fW rfl C.n eF (aN 5 aA))))) sI)))) bO)))
  (aB (bh (bA (aC (bc 1) (aC (fC gr rfl C.n eZ (aN 5 aA)) (aC (pB Y.cW (aq 3) (sp (sx 0)) (λ_ _=>rfl)) aH))))))))))))
theorem GC(C:Ctx K mg):Def P w K mg base 3 "shared" ["circuit"] (spF K [.xl] .f nZ):=
 bN (top 31) ["circuit"] [.xl] C.f λnd Y=>
 (aB (bh (bH (pY C) Y (bw (sp (bH (yG C) Y (aN 0 aA))) aA))))
theorem Sd(C:Ctx K mg):Def P w K mg base 1 "marked" ["rows"] (spF K [.xl] .t vD):=
 bN (top 35) ["rows", "marks", "row"] [.xl,.own,.xo] C.f λnd Y=>
 (aV (eO 1 nd qQ)
  (aV (d8 [2] (fc (gY 0)) (cJ 2 nd) (aB (qN 1 Y.cW (bc 2) gK)))
  (aB (nQ 1))))
theorem LR(C:Ctx K mg):Def P w K mg base 3 "put_rows" ["gate", "rows", "width"] (spF K [.xl,.xl,.xl] .f qm):=
 bN (top 36) ["gate", "rows", "width"] [.xl,.xl,.xl] C.f λnd Y=>
 (aB (bh (bH (Cv C) Y (aN 0 (aN 1 (bw (sp (aK iJ (sp (bH (rF C) Y (aN 2 aA))) sI)) aA))))))
theorem Vb(C:Ctx K mg):Def P w K mg base 1 "power" ["base", "exponent"] (spF K [.xl,.xl] .f zB):=
 bN (top 37) ["base", "exponent", "product", "j"] [.xl,.xl,.xo,.xo] C.f λnd Y=>
 (aV (bD 2 nd fY)
  (aV (d8 [3] (gM rfl C.n (aq 1)) (cJ 3 nd) (aB (bD 2 nd (aK iM (aq 0) (aq 2)))))
  (aB (bh (bc 2)))))
theorem wH(C:Ctx K mg):Def P w K mg base 2 "list_count" ["count", "gates"] (spF K [.xl,.xl] .f je):=
 bN (top 38) ["count", "gates"] [.xl,.xl] C.f λnd Y=>
 (aB (bh (b7 (Ij rfl) rfl C.n HJ (bw (sfp (dX ["gate"] [0] rfl rfl rfl rfl (by decide) (lM (aq 1)) (λ_ _ _ _ _=>(c7 0 (show fo (["gate", "count"]:B6) by decide +kernel) rfl (gz rfl))) (λ_ _ _ _ _=>dM) (λ_ _ _ _ _=>(bH (Vb C) Y (aN 1 (bw (sp (sx 0)) aA)))))) aA))))
theorem uo(C:Ctx K mg):Def P w K mg base 1 "lists_of" ["choices"] (spF K [.xl] .f iG):=
 bN (top 39) ["choices", "lists", "rows", "longer", "chosen", "row"] [.xl,.xo,.xo,.own,.xo,.xo] C.f λnd Y=>
 (bL (bD 1 nd (sfe (bC (aC (sfe (bC aH)) aH))))
  (bL (km fg rfl [2,3,4,5] (fc (gY 0)) (cJ 2 nd) (bL (eO 3 nd (bC aH))
  (bL (km fg rfl [4,5] (fc (gY 1)) (cJ 4 nd) (aB (km fg rfl [5] (fc (gY 2)) (cJ 5 nd) (aB (jB 3 (aK cj (aq 4) (sfp (bC (aC (bc 5) aH)))))) (by decide))) (by decide))
  (aB (RJ 3 (O2:=[.xl,.xo,.xo,.xo,.xo,.xo]) (bD 1 nd (bc 3)))))) (by decide))
  (aB (bh (bc 1)))))
theorem Uc(C:Ctx K mg):Def P w K mg base 4 "broken" ["gate", "relation"] (spF K [.xo,.xl] .f rO):=
 bN (top 40) ["gate", "relation", "width", "rows", "marks", "chosen"] [.xo,.xl,.xo,.xo,.xo,.xo] C.f λnd Y=>
 (aV (bD 2 nd (sx 1))
  (aV (bD 3 nd (sx 1))
  (aV (bW (cL zy (sp (bH (wH C) Y (bw (sp (b7 fW rfl C.n eF (aN 3 aA))) (bw (sfp (bC (aC (bc 0) aH))) aA)))) (sp (oH rfl C.xT C.yl (λ_=>Rp.int.mpr rfl)))) (aB Ik) bO)
  (aV (bD 4 nd (sfe (rW (Sd C) Y (aN 3 aA))))
  (aV (d8 [5] (fc (sq (bH (uo C) Y (bw (sfp (CG (bC (aC (bc 3) aH)) (sp (sx 0)))) aA)))) (cJ 5 nd) (aB (bW (q8 (pA Y.cW) (sp (bH (LR C) Y (aN 0 (aN 5 (aN 2 aA))))) (aq 4) rfl) (aB (bh (bc 5))) bO)))
  (aB (bh lL)))))))
theorem Dy(C:Ctx K mg):Def P w K mg base 2 "fresh_lists" ["old", "fresh", "length"] (spF K [.xo,.xo,.xl] .t lU):=
 bN (top 41) ["old", "fresh", "length", "lists", "place"] [.xo,.xo,.xl,.own,.xo] C.f λnd Y=>
 (aV (eO 3 nd (bC aH))
  (aV (d8 [4] (gM rfl C.n (aq 2)) (cJ 4 nd) (aB (aaq 3 (bH (uo C) Y (bw (sp (aK cj (sp (aK cj (sfp (CG (bC (aC (bc 0) aH)) (aq 4))) (sfp (bC (aC (bc 1) aH))))) (sfp (CG (bC (aC (aK cj (aq 0) (aq 1)) aH)) (sp (aK iJ (sp (aK iJ (aq 2) (aq 4))) sI)))))) aA)))))
  (aB (nQ 3))))
theorem xV:cM ["count", "gates"] ["count", "gates"] (aM (top 42)):=sck
theorem xF(C:Ctx K mg):Def P w K mg base 3 "refuse_too_many" ["count", "gates"] (spF K [.xl,.xl] .f fB):=
 aaf (N:=["count", "gates"]) (fs:=[.xl,.xl]) (O:=[.xl,.xl]) (O':=[.xl,.xl]) (Ol:=[]) (rm:=.f) (C.f (n:=42)) xV rfl (by decide) (by decide) (hrm:=rfl) (hbody:=λf Y A xD s H E Z=>
 (aB (bW (lR (vN (cL zy (aq 0) (sp (oH rfl C.yx C.xU (λ_=>Rp.int.mpr rfl)))) (sJ (cL zy (sp (bH (wH C) Z (aN 0 (aN 1 aA)))) (sp (oH rfl C.xT C.yl (λ_=>Rp.int.mpr rfl))))))) (aB Ik) bO)))
theorem aap(C:Ctx K mg):Def P w K mg base 1 "kind" ["name"] (spF K [.xl] .f Kh):=
 bN (top 46) ["name"] [.xl] C.f λnd Y=>
 (aB (bh (adm rfl C.K4 C.lE (aq 0) (λ_ _=>rfl))))
theorem BJ(C:Ctx K mg):Def P w K mg base 5 "first_breach" ["gates", "relation"] (spF K [.xl,.xl] .f jk):=
 bN (top 47) ["gates", "relation", "number", "gate", "rows"] [.xl,.xl,.xo,.xo,.xo] C.f λnd Y=>
 (aV (d8 [2,3,4] (Ey rfl C.n (gY 0)) (pG rfl (oM (cJ 2 nd) (oM (cJ 3 nd) mF))) (aV (bD 4 nd (bH (Uc C) Y (eX (bc 3) (aN 1 aA))))
  (aB (bW (cL MP (aq 4) (sp lL)) (aB (bh (bA (aC (bc 2) (aC (bc 4) aH))))) bO))))
  (aB (bh lL)))
theorem IV(C:Ctx K mg):Def P w K mg base 6 "kinds" ["gates"] (spF K [.xl] .t uQ):=
 bN (top 48) ["gates"] [.xl] C.f λnd Y=>
 (aB (qT (dX ["name"] [0] rfl rfl rfl rfl (by decide) (lM (sp (kI rfl C.Oh C.qJ))) (λ_ _ _ _ _=>(c7 0 (show fo (["name", "gates"]:B6) by decide +kernel) rfl (gz rfl))) (λ_ _ _ _ _=>dM) (λ_ _ _ _ _=>(bH (BJ C) Y (aN 1 (bw (sp (bH (aap C) Y (aN 0 aA))) aA)))))))
theorem oO:cM ["steps", "inputs", "tree", "ends", "part"] ["steps", "inputs", "tree"] (aM (top 50)):=sck
theorem zY(C:Ctx K mg):∀fu:Nat,Def P w K mg base (2+fu) "add_tree" ["steps", "inputs", "tree"] (spM K [.xl,.xl,.xo] 0 (jq fu))
 | 0=>VH (k:=1) (C.f (n:=50)) oO
 | fu+1=>have Y:=zY C fu
 EY (k:=2+fu) (N:=["steps", "inputs", "tree", "ends", "part"]) (fs:=[.xl,.xl,.xo]) (O:=λp=>[.fix p,.xl,.xo,.own,.xo]) (O':=λ_=>[]) (Ol:=[]) (j:=0) (C.f (n:=50)) oO rfl (by decide) (λ_=>rfl) (λp=>of_decide_eq_true rfl) λp f e A xD s H E Z=>
 (bL (bW (j8 (sp (jL (uG C) (Z.mono (by lia)) rfl (aN 2 aA)))) (aB (DN 0 rfl (bc 2))) bO)
  (bL (eO 3 oO.nd (bC aH))
  (bL (km fg rfl [4] (fc (sq (sx 2))) (cJ 4 oO.nd) (aB (Od 3 0 (by decide) (iy 0 Y (Z.mono (by lia)) rfl (jE 0 (dZ (gY 1) (o9 (bc 4) jC))) rfl rfl rfl (by decide)))) Bw)
  (bL (jB 0 (bA (aC (sx 2) (aC (fC gr rfl C.n eZ (aN 3 aA)) aH))))
  (aB (DN 0 rfl (aK iJ (sp (aK cj (aq 1) (sp (b7 fW rfl C.n eF (aN 0 aA))))) sI)))))))
theorem Dn(C:Ctx K mg):Def P w K mg base 103 "tree_circuit" ["tree", "inputs"] (spF K [.xo,.xo] .f jb):=
 bN (top 51) ["tree", "inputs", "steps", "out"] [.xo,.xo,.own,.xo] C.f λnd Y=>
 (aV (eO 2 nd (bC aH))
  (aV (En 3 2 nd rfl (gz rfl) (iy 2 (zY C 100) (Y.mono (by decide)) rfl (jE 2 (dZ (gY 1) (o9 (bc 0) jC))) rfl rfl rfl (by decide)) (of_decide_eq_true rfl))
  (aB (bh (bA (aC (bc 1) (aC (fC gr rfl C.n eZ (aN 2 aA)) (aC (bc 3) aH))))))))
theorem Wc:cM ["waiting", "table", "way"] ["waiting", "table", "way"] (aM (top 53)):=sck
theorem Av(C:Ctx K mg):Def P w K mg base 1 "offer" ["waiting", "table", "way"] (spM K [.xl,.xo,.xo] 0 mJ):=
 WN (N:=["waiting", "table", "way"]) (fs:=[.xl,.xo,.xo]) (O:=λp=>[.fix p,.xo,.xo]) (O':=λp=>[.fix p,.xo,.xo]) (Ol:=[]) (j:=0) (C.f (n:=53)) Wc rfl (by decide) (λ_=>rfl) (λp=>of_decide_eq_true rfl) (λ_=>rfl) λp f Z A xD s H E Y=>
 (aB (bW (lR (vN (q8 (pA Y.cW) (aq 1) (aq 0) rfl) (sJ (cL Hw (sp (sx 2)) (sp (dF (sp (pB Y.cW (aq 0) (aq 1) (λ_ _=>rfl))) sI)))))) (aB (qN 0 Y.cW (bc 1) (bc 2))) bO))
theorem G3(C:Ctx K mg):Def P w K mg base 4 "first_ways" ["gates", "inputs"] (spF K [.xl,.xl] .t jX):=
 bN (top 54) ["gates", "inputs", "waiting", "table", "gate"] [.xl,.xl,.own,.xo,.xo] C.f λnd Y=>
 (aV (eO 2 nd qQ)
  (aV (d8 [3] (fc (sq (sfe (rW (uh C) Y (aN 1 aA))))) (cJ 3 nd) (aB (KD 2 (iy 2 (Av C) (Y.mono (by decide)) rfl (jE 2 (o9 (bc 3) (o9 (bA (bu (aC lL (aC (bA aH) aH)))) jC))) rfl rfl rfl (by decide)))))
  (aV (d8 [4] (fc (gY 0)) (cJ 4 nd) (aB (bW (cL (d7 Y.units) (sp (sx 4)) sI) (aB (KD 2 (iy 2 (Av C) (Y.mono (by decide)) rfl (jE 2 (o9 (bH (Bg C) Y (aN 4 (bw (sfp (bC aH)) (aN 1 aA)))) (o9 (bA (bu (aC (bc 4) (aC (bA aH) aH)))) jC))) rfl rfl rfl (by decide)))) bO)))
  (aB (nQ 2)))))
theorem JF(C:Ctx K mg):Def P w K mg base 4 "ways_from" ["found", "table", "gate", "inputs"] (spF K [.xl,.xo,.xo,.xl] .t jF):=
 bN (top 55) ["found", "table", "gate", "inputs", "old", "told", "chosen", "given", "cost"] [.xl,.xo,.xo,.xl,.xo,.own,.xo,.xo,.xo] C.f λnd Y=>
 (bL (Wl 0 4 ["known"] [1] rfl nd rfl (gz rfl) rfl rfl rfl rfl (by decide) (Z8 0) (λ_ _ _ _ _=>(c7 0 (show fo (["known", "table"]:B6) by decide +kernel) rfl (gz rfl))) (λ_ _ _ _ _=>(vL (cL (yL Y.units) (aq 0) (aq 1)))) (λ_ _ _ _ _=>(bc 0)))
  (bL (eO 5 nd (bC aH))
  (bL (RJ 4 (O2:=[.xl,.xo,.xo,.xl,.xo,.own,.xo,.xo,.xo]) (km fg rfl [6,7,8] (fc (sq (sfe (rW (Dy C) Y (eX (bc 4) (eX (sfe (bC (aC (bc 1) aH))) (bw (sp (sx 2)) aA))))))) (cJ 6 nd) (bL (bD 7 nd (bH (Bg C) Y (aN 2 (aN 6 (aN 3 aA)))))
  (aB (bW (q8 (pA Y.cW) (aq 7) (aq 0) rfl) (bL (bD 8 nd (aK cj sI (sp (b7 (Ij rfl) rfl C.n HJ (bw (sfp (dX ["part"] [0] rfl rfl rfl rfl (by decide) (lM (aq 6)) (λ_ _ _ _ _=>(c7 0 (show fo (["part", "found"]:B6) by decide +kernel) rfl (gz rfl))) (λ_ _ _ _ _=>dM) (λ_ _ _ _ _=>(dF (sp (pB Y.cW (aq 1) (aq 0) (λ_ _=>rfl))) sI)))) aA)))))
  (aB (jB 5 (bA (aC (bc 7) (aC (bA (aC (bc 8) (aC (bc 2) (aC (fC gr rfl C.n eZ (aN 6 aA)) aH)))) aH)))))) bO))) (by decide)))
  (aB (nQ 5)))))
theorem nW:cM ["gates", "inputs", "found", "waiting", "table", "gate", "given", "way"] ["gates", "inputs"] (aM (top 56)):=sck
theorem Zw(C:Ctx K mg):Def P w K mg base 5 "ways" ["gates", "inputs"] (spF K [.xl,.xl] .t pq):=
 aas (N:=["gates", "inputs", "found", "waiting", "table", "gate", "given", "way"]) (fs:=[.xl,.xl]) (O:=[.xl,.xl,.own,.own,.xo,.xo,.xo,.xo]) (O':=[]) (Ol:=[]) (rm:=.t) C.W C.hT nW rfl (by decide) (by decide) λf e A xD s H E Z Y=>
 (aV (eO 2 nW.nd qQ)
  (aV (eO 3 nW.nd (rW (G3 C) Y (aN 0 (aN 1 aA))))
  (aV (aem 1000000 [4,5,6,7] (cL zy (sp (b7 DK rfl C.n eF (aN 3 aA))) sI) (aV (bD 4 nW.nd (aaS 3 rfl rfl rfl Y rfl Z C.hT rfl rfl C.n rfl rfl rfl rfl rfl (λ_ _ _ _ _ _=>rfl)))
  (aV (Uv 2 3 4 Y.cW (by decide) (by decide) (by decide))
  (aV (aeO (sp (bH (xF C) Y (bw (sp (b7 DK rfl C.n eF (aN 2 aA))) (aN 0 aA)))))
  (aB (d8 [5,6,7] (fc (gY 0)) (cJ 5 nW.nd) (aB (d8 [6,7] (fc (sq (sfe (rW (JF C) Y (aN 2 (eX (bc 4) (eX (bc 5) (aN 1 aA)))))))) (pG rfl (oM (cJ 6 nW.nd) (oM (cJ 7 nW.nd) mF))) (aB (KD 3 (iy 3 (Av C) (Y.mono (by decide)) rfl (jE 3 (o9 (bc 6) (o9 (bc 7) jC))) rfl rfl rfl (by decide))))))))))))
  (aB (nQ 2)))))
theorem DG(C:Ctx K mg):Def P w K mg base 3 "way_circuit" ["found", "table", "inputs"] (spF K [.xl,.xl,.xo] .f iu):=
 bN (top 57) ["found", "table", "inputs", "wires", "steps", "known", "way"] [.xl,.xl,.xo,.own,.own,.xo,.xo] C.f λnd Y=>
 (aV (eO 3 nd qQ)
  (aV (eO 4 nd (bC aH))
  (aV (aaU 0 rfl (by repeat first | exact afX | exact ab1 | exact abk | exact abj | apply acz | apply ad7) fg rfl [5,6] (Wo 0) (pG rfl (oM (cJ 5 nd) (oM (cJ 6 nd) mF))) (aV (qN 3 Y.cW (bc 5) (b7 DK rfl C.n eF (aN 3 aA)))
  (aB (bW (cL MP (sp (sx 6)) (sp lL)) (aB (jB 4 (bA (aC (sx 6) (aC (fC gr rfl C.n eZ (bw (sfp (dX ["part"] [3] rfl rfl rfl rfl (by decide) (lM (sp (sx 6))) (λ_ _ _ _ _=>(c7 0 (show fo (["part", "wires"]:B6) by decide +kernel) rfl (gz rfl))) (λ_ _ _ _ _=>dM) (λ_ _ _ _ _=>(pB Y.cW (aq 1) (aq 0) (λ_ _=>rfl))))) aA)) aH))))) bO))) (by decide))
  (aB (bh (bH (pY C) Y (bw (sp (bA (aC (bc 2) (aC (fC gr rfl C.n eZ (aN 4 aA)) (aC (pB Y.cW (aq 3) (aq 1) (λ_ _=>rfl)) aH))))) aA)))))))
theorem JQ(C:Ctx K mg):Def P w K mg base 7 "makes_all" ["gates"] (spF K [.xl] .f oY):=
 bN (top 62) ["gates"] [.xl] C.f λnd Y=>
 (aB (bh (xZ (pA Y.cW) (sp lL) (sfp (rW (IV C) Y (aN 0 aA))) rfl)))
theorem lO(C:Ctx K mg):Def P w K mg base 2 "opposite" ["tree"] (spF K [.xo] .f cH):=
 bN (top 63) ["tree"] [.xo] C.f λnd Y=>
 (aV (bW (lR (yg (j4 (j8 (sp (bH (uG C) Y (aN 0 aA))))) (uJ (cL (d7 Y.units) (sp (sx 0)) (sp (kI rfl C.PN C.vH)))))) (aB (bh (dF (sp (sx 0)) sI))) bO)
  (aB (bh (bA (aC (kI rfl C.PN C.vH) (aC (bA (aC (bc 0) aH)) aH))))))
theorem aav(C:Ctx K mg){pt:B4->x8 ab}{kk:Nat}(e:5<=kk)(Y:Def P w K mg base kk "plain_tree" ["wish"] (spF K [.xl] .f pt)):Def P w K mg base (kk+1) "side" ["half", "there"] (spF K [.xl,.xo] .t (sG pt)):=
 bN (k:=kk) (top 64) ["half", "there"] [.xl,.xo] C.f λnd Z=>
 (aV (bW (cL (d7 Z.units) (sp (sx 0)) sI) (aB (qT (bC aH))) bO)
  (aV (bW (cL (d7 Z.units) (sp (sx 0)) (sp (jL (lW C) (Z.mono (by lia)) rfl (bw (sp (sx 0)) aA)))) (aB (qT (bC (aC (jL (lO C) (Z.mono (by lia)) rfl (eX (bc 1) aA)) aH)))) bO)
  (aB (qT (bC (aC (bA (aC (kI rfl C.xN C.nj) (aC (bA (aC (bc 1) (aC (jL Y (Z.mono (by lia)) rfl (aN 0 aA)) aH))) aH))) aH))))))
theorem Hb:cM ["wish", "last", "low", "high", "sides"] ["wish"] (aM (top 65)):=sck
theorem wL(C:Ctx K mg):∀fu:Nat,Def P w K mg base (5+2*fu) "plain_tree" ["wish"] (spF K [.xl] .f (cF fu))
 | 0=>ZK (k:=4) (C.f (n:=65)) Hb
 | fu+1=>have Y:=wL C fu
 have Z:=aav C (kk:=5+2*fu) (by lia) Y
 bN (k:=5+2*fu+1) (top 65) ["wish", "last", "low", "high", "sides"] [.xl,.xo,.xo,.xo,.xo] C.f λnd e=>
 (aV (bD 1 nd (aK iJ (sp (sx 0)) sI))
  (aV (bD 2 nd (jL (zV C) (e.mono (by lia)) rfl (aN 0 (eX (bc 1) (bw sI aA)))))
  (aV (bD 3 nd (jL (zV C) (e.mono (by lia)) rfl (aN 0 (eX (bc 1) (bw sI aA)))))
  (aV (bW (cL (d7 e.units) (aq 2) (aq 3)) (aB (bh (jL Y (e.mono (by lia)) rfl (aN 2 aA)))) bO)
  (aV (bD 4 nd (aK cj (sfp (Er Z (e.mono (by lia)) rfl (aN 2 (eX (jL (lO C) (e.mono (by lia)) rfl (eX (bc 1) aA)) aA)))) (sfp (Er Z (e.mono (by lia)) rfl (aN 3 (eX (bc 1) aA))))))
  (aV (bW (cL (d7 e.units) (sp (b7 fW rfl C.n eF (aN 4 aA))) sI) (aB (bh (jL (lO C) (e.mono (by lia)) rfl (eX (sx 4) aA)))) bO)
  (aB (bh (bA (aC (kI rfl C.xN C.nj) (aC (fC gr rfl C.n eZ (aN 4 aA)) aH)))))))))))
theorem Js(C:Ctx K mg):Def P w K mg base 22 "wish_tree" ["wish"] (spF K [.xl] .f oX):=
 bN (top 66) ["wish", "always"] [.xl,.xo] C.f λnd Y=>
 (aV (bD 1 nd (bA (aC (kI rfl C.xN C.nj) (aC (bA (bu (aC (bH (lO C) Y (eX fY aA)) aH))) aH))))
  (aV (bW (cL (d7 Y.units) (sp (sx 0)) (sp (bH (lW C) Y (bw (sp (sx 0)) aA)))) (aB (bh (bc 1))) bO)
  (aB (bh (QQ (cL (d7 Y.units) (sp (sx 0)) sI) (bH (lO C) Y (eX (bc 1) aA)) (bH (wL C 8) Y (aN 0 aA)))))))
theorem zN:cM ["steps", "lone"] ["steps", "lone"] (aM (top 67)):=sck
theorem zH(C:Ctx K mg):Def P w K mg base 3 "tables_at_hand" ["steps", "lone"] (spM K [.xl,.xl] 0 jo):=
 EY (N:=["steps", "lone"]) (fs:=[.xl,.xl]) (O:=λp=>[.fix p,.xl]) (O':=λ_=>[]) (Ol:=[]) (j:=0) (C.f (n:=67)) zN rfl (by decide) (λ_=>rfl) (λp=>of_decide_eq_true rfl) λp f Z A xD s H E Y=>
 (aB (UT 0 rfl (gW.ev fY (gW.ev fY (gW.cl (iy 0 (gO C) (Y.mono (by decide)) rfl (jE 0 (dZ (sq fY) (dZ (sq (sx 1)) (dZ (sq (sfe (bC (bu aH)))) jC)))) rfl rfl rfl (by decide)) (gW.cl (iy 0 (gO C) (Y.mono (by decide)) rfl (jE 0 (dZ (sq fY) (dZ (sq (sx 1)) (dZ (sq (sfe (bC (bu aH)))) jC)))) rfl rfl rfl (by decide)) (gW.cl (iy 0 (gO C) (Y.mono (by decide)) rfl (jE 0 (dZ (sq fY) (dZ (sq (sx 1)) (dZ (sq (sfe (bC (bu aH)))) jC)))) rfl rfl rfl (by decide)) (gW.cl (iy 0 (gO C) (Y.mono (by decide)) rfl (jE 0 (dZ (sq fY) (dZ (sq (sx 1)) (dZ (sq (sfe (bC (bu aH)))) jC)))) rfl rfl rfl (by decide)) gW.nil)))))) rfl rfl (λz=>nomatch z) (by decide)))
theorem tZ(C:Ctx K mg):Def P w K mg base 4 "first_giving" ["gate", "lists", "wanted"] (spF K [.xl,.xl,.xl] .f jj):=
 bN (top 68) ["gate", "lists", "wanted", "chosen"] [.xl,.xl,.xl,.xo] C.f λnd Y=>
 (aV (d8 [3] (fc (gY 1)) (cJ 3 nd) (aB (bW (cL (d7 Y.units) (sp (bH (Bg C) Y (aN 0 (aN 3 (bw sI aA))))) (aq 2)) (aB (bh (bc 3))) bO)))
  (aB (bh lL)))
theorem Cy(C:Ctx K mg):Def P w K mg base 5 "nand_circuit" ["gate", "lone"] (spF K [.xo,.xl] .f fO):=
 bN (top 69) ["gate", "lone", "steps", "wires", "lists", "direct", "chosen", "out"] [.xo,.xl,.own,.xo,.xo,.xo,.xo,.xo] C.f λnd Y=>
 (aV (eO 2 nd (bC aH))
  (aV (En 3 2 nd rfl (rf rfl) (iy 2 (zH C) (Y.mono (by decide)) rfl (jE 2 (dZ (gY 1) jC)) rfl rfl rfl (by decide)) (of_decide_eq_true rfl))
  (aV (bD 4 nd (bH (uo C) Y (bw (sfp (CG (bC (aC (sfe (t8 (Vn rfl) rfl C.n qW (aN 3 aA))) aH)) (sp (sx 0)))) aA)))
  (aV (bD 5 nd (bH (tZ C) Y (aN 0 (aN 4 (bw (sp (dF (sp (kI rfl C.xN C.nj)) sI)) aA)))))
  (aV (bD 6 nd (QQ (cL JG (aq 5) (sp lL)) (bH (tZ C) Y (aN 0 (aN 4 (bw (sp (dF (sp (kI rfl C.aeb C.Be)) sI)) aA)))) (bc 5)))
  (aV (jB 2 (bA (aC (bc 0) (aC (fC gr rfl C.n eZ (bw (sfp (dX ["table"] [3] rfl rfl rfl rfl (by decide) (lM (aq 6)) (λ_ _ _ _ _=>(c7 0 (show fo (["table", "wires"]:B6) by decide +kernel) rfl (gz rfl))) (λ_ _ _ _ _=>dM) (λ_ _ _ _ _=>(pB Y.cW (aq 1) (aq 0) (λ_ _=>rfl))))) aA)) aH))))
  (aV (bD 7 nd (aK cj (sp (b7 fW rfl C.n eF (aN 2 aA))) sI))
  (aV (bW (cL JG (aq 5) (sp lL)) (aB (En 7 2 nd rfl (gz rfl) (iy 2 (gO C) (Y.mono (by decide)) rfl (jE 2 (dZ (sq fY) (dZ (sq (sx 1)) (dZ (sq (sfe (bC (aC (bc 7) aH)))) jC)))) rfl rfl rfl (by decide)) (of_decide_eq_true rfl))) bO)
  (aB (bh (bH (GC C) Y (bw (sp (bA (bu (aC (fC gr rfl C.n eZ (aN 2 aA)) (aC (bc 7) aH))))) aA))))))))))))
theorem JH(C:Ctx K mg):Def P w K mg base 104 "build" ["gates", "wish"] (spF K [.xl,.xl] .f qO):=
 bN (top 70) ["gates", "wish", "breaches", "name", "breach", "found", "lone", "breaker", "kit"] [.xl,.xl,.xo,.xo,.xo,.xo,.xo,.xo,.xo] C.f λnd Y=>
 (bL (bD 2 nd (sfe (rW (IV C) Y (aN 0 aA))))
  (bL (km fg rfl [3,4] (Zi rfl C.n (kI rfl C.Oh C.qJ) (bc 2)) (pG rfl (mj (cJ 3 nd) (mj (cJ 4 nd) mF))) (aB (bW (cL JG (aq 4) (sp lL)) (aB Ik) bO)) (by decide))
  (bL (bD 5 nd (sfe (rW (Zw C) Y (aN 0 (bw sI aA)))))
  (bL (aaG 6 ["table"] [5] nd rfl (gz rfl) rfl rfl rfl rfl (by decide) (jZ rfl C.n sI) (λ_ _ _ _ _=>(c7 0 (show fo (["table", "found"]:B6) by decide +kernel) rfl (gz rfl))) (λ_ _ _ _ _=>dM) (λ_ _ _ _ _=>(bH (DG C) Y (aN 1 (aN 0 (eX fY aA))))))
  (bL (bD 7 nd (dF (aq 0) (sp (dF (sp (sx 2)) sI))))
  (bL (acF 8 Y.cW nd rfl (gz rfl) (ni.cons (kI rfl C.PN C.vH) (sx 6) (ni.cons (kI rfl C.xN C.nj) (bH (Cy C) Y (eX (bc 7) (aN 6 aA))) ni.nil)) rfl rfl (λz=>nomatch z) (by decide) (of_decide_eq_true rfl))
  (aB (bh (bH (GC C) Y (bw (sp (Ws 8 rfl (Ml C) (Y.mono (by decide)) rfl (sp (bH (Dn C) Y (eX (bH (Js C) Y (aN 1 aA)) (eX (sx 1) aA)))))) aA))))))))))
theorem ji(C:Ctx K mg):Def P w K mg base 1 "_law_cell_at" ["_law_script", "_law_k"] (spF K [.xl,.xl] .f cV):=
 bN (top 72) ["_law_script", "_law_k"] [.xl,.xl] C.f λnd Y=>
 (aV (bW (cL Hw (aq 1) (sp (b7 fW rfl C.n eF (aN 0 aA)))) (aB (bh (dF (aq 0) (aq 1)))) bO)
  (aV (bW (cL (d7 Y.units) (sp (b7 fW rfl C.n eF (aN 0 aA))) sI) (aB (bh (aK cj (sp (aK iM (sp (aK iM (aq 1) (aq 1))) sI)) (sp (aK iM sI (aq 1)))))) bO)
  (aB (bh (aK cj (sp (aK jf (sp (dF (aq 0) (sp (aK gA (aq 1) (sp (b7 fW rfl C.n eF (aN 0 aA))))))) (sp (aK cj sI (sp (aK jf (aq 1) (sp (b7 fW rfl C.n eF (aN 0 aA))))))))) (sp (aK iM (sp (aK iM (aq 1) (aq 1))) sI)))))))
theorem K1(C:Ctx K mg):Def P w K mg base 1 "_law_gate" ["_law_cell"] (spF K [.xo] .f qb):=
 bN (top 73) ["_law_cell", "_law_inputs", "_law_some"] [.xo,.xo,.xo] C.f λnd Y=>
 (aV (bD 1 nd (dF (sfp (bC (bu (bu (bu (bu (bu (bu (bu (bu (bu (bu aH)))))))))))) (sp (aK gA (aq 0) sI))))
  (aV (bD 0 nd (aK jf (aq 0) sI))
  (aV (bD 2 nd (sfe (bC (bu (bu (bu (bu (bu (bu (bu (bu aH)))))))))))
  (aV (bW (lR (yg (cL (d7 Y.units) (aq 1) sI) (uJ (cL (d7 Y.units) (sp (aK gA (aq 0) sI)) sI)))) (aB (bh (bA (bu (aC (dF (aq 2) (sp (aK gA (sp (aK jf (aq 0) sI)) sI))) aH))))) bO)
  (aB (bh (bA (aC (bc 1) (aC (aK gA (sp (aK cj (sp (aK iM (sp (aK jf (aq 0) sI)) sI)) (aq 0))) (sp (dF (sfp (bC (bu (bu (bu (bu (bu aH))))))) (aq 1)))) aH)))))))))
theorem yr(C:Ctx K mg):Def P w K mg base 1 "_law_keeps" ["_law_gate_here", "_law_name"] (spF K [.xl,.xl] .f cX):=
 bN (top 74) ["_law_gate_here", "_law_name", "_law_rows", "_law_values", "_law_row", "_law_total", "_law_k"] [.xl,.xl,.xo,.xo,.xo,.xo,.xo] C.f λnd Y=>
 (aV (bD 2 nd (aK yC sI (sp (sx 0))))
  (aV (bD 3 nd (sfe (dX ["_law_row"] [0] rfl rfl rfl rfl (by decide) (jZ rfl C.n (aq 2)) (λ_ _ _ _ _=>(c7 0 (show fo (["_law_row", "_law_gate_here"]:B6) by decide +kernel) rfl (gz rfl))) (λ_ _ _ _ _=>dM) (λ_ _ _ _ _=>(aK pg (sp (aK u9 (sp (sx 1)) (aq 0))) sI)))))
  (aV (bW (cL (d7 Y.units) (aq 1) (sp gV)) (aB (bh (xZ (d7 Y.units) (sp (sx 3)) sI (xu _)))) bO)
  (aV (bW (cL (d7 Y.units) (aq 1) (sp gV)) (aB (bh (xZ (d7 Y.units) (sp (dF (aq 3) (sp (aK iJ (aq 2) sI)))) sI (xu _)))) bO)
  (aV (bW (cL (d7 Y.units) (aq 1) (sp gV)) (aB (bh (xZ (d7 Y.units) (sfp (dX ["_law_row"] [3,2] rfl rfl rfl rfl (by decide) (jZ rfl C.n (aq 2)) (λ_ _ _ _ _=>(c7 0 (show fo (["_law_row", "_law_values", "_law_rows"]:B6) by decide +kernel) rfl (gz rfl))) (λ_ _ _ _ _=>(vL (cL (d7 Y.units) (sp (dF (aq 1) (aq 0))) (sp (dF (aq 1) (sp (aK iJ (sp (aK iJ (aq 2) sI)) (aq 0)))))))) (λ_ _ _ _ _=>(bc 0)))) (sfp (bC aH)) (xu _)))) bO)
  (aV (d8 [4,5,6] (gM rfl C.n (aq 2)) (cJ 4 nd) (aV (bD 5 nd (sx 3))
  (aV (d8 [6] (gM rfl C.n (sp (sx 0))) (cJ 6 nd) (aV (bW (lR (yg (cL (d7 Y.units) (aq 1) (sp gV)) (uJ (cL zy (sp (dF (aq 3) (aq 4))) (sp (dF (aq 3) (sp (aK X4 (aq 4) (sp (aK yC sI (aq 6))))))))))) (aB (bh gK)) bO)
  (aB (bD 5 nd (aK cj (aq 5) (sp (aK iM (sp (aK pg (sp (aK u9 (aq 4) (aq 6))) sI)) (sp (aK cj (sp (dF (aq 3) (sp (aK yC sI (aq 6))))) (sp (sx 3)))))))))))
  (aB (bW (lR (yg (cL (d7 Y.units) (aq 1) (sp gV)) (uJ (cL (yL Y.units) (sp (aK gA (aq 5) sI)) (sp (dF (aq 3) (aq 4))))))) (aB (bh gK)) bO)))))
  (aB (bh gK))))))))
theorem Qz(C:Ctx K mg):Def P w K mg base 2 "_law_set" ["_law_script", "_law_start"] (spF K [.xl,.xl] .t pK):=
 bN (top 75) ["_law_script", "_law_start", "_law_first", "_law_name", "_law_good_here", "_law_found", "_law_k", "_law_gate_here"] [.xl,.xl,.xo,.xo,.xo,.own,.xo,.xo] C.f λnd Y=>
 (aV (bD 2 nd (bH (ji C) Y (aN 0 (aN 1 aA))))
  (aV (bD 3 nd (dF (sfp (bC (aC gV (aC gV (aC gV (aC gV (aC gV aH))))))) (sp (aK gA (sp (aK jf (aq 2) sI)) sI))))
  (aV (bD 4 nd (sfe (bC (aC (sfe (bC (aC (bA (bu (bu aH))) aH))) (aC (sfe (bC (aC (bA (bu (bu aH))) aH))) (aC (sfe (bC (aC (bA (bu (bu aH))) (aC (bA (bu (bu aH))) aH)))) (aC (sfe (bC (aC (bA (bu (bu aH))) (aC (bA (bu (bu aH))) aH)))) (aC (sfe (bC (aC (bA (bu (bu aH))) (aC (bA (bu (bu aH))) (aC (bA (bu (bu aH))) aH))))) (aC (sfe (bC (aC (bA (bu (bu aH))) (aC (bA (bu (bu aH))) aH)))) aH)))))))))
  (aV (bD 4 nd (aK cj (aq 4) (sfp (bC (aC (sfe (bC (aC (bA (bu (bu aH))) (aC (bA (bu (bu aH))) aH)))) (aC (sfe (bC (aC (bA (bu (bu aH))) (aC (bA (bu (bu aH))) aH)))) (aC (sfe (bC (aC (bA (bu (bu aH))) (aC (bA (bu (bu aH))) (aC (bA (bu (bu aH))) aH))))) (aC (sfe (bC (aC (bA (bu (bu aH))) (aC (bA (bu (bu aH))) aH)))) (aC (sfe (bC (aC (bA (bu (bu aH))) aH))) aH)))))))))
  (aV (bW (cL (d7 Y.units) (sp (aK gA (aq 2) sI)) sI) (aB (qT (t8 Es rfl C.n qW (bw (sp (dF (aq 4) (sp (aK gA (sp (aK jf (aq 2) sI)) sI)))) aA)))) bO)
  (aV (eO 5 nd (bC aH))
  (aV (d8 [6,7] (gM rfl C.n (sp (aK gA (sp (aK jf (aq 2) sI)) sI))) (cJ 6 nd) (aV (bD 7 nd (bH (K1 C) Y (eX (bH (ji C) Y (aN 0 (bw (sp (aK cj (sp (aK cj (aq 1) sI)) (aq 6))) aA))) aA)))
  (aV (bW (lR (yg (cL Hw (sp (aK gA (aq 2) sI)) sI) (uJ (j4 (j8 (sp (bH (yr C) Y (aN 7 (aN 3 aA))))))))) (aB (bD 7 nd (pB Y.cW (sp (Zg (jQ.cons (bA (bu (bu aH))) (jQ.cons (bA (bu (bu aH))) (jQ.cons (bA (bu (bu aH))) (jQ.cons (bA (bu (bu aH))) (jQ.cons (bA (bu (bu aH))) jQ.nil))))) (by decide +kernel) (λz=>nomatch z) (by decide))) (aq 3) (λ_ _=>rfl)))) bO)
  (aB (jB 5 (bc 7))))))
  (aB (nQ 5)))))))))
theorem O8(C:Ctx K mg):Def P w K mg base 1 "_law_out" ["_law_circuit", "_law_row"] (spF K [.xl,.xl] .f tL):=
 bN (top 76) ["_law_circuit", "_law_row", "_law_found", "_law_gate_here", "_law_some", "_law_at"] [.xl,.xl,.own,.xo,.xo,.xo] C.f λnd Y=>
 (bL (eO 2 nd (dX ["_law_j"] [1] rfl rfl rfl rfl (by decide) (jZ rfl C.n (sp (sx 0))) (λ_ _ _ _ _=>(c7 0 (show fo (["_law_j", "_law_row"]:B6) by decide +kernel) rfl (gz rfl))) (λ_ _ _ _ _=>dM) (λ_ _ _ _ _=>(aK pg (sp (aK u9 (aq 1) (aq 0))) sI))))
  (bL (km fg rfl [3,4,5] (fc (sq (sx 0))) (pG rfl (mj (cJ 3 nd) (mj (cJ 4 nd) mF))) (bL (bD 5 nd (b7 (Ij rfl) rfl C.n HJ (bw (sfp (dX ["_law_k", "_law_wire"] [2] rfl rfl rfl rfl (by decide) (aal rfl C.n (aq 4)) (λ_ _ _ _ _=>(pG rfl (mj (c7 0 (show fo (["_law_k", "_law_wire", "_law_found"]:B6) by decide +kernel) rfl (gz rfl)) (mj (c7 1 (show fo (["_law_k", "_law_wire", "_law_found"]:B6) by decide +kernel) rfl (gz rfl)) mF)))) (λ_ _ _ _ _=>dM) (λ_ _ _ _ _=>(aK yC (sp (dF (aq 2) (aq 1))) (aq 0))))) aA)))
  (aB (jB 2 (aK pg (sp (aK u9 (sp (sx 3)) (aq 5))) sI)))) (by decide))
  (aB (bh (dF (aq 2) (sp (sx 0)))))))
theorem Lq(C:Ctx K mg):Def P w K mg base 3 "_law_good" ["_law_script"] (spF K [.xl] .f mY):=
 bN (top 77) ["_law_script", "_law_gates", "_law_name"] [.xl,.xo,.xo] C.f λnd Y=>
 (aV (bD 1 nd (sfe (rW (Qz C) Y (aN 0 (bw sI aA)))))
  (aV (d8 [2] (fc (sq (sfe (bC (aC gV (aC gV (aC gV (aC gV (aC gV aH))))))))) (cJ 2 nd) (aB (bW (cL (d7 Y.units) (sfp (dX ["_law_gate_here"] [2] rfl rfl rfl rfl (by decide) (lM (aq 1)) (λ_ _ _ _ _=>(c7 0 (show fo (["_law_gate_here", "_law_name"]:B6) by decide +kernel) rfl (gz rfl))) (λ_ _ _ _ _=>(vL (j4 (j8 (sp (bH (yr C) Y (aN 0 (aN 1 aA)))))))) (λ_ _ _ _ _=>(bc 0)))) (sfp (bC aH))) (aB (bD 1 nd (aK cj (sp (aeH (aq 1) ZL (ZD sI))) (sfp (bC (aC (dF (sfp (bC (aC (bA (bu (bu aH))) (aC (bA (bu (bu aH))) (aC (bA (bu (bu aH))) (aC (bA (bu (bu aH))) aH)))))) (sp (aK gA (sp (bH (ji C) Y (aN 0 (bw sI aA)))) sI))) aH)))))) bO)))
  (aB (bh (bc 1)))))
theorem zX(C:Ctx K mg):Def P w K mg base 1 "_law_wish" ["_law_cell"] (spF K [.xl] .f lz):=
 bN (top 78) ["_law_cell", "_law_inputs", "_law_size", "_law_some"] [.xl,.xo,.xo,.xo] C.f λnd Y=>
 (aV (bD 1 nd (aK cj sI (sp (aK gA (aq 0) sI))))
  (aV (bD 2 nd (dF (sfp (bC (bu (bu (bu (bu (bu aH))))))) (aq 1)))
  (aV (bD 3 nd (sfe (bC (bu (aC (aK iJ (aq 2) sI) (bu (aC (aK gA (sp (aK iM (sp (aK jf (aq 0) sI)) sI)) (aq 2)) (aC (aK gA (sp (aK iM (sp (aK jf (aq 0) sI)) sI)) (aq 2)) aH))))))))
  (aB (bh (bA (aC (bc 1) (aC (dF (aq 3) (sp (aK gA (sp (aK jf (aq 0) sI)) sI))) aH))))))))
theorem xO(C:Ctx K mg):Def P w K mg base 6 "_law_right" ["_law_gates", "_law_wish_here", "_law_found"] (spF K [.xl,.xl,.xl] .f jH):=
 bN (top 79) ["_law_gates", "_law_wish_here", "_law_found", "_law_row"] [.xl,.xl,.xl,.xo] C.f λnd Y=>
 (aV (bW (lR (vN (cL M5 (sp (bH (G8 C) Y (aN 2 aA))) (sp gK)) (sJ (cL (yL Y.units) (sp (sx 2)) (sp (sx 1)))))) (aB (bh gK)) bO)
  (aV (bW (cL (yL Y.units) (sfp (dX ["_law_step"] [0] rfl rfl rfl rfl (by decide) (lM (sp (sx 2))) (λ_ _ _ _ _=>(c7 0 (show fo (["_law_step", "_law_gates"]:B6) by decide +kernel) rfl (gz rfl))) (λ_ _ _ _ _=>(vL (q8 (pA Y.cW) (sp (sx 0)) (aq 1) rfl))) (λ_ _ _ _ _=>(bc 0)))) (sfp (bC aH))) (aB (bh gK)) bO)
  (aV (d8 [3] (gM rfl C.n (sp (aK yC sI (sp (sx 1))))) (cJ 3 nd) (aB (bW (cL (yL Y.units) (sp (bH (O8 C) Y (aN 2 (aN 3 aA)))) (sp (aK pg (sp (aK u9 (sp (sx 1)) (aq 3))) sI))) (aB (bh gK)) bO)))
  (aB (bh gK)))))
theorem uY:cM ["_law_script", "_law_gates", "_law_handed", "_law_k", "_law_wish_here"] ["_law_script"] (aM (top 80)):=sck
theorem abe(C:Ctx K mg){Z:Addr}{fd:lP}(F:Fun K "law" "law" (top 80) Z fd):rJ P w K mg base CX0 105 Z fd ["_law_script"] (spF K [.xl] .f vP):=
 aab (N:=["_law_script", "_law_gates", "_law_handed", "_law_k", "_law_wish_here"]) (fs:=[.xl]) (O:=[.xl,.xo,.xo,.xo,.xo]) (O':=[]) (Ol:=[]) (rm:=.f) F uY rfl (by decide) (by decide) λf e A xD s H E Y=>
 (aV (bD 1 uY.nd (bH (Lq C) Y (aN 0 aA)))
  (aV (bD 2 uY.nd (sfe (t8 Es rfl C.n qW (aN 1 aA))))
  (aV (bW (cL M5 (sp (bH (JQ C) Y (aN 2 aA))) (sp gK)) (aB (bh gK)) bO)
  (aV (d8 [3,4] (gM rfl C.n (sp (aK cj sI (sp (b7 (adi rfl) rfl C.n acr (bw (sp (b7 fW rfl C.n eF (aN 0 aA))) (bw sI aA))))))) (cJ 3 uY.nd) (aV (bD 4 uY.nd (bH (zX C) Y (bw (sp (bH (ji C) Y (aN 0 (bw (sp (aK cj sI (aq 3))) aA)))) aA)))
  (aB (bW (lR (vN (j4 (j8 (sp (bH (xO C) Y (aN 1 (aN 4 (bw (sp (bH (JH C) Y (aN 2 (aN 4 aA)))) aA))))))) (sJ (cL (yL Y.units) (aq 2) (aq 1))))) (aB (bh gK)) bO))))
  (aV (bD 4 uY.nd (bH (zX C) Y (bw (sp (bH (ji C) Y (aN 0 (bw sI aA)))) aA)))
  (aB (bh (bH (xO C) Y (aN 1 (aN 4 (bw (sp (bH (JH C) Y (aN 2 (aN 4 aA)))) aA)))))))))))
end
variable {l:ua}
theorem all_mk{w:i8}{h:Heap}{fa:Addr}(X:K.In h)(G:h.Ns d5 mg)(hfa:mg "law"= some (.ref fa))
 {D:Addr}{afz afV:C4}{afi:Array B7}{afM ae6 afA afE O afu:a0}
 {P:Addr}{afL L:C4}{U:Array B7}{afb H M I C J:a0}
 {Cj:a0}
 {uV:a0}
 {Z:Tok}
 {j:Tok}
 {p:Tok}
 {u:Tok}
 {xf:a0}
 {Dm:a0}
 {i:Addr}
 {T:Addr}
 (F:Al K defs)
 (N:Ah K V8)
 (Q:gp K d5 "ways"= some (some (.ref D))) (l39:K.lookup D=some ⟨afM,afz,.func (d4 "ways" "ways" (cD (top 56)) (bU (top 56)) (aM (top 56)) .none ae6 afA afE afV O afu),afi⟩) (c39:kK K O "ways"= true) (k39:jS K (.ref D)=true)
 (a58:gp K d5 "law"= some (some (.ref P))) (l58:K.lookup P=some ⟨afb,afL,.func (d4 "law" "law" (cD (top 80)) (bU (top 80)) (aM (top 80)) .none H M I L C J),U⟩) (c58:kK K C "law"= true) (k58:jS K (.ref P)=true)
 (S:gp K d5 "AND"= some (some Cj)) (Be:lC K 9 zm Cj=true)
 (B:gp K d5 "KINDS"= some (some uV)) (qJ:lC K 9 pL uV=true)
 (Y:gp K d5 "MOST_CLOSED_ROWS"= some (some (.int 128 Z)))
 (o:gp K d5 "MOST_INPUTS"= some (some (.int 4 j)))
 (r:gp K d5 "MOST_LISTS"= some (some (.int 20000 p)))
 (q:gp K d5 "MOST_STEPS"= some (some (.int 600 u)))
 (E:gp K d5 "NAND"= some (some xf)) (nj:lC K 9 dO xf=true)
 (R:gp K d5 "NOT"= some (some Dm)) (vH:lC K 9 gk Dm=true)
 (z:gp K d5 "RELATIONS"= some (some (.ref i))) (lE:Kd K i pR=true)
 (yT:pO K D T=true) :
 ∃fd:lP,(∀(s:cq) (v:a0),BindsTo s fd ⟨[v],[]⟩ [("_law_script",v)])/\(∃f,mg "ways"= some (.ref f)/\pO K f T=true)/\∀base:Heap,K.In base->base.Ns d5 mg->rJ l.prog w K mg base CX0 105 fa fd ["_law_script"] (spF K [.xl] .f vP):=by
 have e:=hfa.symm.trans (fT X G a58);cases e;refine ⟨d4 "law" "law" (cD (top 80)) (bU (top 80)) (aM (top 80)) .none H M I L C J,λs v=>.of_eq rfl,⟨_,fT X G Q,yT⟩,λbase _ _=>abe ⟨_,X,G,F,N,At.mk' (fT X G Q) l39 c39 k39 (Vg (λ_ _ _ _ _ _ _ _=>rfl) rfl),_,fT X G S,Be,_,fT X G B,qJ,_,fT X G Y,⟨_,rfl⟩,_,fT X G o,⟨_,rfl⟩,_,fT X G r,⟨_,rfl⟩,_,fT X G q,⟨_,rfl⟩,_,fT X G E,nj,_,fT X G R,vH,_,fT X G z,lE,_,Xa (fT X G Q) yT⟩ (HD (st:=top 80) l58 c58 k58)⟩
theorem walk{q:fq}{Y:B6}{p:(Str->B7)->Heap->Prop}{d:DefRec}{K:Params->av}{as:C2}{e:∀P,as=(K P).map (·.1)}{T:Addr}(r:l.most=some 63)(Z:d.params.defaults=[])
 (F:∀(w:i8) (mg:Str->B7) (i:Addr) (h:Heap),(K w.params).In h->h.Ns d5 mg->mg d.name=some (.ref i) ->
  ∃fd:lP,(∀(s:cq) (u:a0),BindsTo s fd ⟨[u],[]⟩ [("_law_script",u)])/\(∃f,mg "ways"= some (.ref f)/\pO (K w.params) f T=true)/\∀base:Heap,(K w.params).In base->base.Ns d5 mg->rJ l.prog w (K w.params) mg base CX0 105 i fd ["_law_script"] (spF (K w.params) [.xl] .f vP)) :
 PySem.W.WalkO q Y p (PySem.W.kmHook K as e [T]).says l.row.toRowW d [] (λf vs=>PySem.call f vs):=
 Zq.Vi (n:=63) (k:=105) (x:= "_law_script") (CX:=λ_=>CX0) (sp:=λw=>spF (K w.params) [.xl] .f vP) r (by decide) Z ⟨rfl,by decide,by decide⟩ F (λ_ H a v j o=>QD (main v j) o) λ_ _ _ _ _ z=>z
end Zq
open PySem PySem.W PyProof.Rows
local macro_rules | `(tactic| walk_at "kf")=>`(tactic| exact Zq.Fnd.mk (by k_is) (by k_is) (by k_is) (by k_is))
structure PySem.W.Fast:Prop where(tw6269670823626823684 tw4043017559679624243 tw5731797882176289913 tw1144014938760129705 tw7860846715568055811 tw12739198587894519731 tw10564536054281574359 tw18188233607441716911 tw10502491210168733831 tw6193493991615598325 tw5990030460548371737 tw11782792183892881272 tw8800879579075070233 tw15241846446495176371 tw17477051676255832394 tw18013712976623487544 tw13469548613168287274 tw4896868516578545775 tw4391619847663569624 tw17716045687392354154 tw16674203363235453465 tw16700659944936594618 tw14433679080416577948 tw11710442618252702398 tw8855723320549246198 tw193702933782608052 tw12202145624131507190 tw17408428992136653824 tw1724013345637276954 tw8429916784686036670 tw2890478994195524594 tw7585001076740293307 tw13629405402529973726 tw12291743220826916732 tw10155773554280361214 tw8245262897186089088 tw8773528251973461240 tw3681037411285752002 tw5762386162423523463 tw14380029718590958736 tw15516057746586715971 tw3204545731193910106 tw4772323188078160833 tw17654830748394297310 tw2680447780643064171 tw4177350298493226109 tw42529829752025312 tw8749455780811896920 tw4845100952092488206 tw9171377449001284132 tw538195589863706698 tw14584101272622672276 tw4045656783850227238 tw15857740495315352407 tw5761269987527795678 tw8022588567506823916 tw13328214470849584807 tw8120478793701422964 tw6692117711035406372 tw11787377357341430012 tw17479239733732924364 tw10592050579571133431 tw12800609779808329183 tw7760504848930710491 tw13689137150538286943 tw3884044608724341177 tw12106421868723774940 tw1005795829884045032 tw11419083663644661913 tw15698776494994264224 tw11040323988402235492 tw6880781773707095785 tw4468933265654199311 tw16029922296670326100 tw17475289676672506770 tw15006454521220846581 tw13166328427718004903 tw546860893134972392 tw16699345700038187725 tw8274577207377338138 tw10333835429253443710 tw14605748529116760619 tw15835248084814136217 tw10064156861576344054 tw6463845157517315504 tw2838806354326160692 tw17061734494567048678 tw3209029724490586885 tw8980728549518276313 tw16458731248592259222 tw5726343043422477914 tw1606637522349942153 tw14849368363930870429 tw13641841263489927787 tw12189028480082423977 tw8368694421698209360 tw14464375016732295775 tw9112327843803278399 tw2155403428725116537 tw3819511279606988512 tw186334475329686987 tw4812580167910469449 tw5667729520778633372 tw14316286828095307666 tw12892503936301569471 tw5749234280626263899 tw6564923176604831803 tw17763812532740510201 tw9537854951648493225 tw5136137602950571257 tw10984435625379801406 tw2635554970766360932 tw1843520421785403237 tw12729500640629257668 tw10851296296532602066 tw6999698535555432453 tw6259344185850738949 tw5933157863538887803 tw15050025494449169863 tw12942551777669985178 tw11622786884994597110 tw5208528993895394792 tw7755646568825078120 tw7855355890568610284 tw6807591280216376046 tw7026205921082212042 tw8002899288110437537 tw2534954305764056857 tw12603611519691684465 tw4583096682626826344 tw3292877760957460416 tw13683872409701893530 tw17617080127184889392 tw14564006379787641936 tw7284010901465655066 tw16879603834734076914 tw4913717234345079060 tw7081964596943283167 tw5919096050881292703 tw1229349310657676575 tw8144607046571355521 tw9139521416269821361 tw9794478001800416827 tw7024260038900882408 tw15169118268374675031 tw7128944540642010112 tw7498407602110221322 tw8719083559572385689 tw13167937876199694559 tw18198242713914930267 tw17229079377105020420 tw10128329883888268369 tw1850383849942807515 tw10575579546198713981 tw9661733153561085904 tw13109091575739060140 tw12924317935460721923 tw16917564219820316014 tw18422893949885840093 tw3457533734463429825 tw2185959399774075936 tw13761525530746588703 tw4809599428888945683 tw6542566089825574400 tw15494226725510937169 tw7916883462060617594 tw13399255238682311941 tw2495171022398829875 tw3892229597860527105 tw1804070121203376634 tw15253588323098534175 tw11309956543132021448 tw8109854237349633920 tw10334460114032406510 tw7332611963844686917 tw17523840286112605829 tw6302010558738399768 tw17384930395302064346 tw1587200790667488420 tw14301212409873570488 tw3754641578381829299 tw11558141617536255584 tw8335250800796059539 tw15604829044371365049 tw13994969434391430895 tw17239056398728301285 tw486690047084552091 tw13197968805097933679 tw8000638180257813498 tw5500534719261045816 tw1701397100562991897 tw16151850288849916179 tw1212787768329033128 tw1189093106890740829 tw6695068114163717849 tw10505378386985343049 tw8967359447507186147 tw4150218191731734497 tw17415584892210859668 tw4268039704098607617 tw17788549841829618022 tw17048247311080029666 tw14971969530957757165 tw14418979445204202029 tw12063869324217480844 tw18207407387073159215 tw9117321923691264921 tw547765019433338789 tw1560459262351161160 tw760078820076804418 tw7083237772026985541 tw4259283619268154676 tw4202132103829725152 tw1568551137588451992 tw14991167296931335088 tw14232519467877074977 tw10262974141631541807 tw10059341240727369687 tw8057440393926707963 tw11072620021049125109 tw2345312994847112387 tw3191493945291498633 tw17041705792061238608 tw11792604613981792788 tw16011856629024062393 tw1059995438284153040 tw7489024149016482213 tw3500351633542608327 tw10344915854548863005 tw5438095366523863993 tw5124167221305761842 tw2461833063200171638 tw4919754656075043083 tw8196408140141522764 tw8153559707872525304 tw15741270138957306577 tw10688219083186069273 tw4324181232377165866 tw1497068211356793220 tw8768128006252584678 tw15729166989939250668 tw14927177455553988307 tw10855114150610829968 tw3925678278884929646 tw11246973182633034989 tw10632404017680904016 tw11898559690168982123 tw14487492252220002043 tw2053869561548392344 tw12531514972204697941 tw14518394301131017077 tw7219104665589652238 tw955382372686606466 tw5094938169543969983 tw11575991381211943921 tw16990803343122297700 tw10278831053666192689 tw12757579303285733209 tw10672839946651328406 tw14036108542163260756 tw13991325435255135266 tw12149423397453150614 tw8856094289816730214 tw3138809248255649480 tw10595031845690468554 tw5951001778984868164 tw13881832843942314012 tw1901399249860977369 tw11304729610773797494 tw17145213803505286296 tw17326365103433547915 tw7118704165595795972 tw12462035680545960835 tw12210288584412798846:True)
set_option maxRecDepth 100000 in
set_option maxHeartbeats 0 in
theorem PySem.Challenge.cw_gatekin_k44_every_wish_built_holds : PySem.Challenge.rw_gatekin_k44_every_wish_built.Holds := by
 w_on; o_law; k_head; (case hw => w_witness2)
 k_fill
 refine Zq.walk (l := PySem.Challenge.rw_gatekin_k44_every_wish_built) rfl rfl ?F
 case F =>
  intro w mg fa h KX G hmg
  refine' Zq.all_mk KX G hmg ?hFF ?hNN ?a39 ?l39 ?c39 ?k39 ?a58 ?l58 ?c58 ?k58 ?aev ?Be ?aaD ?qJ ?yt ?GP ?Jq ?JC ?acW ?nj ?aea ?vH ?Ln ?lE ?yT
  (case hFF => ((repeat refine .cons (by walk_at "kf") ?_); exact .nil))
  (case hNN => ((repeat refine .cons (by k_is) ?_); exact .nil))
  (case a39 => k_is)
  (case l39 => k_is)
  (case c39 => k_is)
  (case k39 => k_is)
  (case a58 => k_is)
  (case l58 => k_is)
  (case c58 => k_is)
  (case k58 => k_is)
  (case aev => k_is)
  (case Be => rfl)
  (case aaD => k_is)
  (case qJ => rfl)
  (case yt => k_is)
  (case GP => k_is)
  (case Jq => k_is)
  (case JC => k_is)
  (case acW => k_is)
  (case nj => rfl)
  (case aea => k_is)
  (case vH => rfl)
  (case Ln => k_is)
  (case lE => rfl)
  (case yT => rfl)
