import PyProof.Rows.All
import Wide.All
import OpenK.AllK
import Wide.FinOn
import Lean
import PyProof.EqAt
import PyProof.EqKinds
import PyProof.TupleCall
import PySem.Challenge.RW_gatekin_k46_whole_five_kinds
open PySem renaming PyData->ab,wpAny_bind->ag,Value->a9,wpAny_pure->bo,sizeLine->bE,Shared->dy,starEach->d5,wpAny->eI,model->eL,mainGlobals->ff,bootBuiltins->fk,wpAny_call_entry->fR,wpAny_seqItems->fT,sysModules->gp,compareOp->gu,mem_of_lookup->gx,wpAny_callSpecial?_slot->gE,binaryOp->hY,swapsWith->h9,Program->ia,wpAny_mono->ib,foldedSetIterable->ja,wpAny_field->jv,Paired->jI,cLine->kb,Around->ke,bindArgs->kG,NameKind->kH,wpAny_specialOf->kQ,cellsFrom->k7,wpAny_holding->lh,World->lI,wpAny_newObj_type->lP,attributeBase->mw,wpAny_setField_rec->mS,getitemInPython_of_ne->mT,backTo->nc,wpAny_passesOwn->nr,wpAny_truthy_bool->nz,wpAny_letTemporaryGo->nE,assignEach->nK,FuncData->nS,wpAny_pyIter_tuple->oi,behindInMarks->oq,IsPair->ow,subscripted->oQ,wpAny_tryCatch->pb,Keyword->pf,wpAny_isInstance->pj,atKey->pT,getItem->qa,wpAny_operating->qf,builtinsNs->qk,wpAny_Call_Name_kw->qo,tupleKind_room_in1->qq,tupleKind->qA,sliceBounds->qE,keywordEach->qV,DictEntry->ra,wpAny_letGo->rf,intKind->rh,wpAny_pyIter_enum->rV,letTemporaryGo->rX,tupleKeyHash->r6,isSubtype_tuple_tuple->sD,wpAny_forIn_list->sQ,wpAny_updateSeq_pair->tw,wpAny_execs_nil->t9,rawInt->ua,wpAny_loadPart'->uS,wpAny_updateSeq->vi,PassesOwn->vE,Scope->vF,wpAny_rule->vT,wpAny_getItem_heap->wa,wpAny_tupleItemsOf->wb,wpAny_sequenceKey->w9,slot_list_getitem->xa,valueAt->xc,storedH->xh,IsPart->xo,wpAny_onRaise->xC,plainId_quiet->xD,codeAmong->xI,noFill_tuple_add->xS,backToKw->x6,IsZip->yi,wpAny_Name->yy,codeAny->yB,concat_meets->yY,wpAny_typeOf->y6,call_meets->y8,closureFor->zd,reduceHash->zh,letOwnedTupleGo->zw,codeAny_builtin->zI,callerA->AB
open List renaming getD_eq_getElem?_getD->ae,length_map->af,length_append->ai,getElem?_eq_getElem->av,replicate->ax,mem_singleton->aI,getElem?_eq_some_iff->aS,map_append->a7,map_cons->a8,getElem?_map->br,length_cons->bt,mem_cons_self->bX,getElem?_append_right->b9,mem_cons_of_mem->cc,mem_map->cf,length_replicate->ck,map_congr_left->cn,mem_cons->cp,getElem?_append_left->cq,length_singleton->cy,mem_append->cE,size_toArray->cK,length_range->cS,map_map->de,mem_append_right->dn,length_take->dr,append_nil->dA,mem_range->dQ,append_assoc->d6,take_length->eD,mem_of_getElem?->eJ,mem_append_left->eM,getElem?_range->eP,nil_append->fe,getElem?_eq_none->fh,nodup_append->fm,replicate_succ->fo,map_nil->fv,length_set->fx,Nodup->fA,all_eq_true->fS,foldl_append->gc,cons_append->gL,filter_cons_of_neg->gX,getElem_mem->g9,getElem?_replicate_of_lt->hZ,take_of_length_le->ij,find?_cons->iA,getElem?_replicate->iO,filter_cons_of_pos->iP,sum_cons->jS,mem_flatMap->kB,mem_iff_getElem->kC,any_cons->kF,mem_filter->kN,nodup_cons->kP,range_succ->kR,lookup_cons->k8,map_replicate->k9,getElem?_take_of_lt->la,eq_of_mem_replicate->lp,flatten_cons->lS,length_eq_zero_iff->l5,length_nil->l9,filterMap_cons->ma,length_reverse->mf,replicate_zero->mi,getElem?_set_self->mm,mem_filterMap->mB,pairwise_cons->mI,take_zero->mP,drop_eq_getElem_cons->nh,mem_of_find?_eq_some->nk,length_drop->nV,any_eq_true->nX,eq_nil_of_length_eq_zero->n0,take_append_of_le_length->oe,find?_eq_none->oj,take_add_one->oy,getElem?_set_ne->oC,mem_of_mem_take->pd,not_mem_nil->pv,flatMap_append->pE,foldl_cons->qc,sum_append->qh,mem_replicate->qr,reverse_cons->rL,ext_getElem?->sd,any_eq_false->sg,length_filter_le->sC,take_append_drop->sL,eq_replicate_iff->sM,all_cons->ti,replicate_succ'->tJ,map_id->tN,dropLast_concat_getLast->ve,find?_some->vn,idxOf_lt_length_of_mem->vx,drop_zero->we,lookup->xb,getElem?_set->xk,Pairwise->xt,length_erase_of_mem->xE,drop_length->x9,pairwise_singleton->ya,range_succ_eq_map->zi,drop_of_length_le->zk,filter_eq_nil_iff->zo,of_mem_zip->zC,forIn_cons->zD,nodup_nil->AA
open PySem.W renaming Frag->aw,fnOf->fb,mg_of->iX,codeHdIn->i7,nsIn->i8,keepIn->lx,codeIn->mE,kia_one->nv,cellsFrom_some->og,kitOne->oS,OpenLaw->yv,kla_obj->AC
open Nat renaming le_refl->ay,le_trans->dc,lt_of_lt_of_le->e8,ne_of_lt->fi,pow_le_pow_right->fq,lt_or_ge->gy,lt_irrefl->hV,le_of_lt->ka,lt_of_le_of_lt->ki,le_of_not_lt->ky,zero_le->kz,sub_self->kM,pow_lt_pow_right->ly,pow_le_pow_left->nN,not_lt_zero->oo,ne_of_gt->rl,pow_succ->sk,or_lt_two_pow->sm,min_le_right->sN,lt_succ_self->sP,add_assoc->tf,mul_le_mul->wm,pow_pos->xl,mod_eq_of_lt->yn,succ_mul->y9,lt_trans->ze,min_eq_left->Ap,not_lt->AF,mod_lt->AG,zero_add->AJ
open PySem.Heap renaming get?_push_of_some->aE,get?_push_size->c6,lt_size->c8,size_push->iS,SameBut->pe,get?_none_of_le->tm
open Int renaming toNat_natCast->cx,emod_lt_of_pos->kx,emod_nonneg->kT,pow_succ->ll,natCast_pow->ny,le_refl->nI,one_mul->n9,mul_assoc->p9,mul_comm->si,toNat_of_nonneg->vv,fdiv_eq_ediv_of_nonneg->vS,mul_one->wx,natCast_add->As,ofNat->AD,zero_ediv->AE,le_trans->AI
open PySem.Builtin.Range renaming rangeSize->dS,rangeFitsLong->oz
open Bool renaming and_eq_true->eh,false_ne_true->eW,eq_false_iff->oB,or_eq_true->uk,not_eq_true'->xi,false_or->xw,eq_iff_iff->Au,true_or->AH
open PySem.SeqAt renaming shaped->eK,canLay_of_shaped->mr
open Classical renaming not_forall->ft,byContradiction->fF,choose->yb
open PySem.PyData renaming eqv->fw,canLayAll0->iL,canLay0->kL,depthAll->l8,eqvAll->tj
open PySem.PassesOwn renaming never->fy
open PySem.Builtin.Tuple renaming tupleHashOf->fE,tupleItemsOf->oP
open PyProof.Rows renaming slot_tuple_getitem->fI,bitAnd_m1->ip,callWith_type1->iF,envOfC->oD,IntsAre->sR,AllBare->wq,seqObj->xB,IsTup->zv
open PySem.Builtin renaming bitAnd->gz,bitNot->iq,bitOr->kD
open Or renaming inl->hW,inr->va
open Option renaming isSome_iff_exists->iE,isSome_map->kK,map_eq_some_iff->mn,map_eq_none_iff->sf
open PySem.Value renaming ref->iN,type->l6,isInt->wo
open PySem.F renaming plain_min_loop->i9,slot_dict_getitem->kX,plainAttrs_list->lT,slot_tuple_iterator_next->mN,slot_list_extend->ot,args_tuple_add_2->pS,slot_dict_itemiterator_iter->pV,entry_tuple_add->qB,slot_tuple_add->ro,slot_list_append->rS,slot_tuple_hash->r9,entry_min_loop->se,args_tuple_iterator_next_1->uu,slot_tuple_eq->u7,slot_zip_next->vj,type_list_append->xy,type_list_extend->xA,plainAttrs_dict->x8,slot_dict_items->yk
open True renaming intro->kr
open Sum renaming inl->kU,inr->ox
open PySem.Builtin.List renaming listTooLong->lj,listFitsIndex->mM
open False renaming elim->l7
open Array renaming length_toList->md,getElem?_toList->sF,forIn_toList->wd
open PySem.NameKind renaming cell->mx
open PySem.Builtin.Slice renaming slicePlaces->ng,sliceAdjust->pw
open Ne renaming symm->nL
open ForInStep renaming yield->om
open PySem.Heap.SameBut renaming update->pz
open PySem.Calls renaming callWith_builtin->rq
open PySem.Around renaming under_plainId->tz
open PyProof renaming noPylong_small->yA
open PySem.Obj renaming mapSeq->y7
set_option Elab.async false
set_option linter.all false
set_option maxRecDepth 100000
local macro_rules | `(tactic| lia) => `(tactic| first | lia (config := {}) | omega)
namespace Zq
open PySem PySem.Spec PyProof.Rows
abbrev A7:=List (Addr×Obj)
abbrev A9:=List (Nat×Int)
abbrev B0:=List (ab×ab)
abbrev B1:=List (Str×Addr)
abbrev B2:=a9->dy->Prop
abbrev B3:=List Int
abbrev B4:=List ab
abbrev B5:=List Nat
abbrev B6:=List Str
abbrev B7:=Option a9
abbrev B8:=List a9
abbrev C1:=List Expr
abbrev C2:=List Addr
abbrev C3:=Option Int
abbrev C4:=Option Addr
abbrev C5:=List Stmt
abbrev C6:=List Env
abbrev nD(x:Str):Prop:=(x == ("__debug__" : Str))=false
end Zq
local macro_rules | `(tactic| walk_at "hf")=>`(tactic| first | exact .inl rfl | exact .inr rfl | assumption)
namespace Zq
open PySem PySem.Spec PyProof.Rows
abbrev Key:=Sum Int Str
abbrev C7:=List Key
noncomputable def tZ:Key->a9->Bool
 | .inl k,v=>wo k v
 | .inr x,v=>Value.isStrOf x v
noncomputable def afZ(w:lI):Key->Int
 | .inl k=>hashInt k
 | .inr x=>hashStr w x
theorem gf:∀{k:Key}{v:a9},tZ k v=true->(∃i t,k=kU i/\v=a9.int i t)\/(∃x t,k=ox x/\v=a9.str x t)
 | .inl i,v,h=>by
  obtain ⟨t,e⟩:=Value.isInt_shape h;exact .inl ⟨i,t,rfl,e⟩
 | .inr x,v,h=>by
  obtain ⟨t,e⟩:=Value.isStrOf_shape h;exact .inr ⟨x,t,rfl,e⟩
theorem Uh(i:Int)(t:Tok):tZ (.inl i) (.int i t)=true:=by simp[tZ,wo]
theorem RC(x:Str)(t:Tok):tZ (.inr x) (.str x t)=true:=by simp[tZ,Value.isStrOf]
theorem acT(a b:Int):decide ((kU a:Key)=kU b)=(a == b):=by
 by_cases e:a=b
 . subst e;simp
 . have h:¬ (kU a:Key)=kU b:=λq=>e (kU.inj q);rw[decide_eq_false h];exact (beq_eq_false_iff_ne.mpr e).symm
theorem adi(a b:Str):decide ((ox a:Key)=ox b)=decide (a=b):=by
 by_cases e:a=b
 . subst e;simp
 . have h:¬ (ox a:Key)=ox b:=λq=>e (ox.inj q);rw[decide_eq_false h,decide_eq_false e]
theorem abK(a:Int)(b:Str):decide ((kU a:Key)=ox b)=false:=decide_eq_false (λq=>nomatch q)
theorem acH(a:Str)(b:Int):decide ((ox a:Key)=kU b)=false:=decide_eq_false (λq=>nomatch q)
noncomputable def bY(prog:ia)(w:lI):PySem.KeyKind prog w Key where
 is:=tZ
 hash:=afZ w
 inj:=λv a b ha hb=>by
  rcases gf ha with ⟨i,t,rfl,rfl⟩ | ⟨x,t,rfl,rfl⟩
  . rcases gf hb with ⟨j,u,rfl,e⟩ | ⟨y,u,rfl,e⟩
    . injection e with e1 _;rw[e1]
    . exact nomatch e
  . rcases gf hb with ⟨j,u,rfl,e⟩ | ⟨y,u,rfl,e⟩
    . exact nomatch e
    . injection e with e1 _;rw[e1]
 byValue:=λk v h=>by
  rcases gf h with ⟨i,t,rfl,rfl⟩ | ⟨x,t,rfl,rfl⟩ <;> rfl
 pyHash:=λhv h=>by
  rcases gf hv with ⟨i,t,rfl,rfl⟩ | ⟨x,t,rfl,rfl⟩
  . exact wpAny_pyHash_int h
  . exact wpAny_pyHash_str h
 eqBool:=λhu hv h=>by
  rcases gf hu with ⟨i,t,rfl,rfl⟩ | ⟨x,t,rfl,rfl⟩
  . rcases gf hv with ⟨j,u,rfl,rfl⟩ | ⟨y,u,rfl,rfl⟩
    . rw[acT] at h;exact wpAny_eqBool_int h
    . rw[abK] at h;exact SeqAt.EqAt.int_str i t y u _ _ _ _ h
  . rcases gf hv with ⟨j,u,rfl,rfl⟩ | ⟨y,u,rfl,rfl⟩
    . rw[acH] at h;exact SeqAt.EqAt.str_int x t j u _ _ _ _ h
    . rw[adi] at h;exact wpAny_eqBool_str h
 «strs» := λk x t v h=>by
  rcases gf h with ⟨i,u,rfl,e⟩ | ⟨y,u,rfl,e⟩
  . exact nomatch e
  . injection e with e1 _;subst e1;cases v <;> rfl
theorem Qk(prog:ia)(w:lI)(k:Key)(v:a9):(bY prog w).is k v=tZ k v:=rfl
theorem Lf(prog:ia)(w:lI)(i:Int)(t:Tok):(bY prog w).is (.inl i) (.int i t)=true:=Uh i t
theorem Mm(prog:ia)(w:lI)(x:Str)(t:Tok):(bY prog w).is (.inr x) (.str x t)=true:=RC x t
inductive V where
 | non | bl (b:Bool) | int (i:Int) | str (x:Str) | byt (b:Array UInt8) | flt (b:UInt64) | ref (a:Addr) | ty (n:String)
 deriving DecidableEq
abbrev A8:=List (Key×V)
abbrev C0:=List V
def AR:V->a9->Prop
 | .non,u=>u=a9.none
 | .bl b,u=>u=a9.bool b
 | .int i,u=>∃t,u=a9.int i t
 | .str x,u=>∃t,u=a9.str x t
 | .byt b,u=>∃t,u=Value.bytes b t
 | .flt b,u=>∃t,u=Value.float b t
 | .ref a,u=>u=iN a
 | .ty n,u=>u=l6 n
abbrev AS:C0->B8->Prop:=jI AR
variable {xs:C0}{us:B8}
theorem AS.length(r:AS xs us):xs.length=us.length:=jI.length r
theorem AS.get:∀{xs:C0}{us:B8}{i:Nat}{x:V},AS xs us->xs[i]?=some x->∃u,us[i]?=some u/\AR x u
 | _,_,_,_,.nil,e=>by simp at e
 | _,_,0,_,.cons r _,e=>by simp at e;subst e;exact ⟨_,rfl,r⟩
 | _,_,i+1,x,.cons _ t,e=>by
  obtain ⟨u,h1,h2⟩:=AS.get t (by simpa using e);exact ⟨u,by simpa using h1,h2⟩
theorem AS.append:∀{xs ys:C0}{us ws:B8},AS xs us->AS ys ws->AS (xs++ys) (us++ws)
 | _,_,_,_,.nil,s=>s
 | _,_,_,_,.cons r t,s=>.cons r (AS.append t s)
theorem AS.take:∀{xs:C0}{us:B8} (n:Nat),AS xs us->AS (xs.take n) (us.take n)
 | _,_,0,_=>.nil
 | _,_,_+1,.nil=>.nil
 | _,_,n+1,.cons r t=>.cons r (AS.take n t)
theorem AS.drop:∀{xs:C0}{us:B8} (n:Nat),AS xs us->AS (xs.drop n) (us.drop n)
 | _,_,0,r=>r
 | _,_,_+1,.nil=>.nil
 | _,_,n+1,.cons _ t=>AS.drop n t
def oM:Option V->B7->Prop
 | some v,some u=>AR v u
 | none,none=>True
 | _,_=>False
def KV{κ:Type}:List (κ×V)->List (κ×a9)->Prop:=jI λ(p:κ×V) (q:κ×a9)=>p.1=q.1/\AR p.2 q.2
noncomputable def kV:Key->V
 | .inl i=>.int i
 | .inr x=>.str x
inductive HO where
 | lst (xs:C0)
 | tup (xs:C0)
 | dK (kvs:A8) | dT (kvs:List (C7×V))
 | set (S:Int->Bool) (n:Nat)
 | ins (C dx:Addr) (fs:List (Str×V))
 | own (x:Addr)
 | xd (fs:List (Str×V))
 | met (f x:Addr)
 | rng (lo hi:Int)
 | frz (o:Obj) (u:HO)
 | tbl (q:Str)
 | ext (φ:Heap->Prop)
abbrev Hp:=Addr->Option HO
noncomputable def AU(H:Hp)(a:Addr)(o:HO):Hp:=λb=>if b=a then some o else H b
variable {H:Hp}{a:Addr}{o:HO}
theorem aU:AU H a o a=some o:=by rw[AU,if_pos rfl]
variable {b:Addr}
theorem aH(h:b≠a):AU H a o b=H b:=by rw[AU,if_neg h]
theorem NT{u:HO}:AU (AU H a o) a u=AU H a u:=by
 funext b;unfold AU;split <;> rfl
theorem aez{u:HO}(h:H a=some o)(h':H b=some u)(d:o≠u):a≠b:=by
 intro e;subst e;rw[h] at h';exact d (Option.some.inj h')
theorem c7(h:H a=some o)(h':H b=none):a≠b:=by
 intro e;subst e;rw[h] at h';cases h'
section
variable (P:ia) (w:lI)
def gb(H:Hp)(h:Heap)(a:Addr):HO->Prop
 | .lst xs=>xs.length<=bE/\∃(AM:B8) (n:Nat),AS xs AM/\h.get? a=some { cls:=.type "list",data:=.seq AM.toArray n }
 | .tup xs=>xs.length<=bE/\∃AM:B8,AS xs AM/\zv h a AM.toArray
 | .dK kvs=>kvs.length<=bE/\(a == gp)=false/\∃vs,KV kvs vs/\h.DictOf (bY P w) a vs
 | .dT kvs=>kvs.length<=bE/\(a == gp)=false/\∃xs:List (C7×Addr×a9),
  jI (λ(p:C7×V) (q:C7×Addr×a9)=>p.1=q.1/\H q.2.1=some (.tup (p.1.map kV))/\AR p.2 q.2.2) kvs xs /\
  ∃o es ep,h.get? a=some o/\o.ExactDict/\o.data= .dict es ep/\es.toList=xs.map (entryOfKey (qA (bY P w)))/\(xs.map (·.1)).Nodup
 | .set S n=>h.SetOf (rh P w) a S n
 | .ins C dx fs=>H dx=some (.own a)/\fs.length<=1000/\dx≠a/\h.get? a=some (PySem.W.instObj C dx) /\
  ∃mA,h.Ns1 dx mA/\(∀f,oM (fs.lookup f) (mA f))/\PySem.Within mA (fs.map (·.1))
 | .own _=>∃o,h.get? a=some o
 | .xd fs=>∃mA,h.Ns1 a mA/\∀f,oM (fs.lookup f) (mA f)
 | .rng lo hi=>∃t u v,h.get? a=some { cls:=.type "range",data:=.fields #[.int lo t,.int hi u,.int 1 v] }
 | .frz o u=>h.get? a=some o/\gb H h a u
 | .tbl q=>∃ps:Array a9,h.get? a=some { cls:=.none,data:=.fields ps }/\TriplesOk ps.toList/\∀(pos:Pos) (cv:a9),xI pos ps.toList=some cv->∃c ob vs t,cv= .ref c/\H c=some (.own a)/\h.get? c=some ob/\ob.data= .fields vs/\vs[1]?=some (.str q t)
 | .met f x=>h.get? a=some (PySem.W.methodObj (.ref f) (.ref x))
 | .ext φ=>φ h/\(∃o,h.get? a=some o)/\∀h1 h2:Heap,φ h1->(∀o,h1.get? a=some o->h2.get? a=some o)->φ h2
def HOk(H:Hp)(h:Heap):Prop:=∀a o,H a=some o->gb P w H h a o
end
variable {P:ia}{w:lI}{h:Heap}
section
variable   {H':Hp}{h':Heap}
theorem gb.lt(x:gb P w H h a o):a<h.objs.size:=by
 cases o with
 | lst xs=>obtain ⟨_,_,_,_,e⟩:=x;exact c8 e
 | tup xs=>obtain ⟨_,_,_,p⟩:=x;exact p.lt
 | dK kvs=>obtain ⟨_,_,_,_,o,_,_,e,_⟩:=x;exact c8 e
 | dT kvs=>obtain ⟨_,_,_,_,o,_,_,e,_⟩:=x;exact c8 e
 | set S n=>obtain ⟨o,_,_,_,e,_⟩:=x;exact c8 e
 | ins C dx fs=>obtain ⟨_,_,_,e,_⟩:=x;exact c8 e
 | own y=>obtain ⟨_,e⟩:=x;exact c8 e
 | xd fs=>obtain ⟨_,⟨_,_,_,e,_⟩,_⟩:=x;exact c8 e
 | rng lo hi=>obtain ⟨_,_,_,e⟩:=x;exact c8 e
 | frz ob u=>obtain ⟨e,_⟩:=x;exact c8 e
 | tbl q=>obtain ⟨_,e,_⟩:=x;exact c8 e
 | met f y=>exact c8 (x)
 | ext φ=>obtain ⟨_,⟨_,e⟩,_⟩:=x;exact c8 e
theorem Paired.sO{α β:Type}{F G:α->β->Prop}:∀{l₁:List α}{l₂:List β},jI F l₁ l₂->(∀a b,F a b->G a b)->jI G l₁ l₂
 | _,_,.nil,_=>.nil
 | _,_,.cons r t,f=>.cons (f _ _ r) (Paired.sO t f)
theorem gb.stay(x:gb P w H h a o)(k:∀b u,(b=a\/H b=some (.own a))->h.get? b=some u->h'.get? b=some u)
 (ho:∀b,H b=some (.own a)->H' b=some (.own a)) (ht:∀b xs,H b=some (.tup xs)->H' b=some (.tup xs)):gb P w H' h' a o:=by
 induction o with
 | lst xs=>obtain ⟨z,AM,n,r,e⟩:=x;exact ⟨z,AM,n,r,k _ _ (.inl rfl) e⟩
 | tup xs=>obtain ⟨z,AM,r,ob,e,c⟩:=x;exact ⟨z,AM,r,ob,k _ _ (.inl rfl) e,c⟩
 | dK kvs=>obtain ⟨z,y,vs,r,ob,es,ep,e,c⟩:=x;exact ⟨z,y,vs,r,ob,es,ep,k _ _ (.inl rfl) e,c⟩
 | dT kvs=>
  obtain ⟨z,y,xs,r,ob,es,ep,e,c⟩:=x;exact ⟨z,y,xs,Paired.sO r λp q z=>⟨z.1,ht _ _ z.2.1,z.2.2⟩,ob,es,ep,k _ _ (.inl rfl) e,c⟩
 | set S n=>obtain ⟨ob,es,ep,t,e,c⟩:=x;exact ⟨ob,es,ep,t,k _ _ (.inl rfl) e,c⟩
 | ins C dx fs=>
  obtain ⟨d,z,ne,e,mA,⟨od,es,ep,e2,c⟩,r⟩:=x;exact ⟨ho _ d,z,ne,k _ _ (.inl rfl) e,mA,⟨od,es,ep,k _ _ (.inr d) e2,c⟩,r⟩
 | own y=>obtain ⟨ob,e⟩:=x;exact ⟨ob,k _ _ (.inl rfl) e⟩
 | xd fs=>obtain ⟨mA,⟨od,es,ep,e,c⟩,r⟩:=x;exact ⟨mA,⟨od,es,ep,k _ _ (.inl rfl) e,c⟩,r⟩
 | rng lo hi=>obtain ⟨t,u,v,e⟩:=x;exact ⟨t,u,v,k _ _ (.inl rfl) e⟩
 | frz ob u ih=>obtain ⟨e,q⟩:=x;exact ⟨k _ _ (.inl rfl) e,ih q⟩
 | tbl q=>
  obtain ⟨ps,e,ht,hc⟩:=x;refine ⟨ps,k _ _ (.inl rfl) e,ht,λpos cv hv=>?_⟩;obtain ⟨c,ob,vs,t,e1,e2,e3,e4⟩:=hc pos cv hv;exact ⟨c,ob,vs,t,e1,ho _ e2,k _ _ (.inr e2) e3,e4⟩
 | met f y=>
  have e:=x;exact k a _ (.inl rfl) e
 | ext φ=>obtain ⟨p,⟨o,e⟩,st⟩:=x;exact ⟨st _ _ p λo q=>k _ _ (.inl rfl) q,⟨o,k _ _ (.inl rfl) e⟩,st⟩
theorem HOk.lt(x:HOk P w H h)(e:H a=some o):a<h.objs.size:=(x a o e).lt
theorem HOk.fresh(x:HOk P w H h)(e:h.objs.size<=a):H a=none:=by
 cases q:H a with
 | none=>rfl
 | some u=>exact absurd (e8 (x.lt q) e) (hV _)
theorem HOk.kept(x:HOk P w H h)(k:∀b u,h.get? b=some u->h'.get? b=some u):HOk P w H h':=λa o e=>
 (x a o e).stay (λb u _ q=>k b u q) (λ_ q=>q) λ_ _ q=>q
theorem HOk.laid(x:HOk P w H h)(k:∀b u,h.get? b=some u->h'.get? b=some u)(hp:h.objs.size<=a)(new:gb P w (AU H a o) h' a o):HOk P w (AU H a o) h':=λb u e=>by
 have hn:=x.fresh hp
 by_cases hb:b=a
 . subst hb;rw[aU] at e;cases e;exact new
 . rw[aH hb] at e;exact (x b u e).stay (λc v _ q=>k c v q) (λc q=>by rw[aH (c7 q hn)];exact q) λc xs q=>by rw[aH (c7 q hn)];exact q
end
def Rd(H:Hp)(a:Addr)(u:HO):Prop:=H a=some u\/∃o,H a=some (.frz o u)
theorem Rd.ok{u:HO}(r:Rd H a u)(x:HOk P w H h):gb P w H h a u:=by
 rcases r with r | ⟨o,r⟩
 . exact x a u r
 . obtain ⟨_,q⟩:=x a _ r;exact q
def Mut:Option HO->Prop
 | some (.lst _)=>True
 | some (.dK _)=>True
 | some (.dT _)=>True
 | some (.set _ _)=>True
 | some (.ins _ _ _)=>True
 | some (.ext _)=>True
 | _=>False
section
variable    {h':Heap}{x e:Addr}{o':HO}
theorem HOk.write(ok:HOk P w H h)(mu:Mut (H x))(he:e=x\/H e=some (.own x))(k:∀b u,b≠e->h.get? b=some u->h'.get? b=some u)(heo:∃u,h'.get? e=some u)
 (new:gb P w (AU H x o') h' x o'):HOk P w (AU H x o') h':=λb u q=>by
 have ac2:∀c y,H c=some (.own y)->c≠x:=λc y r z=>by subst z;rwa [r] at mu
 have afb:∀c xs,H c=some (.tup xs)->c≠x:=λc xs r z=>by subst z;rwa [r] at mu
 by_cases hb:b=x
 . subst hb;rw[aU] at q;cases q;exact new
 . rw[aH hb] at q
   by_cases hbe:b=e
   . have q':H b=some (.own x):=by
      rcases he with z | z
      . exact absurd (hbe.trans z) hb
      . rw[hbe];exact z
     rw[q] at q';cases q';obtain ⟨v,hv⟩:=heo;exact ⟨v,by rw[hbe];exact hv⟩
   . refine (ok b u q).stay (λc v hc r=>k c v ?_ r) (λc r=>by rw[aH (ac2 c b r)];exact r) λc xs r=>by rw[aH (afb c xs r)];exact r
     rcases hc with rfl | hc
     . exact hbe
     . rintro rfl;rcases he with z | z
       . exact ac2 c b hc z
       . rw[hc] at z;cases z;exact hb rfl
end
structure Un (fs ex:C2) (H H':Hp) (h h':Heap):Prop where
 keep:∀b o,h.get? b=some o->H b=none->b∉fs->b∉ex->h'.get? b=some o
 slot:∀b o,h.get? b=some o->H b=none->b∈fs->b∉ex->∃sl,h'.get? b=some { o with slots:=sl }
 free:∀b o,h.get? b=some o->H b=none->b∉ex->H' b=none
 there:∀b o,h.get? b=some o->b∉ex->∃o',h'.get? b=some o'
 tups:∀b xs,H b=some (.tup xs)->H' b=some (.tup xs)
 qG:∀b o u,H b=some (.frz o u)->H' b=some (.frz o u)
 nj:∀b q,H b=some (.tbl q)->H' b=some (.tbl q)
section
variable {fs fs' ex ex':C2}{H1 H2:Hp}{h1 h2 h':Heap}{x e:Addr}
theorem Un.any(u:Un fs ex H H1 h h1){ob:Obj}(q:h.get? b=some ob)(n:H b=none)(hx:b∉ex):∃sl,h1.get? b=some { ob with slots:=sl }:=by
 by_cases hb:b∈fs
 . exact u.slot b ob q n hb hx
 . exact ⟨ob.slots,u.keep b ob q n hb hx⟩
theorem Un.kept(k:∀b u,h.get? b=some u->h'.get? b=some u):Un fs ex H H h h':=
 ⟨λb ob q _ _ _=>k b ob q,λb ob q _ _ _=>⟨ob.slots,k b ob q⟩,λ_ _ _ n _=>n,λb ob q _=>⟨ob,k b ob q⟩,λ_ _ q=>q,λ_ _ _ q=>q,λ_ _ q=>q⟩
theorem Un.refl:Un fs ex H H h h:=Un.kept λ_ _ q=>q
theorem Un.laid(k:∀b u,h.get? b=some u->h'.get? b=some u)(hp:h.objs.size<=a)(hn:H a=none):Un fs ex H (AU H a o) h h' where
 keep:=λb u q _ _ _=>k b u q
 slot:=λb u q _ _ _=>⟨u.slots,k b u q⟩
 free:=λb u q n _=>by rw[aH (fi (e8 (c8 q) hp))];exact n
 there:=λb u q _=>⟨u,k b u q⟩
 tups:=λb xs q=>by rw[aH (c7 q hn)];exact q
 qG:=λb u xs q=>by rw[aH (c7 q hn)];exact q
 nj:=λb xs q=>by rw[aH (c7 q hn)];exact q
theorem Un.write(mu:Mut (H x))(he:e=x\/H e=some (.own x))(k:∀b u,b≠e->h.get? b=some u->h'.get? b=some u)(heo:∃u,h'.get? e=some u):Un fs ex H (AU H x o) h h':=by
 have hx:∀b,H b=none->b≠x:=λb n z=>by subst z;rwa [n] at mu
 have hb:∀b,H b=none->b≠e:=λb n z=>by
  subst z;rcases he with r | r
  . exact hx b n r
  . rw[n] at r;cases r
 have hm:∀b u,H b=some u->¬ Mut (some u)->b≠x:=λb u q nm z=>by subst z;rw[q] at mu;exact nm mu
 refine ⟨λb u q n _ _=>k b u (hb b n) q,λb u q n _ _=>⟨u.slots,k b u (hb b n) q⟩,λb u q n _=>by rw[aH (hx b n)];exact n,λb u q _=>?_,
  λb xs q=>by rw[aH (hm b _ q λz=>z)];exact q,λb u xs q=>by rw[aH (hm b _ q λz=>z)];exact q,λb _ q=>by rw[aH (hm b _ q λz=>z)];exact q⟩
 by_cases hbe:b=e
 . subst hbe;exact heo
 . exact ⟨u,k b u hbe q⟩
end
noncomputable def trk(h:Heap)(H:Hp):C2:=(List.range h.objs.size).filter λa=>(H a).isSome
noncomputable def xH(h:Heap)(H:Hp):Heap:=PySem.W.hideAll h (trk h H)
theorem SN(h:Heap)(H:Hp):(xH h H).objs.size=h.objs.size:=PySem.W.hideAll_size _ _
theorem Xp{o:Obj}(e:h.get? b=some o)(n:H b=none):(xH h H).get? b=some o:=
 PySem.W.hideAll_get _ e λhm=>by
  have q:=(kN.mp hm).2;rw[n] at q;simp at q
theorem Zo{o:Obj}(e:(xH h H).get? b=some o):h.get? b=some o/\H b=none:=by
 have e':=PySem.W.of_hideAll (trk h H) e;refine ⟨e',?_⟩
 cases q:H b with
 | none=>rfl
 | some x=>
  have hm:b∈trk h H:=kN.mpr ⟨dQ.mpr (c8 e'),by simp[q]⟩;have z:(xH h H).get? b=none:=PySem.W.hideAll_none (trk h H) hm;rw[z] at e;cases e
structure Mod (K:aw) (mg:Str->B7) (base:Heap):Prop where
 kin:K.In base
 glob:base.Ns ff mg
 blt:∃mb,base.Ns qk mb/\∀x:Str,x ≠ "__name__" -> mb x=fk x
 nolimit:base.NoLimit
 bmain:∃bm ob,mg "__builtins__"= some (.ref bm)/\bm≠qk/\base.get? bm=some ob/\ob.cls= .type "module" /\ ob.dict=some qk/\ob.data= .plain
structure Cx where
 prog:ia
 w:lI
 K:aw
 mg:Str->B7
 base:Heap
 A:ke
 N:B6
 s₀:dy
 H₀:Hp
 env:Env
 BA:C6
 stack:C6
 ex:C2
 fn:Str->Bool
 calm:Bool
 pn:A7
 xe:a9->dy->Prop
noncomputable def frs(l:C6):C2:=l.filterMap (·.frame)
noncomputable abbrev Cx.fs(X:Cx):C2:=frs X.BA
def Vis(sc:vF)(x:Str):Prop:=sc.names.lookup x=some .local\/sc.names.lookup x=some .cell\/sc.names.lookup x=some .free
def Loc(sc:vF)(x:Str):Prop:=sc.names.lookup x=some .local\/sc.names.lookup x=some .cell
def Look(env:Env)(h:Heap)(m:Str->B7)(x:Str)(u:a9):Prop:=
 (env.kindOf x=some .local/\m x=some u)\/((env.kindOf x=some .cell\/env.kindOf x=some .free)/\∃c,env.cells.lookup x=some c/\h.IsCell c (some u))
def TabAt(K:aw)(mg:Str->B7)(P:Addr):Prop:=∃(f:Addr) (o:Obj) (fd:nS) (c:Addr),mg "ways"= some (.ref f)/\K.lookup f=some o/\o.data= .func fd/\fd.code= .ref c/\i7 K c P=true
noncomputable def jl:Str:= "ways.<locals>.<lambda>"
structure Cx.Ok (X:Cx):Prop where
 mod:Mod X.K X.mg X.base
 kind:X.env.scope.kind= .function
 glob:X.env.globals=ff
 blt:X.env.builtins=qk
 above:X.s₀.heap.objs.size<=X.env.locals
 inj:∀x y c,X.env.cells.lookup x=some c->X.env.cells.lookup y=some c->x=y
 has:∀x,(X.env.kindOf x=some .cell\/X.env.kindOf x=some .free)->∃c,X.env.cells.lookup x=some c
 cab:∀x c,X.fn x=true->X.env.cells.lookup x=some c->X.s₀.heap.objs.size<=c
 hd:X.calm=true->X.A.handled=none
 frames:X.A.frames=some X.stack
 stk:X.stack=X.BA\/(X.stack=X.env::X.BA/\X.env.frame=some X.env.locals)
 exf:∀b∈X.ex,b≠X.env.locals/\∀x c,X.env.cells.lookup x=some c->c≠b
 bs:∀b o,X.base.get? b=some o->X.s₀.heap.get? b=some o/\X.H₀ b=none
 bsz:X.base.objs.size<=X.s₀.heap.objs.size
 J3:∀b o,X.base.get? b=some o->b∉X.ex
 Qi:∀b∈X.ex,b∉X.fs
 sZ:X.s₀.heap.FunFrames X.base X.BA
 frf:∀b∈X.fs,X.H₀ b=none
 tabs:∀P,TabAt X.K X.mg P->X.H₀ P=some (.tbl jl)
structure AQ (X:Cx) (AK:A7) (σ:List (Option V)) (H:Hp) (s:dy):Prop where
 ok:X.Ok
 os:s.os=X.s₀.os
 bare:wq s.gens
 base:Un X.fs X.ex X.H₀ H X.s₀.heap s.heap
 loc:∃m,s.heap.Ns X.env.locals m/\∀(i:Nat) (x:Str) (v:V),X.N[i]?=some x->σ[i]?=some (some v)->Vis X.env.scope x->∃u,AR v u/\Look X.env s.heap m x u
 cell:∀x c,X.env.cells.lookup x=some c->∃v,s.heap.IsCell c v
 free:H X.env.locals=none
 j5:∀x c,X.env.cells.lookup x=some c->H c=none
 pin:∀p∈X.pn++AK,s.heap.get? p.1=some p.2/\H p.1=none/\p.1≠X.env.locals/\p.1∉X.fs/\∀v,p.2.data ≠ .cell v
 AY:HOk X.prog X.w H s.heap
 len:σ.length=X.N.length
variable {X:Cx}{AK:A7}{s s':dy}{g':Array GenState}{t' i:Nat}{ch:C2}{N:B6}{x:Str}{M:Model}{A:ke}{E:B2}{v:V}{u:a9}
section
variable   {σ:List (Option V)}{H':Hp}  {h':Heap}
theorem Cx.Ok.ae6(ok:X.Ok){o:Obj}(e:X.base.get? b=some o):b∉X.fs:=λhb=>by
 have:=(ok.sZ.mem hb).1;rw[e] at this;cases this
theorem AQ.bs(I:AQ X AK σ H s):∀b o,X.base.get? b=some o->s.heap.get? b=some o/\H b=none:=λb o e=>
 ⟨I.base.keep b o (I.ok.bs b o e).1 (I.ok.bs b o e).2 (I.ok.ae6 e) (I.ok.J3 b o e),I.base.free b o (I.ok.bs b o e).1 (I.ok.bs b o e).2 (I.ok.J3 b o e)⟩
theorem AQ.bk(I:AQ X AK σ H s):∀b o,X.base.get? b=some o->s.heap.get? b=some o:=λb o e=>(I.bs b o e).1
theorem AQ.mod(I:AQ X AK σ H s):Mod X.K X.mg X.base:=I.ok.mod
theorem AQ.kIn(I:AQ X AK σ H s):X.K.In s.heap:=I.ok.mod.kin.keeps I.bk
theorem AQ.nolimit(I:AQ X AK σ H s):s.heap.NoLimit:=I.ok.mod.nolimit.keeps I.bk
theorem AQ.lt(I:AQ X AK σ H s):X.env.locals<s.heap.objs.size:=let ⟨_,hn,_⟩:=I.loc;hn.lt
theorem AQ.sz(I:AQ X AK σ H s):X.s₀.heap.objs.size<=s.heap.objs.size:=dc I.ok.above (ka I.lt)
theorem AQ.af0(I:AQ X AK σ H s)(h:s.heap.objs.size<=a):a∉X.fs:=λhb=>by
 obtain ⟨_,o,ho,_⟩:=I.ok.sZ.mem hb;exact absurd (e8 (c8 ho) (dc I.sz h)) (hV _)
theorem AQ.cne(I:AQ X AK σ H s):∀x c,X.env.cells.lookup x=some c->c≠X.env.locals:=λx c e z=>by
 obtain ⟨v,o,ho,hd⟩:=I.cell x c e;obtain ⟨m,⟨o',es,ep,ho',hd',_⟩,_⟩:=I.loc;rw[z,ho'] at ho;cases ho;rw[hd'] at hd;cases hd
theorem AQ.sZ(I:AQ X AK σ H s):s.heap.FunFrames X.base X.BA:=by
 have all:∀(l:C6),(∀b∈frs l,b∈X.fs)->X.s₀.heap.FunFrames X.base l->s.heap.FunFrames X.base l:=by
  intro l
  induction l with
  | nil=>intro _ _;trivial
  | cons env r ih=>
   rintro hs ⟨hk,⟨L,o,hf,hn,ho,hd⟩,hr⟩;have hL:=hs L (by rw[frs,ma,hf];exact bX);obtain ⟨sl,e⟩:=I.base.slot L o ho (I.ok.frf L hL) hL λz=>I.ok.Qi L z hL;exact ⟨hk,⟨L,_,hf,hn,e,hd⟩,ih (λb hb=>hs b (by rw[frs,ma,hf];exact cc _ hb)) hr⟩
 exact all X.BA (λ_ hb=>hb) I.ok.sZ
theorem AQ.stack(I:AQ X AK σ H s):s.heap.FunFrames X.base X.stack:=by
 rcases I.ok.stk with e | ⟨e,hf⟩
 . rw[e];exact I.sZ
 . rw[e];obtain ⟨m,hn,_⟩:=I.loc;refine .cons (by rw[I.ok.kind];decide) hf hn ?_ I.sZ;exact tm (dc I.ok.bsz I.ok.above)
theorem AQ.Cp(I:AQ X AK σ H s):∀b∈frs X.stack,b∈X.env.locals::X.fs:=λb hb=>by
 rcases I.ok.stk with e | ⟨e,hf⟩
 . rw[e] at hb;exact cc _ hb
 . rw[e] at hb;unfold frs at hb;rwa [ma,hf] at hb
theorem AQ.Ot(I:AQ X AK σ H s):∀b∈frs X.stack,H b=none:=λb hb=>by
 rcases cp.mp (I.Cp b hb) with e | hb
 . rw[e];exact I.free
 . obtain ⟨_,o,ho,_⟩:=I.ok.sZ.mem hb;exact I.base.free b o ho (I.ok.frf b hb) λz=>I.ok.Qi b z hb
theorem AQ.step{d':Drawn}(I:AQ X AK σ H s)
 (hch:∀b∈ch,(b∈X.ex\/X.s₀.heap.objs.size<=b)/\b≠X.env.locals/\(∀x c,X.env.cells.lookup x=some c->c≠b)/\∀p∈X.pn++AK,p.1≠b)
 (keep:∀b o,b≠X.env.locals->b∉X.fs->b∉ch->s.heap.get? b=some o->H b=none->h'.get? b=some o)
 (slot:∀b o,b≠X.env.locals->b∈X.fs->b∉ch->s.heap.get? b=some o->H b=none->∃sl,h'.get? b=some { o with slots:=sl }) (free:∀b o,b∉ch->s.heap.get? b=some o->H b=none->H' b=none)
 (there:∀b o,b∉ch->s.heap.get? b=some o->∃o',h'.get? b=some o')
 (tups:∀b xs,H b=some (.tup xs)->H' b=some (.tup xs)) (qG:∀b o u,H b=some (.frz o u)->H' b=some (.frz o u)) (nj:∀b q,H b=some (.tbl q)->H' b=some (.tbl q))
 (ns:∀m,s.heap.Ns X.env.locals m->h'.Ns X.env.locals m) (AY:HOk X.prog X.w H' h') (hg:wq g') :
 AQ X AK σ H' { s with heap:=h',gens:=g',drawn:=d',toks:=t' }:=by
 have neL:∀b o,X.s₀.heap.get? b=some o->b≠X.env.locals:=λb o e=>fi (e8 (c8 e) I.ok.above);have neC:∀b o,X.s₀.heap.get? b=some o->b∉X.ex->b∉ch:=λb o e hx hb=>by
  rcases (hch b hb).1 with z | z
  . exact hx z
  . exact absurd (e8 (c8 e) z) (hV _)
 have cellK:∀x c,X.env.cells.lookup x=some c->∀v,s.heap.IsCell c v->h'.IsCell c v:=λx c e v az=>by
  obtain ⟨o,ho,hd⟩:=az;have nch:=λz=>(hch c z).2.2.1 x c e rfl
  by_cases hc:c∈X.fs
  . obtain ⟨sl,q⟩:=slot c o (I.cne x c e) hc nch ho (I.j5 x c e);exact ⟨_,q,hd⟩
  . exact ⟨o,keep c o (I.cne x c e) hc nch ho (I.j5 x c e),hd⟩
 refine ⟨I.ok,I.os,hg,⟨λb o e n hb hx=>?_,λb o e n hb hx=>?_,λb o e n hx=>?_,λb o e hx=>?_,λb xs e=>tups b xs (I.base.tups b xs e),λb o xs e=>qG b o xs (I.base.qG b o xs e),λb ps e=>nj b ps (I.base.nj b ps e)⟩,?_,λx c e=>?_,?_,λx c e=>?_,λp hp=>?_,AY,I.len⟩
 . exact keep b o (neL b o e) hb (neC b o e hx) (I.base.keep b o e n hb hx) (I.base.free b o e n hx)
 . obtain ⟨sl,e1⟩:=I.base.slot b o e n hb hx;obtain ⟨sl',e2⟩:=slot b _ (neL b o e) hb (neC b o e hx) e1 (I.base.free b o e n hx);exact ⟨sl',e2⟩
 . obtain ⟨o',e1⟩:=I.base.there b o e hx;exact free b o' (neC b o e hx) e1 (I.base.free b o e n hx)
 . obtain ⟨o',e1⟩:=I.base.there b o e hx;exact there b o' (neC b o e hx) e1
 . obtain ⟨m,hn,hl⟩:=I.loc;refine ⟨m,ns m hn,λi x v e1 e2 e3=>?_⟩;obtain ⟨u,r,l⟩:=hl i x v e1 e2 e3;refine ⟨u,r,?_⟩;rcases l with l | ⟨k,c,e,z⟩
   . exact .inl l
   . exact .inr ⟨k,c,e,cellK x c e _ z⟩
 . obtain ⟨v,z⟩:=I.cell x c e;exact ⟨v,cellK x c e v z⟩
 . obtain ⟨m,⟨o,_,_,ho,_⟩,_⟩:=I.loc;exact free _ o (λz=>(hch _ z).2.1 rfl) ho I.free
 . obtain ⟨v,o,ho,hd⟩:=I.cell x c e;exact free c o (λz=>(hch c z).2.2.1 x c e rfl) ho (I.j5 x c e)
 . obtain ⟨e,n,ne,nf,d⟩:=I.pin p hp;have nch:=λz=>(hch p.1 z).2.2.2 p hp rfl;exact ⟨keep p.1 p.2 ne nf nch e n,free p.1 p.2 nch e n,ne,nf,d⟩
theorem AQ.un(I:AQ X AK σ H s)(u:Un X.fs [] H H' s.heap h')(AY:HOk X.prog X.w H' h'):AQ X AK σ H' { s with heap:=h',toks:=t' }:=by
 obtain ⟨m,⟨o,es,ep,ho,r⟩,_⟩:=id I.loc;obtain ⟨sl,hL⟩:=u.any ho I.free (by simp);exact I.step (ch:=[]) (λ_ z=>nomatch z) (λb o _ hb _ e n=>u.keep b o e n hb (by simp)) (λb o _ hb _ e n=>u.slot b o e n hb (by simp)) (λb o _ e n=>u.free b o e n (by simp)) (λb o _ e=>u.there b o e (by simp)) u.tups u.qG u.nj (λm' hm=>by
  obtain ⟨o',es',ep',ho',r'⟩:=hm;rw[ho] at ho';cases ho';exact ⟨_,es',ep',hL,r'⟩) AY I.bare
theorem AQ.call{d':Drawn}(I:AQ X AK σ H s)(u:Un (frs X.stack) ch H H' s.heap h')(AY:HOk X.prog X.w H' h')(hg:wq g')
 (hch:∀b∈ch,(b∈X.ex\/X.s₀.heap.objs.size<=b)/\b≠X.env.locals/\(∀x c,X.env.cells.lookup x=some c->c≠b)/\∀p∈X.pn++AK,p.1≠b) :
 AQ X AK σ H' { s with heap:=h',gens:=g',drawn:=d',toks:=t' }:=by
 obtain ⟨m,⟨o,es,ep,ho,r⟩,_⟩:=id I.loc;obtain ⟨sl,hL⟩:=u.any ho I.free λz=>(hch _ z).2.1 rfl;exact I.step hch (λb o hL hb hc e n=>u.keep b o e n (λz=>(cp.mp (I.Cp b z)).elim hL hb) hc) (λb o _ _ hc e n=>u.any e n hc) (λb o hc e n=>u.free b o e n hc) (λb o hc e=>u.there b o e hc) u.tups u.qG u.nj (λm' hm=>by
  obtain ⟨o',es',ep',ho',r'⟩:=hm;rw[ho] at ho';cases ho';exact ⟨_,es',ep',hL,r'⟩) AY hg
theorem AQ.turned{it:Addr}(I:AQ X AK σ H s)(k:∀b o,b≠it->s.heap.get? b=some o->h'.get? b=some o)(hn:H it=none)(hL:it≠X.env.locals)
 (h1:it∈X.ex\/X.s₀.heap.objs.size<=it) (h2:∀x c,X.env.cells.lookup x=some c->c≠it) (h3:∀p∈X.pn++AK,p.1≠it):AQ X AK σ H { s with heap:=h',toks:=t' }:=by
 have nit:∀b u,H b=some u->b≠it:=λb u e z=>by rw[z,hn] at e;cases e
 refine I.step (ch:=[it]) (λb hb=>?_) (λb o _ _ hc e _=>k b o (λz=>hc (by simp[z])) e) (λb o _ _ hc e _=>⟨o.slots,k b o (λz=>hc (by simp[z])) e⟩) (λ_ _ _ _ n=>n)
  (λb o hc e=>⟨o,k b o (λz=>hc (by simp[z])) e⟩) (λ_ _ e=>e) (λ_ _ _ e=>e) (λ_ _ e=>e) (λm hm=>?_) (λb u e=>?_) I.bare
 . have e:=by simpa using hb
   subst e;exact ⟨h1,hL,h2,h3⟩
 . obtain ⟨o,es,ep,ho,r⟩:=hm;exact ⟨o,es,ep,k _ o (nL hL) ho,r⟩
 . refine (I.AY b u e).stay (λc v hc q=>k c v ?_ q) (λ_ q=>q) λ_ _ q=>q;rcases hc with z | z
   . rw[z];exact nit b u e
   . exact nit c _ z
theorem AQ.tok(I:AQ X AK σ H s)(t:Nat):AQ X AK σ H { s with toks:=t }:=I.un Un.refl I.AY
theorem AQ.kept(I:AQ X AK σ H s)(k:∀b u,s.heap.get? b=some u->h'.get? b=some u):AQ X AK σ H { s with heap:=h',toks:=t' }:=I.un (Un.kept k) (I.AY.kept k)
theorem AQ.laid(I:AQ X AK σ H s)(k:∀b u,s.heap.get? b=some u->h'.get? b=some u)(hp:s.heap.objs.size<=a)(new:gb X.prog X.w (AU H a o) h' a o) :
 AQ X AK σ (AU H a o) { s with heap:=h',toks:=t' }:=I.un (Un.laid k hp (I.AY.fresh hp)) (I.AY.laid k hp new)
theorem AQ.write{e:Addr}(I:AQ X AK σ H s)(mu:Mut (H a))(he:e=a\/H e=some (.own a))(k:∀b u,b≠e->s.heap.get? b=some u->h'.get? b=some u)(heo:∃u,h'.get? e=some u)
 (new:gb X.prog X.w (AU H a o) h' a o):AQ X AK σ (AU H a o) { s with heap:=h',toks:=t' }:=I.un (Un.write mu he k heo) (I.AY.write mu he k heo new)
theorem AQ.M7{Yz:A7}(I:AQ X AK σ H s)(h:∀p∈Yz,s.heap.get? p.1=some p.2/\H p.1=none/\p.1≠X.env.locals/\p.1∉X.fs/\∀v,p.2.data ≠ .cell v):AQ X Yz σ H s:=
 ⟨I.ok,I.os,I.bare,I.base,I.loc,I.cell,I.free,I.j5,λp hp=>(cE.mp hp).elim (λz=>I.pin p (eM _ z)) (h p),I.AY,I.len⟩
theorem Kl(hN:N.Nodup){j:Nat}(a:N[i]?=some x)(b:N[j]?=some x):i=j:=by
 obtain ⟨h1,e1⟩:=aS.mp a;obtain ⟨h2,e2⟩:=aS.mp b;exact (List.getElem_inj hN).mp (e1.trans e2.symm)
theorem Ha{Q:Unit->dy->Prop}(I:AQ X AK σ H s)(hN:X.N.Nodup)(hi:X.N[i]?=some x)(hx:Loc X.env.scope x)(r:AR v u)
 (h:∀s',AQ X AK (σ.set i (some v)) H s'->(∃a,pe a s.heap s'.heap/\(a=X.env.locals\/X.env.cells.lookup x=some a))->Q () s') (hf:X.fn x=true\/X.env.scope.names.lookup x=some .local:=by walk_at "hf"):eI M A (storeName X.env x u) Q E s:=by
 obtain ⟨m,hn,hl⟩:=id I.loc;have hcls:(X.env.scope.kind == .class||(X.env.scope.kind == .module&&X.env.locals != X.env.globals))=false:=by rw[I.ok.kind];rfl
 have hiσ:i < σ.length:=by rw[I.len];exact (aS.mp hi).1
 have cne:=I.cne;have tracked:∀{a:Addr}{h':Heap},(∃o,s.heap.get? a=some o/\H a=none)->pe a s.heap h'->HOk X.prog X.w H h':=λ{a h'} ha hs b ob e=>by
  obtain ⟨_,_,hfree⟩:=ha;refine (I.AY b ob e).stay (λc w' hc q=>(hs.2 c ?_).trans q) (λ_ q=>q) λ_ _ q=>q;rintro rfl;rcases hc with rfl | hc
  . rw[hfree] at e;cases e
  . rw[hfree] at hc;cases hc
 rcases hx with hk | hk
 . refine wpAny_storeName_local hk hn (λh' hn' hs=>?_) hcls;obtain ⟨oL,_,_,hoL,_⟩:=id hn;refine h _ ⟨I.ok,I.os,I.bare,⟨λb o e n hb hx=>?_,λb o e n hb hx=>?_,I.base.free,λb o e hx=>?_,I.base.tups,I.base.qG,I.base.nj⟩,⟨_,hn',λj y v' e1 e2 e3=>?_⟩,λy c e=>?_,I.free,I.j5,λp hp=>?_,tracked ⟨oL,hoL,I.free⟩ hs,by simpa using I.len⟩ ⟨_,hs,.inl rfl⟩
   . exact (hs.2 b (fi (e8 (c8 e) I.ok.above))).trans (I.base.keep b o e n hb hx)
   . obtain ⟨sl,e1⟩:=I.base.slot b o e n hb hx;exact ⟨sl,(hs.2 b (fi (e8 (c8 e) I.ok.above))).trans e1⟩
   . obtain ⟨o',e1⟩:=I.base.there b o e hx;exact ⟨o',(hs.2 b (fi (e8 (c8 e) I.ok.above))).trans e1⟩
   . by_cases hj:j=i
     . subst hj;rw[hi] at e1;cases e1;rw[mm hiσ] at e2;cases e2;exact ⟨u,r,.inl ⟨hk,by simp⟩⟩
     . rw[oC (nL hj)] at e2;obtain ⟨u',r',q⟩:=hl j y v' e1 e2 e3;refine ⟨u',r',?_⟩;rcases q with ⟨k,e⟩ | ⟨k,c,e,z⟩
       . refine .inl ⟨k,?_⟩;have:y≠x:=λe=>hj (Kl hN e1 (e ▸ hi));simp[this,e]
       . exact .inr ⟨k,c,e,z.sameBut hs (cne y c e)⟩
   . obtain ⟨w',z⟩:=I.cell y c e;exact ⟨w',z.sameBut hs (cne y c e)⟩
   . obtain ⟨e,n,ne,nf,d⟩:=I.pin p hp;exact ⟨(hs.2 p.1 ne).trans e,n,ne,nf,d⟩
 . have hfn:X.fn x=true:=by
    rcases hf with z | z
    . exact z
    . rw[z] at hk;cases hk
   obtain ⟨c,hc⟩:=I.ok.has x (.inl hk);obtain ⟨w',z⟩:=I.cell x c hc;refine wpAny_storeName_cell I.ok.kind hk hc z (λh' hc' hs=>?_);obtain ⟨oc,hoc,afL⟩:=id z;refine h { s with heap:=h' } ⟨I.ok,I.os,I.bare,⟨λb o e n hb hx=>?_,λb o e n hb hx=>?_,I.base.free,λb o e hx=>?_,I.base.tups,I.base.qG,I.base.nj⟩,⟨m,hn.sameBut hs (nL (cne x c hc)),λj y v' e1 e2 e3=>?_⟩,λy c' e=>?_,I.free,I.j5,λp hp=>?_,tracked ⟨oc,hoc,I.j5 x c hc⟩ hs,by simpa using I.len⟩ ⟨c,hs,.inr hc⟩
   . exact (hs.2 b (fi (e8 (c8 e) (I.ok.cab x c hfn hc)))).trans (I.base.keep b o e n hb hx)
   . obtain ⟨sl,e1⟩:=I.base.slot b o e n hb hx;exact ⟨sl,(hs.2 b (fi (e8 (c8 e) (I.ok.cab x c hfn hc)))).trans e1⟩
   . obtain ⟨o',e1⟩:=I.base.there b o e hx;exact ⟨o',(hs.2 b (fi (e8 (c8 e) (I.ok.cab x c hfn hc)))).trans e1⟩
   . by_cases hj:j=i
     . subst hj;rw[hi] at e1;cases e1;rw[mm hiσ] at e2;cases e2;exact ⟨u,r,.inr ⟨.inl hk,c,hc,hc'⟩⟩
     . rw[oC (nL hj)] at e2;obtain ⟨u',r',q⟩:=hl j y v' e1 e2 e3;refine ⟨u',r',?_⟩;rcases q with q | ⟨k,c',e,z'⟩
       . exact .inl q
       . refine .inr ⟨k,c',e,z'.sameBut hs ?_⟩;rintro rfl;exact hj (Kl hN e1 (I.ok.inj _ _ _ e hc ▸ hi))
   . by_cases hcc:c'=c
     . subst hcc;exact ⟨_,hc'⟩
     . obtain ⟨w2,z2⟩:=I.cell y c' e;exact ⟨w2,z2.sameBut hs hcc⟩
   . obtain ⟨e,n,ne,nf,d⟩:=I.pin p hp;refine ⟨(hs.2 p.1 ?_).trans e,n,ne,nf,d⟩;intro q;rw[q,hoc] at e;have q':=Option.some.inj e;exact d w' (by rw[<- q'];exact afL)
theorem Jp{Q:Unit->dy->Prop}(I:AQ X AK σ H s)(hN:X.N.Nodup)(hi:X.N[i]?=some x)(hx:Loc X.env.scope x)(r:AR v u)
 (h:∀s',AQ X AK (σ.set i (some v)) H s'->Q () s') (hf:X.fn x=true\/X.env.scope.names.lookup x=some .local:=by walk_at "hf"):eI M A (storeName X.env x u) Q E s:=
 Ha I hN hi hx r (λs' I' _=>h s' I') hf
theorem AQ.call'(I:AQ X AK σ H s)(ho:s'.os=s.os)(u:Un (frs X.stack) ch H H' s.heap s'.heap)(AY:HOk X.prog X.w H' s'.heap)(hg:wq s'.gens)
 (hch:∀b∈ch,(b∈X.ex\/X.s₀.heap.objs.size<=b)/\b≠X.env.locals/\(∀x c,X.env.cells.lookup x=some c->c≠b)/\∀p∈X.pn++AK,p.1≠b):AQ X AK σ H' s':=by
 obtain ⟨h',g',d',t',o'⟩:=s';have e:=ho;subst e;exact I.call u AY hg hch
end
abbrev XK:=a9->C4->Hp->Prop
abbrev St:=List (Option V)
abbrev VK:=V->Hp->Prop
abbrev TE:=St->Hp->VK->Prop
abbrev TT:=St->Hp->(Bool->Hp->Prop)->Prop
abbrev TA:=St->Hp->(C0->Hp->Prop)->Prop
structure Ends where
 nx:St->Hp->Prop
 rt:VK
 bk:St->Hp->Prop:=λ_ _=>False
 ct:St->Hp->Prop:=λ_ _=>False
abbrev TS:=Ends->St->Hp->Prop
def EP(X:Cx)(AK:A7)(σ:St)(Q:VK)(u:a9)(s':dy):Prop:=∃v H',AQ X AK σ H' s'/\AR v u/\Q v H'
def TP(X:Cx)(AK:A7)(σ:St)(Q:Bool->Hp->Prop)(b:Bool)(s':dy):Prop:=∃H',AQ X AK σ H' s'/\Q b H'
def AP(X:Cx)(AK:A7)(σ:St)(Q:C0->Hp->Prop)(us:B8)(s':dy):Prop:=∃vs H',AQ X AK σ H' s'/\AS vs us/\Q vs H'
def SP(X:Cx)(AK:A7)(D:Ends)(f:Flow)(s':dy):Prop:=
 match f with
 | .next=>∃σ' H',AQ X AK σ' H' s'/\D.nx σ' H'
 | .brk=>∃σ' H',AQ X AK σ' H' s'/\D.bk σ' H'
 | .cont=>∃σ' H',AQ X AK σ' H' s'/\D.ct σ' H'
 | .ret u=>∃v σ' H',AQ X AK σ' H' s'/\AR v u/\D.rt v H'
def PE(X:Cx)(e:Expr)(t:TE):Prop:=
 ∀(AK:A7) (s:dy) (σ:St) (H:Hp) (Q:VK),AQ X AK σ H s->t σ H Q->eI (eL X.prog X.w) X.A (eval e X.env) (EP X AK σ Q) X.xe s
def PT(X:Cx)(e:Expr)(t:TT):Prop:=
 ∀(AK:A7) (s:dy) (σ:St) (H:Hp) (Q:Bool->Hp->Prop),AQ X AK σ H s->t σ H Q->eI (eL X.prog X.w) X.A (isTrue e X.env (eval e X.env)) (TP X AK σ Q) X.xe s
def PW(X:Cx)(e:Expr)(t:TT):Prop:=
 ∀(whole:Sem a9) (AK:A7) (s:dy) (σ:St) (H:Hp) (Q:Bool->Hp->Prop),AQ X AK σ H s->t σ H Q->eI (eL X.prog X.w) X.A (isTrue e X.env whole) (TP X AK σ Q) X.xe s
variable {e:Expr}
theorem PW.pt{t:TT}(h:PW X e t):PT X e t:=h _
def PA(X:Cx)(es:C1)(t:TA):Prop:=
 ∀(pos:Pos) (AK:A7) (s:dy) (σ:St) (H:Hp) (Q:C0->Hp->Prop),AQ X AK σ H s->t σ H Q->eI (eL X.prog X.w) X.A (spliced (nc pos (d5 es X.env))) (AP X AK σ Q) X.xe s
def PS(X:Cx)(st:Stmt)(t:TS):Prop:=
 ∀(AK:A7) (s:dy) (σ:St) (H:Hp) (D:Ends),AQ X AK σ H s->t D σ H->eI (eL X.prog X.w) X.A (exec st X.env) (SP X AK D) X.xe s
def PSs(X:Cx)(st:C5)(t:TS):Prop:=
 ∀(AK:A7) (s:dy) (σ:St) (H:Hp) (D:Ends),AQ X AK σ H s->t D σ H->eI (eL X.prog X.w) X.A (execs st X.env) (SP X AK D) X.xe s
theorem thn{α:Type}{t:Sem α}{Q Q':α->dy->Prop}(h:eI M A t Q E s)(hQ:∀a s,Q a s->Q' a s):eI M A t Q' E s:=ib h hQ λ_ _ x=>x
variable {Q:B2}{pos:Pos}{σ:St}{c:Expr}
section
def afm(i:Nat):TE:=λσ H Q=>∃v,σ[i]?=some (some v)/\Q v H
def tC(v:V):TE:=λ_ H Q=>Q v H
theorem dW(hN:X.N[i]?=some x)(hv:Vis X.env.scope x)(hd:nD x:=by decide)(hcd:(x == ("__classdict__" : Str))=false:=by decide):PE X (.Name x pos) (afm i):=by
 rintro AK s σ H Q I ⟨v,e,h⟩;obtain ⟨m,hn,hl⟩:=I.loc;obtain ⟨u,r,l⟩:=hl i x v hN e hv;have fin:EP X AK σ Q u s:=⟨v,H,I,r,h⟩;rcases l with ⟨hk,hm⟩ | ⟨hk,c,hc,hcell⟩
 . exact yy (wpAny_loadName_local I.ok.kind hk hn hm fin) hd
 . rcases hk with hk | hk
   . exact yy (wpAny_loadName_cell I.ok.kind hk hc hcell fin) hd
   . exact yy (wpAny_loadName_free I.ok.kind hk hc hcell fin hcd) hd
theorem Iz{i j pos}:PE X (.Constant (.int i) j pos) (tC (.int i)):=λ_ _ _ H _ I h=>wpAny_Constant_int ⟨.int i,H,I.tok _,⟨_,rfl⟩,h⟩
theorem aeo{b j pos}:PE X (.Constant (.bool b) j pos) (tC (.bl b)):=λ_ _ _ H _ I h=>Constant_bool ⟨.bl b,H,I,rfl,h⟩
theorem adO{j pos}:PE X (.Constant .none j pos) (tC .non):=λ_ _ _ H _ I h=>Constant_none ⟨.non,H,I,rfl,h⟩
theorem Ud{x j pos}:PE X (.Constant (.str x) j pos) (tC (.str x)):=λ_ _ _ H _ I h=>Calls.Constant_str ⟨.str x,H,I.tok _,⟨_,rfl⟩,h⟩
def Gl(X:Cx)(x:Str):Prop:=X.env.kindOf x=some .globalImplicit
theorem Nk(I:AQ X AK σ H s)(hg:Gl X x)(hm:X.mg x=some u)(h:Q u s)
 (hd:nD x:=by decide):eI (eL X.prog X.w) X.A (eval (.Name x pos) X.env) Q E s:=
 Calls.Name_function_global I.ok.kind hg (Calls.loadGlobal_global (by rw[I.ok.glob];exact I.mod.glob.keeps I.bk) hm h) hd
theorem nZ(I:AQ X AK σ H s)(hg:Gl X x)(hm:X.mg x=none)(hv:fk x=some u)(h:Q u s)
 (hn:x ≠ "__name__" := by decide) (hd:nD x:=by decide):eI (eL X.prog X.w) X.A (eval (.Name x pos) X.env) Q E s:=by
 obtain ⟨mb,h1,h2⟩:=I.mod.blt;exact Calls.Name_function_global I.ok.kind hg (Calls.loadGlobal_builtin (by rw[I.ok.glob];exact I.mod.glob.keeps I.bk) hm (by rw[I.ok.blt];exact h1.keeps I.bk) ((h2 x hn).trans hv) h) hd
theorem Oj(hg:Gl X x)(hm:X.mg x=some u)(r:AR v u)(hd:nD x:=by decide):PE X (.Name x pos) (tC v):=
 λ_ _ _ H _ I h=>Nk I hg hm ⟨v,H,I,r,h⟩ hd
theorem Z2(hg:Gl X x)(hm:X.mg x=none)(hv:fk x=some u)(r:AR v u)(hn:x ≠ "__name__" := by decide)(hd:nD x:=by decide):PE X (.Name x pos) (tC v):=
 λ_ _ _ H _ I h=>nZ I hg hm hv ⟨v,H,I,r,h⟩ hn hd
variable {a b:Expr}{ta tb:TE}
variable {tA tB':TT}{rest:C1}
def afe(t u:TT):TT:=λσ H Q=>t σ H λc H1=>if c=true then u σ H1 Q else Q false H1
def tOr(t u:TT):TT:=λσ H Q=>t σ H λc H1=>if c=true then Q true H1 else u σ H1 Q
def af1(t:TT):TT:=λσ H Q=>t σ H λc H1=>Q (!c) H1
theorem Zv(ha:PT X a tA):PW X (.BoolOp .And [a] pos) tA:=by
 intro wh AK s σ H Q I h;refine isTrue_and (thn (ha AK s σ H Q I h) λc s1 e=>?_)
 cases c with
 | true=>exact isTrue_and_nil e
 | false=>exact e
theorem adH(ha:PT X a tA):PW X (.BoolOp .Or [a] pos) tA:=by
 intro wh AK s σ H Q I h;refine isTrue_or (thn (ha AK s σ H Q I h) λc s1 e=>?_)
 cases c with
 | false=>exact isTrue_or_nil e
 | true=>exact e
theorem ade(ha:PT X a tA)(hb:PW X (.BoolOp .And (b::rest) pos) tB'):PW X (.BoolOp .And (a::b::rest) pos) (afe tA tB'):=by
 intro wh AK s σ H Q I h;refine isTrue_and (thn (ha AK s σ H _ I h) λc s1 az=>?_);obtain ⟨H1,I1,q1⟩:=az
 cases c with
 | true=>exact hb wh AK s1 σ H1 Q I1 q1
 | false=>exact ⟨H1,I1,q1⟩
theorem aeb(ha:PT X a tA)(hb:PW X (.BoolOp .Or (b::rest) pos) tB'):PW X (.BoolOp .Or (a::b::rest) pos) (tOr tA tB'):=by
 intro wh AK s σ H Q I h;refine isTrue_or (thn (ha AK s σ H _ I h) λc s1 az=>?_);obtain ⟨H1,I1,q1⟩:=az
 cases c with
 | true=>exact ⟨H1,I1,q1⟩
 | false=>exact hb wh AK s1 σ H1 Q I1 q1
theorem acR(ha:PT X a tA):PT X (.UnaryOp .Not a pos) (af1 tA):=by
 intro AK s σ H Q I h;exact isTrue_not (ha AK s σ H (λc H1=>Q (!c) H1) I h)
def aee(ta tb:TE):TE:=λσ H Q=>ta σ H λx H1=>∃c,x= .bl c/\if c=true then tb σ H1 Q else Q (.bl false) H1
def aeD(ta:TE):TE:=λσ H Q=>ta σ H λx H1=>∃c,x= .bl c/\Q (.bl (!c)) H1
theorem adK{op}{t:TE}(h:PE X a t):PE X (.BoolOp op [a] pos) t:=λAK s σ H Q I hw=>BoolOp_one (h AK s σ H Q I hw)
theorem acU(ha:PE X a ta)(hb:PE X (.BoolOp .And (b::rest) pos) tb):PE X (.BoolOp .And (a::b::rest) pos) (aee ta tb):=by
 intro AK s σ H Q I h;refine BoolOp_and (thn (ha AK s σ H _ I h) λv s1 az=>?_);obtain ⟨x,H1,I1,r1,q1⟩:=az;obtain ⟨c,rfl,q1⟩:=q1;cases r1;refine nz ?_
 cases c with
 | true=>exact hb AK s1 σ H1 Q I1 q1
 | false=>exact ⟨.bl false,H1,I1,rfl,q1⟩
theorem abG(ha:PE X a ta):PE X (.UnaryOp .Not a pos) (aeD ta):=by
 intro AK s σ H Q I h;refine UnaryOp_ (thn (ha AK s σ H _ I h) λv s1 az=>?_);obtain ⟨x,H1,I1,r1,q1⟩:=az;obtain ⟨c,rfl,q1⟩:=q1;cases r1;exact not_of (nz ⟨.bl (!c),H1,I1,rfl,q1⟩)
def tIf(t:TT)(ta tb:TE):TE:=λσ H Q=>t σ H λc H1=>if c=true then ta σ H1 Q else tb σ H1 Q
theorem VP(hc:PT X c tA)(ha:PE X a ta)(hb:PE X b tb):PE X (.IfExp c a b pos) (tIf tA ta tb):=by
 intro AK s σ H Q I h;refine wpAny_IfExp (thn (hc AK s σ H _ I h) λd s1 az=>?_);obtain ⟨H1,I1,q1⟩:=az
 cases d with
 | true=>exact ha AK s1 σ H1 Q I1 q1
 | false=>exact hb AK s1 σ H1 Q I1 q1
end
def SqL(K:aw)(H:Hp)(a:Addr)(xs:C0):Prop:=
 Rd H a (.lst xs) \/
  ∃(o:Obj) (AM:Array a9) (n:Nat),K.lookup a=some o/\o.cls= .type "list" /\ o.dict=none/\o.data= .seq AM n/\AM.size<=bE/\AS xs AM.toList
def SqT(K:aw)(H:Hp)(a:Addr)(xs:C0):Prop:=
 Rd H a (.tup xs) \/
  ∃(o:Obj) (AM:Array a9) (n:Nat),K.lookup a=some o/\o.cls= .type "tuple" /\ o.data= .seq AM n/\AM.size<=bE/\AS xs AM.toList
noncomputable def afQ:a9->Option V
 | .none=>some .non
 | .bool b=>some (.bl b)
 | .int i _=>some (.int i)
 | .str x _=>some (.str x)
 | .bytes b _=>some (.byt b)
 | .float b _=>some (.flt b)
 | .ref a=>some (.ref a)
 | .type n=>some (.ty n)
 | _=>none
theorem AR.abs{x:V}(r:AR x u):afQ u=some x:=by
 cases x with
 | non=>cases r;rfl
 | bl _=>cases r;rfl
 | int _=>obtain ⟨t,rfl⟩:=r;rfl
 | str _=>obtain ⟨t,rfl⟩:=r;rfl
 | byt _=>obtain ⟨t,rfl⟩:=r;rfl
 | flt _=>obtain ⟨t,rfl⟩:=r;rfl
 | ref _=>cases r;rfl
 | ty _=>cases r;rfl
theorem AR.inj{y:V}(r:AR v u)(q:AR y u):v=y:=Option.some.inj (r.abs.symm.trans q.abs)
theorem AS.inj:∀{xs ys:C0}{us:B8},AS xs us->AS ys us->xs=ys
 | _,_,_,.nil,.nil=>rfl
 | _,_,_,.cons r t,.cons r' t'=>by rw[r.inj r',AS.inj t t']
variable {K:aw}
section
variable       {ys:C0}
theorem SqL.of(h:H a=some (.lst xs)):SqL K H a xs:=.inl (.inl h)
theorem SqT.of(h:H a=some (.tup xs)):SqT K H a xs:=.inl (.inl h)
theorem AQ.list(I:AQ X AK σ H s)(h:SqL X.K H a xs):∃AM:B8,AS xs AM/\PlainL s.heap a AM.toArray/\xs.length<=bE:=by
 rcases h with h | ⟨o,AM,n,hk,hc,hd,hs,hz,r⟩
 . obtain ⟨z,AM,n,r,e⟩:=h.ok I.AY;exact ⟨AM,r,⟨_,n,e,rfl,rfl,rfl⟩,z⟩
 . refine ⟨AM.toList,r,⟨o,n,I.kIn a o hk,hc,hd,by simpa using hs⟩,?_⟩;have e:=r.length;simp only[md] at e;lia
theorem AQ.tuple(I:AQ X AK σ H s)(h:SqT X.K H a xs):∃AM:B8,AS xs AM/\zv s.heap a AM.toArray/\xs.length<=bE:=by
 rcases h with h | ⟨o,AM,n,hk,hc,hs,hz,r⟩
 . obtain ⟨z,AM,r,p⟩:=h.ok I.AY;exact ⟨AM,r,p,z⟩
 . refine ⟨AM.toList,r,⟨o,I.kIn a o hk,hc,n,by simpa using hs⟩,?_⟩;have e:=r.length;simp only[md] at e;lia
theorem AQ.wI(I:AQ X AK σ H s)(h:SqL X.K H a xs)(h':SqL X.K H a ys):xs=ys:=by
 obtain ⟨AM,r,⟨o,n,e,_,_,d⟩,_⟩:=I.list h;obtain ⟨its',r',⟨o',n',e',_,_,d'⟩,_⟩:=I.list h';rw[e] at e';cases e';rw[d] at d';injection d' with d1 _;have:=by simpa using congrArg Array.toList d1
 subst this;exact r.inj r'
theorem AQ.xU(I:AQ X AK σ H s)(h:SqT X.K H a xs)(h':SqT X.K H a ys):xs=ys:=by
 obtain ⟨AM,r,⟨o,e,_,n,d⟩,_⟩:=I.tuple h;obtain ⟨its',r',⟨o',e',_,n',d'⟩,_⟩:=I.tuple h';rw[e] at e';cases e';rw[d] at d';injection d' with d1 _;have:=by simpa using congrArg Array.toList d1
 subst this;exact r.inj r'
end
noncomputable abbrev Cx.wish(X:Cx)(E:B2):Cx:={ X with xe:=E }
noncomputable abbrev Cx.nox(X:Cx):Cx:=X.wish λ_ _=>False
theorem Cx.Ok.wish(ok:X.Ok)(E:B2):(X.wish E).Ok:=
 ⟨ok.mod,ok.kind,ok.glob,ok.blt,ok.above,ok.inj,ok.has,ok.cab,ok.hd,ok.frames,ok.stk,ok.exf,ok.bs,ok.bsz,ok.J3,ok.Qi,ok.sZ,ok.frf,ok.tabs⟩
theorem Cx.Ok.qx(ok:(X.wish E).Ok):X.Ok:=
 ⟨ok.mod,ok.kind,ok.glob,ok.blt,ok.above,ok.inj,ok.has,ok.cab,ok.hd,ok.frames,ok.stk,ok.exf,ok.bs,ok.bsz,ok.J3,ok.Qi,ok.sZ,ok.frf,ok.tabs⟩
theorem AQ.wish(I:AQ X AK σ H s)(E:B2):AQ (X.wish E) AK σ H s:=⟨I.ok.wish E,I.os,I.bare,I.base,I.loc,I.cell,I.free,I.j5,I.pin,I.AY,I.len⟩
theorem AQ.qx(I:AQ (X.wish E) AK σ H s):AQ X AK σ H s:=⟨I.ok.qx,I.os,I.bare,I.base,I.loc,I.cell,I.free,I.j5,I.pin,I.AY,I.len⟩
theorem SP.qx{D:Ends}{f:Flow}(h:SP (X.wish E) AK D f s'):SP X AK D f s':=by
 cases f with
 | next=>obtain ⟨σ',H',I,q⟩:=h;exact ⟨σ',H',I.qx,q⟩
 | brk=>obtain ⟨σ',H',I,q⟩:=h;exact ⟨σ',H',I.qx,q⟩
 | cont=>obtain ⟨σ',H',I,q⟩:=h;exact ⟨σ',H',I.qx,q⟩
 | ret u=>obtain ⟨v,σ',H',I,r,q⟩:=h;exact ⟨v,σ',H',I.qx,r,q⟩
theorem PSs.nox{st:C5}{t:TS}(h:PSs X.nox st t):PSs X st t:=λAK s σ H D I hw=>
 ib (h AK s σ H D (I.wish _) hw) (λ_ _ q=>q.qx) λ_ _ z=>l7 z
section
variable  {st:Stmt}{rest:C5}{t u:TS}  {te:TE}
def aeh:TS:=λD σ H=>D.nx σ H
def afY(t u:TS):TS:=λD σ H=>t { D with nx:=u D } σ H
theorem YH:PSs X [] aeh:=λ_ _ σ H _ I h=>t9 ⟨σ,H,I,h⟩
theorem WQ(h1:PS X st t)(h2:PSs X rest u):PSs X (st::rest) (afY t u):=by
 intro AK s σ H D I h;refine wpAny_execs_cons (thn (h1 AK s σ H { D with nx:=u D } I h) λf s1 q=>?_)
 cases f with
 | next=>
  obtain ⟨σ',H',I',q⟩:=q;exact h2 AK s1 σ' H' D I' q
 | ret v=>exact q
 | brk=>exact q
 | cont=>exact q
theorem aaI(h1:PS X st t):PSs X [st] t:=by
 intro AK s σ H D I h;refine wpAny_execs_cons (thn (h1 AK s σ H D I h) λf s1 q=>?_)
 cases f with
 | next=>exact t9 q
 | ret v=>exact q
 | brk=>exact q
 | cont=>exact q
theorem AQ.quiet(I:AQ X AK σ H s):interactive X.env=false:=by simp[interactive,I.ok.kind]
def aeE(te:TE):TS:=λD σ H=>te σ H λ_ H1=>D.nx σ H1
theorem o7(he:PE X e te)(hs:h9 e none pos.line X.env=pure false:=by rfl):PS X (.Expr e pos) (aeE te):=by
 intro AK s σ H D I h;exact wpAny_Expr_any (thn (he AK s σ H _ I h) λv s1 ⟨x,H1,I1,r1,q1⟩=>⟨σ,H1,I1,q1⟩) I.quiet hs
def ae4(te:TE):TS:=λD σ H=>te σ H D.rt
theorem yF(he:PE X e te):PS X (.Return (some e) pos) (ae4 te):=by
 intro AK s σ H D I h;exact wpAny_Return_some (thn (he AK s σ H _ I h) λv s1 ⟨x,H1,I1,r1,q1⟩=>⟨x,σ,H1,I1,r1,q1⟩)
def afX(c:TT)(t u:TS):TS:=λD σ H=>c σ H λb H1=>if b=true then t D σ H1 else u D σ H1
theorem ad7{a b:C5}{tc:TT}(hc:PT X c tc)(ha:PSs X a t)(hb:PSs X b u):PS X (.If c a b pos) (afX tc t u):=by
 intro AK s σ H D I h;refine wpAny_If (thn (hc AK s σ H _ I h) λd s1 az=>?_);obtain ⟨H1,I1,q1⟩:=az
 cases d with
 | true=>exact ha AK s1 σ H1 D I1 q1
 | false=>exact hb AK s1 σ H1 D I1 q1
def abL:TS:=λ_ _ _=>False
theorem Wz:PS X st abL:=λ_ _ _ _ _ _ h=>h.elim
end
abbrev TG:=V->St->Hp->(St->Hp->Prop)->Prop
abbrev TGs:=C0->St->Hp->(St->Hp->Prop)->Prop
def PG(X:Cx)(target:Expr)(t:TG):Prop:=
 ∀(AK:A7) (s:dy) (σ:St) (H:Hp) (v:V) (u:a9) (Q:St->Hp->Prop),AQ X AK σ H s->AR v u->t v σ H Q ->
  eI (eL X.prog X.w) X.A (assign target X.env u) (λ_ s'=>∃σ' H',AQ X AK σ' H' s'/\Q σ' H') X.xe s
def PGs(X:Cx)(ts:C1)(t:TGs):Prop:=
 ∀(AK:A7) (s:dy) (σ:St) (H:Hp) (vs:C0) (us:B8) (Q:St->Hp->Prop),AQ X AK σ H s->AS vs us->t vs σ H Q ->
  eI (eL X.prog X.w) X.A (assignInOrder ((nK ts X.env).map (·.2)) us) (λ_ s'=>∃σ' H',AQ X AK σ' H' s'/\Q σ' H') X.xe s
variable {es:C1}
def CQ(i:Nat):TG:=λv σ H Q=>Q (σ.set i (some v)) H
theorem aag(hN:X.N.Nodup)(hi:X.N[i]?=some x)(hx:Loc X.env.scope x)(hf:X.fn x=true\/X.env.scope.names.lookup x=some .local:=by walk_at "hf"):PG X (.Name x pos) (CQ i):=by
 intro AK s σ H v u Q I r h;exact wpAny_assign_Name (Jp I hN hi hx r (λs' I'=>⟨_,H,I',h⟩) hf)
def afh:TGs:=λvs σ H Q=>vs=[]/\Q σ H
def aeM(t:TG)(u:TGs):TGs:=λvs σ H Q=>∃v r,vs=v::r/\t v σ H λσ' H'=>u r σ' H' Q
theorem aaV:PGs X [] afh:=by
 rintro AK s σ H vs us Q I r ⟨e,h⟩;subst e;cases r;exact assignInOrder_nil ⟨σ,H,I,h⟩
theorem Vu{t:TG}{u:TGs}(h1:PG X e t)(h2:PGs X es u)
 (hs:(nK (e::es) X.env).map (·.2)=assign e X.env::(nK es X.env).map (·.2):=by rfl):PGs X (e::es) (aeM t u):=by
 rintro AK s σ H vs us Q I r ⟨v,vr,e1,h⟩;subst e1
 cases r with
 | cons r rr=>
  rw[hs];exact assignInOrder_cons (thn (h1 AK s σ H _ _ _ I r h) λ_ s1 ⟨σ1,H1,I1,q1⟩=>h2 AK s1 σ1 H1 _ _ Q I1 rr q1)
def afS(K:aw)(n:Nat)(t:TGs):TG:=λv σ H Q=>∃a xs,v= .ref a/\SqT K H a xs/\xs.length=n/\t xs σ H Q
theorem acz{t:TGs}{n:Nat}(hc:X.calm=true)(h:PGs X es t)
 (hn:(nK es X.env).length=n:=by rfl) (hst:(nK es X.env).findIdx? (·.1)=none:=by rfl):PG X (.Tuple es i pos) (afS X.K n t):=by
 rintro AK s σ H v u Q I r ⟨a,xs,e1,hq,hl,hw⟩;subst e1;cases r;obtain ⟨AM,rv,ht,hz⟩:=I.tuple hq;refine assign_Tuple_tuple (I.ok.hd hc) ht (by simp[hn,<- hl,rv.length]) hst λh' hx=>?_;have I1:=I.kept (t':=s.toks) λb o e=>hx b o (fi (c8 e)) e;exact h AK _ σ H xs _ Q I1 (by simpa using rv) hw
def Qx(te:TE)(g:TG):TS:=λD σ H=>te σ H λx H1=>g x σ H1 D.nx
theorem Dh{te:TE}{pos':Pos}(hN:X.N.Nodup)(hi:X.N[i]?=some x)(hx:Loc X.env.scope x)(he:PE X e te)(hs:h9 e (some (.Name x pos')) pos.line X.env=pure false:=by rfl)(hf:X.fn x=true\/X.env.scope.names.lookup x=some .local:=by walk_at "hf") :
 PS X (.Assign [.Name x pos'] e pos) (Qx te (CQ i)):=by
 intro AK s σ H D I h;refine wpAny_Assign_Name (thn (he AK s σ H _ I h) λv s1 az=>?_) hs;obtain ⟨y,H1,I1,r1,q1⟩:=az;exact Jp I1 hN hi hx r1 (λs2 I2=>⟨_,H1,I2,q1⟩) hf
variable {body:C5}
def adP(c:TT)(tb:TS):TS:=λD σ H=>∃W:Nat->St->Hp->Prop,(∃m,W m σ H)/\∀m σ H,W m σ H ->
 c σ H λb H1=>if b=true then ∃N:St->Hp->Prop,(∀σ' H',N σ' H'->∃m',m'<m/\W m' σ' H')/\tb { D with nx:=N,ct:=N,bk:=D.nx } σ H1 else D.nx σ H1
theorem Xd{tc:TT}{tb:TS}(hp:vE (eL X.prog X.w) X.A X.env X.xe)(hc:PT X c tc)(hb:PSs X body tb):PS X (.While c body [] pos) (adP tc tb):=by
 rintro AK s σ H D I ⟨W,⟨m0,w0⟩,turn⟩;refine wpAny_While (codeAny_whileLoop (λn s'=>∃σ' H',AQ X AK σ' H' s'/\W n σ' H') ?_ m0 ⟨σ,H,I,w0⟩);rintro n s1 ⟨σ1,H1,I1,w1⟩;refine nr hp (thn (hc AK s1 σ1 H1 _ I1 (turn n σ1 H1 w1)) λb s2 az=>?_);obtain ⟨H2,I2,q2⟩:=az
 cases b with
 | true=>
  obtain ⟨N,hN,q2⟩:=q2;rw[if_pos rfl];refine nr hp (thn (hb AK s2 σ1 H2 _ I2 q2) λf s3 q3=>?_)
  cases f with
  | next=>
   obtain ⟨σ3,H3,I3,n3⟩:=q3;obtain ⟨m',hm,w3⟩:=hN σ3 H3 n3;exact ⟨m',hm,σ3,H3,I3,w3⟩
  | cont=>
   obtain ⟨σ3,H3,I3,n3⟩:=q3;obtain ⟨m',hm,w3⟩:=hN σ3 H3 n3;exact ⟨m',hm,σ3,H3,I3,w3⟩
  | brk=>exact q3
  | ret v=>exact q3
 | false=>
  rw[if_neg eW];exact t9 ⟨σ1,H2,I2,q2⟩
structure It where
 go:Nat->Hp->Prop
 yld:Nat->Hp->V->Hp->Prop
 stop:Nat->Hp->Prop
def uL(X:Cx)(AK:A7)(H:Hp)(b:Addr):Prop:=
 H b=none/\b≠X.env.locals/\b∉X.fs/\(b∈X.ex\/X.s₀.heap.objs.size<=b)/\(∀x c,X.env.cells.lookup x=some c->c≠b)/\∀p∈X.pn++AK,p.1≠b
theorem AQ.sS{H':Hp}(I:AQ X AK σ H s)(hb:s.heap.objs.size<=b)(hn:H' b=none):uL X AK H' b:=by
 refine ⟨hn,rl (e8 I.lt hb),I.af0 hb,.inr (dc I.sz hb),λx c e z=>?_,λp hp z=>?_⟩
 . obtain ⟨v,q⟩:=I.cell x c e;exact absurd (e8 q.lt (by rw[z];exact hb)) (hV _)
 . exact absurd (e8 (c8 (I.pin p hp).1) (by rw[z];exact hb)) (hV _)
structure Turn (P:ia) (w:lI) (K:aw) (tg:Expr) (J:It) (fp:C2) (it:Addr) (tn:Nat->Heap->Prop):Prop where
 mem:it∈fp
 obj:∀i h,tn i h->∀b∈fp,∃o,h.get? b=some o/\∀v,o.data ≠ .cell v
 keep:∀i h h',tn i h->(∀b∈fp,∀o,h.get? b=some o->h'.get? b=some o)->tn i h'
 item:∀(X:Cx),X.prog=P->X.w=w->X.K=K->X.calm=true->∀(i:Nat) (AK:A7) (s:dy) (σ:St) (H:Hp) (E:B2),AQ X AK σ H s->(∀b∈fp,uL X AK H b)->tn i s.heap->J.go i H ->
  eI (eL P w) X.A (pyNext (.ref it)) (λr s1=>∃u,r=some u /\
   eI (eL P w) X.A (zw tg (.ref it) u) (λ_ s2=>∃x H',AQ X AK σ H' s2/\AR x u/\J.yld i H x H'/\tn (i+1) s2.heap/\∀b∈fp,H' b=none) E s1) E s
 done:∀(X:Cx),X.prog=P->X.w=w->X.K=K->X.calm=true->∀(i:Nat) (AK:A7) (s:dy) (σ:St) (H:Hp) (E:B2),AQ X AK σ H s->(∀b∈fp,uL X AK H b)->tn i s.heap->J.stop i H ->
  eI (eL P w) X.A (pyNext (.ref it)) (λr s1=>r=none/\AQ X AK σ H s1) E s
 self:∀(A:ke) (i:Nat) (s:dy) (Q:B2) (E:B2),tn i s.heap->Q (.ref it) s->eI (eL P w) A (pyIter (.ref it)) Q E s
abbrev TI:=St->Hp->(It->Hp->Prop)->Prop
def PIE(X:Cx)(AK:A7)(σ:St)(tg:Expr)(R:It->Hp->Prop)(itv:a9)(s2:dy):Prop:=
 ∃(it:Addr) (fp:C2) (tn:Nat->Heap->Prop) (J:It) (H':Hp),itv= .ref it/\AQ X AK σ H' s2/\Turn X.prog X.w X.K tg J fp it tn/\tn 0 s2.heap/\(∀b∈fp,uL X AK H' b)/\R J H'
def PI(X:Cx)(tg iter:Expr)(wi:TI):Prop:=
 ∀(AK:A7) (s:dy) (σ:St) (H:Hp) (R:It->Hp->Prop),AQ X AK σ H s->wi σ H R ->
  eI (eL X.prog X.w) X.A (eval iter X.env) (λv s1=>eI (eL X.prog X.w) X.A (pyIter v) (PIE X AK σ tg R) X.xe s1) X.xe s
variable {tg:Expr}
theorem zG{o:Obj}{n:String}{vs:Array a9}{Q:Unit->dy->Prop}(ho:s.heap.get? a=some o)(hc:o.cls= .type n)(hd:o.data= .fields vs)
 (hn:["enumerate", "zip", "dict_itemiterator", "dict_reverseitemiterator", "odict_iterator", "itertools.zip_longest", "itertools.pairwise"].contains n=false) (hQ:Q () s):eI M A (zw tg (.ref a) u) Q E s:=by
 cases tg <;> first
  | exact bo hQ
  | (cases u <;> first
   | exact bo hQ
   | (
    refine ag (wpAny_load ho ?_);rw[hc,hd];show eI M A (if (["enumerate", "zip", "dict_itemiterator", "dict_reverseitemiterator", "odict_iterator", "itertools.zip_longest", "itertools.pairwise"].contains n&&vs[0]? == some (ua _))=true then _ else _) Q E s;rw[if_neg (by intro h;rw[hn,Bool.false_and] at h;cases h)];exact bo hQ))
noncomputable def Itl(K:aw)(a:Addr):It:=
 ⟨λi H=>∃xs x,SqL K H a xs/\xs[i]?=some x,λi H x H'=>H'=H/\∀xs,SqL K H a xs->xs[i]?=some x,λi H=>∃xs,SqL K H a xs/\xs.length<=i⟩
noncomputable def Itt(K:aw)(a:Addr):It:=
 ⟨λi H=>∃xs x,SqT K H a xs/\xs[i]?=some x,λi H x H'=>H'=H/\∀xs,SqT K H a xs->xs[i]?=some x,λi H=>∃xs,SqT K H a xs/\xs.length<=i⟩
noncomputable def Itr(lo:Int)(n:Nat):It:=⟨λi _=>i<n,λi H x H'=>H'=H/\x= .int (lo+i),λi _=>n<=i⟩
theorem TX(a it:Addr):Turn P w K tg (Itl K a) [it] it (λi h=>h.IsListIter it a i) where
 mem:=by simp
 obj:=λi h st b hb=>by
  have e:=by simpa using hb
  subst e;obtain ⟨o,e,c,d⟩:=st;exact ⟨o,e,λv z=>by rw[d] at z;cases z⟩
 keep:=λi h h' st k=>st.at λo e=>k it (by simp) o e
 item:=by
  intro X hP hw hK hc i AK s σ H E I hf st hg;subst hP hw hK;obtain ⟨xs,x,hq,hx⟩:=hg;obtain ⟨AM,rv,p,hz⟩:=I.list hq;obtain ⟨u,hu,ru⟩:=rv.get hx;obtain ⟨f0,f1,f2,f3,f4,f5⟩:=hf it (by simp);refine wpAny_pyNext_list_item st p.isList (by simpa using hu) λh' st' sb=>?_;have I1:=I.turned (t':=s.toks) (λb o hb e=>(sb.2 b hb).trans e) f0 f1 f3 f4 f5;obtain ⟨o,e,c,d⟩:=id st';exact ⟨u,rfl,zG e c d (by decide) ⟨x,H,I1,ru,⟨rfl,λys hy=>by rw[I.wI hy hq];exact hx⟩,st',λb hb=>(hf b hb).1⟩⟩
 done:=by
  intro X hP hw hK hc i AK s σ H E I hf st hg;subst hP hw hK;obtain ⟨xs,hq,hx⟩:=hg;obtain ⟨AM,rv,p,hz⟩:=I.list hq;obtain ⟨f0,f1,f2,f3,f4,f5⟩:=hf it (by simp);have hl:=rv.length;exact wpAny_pyNext_list_end (I.ok.hd hc) st p.isList (by simp;lia) λh' eb=>⟨rfl,I.turned (λb o hb e=>eb b o hb e) f0 f1 f3 f4 f5⟩
 self:=λ_ _ _ _ _ st h=>wpAny_pyIter_listiter st h
theorem O9(a it:Addr):Turn P w K tg (Itt K a) [it] it (λi h=>h.IsTupleIter it a i) where
 mem:=by simp
 obj:=λi h st b hb=>by
  have e:=by simpa using hb
  subst e;obtain ⟨o,e,c,d⟩:=st;exact ⟨o,e,λv z=>by rw[d] at z;cases z⟩
 keep:=λi h h' st k=>st.at λo e=>k it (by simp) o e
 item:=by
  intro X hP hw hK hc i AK s σ H E I hf st hg;subst hP hw hK;obtain ⟨xs,x,hq,hx⟩:=hg;obtain ⟨AM,rv,p,hz⟩:=I.tuple hq;obtain ⟨u,hu,ru⟩:=rv.get hx;obtain ⟨f0,f1,f2,f3,f4,f5⟩:=hf it (by simp);refine wpAny_pyNext_tuple_item st (p) (by simpa using hu) λh' st' sb=>?_;have I1:=I.turned (t':=s.toks) (λb o hb e=>(sb.2 b hb).trans e) f0 f1 f3 f4 f5;obtain ⟨o,e,c,d⟩:=id st';exact ⟨u,rfl,zG e c d (by decide) ⟨x,H,I1,ru,⟨rfl,λys hy=>by rw[I.xU hy hq];exact hx⟩,st',λb hb=>(hf b hb).1⟩⟩
 done:=by
  intro X hP hw hK hc i AK s σ H E I hf st hg;subst hP hw hK;obtain ⟨xs,hq,hx⟩:=hg;obtain ⟨AM,rv,p,hz⟩:=I.tuple hq;obtain ⟨f0,f1,f2,f3,f4,f5⟩:=hf it (by simp);have hl:=rv.length;exact wpAny_pyNext_tuple_end (I.ok.hd hc) st (p) (by simp;lia) λh' eb=>⟨rfl,I.turned (λb o hb e=>eb b o hb e) f0 f1 f3 f4 f5⟩
 self:=λ_ _ _ _ _ st h=>wpAny_pyIter_tupleiter st h
theorem Qt(it:Addr)(lo:Int)(n:Nat):Turn P w K tg (Itr lo n) [it] it (λi h=>IsRangeIter h it (lo+(i:Nat)*1) ((n:Int) - (i:Nat)) 1) where
 mem:=by simp
 obj:=λi h st b hb=>by
  have e:=by simpa using hb
  subst e;exact ⟨_,st,λv z=>by
   have z':=z;cases z'⟩
 keep:=λi h h' st k=>k it (by simp) _ st
 item:=by
  intro X hP hw hK hc i AK s σ H E I hf st hg;subst hP hw hK;obtain ⟨f0,f1,f2,f3,f4,f5⟩:=hf it (by simp);have W:=Walks.range (prog:=X.prog) (w:=X.w) (I.ok.hd hc) it lo 1 n;refine W.item i s _ _ hg st λv h' tk hv st' kk=>?_;obtain ⟨t,rfl⟩:=hv;have I1:AQ X AK σ H { s with heap:=h',toks:=tk }:=I.turned (λb o hb e=>kk b o (by simpa using hb) e) f0 f1 f3 f4 f5;refine ⟨_,rfl,zG st' rfl rfl (by decide) ⟨.int (lo+i),H,I1,⟨t,?_⟩,⟨rfl,rfl⟩,st',λb hb=>(hf b hb).1⟩⟩;rw[wx]
 done:=by
  intro X hP hw hK hc i AK s σ H E I hf st hg;subst hP hw hK;obtain ⟨f0,f1,f2,f3,f4,f5⟩:=hf it (by simp);exact wpAny_pyNext_range_end (I.ok.hd hc) st (by have:n<=i:=hg;lia) λh' eb=>⟨rfl,I.turned (λb o hb e=>eb b o hb e) f0 f1 f3 f4 f5⟩
 self:=λ_ _ _ _ _ st h=>wpAny_pyIter_rangeiter st h
variable {fp:C2}
theorem XR{R:It->Hp->Prop}{lo hi:Int}{t u v:Tok}(I:AQ X AK σ H s)(h1 : -(2^62)<=lo)(h2:lo<2^62)(h3 : -(2^62)<=hi)(h4:hi<2^62)
 (q:R (Itr lo (hi - lo).toNat) H):eI (eL X.prog X.w) X.A (pyIter (.ref s.heap.objs.size)) (PIE X AK σ tg R) E { s with heap:=s.heap.push { cls:=.type "range",data:=.fields #[.int lo t,.int hi u,.int 1 v] },toks:=t' }:=by
 refine wpAny_pyIter_range (IsRange.new ..) (small_one h1 h2 h3 h4) ?_;have I1:AQ X AK σ H { s with heap:=s.heap.push { cls:=.type "range",data:=.fields #[.int lo t,.int hi u,.int 1 v] },toks:=t' }:=I.kept λb o e=>aE _ e;refine ⟨(s.heap.push { cls:=.type "range",data:=.fields #[.int lo t,.int hi u,.int 1 v] }).objs.size,[(s.heap.push { cls:=.type "range",data:=.fields #[.int lo t,.int hi u,.int 1 v] }).objs.size],_,_,H,rfl,
  I1.kept λb o e=>aE _ e,Qt _ lo (hi - lo).toNat,?_,λb hb=>?_,q⟩
 . have e1:lo+((0:Nat):Int)*1=lo:=by simp
   have e2:(((hi - lo).toNat:Nat):Int) - ((0:Nat):Int)=dS lo hi 1:=by rw[rangeSize_one];split <;> lia
   rw[e1,e2];exact c6 _ rfl
 . have e:b=(s.heap.push { cls:=.type "range",data:=.fields #[.int lo t,.int hi u,.int 1 v] }).objs.size:=by simpa using hb
   subst e;exact I1.sS (ay _) (I1.AY.fresh (ay _))
def aed(ta:TA):TI:=λσ H R=>ta σ H λvs H1=>∃j:Int,vs=[.int j] /\ -(2^62)<=j/\j<2^62/\R (Itr 0 j.toNat) H1
theorem Gw{ta:TA}{p:Pos}(hg:Gl X "range")(hm:X.mg "range"= none)(ha:PA X [c] ta)(hs:d5 [c] X.env=[(false,eval c X.env)]:=by rfl):PI X tg (.Call (.Name "range" p) [c] [] pos) (aed ta):=by
 intro AK s σ H R I h;refine Call_ (nZ I hg hm boot_range (iF (thn (ha pos AK s σ H _ I h) λus s1 az=>?_) hs rfl));obtain ⟨vs,H1,I1,r1,q1⟩:=az;obtain ⟨j,e,q1,q2,q⟩:=q1;subst e
 cases r1 with
 | cons r rr=>
  cases rr;obtain ⟨t,rfl⟩:=r;exact call_range_1 (XR I1 (by lia) (by lia) q1 q2 (by simpa using q))
def afT(wi:TI)(g:TG)(tb:TS):TS:=λD σ H=>wi σ H λJ H1=>∃W:Nat->Nat->St->Hp->Prop,(∃m,W 0 m σ H1)/\∀i m σ H,W i m σ H ->
 (J.stop i H/\D.nx σ H)\/(J.go i H/\∃N:St->Hp->Prop,(∀σ' H',N σ' H'->∃m',m'<m/\W (i+1) m' σ' H')/\∀x H',J.yld i H x H'->g x σ H' λσ2 H2=>tb { D with nx:=N,ct:=N,bk:=D.nx } σ2 H2)
noncomputable def xX(fp:C2)(h:Heap):A7:=fp.filterMap λb=>(h.get? b).map λo=>(b,o)
theorem q8{o:Obj}(hb:b∈fp)(e:h.get? b=some o):(b,o)∈xX fp h:=mB.mpr ⟨b,hb,by rw[e];rfl⟩
theorem Ry{p:Addr×Obj}(hp:p∈xX fp h):p.1∈fp/\h.get? p.1=some p.2:=by
 obtain ⟨b,hb,e⟩:=mB.mp hp
 cases q:h.get? b with
 | none=>rw[q] at e;cases e
 | some o=>
  rw[q] at e;have e':=Option.some.inj e;subst e';exact ⟨hb,q⟩
theorem AQ.pinned(I:AQ X AK σ H s)(hf:∀b∈fp,uL X AK H b)(ho:∀b∈fp,∃o,s.heap.get? b=some o/\∀v,o.data ≠ .cell v):AQ X (AK++xX fp s.heap) σ H s:=
 I.M7 λp hp=>(cE.mp hp).elim (λz=>I.pin p (dn _ z)) λz=>by
  obtain ⟨hb,e⟩:=Ry z;obtain ⟨f0,f1,f2,_⟩:=hf p.1 hb;obtain ⟨o,e',d⟩:=ho p.1 hb;rw[e] at e';cases e';exact ⟨e,f0,f1,f2,d⟩
theorem AQ.wH{pl:A7}(I:AQ X (AK++pl) σ H s):AQ X AK σ H s:=I.M7 λp hp=>I.pin p (dn _ (eM _ hp))
theorem Tr{wi:TI}{g:TG}{tb:TS}(hp:vE (eL X.prog X.w) X.A X.env X.xe)(hc:X.calm=true)(hi:PI X tg c wi)(hg:PG X tg g)(hb:PSs X body tb)
 (hs:∀x,ja c X.env x=pure x:=by intro _;rfl):PS X (.For tg c body [] pos) (afT wi g tb):=by
 intro AK s σ H D I h;refine wpAny_For (thn (hi AK s σ H _ I h) λv s1 h1=>thn h1 λitv s2 h2=>?_) hs;obtain ⟨it,fp,tn,J,H2,e,I2,T,st2,f2,W,⟨m0,w0⟩,turn⟩:=h2;subst e;have stat:∀{H':Hp},(∀b∈fp,H' b=none)->∀b∈fp,uL X AK H' b:=λhn b hb=>⟨hn b hb,(f2 b hb).2⟩;refine codeAny_forLoop_any (λn s'=>∃i σ' H',AQ X AK σ' H' s'/\tn i s'.heap/\(∀b∈fp,H' b=none)/\W i n σ' H') ?_ m0 ⟨0,σ,H2,I2,st2,λb hb=>(f2 b hb).1,w0⟩;rintro n s3 ⟨i,σ3,H3,I3,st3,fr3,w3⟩;rcases turn i n σ3 H3 w3 with ⟨stop,qn⟩ | ⟨go,N,hN,step⟩
 . refine nr hp (thn (T.done X rfl rfl rfl hc i AK s3 σ3 H3 X.xe I3 (stat fr3) st3 stop) λr s4 az=>?_);obtain ⟨hr,I4⟩:=az;subst hr;exact t9 ⟨σ3,H3,I4,qn⟩
 . refine nr hp (thn (T.item X rfl rfl rfl hc i AK s3 σ3 H3 X.xe I3 (stat fr3) st3 go) λr s4 az=>?_);obtain ⟨u,hr,h4⟩:=az;subst hr;refine nr hp (thn h4 λ_ s5 az=>?_);obtain ⟨x,H5,I5,r5,y5,st5,fr5⟩:=az;have I5':=I5.pinned (stat fr5) (T.obj _ _ st5);refine nr hp (thn (hg _ s5 σ3 H5 x u _ I5' r5 (step x H5 y5)) λ_ s6 ⟨σ6,H6,I6,q6⟩=>nr hp (thn (hb _ s6 σ6 H6 _ I6 q6) λf s7 q7=>?_));have again:∀{σ7:St}{H7:Hp},AQ X (AK++xX fp s5.heap) σ7 H7 s7->N σ7 H7->∃m,m<n/\∃i σ' H',AQ X AK σ' H' s7/\tn i s7.heap/\(∀b∈fp,H' b=none)/\W i m σ' H':=λ{σ7 H7} I7 n7=>by
    obtain ⟨m',hm,w7⟩:=hN σ7 H7 n7;refine ⟨m',hm,i+1,σ7,H7,I7.wH,T.keep _ _ _ st5 λb hb o e=>(I7.pin (b,o) (dn _ (dn _ (q8 hb e)))).1,λb hb=>?_,w7⟩;obtain ⟨o,e,d⟩:=T.obj _ _ st5 b hb;exact (I7.pin (b,o) (dn _ (dn _ (q8 hb e)))).2.1
   cases f with
   | next=>obtain ⟨σ7,H7,I7,n7⟩:=q7;exact again I7 n7
   | cont=>obtain ⟨σ7,H7,I7,n7⟩:=q7;exact again I7 n7
   | brk=>obtain ⟨σ7,H7,I7,q7⟩:=q7;exact ⟨σ7,H7,I7.wH,q7⟩
   | ret v=>obtain ⟨x7,σ7,H7,I7,r7,q7⟩:=q7;exact ⟨x7,σ7,H7,I7.wH,r7,q7⟩
abbrev R2:=V->V->Hp->VK->Prop
def OpR(X:Cx)(f:a9->a9->Sem a9)(r:R2):Prop:=
 ∀(AK:A7) (s:dy) (σ:St) (H:Hp) (x y:V) (v u:a9) (Q:VK),AQ X AK σ H s->AR x v->AR y u->r x y H Q ->
  eI (eL X.prog X.w) X.A (f v u) (EP X AK σ Q) X.xe s
def UnR(X:Cx)(f:a9->Sem a9)(r:V->Hp->VK->Prop):Prop:=
 ∀(AK:A7) (s:dy) (σ:St) (H:Hp) (x:V) (v:a9) (Q:VK),AQ X AK σ H s->AR x v->r x H Q ->
  eI (eL X.prog X.w) X.A (f v) (EP X AK σ Q) X.xe s
def fO(X:Cx)(f:a9)(r:C0->Hp->VK->Prop):Prop:=
 ∀(AK:A7) (s:dy) (σ:St) (H:Hp) (xs:C0) (us:B8) (Q:VK),AQ X AK σ H s->AS xs us->r xs H Q ->
  eI (eL X.prog X.w) X.A (call f us) (EP X AK σ Q) X.xe s
def afP(X:Cx)(r:V->Hp->(Bool->Hp->Prop)->Prop):Prop:=
 ∀(AK:A7) (s:dy) (σ:St) (H:Hp) (x:V) (v:a9) (Q:Bool->Hp->Prop),AQ X AK σ H s->AR x v->r x H Q ->
  eI (eL X.prog X.w) X.A (truthy v) (TP X AK σ Q) X.xe s
def tOp(r:R2)(ta tb:TE):TE:=λσ H Q=>ta σ H λx H1=>tb σ H1 λy H2=>r x y H2 Q
def tUn(r:V->Hp->VK->Prop)(ta:TE):TE:=λσ H Q=>ta σ H λx H1=>r x H1 Q
def rI(C:Int->Int->Prop)(g:Int->Int->V):R2:=λx y H Q=>∃i j,x= .int i/\y= .int j/\C i j/\Q (g i j) H
def rI0(g:Int->Int->V):R2:=λx y H Q=>∃i j,x= .int i/\y= .int j/\Q (g i j) H
def rU(g:Int->V):V->Hp->VK->Prop:=λx H Q=>∃i,x= .int i/\Q (g i) H
variable {g:Int->Int->Int}
section
variable  {a b:Expr}{ta tb tc:TE}
theorem Ww(ha:PE X a ta)(hb:PE X b tb){R:V->V->Hp->Prop}(I:AQ X AK σ H s)
 (h:ta σ H λx H1=>tb σ H1 λy H2=>R x y H2) {f:a9->a9->Sem a9}
 (hf:∀v u s2 x y H2,AQ X AK σ H2 s2->AR x v->AR y u->R x y H2->eI (eL X.prog X.w) X.A (f v u) Q X.xe s2) :
 eI (eL X.prog X.w) X.A (eval a X.env) (λv s₁=>eI (eL X.prog X.w) X.A (eval b X.env) (λu s₂=>eI (eL X.prog X.w) X.A (f v u) Q X.xe s₂) X.xe s₁) X.xe s:=by
 refine thn (ha AK s σ H _ I h) λv s1 ⟨x,H1,I1,r1,q1⟩=>thn (hb AK s1 σ H1 _ I1 q1) λu s2 az=>?_;obtain ⟨y,H2,I2,r2,q2⟩:=az;exact hf v u s2 x y H2 I2 r1 r2 q2
theorem Yd{op:Operator}{r:R2}(ho:OpR X (hY op) r)(ha:PE X a ta)(hb:PE X b tb):PE X (.BinOp a op b pos) (tOp r ta tb):=by
 intro AK s σ H Q I h;exact wpAny_BinOp (Ww ha hb I h λv u s2 x y H2 I2 rx ry q=>ho AK s2 σ H2 x y v u Q I2 rx ry q)
theorem aes{op:UnaryOp}{r:V->Hp->VK->Prop}(ho:UnR X (unaryOp op) r)(ha:PE X a ta):PE X (.UnaryOp op a pos) (tUn r ta):=by
 intro AK s σ H Q I h;exact UnaryOp_ (thn (ha AK s σ H _ I h) λv s1 ⟨x,H1,I1,r1,q1⟩=>ho AK s1 σ H1 x v Q I1 r1 q1)
theorem opI{f:a9->a9->Sem a9}{C:Int->Int->Prop}
 (rule:∀(i j:Int) (t u:Tok) (s:dy) (Q:B2) (E:B2),C i j->Q (.int (g i j) s.toks) { s with toks:=s.toks+1 }->eI (eL X.prog X.w) X.A (f (.int i t) (.int j u)) Q E s) :
 OpR X f (rI C λi j=>.int (g i j)):=by
 rintro AK s σ H x y v u Q I rx ry ⟨i,j,rfl,rfl,hc,q⟩;obtain ⟨t,rfl⟩:=rx;obtain ⟨t',rfl⟩:=ry;exact rule i j t t' s _ _ hc ⟨.int (g i j),H,I.tok _,⟨_,rfl⟩,q⟩
theorem Pa{f:a9->a9->Sem a9}
 (rule:∀(i j:Int) (t u:Tok) (s:dy) (Q:B2) (E:B2),Q (.int (g i j) s.toks) { s with toks:=s.toks+1 }->eI (eL X.prog X.w) X.A (f (.int i t) (.int j u)) Q E s) :
 OpR X f (rI0 λi j=>.int (g i j)):=by
 rintro AK s σ H x y v u Q I rx ry ⟨i,j,rfl,rfl,q⟩;obtain ⟨t,rfl⟩:=rx;obtain ⟨t',rfl⟩:=ry;exact rule i j t t' s _ _ ⟨.int (g i j),H,I.tok _,⟨_,rfl⟩,q⟩
theorem abt{f:a9->a9->Sem a9}{g:Int->Int->Bool}
 (rule:∀(i j:Int) (t u:Tok) (s:dy) (Q:B2) (E:B2),Q (.bool (g i j)) s->eI (eL X.prog X.w) X.A (f (.int i t) (.int j u)) Q E s) :
 OpR X f (rI0 λi j=>.bl (g i j)):=by
 rintro AK s σ H x y v u Q I rx ry ⟨i,j,rfl,rfl,q⟩;obtain ⟨t,rfl⟩:=rx;obtain ⟨t',rfl⟩:=ry;exact rule i j t t' s _ _ ⟨.bl (g i j),H,I,rfl,q⟩
def Ez(i j:Int):Prop:=0<j/\j<1073741824
def Er(i j:Int):Prop:=0<=j/\j<=1000000/\i.natAbs<2^64
def rQ(i j:Int):Prop:=(-(2^64)<i/\i<2^64)\/(-(2^64)<j/\j<2^64)
theorem rQ.ok{i j:Int}(h:rQ i j):IntMulOk i j:=by
 rcases h with ⟨h1,h2⟩ | ⟨h1,h2⟩
 . exact .of_left (intBits_le_64 h1 h2)
 . exact .of_right (intBits_le_64 h1 h2)
theorem two_pow_nn(k:Nat):(0:Int)<=2^k:=by
 rw[two_pow_cast];exact Int.natCast_nonneg _
theorem abY:OpR X (hY .Add) (rI0 λi j=>.int (i+j)):=Pa λ_ _ _ _ _ _ _ q=>add_int q
theorem adl:OpR X (hY .Sub) (rI0 λi j=>.int (i - j)):=Pa λ_ _ _ _ _ _ _ q=>sub_int q
theorem abH:OpR X (hY .Mult) (rI rQ λi j=>.int (i*j)):=opI λ_ _ _ _ _ _ _ hc q=>mul_int q hc.ok
theorem Zf:OpR X (hY .FloorDiv) (rI Ez λi j=>.int (i / j)):=opI λi j _ _ _ _ _ hc q=>by
 have h1:=hc.1;have h2:=hc.2;exact floordiv_int (by lia) (by rw[vS i (by lia)];exact q) (.inl (yA (by lia)))
theorem acj:OpR X (hY .Mod) (rI (λ_ j=>0<j) λi j=>.int (i % j)):=opI λi j _ _ _ _ _ hc q=>by
 have h1:=hc;exact mod_int' (by lia) (by rw[Int.fmod_eq_emod_of_nonneg i (by lia)];exact q)
theorem adV:OpR X (hY .LShift) (rI Er λi j=>.int (i*2^j.toNat)):=opI λ_ _ _ _ _ _ _ hc q=>lshift_int_small hc.1 hc.2.1 hc.2.2 q
theorem abp:OpR X (hY .RShift) (rI (λ_ j=>0<=j) λi j=>.int (i / 2^j.toNat)):=opI λi j _ _ _ _ _ hc q=>
 rshift_int hc (by rw[vS i (two_pow_nn _)];exact q)
theorem acd:OpR X (hY .BitAnd) (rI0 λi j=>.int (gz i j)):=Pa λ_ _ _ _ _ _ _ q=>and_int q
theorem aea:OpR X (hY .BitOr) (rI0 λi j=>.int (kD i j)):=Pa λ_ _ _ _ _ _ _ q=>or_int q
theorem unI{f:a9->Sem a9}{g:Int->Int}
 (rule:∀(i:Int) (t:Tok) (s:dy) (Q:B2) (E:B2),Q (.int (g i) s.toks) { s with toks:=s.toks+1 }->eI (eL X.prog X.w) X.A (f (.int i t)) Q E s) :
 UnR X f (rU λi=>.int (g i)):=by
 rintro AK s σ H x v Q I rx ⟨i,rfl,q⟩;obtain ⟨t,rfl⟩:=rx;exact rule i t s _ _ ⟨.int (g i),H,I.tok _,⟨_,rfl⟩,q⟩
theorem adQ:UnR X (unaryOp .USub) (rU λi=>.int (-i)):=unI λ_ _ _ _ _ q=>neg_int q
theorem adx:UnR X (unaryOp .Invert) (rU λi=>.int (iq i)):=unI λ_ _ _ _ _ q=>invert_int q
theorem Ti:OpR X (hY .Add) (λx y H Q=>∃i k,x= .int i/\y= .bl k/\Q (.int (i+b2i k)) H):=by
 rintro AK s σ H x y v u Q I rx ry ⟨i,k,rfl,rfl,q⟩;obtain ⟨t,rfl⟩:=rx;cases ry;exact add_int_bool ⟨.int (i+b2i k),H,I.tok _,⟨_,rfl⟩,q⟩
end
variable {op:CmpOp}
section
variable  {a b:Expr}{ta tb tc:TE}
theorem UT{Q:VK}{k k':Bool}(I:AQ X AK σ H s)(q:Q (.bl k) H)(e:k=k'):EP X AK σ Q (.bool k') s:=by
 subst e;exact ⟨.bl k,H,I,rfl,q⟩
theorem aet:OpR X (gu .Lt) (rI0 λi j=>.bl (decide (i<j))):=abt λ_ _ _ _ _ _ _ q=>lt_int q
theorem aeQ:OpR X (gu .Gt) (rI0 λi j=>.bl (decide (j<i))):=abt λ_ _ _ _ _ _ _ q=>gt_int q
theorem acA:OpR X (gu .Is) (λx y H Q=>y= .non/\Q (.bl (decide (x= .non))) H):=by
 rintro AK s σ H x y v u Q I rx ry ⟨rfl,q⟩;cases ry;refine is_none_gen (UT I q ?_);cases x <;> first
  | (cases rx;rfl)
  | (obtain ⟨t,rfl⟩:=rx;rfl)
theorem aaX:OpR X (gu .IsNot) (λx y H Q=>y= .non/\Q (.bl (!decide (x= .non))) H):=by
 rintro AK s σ H x y v u Q I rx ry ⟨rfl,q⟩;cases ry;refine isnot_none_gen (UT I q ?_);cases x <;> first
  | (cases rx;rfl)
  | (obtain ⟨t,rfl⟩:=rx;rfl)
theorem xZ(b:Expr)(h:op ≠ .In:=by decide)(h2:op ≠ .NotIn:=by decide):oq op b=false:=by
 have e1:(op == CmpOp.In)=false:=by cases op <;> first | rfl | exact absurd rfl h
 have e2:(op == CmpOp.NotIn)=false:=by cases op <;> first | rfl | exact absurd rfl h2
 cases b <;> simp[oq,e1,e2]
theorem Zr{r:R2}(ho:OpR X (gu op) r)(ha:PE X a ta)(hb:PE X b tb)(hm:oq op b=false):PE X (.Compare a [op] [b] pos) (tOp r ta tb):=by
 intro AK s σ H Q I h;exact wpAny_Compare1 (Ww ha hb I h λv u s2 x y H2 I2 rx ry q=>ho AK s2 σ H2 x y v u Q I2 rx ry q) hm
def Yp(t:TE):TT:=λσ H Q=>t σ H λx H'=>∃k,x= .bl k/\Q k H'
theorem Ng{r:R2}(ho:OpR X (gu op) r)(ha:PE X a ta)(hb:PE X b tb)(hm:oq op b=false):PT X (.Compare a [op] [b] pos) (Yp (tOp r ta tb)):=by
 intro AK s σ H Q I h;refine wpAny_isTrue_Compare1 (thn (ha AK s σ H _ I h) λv s1 ⟨x,H1,I1,r1,q1⟩=>thn (hb AK s1 σ H1 _ I1 q1) λu s2 ⟨y,H2,I2,r2,q2⟩=>
  thn (ho AK s2 σ H2 x y v u _ I2 r1 r2 q2) λc s3 ⟨z,H3,I3,r3,k,e,q3⟩=>?_) hm
 subst e;cases r3;exact nz ⟨H3,I3,q3⟩
def adw(K:aw)(x:V)(H:Hp)(k:Bool):Prop:=
 match x with
 | .non=>k=false
 | .bl b=>k=b
 | .int i=>k=(i != 0)
 | .str y=>y.length<=bE/\k=((y.length:Int) != 0)
 | .byt y=>y.size<=bE/\k=((y.size:Int) != 0)
 | .ref p=>(∃xs,SqL K H p xs/\k= !xs.isEmpty)\/(∃xs,SqT K H p xs/\k= !xs.isEmpty)\/∃kvs,H p=some (.dK kvs)/\k= !kvs.isEmpty
 | _=>False
theorem Qd{κ:Type}{kvs:List (κ×V)}{vs:List (κ×a9)}(r:KV kvs vs):(!vs.isEmpty)= !kvs.isEmpty:=by
 cases r <;> rfl
theorem Dv(r:AS xs us):(!us.toArray.isEmpty)= !xs.isEmpty:=by
 cases r <;> simp
theorem vo:(bE:Nat)<2^63:=by rw[sizeLine_eq];decide
theorem ab5:afP X (λx H Q=>∃k,adw X.K x H k/\Q k H):=by
 rintro AK s σ H x v Q I rx ⟨k,e,q⟩;have hl:=vo;have hs:=sizeLine_eq
 cases x with
 | non=>
  cases rx;have e':=e;subst e';exact truthy_none ⟨H,I,q⟩
 | bl b=>
  cases rx;have e':=e;subst e';exact nz ⟨H,I,q⟩
 | int i=>
  obtain ⟨t,rfl⟩:=rx;have e':=e;subst e';exact PySem.P.truthy_int ⟨H,I,q⟩
 | str y=>
  obtain ⟨t,rfl⟩:=rx;obtain ⟨hy,e'⟩:y.length<=bE/\k=((y.length:Int) != 0):=e;subst e';exact PySem.P.truthy_str (by lia) ⟨H,I.tok _,q⟩
 | byt y=>
  obtain ⟨t,rfl⟩:=rx;obtain ⟨hy,e'⟩:y.size<=bE/\k=((y.size:Int) != 0):=e;subst e';exact PySem.W.truthy_bytes (by lia) ⟨H,I.tok _,q⟩
 | ref p=>
  cases rx;have e':=e;rcases e' with ⟨xs,hx,e'⟩ | ⟨xs,hx,e'⟩ | ⟨kvs,hx,e'⟩
  . subst e';obtain ⟨AM,r,pl,hz⟩:=I.list hx;have hlen:=r.length;exact wpAny_truthy_list pl.isList (by simp only[cK];lia) ⟨H,I.tok _,by rw[Dv r];exact q⟩
  . subst e';obtain ⟨AM,r,pl,hz⟩:=I.tuple hx;have hlen:=r.length;exact truthy_tuple pl (by simp only[cK];lia) ⟨H,I.tok _,by rw[Dv r];exact q⟩
  . subst e';obtain ⟨hz,hS,vs,r,m⟩:kvs.length<=bE/\(p == gp)=false/\∃vs,KV kvs vs/\s.heap.DictOf (bY X.prog X.w) p vs:=I.AY p _ hx;have hlen:=jI.length r;exact wpAny_truthy_dict hS m (by lia) ⟨H,I.tok _,by rw[Qd r];exact q⟩
 | _=>exact (e).elim
theorem WK(ha:PE X a ta)(he:∀whole,isTrue a X.env whole=(do let v <- whole;standAt a.pos;holding [v] (truthy v))) :
 PT X a (λσ H Q=>ta σ H λx H'=>∃k,adw X.K x H' k/\Q k H'):=by
 intro AK s σ H Q I h;exact isTrue_plain (thn (ha AK s σ H _ I h) λv s1 ⟨x,H1,I1,r1,q1⟩=>ab5 AK s1 σ H1 x v Q I1 r1 q1) (he _)
theorem Px:OpR X (hY .Add) (λx y H Q=>∃i j,x= .str i/\y= .str j/\i.length+j.length<=bE/\Q (.str (i++j)) H):=by
 rintro AK s σ H x y v u Q I rx ry ⟨i,j,rfl,rfl,hz,q⟩;obtain ⟨t,rfl⟩:=rx;obtain ⟨t',rfl⟩:=ry;exact add_str (λt' tk=>⟨.str (i++j),H,I.tok _,⟨_,rfl⟩,q⟩) hz
theorem vals1(r:AS [v] us):∃u,us=[u]/\AR v u:=by
 cases r with
 | cons r1 r2=>cases r2;exact ⟨_,rfl,r1⟩
end
theorem oM.some_of{o:B7}(r:oM (some v) o):∃u,o=some u/\AR v u:=by
 cases o with
 | none=>exact (r).elim
 | some u=>exact ⟨u,rfl,r⟩
structure dF (k:Nat) (A:ke):Prop where
 hd:A.handled=none
 dp:A.depth+3*k+5<recursionLimit
 un:A.units+16*k+200<kb
theorem dF.mono(r:dF i A)(h:t'<=i):dF t' A:=⟨r.hd,by have:=r.dp;lia,by have:=r.un;lia⟩
theorem dF.deeper(r:dF (t'+1) A)(env:Env):dF t' (A.deeper env):=
 ⟨r.hd,by have:=r.dp;show A.depth+1+3*t'+5<_;lia,by have:=r.un;show A.units+3+16*t'+200<_;lia⟩
theorem dF.depth(r:dF t' A):A.depth<recursionLimit:=by have:=r.dp;lia
theorem dF.units(r:dF t' A):A.units+64<kb:=by have:=r.un;lia
def aft:TA:=λ_ H Q=>Q [] H
def aeA(ta:TE)(tr:TA):TA:=λσ H Q=>ta σ H λx H1=>tr σ H1 λxs H2=>Q (x::xs) H2
section
variable    {te:TE}{t:TA}
theorem eQ:PA X [] aft:=λ_ _ _ _ H Q I h=>Calls.spliced_nil ⟨[],H,I,.nil,h⟩
theorem bW(ha:PE X e te)(hr:PA X es t)(hs:d5 (e::es) X.env=(false,eval e X.env)::d5 es X.env:=by rfl):PA X (e::es) (aeA te t):=by
 intro pos AK s σ H Q I h;rw[hs];exact Calls.spliced_cons (thn (ha AK s σ H _ I h) λu s1 ⟨x,H1,I1,r1,q1⟩=>thn (hr pos AK s1 σ H1 _ I1 q1) λus s2 ⟨xs,H2,I2,r2,q2⟩=>⟨x::xs,H2,I2,.cons r1 r2,q2⟩)
def afI(t:TA):TE:=λσ H Q=>t σ H λxs H1=>xs.length<=bE/\∀p,H1 p=none->Q (.ref p) (AU H1 p (.tup xs))
def af2(t:TA):TE:=λσ H Q=>t σ H λxs H1=>xs.length<=bE/\∀p,H1 p=none->Q (.ref p) (AU H1 p (.lst xs))
theorem ac8{x1}(h:PA X es t):PE X (.Tuple es x1 pos) (afI t):=by
 intro AK s σ H Q I hq;refine wpAny_Tuple_spliced (thn (h pos AK s σ H _ I hq) λus s1 ⟨xs,H1,I1,r,z,q⟩=>⟨by rw[<- r.length];exact z,?_⟩);have hf:=I1.AY.fresh (ay _);refine ⟨.ref s1.heap.objs.size,AU H1 s1.heap.objs.size (.tup xs),I1.laid (λb u e=>aE _ e) (ay _) ?_,rfl,q _ hf⟩;exact ⟨z,us,r,⟨_,c6 _ rfl,rfl,_,rfl⟩⟩
theorem abU(h:PA X es t):PE X (.List es pos) (af2 t):=by
 intro AK s σ H Q I hq;refine wpAny_List_spliced (thn (h pos AK s σ H _ I hq) λus s1 ⟨xs,H1,I1,r,z,q⟩=>⟨by rw[<- r.length];exact z,?_⟩);have hf:=I1.AY.fresh (ay _);refine ⟨.ref s1.heap.objs.size,AU H1 s1.heap.objs.size (.lst xs),I1.laid (λb u e=>aE _ e) (ay _) ?_,rfl,q _ hf⟩;exact ⟨z,us,0,r,c6 _ rfl⟩
end
abbrev Sp:=C0->Hp->VK->XK->Prop
abbrev CXT:=C6->Hp->dy->XK->a9->dy->Prop
structure QR (P:ia) (w:lI) (K:aw) (mg:Str->B7) (base:Heap) (A:ke) (BA:C6) (s:dy) (H:Hp):Prop where
 frames:A.frames=some BA
 mod:Mod K mg base
 bs:∀b o,base.get? b=some o->s.heap.get? b=some o/\H b=none
 bsz:base.objs.size<=s.heap.objs.size
 sZ:s.heap.FunFrames base BA
 frf:∀b∈frs BA,H b=none
 AY:HOk P w H s.heap
 bare:wq s.gens
 tabs:∀P,TabAt K mg P->H P=some (.tbl jl)
def CE(BA:C6)(P:ia)(w:lI)(H:Hp)(s:dy)(Q:VK)(u:a9)(s':dy):Prop:=
 ∃v H',s'.os=s.os/\wq s'.gens/\Un (frs BA) [] H H' s.heap s'.heap/\HOk P w H' s'.heap/\AR v u/\Q v H'
def CR(CX:CXT)(BA:C6)(P:ia)(w:lI)(H:Hp)(s:dy)(Q:VK)(E:XK)(r:Result)(s':dy):Prop:=
 match r with
 | .ok (.ret u)=>CE BA P w H s Q u s'
 | .ok _=>False
 | .error e=>CX BA H s E e s'
structure sJ (P:ia) (w:lI) (K:aw) (mg:Str->B7) (base:Heap) (CX:CXT) (k:Nat) (f:Addr) (fd:nS) (ps:B6) (sp:Sp):Prop where
 len:∀vs H Q E,sp vs H Q E->vs.length=ps.length
 run:∀(A:ke) (BA:C6) (s:dy) (H:Hp) (args:Args) (us:B8) (vs:C0) (Q:VK) (E:XK),dF k A->QR P w K mg base A BA s H->BindsTo s fd args (ps.zip us)->AS vs us->sp vs H Q E ->
  yB (eL P w) A (.call (.ref f) args) (CR CX BA P w H s Q E) s
theorem AQ.env0(I:AQ X AK σ H s):QR X.prog X.w X.K X.mg X.base X.A X.stack s H:=
 ⟨I.ok.frames,I.ok.mod,I.bs,dc I.ok.bsz I.sz,I.stack,I.Ot,I.AY,I.bare,λP h=>I.base.nj _ _ (I.ok.tabs P h)⟩
theorem AQ.after{Q:VK}(I:AQ X AK σ H s)(h:CE X.stack X.prog X.w H s Q u s'):EP X AK σ Q u s':=by
 obtain ⟨v,H',os,bare,un,AY,r,q⟩:=h;obtain ⟨hh,g,d,t,os'⟩:=s';obtain rfl:os'=s.os:=os;exact ⟨v,H',I.call un AY bare (λb z=>absurd z (by simp)),r,q⟩
def Yo(sp:Sp)(dvs:C0)(E:XK)(t:TA):TE:=λσ H Q=>t σ H λvs H1=>sp (vs++dvs) H1 Q E
def Binds(K:aw)(fd:nS)(ps:B6)(ds:B8):Prop:=
 ∀(s:dy) (us:B8),K.In s.heap->(us++ds).length=ps.length->BindsTo s fd ⟨us,[]⟩ (ps.zip (us++ds))
variable {ps:B6}
theorem Binds.all{fd:nS}(h:∀us:B8,us.length=ps.length->kG fd ⟨us,[]⟩=pure (ps.zip us)):Binds K fd ps []:=λs us _ hl=>by
 rw[dA] at hl ⊢;exact .of_eq (h us hl)
def Passes(CX:CXT)(X:Cx)(E:XK):Prop:=∀(AK:A7) (σ:St) (H:Hp) (s:dy) (e:a9) (s':dy),AQ X AK σ H s->CX X.stack H s E e s'->X.xe e s'
section
variable  {CX:CXT}{k:Nat}{f C:Addr}{fd:nS}  {sp:Sp}{dvs:C0}{ds:B8}{E:XK}{m:Str}{p apos:Pos}{o:Expr}  {ta:TE}{t:TA}
theorem abC{Q:VK}(F:sJ X.prog X.w X.K X.mg X.base CX k f fd ps sp)(hr:dF k X.A)(hb:Binds X.K fd ps ds)(hd:AS dvs ds)(hx:Passes CX X E)
 (I:AQ X AK σ H s) (r:AS xs us) (h:sp (xs++dvs) H Q E):eI (eL X.prog X.w) X.A (call (.ref f) us) (EP X AK σ Q) X.xe s:=by
 have r2:=r.append hd;have hl:(us++ds).length=ps.length:=by rw[<- r2.length];exact F.len _ _ _ _ h
 refine wpAny_call (codeAny_mono (F.run X.A X.stack s H ⟨us,[]⟩ (us++ds) (xs++dvs) Q E hr I.env0 (hb s us I.kIn hl) r2 h) λr s' hq=>?_)
 cases r with
 | error e=>exact hx AK σ H s e s' I hq
 | ok fl=>
  cases fl with
  | ret u=>exact I.after hq
  | next=>exact l7 hq
  | brk=>exact l7 hq
  | cont=>exact l7 hq
theorem Zw(F:sJ X.prog X.w X.K X.mg X.base CX k f fd ps sp)(hr:dF k X.A)(hg:Gl X x)(hm:X.mg x=some (.ref f))(hk:lx X.K (.ref f)=true)(hb:Binds X.K fd ps ds)(hd:AS dvs ds)(hx:Passes CX X E)
 (ha:PA X (e::es) t) (hdb:nD x:=by decide) (he:d5 (e::es) X.env=(false,eval e X.env)::d5 es X.env:=by rfl) (hpl:(nc pos (d5 es X.env)).any (·.1)=false:=by rfl) :
 PE X (.Call (.Name x p) (e::es) [] pos) (Yo sp dvs E t):=by
 intro AK s σ H Q I h;refine qo (Nk I hg hm ?_ hdb);refine PySem.W.callWith_K I.ok.mod.kin hk (thn (ha pos AK s σ H _ I h) λus s1 ⟨vs,H1,I1,r,q⟩=>⟨I1.kIn,?_⟩) he hpl;exact abC F hr hb hd hx I1 r q
end
structure cX (N P:B6) (sc:vF):Prop where
 kind:sc.kind= .function
 co:sc.isCoroutine=false
 gen:sc.isGenerator=false
 nd:N.Nodup
 pre:N.take P.length=P
 par:∀x∈P,sc.names.lookup x=some .local\/sc.names.lookup x=some .cell
 abN:∀y∈sc.names,y.2 ≠ .free
theorem Gs{kindOf:Str->Option kH}:∀{binds:List (Str×a9)}{m:Str->B7},(∀v,(x,v)∉binds)->bindL kindOf binds m x=m x
 | [],_,_=>rfl
 | (n,v)::r,m,h=>by
  rw[bindL,Gs λw hw=>h w (cc _ hw)];split
  . have:x≠n:=by rintro rfl;exact h v bX
    simp[this]
  . rfl
theorem GF{kindOf:Str->Option kH}:∀{binds:List (Str×a9)}{m:Str->B7},(∀v,(x,v)∉binds)->bindC kindOf binds m x=m x
 | [],_,_=>rfl
 | (n,v)::r,m,h=>by
  rw[bindC,GF λw hw=>h w (cc _ hw)];split
  . rfl
  . have:x≠n:=by rintro rfl;exact h v bX
    simp[this]
theorem Gg{kindOf:Str->Option kH}:∀{P:B6}{vs:B8}{i:Nat}{m:Str->B7},P.Nodup->P[i]?=some x->vs[i]?=some u->kindOf x=some .local ->
 bindL kindOf (P.zip vs) m x=some u
 | [],_,_,_,_,h,_,_=>by simp at h
 | _::_,[],_,_,_,_,h,_=>by simp at h
 | p::P,w::vs,0,m,nd,h1,h2,hk=>by
  simp at h1 h2;subst h1;subst h2;show bindL kindOf ((p,w)::P.zip vs) m p=_;rw[bindL,Gs λu hv=>(kP.mp nd).1 (zC hv).1,if_pos hk];simp
 | p::P,w::vs,i+1,m,nd,h1,h2,hk=>by
  unfold bindL;exact Gg (kP.mp nd).2 (by simpa using h1) (by simpa using h2) hk
theorem GZ{kindOf:Str->Option kH}:∀{P:B6}{vs:B8}{i:Nat}{m:Str->B7},P.Nodup->P[i]?=some x->vs[i]?=some u->kindOf x≠some .local ->
 bindC kindOf (P.zip vs) m x=some u
 | [],_,_,_,_,h,_,_=>by simp at h
 | _::_,[],_,_,_,_,h,_=>by simp at h
 | p::P,w::vs,0,m,nd,h1,h2,hk=>by
  simp at h1 h2;subst h1;subst h2;show bindC kindOf ((p,w)::P.zip vs) m p=_;rw[bindC,GF λu hv=>(kP.mp nd).1 (zC hv).1,if_neg hk];simp
 | p::P,w::vs,i+1,m,nd,h1,h2,hk=>by
  unfold bindC;exact GZ (kP.mp nd).2 (by simpa using h1) (by simpa using h2) hk
noncomputable def start(N:B6)(vs:C0):St:=vs.map some++ax (N.length - vs.length) none
noncomputable def mL(CX:CXT)(P:ia)(w:lI)(K:aw)(mg:Str->B7)(base:Heap)(N:B6)(qual:Str)(scope:vF)(f:Addr)(cd:a9)(A:ke)(BA:C6)(s:dy)(H:Hp)(E:XK):Cx where
 prog:=P
 w:=w
 K:=K
 mg:=mg
 base:=base
 A:=A.deeper (oD qual scope s.heap.objs.size f cd)
 N:=N
 s₀:=s
 H₀:=H
 env:=oD qual scope s.heap.objs.size f cd
 BA:=BA
 stack:=oD qual scope s.heap.objs.size f cd::BA
 ex:=[]
 calm:=true
 fn:=λ_=>true
 pn:=[]
 xe:=λe s'=>eI (eL P w) (A.deeper (oD qual scope s.heap.objs.size f cd)) (leaving (oD qual scope s.heap.objs.size f cd) e) (λ_ s''=>CX BA H s E e s'') (λe' s''=>CX BA H s E e' s'') s'
theorem Jk{sc:vF}(h:sc.names.lookup x=some .cell):∃c,(k7 t' sc.names []).lookup x=some c:=by
 have q:=og sc.names t' [] (.inl h);exact iE.mp q
variable {mg:Str->B7}
theorem S5{CX:CXT}{base:Heap}{qual:Str}{scope:vF}{f:Addr}{cd:a9}{BA:C6}{s1:dy}{E:XK}
 (S:cX N ps scope) (hd:A.handled=none) (e0:QR P w K mg base A BA s H) (hl:xs.length=ps.length) (r:AS xs us)
 (x:InCallC s s.heap.objs.size (bindL (oD qual scope s.heap.objs.size f cd).kindOf (ps.zip us) λ_=>none) (k7 (s.heap.objs.size+1) scope.names []) (bindC (oD qual scope s.heap.objs.size f cd).kindOf (ps.zip us) λ_=>none) s1) :
 AQ (mL CX P w K mg base N qual scope f cd A BA s H E) [] (start N xs) H s1:=by
 have hpl:=by have:=congrArg List.length S.pre;rw[dr] at this;lia
 obtain ⟨h1,tk,rfl,hk⟩:=x.done;have noA:∀b:Addr,b∉(mL CX P w K mg base N qual scope f cd A BA s H E).ex:=λb z=>absurd (show b∈([]:C2) from z) (by simp);refine ⟨⟨e0.mod,S.kind,rfl,rfl,ay _,λy z c h1 h2=>?_,λy hy=>?_,λy c _ h=>?_,λ_=>hd,Around.frames_deeper e0.frames,.inr ⟨rfl,rfl⟩,λb z=>absurd z (noA b),e0.bs,e0.bsz,λb _ _=>noA b,λb z=>absurd z (noA b),e0.sZ,e0.frf,e0.tabs⟩,
  rfl,e0.bare,Un.kept hk,⟨_,x.toInCall.ns,λi y v h1 h2 h3=>?_⟩,λy c h=>⟨_,x.cell y c h⟩,e0.AY.fresh (ay _),λy c h=>?_,λp hp=>absurd (show p∈([]:A7) from hp) (by simp),e0.AY.kept hk,?_⟩
 . exact name_of_addr x.apart (gx h1) (gx h2)
 . have hy:=hy;rcases hy with hy | hy
   . exact Jk hy
   . exact absurd rfl (S.abN _ (gx hy))
 . exact ka (x.above y c (gx h))
 . have hi:i<xs.length:=by
    unfold start at h2
    by_cases hi:i<xs.length
    . exact hi
    . rw[b9 (by simpa using hi)] at h2;rw[iO] at h2;split at h2 <;> cases h2
   have ha:xs[i]?=some v:=by
    unfold start at h2;rw[cq (by simpa using hi),br] at h2
    cases e:xs[i]? with
    | none=>rw[e] at h2;cases h2
    | some a=>rw[e] at h2;cases h2;rfl
   obtain ⟨u,hu,rv⟩:=r.get ha;have hp:ps[i]?=some y:=by
    rw[<- S.pre,la (by lia)];exact h1
   have ndP:ps.Nodup:=by rw[<- S.pre];exact S.nd.sublist (List.take_sublist _ _)
   refine ⟨u,rv,?_⟩;rcases S.par y (eJ hp) with k | k
   . exact .inl ⟨k,Gg ndP hp hu k⟩
   . obtain ⟨c,e⟩:=Jk k;refine .inr ⟨.inl k,c,e,?_⟩;have q:=x.cell y c e;rw[GZ ndP hp hu (by show scope.names.lookup y≠_;rw[k];decide)] at q;exact q
 . exact e0.AY.fresh (ka (x.above y c (gx h)))
 . unfold start;show _=N.length;rw[ai,af,ck];lia
theorem Yn{CX:CXT}{name qual:Str}{params:Arguments}{scope:vF}{dV kV doc pm AN ct oc:a9}{an od:C4}
 {osl:Array B7}{sp:Sp} (lk:K.lookup a=some ⟨oc,od,.func (fb name qual params body scope dV kV doc pm an AN ct),osl⟩) (hcd:mE K AN qual=true) (S:cX N ps scope)
 (len:∀vs H Q E,sp vs H Q E->vs.length=ps.length)
 (hbody:∀(A:ke) (BA:C6) (s:dy) (H:Hp) (vs:C0) (Q:VK) (E:XK),dF t' (A.deeper (oD qual scope s.heap.objs.size a AN))->sp vs H Q E ->
  ∃t,PSs (mL CX P w K mg h N qual scope a AN A BA s H E) body t/\t { nx:=λ_ H'=>Q .non H',rt:=Q } (start N vs) H) :
 sJ P w K mg h CX (t'+1) a (fb name qual params body scope dV kV doc pm an AN ct) ps sp:=by
 refine ⟨len,λA BA s H args us vs Q E hr e0 hb r hsp=>?_⟩;have hl:=len _ _ _ _ hsp;have KX:=e0.mod.kin.keeps λb o e=>(e0.bs b o e).1;have lim:=e0.mod.nolimit.keeps λb o e=>(e0.bs b o e).1;have hkind:∀y∈ps.zip us,scope.names.lookup y.1=some .local\/(scope.names.lookup y.1=some .cell/\((k7 (s.heap.objs.size+1) scope.names []).lookup y.1).isSome=true):=λ⟨n,v⟩ hy=>by
  rcases S.par n (zC hy).1 with q | q
  . exact .inl q
  . exact .inr ⟨q,og _ _ _ (.inl q)⟩
 refine codeAny_call_function hr.depth (KX _ _ lk) rfl S.co S.gen rfl (PySem.W.codeRec_of KX hcd) (hb _ _ _ _ (wpAny_newFunctionEnv_cells S.kind hkind λenv he s1 x=>?_));subst he;refine ⟨lim.keeps x.toInCall.keep,codeAny_func ?_⟩;obtain ⟨t,ht,hq⟩:=hbody A BA s H vs Q E (hr.deeper _) hsp;have I:AQ (mL CX P w K mg h N qual scope a AN A BA s H E) [] (start N vs) H s1:=S5 S hr.hd e0 hl r x;refine ib (ht [] s1 (start N vs) H _ I hq) (λfl s' hs=>?_) λe s' hs=>hs;have fin:∀{σ':St}{H':Hp}{v:V}{u:a9},AQ (mL CX P w K mg h N qual scope a AN A BA s H E) [] σ' H' s'->AR v u->Q v H'->CE BA P w H s Q u s':=
  λ{σ' H' v u} J rv q=>⟨v,H',J.os,J.bare,J.base,J.AY,rv,q⟩
 cases fl with
 | ret u=>
  obtain ⟨v,σ',H',J,rv,q⟩:=hs;exact fin J rv q
 | next=>
  obtain ⟨σ',H',J,q⟩:=hs;exact fin (v:=V.non) J rfl q
 | brk=>
  obtain ⟨_,_,_,q⟩:=hs;exact l7 q
 | cont=>
  obtain ⟨_,_,_,q⟩:=hs;exact l7 q
section
variable   {p:Pos}   {t:TA}{id T:String}{r:C0->Hp->VK->Prop}
def tCB(r:C0->Hp->VK->Prop)(t:TA):TE:=λσ H Q=>t σ H λvs H1=>r vs H1 Q
theorem By(hc:fO X (.builtin id) r)(hg:Gl X x)(hm:X.mg x=none)(hv:fk x=some (.builtin id))(ha:PA X (e::es) t)(hn:x ≠ "__name__" := by decide)(hdb:nD x:=by decide)
 (he:d5 (e::es) X.env=(false,eval e X.env)::d5 es X.env:=by rfl) (hpl:(nc pos (d5 es X.env)).any (·.1)=false:=by rfl):PE X (.Call (.Name x p) (e::es) [] pos) (tCB r t):=by
 intro AK s σ H Q I h;refine qo (nZ I hg hm hv ?_ hn hdb);exact PyProof.Rows.callWith_builtin1 (thn (ha pos AK s σ H _ I h) λus s1 ⟨vs,H1,I1,r1,q1⟩=>hc AK s1 σ H1 vs us Q I1 r1 q1) he hpl
theorem uo(hc:fO X (.type T) r)(hg:Gl X x)(hm:X.mg x=none)(hv:fk x=some (.type T))(ha:PA X (e::es) t)(hn:x ≠ "__name__" := by decide)(hdb:nD x:=by decide)
 (he:d5 (e::es) X.env=(false,eval e X.env)::d5 es X.env:=by rfl) (hpl:(nc pos (d5 es X.env)).any (·.1)=false:=by rfl):PE X (.Call (.Name x p) (e::es) [] pos) (tCB r t):=by
 intro AK s σ H Q I h;refine qo (nZ I hg hm hv ?_ hn hdb);exact iF (thn (ha pos AK s σ H _ I h) λus s1 ⟨vs,H1,I1,r1,q1⟩=>hc AK s1 σ H1 vs us Q I1 r1 q1) he hpl
end
end Zq
namespace HT
open PySem PyProof.Rows
section
variable {prog:ia}{w:lI}{A:ke}{E:a9->dy->Prop}{s:dy}
theorem aaP{t b:Addr}{vs ws:List a9}{Q:a9->dy->Prop}(ht:zv s.heap t vs.toArray)(hb:zv s.heap b ws.toArray)(hv:vs≠[])
 (h1:ws=[]->Q (.ref t) s) (h2:ws≠[]->Q (.ref s.heap.objs.size) { s with heap:=s.heap.push { cls:=.type "tuple",data:=.seq (vs++ws).toArray } })
 (hsz:vs.length+ws.length<=bE):eI (eL prog w) A (hY .Add (.ref t) (.ref b)) Q E s:=by
 obtain ⟨⟨cls,dd,data,sl⟩,ho,hc,n,hd⟩:=id ht;obtain ⟨⟨cls2,dd2,data2,sl2⟩,ho2,hc2,n2,hd2⟩:=id hb;simp only at hc hd hc2 hd2;subst hc hd hc2 hd2;have e:vs.toArray++ws.toArray=(vs++ws).toArray:=by simp
 by_cases hw:ws=[]
 . exact yY ⟨_,ho,rfl⟩ ⟨_,ho2,rfl⟩ xS seq_tuple_add ro qB (pS _ _)
    (tuple_addW1 t b vs.toArray ws.toArray n n2 dd dd2 sl sl2 (by simpa using hv) (by simp[hw])) ⟨ho,ho2,h1 hw⟩
 . refine yY ⟨_,ho,rfl⟩ ⟨_,ho2,rfl⟩ xS seq_tuple_add ro qB (pS _ _)
    (tuple_addW2 t b vs.toArray ws.toArray n n2 dd dd2 sl sl2 (by simpa using hv) (by simpa using hw) (by rw[cK,cK];exact hsz)) ⟨ho,ho2,?_⟩
   rw[e];exact h2 hw
noncomputable def sIx(n d:Nat):Option Int->Nat
 | none=>d
 | some v=>if v<0 then (v+(n:Int)).toNat else min v.toNat n
theorem Vq(n d:Nat):sIx n d none=d:=rfl
theorem YG(n d k:Nat):sIx n d (some (k:Int))=min k n:=by
 show (if (k:Int)<0 then ((k:Int)+(n:Int)).toNat else min (k:Int).toNat n)=min k n;rw[if_neg (by lia),cx]
theorem abg(n d:Nat)(hd:d<=n)(o:Option Int):sIx n d o<=n:=by
 cases o with
 | none=>exact hd
 | some v=>
  show (if v<0 then (v+(n:Int)).toNat else min v.toNat n)<=n
  by_cases hv:v<0
  . rw[if_pos hv];lia
  . rw[if_neg hv];exact sN _ _
theorem Nu(v:Int)(n d:Nat):(if v<0 then max (v+(n:Int)) 0 else min v (n:Int))=((sIx n d (some v):Nat):Int):=by
 show (if v<0 then max (v+(n:Int)) 0 else min v (n:Int))=(((if v<0 then (v+(n:Int)).toNat else min v.toNat n):Nat):Int)
 by_cases hv:v<0
 . simp only[if_pos hv];lia
 . simp only[if_neg hv];lia
theorem Qm(lo hi:Option Int)(n:Nat):pw lo hi 1 (n:Int)=(((sIx n 0 lo:Nat):Int),((sIx n n hi:Nat):Int)):=by
 have h1:¬ ((1:Int)<0):=by lia
 unfold pw;simp only[if_false];refine Prod.ext ?_ ?_
 . cases lo with
   | none=>rfl
   | some v=>exact Nu v n 0
 . cases hi with
   | none=>rfl
   | some v=>exact Nu v n n
theorem Qu(i j:Nat):ng (i:Int) (j:Int) 1=j - i:=by
 unfold ng;have h1:1 > 0:=by lia
 split <;> lia
theorem CW{v:a9}{o:Option Int}{Q:Option Int->dy->Prop}(p:xo v o)(h:Q o s):eI (eL prog w) A (Builtin.Slice.slicePartIndex v) Q E s:=by
 cases p with
 | none=>exact slicePart_none h
 | int i t=>exact slicePart_int h
theorem sY{sl:Addr}{vl vu:a9}{lo hi:Option Int}{n:Nat}{Q:Int×Int×Nat->dy->Prop}(hs:s.heap.IsSliceOf sl vl vu .none)(pl:xo vl lo)(pu:xo vu hi)
 (h:Q (((sIx n 0 lo:Nat):Int),1,sIx n n hi - sIx n 0 lo) s):eI (eL prog w) A (Builtin.Slice.sliceApplied (.ref sl) (pure (n:Int))) Q E s:=by
 obtain ⟨os,hos,hcs,hds⟩:=id hs;refine ag (ag (jv hos hds rfl (ag (jv hos hds rfl (ag (jv hos hds rfl (bo (ag (slicePart_none ?_)))))))));rw[if_neg (by decide)];refine ag (CW pl (ag (CW pu (ag (bo ?_)))));show eI _ _ (match pw lo hi 1 (n:Int) with | (lo,hi)=>pure (lo,(1:Int),ng lo hi 1)) _ _ s;rw[Qm lo hi n];show eI _ _ (pure (((sIx n 0 lo:Nat):Int),(1:Int),ng ((sIx n 0 lo:Nat):Int) ((sIx n n hi:Nat):Int) 1)) _ _ s;rw[Qu];exact bo h
theorem VJ(xs:Array a9)(i k:Nat):((List.range k).filterMap λ(m:Nat)=>xs[((i:Int)+(m:Int)*1).toNat]?).toArray=((xs.toList.drop i).take k).toArray:=by
 have e:(λ(m:Nat)=>xs[((i:Int)+(m:Int)*1).toNat]?)=λm=>xs[i+m]?:=by
  funext m;have:((i:Int)+(m:Int)*1).toNat=i+m:=by lia
  rw[this]
 rw[e];have:=pick_run xs i k;rw[List.filterMap_map] at this;have e2:((λx=>xs[x]?)∘λx=>i+x)=λm=>xs[i+m]?:=rfl;rw[e2] at this;rw[this]
theorem zZ{t sl:Addr}{items:Array a9}{vl vu:a9}{lo hi:Option Int}{Q:a9->dy->Prop}(ht:zv s.heap t items)(hs:s.heap.IsSliceOf sl vl vu .none)(pl:xo vl lo)(pu:xo vu hi)
 (hw:¬ (sIx items.size 0 lo=0/\sIx items.size items.size hi=items.size))
 (h:Q (.ref s.heap.objs.size) { s with heap:=s.heap.push { cls:=.type "tuple",data:=.seq ((items.toList.drop (sIx items.size 0 lo)).take (sIx items.size items.size hi - sIx items.size 0 lo)).toArray } })
 (hsz:items.size<=bE):eI (eL prog w) A (qa (.ref t) (.ref sl)) Q E s:=by
 have Hs:=by
  show ((items.toList.drop (sIx items.size 0 lo)).take (sIx items.size items.size hi - sIx items.size 0 lo)).toArray.size<=bE;rw[cK,dr,nV,md];lia
 have hj:sIx items.size items.size hi<=items.size:=abg _ _ (ay _) hi;obtain ⟨os,hos,hcs,hds⟩:=id hs;have hTs:s.TypeIs (.ref sl) "slice" := ⟨os,hos,hcs⟩;unfold qa
 try with_reducible refine lh ?_
 first | refine ag (bo ?_) | skip
 refine ag (w9 ht.typeIs (by decide) ?_);refine ag (gE ht.typeIs fI
  (fR fI ht.typeIs entry_tuple_getitem ?_ (args_tuple_getitem _ _)))
 show eI _ _ (oP (.ref t) >>= _) _ _ s;refine ag (tupleItemsOf_ ht (ag (y6 hTs ?_)));rw[if_pos (by decide)];refine ag (sY hs pl pu ?_);have hno:¬ ((((sIx items.size 0 lo:Nat):Int) == 0&&(1:Int) == 1&&(sIx items.size items.size hi - sIx items.size 0 lo) == items.size)=true):=by
  intro q;rw[eh,eh] at q;have q1:=eq_of_beq q.1.1;have q2:=eq_of_beq q.2;exact hw ⟨by lia,by lia⟩
 show eI _ _ (if (((sIx items.size 0 lo:Nat):Int) == 0&&(1:Int) == 1&&(sIx items.size items.size hi - sIx items.size 0 lo) == items.size)=true then _ else _) _ _ s;rw[if_neg hno,VJ]
 first
  | exact ag (lP (bo ⟨_,rfl,bo h⟩) Hs)
  | exact ag (lP (ag (bo (bo ⟨_,rfl,bo h⟩))) Hs)
  | exact ag (ag (lP (bo (bo ⟨_,rfl,bo h⟩)) Hs))
  | exact ag (ag (lP (bo ⟨_,rfl,bo h⟩) Hs))
end
end HT
namespace Zq
open PySem PySem.Spec PyProof.Rows
abbrev TO:=St->Hp->(C3->Hp->Prop)->Prop
def PO(X:Cx)(e:Option Expr)(t:TO):Prop:=
 ∀(AK:A7) (s:dy) (σ:St) (H:Hp) (Q:C3->Hp->Prop),AQ X AK σ H s->t σ H Q ->
  eI (eL X.prog X.w) X.A (evalPart e X.env) (λu s'=>∃o H',AQ X AK σ H' s'/\xo u o/\Q o H') X.xe s
def aaK:TO:=λ_ H Q=>Q none H
def aeB(t:TE):TO:=λσ H Q=>t σ H λx H1=>∃i,x= .int i/\Q (some i) H1
variable {xs:C0}{us:B8}
section
variable {X:Cx}{e:Expr}{te:TE}{lo hi:Option Expr}{tl th:TO}{pos p2:Pos}
theorem Z8:PO X none aaK:=by
 intro AK s σ H Q I h;rw[evalPart_none];exact bo ⟨none,H,I,.none,h⟩
theorem YQ(h:PE X e te):PO X (some e) (aeB te):=by
 intro AK s σ H Q I hw;rw[evalPart_some];refine thn (h AK s σ H _ I hw) λu s1 az=>?_;obtain ⟨x,H1,I1,r1,q1⟩:=az;obtain ⟨i,rfl,q⟩:=q1;obtain ⟨t,rfl⟩:=r1;exact ⟨some i,H1,I1,.int i t,q⟩
def SlR(X:Cx)(r:V->C3->C3->Hp->VK->Prop):Prop:=
 ∀(AK:A7) (s:dy) (σ:St) (H:Hp) (x:V) (v vl vu:a9) (lo hi:C3) (sl:Addr) (Q:VK),AQ X AK σ H s->AR x v->s.heap.IsSliceOf sl vl vu .none->xo vl lo->xo vu hi->r x lo hi H Q ->
  ∃T id,typeLookup (.type T) "__getitem__"= pure (some (.builtin id))/\s.TypeIs v T/\eI (eL X.prog X.w) X.A (qa v (.ref sl)) (EP X AK σ Q) X.xe s
def tSl(r:V->C3->C3->Hp->VK->Prop)(te:TE)(tl th:TO):TE:=λσ H Q=>te σ H λx H1=>tl σ H1 λl H2=>th σ H2 λu H3=>r x l u H3 Q
theorem Xy{r:V->C3->C3->Hp->VK->Prop}(hr:SlR X r)(he:PE X e te)(hl:PO X lo tl)(hu:PO X hi th):PE X (.Subscript e (.Slice lo hi none p2) pos) (tSl r te tl th):=by
 intro AK s σ H Q I h;refine Subscript_ (thn (he AK s σ H _ I h) λv s1 ⟨x,H1,I1,r1,q1⟩=>wpAny_Slice (thn (hl AK s1 σ H1 _ I1 q1) λvl s2 ⟨l,H2,I2,pl,q2⟩=>thn (hu AK s2 σ H2 _ I2 q2) λvu s3 az=>?_));obtain ⟨u,H3,I3,pu,q3⟩:=az;rw[evalPart_none];refine bo ?_;have I4:AQ X AK σ H3 { s3 with heap:=s3.heap.push { cls:=.type "slice",data:=.fields #[vl,vu,.none] } }:=I3.kept λb ob q=>aE _ q;obtain ⟨T,id,hT,ht,hg⟩:=hr AK { s3 with heap:=s3.heap.push { cls:=.type "slice",data:=.fields #[vl,vu,.none] } } σ H3 x v vl vu l u s3.heap.objs.size Q I4 r1 (Heap.IsSliceOf.new ..) pl pu q3;exact tail_any ht hT hg (by with_unfolding_all rfl)
noncomputable def yf(xs:C0)(lo hi:C3):C0:=(xs.drop (HT.sIx xs.length 0 lo)).take (HT.sIx xs.length xs.length hi - HT.sIx xs.length 0 lo)
theorem Ab(xs:C0)(lo hi:C3):(yf xs lo hi).length<=xs.length:=by
 rw[yf,dr,nV];lia
def acr(K:aw):V->C3->C3->Hp->VK->Prop:=λx lo hi H Q=>∃a xs,x= .ref a/\SqT K H a xs /\
 ¬ (HT.sIx xs.length 0 lo=0/\HT.sIx xs.length xs.length hi=xs.length)/\∀p,H p=none->Q (.ref p) (AU H p (.tup (yf xs lo hi)))
theorem acI:SlR X (acr X.K):=by
 rintro AK s σ H x v vl vu lo hi sl Q I rx hs pl pu ⟨a,xs,rfl,hx,hw,q⟩;cases rx;obtain ⟨AM,r,ht,hz⟩:=I.tuple hx;have hlen:AM.toArray.size=xs.length:=by rw[cK];exact r.length.symm
 refine ⟨"tuple",_,fI.lookup,ht.typeIs,?_⟩;refine HT.zZ ht hs pl pu (by rw[hlen];exact hw) ?_ (by rw[hlen];exact hz);rw[hlen];refine ⟨.ref s.heap.objs.size,_,I.laid (λb ob q=>aE _ q) (ay _) ?_,rfl,q _ (I.AY.fresh (ay _))⟩;exact ⟨dc (Ab xs lo hi) hz,_,(r.drop (HT.sIx xs.length 0 lo)).take (HT.sIx xs.length xs.length hi - HT.sIx xs.length 0 lo),zv.new _ _⟩
def aeV(K:aw):R2:=λx y H Q=>∃a b xs ys,x= .ref a/\y= .ref b/\SqT K H a xs/\SqT K H b ys/\xs≠[]/\xs.length+ys.length<=bE /\
 (ys=[]->Q (.ref a) H)/\(ys≠[]->∀p,H p=none->Q (.ref p) (AU H p (.tup (xs++ys))))
theorem AS.Fd(r:AS xs us):us=[]↔xs=[]:=by
 cases r with
 | nil=>simp
 | cons _ _=>simp
theorem ZV:OpR X (hY .Add) (aeV X.K):=by
 rintro AK s σ H x y v u Q I rx ry ⟨a,b,xs,ys,rfl,rfl,ha,hb,hx,hz,q1,q2⟩;cases rx;cases ry;obtain ⟨AM,r1,p1,_⟩:=I.tuple ha;obtain ⟨its2,r2,p2,_⟩:=I.tuple hb;refine HT.aaP p1 p2 (λz=>hx (r1.Fd.mp z)) (λz=>⟨.ref a,H,I,rfl,q1 (r2.Fd.mp z)⟩) (λz=>?_) (by rw[<- r1.length,<- r2.length];exact hz);refine ⟨.ref s.heap.objs.size,_,I.laid (λb ob q=>aE _ q) (ay _) ?_,rfl,q2 (λw=>z (r2.Fd.mpr w)) _ (I.AY.fresh (ay _))⟩;exact ⟨by rw[ai];exact hz,_,r1.append r2,zv.new _ _⟩
end
noncomputable def ixN(n:Nat)(i:Int):Option Nat:=if 0<=i then (if i<n then some i.toNat else none) else if -(n:Int)<=i then some (i+n).toNat else none
noncomputable def atI{α:Type}(xs:List α)(i:Int):Option α:=(ixN xs.length i).bind λj=>xs[j]?
theorem Zm{n:Nat}{i:Int}{j:Nat}(h:ixN n i=some j):seqIndex? i n=some j/\j<n /\ -(n:Int)<=i/\i<n:=by
 unfold ixN at h
 by_cases h0:0<=i
 . rw[if_pos h0] at h
   by_cases h1:i<n
   . rw[if_pos h1] at h;have e:=Option.some.inj h;exact ⟨by rw[seqIndex_of h0 h1,e],by lia,by lia,h1⟩
   . rw[if_neg h1] at h;cases h
 . rw[if_neg h0] at h
   by_cases h1 : -n<=i
   . rw[if_pos h1] at h;have e:=Option.some.inj h;exact ⟨by rw[seqIndex_neg (by lia) h1,e],by lia,h1,by lia⟩
   . rw[if_neg h1] at h;cases h
theorem Nv{α:Type}{xs:List α}{i:Int}{v:α}(h:atI xs i=some v):∃j,seqIndex? i xs.length=some j/\xs[j]?=some v/\j<xs.length /\ -(xs.length:Int)<=i/\i<xs.length:=by
 unfold atI at h
 cases e:ixN xs.length i with
 | none=>rw[e] at h;cases h
 | some j=>
  rw[e] at h;obtain ⟨h1,h2,h3,h4⟩:=Zm e;exact ⟨j,h1,h,h2,h3,h4⟩
theorem N7{α:Type}{xs:List α}{j:Nat}{v:α}(h:xs[j]?=some v):atI xs (j:Int)=some v:=by
 have hj:=(aS.mp h).1;have e:ixN xs.length (j:Int)=some j:=by
  rw[ixN,if_pos (by lia),if_pos (by lia)];simp
 rw[atI,e];exact h
def lD(b:Expr):Prop:=∀o i,oQ b false o i=operate [o,i] (qa o i)
def IxR(X:Cx)(r:R2):Prop:=
 ∀(value slice:Expr) (AK:A7) (s:dy) (σ:St) (H:Hp) (x y:V) (v u:a9) (Q:VK),AQ X AK σ H s->AR x v->AR y u->r x y H Q ->
  oQ slice false v u=operate [v,u] (qa v u)->eI (eL X.prog X.w) X.A (subscriptTail value slice v u) (EP X AK σ Q) X.xe s
def MtR(X:Cx)(id:String)(r:V->C0->Hp->VK->Prop):Prop:=
 ∀(AK:A7) (s:dy) (σ:St) (H:Hp) (x:V) (xs:C0) (v:a9) (us:B8) (Q:VK),AQ X AK σ H s->AR x v->AS xs us->r x xs H Q ->
  eI (eL X.prog X.w) X.A (call (.builtin id) (v::us)) (EP X AK σ Q) X.xe s
section
variable {X:Cx}{a b:Expr}{ta tb:TE}{pos:Pos}
theorem Cg{r:R2}(hr:IxR X r)(ha:PE X a ta)(hb:PE X b tb)(hs:lD b):PE X (.Subscript a b pos) (tOp r ta tb):=by
 intro AK s σ H Q I h;exact Subscript_ (Ww ha hb I h λv u s2 x y H2 I2 rx ry q=>hr a b AK s2 σ H2 x y v u Q I2 rx ry q (hs _ _))
def afk(K:aw):R2:=λx y H Q=>∃p xs i v,x= .ref p/\y= .int i/\SqL K H p xs/\atI xs i=some v/\Q v H
def aeW(K:aw):R2:=λx y H Q=>∃p xs i v,x= .ref p/\y= .int i/\SqT K H p xs/\atI xs i=some v/\Q v H
theorem ZS:IxR X (afk X.K):=by
 intro value slice AK s σ H x y v u Q I rx ry h hs;obtain ⟨p,xs,i,z,rfl,rfl,hq,he,q⟩:=h;cases rx;obtain ⟨t,rfl⟩:=ry;obtain ⟨AM,r,pl,hz⟩:=I.list hq;obtain ⟨j,h1,h2,h3,h4,h5⟩:=Nv he;obtain ⟨w,ew,rw'⟩:=r.get h2;have hl:=r.length;have hn:=vo;have fin:EP X AK σ Q w s:=⟨z,H,I,rw',q⟩
 by_cases h0:0<=i
 . have hj:=by
    rw[seqIndex_of h0 h5] at h1;exact Option.some.inj h1
   exact item_listR pl.isList h0 (by lia) (by rw[hj];simpa using ew) fin hs
 . have hj:(i+(AM.toArray.size:Int)).toNat=j:=by
    rw[seqIndex_neg (by lia) h4] at h1;rw[cK,<- hl];exact Option.some.inj h1
   exact subscriptTail_builtinR pl.isList.typeIs xa.lookup
    (wpAny_getItem_list_neg pl.isList (by lia) (by rw[cK] <;> lia) (by lia) (by rw[hj];simpa using ew) ⟨rfl,fin⟩) hs
theorem ada:IxR X (aeW X.K):=by
 intro value slice AK s σ H x y v u Q I rx ry h hs;obtain ⟨p,xs,i,z,rfl,rfl,hq,he,q⟩:=h;cases rx;obtain ⟨t,rfl⟩:=ry;obtain ⟨AM,r,pl,hz⟩:=I.tuple hq;obtain ⟨j,h1,h2,h3,h4,h5⟩:=Nv he;obtain ⟨w,ew,rw'⟩:=r.get h2;have hl:=r.length;have hn:=vo;have fin:EP X AK σ Q w s:=⟨z,H,I,rw',q⟩;exact subscriptTail_builtinR pl.typeIs fI.lookup
  (getItem_tuple pl (by lia) (by lia) (by rw[cK,<- hl];exact h1) (by simpa using ew) ⟨rfl,fin⟩) hs
theorem IW(lo hi:C3)(n:Nat):(qE lo hi none n).1=((HT.sIx n 0 lo:Nat):Int)/\(qE lo hi none n).2.1=((HT.sIx n n hi:Nat):Int)/\(qE lo hi none n).2.2=1:=by
 refine ⟨?_,?_,rfl⟩
 . cases lo with
   | none=>simp[qE,HT.sIx]
   | some i=>
    simp only[qE,HT.sIx,Option.getD_none,show (1:Int) > 0 by decide,if_true]
    by_cases h:i<0
    . simp only[h,if_true] <;> lia
    . simp only[h,if_false] <;> lia
 . cases hi with
   | none=>simp[qE,HT.sIx]
   | some i=>
    simp only[qE,HT.sIx,Option.getD_none,show (1:Int) > 0 by decide,if_true]
    by_cases h:i<0
    . simp only[h,if_true] <;> lia
    . simp only[h,if_false] <;> lia
theorem Hk(AM:B8)(lo hi:C3):slicePick AM.toArray lo hi none=((AM.drop (HT.sIx AM.length 0 lo)).take (HT.sIx AM.length AM.length hi - HT.sIx AM.length 0 lo)).toArray:=by
 obtain ⟨h1,h2,h3⟩:=IW lo hi AM.toArray.size;rw[slicePick,h1,h2,h3];simp only[sliceRange_one,pick_run,cK] <;> rfl
def adz(K:aw):V->C3->C3->Hp->VK->Prop:=λx lo hi H Q=>∃a xs,x= .ref a/\SqL K H a xs/\∀p,H p=none->Q (.ref p) (AU H p (.lst (yf xs lo hi)))
theorem ZQ:SlR X (adz X.K):=by
 rintro AK s σ H x v vl vu lo hi sl Q I rx hs pl pu ⟨a,xs,rfl,hx,q⟩;cases rx;obtain ⟨AM,r,ht,hz⟩:=I.list hx;have hlen:=r.length;refine ⟨"list",_,xa.lookup,ht.isList.typeIs,?_⟩;refine wpAny_getItem_list_slice ht.isList hs pl pu .none (by simp) ?_ (by rw[cK] <;> lia);rw[Hk,<- hlen];refine ⟨.ref s.heap.objs.size,_,I.laid (λb ob q=>aE _ q) (ay _) ?_,rfl,q _ (I.AY.fresh (ay _))⟩;exact ⟨dc (Ab xs lo hi) hz,_,0,(r.drop (HT.sIx xs.length 0 lo)).take (HT.sIx xs.length xs.length hi - HT.sIx xs.length 0 lo),c6 _ rfl⟩
theorem yo:fO X (.builtin "len") (λxs H Q=>∃p ys,xs=[.ref p]/\(SqL X.K H p ys\/SqT X.K H p ys)/\Q (.int ys.length) H):=by
 rintro AK s σ H xs us Q I r ⟨p,ys,rfl,hq,q⟩;obtain ⟨u,rfl,rx⟩:=vals1 r;cases rx;have hn:=vo;rcases hq with hq | hq
 . obtain ⟨AM,r',pl,hz⟩:=I.list hq;have hlen:=r'.length;exact Calls.call_len_list pl.isList (by simp only[cK] <;> lia) ⟨.int ys.length,H,I.tok _,⟨s.toks+1,by rw[cK,hlen]⟩,q⟩
 . obtain ⟨AM,r',pl,hz⟩:=I.tuple hq;have hlen:=r'.length;exact len_tuple pl (by simp only[cK] <;> lia) ⟨.int ys.length,H,I.tok _,⟨s.toks+1,by rw[cK,hlen]⟩,q⟩
theorem Ik:fO X (.builtin "len") (λxs H Q=>∃z,xs=[.str z]/\z.length<=bE/\Q (.int z.length) H):=by
 rintro AK s σ H xs us Q I r ⟨z,rfl,hz,q⟩;obtain ⟨u,rfl,t,rfl⟩:=vals1 r;have hn:=vo;exact len_str (by lia) ⟨.int z.length,H,I.tok _,⟨_,rfl⟩,q⟩
theorem yJ:fO X (.type "list") (λxs H Q=>∃p ys,xs=[.ref p]/\(SqL X.K H p ys\/SqT X.K H p ys)/\∀l,H l=none->Q (.ref l) (AU H l (.lst ys))):=by
 rintro AK s σ H xs us Q I r ⟨p,ys,rfl,hq,q⟩;obtain ⟨u,rfl,rx⟩:=vals1 r;cases rx;have fin:∀(AM:B8),AS ys AM->ys.length<=bE->∀(h':Heap) (c':Nat),(∀b o',s.heap.get? b=some o'->h'.get? b=some o') ->
  h'.get? s.heap.objs.size=some { cls:=.type "list",dict:=none,data:=.seq AM.toArray c',slots:=#[] }->EP X AK σ Q (.ref s.heap.objs.size) { s with heap:=h' }:=λAM r' hz h' c' kp e=>
  ⟨.ref s.heap.objs.size,_,I.laid kp (ay _) (show gb X.prog X.w _ h' _ (.lst ys) from ⟨hz,AM,c',r',e⟩),rfl,q _ (I.AY.fresh (ay _))⟩
 rcases hq with hq | hq
 . obtain ⟨AM,r',pl,hz⟩:=I.list hq;have hlen:=r'.length;obtain ⟨o,ho,hc,n,hd⟩:=pl.isList;exact call_list_seq p (.inl rfl) ho hc hd (λh' c' kp e=>fin AM r' hz h' c' kp e) (by simp only[cK] <;> lia)
 . obtain ⟨AM,r',pl,hz⟩:=I.tuple hq;have hlen:=r'.length;obtain ⟨o,ho,hc,n,hd⟩:=pl;exact call_list_seq p (.inr rfl) ho hc hd (λh' c' kp e=>fin AM r' hz h' c' kp e) (by simp only[cK] <;> lia)
theorem wY:fO X (.type "tuple") (λxs H Q=>∃p ys,xs=[.ref p]/\((SqL X.K H p ys/\∀l,H l=none->Q (.ref l) (AU H l (.tup ys)))\/(SqT X.K H p ys/\Q (.ref p) H))):=by
 rintro AK s σ H xs us Q I r ⟨p,ys,rfl,h⟩;obtain ⟨u,rfl,rx⟩:=vals1 r;cases rx;rcases h with ⟨hq,q⟩ | ⟨hq,q⟩
 . obtain ⟨AM,r',pl,hz⟩:=I.list hq;have hlen:=r'.length;refine call_tuple_list pl.isList (λh' kp=>?_) (by simp only[cK] <;> lia);have I1:=I.kept (t':=s.toks) kp;have I2:=
    I1.laid (t':=s.toks) (λb o e=>aE _ e) (ay _) (show gb X.prog X.w _ _ _ (.tup ys) from ⟨hz,AM,r',zv.new _ _⟩)
   exact ⟨.ref h'.objs.size,_,I2,rfl,q _ (I1.AY.fresh (ay _))⟩
 . obtain ⟨AM,r',pl,hz⟩:=I.tuple hq;exact call_tuple_same pl ⟨.ref p,H,I,rfl,q⟩
def tyV(K:aw)(T:String)(x:V)(H:Hp):Prop:=match x with
 | .str _=>T = "str"
 | .int _=>T = "int"
 | .ref p=>(T = "list" /\ ∃xs,SqL K H p xs)\/(T = "tuple" /\ ∃o,K.lookup p=some o/\o.cls= .type "tuple" /\ o.dict=none) \/
  (T = "dict" /\ ((∃kvs,H p=some (.dK kvs))\/∃kvs,H p=some (.dT kvs)))\/(T = "set" /\ ∃S n,H p=some (.set S n))
 | _=>False
theorem ab0{AK:A7}{σ:St}{H:Hp}{s:dy}{T:String}{x:V}{v:a9}(I:AQ X AK σ H s)(r:AR x v)(ty:tyV X.K T x H) :
 s.TypeIs v T/\∀a,v= .ref a->∃ob,s.heap.get? a=some ob/\ob.dict=none:=by
 cases x with
 | str z=>
  obtain ⟨t,rfl⟩:=r;cases (ty);exact ⟨typeIs_str s z t,λ_ e=>nomatch e⟩
 | int i=>
  obtain ⟨t,rfl⟩:=r;cases (ty);exact ⟨typeIs_int s i t,λ_ e=>nomatch e⟩
 | ref p=>
  cases r;rcases ty with ⟨rfl,xs,hq⟩ | ⟨rfl,o,hk,hc,hd⟩ | ⟨rfl,hk⟩ | ⟨rfl,S,n,hk⟩
  . obtain ⟨AM,_,pl,_⟩:=I.list hq;refine ⟨pl.isList.typeIs,λa e=>?_⟩;cases e;obtain ⟨o,n,e,c,hd,_⟩:=pl;exact ⟨o,e,hd⟩
  . refine ⟨⟨o,I.kIn p o hk,hc⟩,λa e=>?_⟩;cases e;exact ⟨o,I.kIn _ o hk,hd⟩
  . have z:∃o,s.heap.get? p=some o/\o.ExactDict:=by
     rcases hk with ⟨kvs,hk⟩ | ⟨kvs,hk⟩
     . obtain ⟨_,_,_,_,o,_,_,e,ex,_⟩:=I.AY p _ hk;exact ⟨o,e,ex⟩
     . obtain ⟨_,_,_,_,o,_,_,e,ex,_⟩:=I.AY p _ hk;exact ⟨o,e,ex⟩
    obtain ⟨o,e,ex⟩:=z;refine ⟨⟨o,e,ex.1⟩,λa e2=>?_⟩;cases e2;exact ⟨o,e,ex.2.1⟩
  . obtain ⟨o,_,_,_,e,ex,_⟩:=I.AY p _ hk;refine ⟨⟨o,e,ex.1⟩,λa e2=>?_⟩;cases e2;exact ⟨o,e,ex.2.1⟩
 | _=>exact l7 ty
def tBM(K:aw)(T:String)(r:V->C0->Hp->VK->Prop)(to:TE)(t:TA):TE:=λσ H Q=>to σ H λx H1=>tyV K T x H1/\t σ H1 λxs H2=>r x xs H2 Q
variable {o e:Expr}{es:C1}{to:TE}{t:TA}{name:Str}{apos cpos:Pos}{T id:String}{r:V->C0->Hp->VK->Prop}
theorem BR(pa:PlainAttrs T)(slot:Slot T name id)(hty:typeOf (.builtin id)=pure (.type "method_descriptor"))(hm:MtR X id r)(ho:PE X o to)(ha:PA X (e::es) t)
 (hbase:mw o name X.env (eval o X.env)=eval o X.env:=by rfl)
 (hfew:((nc cpos (d5 (e::es) X.env)).all (λx=>!x.1)&&(x6 cpos (qV [] X.env)).all (λx=>x.1.isSome)
  && decide ((e::es).length+([]:List pf).length+(if ([]:List pf).isEmpty then 0 else 1)<30))=true:=by rfl)
 (hline:(apos.endLine == cpos.line)=true:=by rfl) (hs:d5 (e::es) X.env=(false,eval e X.env)::d5 es X.env:=by rfl) (hplain:(nc cpos (d5 es X.env)).any (·.1)=false:=by rfl) :
 PE X (.Call (.Attribute o name apos) (e::es) [] cpos) (tBM X.K T r to t):=by
 intro AK s σ H Q I h;refine wpAny_Call_method_late hbase hfew hline rfl (thn (ho AK s σ H _ I h) λv s1 az=>?_);obtain ⟨x,H1,I1,r1,ty,q1⟩:=az;obtain ⟨h1,h2⟩:=ab0 I1 r1 ty;refine ⟨T,id,pa,slot,hty,h1,h2,?_⟩;have hA:=ha cpos AK s1 σ H1 _ I1 q1;rw[hs] at hA ⊢;exact rq (by show (false||(nc cpos (d5 es X.env)).any (·.1))=false;rw[hplain] <;> rfl) (Calls.evalArgs_plain (thn hA λus s2 ⟨vs,H2,I2,r2,q2⟩=>hm AK s2 σ H2 x vs v us Q I2 r1 r2 q2))
end
def MtM(X:Cx)(id:String)(r:V->C0->Hp->VK->Prop):Prop:=
 ∀(AK:A7) (s:dy) (σ:St) (H:Hp) (x:V) (xs:C0) (v:a9) (us:B8) (Q:VK),AQ X AK σ H s->AR x v->AS xs us->r x xs H Q ->
  eI (eL X.prog X.w) X.A (call (.builtin id) (v::us)) (EP X AK σ Q) X.xe s
theorem AS.one{x:V}(h:AS [x] us):∃u,us=[u]/\AR x u:=by
 cases h with
 | cons r t=>cases t;exact ⟨_,rfl,r⟩
theorem AS.two{x y:V}(h:AS [x,y] us):∃u v,us=[u,v]/\AR x u/\AR y v:=by
 cases h with
 | cons r t=>
  cases t with
  | cons q t=>cases t;exact ⟨_,_,rfl,r,q⟩
theorem AS.reverse(h:AS xs us):AS xs.reverse us.reverse:=by
 induction h with
 | nil=>exact .nil
 | cons r t ih=>rw[rL,rL];exact AS.append ih (.cons r .nil)
theorem AS.rep(h:AS xs us):∀k:Nat,AS (ax k xs).flatten (ax k us).flatten
 | 0=>.nil
 | k+1=>by
  rw[fo,fo,lS,lS];exact AS.append h (AS.rep h k)
theorem foldl_rep(AM:B8):∀(k:Nat) (AL:B8),
 List.foldl (λx1 x2=>x1++x2) AL.toArray (ax k AM.toArray)=(AL++(ax k AM).flatten).toArray
 | 0,AL=>by simp
 | k+1,AL=>by
  have e:AL.toArray++AM.toArray=(AL++AM).toArray:=by simp
  have e2:(AL++AM)++(ax k AM).flatten=AL++(ax (k+1) AM).flatten:=by
   rw[fo,lS,d6]
  rw[<- e2,<- foldl_rep AM k (AL++AM),<- e,fo,qc]
variable {AM:B8}
section
variable {X:Cx}{AK:A7}{σ:St}{H:Hp}{s:dy}{l b:Addr}{ys zs:C0}
theorem AQ.Q4{its':B8}{n:Nat}{f:Array a9->Array a9}{t':Nat}(I:AQ X AK σ H s)(hH:H l=some (.lst xs))
 (e:s.heap.get? l=some { cls:=.type "list",data:=.seq AM.toArray n }) (hf:f AM.toArray=its'.toArray) (hv:AS ys its') (hz:ys.length<=bE) :
 AQ X AK σ (AU H l (.lst ys)) { s with heap:=s.heap.update l (y7 f),toks:=t' }:=by
 have q:=PySem.IsL.update e f;rw[hf] at q;refine I.write (by rw[hH];exact trivial) (.inl rfl) (λb' u hb hu=>(Heap.get?_update_other s.heap (y7 f) (nL hb)).trans hu) ⟨_,q⟩ ?_;exact ⟨hz,its',_,hv,q⟩
theorem AQ.adn{t':Nat}(I:AQ X AK σ H s)(hv:AS ys AM)(hz:ys.length<=bE) :
 AQ X AK σ (AU H s.heap.objs.size (.lst ys)) { s with heap:=s.heap.push { cls:=.type "list",data:=.seq AM.toArray },toks:=t' }:=
 I.laid (λ_ _ q=>aE _ q) (ay _) ⟨hz,AM,0,hv,c6 _ rfl⟩
theorem AQ.fresh(I:AQ X AK σ H s):H s.heap.objs.size=none:=I.AY.fresh (ay _)
theorem AQ.Oz(I:AQ X AK σ H s)(hH:H l=some (.lst xs)):xs.length<=bE/\∃(AM:B8) (n:Nat),AS xs AM/\xs.length=AM.length/\s.heap.get? l=some { cls:=.type "list",data:=.seq AM.toArray n }:=by
 obtain ⟨z,AM,n,r,e⟩:=I.AY l _ hH;exact ⟨z,AM,n,r,r.length,e⟩
theorem JT{n:Nat}(h:n<=bE):lj n=false:=by
 exact decide_eq_false (by lia)
end
section
variable {X:Cx}
def Ze:V->C0->Hp->VK->Prop:=λx vs H Q=>∃l xs y,x= .ref l/\vs=[y]/\H l=some (.lst xs)/\xs.length<bE/\Q .non (AU H l (.lst (xs++[y])))
theorem yQ:MtM X "list.append" Ze:=by
 rintro AK s σ H x vs v us Q I rx rv ⟨l,xs,y,rfl,rfl,hH,hz,q⟩;cases rx;obtain ⟨u,rfl,ru⟩:=rv.one;obtain ⟨z,AM,n,r,hl,e⟩:=I.Oz hH;refine y8 rS ⟨_,e,rfl⟩ F.entry_list_append (F.args_list_append_2 _ _) (PySem.list_append l AM.toArray n u (by rw[cK];lia)) ⟨e,?_⟩;refine ⟨.non,_,I.Q4 hH e (by simp) (r.append (.cons ru .nil)) ?_,rfl,q⟩;rw[ai,cy];lia
theorem len_rep{α:Type}(xs:List α)(k:Nat):(ax k xs).flatten.length=k*xs.length:=by
 induction k with
 | zero=>simp
 | succ k ih=>rw[fo,lS,ai,ih,y9,Nat.add_comm]
end
end Zq
namespace Att
open PySem PySem.W PySem.Calls PyProof.Rows
theorem DX{P:Params}{h:Heap}:∀(ns:List Int) (vs:List a9),WellAll P h vs (ns.map WData.int)->sR vs ns:=by
 intro ns
 induction ns with
 | nil=>
  intro vs w;rw[fv] at w;cases w;exact .nil
 | cons n ns ih=>
  intro vs w;rw[a8] at w
  cases w with
  | cons a b=>
   cases a;exact .cons _ _ (ih _ b)
theorem Ub{l:yv}{n:Nat}(hn:l.most=some n){P:Params}{h:Heap}{args:List WData}{vals:List a9}
 (hpre:l.row.toRowW.claim.pre args=true) (hwl:WellAll P h vals args) :
 ∃a vs ns,vals=[iN a]/\args=[WData.list (ns.map WData.int)]/\h.get? a=some { cls:=.type "list",data:=.seq vs.toArray }/\sR vs ns/\ns.length<=n:=by
 have hsh:=(pre_splitW hpre).1;have hc:=(pre_splitW hpre).2;obtain ⟨d,r,rfl,h1,h2⟩:=hasAllW_cons hsh;obtain rfl:=hasAllW_nil h2;obtain ⟨xs,rfl,h3⟩:=hasW_list h1;obtain ⟨ns,rfl⟩:=items_int h3;have hlen:ns.length<=n:=by
  have h4:(WTm.not (.lt (.lit (.int n)) (.len (.arg 0)))).holds [] { args:=[.list (ns.map .int)] }=true:=by
   have h4:=(holds_andW hc).1;rwa [hn] at h4
  have h5:=condW_of h4 (w_not (w_lt w_lit (w_len_list (w_arg rfl))));rw[af] at h5;refine ky λq=>?_;have q':n<(ns.length:Int):=by lia
  first
   | (rw[decide_eq_true q'] at h5;exact absurd h5 (by decide))
   | (simp at h5;lia)
 cases hwl with
 | cons w1 w2=>
  cases w2
  cases w1 with
  | list ho hall=>exact ⟨_,_,ns,rfl,rfl,ho,DX ns _ hall,hlen⟩
theorem Uc(l:yv)(args:List WData):l.row.toRowW.claim.post args (.bool true) args=true:=
 postW_of
  (show WShape.has [] (.bool true) .bool=true by first | rfl | decide | simp[WShape.arms,WShape.armsAll])
  (w_eq_bool (w_res rfl) w_lit) rfl
theorem Mt{l:yv}{n:Nat}{q:ia}{loose:List Str}{XP:(Str->Option a9)->Heap->Prop}{YP:lI->Heap->Prop}{d:DefRec}
 (hn:l.most=some n) (hdf:d.params.defaults=[])
 (call:∀(w:lI) (s₀ s₁:dy) (mg mb:Str->Option a9) (fa:Addr) (o:Obj) (pm cd doc:a9) (a:Addr) (vs:List a9) (ns:List Int),
  Ground q loose [] XP w s₀ mg mb s₁.heap->YP w s₁.heap ->
  s₁.heap.get? fa=some o->o.data= .func (docDef d.name d.params d.body d.scope pm cd doc)->s₁.heap.CodeRec cd d.name->mg d.name=some (.ref fa) ->
  s₁.heap.get? a=some { cls:=.type "list",data:=.seq vs.toArray }->sR vs ns->ns.length<=n->s₁.gens=#[] ->
  yB (eL l.prog w) AB (.call (.ref fa) ⟨[.ref a],[]⟩) (λr s'=>r= .ok (.ret (.bool true))/\OldK s₁.heap s'.heap/\s'.os=s₁.os/\wq s'.gens) s₁) :
 WalkO q loose XP YP l.row.toRowW d [] (λf vs=>PySem.call f vs):=by
 intro w s₀ s₁ mg mb G Y fa o pm cd doc dV kV ho hd hcd hD hmg hg args vals as hpre hlay hrd hwl hlo;obtain rfl:dV= .none:=Dflts.none hD hdf;obtain rfl:kV= .none:=Dflts.noKw hD;obtain ⟨a,vs,ns,rfl,rfl,hobj,hints,hlen⟩:=Ub hn hpre hwl;refine enter_call (codeAny_mono (call w s₀ s₁ mg mb fa o pm cd doc a vs ns G Y ho (fd_plain hd) hcd hmg hobj hints hlen hg) λr s' hq=>?_);obtain ⟨rfl,h2,h3,h4⟩:=hq;exact ⟨.inl ⟨.bool true,.bool true,[],rfl,λ_=>rfl,.bool true,Uc l _,λ_=>⟨xt.nil,λ_ hm=>(nomatch hm)⟩⟩,h2,h3,h4⟩
end Att
namespace Zq
open PySem PySem.Spec PyProof.Rows
theorem GC:∀{vs:B8}{ns:B3},sR vs ns->AS (ns.map V.int) vs
 | _,_,.nil=>.nil
 | _,_,.cons n t h=>.cons ⟨t,rfl⟩ (GC h)
noncomputable def cM(s:Stmt):Arguments:=match s with
 | .FunctionDef _ a _ _ _ _ _ _ _ _=>a
 | _=>{ posonlyargs:=[],args:=[],vararg:=none,kwonlyargs:=[],kw_defaults:=[],kwarg:=none,defaults:=[] }
noncomputable def bR(s:Stmt):C5:=match s with
 | .FunctionDef _ _ b _ _ _ _ _ _ _=>b
 | _=>[]
noncomputable def aN(s:Stmt):vF:=match s with
 | .FunctionDef _ _ _ _ _ _ sc _ _ _=>sc
 | _=>{ kind:=.function,names:=[],isGenerator:=false,isCoroutine:=false }
abbrev CX0:CXT:=λ_ _ _ _ _ _=>False
abbrev E0:XK:=λ_ _ _=>False
theorem aey{X:Cx}:Passes CX0 X E0:=λ_ _ _ _ _ _ _ h=>h.elim
structure Fun (K:aw) (x qual:Str) (st:Stmt) (f:Addr) (fd:nS):Prop where
 ex:∃(oc:a9) (od:C4) (kV doc pm:a9) (an:C4) (AN ct:a9) (osl:Array B7),
  fd=fb x qual (cM st) (bR st) (aN st) .none kV doc pm an AN ct/\K.lookup f=some ⟨oc,od,.func fd,osl⟩/\mE K AN qual=true
 kp:lx K (.ref f)=true
variable {x qual:Str}
section
variable {P:ia}{w:lI}{K:aw}{mg:Str->B7}{base:Heap}
theorem Fun.ok{st:Stmt}{f:Addr}{fd:nS}{N ps:B6}{k:Nat}{sp:Sp}(F:Fun K x qual st f fd)(S:cX N ps (aN st))(len:∀vs H Q E,sp vs H Q E->vs.length=ps.length)
 (hbody:∀(AN:a9) (A:ke) (BA:C6) (s:dy) (H:Hp) (vs:C0) (Q:VK) (E:XK),dF k (A.deeper (oD qual (aN st) s.heap.objs.size f AN))->sp vs H Q E ->
  ∃t,PSs (mL CX0 P w K mg base N qual (aN st) f AN A BA s H E).nox (bR st) t/\t { nx:=λ_ H'=>Q .non H',rt:=Q } (start N vs) H):sJ P w K mg base CX0 (k+1) f fd ps sp:=by
 obtain ⟨oc,od,kV,doc,pm,an,AN,ct,osl,rfl,lk,hcd⟩:=F.ex;refine Yn lk hcd S len λA BA s H vs Q E hr hsp=>?_;obtain ⟨t,h,q⟩:=hbody AN A BA s H vs Q E hr hsp;exact ⟨t,h.nox,q⟩
theorem Fun.binds{st:Stmt}{f:Addr}{fd:nS}{ps:B6}(F:Fun K x qual st f fd)
 (h:∀(kV doc pm:a9) (an:C4) (AN ct:a9) (us:B8),us.length=ps.length->kG (fb x qual (cM st) (bR st) (aN st) .none kV doc pm an AN ct) ⟨us,[]⟩=pure (ps.zip us)):Binds K fd ps []:=by
 obtain ⟨oc,od,kV,doc,pm,an,AN,ct,osl,rfl,lk,hcd⟩:=F.ex;exact .all (h kV doc pm an AN ct)
theorem J8{st:Stmt}{f:Addr}{oc:a9}{od an:C4}{osl:Array B7}{kV doc pm AN ct:a9}(l:K.lookup f=some ⟨oc,od,.func (fb x qual (cM st) (bR st) (aN st) .none kV doc pm an AN ct),osl⟩)
 (c:mE K AN qual=true) (k:lx K (.ref f)=true):Fun K x qual st f (fb x qual (cM st) (bR st) (aN st) .none kV doc pm an AN ct):=⟨⟨oc,od,kV,doc,pm,an,AN,ct,osl,rfl,l,c⟩,k⟩
end
theorem Uk{n:Nat}(h:n<=1000):n<bE:=ki h (by decide)
theorem Bh{A B:Prop}(h:B):if false=true then A else B:=by
 rw[if_neg eW];exact h
theorem Bc{A B:Prop}(h:A):if true=true then A else B:=by
 rw[if_pos rfl];exact h
def aF(H H':Hp):Prop:=∀b o,H b=some o->H' b=some o
theorem aF.refl(H:Hp):aF H H:=λ_ _ h=>h
theorem aF.trans{H H1 H2:Hp}(a:aF H H1)(b:aF H1 H2):aF H H2:=λc o h=>b c o (a c o h)
theorem aF.free{H H':Hp}(e:aF H H'){l:Addr}(h:H' l=Option.none):H l=Option.none:=by
 cases q:H l with
 | none=>rfl
 | some o=>
  rw[e l o q] at h;cases h
theorem aF.seq{K:aw}{H H':Hp}{a:Addr}{xs:C0}(e:aF H H')(h:SqL K H a xs):SqL K H' a xs:=by
 rcases h with (h | ⟨o,h⟩) | h
 . exact .inl (.inl (e _ _ h))
 . exact .inl (.inr ⟨o,e _ _ h⟩)
 . exact .inr h
end Zq
set_option maxHeartbeats 4000000
namespace Zq
open PySem PySem.Spec PyProof.Rows
noncomputable def Cx.comp(X:Cx)(scope:vF)(tn:B6)(ix:B5)(cl:B1)(C:Addr)(s₂:dy)(H₂:Hp)(fp:C2):Cx where
 prog:=X.prog
 w:=X.w
 K:=X.K
 mg:=X.mg
 base:=X.base
 A:=X.A
 N:=tn++ix.map λi=>X.N.getD i Str.empty
 s₀:=s₂
 H₀:=H₂
 env:=compEnvC scope cl C X.env
 BA:=X.stack
 stack:=X.stack
 ex:=fp
 fn:=λx=>scope.names.lookup x == some .cell
 calm:=X.calm
 pn:=[]
 xe:=λ_ _=>False
noncomputable def u9(tn:B6)(ix:B5)(σ:St):St:=ax tn.length none++ix.map λi=>(σ[i]?).join
def sy(X:Cx)(ifs:C1)(t:TT):Prop:=
 ∀(AK:A7) (s:dy) (σ:St) (H:Hp) (Q:Bool->Hp->Prop),AQ X AK σ H s->t σ H Q ->
  eI (eL X.prog X.w) X.A (forIn ifs true λc r=>if r=true then do let ok <- isTrue c X.env (eval c X.env);pure (om ok) else pure (om r)) (TP X AK σ Q) X.xe s
def ae2:TT:=λ_ H Q=>Q true H
variable {X:Cx}
theorem V6:sy X [] ae2:=λ_ _ _ H _ I h=>wpAny_tests_nil ⟨H,I,h⟩
theorem Xq{c:Expr}{t:TT}(h:PT X c t):sy X [c] t:=λAK s σ H Q I q=>wpAny_tests_one (h AK s σ H Q I q)
def ac0(tn:B6)(ix:B5)(g:TG)(tt:TT)(te:TE)(σ:St)(Q:VK)(J:It)(H1:Hp):Prop:=∀D,H1 D=none ->
 ∃W:Nat->Nat->St->C0->Hp->Prop,(∃m,W 0 m (u9 tn ix σ) [] (AU H1 D (.lst [])))/\∀i m σb AL H2,W i m σb AL H2->H2 D=some (.lst AL) /\
  ((
   J.stop i H2/\Q (.ref D) H2)\/(J.go i H2/\AL.length<bE/\∀x H3,J.yld i H2 x H3->g x σb H3 λσ4 H4=>tt σ4 H4 λb H5=>
   if b=true then te σ4 H5 λv H6=>H6 D=some (.lst AL)/\∃m',m'<m/\W (i+1) m' σ4 (AL++[v]) (AU H6 D (.lst (AL++[v]))) else ∃m',m'<m/\W (i+1) m' σ4 AL H5))
def Hv(tn:B6)(ix:B5)(wi:TI)(g:TG)(tt:TT)(te:TE):TE:=λσ H Q=>wi σ H (ac0 tn ix g tt te σ Q)
variable {scope:vF}{env:Env}
theorem Hl(h:∀x∈scope.names,x.2= .free->∃c,env.cells.lookup x.1=some c) :
 ∃cl,zd scope env=pure cl/\(∀x c,cl.lookup x=some c->env.cells.lookup x=some c)/\∀x∈scope.names,x.2= .free->∃c,cl.lookup x.1=some c:=by
 have all:∀(l:List (Str×kH)) (AL:B1),(∀x∈l,x.2= .free->∃c,env.cells.lookup x.1=some c)->(∀x c,AL.lookup x=some c->env.cells.lookup x=some c) ->
  ∃cl,(forIn l AL λ(x:Str×kH) (r:B1)=>(if (x.2 == kH.free)=true then (do let a <- cellOf env x.1;pure (om ((x.1,a)::r))) else pure (om r):Sem (ForInStep B1)))=pure cl /\
   (∀x c,cl.lookup x=some c->env.cells.lookup x=some c)/\(∀x∈l,x.2= .free->∃c,cl.lookup x.1=some c)/\∀x,(∃c,AL.lookup x=some c)->∃c,cl.lookup x=some c:=by
  intro l
  induction l with
  | nil=>intro AL _ ha;exact ⟨AL,rfl,ha,λx hx=>absurd hx (by simp),λx hx=>hx⟩
  | cons y r ih=>
   intro AL hl ha;obtain ⟨n,k⟩:=y
   by_cases hk:k= .free
   . subst hk;obtain ⟨c,hc⟩:=hl (n,.free) (by simp) rfl;have ha':∀x c',xb x ((n,c)::AL)=some c'->env.cells.lookup x=some c':=λx c' e=>by
      rw[k8] at e
      cases hx:x == n with
      | true=>
       rw[hx] at e;have e1:=beq_iff_eq.mp hx;cases e;rw[e1];exact hc
      | false=>rw[hx] at e;exact ha x c' e
     obtain ⟨cl,e1,e2,e3,e4⟩:=ih ((n,c)::AL) (λx hx=>hl x (cc _ hx)) ha';have ec:cellOf env n=pure c:=by rw[cellOf,hc]
     refine ⟨cl,?_,e2,λx hx hf=>?_,λx ⟨c',hc'⟩=>?_⟩
     . rw[zD];simp only[ec,beq_self_eq_true,pure_bind];exact e1
     . rcases cp.mp hx with rfl | hx
       . exact e4 n ⟨c,by simp⟩
       . exact e3 x hx hf
     . refine e4 x ?_;rw[k8]
       cases x == n with
       | true=>exact ⟨c,rfl⟩
       | false=>exact ⟨c',hc'⟩
   . have hb:(k == kH.free)=false:=by simpa using hk
     obtain ⟨cl,e1,e2,e3,e4⟩:=ih AL (λx hx=>hl x (cc _ hx)) ha;refine ⟨cl,?_,e2,λx hx hf=>?_,e4⟩
     . rw[zD];simp only[hb,Bool.false_eq_true,pure_bind];exact e1
     . rcases cp.mp hx with rfl | hx
       . exact absurd hf hk
       . exact e3 x hx hf
 obtain ⟨cl,e1,e2,e3,_⟩:=all scope.names [] h (λx c e=>by simp at e);refine ⟨cl,?_,e2,e3⟩;refine Eq.trans rfl ?_;have e0:=congrArg (· >>= pure) e1
 first
  | (exact e0)
  | exact e0.trans (pure_bind _ _)
theorem oG{env:Env}:∀{names:List (Str×kH)}{x:Str},names.lookup x=some .free ->
 (names.map λ(n,k)=>if (k == kH.free&&env.scope.kind == .function&&env.kindOf n == some .cell) then (n,mx) else (n,k)).lookup x=some .cell \/
 (names.map λ(n,k)=>if (k == kH.free&&env.scope.kind == .function&&env.kindOf n == some .cell) then (n,mx) else (n,k)).lookup x=some .free
 | [],_,h=>by simp at h
 | (n,k)::r,x,h=>by
  have ih:=@oG env r x;show xb x ((if (k == kH.free&&env.scope.kind == .function&&env.kindOf n == some .cell)=true then (n,mx) else (n,k))::_)=_\/xb x ((if (k == kH.free&&env.scope.kind == .function&&env.kindOf n == some .cell)=true then (n,mx) else (n,k))::_)=_
  cases hx:x == n with
  | true=>
   simp only[k8,hx] at h;cases h
   by_cases hc:(kH.free == kH.free&&env.scope.kind == .function&&env.kindOf n == some .cell)=true
   . rw[if_pos hc];exact .inl (by simp[k8,hx])
   . rw[if_neg hc];exact .inr (by simp[k8,hx])
  | false=>
   simp only[k8,hx] at h
   by_cases hc:(k == kH.free&&env.scope.kind == .function&&env.kindOf n == some .cell)=true
   . rw[if_pos hc];simp only[k8,hx];exact ih h
   . rw[if_neg hc];simp only[k8,hx];exact ih h
noncomputable def iU(X:Cx)(scope:vF)(ix:B5):Bool:=
 scope.kind == .function&&scope.names.all (λy=>scope.names.lookup y.1 == some y.2&&(y.2 != .free||(X.env.scope.names.lookup y.1 == some .cell||X.env.scope.names.lookup y.1 == some .free))&&(y.2 != .local||scope.names.lookup y.1 == some .local)) &&
 ix.all λi=>match X.N[i]? with
  | some x=>scope.names.lookup x == some .free
  | none=>false
structure Jq (X:Cx) (scope:vF) (ix:B5):Prop where
 kind:scope.kind= .function
 one:∀y∈scope.names,scope.names.lookup y.1=some y.2
 free:∀y∈scope.names,y.2= .free->X.env.scope.names.lookup y.1=some .cell\/X.env.scope.names.lookup y.1=some .free
 loc:∀y∈scope.names,y.2= .local->scope.names.lookup y.1=some .local
 ix:∀i∈ix,∃x,X.N[i]?=some x/\scope.names.lookup x=some .free
theorem iU.of{ix:B5}(h:iU X scope ix=true):Jq X scope ix:=by
 unfold iU at h;rw[eh,eh] at h;obtain ⟨⟨h1,h2⟩,h3⟩:=h;rw[fS] at h2 h3;have g:∀y∈scope.names,(scope.names.lookup y.1=some y.2/\(y.2= .free->X.env.scope.names.lookup y.1=some .cell\/X.env.scope.names.lookup y.1=some .free))/\(y.2= .local->scope.names.lookup y.1=some .local):=λy hy=>by
  have q:=h2 y hy;rw[eh,eh,uk,uk,uk] at q;obtain ⟨⟨q1,q2⟩,q3⟩:=q;refine ⟨⟨by simpa using q1,λe=>?_⟩,λe=>?_⟩
  . rcases q2 with q2 | q2 | q2
    . exact absurd e (by simpa using q2)
    . exact .inl (by simpa using q2)
    . exact .inr (by simpa using q2)
  . rcases q3 with q3 | q3
    . exact absurd e (by simpa using q3)
    . simpa using q3
 refine ⟨by simpa using h1,λy hy=>(g y hy).1.1,λy hy=>(g y hy).1.2,λy hy=>(g y hy).2,λi hi=>?_⟩;have q:=h3 i hi
 cases e:X.N[i]? with
 | none=>rw[e] at q;cases q
 | some x=>rw[e] at q;exact ⟨x,rfl,by simpa using q⟩
variable {AK:A7}{σ:St}{H:Hp}{s:dy}
section
variable       {tn:B6}{ix:B5}{cl:B1}{C D:Addr}{fp:C2}{h₁:Heap}{tk:Nat}
theorem AQ.block(S:Jq X scope ix)(I:AQ X AK σ H s)(uM:∀x c,cl.lookup x=some c->(X.env.cells.lookup x=some c/\scope.names.lookup x≠some .cell)\/(scope.names.lookup x=some .cell/\s.heap.objs.size<=c/\c≠D/\h₁.IsCell c none))
 (hinj:∀x y c,cl.lookup x=some c->cl.lookup y=some c->scope.names.lookup x=some .cell->scope.names.lookup y=some .cell->x=y) (afj:∀x,scope.names.lookup x=some .cell->∃c,cl.lookup x=some c) (Wh:∀x∈scope.names,x.2= .free->∃c,cl.lookup x.1=some c)
 (hfp:∀b∈fp,uL X AK H b) (hfo:∀b∈fp,∃o,s.heap.get? b=some o) (old:∀b o,s.heap.get? b=some o->h₁.get? b=some o) (hD:s.heap.objs.size<=D) (hC:s.heap.objs.size<=C) (hDC:D≠C)
 (hd:h₁.get? D=some { cls:=.type "list",data:=.seq ([]:B8).toArray }) (hn:∃m,h₁.Ns C m) :
 AQ (X.comp scope tn ix cl C s H fp) [] (u9 tn ix σ) (AU H D (.lst [])) { s with heap:=h₁,toks:=tk }:=by
 have frD:=I.AY.fresh hD;have frC:=I.AY.fresh hC;have Qs:∀x c,X.env.cells.lookup x=some c->c<s.heap.objs.size:=λx c e=>by
  obtain ⟨v,q⟩:=I.cell x c e;exact q.lt
 have hcl:∀x c,scope.names.lookup x=some .free->cl.lookup x=some c->X.env.cells.lookup x=some c:=λx c hx e=>by
  rcases uM x c e with z | z
  . exact z.1
  . rw[hx] at z;cases z.1
 have ok:(X.comp scope tn ix cl C s H fp).Ok:=by
  refine ⟨I.ok.mod,S.kind,I.ok.glob,I.ok.blt,hC,λx y c h1 h2=>?_,λx hx=>?_,λx c h e=>?_,I.ok.hd,I.ok.frames,.inl rfl,λb hb=>⟨?_,λx c e=>?_⟩,I.bs,
   dc I.ok.bsz I.sz,λb o e hb=>?_,λb hb hf=>?_,I.stack,I.Ot,λP h=>I.base.nj _ _ (I.ok.tabs P h)⟩
  . rcases uM x c h1 with z1 | z1 <;> rcases uM y c h2 with z2 | z2
    . exact I.ok.inj x y c z1.1 z2.1
    . exact absurd (Qs x c z1.1) (AF.mpr z2.2.1)
    . exact absurd (Qs y c z2.1) (AF.mpr z1.2.1)
    . exact hinj x y c h1 h2 z1.1 z2.1
  . -- a cell or a free name of the block has AM cell
    have hx':=hx;have hm:∃k,(x,k)∈(scope.names.map λ(n,k)=>if (k == kH.free&&X.env.scope.kind == .function&&X.env.kindOf n == some .cell) then (n,mx) else (n,k))/\(k= .cell\/k= .free):=by
     rcases hx' with h | h
     . exact ⟨_,gx h,.inl rfl⟩
     . exact ⟨_,gx h,.inr rfl⟩
    obtain ⟨k,hm,hk⟩:=hm;obtain ⟨⟨n,k'⟩,hy,e⟩:=cf.mp hm
    dsimp only at e
    by_cases hc:(k' == kH.free&&X.env.scope.kind == .function&&X.env.kindOf n == some .cell)=true
    . rw[if_pos hc] at e;cases e;rw[eh,eh] at hc;exact Wh _ hy (by simpa using hc.1.1)
    . rw[if_neg hc] at e;cases e;rcases hk with hk | hk
      . exact afj _ (by rw[<- hk];exact S.one _ hy)
      . exact Wh _ hy hk
  . rcases uM x c e with z | z
    . have h:(scope.names.lookup x == some mx)=true:=h;exact absurd (by simpa using h) z.2
    . exact z.2.1
  . intro z;obtain ⟨o,e⟩:=hfo b hb;exact absurd (e8 (c8 e) (by rw[z];exact hC)) (hV _)
  . rcases uM x c e with z | z
    . exact (hfp b hb).2.2.2.2.1 x c z.1
    . intro y;obtain ⟨o,e'⟩:=hfo b hb;have q:=c8 e';rw[<- y] at q;exact absurd q (AF.mpr z.2.1)
  . rcases (hfp b hb).2.2.2.1 with z | z
    . exact I.ok.J3 b o e z
    . exact absurd (e8 (c8 (I.ok.bs b o e).1) z) (hV _)
  . rcases cp.mp (I.Cp b hf) with z | z
    . exact (hfp b hb).2.1 z
    . exact (hfp b hb).2.2.1 z
 refine ⟨ok,rfl,I.bare,Un.laid old hD frD,?_,λx c e=>?_,?_,λx c e=>?_,λp hp=>absurd (show p∈([]:A7) from hp) (by simp),?_,?_⟩
 . obtain ⟨m,hn⟩:=hn;refine ⟨m,hn,λi x v e1 e2 e3=>?_⟩;have hi:tn.length<=i:=by
    rcases gy i tn.length with hi | hi
    . have e2':(ax tn.length none++ix.map λi=>(σ[i]?).join)[i]?=some (some v):=e2;rw[cq (by simpa using hi),iO,if_pos hi] at e2';cases e2'
    . exact hi
   have e1':(tn++ix.map λi=>X.N.getD i Str.empty)[i]?=some x:=e1;have e2':(ax tn.length none++ix.map λi=>(σ[i]?).join)[i]?=some (some v):=e2;rw[b9 hi,br] at e1';rw[b9 (by simpa using hi),br,ck] at e2'
   cases ek:ix[i - tn.length]? with
   | none=>rw[ek] at e1';cases e1'
   | some k=>
    rw[ek] at e1' e2';have aeY:X.N.getD k Str.empty=x:=Option.some.inj e1';have O8:(σ[k]?).join=some v:=Option.some.inj e2';have e2s:σ[k]?=some (some v):=by
     cases q:σ[k]? with
     | none=>rw[q] at O8;cases O8
     | some o=>rw[q] at O8;have:o=some v:=O8;rw[this]
    obtain ⟨x',hx',hfx⟩:=S.ix k (eJ ek);have exx:x'=x:=by
     rw[<- aeY,ae,hx'];rfl
    subst exx;have hfr:=S.free _ (gx hfx) rfl;obtain ⟨m0,hn0,hl0⟩:=I.loc;obtain ⟨u,ru,lk⟩:=hl0 k x' v hx' e2s (.inr hfr);refine ⟨u,ru,?_⟩;rcases lk with ⟨kl,_⟩ | ⟨kc,c,ec,ic⟩
    . exfalso
      have kl':X.env.scope.names.lookup x'=some .local:=kl;rcases hfr with z | z <;> rw[z] at kl' <;> cases kl'
    . obtain ⟨c',ec'⟩:=Wh _ (gx hfx) rfl;have ecc:=by
       have q:=hcl x' c' hfx ec';rw[ec] at q;exact (Option.some.inj q).symm
      subst ecc;refine .inr ⟨oG hfx,c',ec',?_⟩;obtain ⟨o,ho,hdat⟩:=ic;exact ⟨o,old _ _ ho,hdat⟩
 . rcases uM x c e with z | z
   . obtain ⟨v,o,ho,hdat⟩:=I.cell x c z.1;exact ⟨v,o,old _ _ ho,hdat⟩
   . exact ⟨_,z.2.2.2⟩
 . show AU H D (.lst []) C=none;rw[aH (nL hDC)];exact frC
 . rcases uM x c e with z | z
   . rw[aH (fi (e8 (Qs x c z.1) hD))];exact I.j5 x c z.1
   . rw[aH z.2.2.1];exact I.AY.fresh z.2.1
 . exact I.AY.laid old hD ⟨kz _,[],0,.nil,hd⟩
 . show (u9 tn ix σ).length=(tn++ix.map λi=>X.N.getD i Str.empty).length;rw[u9,ai,ai,ck,af,af]
end
variable {prog:ia}{w:lI}{A:ke}{pos:Pos}
theorem JB{R:Result->dy->Prop}{s:dy}{elt target iter:Expr}{ifs:C1}{it AL:a9}(I:Nat->dy->Prop)
 (turn:∀n s,I n s->eI (eL prog w) A (pyNext it) (λr s₁=>match r with
  | none=>R (.ok .next) s₁
  | some v=>eI (eL prog w) A (zw target it v) (λ_ s₁'=>eI (eL prog w) A (assign target env v) (λ_ s₂=>
   eI (eL prog w) A (forIn ifs true λc r=>if r=true then do let ok <- isTrue c env (eval c env);pure (om ok) else pure (om r)) (λok s₃=>
    if ok=true then eI (eL prog w) A (eval elt env) (λx s₄=>
     eI (eL prog w) A (call (.builtin "list.append") [AL,x]) (λ_ s₅=>∃m,m<n/\I m s₅) (λ_ _=>False) s₄) (λ_ _=>False) s₃
    else ∃m,m<n/\I m s₃) (λ_ _=>False) s₂) (λ_ _=>False) s₁') (λ_ _=>False) s₁) (λ_ _=>False) s)
 (n:Nat) (h:I n s) :
 yB (eL prog w) A (.compLoop (.ListComp elt [⟨target,iter,ifs,0⟩] scope pos) 0 it AL env) R s:=by
 refine codeAny_loop rfl I (λn s hI=>?_) n h;refine wpAny_noted ?_;rw[compTurn_list];refine ag (wpAny_standAt (ag (ib (turn n s hI) (λr s₁ h₁=>?_) λ_ _ f=>f.elim)))
 cases r with
 | none=>exact bo h₁
 | some v=>
  refine ag (ib h₁ (λ_ s₁' h₁'=>?_) λ_ _ f=>f.elim);refine ag (ib h₁' (λ_ s₂ h₂=>ag (ib h₂ (λok s₃ h₃=>?_) λ_ _ f=>f.elim)) λ_ _ f=>f.elim)
  cases ok with
  | false=>exact bo ⟨rfl,h₃⟩
  | true=>
   exact ag (ag (ib h₃ (λx s₄ h₄=>ag (ib h₄ (λ_ s₅ h₅=>bo (bo ⟨rfl,h₅⟩)) λ_ _ f=>f.elim)) λ_ _ f=>f.elim))
variable {x:Str}{E:B2}{i:Nat}
section
variable       {tn:B6}{ix:B5}{elt tg iter:Expr}{ifs:C1}  {wi:TI}{g:TG}{tt:TT}{te:TE}{Q:VK}
theorem yu{c0:B1}:∀{l:List (Str×kH)}{n:Nat}{AL:B1},k7 n l (AL++c0)=k7 n l AL++c0
 | [],n,AL=>rfl
 | (y,k)::l,n,AL=>by
  unfold k7
  by_cases hk:(k == .cell)=true
  . rw[if_pos hk,if_pos hk];exact yu (AL:=(y,n)::AL)
  . rw[if_neg hk,if_neg hk];exact yu
theorem xK{c:Addr}:∀{l:List (Str×kH)}{n:Nat}{AL:B1},(x,c)∈k7 n l AL->(x,c)∈AL\/(x,mx)∈l
 | [],n,AL,h=>.inl h
 | (y,k)::l,n,AL,h=>by
  unfold k7 at h
  by_cases hk:(k == .cell)=true
  . rw[if_pos hk] at h;rcases xK h with z | z
    . rcases cp.mp z with e | z
      . cases e;exact .inr (by rw[show k=mx by simpa using hk];exact bX)
      . exact .inl z
    . exact .inr (cc _ z)
  . rw[if_neg hk] at h;rcases xK h with z | z
    . exact .inl z
    . exact .inr (cc _ z)
theorem Gn{x y:Str}{c:Addr}:∀{cs:B1},cs.Pairwise (λx y=>x.2≠y.2)->(x,c)∈cs->(y,c)∈cs->x=y
 | [],_,h,_=>nomatch h
 | z::cs,h,h1,h2=>by
  obtain ⟨h3,h4⟩:=mI.mp h;rcases cp.mp h1 with e1 | e1
  . rcases cp.mp h2 with e2 | e2
    . rw[<- e1] at e2;cases e2;rfl
    . rw[<- e1] at h3;exact (h3 (y,c) e2 rfl).elim
  . rcases cp.mp h2 with e2 | e2
    . rw[<- e2] at h3;exact (h3 (x,c) e1 rfl).elim
    . exact Gn h4 e1 e2
theorem Ue{M:Model}{globals:Addr}{cl:B1}{Q:Env->dy->Prop}
 (h:Q (newEnv scope s.heap.objs.size globals (k7 (s.heap.objs.size+1) scope.names cl) x none .none (some env) qk) { s with heap:=pushCells (s.heap.push { cls:=.type "dict",data:=.dict #[] }) scope.names }) :
 eI M A (newFunctionEnv scope globals cl [] x none .none (some env)) Q E s:=by
 refine ag (wpAny_alloc (ag (wpAny_layCells _ (λname kind cells=>by cases hkc:kind == mx <;> simp[hkc]) _ _ _ _ ?_)));rw[iS ..];exact ag (bo (bo h))
theorem Gp(S:Jq X scope ix)(hc:X.calm=true)(hi:PI X tg iter wi)
 (hg:∀cl C s₂ H₂ fp,PG (X.comp scope tn ix cl C s₂ H₂ fp) tg g) (ht:∀cl C s₂ H₂ fp,sy (X.comp scope tn ix cl C s₂ H₂ fp) ifs tt) (he:∀cl C s₂ H₂ fp,PE (X.comp scope tn ix cl C s₂ H₂ fp) elt te)
 {P:a9->Addr->Result->dy->Prop} (I:AQ X AK σ H s) (h:Hv tn ix wi g tt te σ H Q)
 (hP:∀D C s' H',AQ X AK σ H' s'->(∃m,s'.heap.Ns C m)->uL X AK H' C->Q (.ref D) H'->P (.ref D) C (.ok .next) s') :
 ∃cl,zd scope X.env=pure cl/\eI (eL X.prog X.w) X.A (eval iter X.env) (λx s₁=>eI (eL X.prog X.w) X.A (pyIter x) (λit s₂=>eI (eL X.prog X.w) X.A (newList []) (λAL s₃=>
  eI (eL X.prog X.w) X.A (newFunctionEnv scope X.env.globals cl [] X.env.qual none .none (some X.env)) (λcenv s₄=>
   yB (eL X.prog X.w) X.A (.compStart (.ListComp elt [⟨tg,iter,ifs,0⟩] scope pos) 0 it AL { cenv with scope:=relabel scope X.env }) (P AL cenv.locals) s₄) X.xe s₃) X.xe s₂) X.xe s₁) X.xe s:=by
 obtain ⟨cl,hcl,hc1,hc2⟩:=Hl λx hx hf=>I.ok.has x.1 (S.free x hx hf);refine ⟨cl,hcl,thn (hi AK s σ H _ I h) λv s1 h1=>thn h1 λitv s2 h2=>?_⟩;obtain ⟨it,fp,tnn,J,H2,e,I2,T,st2,f2,R⟩:=h2;subst e;refine lP (Ue ?_);generalize hHH:s2.heap.push { cls:=.type "list",dict:=none,data:=.seq ([]:B8).toArray }=HH;have hCs:HH.objs.size=s2.heap.objs.size+1:=by rw[<- hHH,iS]
 have hDC:s2.heap.objs.size≠HH.objs.size:=by rw[hCs];exact fi (sP _)
 have hCle:s2.heap.objs.size<=HH.objs.size:=by rw[hCs];exact Nat.le_succ _
 have XX:∀b o,HH.get? b=some o->(pushCells (HH.push { cls:=.type "dict",data:=.dict #[] }) scope.names).get? b=some o:=λb o e=>pushCells_keeps _ _ b o (aE _ e);have hns₁:(pushCells (HH.push { cls:=.type "dict",data:=.dict #[] }) scope.names).Ns HH.objs.size (λ_=>none):=(Heap.Ns.new HH (.type "dict")).keeps (pushCells_keeps _ _);have okc:=cellsFrom_ok scope.names (HH.push { cls:=.type "dict",data:=.dict #[] }) (HH.objs.size+1) [] ⟨λ_ _ hm=>(nomatch hm),xt.nil⟩ (by rw[iS];exact ay _);rw[iS] at okc;have eCL:k7 (HH.objs.size+1) scope.names cl=k7 (HH.objs.size+1) scope.names []++cl:=yu (AL:=[]);have spl:∀x c,(k7 (HH.objs.size+1) scope.names cl).lookup x=some c->(scope.names.lookup x=some .cell/\(x,c)∈k7 (HH.objs.size+1) scope.names [])\/(cl.lookup x=some c/\scope.names.lookup x≠some .cell):=λx c e=>by
  rw[eCL,List.lookup_append] at e
  cases q:(k7 (HH.objs.size+1) scope.names []).lookup x with
  | none=>
   rw[q] at e;refine .inr ⟨e,λz=>?_⟩;have:=og scope.names (HH.objs.size+1) [] (.inl z);rw[q] at this;cases this
  | some d=>
   rw[q] at e;have e:=e;cases e;have m:=gx q;rcases xK m with z | z
   . nomatch z
   . exact .inl ⟨S.one _ z,m⟩
 have has:∀x,scope.names.lookup x=some .cell\/(cl.lookup x).isSome=true->∃c,(k7 (HH.objs.size+1) scope.names cl).lookup x=some c:=λx z=>iE.mp (og scope.names (HH.objs.size+1) cl z);generalize hCL:k7 (HH.objs.size+1) scope.names cl=CL at spl has ⊢;generalize hh1:pushCells (HH.push { cls:=.type "dict",data:=.dict #[] }) scope.names=h₁ at XX hns₁ okc ⊢;have old:=λb o e=>XX b o (hHH ▸ aE _ e);have hacc:=XX _ _ (hHH ▸ c6 _ rfl);have hfo:∀b∈fp,∃o,s2.heap.get? b=some o:=λb hb=>let ⟨o,e,_⟩:=T.obj _ _ st2 b hb;⟨o,e⟩;obtain ⟨W,⟨m0,w0⟩,turn⟩:=R s2.heap.objs.size (I2.AY.fresh (ay _));have uM:∀x c,CL.lookup x=some c->(X.env.cells.lookup x=some c/\scope.names.lookup x≠some .cell)\/(scope.names.lookup x=some .cell/\s2.heap.objs.size<=c/\c≠s2.heap.objs.size/\h₁.IsCell c none):=λx c e=>by
  rcases spl x c e with ⟨z,m⟩ | ⟨z,m⟩
  . obtain ⟨q1,q2⟩:=okc.empty x c m;rw[hCs] at q2;exact .inr ⟨z,by lia,λy=>by rw[y] at q2;lia,q1⟩
  . exact .inl ⟨hc1 x c z,m⟩
 have J0:AQ (X.comp scope tn ix CL HH.objs.size s2 H2 fp) [] (u9 tn ix σ) (AU H2 s2.heap.objs.size (.lst [])) { s2 with heap:=h₁,toks:=s2.toks }:=
  AQ.block S I2 uM (λx y c e1 e2 k1 k2=>by
   rcases spl x c e1 with ⟨_,m1⟩ | ⟨_,m1⟩
   . rcases spl y c e2 with ⟨_,m2⟩ | ⟨_,m2⟩
     . exact Gn okc.apart m1 m2
     . exact absurd k2 m2
   . exact absurd k1 m1) (λx z=>has x (.inl z)) (λx hx hf=>by
   obtain ⟨c,e⟩:=hc2 x hx hf;exact has x.1 (.inr (by rw[e];rfl))) f2 hfo old (ay _) hCle hDC hacc ⟨_,hns₁⟩
 have stat:∀{H':Hp},(∀b∈fp,H' b=none)->∀b∈fp,uL (X.comp scope tn ix CL HH.objs.size s2 H2 fp) [] H' b:=λhn b hb=>by
  refine ⟨hn b hb,λz=>?_,λz=>?_,.inl hb,λx c e=>?_,λp hp=>absurd (show p∈([]:A7) from hp) (by simp)⟩
  . obtain ⟨o,e⟩:=hfo b hb;exact absurd (e8 (c8 e) (by rw[z];exact hCle)) (hV _)
  . rcases cp.mp (I2.Cp b z) with z | z
    . exact (f2 b hb).2.1 z
    . exact (f2 b hb).2.2.1 z
  . rcases uM x c e with z | z
    . exact (f2 b hb).2.2.2.2.1 x c z.1
    . intro y;obtain ⟨o,e'⟩:=hfo b hb;have q:=c8 e';rw[<- y] at q;exact absurd q (AF.mpr z.2.1)
 have fp0:∀b∈fp,AU H2 s2.heap.objs.size (.lst []) b=none:=λb hb=>by
  obtain ⟨o,e⟩:=hfo b hb;rw[aH (fi (c8 e))];exact (f2 b hb).1
 have st1:=T.keep _ _ _ st2 λb hb o e=>old b o e;have loop:∀s₃:dy,s₃={ s2 with heap:=h₁,toks:=s2.toks } ->
  yB (eL X.prog X.w) X.A (.compLoop (.ListComp elt [⟨tg,iter,ifs,0⟩] scope pos) 0 (.ref it) (.ref s2.heap.objs.size) (compEnvC scope CL HH.objs.size X.env)) (P (.ref s2.heap.objs.size) HH.objs.size) s₃:=by
  rintro s₃ rfl;refine JB (λn s'=>∃i σ' AL H',AQ (X.comp scope tn ix CL HH.objs.size s2 H2 fp) [] σ' H' s'/\tnn i s'.heap/\(∀b∈fp,H' b=none)/\W i n σ' AL H') ?_ m0 ⟨0,_,[],_,J0,st1,fp0,w0⟩;rintro n s3 ⟨i,σ3,AL,H3,I3,st3,fr3,w3⟩;obtain ⟨hD3,ways⟩:=turn i n σ3 AL H3 w3;rcases ways with ⟨stop,qn⟩ | ⟨go,hsz,step⟩
  . refine thn (T.done (X.comp scope tn ix CL HH.objs.size s2 H2 fp) rfl rfl rfl hc i [] s3 σ3 H3 _ I3 (stat fr3) st3 stop) λr s4 az=>?_;obtain ⟨hr,I4⟩:=az;subst hr;have I5:=I2.call' I4.os I4.base I4.AY I4.bare λb hb=>⟨(f2 b hb).2.2.2.1,(f2 b hb).2.1,(f2 b hb).2.2.2.2.1,(f2 b hb).2.2.2.2.2⟩;obtain ⟨m4,hn4,_⟩:=I4.loc;exact hP _ _ s4 H3 I5 ⟨m4,hn4⟩ (I2.sS hCle I4.free) qn
  . refine thn (T.item (X.comp scope tn ix CL HH.objs.size s2 H2 fp) rfl rfl rfl hc i [] s3 σ3 H3 _ I3 (stat fr3) st3 go) λr s4 az=>?_;obtain ⟨u,hr,h4⟩:=az;subst hr;refine thn h4 λ_ s5 az=>?_;obtain ⟨x,H5,I5,r5,y5,st5,fr5⟩:=az;have I5':=I5.pinned (stat fr5) (T.obj _ _ st5);have back:∀{σ7:St}{H7:Hp}{s7:dy},AQ (X.comp scope tn ix CL HH.objs.size s2 H2 fp) ([]++xX fp s5.heap) σ7 H7 s7->AQ (X.comp scope tn ix CL HH.objs.size s2 H2 fp) [] σ7 H7 s7/\tnn (i+1) s7.heap/\∀b∈fp,H7 b=none:=λ{σ7 H7 s7} I7=>by
     refine ⟨I7.wH,T.keep _ _ _ st5 λb hb o e=>(I7.pin (b,o) (dn _ (dn _ (q8 hb e)))).1,λb hb=>?_⟩;obtain ⟨o,e,d⟩:=T.obj _ _ st5 b hb;exact (I7.pin (b,o) (dn _ (dn _ (q8 hb e)))).2.1
    refine thn (hg CL HH.objs.size s2 H2 fp _ s5 σ3 H5 x u _ I5' r5 (step x H5 y5)) λ_ s6 ⟨σ6,H6,I6,q6⟩=>thn (ht CL HH.objs.size s2 H2 fp _ s6 σ6 H6 _ I6 q6) λok s7 az=>?_;obtain ⟨H7,I7,q7⟩:=az
    cases ok with
    | false=>
     rw[if_neg eW] at q7 ⊢;obtain ⟨m',hm,w7⟩:=q7;obtain ⟨b1,b2,b3⟩:=back I7;exact ⟨m',hm,i+1,σ6,AL,H7,b1,b2,b3,w7⟩
    | true=>
     rw[if_pos rfl] at q7 ⊢;refine thn (he CL HH.objs.size s2 H2 fp _ s7 σ6 H7 _ I7 q7) λxv s8 ⟨v8,H8,I8,r8,hD8,m',hm,w8⟩=>thn (yQ _ s8 σ6 H8 (.ref s2.heap.objs.size) [v8] (.ref s2.heap.objs.size) [xv] (λ_ H9=>H9=AU H8 s2.heap.objs.size (.lst (AL++[v8]))) I8 rfl (.cons r8 .nil) ⟨_,AL,v8,rfl,rfl,hD8,hsz,rfl⟩) λ_ s9 az=>?_;obtain ⟨_,H9,I9,_,e9⟩:=az;subst e9;obtain ⟨b1,b2,b3⟩:=back I9;exact ⟨m',hm,i+1,σ6,AL++[v8],_,b1,b2,b3,w8⟩
 exact codeAny_compStart_list (loop _ rfl) (T.self X.A 0 _ _ _ st1 (loop _ rfl))
theorem aaB(S:iU X scope ix=true)(hc:X.calm=true)(hi:PI X tg iter wi)
 (hg:∀cl C s₂ H₂ fp,PG (X.comp scope tn ix cl C s₂ H₂ fp) tg g) (ht:∀cl C s₂ H₂ fp,sy (X.comp scope tn ix cl C s₂ H₂ fp) ifs tt) (he:∀cl C s₂ H₂ fp,PE (X.comp scope tn ix cl C s₂ H₂ fp) elt te)
 (hs:∀x,ja iter X.env x=pure x:=by intro _;rfl):PE X (.ListComp elt [⟨tg,iter,ifs,0⟩] scope pos) (Hv tn ix wi g tt te):=by
 intro AK s σ H Q I h;obtain ⟨cl,hcl,q⟩:=Gp (P:=λAL C=>compPost (eL X.prog X.w) X.A X.xe none (EP X AK σ Q) AL C) (iU.of S) hc hi hg ht he I h λD C s' H' I' ⟨m,hn⟩ f q=>by
  refine ⟨m,hn,λh' sb=>⟨.ref D,H',?_,rfl,q⟩⟩;exact I'.turned (λb o hb e=>sb.extBut b o hb e) f.1 f.2.1 f.2.2.2.1 f.2.2.2.2.1 f.2.2.2.2.2
 rw[eval_ListComp];exact wpAny_comprehension_free rfl hs hcl (iU.of S).kind (iU.of S).loc q
theorem Nt{y:Str}{py spos:Pos}(hN:X.N.Nodup)(hiN:X.N[i]?=some y)(hy:Loc X.env.scope y)(S:iU X scope ix=true)(hc:X.calm=true)(hi:PI X tg iter wi)
 (hg:∀cl C s₂ H₂ fp,PG (X.comp scope tn ix cl C s₂ H₂ fp) tg g) (ht:∀cl C s₂ H₂ fp,sy (X.comp scope tn ix cl C s₂ H₂ fp) ifs tt) (he:∀cl C s₂ H₂ fp,PE (X.comp scope tn ix cl C s₂ H₂ fp) elt te)
 (hsw:h9 (.ListComp elt [⟨tg,iter,ifs,0⟩] scope pos) (some (.Name y py)) spos.line X.env=pure true:=by rfl)
 (hf:X.fn y=true\/X.env.scope.names.lookup y=some .local:=by walk_at "hf")
 (hs:∀x,ja iter X.env x=pure x:=by intro _;rfl):PS X (.Assign [.Name y py] (.ListComp elt [⟨tg,iter,ifs,0⟩] scope pos) spos) (Qx (Hv tn ix wi g tt te) (CQ i)):=by
 intro AK s σ H E I h;rw[exec_Assign_Name_used _ _ _ _ hsw];refine ag (wpAny_standAt (ag ?_));obtain ⟨cl,hcl,q⟩:=Gp (P:=λAL C=>compPost (eL X.prog X.w) X.A X.xe (some (assign (.Name y py) X.env)) (λ_ s'=>SP X AK E .next s') AL C) (iU.of S) hc hi hg ht he I h λD C s' H' I' ⟨m,hn⟩ f q=>by
  refine wpAny_assign_Name (Ha (v:=.ref D) I' hN hiN hy rfl (λs2 I2 az=>?_) hf);obtain ⟨a,sb,ha⟩:=az;have hCa:C≠a:=by
   rcases ha with ha | ha
   . rw[ha];exact f.2.1
   . exact λz=>f.2.2.2.2.1 y a ha z.symm
  refine ⟨m,hn.sameBut sb hCa,λh' sb'=>⟨_,H',?_,q⟩⟩;exact I2.turned (λb o hb e=>sb'.extBut b o hb e) f.1 f.2.1 f.2.2.2.1 f.2.2.2.2.1 f.2.2.2.2.2
 refine ag (ib (wpAny_comprehension_free rfl hs hcl (iU.of S).kind (iU.of S).loc q) (λ_ s' hq=>bo (bo hq)) λ_ _ e=>e)
end
variable {K:aw}{H':Hp}{a:Addr}
theorem aF.fX{xs:C0}(e:aF H H')(h:SqT K H a xs):SqT K H' a xs:=by
 rcases h with (h | ⟨o,h⟩) | h
 . exact .inl (.inl (e _ _ h))
 . exact .inl (.inr ⟨o,e _ _ h⟩)
 . exact .inr h
theorem aF.new(h:H a=none)(o:HO):aF H (AU H a o):=λb u q=>by rw[aH (c7 q h)];exact q
theorem aF.up{o:HO}(s:aF H H')(h:H a=none):aF H (AU H' a o):=λb u q=>by rw[aH (c7 q h)];exact s b u q
mutual
def Is(K:aw)(H:Hp):ab->V->Prop
 | .none,v=>v= .non
 | .bool b,v=>v= .bl b
 | .int i,v=>v= .int i
 | .str x,v=>v= .str x
 | .list ds,v=>∃a vs,v= .ref a/\SqL K H a vs/\fj K H ds vs
 | .tuple ds,v=>∃a vs,v= .ref a/\SqT K H a vs/\fj K H ds vs
 | .dict _,_=>False
def fj(K:aw)(H:Hp):B4->C0->Prop
 | [],vs=>vs=[]
 | d::ds,vs=>∃v r,vs=v::r/\Is K H d v/\fj K H ds r
end
mutual
theorem Is.mono(e:aF H H'):∀(d:ab) {v:V},Is K H d v->Is K H' d v
 | .none,v,h=>h
 | .bool _,v,h=>h
 | .int _,v,h=>h
 | .str _,v,h=>h
 | .list ds,v,h=>by
  rw[Is] at h ⊢;obtain ⟨a,vs,h1,h2,h3⟩:=h;exact ⟨a,vs,h1,e.seq h2,fj.mono e ds h3⟩
 | .tuple ds,v,h=>by
  rw[Is] at h ⊢;obtain ⟨a,vs,h1,h2,h3⟩:=h;exact ⟨a,vs,h1,e.fX h2,fj.mono e ds h3⟩
 | .dict _,v,h=>h
theorem fj.mono(e:aF H H'):∀(ds:B4) {vs:C0},fj K H ds vs->fj K H' ds vs
 | [],vs,h=>h
 | d::ds,vs,h=>by
  rw[fj] at h ⊢;obtain ⟨v,r,h1,h2,h3⟩:=h;exact ⟨v,r,h1,Is.mono e d h2,fj.mono e ds h3⟩
end
mutual
theorem Is.reads(I:AQ X AK σ H s):∀(d:ab) {v:V}{u:a9},Is X.K H d v->AR v u->∃as,Reads s.heap u d as
 | .none,v,u,h,r=>by
  rw[Is] at h;subst h;cases r;exact ⟨_,.none⟩
 | .bool b,v,u,h,r=>by
  rw[Is] at h;subst h;cases r;exact ⟨_,.bool b⟩
 | .int i,v,u,h,r=>by
  rw[Is] at h;subst h;obtain ⟨t,rfl⟩:=r;exact ⟨_,.int i t⟩
 | .str x,v,u,h,r=>by
  rw[Is] at h;subst h;obtain ⟨t,rfl⟩:=r;exact ⟨_,.str x t⟩
 | .list ds,v,u,h,r=>by
  rw[Is] at h;obtain ⟨a,vs,rfl,h2,h3⟩:=h;cases r;obtain ⟨AM,rv,⟨o,n,e,c,_,d⟩,_⟩:=I.list h2;obtain ⟨as,q⟩:=fj.reads I ds h3 rv;exact ⟨_,.list e c d (by simpa using q)⟩
 | .tuple ds,v,u,h,r=>by
  rw[Is] at h;obtain ⟨a,vs,rfl,h2,h3⟩:=h;cases r;obtain ⟨AM,rv,⟨o,e,c,n,d⟩,_⟩:=I.tuple h2;obtain ⟨as,q⟩:=fj.reads I ds h3 rv;exact ⟨_,.tuple e c d (by simpa using q)⟩
 | .dict _,v,u,h,r=>by
  rw[Is] at h;exact h.elim
theorem fj.reads(I:AQ X AK σ H s):∀(ds:B4) {vs:C0}{us:B8},fj X.K H ds vs->AS vs us->∃as,ReadsAll s.heap us ds as
 | [],vs,us,h,r=>by
  rw[fj] at h;subst h;cases r;exact ⟨_,.nil⟩
 | d::ds,vs,us,h,r=>by
  rw[fj] at h;obtain ⟨v,rr,rfl,h2,h3⟩:=h
  cases r with
  | cons r1 r2=>
   obtain ⟨as,q⟩:=Is.reads I d h2 r1;obtain ⟨bs,q'⟩:=fj.reads I ds h3 r2;exact ⟨_,.cons q q'⟩
end
theorem qX:∀ns:B3,l8 (ns.map ab.int)=0
 | []=>by rw[fv,l8]
 | n::ns=>by rw[a8,l8,ab.depth,qX ns];rfl
def afd(K:aw):R2:=λx y H Q=>∃d e,Is K H d x/\Is K H e y/\eK d=true/\eK e=true/\Q (.bl (fw d e)) H
def afW(K:aw):R2:=λx y H Q=>∃d e,Is K H d x/\Is K H e y/\eK d=true/\eK e=true/\Q (.bl (!fw d e)) H
theorem abX(hu:X.A.units+64<kb):OpR X (gu .Eq) (afd X.K):=by
 rintro AK s σ H x y v u Q I rx ry ⟨d,e,h1,h2,h3,h4,q⟩;obtain ⟨as,r1⟩:=Is.reads I d h1 rx;obtain ⟨bs,r2⟩:=Is.reads I e h2 ry;exact eq_dataH r1 r2 h3 h4 hu ⟨.bl (fw d e),H,I,rfl,q⟩
theorem ab1(hu:X.A.units+64<kb):OpR X (gu .NotEq) (afW X.K):=by
 rintro AK s σ H x y v u Q I rx ry ⟨d,e,h1,h2,h3,h4,q⟩;obtain ⟨as,r1⟩:=Is.reads I d h1 rx;obtain ⟨bs,r2⟩:=Is.reads I e h2 ry;exact ne_dataH r1 r2 h3 h4 hu ⟨.bl (!fw d e),H,I,rfl,q⟩
def Zy:V->C0->Hp->VK->Prop:=λx vs H Q=>∃(l:Addr) (xs:C0) (i:Int) (y:V),x= .ref l/\vs=[.int i,y]/\H l=some (.lst xs)/\0<=i/\i<=xs.length/\xs.length<1000/\Q .non (AU H l (.lst (xs.take i.toNat++y::xs.drop i.toNat)))
theorem abu{k:Int}(h0:0<=k)(h1:k<1000):¬ (!mM k)=true:=by
 have h:mM k=true:=by
  rw[mM,eh];exact ⟨decide_eq_true (by lia),decide_eq_true (by lia)⟩
 rw[h];decide
theorem Uu:MtM X "list.insert" Zy:=by
 rintro AK s σ H x vs v us Q I rx rv ⟨l,xs,i,y,rfl,rfl,hH,h0,hi,hz,q⟩;cases rx;obtain ⟨u0,u,rfl,r0,ru⟩:=AS.two rv;obtain ⟨t0,rfl⟩:=r0;have hf:=abu h0 (show i<1000 by lia);obtain ⟨z,AM,n,r,hl,e⟩:=I.Oz hH;have hsz:AM.toArray.size<=bE:=by rw[cK,<- hl];exact z
 refine y8 F.slot_list_insert ⟨_,e,rfl⟩ F.entry_list_insert (F.args_list_insert_3 _ _ _) (AutoSeq1.list_insert_list_int_val_1 l AM.toArray n i t0 u hf hsz) ⟨e,?_⟩;refine ⟨.non,_,I.Q4 (its':=AM.take i.toNat++u::AM.drop i.toNat) hH e ?_ ?_ ?_,rfl,q⟩
 . have hn:¬ i<0:=by lia
   have hm:min i.toNat AM.toArray.size=i.toNat:=by rw[cK];lia
   rw[if_neg hn,hm];apply Array.ext';simp[ij]
 . exact (r.take i.toNat).append (.cons ru (r.drop i.toNat))
 . rw[ai,bt,dr,nV];exact ka (Uk (by lia))
noncomputable def Itv(K:aw)(a:Addr)(n:Nat):It:=
 ⟨λi H=>i<n/\∃xs x,SqL K H a xs/\xs[n - 1 - i]?=some x,λi H x H'=>H'=H/\∀xs,SqL K H a xs->xs[n - 1 - i]?=some x,λi _=>i=n⟩
variable {P:ia}
theorem Vs{tg:Expr}(a it:Addr)(n:Nat):Turn P w K tg (Itv K a n) [it] it (λi h=>h.IsRevIter it a ((n:Int) - 1 - (i:Nat))) where
 mem:=by simp
 obj:=λi h st b hb=>by
  have e:=by simpa using hb
  subst e;obtain ⟨o,e,c,d⟩:=st;exact ⟨o,e,λv z=>by rw[d] at z;cases z⟩
 keep:=λi h h' st k=>st.at λo e=>k it (by simp) o e
 item:=by
  intro X hP hw hK hc i AK s σ H E I hf st hg;subst hP hw hK;obtain ⟨hi,xs,x,hq,hx⟩:=hg;obtain ⟨AM,rv,p,hz⟩:=I.list hq;obtain ⟨u,hu,ru⟩:=rv.get hx;obtain ⟨f0,f1,f2,f3,f4,f5⟩:=hf it (by simp);have e:n - 1 - i=((n - 1 - i:Nat):Int):=by lia
  rw[e] at st;refine wpAny_pyNext_rev_item st p.isList (by simpa using hu) λh' st' sb=>?_;have e2:((n - 1 - i:Nat):Int) - 1=n - 1 - ((i+1:Nat):Int):=by lia
  rw[e2] at st';have I1:=I.turned (t':=s.toks) (λb o hb e=>(sb.2 b hb).trans e) f0 f1 f3 f4 f5;obtain ⟨o,e,c,d⟩:=id st';exact ⟨u,rfl,zG e c d (by decide) ⟨x,H,I1,ru,⟨rfl,λys hy=>by rw[I.wI hy hq];exact hx⟩,st',λb hb=>(hf b hb).1⟩⟩
 done:=by
  intro X hP hw hK hc i AK s σ H E I hf st hg;subst hP hw hK;have hg':=hg;subst hg';obtain ⟨f0,f1,f2,f3,f4,f5⟩:=hf it (by simp);have e:(i:Int) - 1 - i= -1:=by lia
  rw[e] at st;exact wpAny_pyNext_rev_end (I.ok.hd hc) st λh' eb=>⟨rfl,I.turned (λb o hb e=>eb b o hb e) f0 f1 f3 f4 f5⟩
 self:=λ_ _ _ _ _ st h=>wpAny_pyIter_revIter st h
section
variable  {tg:Expr}
def afw(K:aw)(ta:TA):TI:=λσ H R=>ta σ H λvs H1=>∃a xs,vs=[.ref a]/\SqL K H1 a xs/\R (Itv K a xs.length) H1
theorem acg{a:Expr}{ta:TA}{p:Pos}(hg:Gl X "reversed")(hm:X.mg "reversed"= none)(ha:PA X [a] ta)(hs:d5 [a] X.env=[(false,eval a X.env)]:=by rfl):PI X tg (.Call (.Name "reversed" p) [a] [] pos) (afw X.K ta):=by
 intro AK s σ H R I h;refine Call_ (nZ I hg hm boot_reversed (iF (thn (ha pos AK s σ H _ I h) λus s1 az=>?_) hs rfl));obtain ⟨vs,H1,I1,r1,q1⟩:=az;obtain ⟨l,xs,e,hq,q⟩:=q1;subst e;obtain ⟨u,rfl,ru⟩:=AS.one r1;cases ru;obtain ⟨AM,rv,pl,hz⟩:=I1.list hq;refine call_reversed_list pl.isList ?_;have hit:(s1.heap.push (revObj l ((AM.toArray.size:Int) - 1))).IsRevIter s1.heap.objs.size l (xs.length - 1 - (0:Int)):=by
  have e1:(AM.toArray.size:Int) - 1=xs.length - 1 - (0:Int):=by
   have:=rv.length;rw[cK];lia
  rw[e1];exact ⟨_,c6 _ rfl,rfl,rfl⟩
 refine wpAny_pyIter_revIter hit (⟨s1.heap.objs.size,[s1.heap.objs.size],_,_,H1,rfl,I1.kept λb o e=>aE _ e,Vs l _ xs.length,hit,λb hb=>?_,q⟩);have e:=by simpa using hb
 subst e;exact I1.sS (ay _) (I1.AY.fresh (ay _))
end
noncomputable def Ite(K:aw)(a:Addr):It:=
 ⟨λi H=>∃xs x,SqL K H a xs/\xs[i]?=some x,λi H x H'=>∃p v,H p=none/\x= .ref p/\H'=AU H p (.tup [.int (i:Nat),v])/\∀xs,SqL K H a xs->xs[i]?=some v,λi H=>∃xs,SqL K H a xs/\xs.length<=i⟩
variable {y:V}{u:a9}
theorem AQ.zM{h2:Heap}{tk:Nat}{fp:C2}{x:V}{v:a9}{ob:Obj}(I:AQ X AK σ H s)(hf:∀b∈fp,uL X AK H b)
 (k3:∀c o,s.heap.get? c=some o->c∉fp->h2.get? c=some o) (hN:h2.get? s.heap.objs.size=some ob) (ho:ob.cls= .type "tuple") (hd:ob.data= .seq #[u,v] 0) (ru:AR x u) (rv:AR y v) :
 AQ X AK σ (AU H s.heap.objs.size (.tup [x,y])) { s with heap:=h2,toks:=tk }:=by
 have hnew:=I.AY.fresh (ay s.heap.objs.size);have ge:∀c o,H c=some o->c∉fp:=λc o q hc=>by rw[(hf c hc).1] at q;cases q
 have nb:∀b o,s.heap.get? b=some o->b≠s.heap.objs.size:=λb o q=>fi (c8 q);refine I.call' (ch:=fp) (s':={ s with heap:=h2,toks:=tk }) rfl ⟨λb o q n _ hc=>k3 b o q hc,λb o q n _ hc=>⟨o.slots,k3 b o q hc⟩,λb o q n hc=>by rw[aH (nb b o q)];exact n,λb o q hc=>⟨o,k3 b o q hc⟩,λb ys q=>?_,λb o y q=>?_,λb ps q=>?_⟩ (λb o q=>?_) I.bare λb hb=>?_
 . rw[aH (c7 q hnew)];exact q
 . rw[aH (c7 q hnew)];exact q
 . rw[aH (c7 q hnew)];exact q
 . by_cases hb:b=s.heap.objs.size
   . subst hb;rw[aU] at q;cases q;exact ⟨by show 2<=bE;decide,[u,v],.cons ru (.cons rv .nil),⟨ob,hN,ho,0,hd⟩⟩
   . rw[aH hb] at q;refine (I.AY b o q).stay (λc w hc q'=>?_) (λc q'=>by rw[aH (c7 q' hnew)];exact q') λc ys q'=>by rw[aH (c7 q' hnew)];exact q'
     rcases hc with rfl | hc
     . exact k3 c w q' (ge c _ q)
     . exact k3 c w q' (ge c _ hc)
 . obtain ⟨f0,f1,f2,f3,f4,f5⟩:=hf b hb;exact ⟨f3,f1,f4,f5⟩
variable {elts:C1}{tpos:Pos}
theorem RK{x1}(a e it:Addr)(hne:e≠it) :
 Turn P w K (.Tuple elts x1 tpos) (Ite K a) [e,it] e (λi h=>(∃old,IsEnum h e it (i:Nat) old)/\h.IsListIter it a i) where
 mem:=by simp
 obj:=λi h st b hb=>by
  obtain ⟨⟨old,he⟩,o,ho,c,d⟩:=st;have hb':b=e\/b=it:=by simpa using hb
  rcases hb' with rfl | rfl
  . exact ⟨_,he,λv z=>by cases z⟩
  . exact ⟨o,ho,λv z=>by rw[d] at z;cases z⟩
 keep:=λi h h' st k=>by
  obtain ⟨⟨old,he⟩,hl⟩:=st;exact ⟨⟨old,k e (by simp) _ he⟩,hl.at λo q=>k it (by simp) o q⟩
 item:=by
  intro X hP hw hK hc i AK s σ H E I hf st hg;subst hP hw hK;obtain ⟨⟨old,he⟩,hit⟩:=st;obtain ⟨xs,x,hq,hx⟩:=hg;obtain ⟨AM,rv,p,hz⟩:=I.list hq;obtain ⟨u,hu,ru⟩:=rv.get hx;obtain ⟨f0,f1,f2,f3,f4,f5⟩:=hf e (by simp);obtain ⟨g0,g1,g2,g3,g4,g5⟩:=hf it (by simp);refine wpAny_pyNext_enum_item he hit p.isList (x:=u) (by simpa using hu) hne λh' he' hit' ht' hz' hk'=>?_;refine ⟨_,rfl,?_⟩;refine wpAny_letOwnedTupleGo_enum (s:={ s with heap:=h',toks:=s.toks+1 }) he' λh2 he2 sb2=>?_;have hnew:H s.heap.objs.size=none:=I.AY.fresh (ay _);have hpe:s.heap.objs.size≠e:=rl (c8 he);have ht2:h2.get? s.heap.objs.size=some { cls:=.type "tuple",data:=.seq #[.int (i:Nat) s.toks,u] }:=sb2.extBut _ _ hpe ht';have k2:∀b o,b≠e->b≠it->s.heap.get? b=some o->h2.get? b=some o:=λb o b1 b2 q=>sb2.extBut b o b1 (hk' b o b1 b2 q);have hit2:h2.IsListIter it a (i+1):=hit'.extBut sb2.extBut (nL hne);have I2:=I.zM (tk:=s.toks+1) (x:=.int (i:Nat)) hf (λc o q hc=>k2 c o (λz=>hc (by simp[z])) (λz=>hc (by simp[z])) q) ht2 rfl rfl ⟨_,rfl⟩ ru;refine ⟨.ref s.heap.objs.size,_,I2,rfl,⟨_,x,hnew,rfl,rfl,λys hy=>by rw[I.wI hy hq];exact hx⟩,⟨⟨u,?_⟩,hit2⟩,λb hb=>?_⟩
  . have e3:(((i+1:Nat)):Int)=(i:Int)+1:=by lia
    rw[e3];exact he2
  . have hb':b=e\/b=it:=by simpa using hb
    rcases hb' with rfl | rfl
    . rw[aH (nL hpe)];exact f0
    . obtain ⟨o,ho,_⟩:=hit;rw[aH (fi (c8 ho))];exact g0
 done:=by
  intro X hP hw hK hc i AK s σ H E I hf st hg;subst hP hw hK;obtain ⟨⟨old,he⟩,hit⟩:=st;obtain ⟨xs,hq,hx⟩:=hg;obtain ⟨AM,rv,p,hz⟩:=I.list hq;obtain ⟨g0,g1,g2,g3,g4,g5⟩:=hf it (by simp);have hl:=rv.length;exact wpAny_pyNext_enum_end (I.ok.hd hc) he hit p.isList (by simp;lia) λh' eb=>⟨rfl,I.turned (t':=s.toks) (λb o hb e=>eb b o hb e) g0 g1 g3 g4 g5⟩
 self:=λ_ _ _ _ _ st h=>let ⟨⟨_,he⟩,_⟩:=st;rV he h
structure At (K:aw) (mg:Str->B7) (x:Str) (st:Stmt) (ps:B6):Prop where
 ex:∃f fd,Fun K x x st f fd/\Binds K fd ps []/\mg x=some (.ref f)
structure Def (P:ia) (w:lI) (K:aw) (mg:Str->B7) (base:Heap) (k:Nat) (x:Str) (ps:B6) (sp:Sp):Prop where
 ex:∃f fd,sJ P w K mg base CX0 k f fd ps sp/\Binds K fd ps []/\lx K (.ref f)=true/\mg x=some (.ref f)
variable {ps:B6}
section
variable    {mg:Str->B7}{base:Heap}
theorem At.ok{st:Stmt}{N:B6}{sp:Sp}(F:At K mg x st ps)(S:cX N ps (aN st))(len:∀vs H Q E,sp vs H Q E->vs.length=ps.length)
 (hbody:∀(f:Addr) (AN:a9) (A:ke) (BA:C6) (s:dy) (H:Hp) (vs:C0) (Q:VK) (E:XK),dF i (A.deeper (oD x (aN st) s.heap.objs.size f AN))->sp vs H Q E ->
  ∃t,PSs (mL CX0 P w K mg base N x (aN st) f AN A BA s H E).nox (bR st) t/\t { nx:=λ_ H'=>Q .non H',rt:=Q } (start N vs) H):Def P w K mg base (i+1) x ps sp:=by
 obtain ⟨f,fd,F,b,m⟩:=F.ex;exact ⟨f,fd,F.ok S len (hbody f),b,F.kp,m⟩
theorem At.mk'{st:Stmt}{od an:C4}{osl:Array B7}{kV doc pm AN ct:a9}(m:mg x=some (.ref a))
 (l:K.lookup a=some ⟨u,od,.func (fb x x (cM st) (bR st) (aN st) .none kV doc pm an AN ct),osl⟩) (c:mE K AN x=true) (k:lx K (.ref a)=true)
 (h:∀(kV doc pm:a9) (an:C4) (AN ct:a9) (us:B8),us.length=ps.length->kG (fb x x (cM st) (bR st) (aN st) .none kV doc pm an AN ct) ⟨us,[]⟩=pure (ps.zip us)):At K mg x st ps:=
 ⟨a,_,J8 l c k,(J8 l c k).binds h,m⟩
end
section
variable  {k:Nat}   {sp:Sp}{p:Pos}{e:Expr}{es:C1}{t:TA}
theorem CK(F:Def X.prog X.w X.K X.mg X.base k x ps sp)(hr:dF k X.A)(hg:Gl X x)(ha:PA X (e::es) t)(hdb:nD x:=by decide)
 (he:d5 (e::es) X.env=(false,eval e X.env)::d5 es X.env:=by rfl) (hpl:(nc pos (d5 es X.env)).any (·.1)=false:=by rfl):PE X (.Call (.Name x p) (e::es) [] pos) (Yo sp [] E0 t):=by
 obtain ⟨f,fd,F,b,kp,m⟩:=F.ex;exact Zw F hr hg m kp b .nil aey ha hdb he hpl
end
variable {it l:Addr}{Q:B2}{items AM:Array a9}
section
open Builtin Builtin.Str
theorem ji{items}{x:a9}(hit:s.heap.IsTupleIter it l i)
 (hl:s.heap.IsTuple l items) (hx:items[i]?=some x)
 (hQ:∀h',h'.IsTupleIter it l (i+1)->pe it s.heap h'->Q x { s with heap:=h' }) :
 eI (eL prog w) A (Builtin.SmallTypes.nextOf (.ref it)) Q E s:=by
 obtain ⟨o,ho,hc,hd⟩:=id hit;obtain ⟨ol,hol,_,nl,hdl⟩:=hl;refine ag (gE hit.typeIs mN
  (fR mN hit.typeIs F.entry_tuple_iterator_next ?_ (uu _)))
 show eI _ _ (field (.ref it) 0 >>= _) _ _ s;refine ag (jv ho hd rfl ?_);show eI _ _ (if (iN l == a9.none)=true then _ else _) _ _ s;rw[if_neg (show ¬ ((iN l == a9.none)=true) from eW)];refine ag (jv ho hd rfl (ag (fT hol hdl ?_)));simp only[cx,hx];refine ag (wpAny_setField ho hd (by simp) (bo ⟨x,rfl,bo (hQ _ ?_ (pz ..))⟩));exact ⟨_,Heap.get?_update_self _ ho (Obj.isFreed_of_fields (Obj.data_mapFields hd _)),(Obj.cls_mapFields ..).trans hc,by
  rw[Obj.data_mapFields hd];simp[ua]⟩
theorem jK{items}(hh:A.handled=none)
 (hit:s.heap.IsTupleIter it l i) (hl:s.heap.IsTuple l items) (hx:items[i]?=none)
 (hE:∀h' e,Heap.ExtBut it s.heap h'->(∃o,h'.get? e=some o/\o.cls= .type "StopIteration")->E (.ref e) { s with heap:=h' }) :
 eI (eL prog w) A (Builtin.SmallTypes.nextOf (.ref it)) Q E s:=by
 obtain ⟨o,ho,hc,hd⟩:=id hit;obtain ⟨ol,hol,_,nl,hdl⟩:=hl;refine ag (gE hit.typeIs mN
  (fR mN hit.typeIs F.entry_tuple_iterator_next ?_ (uu _)))
 show eI _ _ (field (.ref it) 0 >>= _) _ _ s;refine ag (jv ho hd rfl ?_);show eI _ _ (if (iN l == a9.none)=true then _ else _) _ _ s;rw[if_neg (show ¬ ((iN l == a9.none)=true) from eW)];refine ag (jv ho hd rfl (ag (fT hol hdl ?_)));simp only[cx,hx];refine ag (vT (ag (wpAny_setField ho hd (by simp) (ag ?_))));refine ag (lP ?_ (by size_fits));refine ag (wpAny_of_eq (by first | rfl | (rfl)) (lP ?_ (by size_fits)));refine ag (wpAny_handled ?_)
 first | rw[hh] | rw[hh]
 exact ag (bo (wpAny_throw (hE _ _ (((pz ..).extBut.push _).push _) ⟨_,c6 _ rfl,rfl⟩)))
theorem _root_.PySem.Draws.tuple(hh:A.handled=none)(it l:Addr)(hne:l≠it)(items:Array a9) :
 Draws prog w A it [it,l] items.size (λi v=>items[i]?=some v) (λi h=>h.IsTupleIter it l i/\h.IsTuple l items) where
 live:=λ_ _ st=>let ⟨o,ho,_⟩:=st.1;⟨o,ho⟩
 frame:=λ_ _ _ st hk=>⟨st.1.at λo e=>hk it (by simp) o e,let ⟨o,ho,r⟩:=st.2;⟨o,hk l (by simp) o ho,r⟩⟩
 item:=λi s Q E hi st hQ=>by
  exact ji st.1 st.2 (x:=items[i]) (by simp[hi]) λh' hit' hs'=>hQ _ h' s.toks (by simp[hi]) ⟨hit',let ⟨o,ho,r⟩:=st.2;⟨o,hs'.extBut l o hne ho,r⟩⟩ hs'
 done:=λs Q E st hE=>jK hh st.1 st.2 (by simp) hE
theorem uF{Q:B7->dy->Prop}(hh:A.in1.handled=none)
 (he:IsEnum s.heap a it i u) (hit:s.heap.IsTupleIter it l i) (hl:s.heap.IsTuple l items) (hx:items[i]?=none)
 (hQ:∀h',Heap.ExtBut it s.heap h'->Q none { s with heap:=h' }):eI (eL prog w) A (pyNext (.ref a)) Q E s:=by
 have hT:s.TypeIs (.ref a) "enumerate" := ⟨_,he,rfl⟩;refine ag (wpAny_attempt (gE hT F.slot_enumerate_next
  (fR F.slot_enumerate_next hT F.entry_enumerate_next ?_ (F.args_enumerate_next_1 _))))
 show eI _ _ (field (.ref a) 2 >>= _) _ _ _;refine ag (jv he rfl rfl (ag (jK hh hit hl hx λh' x he' hx'=>?_)));obtain ⟨o,ho,hc⟩:=hx';exact ag (pj ⟨o,ho,hc⟩ isSubtype_stop (bo (hQ _ he')))
open AutoSeq1 (wpAny_loadPart') in
theorem v9(l:Addr)(items:Array a9)(n:Nat)(dct:C4)(sl:Array B7) :
 Meets (Builtin.«enumerate.__new__» ⟨[.type "enumerate",.ref l],[]⟩) (λ_ R s=>s.heap.get? l=some { cls:=.type "tuple",dict:=dct,data:=.seq items n,slots:=sl } /\
  R (.ok (.ret (.ref (s.heap.push { cls:=.type "tuple_iterator",data:=.fields #[.ref l,.int 0 0] }).objs.size)))
   { s with heap:=(s.heap.push { cls:=.type "tuple_iterator",data:=.fields #[.ref l,.int 0 0] }).push { cls:=.type "enumerate",data:=.fields #[.none,.bool false,.ref s.heap.objs.size,ua 0,.none,.none] } }):=
 .of_wp λprog w A R s h=>by
  obtain ⟨hp,g,d,tk,os⟩:=s;obtain ⟨hl,h⟩:=h;have hsub:=sub_enumerate;have hL:Heap.IsTuple (Shared.heap ⟨hp,g,d,tk,os⟩) l items:=⟨_,hl,rfl,n,rfl⟩
  wp_walk using uS hl
  refine wpAny_stack_any λst=>bo ?_;split
  . rename_i c _ _ _ _ _;cases (c == l6 "enumerate")
    . wp_walk using uS hl,oi hL
      exact ⟨_,rfl,h⟩
    . wp_walk using uS hl,oi hL
      exact ⟨_,rfl,h⟩
  . wp_walk using uS hl,oi hL
    exact ⟨_,rfl,h⟩
theorem xm(hL:s.heap.IsTuple l items)
 (h:∀h',IsEnum h' (s.heap.objs.size+1) s.heap.objs.size 0 .none->h'.IsTupleIter s.heap.objs.size l 0->h'.objs.size=s.heap.objs.size+2 ->
  (∀b o,s.heap.get? b=some o->h'.get? b=some o)->Q (.ref (s.heap.objs.size+1)) { s with heap:=h' }) :
 eI (eL prog w) A (call (.type "enumerate") [.ref l]) Q E s:=by
 obtain ⟨⟨c,dct,dt,sl⟩,hl,hc,n,hd⟩:=hL;replace hc:c= .type "tuple" := hc;replace hd:dt= .seq items n:=hd;subst hc hd;refine callType_new F.called_enumerate (by decide) (F.typeCall_enumerate_1 _) (F.newCall_enumerate_1 _) (λobj=>F.args_object_init_2 obj _) F.entry_enumerate_new
  (v9 l items n dct sl) ⟨hl,?_⟩
 have hz:(s.heap.push { cls:=.type "tuple_iterator",data:=.fields #[.ref l,.int 0 0] }).objs.size=s.heap.objs.size+1:=iS ..
 rw[hz];have he:=by
  have:=c6 (s.heap.push { cls:=.type "tuple_iterator",data:=.fields #[.ref l,.int 0 0] })
   (o:={ cls:=.type "enumerate",data:=.fields #[.none,.bool false,.ref s.heap.objs.size,ua 0,.none,.none] }) rfl
  rwa [hz] at this
 refine ⟨⟨_,he,rfl⟩,h _ he ⟨_,aE _ (c6 _ rfl),rfl,rfl⟩ (by rw[iS,hz]) λb o x=>aE _ (aE _ x)⟩
theorem QM{h:Heap}(p:h.IsTuple a AM)(q:h.IsTupleIter it l i):a≠it:=by
 rintro rfl;obtain ⟨o,ho,c,_⟩:=p;obtain ⟨o',ho',c',_⟩:=q;rw[ho] at ho';cases ho';rw[c] at c';exact absurd c' (by decide)
theorem PB{h:Heap}{e:Addr}{i:Int}(p:h.IsTuple a AM)(q:IsEnum h e it i u):a≠e:=by
 rintro rfl;obtain ⟨o,ho,c,_⟩:=p;rw[q] at ho;cases ho;exact absurd c (by show ¬ (l6 "enumerate"= l6 "tuple");decide)
noncomputable def V9(K:aw)(a:Addr):It:=
 ⟨λi H=>∃xs x,SqT K H a xs/\xs[i]?=some x,λi H x H'=>∃p v,H p=none/\x= .ref p/\H'=AU H p (.tup [.int (i:Nat),v])/\∀xs,SqT K H a xs->xs[i]?=some v,λi H=>∃xs,SqT K H a xs/\xs.length<=i⟩
theorem QV{x1}(a e it:Addr)(hne:e≠it) :
 Turn P w K (.Tuple elts x1 tpos) (V9 K a) [e,it] e (λi h=>(∃old,IsEnum h e it (i:Nat) old)/\h.IsTupleIter it a i) where
 mem:=by simp
 obj:=λi h st b hb=>by
  obtain ⟨⟨old,he⟩,o,ho,c,d⟩:=st;have hb':b=e\/b=it:=by simpa using hb
  rcases hb' with rfl | rfl
  . exact ⟨_,he,λv z=>by cases z⟩
  . exact ⟨o,ho,λv z=>by rw[d] at z;cases z⟩
 keep:=λi h h' st k=>by
  obtain ⟨⟨old,he⟩,hl⟩:=st;exact ⟨⟨old,k e (by simp) _ he⟩,hl.at λo q=>k it (by simp) o q⟩
 item:=by
  intro X hP hw hK hc i AK s σ H E I hf st hg;subst hP hw hK;obtain ⟨⟨old,he⟩,hit⟩:=st;obtain ⟨xs,x,hq,hx⟩:=hg;obtain ⟨AM,rv,p,hz⟩:=I.tuple hq;obtain ⟨u,hu,ru⟩:=rv.get hx;obtain ⟨f0,f1,f2,f3,f4,f5⟩:=hf e (by simp);obtain ⟨g0,g1,g2,g3,g4,g5⟩:=hf it (by simp);have pt:s.heap.IsTuple a AM.toArray:=p;have nai:a≠it:=QM pt hit;have nae:a≠e:=PB pt he;refine wpAny_pyNext_enum_itemD (Draws.tuple (show X.A.in1.handled=none from I.ok.hd hc) it a nai AM.toArray) he ⟨hit,pt⟩ (by have:=rv.length;have:=(aS.mp hx).1;simp;lia) hne (by simp[hne,nL nae]) λu' h' tk hu' he' st' ht' hz' hk'=>?_;have eu:u'=u:=by
   have:AM[i]?=some u':=by simpa using hu'
   rw[hu] at this;exact (Option.some.inj this).symm
  subst eu;obtain ⟨hit',-⟩:=st';refine ⟨_,rfl,?_⟩;refine wpAny_letOwnedTupleGo_enum (s:={ s with heap:=h',toks:=tk+1 }) he' λh2 he2 sb2=>?_;have hnew:H s.heap.objs.size=none:=I.AY.fresh (ay _);have hpe:s.heap.objs.size≠e:=rl (c8 he);have ht2:h2.get? s.heap.objs.size=some { cls:=.type "tuple",data:=.seq #[.int (i:Nat) tk,u'] }:=sb2.extBut _ _ hpe ht';have k2:∀b o,b≠e->b≠it->s.heap.get? b=some o->h2.get? b=some o:=λb o b1 b2 q=>sb2.extBut b o b1 (hk' b o b1 b2 q);have hit2:h2.IsTupleIter it a (i+1):=hit'.extBut sb2.extBut (nL hne);have I2:=I.zM (tk:=tk+1) (x:=.int (i:Nat)) hf (λc o q hc=>k2 c o (λz=>hc (by simp[z])) (λz=>hc (by simp[z])) q) ht2 rfl rfl ⟨_,rfl⟩ ru;refine ⟨.ref s.heap.objs.size,_,I2,rfl,⟨_,x,hnew,rfl,rfl,λys hy=>by rw[I.xU hy hq];exact hx⟩,⟨⟨u',?_⟩,hit2⟩,λb hb=>?_⟩
  . have e3:(((i+1:Nat)):Int)=(i:Int)+1:=by lia
    rw[e3];exact he2
  . have hb':b=e\/b=it:=by simpa using hb
    rcases hb' with rfl | rfl
    . rw[aH (nL hpe)];exact f0
    . obtain ⟨o,ho,_⟩:=hit;rw[aH (fi (c8 ho))];exact g0
 done:=by
  intro X hP hw hK hc i AK s σ H E I hf st hg;subst hP hw hK;obtain ⟨⟨old,he⟩,hit⟩:=st;obtain ⟨xs,hq,hx⟩:=hg;obtain ⟨AM,rv,p,hz⟩:=I.tuple hq;obtain ⟨g0,g1,g2,g3,g4,g5⟩:=hf it (by simp);have hl:=rv.length;have pt:s.heap.IsTuple a AM.toArray:=p;exact uF (show X.A.in1.handled=none from I.ok.hd hc) he hit pt (by simp;lia) λh' eb=>⟨rfl,I.turned (t':=s.toks) (λb o hb e=>eb b o hb e) g0 g1 g3 g4 g5⟩
 self:=λ_ _ _ _ _ st h=>let ⟨⟨_,he⟩,_⟩:=st;rV he h
def acp(K:aw)(ta:TA):TI:=λσ H R=>ta σ H λvs H1=>∃a xs,vs=[.ref a]/\((SqL K H1 a xs/\R (Ite K a) H1)\/(SqT K H1 a xs/\R (V9 K a) H1))
theorem JR{x1}{a:Expr}{ta:TA}{p:Pos}(hg:Gl X "enumerate")(hm:X.mg "enumerate"= none)(ha:PA X [a] ta)(hs:d5 [a] X.env=[(false,eval a X.env)]:=by rfl) :
 PI X (.Tuple elts x1 tpos) (.Call (.Name "enumerate" p) [a] [] pos) (acp X.K ta):=by
 intro AK s σ H R I h;refine Call_ (nZ I hg hm (show fk "enumerate"= some (.type "enumerate") by decide +kernel) (iF (thn (ha pos AK s σ H _ I h) λus s1 az=>?_) hs rfl));obtain ⟨vs,H1,I1,r1,q1⟩:=az;obtain ⟨l,xs,e,q⟩:=q1;subst e;obtain ⟨u,rfl,ru⟩:=AS.one r1;cases ru;have hfp:∀b,b∈[s1.heap.objs.size+1,s1.heap.objs.size]->_:=λb hb=>by
  have hb':=by simpa using hb
  exact show s1.heap.objs.size<=b by lia
 rcases q with ⟨hq,q⟩ | ⟨hq,q⟩
 . obtain ⟨AM,rv,pl,hz⟩:=I1.list hq;refine call_enumerate_list pl.isList λh' he hit hz' k=>rV he ?_;exact ⟨s1.heap.objs.size+1,[s1.heap.objs.size+1,s1.heap.objs.size],_,_,H1,rfl,I1.kept k,RK l _ _ (Nat.succ_ne_self _),⟨⟨_,he⟩,hit⟩,λb hb=>I1.sS (hfp b hb) (I1.AY.fresh (hfp b hb)),q⟩
 . obtain ⟨AM,rv,pl,hz⟩:=I1.tuple hq;have pt:=pl;refine xm pt λh' he hit hz' k=>rV he ?_;exact ⟨s1.heap.objs.size+1,[s1.heap.objs.size+1,s1.heap.objs.size],_,_,H1,rfl,I1.kept k,QV l _ _ (Nat.succ_ne_self _),⟨⟨_,he⟩,hit⟩,λb hb=>I1.sS (hfp b hb) (I1.AY.fresh (hfp b hb)),q⟩
end
variable {o:Option V}
section
variable {κ:Type} [DecidableEq κ]
noncomputable def ik(kvs:List (κ×V))(k:κ):Option V:=(kvs.find? λkv=>decide (kv.1=k)).map (·.2)
noncomputable def putK(kvs:List (κ×V))(k:κ)(v:V):List (κ×V):=
 if (kvs.any λkv=>decide (kv.1=k))=true then kvs.map (λkv=>if kv.1=k then (kv.1,v) else kv) else kvs++[(k,v)]
noncomputable def tX(kvs:List (κ×V))(k:κ):List (κ×V):=kvs.filter λkv=>decide (kv.1≠k)
theorem pB{p:κ×V}{r:List (κ×V)}{k:κ}(e:p.1=k):ik (p::r) k=some p.2:=by simp[ik,iA,e]
theorem o8{p:κ×V}{r:List (κ×V)}{k:κ}(e:¬ p.1=k):ik (p::r) k=ik r k:=by simp[ik,iA,e]
theorem Bl(k:κ):∀kvs:List (κ×V),(kvs.any λkv=>decide (kv.1=k))=(ik kvs k).isSome
 | []=>rfl
 | p::r=>by
  rw[kF]
  by_cases e:p.1=k
  . simp only[pB e,decide_eq_true e,AH,Option.isSome_some]
  . rw[o8 e,decide_eq_false e,xw];exact Bl k r
theorem pJ(kvs:List (κ×V))(k:κ)(v:V):(putK kvs k v).length<=kvs.length+1:=by
 unfold putK;split
 . rw[af];lia
 . rw[ai,bt,l9];lia
theorem oM.kh{u:B7}(r:oM o u):o.isSome=u.isSome:=by
 cases o with
 | none=>cases u with
  | none=>rfl
  | some _=>exact (r).elim
 | some _=>cases u with
  | none=>exact (r).elim
  | some _=>rfl
theorem KV.val{kvs:List (κ×V)}{vs:List (κ×a9)}(r:KV kvs vs)(k:κ):oM (ik kvs k) (xc vs k):=by
 induction r with
 | nil=>exact kr
 | @cons p q ps qs h t ih=>
  obtain ⟨h1,h2⟩:=h
  by_cases e:p.1=k
  . have e':=h1.symm.trans e;have b:xc (q::qs) k=some q.2:=by simp[xc,iA,e']
    rw[pB e,b];exact h2
  . have e':¬ q.1=k:=λz=>e (h1.trans z);have b:xc (q::qs) k=xc qs k:=by simp[xc,iA,e']
    rw[o8 e,b];exact ih
theorem KV.any{kvs:List (κ×V)}{vs:List (κ×a9)}(r:KV kvs vs)(k:κ):(kvs.any λkv=>decide (kv.1=k))=vs.any λkv=>decide (kv.1=k):=by
 induction r with
 | nil=>rfl
 | cons h t ih=>rw[kF,kF,ih,h.1]
theorem KV.repl{kvs:List (κ×V)}{vs:List (κ×a9)}(r:KV kvs vs)(k:κ)(ry:AR y u) :
 KV (kvs.map λkv=>if kv.1=k then (kv.1,y) else kv) (vs.map λkv=>if kv.1=k then (kv.1,u) else kv):=by
 induction r with
 | nil=>exact .nil
 | @cons p q ps qs h t ih=>
  rw[a8,a8];refine .cons ?_ ih;obtain ⟨h1,h2⟩:=h
  by_cases e:p.1=k
  . rw[if_pos e,if_pos (h1.symm.trans e)];exact ⟨h1,ry⟩
  . rw[if_neg e,if_neg (λz=>e (h1.trans z))];exact ⟨h1,h2⟩
theorem KV.put{kvs:List (κ×V)}{vs:List (κ×a9)}(r:KV kvs vs)(k:κ)(ry:AR y u):KV (putK kvs k y) (stored vs k u):=by
 unfold putK stored;rw[r.any k]
 by_cases e:(vs.any λkv=>decide (kv.1=k))=true
 . rw[if_pos e,if_pos e];exact r.repl k ry
 . rw[if_neg e,if_neg e];exact jI.snoc r ⟨rfl,ry⟩
theorem KV.drop{kvs:List (κ×V)}{vs:List (κ×a9)}(r:KV kvs vs)(k:κ):KV (tX kvs k) (without vs k):=by
 unfold tX without
 induction r with
 | nil=>exact .nil
 | @cons p q ps qs h t ih=>
  obtain ⟨h1,h2⟩:=h;rw[List.filter_cons,List.filter_cons]
  by_cases e:p.1=k
  . have a:¬ decide (p.1≠k)=true:=by simp[e]
    have b:¬ decide (q.1≠k)=true:=by simp[h1.symm.trans e]
    rw[if_neg a,if_neg b];exact ih
  . have e':¬ q.1=k:=λz=>e (h1.trans z);have a:decide (p.1≠k)=true:=by simp[e]
    have b:decide (q.1≠k)=true:=by simp[e']
    rw[if_pos a,if_pos b];exact .cons ⟨h1,h2⟩ ih
theorem KV.length{kvs:List (κ×V)}{vs:List (κ×a9)}(r:KV kvs vs):kvs.length=vs.length:=jI.length r
theorem VH(kvs:List (κ×V))(k:κ):(tX kvs k).length<=kvs.length:=sC _ _
end
theorem vL{k:Key}(r:AR (kV k) u):(bY P w).is k u=true:=by
 cases k with
 | inl i=>obtain ⟨t,e⟩:=(r);subst e;exact Lf P w i t
 | inr x=>obtain ⟨t,e⟩:=(r);subst e;exact Mm P w x t
theorem Hc:∀{ks:C7}{us:B8},AS (ks.map kV) us->ItemsAre (bY P w) ks us
 | [],_,r=>by rw[fv] at r;cases r;exact .nil
 | k::ks,_,r=>by
  rw[a8] at r
  cases r with
  | cons h t=>exact .cons (vL h) (Hc t)
abbrev KT(H:Hp):List (C7×V)->List (C7×Addr×a9)->Prop:=jI λp q=>p.1=q.1/\H q.2.1=some (.tup (p.1.map kV))/\AR p.2 q.2.2
variable {kvs:List (C7×V)}{xs:List (C7×Addr×a9)}
theorem KT.val(r:KT H kvs xs)(k:C7):oM (ik kvs k) ((pT xs k).map (·.2)):=by
 induction r with
 | nil=>exact kr
 | @cons p q ps qs h t ih=>
  obtain ⟨h1,_,h2⟩:=h
  by_cases e:p.1=k
  . have e':=h1.symm.trans e;have b:pT (q::qs) k=some q.2:=by simp[pT,iA,e']
    rw[pB e,b];exact h2
  . have e':¬ q.1=k:=λz=>e (h1.trans z);have b:pT (q::qs) k=pT qs k:=by simp[pT,iA,e']
    rw[o8 e,b];exact ih
theorem KT.repl(r:KT H kvs xs)(k:C7)(ry:AR y u) :
 KT H (kvs.map λkv=>if kv.1=k then (kv.1,y) else kv) (xs.map (putAt k u)):=by
 induction r with
 | nil=>exact .nil
 | @cons p q ps qs h t ih=>
  rw[a8,a8];refine .cons ?_ ih;obtain ⟨h1,h2,h3⟩:=h;unfold putAt
  by_cases e:p.1=k
  . rw[if_pos e,if_pos (h1.symm.trans e)];exact ⟨h1,h2,ry⟩
  . rw[if_neg e,if_neg (λz=>e (h1.trans z))];exact ⟨h1,h2,h3⟩
theorem KT.put(r:KT H kvs xs)(k:C7)(hb:H a=some (.tup (k.map kV)))(ry:AR y u) :
 KT H (putK kvs k y) (xh xs k a u):=by
 have e:(kvs.any λkv=>decide (kv.1=k))=(pT xs k).isSome:=by
  rw[Bl,(r.val k).kh,kK]
 unfold putK xh;rw[e]
 by_cases q:(pT xs k).isSome=true
 . rw[if_pos q,if_pos q];exact r.repl k ry
 . rw[if_neg q,if_neg q];exact jI.snoc r ⟨rfl,hb,ry⟩
theorem KT.keeps(r:KT H kvs xs)(ht:∀b ys,H b=some (.tup ys)->H' b=some (.tup ys)):KT H' kvs xs:=
 Paired.sO r λ_ _ z=>⟨z.1,ht _ _ z.2.1,z.2.2⟩
section
variable    {h:Heap}
theorem Yw{u:HO}(ok:HOk P w H h)(e:Rd H a u):gb P w H h a u:=e.ok ok
theorem pR{kvs:A8}(ok:HOk P w H h)(e:Rd H a (.dK kvs)):kvs.length<=bE/\(a == gp)=false/\∃vs,KV kvs vs/\h.DictOf (bY P w) a vs:=
 Yw ok e
theorem CG{kvs:A8}(ok:HOk P w H h)(e:H a=some (.dK kvs)):kvs.length<=bE/\(a == gp)=false/\∃vs,KV kvs vs/\h.DictOf (bY P w) a vs:=pR ok (.inl e)
theorem yE{ks:C7}(ok:HOk P w H h)(e:H a=some (.tup (ks.map kV))):(qA (bY P w)).is h ks a:=by
 obtain ⟨_,AM,r,o,h1,h2,n,h3⟩:=(ok a _ e);exact ⟨o,AM.toArray,n,h1,h2,h3,by simpa using Hc r⟩
theorem zJ(ok:HOk P w H h)(e:Rd H a (.dT kvs)):kvs.length<=bE/\(a == gp)=false /\
 ∃xs,KT H kvs xs/\h.DictOfH (qA (bY P w)) a xs:=by
 obtain ⟨z,y,xs,r,o,es,ep,h1,h2,h3,h4,h5⟩:=(Yw ok e);refine ⟨z,y,xs,r,o,es,ep,h1,h2,h3,h4,λx hx=>?_,h5⟩;have all:∀{l:List (C7×V)}{m:List (C7×Addr×a9)},KT H l m->∀x∈m,(qA (bY P w)).is h x.1 x.2.1:=by
  intro l m q
  induction q with
  | nil=>intro x hx;exact nomatch hx
  | @cons p q ps qs hq t ih=>
   intro x hx;rcases cp.mp hx with e | hx
   . subst e;exact yE ok (by rw[<- hq.1];exact hq.2.1)
   . exact ih x hx
 exact all r x hx
theorem ad3(ok:HOk P w H h)(e:H a=some (.dT kvs)):kvs.length<=bE/\(a == gp)=false /\
 ∃xs,KT H kvs xs/\h.DictOfH (qA (bY P w)) a xs:=zJ ok (.inl e)
end
def Kv(H:Hp)(a:Addr)(y:V)(r:Option V):Prop:=
 (∃kvs k,Rd H a (.dK kvs)/\y=kV k/\r=ik kvs k)\/∃kvs k b,Rd H a (.dT kvs)/\y= .ref b/\H b=some (.tup (k.map kV))/\r=ik kvs k
def Eh(H:Hp)(a:Addr)(y v:V)(H':Hp):Prop:=
 (∃kvs k,H a=some (.dK kvs)/\y=kV k/\kvs.length<bE/\H'=AU H a (.dK (putK kvs k v))) \/
 ∃kvs k b,H a=some (.dT kvs)/\y= .ref b/\H b=some (.tup (k.map kV))/\kvs.length<bE/\H'=AU H a (.dT (putK kvs k v))
theorem Eh.k{kvs:A8}{k:Key}(e:H a=some (.dK kvs))(hl:kvs.length<bE):Eh H a (kV k) y (AU H a (.dK (putK kvs k y))):=.inl ⟨kvs,k,e,rfl,hl,rfl⟩
section
variable       {v:V}{r:a9}
theorem AQ.big(I:AQ X AK σ H s):gp<s.heap.objs.size:=by
 have h:=(I.mod.glob.keeps I.bk).lt;exact ze (by decide) h
theorem TV(hu:A.units+1<kb)(I:AQ X AK σ H s)(g:Kv H a y (some v))(ry:AR y u)(h:∀w' s',AQ X AK σ H s'->AR v w'->Q w' s') :
 eI (eL X.prog X.w) A (qa (.ref a) u) Q E s:=by
 rcases g with ⟨kvs,k,e,ey,l⟩ | ⟨kvs,k,b,e,ey,eb,l⟩
 . subst ey;obtain ⟨z,hd,vs,rel,dd⟩:=pR I.AY e;obtain ⟨w',hw,rw'⟩:=oM.some_of (by rw[l];exact rel.val k);exact wpAny_getItem_of (vL ry) dd.mapOf hw (h w' _ (I.tok _) rw')
 . subst ey;cases (ry);obtain ⟨z,hd,xs,rel,dd⟩:=zJ I.AY e;obtain ⟨w',hw,rw'⟩:=oM.some_of (by rw[l];exact rel.val k);obtain ⟨p,hp,hp2⟩:=mn.mp hw;refine wa (qq hu) (yE I.AY eb) dd hp ?_;rw[hp2];exact h w' _ (I.tok _) rw'
theorem ae8(hu:A.units+1<kb)(I:AQ X AK σ H s)(g:Kv H a y o)(ry:AR y u)(h:∀s',AQ X AK σ H s'->Q (.bool o.isSome) s') :
 eI (eL X.prog X.w) A (gu .In u (.ref a)) Q E s:=by
 rcases g with ⟨kvs,k,e,ey,l⟩ | ⟨kvs,k,b,e,ey,eb,l⟩
 . subst ey;obtain ⟨z,hd,vs,rel,dd⟩:=pR I.AY e;refine wpAny_in_of (vL ry) hd dd.mapOf ?_;rw[<- (rel.val k).kh,<- l];exact h _ (I.tok _)
 . subst ey;cases (ry);obtain ⟨z,hd,xs,rel,dd⟩:=zJ I.AY e;refine wpAny_in_heap (qq hu) (yE I.AY eb) hd dd ?_;have q:=(rel.val k).kh;rw[kK] at q;rw[<- q,<- l];exact h _ (I.tok _)
theorem ZF(hu:A.units+1<kb)(I:AQ X AK σ H s)(g:Kv H a y o)(ry:AR y u)(h:∀s',AQ X AK σ H s'->Q (.bool (!o.isSome)) s') :
 eI (eL X.prog X.w) A (gu .NotIn u (.ref a)) Q E s:=by
 rcases g with ⟨kvs,k,e,ey,l⟩ | ⟨kvs,k,b,e,ey,eb,l⟩
 . subst ey;obtain ⟨z,hd,vs,rel,dd⟩:=pR I.AY e;refine wpAny_notIn_of (vL ry) hd dd.mapOf ?_;rw[<- (rel.val k).kh,<- l];exact h _ (I.tok _)
 . subst ey;cases (ry);obtain ⟨z,hd,xs,rel,dd⟩:=zJ I.AY e;refine wpAny_notIn_heap (qq hu) (yE I.AY eb) hd dd ?_;have q:=(rel.val k).kh;rw[kK] at q;rw[<- q,<- l];exact h _ (I.tok _)
theorem mQ{h':Heap}{t':Nat}{ob:HO}(I:AQ X AK σ H s)(mu:Mut (H a))(hs:pe a s.heap h')(he:∃q,h'.get? a=some q)(new:gb X.prog X.w (AU H a ob) h' a ob) :
 AQ X AK σ (AU H a ob) { s with heap:=h',toks:=t' }:=
 I.write mu (.inl rfl) (λb q hb z=>(hs.2 b hb).trans z) he new
theorem Jr{h':Heap}{kvs:A8}{vs:List (Key×a9)}(z:kvs.length<=bE)(hd:(a == gp)=false)(rel:KV kvs vs)(dd:h'.DictOf (bY P w) a vs) :
 gb P w H' h' a (.dK kvs):=⟨z,hd,vs,rel,dd⟩
theorem RQ{Q:Unit->dy->Prop}(hu:A.units+1<kb)(I:AQ X AK σ H s)(g:Eh H a y v H')(ry:AR y u)(rv:AR v r)(h:∀s',AQ X AK σ H' s'->Q () s') :
 eI (eL X.prog X.w) A (setItem (.ref a) u r) Q E s:=by
 rcases g with ⟨kvs,k,e,ey,l,eH⟩ | ⟨kvs,k,b,e,ey,eb,l,eH⟩
 . subst ey eH;obtain ⟨z,hd,vs,rel,dd⟩:=CG I.AY e;have hz:vs.length<=bE:=by rw[<- rel.length];exact z
   have hl:(putK kvs k v).length<=bE:=by have:=pJ kvs k v;lia
   refine wpAny_setItem_pairs (vL ry) dd λh' dd' hs=>h _ ?_;have he:∃q,h'.get? a=some q:=let ⟨q,_,_,hq,_⟩:=dd';⟨q,hq⟩;exact mQ I (by rw[e];exact kr) hs he (Jr hl hd (rel.put k rv) dd')
 . subst ey eH;cases (ry);obtain ⟨z,hd,xs,rel,dd⟩:=ad3 I.AY e;have hz:xs.length<=bE:=by rw[<- jI.length rel];exact z
   have hl:(putK kvs k v).length<=bE:=by have:=pJ kvs k v;lia
   refine wpAny_setItem_heap (qq hu) (yE I.AY eb) dd λh' dd' hs=>h _ ?_;obtain ⟨q,es,ep,hq,h2,h3,h4,_,h5⟩:=dd';refine mQ I (by rw[e];exact kr) hs ⟨q,hq⟩ ⟨hl,hd,_,(rel.put k eb rv).keeps λc ys ec=>?_,q,es,ep,hq,h2,h3,h4,h5⟩;rw[aH (aez ec e (λz=>nomatch z))];exact ec
end
section
variable       {kvs:A8}{k:Key}
theorem ad5{more:B8}(I:AQ X AK σ H s)(e:H a=some (.dK kvs))(ry:AR (kV k) u)(l:ik kvs k=some y)(hm:more=[]\/∃x,more=[x])
 (h:∀w' s',AQ X AK σ (AU H a (.dK (tX kvs k))) s'->AR y w'->Q w' s'):eI (eL X.prog X.w) A (call (.builtin "dict.pop") (.ref a::u::more)) Q E s:=by
 obtain ⟨z,hd,vs,rel,dd⟩:=CG I.AY e;obtain ⟨w',hw,rw'⟩:=oM.some_of (by rw[<- l];exact rel.val k);have hp:(keyPart u).isSome=true:=by
  cases k with
  | inl i=>obtain ⟨t,q⟩:=(ry);subst q;rfl
  | inr x=>obtain ⟨t,q⟩:=(ry);subst q;rfl
 have ha:argsOk "dict.pop" ⟨.ref a::u::more,[]⟩:=by
  rcases hm with q | ⟨x,q⟩
  . subst q;exact PySem.F.args_dict_pop_2 _ _
  . subst q;exact PySem.F.args_dict_pop_3 _ _ _
 refine call_meetsIn PySem.F.slot_dict_pop dd.typeIs PySem.F.entry_dict_pop ha (meets_dict_pop_there (bY X.prog X.w) a (vL ry) more hm hp)
  ⟨vs,w',dd,by rw[<- rel.length];exact z,hw,λh' dd' hs=>h w' _ ?_ rw'⟩
 have he:∃q,h'.get? a=some q:=let ⟨q,_,_,hq,_⟩:=dd';⟨q,hq⟩;exact mQ I (by rw[e];exact kr) hs he (Jr (dc (VH kvs k) z) hd (rel.drop k) dd')
theorem aeP(I:AQ X AK σ H s)(e:Rd H a (.dK kvs))(h:∀t s',AQ X AK σ H s'->Q (.int kvs.length t) s'):eI (eL X.prog X.w) A (call (.builtin "len") [.ref a]) Q E s:=by
 obtain ⟨z,hd,vs,rel,dd⟩:=pR I.AY e;refine call_len_dict hd dd (by rw[<- rel.length];rw[sizeLine_eq] at z;lia) ?_;rw[<- rel.length];exact h _ _ (I.tok _)
end
def Vt(i:Expr):Prop:=∀ov iv,oQ i false ov iv=operate [ov,iv] (qa ov iv)
theorem Nz{value slice:Expr}{T id:String}
 (hl:typeLookup (.type T) "__getitem__"= pure (some (.builtin id))) (hs:Vt slice)
 (h:eI (eL prog w) A (eval value env) (λo s₁=>eI (eL prog w) A (eval slice env) (λi s₂=>s₂.TypeIs o T/\eI (eL prog w) A (qa o i) Q E s₂) E s₁) E s) :
 eI (eL prog w) A (eval (.Subscript value slice pos) env) Q E s:=by
 refine Subscript_ (ib h (λo s₁ h₁=>ib h₁ (λi s₂ h₂=>?_) λ_ _ x=>x) λ_ _ x=>x);obtain ⟨hT,h₂⟩:=h₂;refine ag ?_;rw[mT hT.not_modules];refine ag (kQ hT hl ?_);have fin:eI (eL prog w) A (oQ slice false o i) (λr s₃=>eI (eL prog w) A (rX value o r >>= λ_=>pure r) Q E s₃) E s₂:=by
  rw[hs o i];exact qf (ib h₂ (λr s₃ h₃=>ag (nE (bo h₃))) λ_ _ x=>x)
 first
  | exact bo (ag fin)
  | exact ag (bo (ag fin))
  | exact ag fin
theorem Mu(I:AQ X AK σ H s)(g:Kv H a y o):s.TypeIs (.ref a) "dict" := by
 rcases g with ⟨kvs,k,e,_,_⟩ | ⟨kvs,k,b,e,_,_,_⟩
 . obtain ⟨_,_,vs,_,dd⟩:=pR I.AY e;exact dd.typeIs
 . obtain ⟨_,_,xs,_,dd⟩:=zJ I.AY e;exact dd.typeIs
def aeJ(td ty tv:TE):TS:=λD σ H=>tv σ H λv H1=>td σ H1 λx H2=>ty σ H2 λy H3=>∃a H4,x= .ref a/\Eh H3 a y v H4/\D.nx σ H4
section
variable  {o i e value:Expr}{pos':Pos}{td ty tv:TE}
theorem M6(hu:X.A.units+1<kb)(ho:PE X o td)(hi:PE X i ty)(hv:PE X value tv)(hs:h9 value (some (.Subscript o i pos')) pos.line X.env=pure false) :
 PS X (.Assign [.Subscript o i pos'] value pos) (aeJ td ty tv):=by
 intro AK s σ H D I h;refine wpAny_Assign_Subscript (thn (hv AK s σ H _ I h) λr s1 ⟨v,H1,I1,rv,q1⟩=>thn (ho AK s1 σ H1 _ I1 q1) λu s2 ⟨x,H2,I2,rx,q2⟩=>thn (hi AK s2 σ H2 _ I2 q2) λiv s3 az=>?_) hs;obtain ⟨y,H3,I3,ry,a,H4,ex,g,q3⟩:=az;subst ex;obtain rfl:u=iN a:=rx;exact RQ hu I3 g ry rv λs4 I4=>⟨σ,H4,I4,q3⟩
end
theorem Be(h:Heap)(hb:gp<h.objs.size):gb P w H (h.push { cls:=.type "dict",data:=.dict #[] }) h.objs.size (.dK []):=
 ⟨kz _,beq_eq_false_iff_ne.mpr (nL (fi hb)),[],.nil,Heap.DictOf.new h⟩
def adb:TE:=λ_ H Q=>∀p,H p=none->Q (.ref p) (AU H p (.dK []))
theorem Xo:PE X (.Dict [] [] pos) adb:=λAK s σ H Q I h=>
 wpAny_Dict_empty ⟨.ref s.heap.objs.size,_,I.laid (λ_ _ q=>aE _ q) (ay _) (Be s.heap I.big),rfl,h _ (I.AY.fresh (ay _))⟩
def sE:List (TE×TE)->St->Hp->(List (V×V)->Hp->Prop)->Prop
 | [],_,H,Q=>Q [] H
 | (tk,tv)::r,σ,H,Q=>tk σ H λx H1=>tv σ H1 λy H2=>sE r σ H2 λps H3=>Q ((x,y)::ps) H3
abbrev VV:List (V×V)->List (a9×a9)->Prop:=jI λp q=>AR p.1 q.1/\AR p.2 q.2
def PPs(X:Cx)(pos:Pos)(keys:List (Option Expr))(values:C1)(trs:List (TE×TE)):Prop:=
 ∀(AK:A7) (s:dy) (σ:St) (H:Hp) (Q:List (V×V)->Hp->Prop),AQ X AK σ H s->sE trs σ H Q ->
  eI (eL X.prog X.w) X.A (evalPairs (pairTrees keys values X.env pos)) (λvs s'=>∃ps H',AQ X AK σ H' s'/\VV ps vs/\Q ps H') X.xe s
theorem zO:PPs X pos [] [] []:=λAK s σ H Q I h=>pairTrees_nil_walk ⟨[],H,I,.nil,h⟩
variable {trs:List (TE×TE)}
theorem sr{k v:Expr}{ks:List (Option Expr)}{tk tv:TE}(hk:PE X k tk)(hv:PE X v tv)(hr:PPs X pos ks elts trs) :
 PPs X pos (some k::ks) (v::elts) ((tk,tv)::trs):=λAK s σ H Q I h=>
 pairTrees_cons_walk (thn (hk AK s σ H _ I h) λu s1 ⟨x,H1,I1,rx,q1⟩=>thn (hv AK s1 σ H1 _ I1 q1) λw2 s2 ⟨y,H2,I2,ry,q2⟩=>
  thn (hr AK s2 σ H2 _ I2 q2) λws s3 ⟨ps,H3,I3,rel,q3⟩=>⟨(x,y)::ps,H3,I3,.cons ⟨rx,ry⟩ rel,q3⟩)
noncomputable def lR(kvs more:A8):A8:=more.foldl (λAL kv=>putK AL kv.1 kv.2) kvs
theorem KV.merge:∀{more:A8}{rs:List (Key×a9)}{kvs:A8}{vs:List (Key×a9)},KV more rs->KV kvs vs->KV (lR kvs more) (merged vs rs):=by
 intro more rs kvs vs r
 induction r generalizing kvs vs with
 | nil=>intro q;exact q
 | @cons p q ps qs h t ih=>
  intro r0;have e:KV (putK kvs p.1 p.2) (stored vs q.1 q.2):=by
   have:=r0.put p.1 h.2;rw[<- h.1];exact this
  exact ih e
theorem xg:∀(more kvs:A8),(lR kvs more).length<=kvs.length+more.length
 | [],kvs=>by show kvs.length<=kvs.length+0;lia
 | p::r,kvs=>by
  have h1:=xg r (putK kvs p.1 p.2);have h2:=pJ kvs p.1 p.2;show (lR (putK kvs p.1 p.2) r).length<=_;rw[bt];lia
theorem Cw:∀{kvs:A8}{ws:List (a9×a9)},VV (kvs.map λkv=>(kV kv.1,kv.2)) ws->∃rs,Carries (bY P w) ws rs/\KV kvs rs
 | [],_,r=>by rw[fv] at r;cases r;exact ⟨[],kr,.nil⟩
 | p::kvs,_,r=>by
  rw[a8] at r
  cases r with
  | @cons a b as bs h t=>
   obtain ⟨rs,c,q⟩:=Cw t;obtain ⟨b1,b2⟩:=b;exact ⟨(p.1,b2)::rs,⟨vL h.1,rfl,c⟩,.cons ⟨rfl,h.2⟩ q⟩
def aev(trs:List (TE×TE)):TE:=λσ H Q=>∀p,H p=none->sE trs σ (AU H p (.dK [])) λps H2=>H2 p=some (.dK [])/\∃kvs:A8,ps=kvs.map (λkv=>(kV kv.1,kv.2))/\kvs.length<=15/\Q (.ref p) (AU H2 p (.dK (lR [] kvs)))
theorem Fe{keys:List (Option Expr)}(h:PPs X pos keys elts trs)(hall:keys.all (·.isSome)=true)(hl:keys.length=elts.length)(h0:keys≠[])
 (h15:keys.length<=15):PE X (.Dict keys elts pos) (aev trs):=by
 intro AK s σ H Q I q;have hn:=I.AY.fresh (ay s.heap.objs.size);have I1:=I.laid (t':=s.toks) (λ_ _ q=>aE _ q) (ay _) (Be s.heap I.big);refine wpAny_Dict_walk (knd:=bY X.prog X.w) hall hl h0 h15 (thn (h AK _ σ _ _ I1 (q _ hn)) λws s2 az=>?_);obtain ⟨ps,H2,I2,rel,e,kvs,ep,lk,q2⟩:=az;subst ep;obtain ⟨rs,c,rk⟩:=Cw rel;obtain ⟨z,hd,vs0,r0,dd⟩:=CG I2.AY e;cases r0;refine ⟨rs,c,dd,λh' dd' hs=>⟨.ref s.heap.objs.size,_,?_,rfl,q2⟩⟩;have hz:(lR [] kvs).length<=bE:=by
  have h1:=xg kvs [];rw[l9] at h1;rw[sizeLine_eq];lia
 have he:∃q,h'.get? s.heap.objs.size=some q:=let ⟨q,_,_,hq,_⟩:=dd';⟨q,hq⟩;exact mQ I2 (by rw[e];exact kr) hs he (Jr hz hd (rk.merge .nil) dd')
structure M1 (X:Cx) (o:Expr) (m:Str) (apos:Pos) (e:Expr) (cpos:Pos):Prop where
 base:mw o m X.env (eval o X.env)=eval o X.env
 few:((nc cpos (d5 [e] X.env)).all (λx=>!x.1)&&(x6 cpos (qV [] X.env)).all (λx=>x.1.isSome)
  && decide (([e]:C1).length+([]:List pf).length+(if ([]:List pf).isEmpty then 0 else 1)<30))=true
 line:(apos.endLine == cpos.line)=true
 trees:nc cpos (d5 [e] X.env)=[(false,eval e X.env)]
def IsD(H:Hp)(a:Addr):Prop:=(∃kvs,Rd H a (.dK kvs))\/∃kvs,Rd H a (.dT kvs)
theorem T9(I:AQ X AK σ H s)(d:IsD H a) :
 s.TypeIs (.ref a) "dict" /\ (∀b,iN a= .ref b->∃ob,s.heap.get? b=some ob/\ob.dict=none)/\(a == gp)=false:=by
 rcases d with ⟨kvs,e⟩ | ⟨kvs,e⟩
 . obtain ⟨_,hd,vs,_,dd⟩:=pR I.AY e;refine ⟨dd.typeIs,λb q=>?_,hd⟩;cases q;obtain ⟨ob,_,_,h1,h2,_⟩:=dd;exact ⟨ob,h1,h2.2.1⟩
 . obtain ⟨_,hd,xs,_,dd⟩:=zJ I.AY e;refine ⟨dd.typeIs,λb q=>?_,hd⟩;cases q;obtain ⟨ob,_,_,h1,h2,_⟩:=dd;exact ⟨ob,h1,h2.2.1⟩
def acn(td ty:TE):TE:=λσ H Q=>td σ H λx H1=>∃a,x= .ref a/\IsD H1 a/\ty σ H1 λy H2=>∃kvs k v,H2 a=some (.dK kvs)/\y=kV k/\ik kvs k=some v/\Q v (AU H2 a (.dK (tX kvs k)))
section
variable  {o e f:Expr}{apos cpos:Pos}{td ty tx:TE}
theorem Xc(ho:PE X o td)(he:PE X e ty)(m:M1 X o "pop" apos e cpos):PE X (.Call (.Attribute o "pop" apos) [e] [] cpos) (acn td ty):=by
 intro AK s σ H Q I h;refine wpAny_Call_method m.base m.few m.line x8 PySem.F.slot_dict_pop PySem.F.type_dict_pop (thn (ho AK s σ H _ I h) λu s1 az=>?_);obtain ⟨x,H1,I1,rx,a,ex,d,q1⟩:=az;subst ex;obtain rfl:u=iN a:=rx;obtain ⟨t1,t2,_⟩:=T9 I1 d;refine ⟨t1,t2,?_⟩;rw[m.trees];refine rq rfl (Calls.evalArgs_plain (Calls.spliced_cons (thn (he AK s1 σ H1 _ I1 q1) λiv s2 ⟨y,H2,I2,ry,kvs,k,v,ea,ey,l,q2⟩=>Calls.spliced_nil ?_)));subst ey;exact ad5 I2 ea ry l (.inl rfl) λw' s3 I3 rw'=>⟨v,_,I3,rw',q2⟩
end
abbrev dH:=List B3
noncomputable def aex(ks:dH):Int:=zh (fE (ks.map λk=>zh (fE (k.map hashInt))))
noncomputable def iy(a:Addr)(xs:List (dH×Addr×a9)):HO:=.ext λh=>
 xs.length<=bE/\(a == gp)=false/\(xs.map (·.1)).Nodup/\∃o es ep,h.get? a=some o/\o.ExactDict/\o.data= .dict es ep/\es.toList=xs.map λx=>⟨aex x.1,.ref x.2.1,x.2.2⟩
def o6(K:aw)(H:Hp)(ks:dH)(b:Addr):Prop:=∃cs:C2,SqT K H b (cs.map V.ref)/\jI (λ(k:B3) c=>SqT K H c (k.map V.int)) ks cs
abbrev KN(K:aw)(H:Hp):List (dH×V)->List (dH×Addr×a9)->Prop:=jI λp q=>p.1=q.1/\o6 K H p.1 q.2.1/\AR p.2 q.2.2
theorem o6.keeps{ks:dH}{b:Addr}(n:o6 K H ks b)(ht:∀b ys,SqT K H b ys->SqT K H' b ys):o6 K H' ks b:=by
 obtain ⟨cs,h1,h2⟩:=n;exact ⟨cs,ht _ _ h1,Paired.sO h2 λ_ _ z=>ht _ _ z⟩
theorem KN.keeps{kvs:List (dH×V)}{xs:List (dH×Addr×a9)}(r:KN K H kvs xs)(ht:∀b ys,SqT K H b ys->SqT K H' b ys):KN K H' kvs xs:=
 Paired.sO r λ_ _ z=>⟨z.1,z.2.1.keeps ht,z.2.2⟩
noncomputable def aeO(k:B3):Int:=zh (fE (k.map hashInt))
noncomputable def jV(a:Addr)(xs:List (B3×Addr×a9)):HO:=.ext λh=>
 xs.length<=bE/\(a == gp)=false/\(xs.map (·.1)).Nodup/\∃o es ep,h.get? a=some o/\o.ExactDict/\o.data= .dict es ep/\es.toList=xs.map λx=>⟨aeO x.1,.ref x.2.1,x.2.2⟩
end Zq
namespace PySem
open Sem (wp)
section
variable {prog:ia}{w:lI}{K:Type} [DecidableEq K] (knd:KeyKind prog w K)
inductive fW (h:Heap):List (List K)->List a9->Prop
 | nil:fW h [] []
 | cons {k:List K}{a:Addr}{ks:List (List K)}{vs:List a9}:IsTupleKey knd h k a->fW h ks vs->fW h (k::ks) (.ref a::vs)
def dX(h:Heap)(ks:List (List K))(a:Addr):Prop:=∃o items n,h.get? a=some o/\o.cls= .type "tuple" /\ o.data= .seq items n/\fW knd h ks items.toList
variable {knd}
theorem fW.inj{h:Heap}{x y:List (List K)}{vs:List a9}(hx:fW knd h x vs)(hy:fW knd h y vs):x=y:=by
 induction hx generalizing y with
 | nil=>cases hy;rfl
 | cons h1 _ ih=>cases hy with
  | cons h2 t2=>rw[h1.inj h2,ih t2]
theorem dX.typeIs{s:dy}{ks:List (List K)}{a:Addr}(x:dX knd s.heap ks a):s.TypeIs (.ref a) "tuple" := let ⟨o,_,_,ho,hc,_⟩:=x;⟨o,ho,hc⟩
theorem dX.inj{h:Heap}{a:Addr}{x y:List (List K)}(hx:dX knd h x a)(hy:dX knd h y a):x=y:=by
 obtain ⟨o,items,n,ho,_,hd,hi⟩:=hx;obtain ⟨o',items',n',ho',_,hd',hi'⟩:=hy;obtain rfl:o=o':=Option.some.inj (ho.symm.trans ho');rw[hd] at hd';injection hd' with h1 _;subst h1;exact hi.inj hi'
theorem fW.keeps{h h':Heap}{ks:List (List K)}{vs:List a9}{d:Addr}{o:Obj}{es ep}(x:fW knd h ks vs)(ho:h.get? d=some o)(hd:o.data= .dict es ep)(hs:pe d h h'):fW knd h' ks vs:=by
 induction x with
 | nil=>exact .nil
 | cons h1 _ ih=>exact .cons (h1.keeps ho hd hs) ih
theorem dX.keeps{h h':Heap}{ks:List (List K)}{a d:Addr}{o:Obj}{es ep}(x:dX knd h ks a)(ho:h.get? d=some o)(hd:o.data= .dict es ep)(hs:pe d h h'):dX knd h' ks a:=by
 obtain ⟨o',items,n,ho',hc,hd',hi⟩:=x;have hne:a≠d:=by
  rintro rfl;obtain rfl:o'=o:=Option.some.inj (ho'.symm.trans ho);rw[hd] at hd';exact nomatch hd'
 exact ⟨o',items,n,(hs.2 a hne).trans ho',hc,hd',hi.keeps ho hd hs⟩
noncomputable def Bp(knd:KeyKind prog w K)(ks:List (List K)):Int:=zh (fE (ks.map (r6 knd)))
noncomputable def fJ:List (List K)->Nat
 | []=>0
 | k::ks=>k.length+1+fJ ks
theorem Hd(a b:List (List K)):fJ (a++b)=fJ a+fJ b:=by
 induction a with
 | nil=>simp[fJ]
 | cons x t ih=>rw[gL,fJ,fJ,ih];lia
variable {A:ke}{E:a9->dy->Prop}{s:dy}
theorem Aa{ks:List (List K)}{a:Addr}{Q:Int->dy->Prop}(hu:A.units+64<kb)(hk:dX knd s.heap ks a)(h:Q (Bp knd ks) { s with toks:=s.toks+(fJ ks+1) }) :
 eI (eL prog w) A (pyHash (.ref a)) Q E s:=by
 have hT:=hk.typeIs;obtain ⟨o,items,n,ho,_,hd,hi⟩:=hk
 first | unfold pyHashByItsType | skip
 first | refine ag (wpAny_cRoomFor_or (.inr (by lia)) ?_) | skip
 refine ag (kQ hT r9.lookup ?_);rw[if_neg (by rw[beq_builtin_none];exact eW)];refine ag (kQ hT r9.lookup (ag (wpAny_callSpecialIfBoundUnlessNone?_slot hT r9 (fR r9 hT F.entry_tuple_hash ?_ (F.args_tuple_hash_1 _)))));show eI _ _ (oP (.ref a) >>= _) _ _ s;refine ag (wb ho hd (ag ?_));rw[<- wd];refine sQ _
  (λrest b s'=>∃done left,ks=done++left/\fW knd s.heap left rest/\b.toList=done.map (r6 knd)/\s'={ s with toks:=s.toks+fJ done })
  _ ?_ ?_ _ _ ⟨[],ks,rfl,hi,rfl,rfl⟩
 . rintro x rest b s' ⟨done,left,rfl,hl,hb,rfl⟩
   cases hl with
   | @cons k _ ks' _ h1 hl'=>
    refine ag (wpAny_pyHash_tuple (by first | lia | (show _+_<_;lia)) h1 ?_);have e:fJ (done++[k])=fJ done+(k.length+1):=by rw[Hd];rfl
    first
     | exact bo ⟨done++[k],ks',by simp,hl',by simp[hb],by rw[e];simp[tf]⟩
     | exact ag (bo (bo ⟨done++[k],ks',by simp,hl',by simp[hb],by rw[e];simp[tf]⟩))
 . rintro b s' ⟨done,left,rfl,hl,hb,rfl⟩;cases hl;rw[dA] at h;show eI _ _ (retInt (fE b.toList)) _ _ _;rw[hb];refine wpAny_ret_mkInt ?_;show eI _ _ (if (decide (-(2:Int)^63<=fE (done.map (r6 knd)))&&decide (fE (done.map (r6 knd))<2^63))=true then _ else _) Q E _;unfold Bp zh at h
   by_cases hr:(decide (-2^63<=fE (done.map (r6 knd)))&&decide (fE (done.map (r6 knd))<2^63))=true
   . rw[if_pos hr];rw[if_pos hr] at h;exact bo (by simpa[tf] using h)
   . rw[if_neg hr];rw[if_neg hr] at h;exact ag (vT (bo (by simpa[tf] using h)))
theorem J4{x y:List (List K)}{a b:Addr}{P:Fin->dy->Prop}(hu:A.units+8<kb)(hx:dX knd s.heap x a)(hy:dX knd s.heap y b)(h:P (.done (.ret (.bool (decide (x=y))))) s) :
 eI (eL prog w) A (Builtin.«tuple.__eq__» ⟨[.ref a,.ref b],[]⟩) P E s:=by
 have hTb:=hy.typeIs;obtain ⟨oa,xs,na,hoa,_,hda,hia⟩:=hx;obtain ⟨ob,ys,nb,hob,_,hdb,hib⟩:=hy;show eI _ _ (isInstance (.ref b) (.type "tuple") >>= _) _ _ s;refine ag (pj hTb sD (ag (wb hoa hda ?_)));refine ag (wb hob hdb (ag ?_));refine sQ _
  (λrest r s'=>r.1=none/\s'=s/\∃x' y' xs' ys',rest=List.zip xs' ys'/\fW knd s.heap x' xs'/\fW knd s.heap y' ys'/\decide (x'=y')=decide (x=y)/\(xs'.length == ys'.length)=(xs.size == ys.size))
  _ ?_ ?_ _ _ ⟨rfl,rfl,x,y,xs.toList,ys.toList,rfl,hia,hib,rfl,by simp⟩
 . rintro ⟨u,v⟩ rest r s' ⟨hr,rfl,x',y',xs',ys',hz,hx',hy',hdec,hlen⟩
   cases hx' with
   | nil=>simp at hz
   | @cons k1 u' x'' xs'' h1 hx''=>
    cases hy' with
    | nil=>simp at hz
    | @cons k2 v' y'' ys'' h2 hy''=>
     obtain ⟨⟨rfl,rfl⟩,rfl⟩:=hz;refine ag (wpAny_eqBool_tuple (by lia) h1 h2 ?_)
     by_cases hk:k1=k2
     . subst hk;rw[decide_eq_true rfl];refine bo ⟨rfl,rfl,x'',y'',xs'',ys'',rfl,hx'',hy'',?_,by simpa using hlen⟩;rw[<- hdec]
       by_cases hxy:x''=y''
       . simp[hxy]
       . simp[hxy]
     . rw[decide_eq_false hk];have hf:decide (x=y)=false:=by rw[<- hdec];simp[hk]
       rw[hf] at h;exact ag (bo (bo (bo h)))
 . rintro ⟨r1,r2⟩ s' ⟨hr,rfl,x',y',xs',ys',hz,hx',hy',hdec,hlen⟩;simp only at hr;subst hr;refine bo ?_;have hfin:(xs.size == ys.size)=decide (x=y):=by
    rw[<- hdec,<- hlen]
    cases hx' with
    | nil=>
     cases hy' with
     | nil=>simp
     | cons _ _=>simp
    | cons _ _=>
     cases hy' with
     | nil=>simp
     | cons _ _=>simp at hz
   show P (.done (.ret (.bool (xs.size == ys.size)))) s';rw[hfin];exact h
theorem zY{x y:List (List K)}{a b:Addr}{Q:Bool->dy->Prop}(hu:A.units+64<kb)(hx:dX knd s.heap x a)(hy:dX knd s.heap y b)(h:Q (decide (x=y)) s) :
 eI (eL prog w) A (eqBool (.ref a) (.ref b)) Q E s:=by
 unfold eqBool
 try with_reducible refine lh ?_
 by_cases hab:(iN a == iN b)=true
 . rw[if_pos hab];have e:=by have:=eq_of_beq hab;injection this
   subst e;obtain rfl:=hx.inj hy;exact ag (vT (bo (by simpa using h)))
 . rw[if_neg hab];exact ag (wpAny_richCompare_same_room hx.typeIs hy.typeIs u7
    (fR u7 hx.typeIs F.entry_tuple_eq (J4 (by first | lia | (simp[Around.in1];lia)) hx hy ⟨_,rfl,(λe=>nomatch e),nz h⟩) (F.args_tuple_eq_2 _ _)) (by lia))
theorem z7(m:Nat){ks:List K}{a:Addr}{Q:Bool->dy->Prop}(hk:IsTupleKey knd s.heap ks a)(h:Q true s):eI (eL prog w) A (eqIsQuiet (m+1) (.ref a)) Q E s:=by
 have hT:=hk.typeIs;obtain ⟨o,items,n,ho,_,hd,hi⟩:=hk;unfold eqIsQuiet;refine ag (kQ hT u7.lookup (ag (pj hT sD ?_)));refine ag (fT ho hd (ag ?_));rw[<- wd];refine sQ _ (λrest r s'=>r.1=none/\s'=s/\∀v∈rest,carriedByValue v=true) _ ?_ ?_ _ _ ⟨rfl,rfl,hi.byValue⟩
 . rintro v rest r s' ⟨hr,rfl,hall⟩;rw[eqIsQuiet_byValue _ (hall v bX)];exact ag (bo (bo ⟨rfl,rfl,λu hu'=>hall u (cc _ hu')⟩))
 . rintro ⟨r1,r2⟩ s' ⟨hr,rfl,_⟩;simp only at hr;subst hr;exact bo h
theorem Bk(m:Nat){ks:List (List K)}{a:Addr}{Q:Bool->dy->Prop}(hk:dX knd s.heap ks a)(h:Q true s):eI (eL prog w) A (eqIsQuiet (m+2) (.ref a)) Q E s:=by
 have hT:=hk.typeIs;obtain ⟨o,items,n,ho,_,hd,hi⟩:=hk;unfold eqIsQuiet;refine ag (kQ hT u7.lookup (ag (pj hT sD ?_)));refine ag (fT ho hd (ag ?_));rw[<- wd];refine sQ _ (λrest r s'=>r.1=none/\s'=s/\∃x',fW knd s.heap x' rest) _ ?_ ?_ _ _ ⟨rfl,rfl,_,hi⟩
 . rintro v rest r s' ⟨hr,rfl,x',hall⟩
   cases hall with
   | cons h1 ht=>
    exact ag (z7 m h1 (bo ⟨rfl,rfl,_,ht⟩))
 . rintro ⟨r1,r2⟩ s' ⟨hr,rfl,_⟩;simp only at hr;subst hr;exact bo h
end
noncomputable def sU{prog:ia}{w:lI}{K:Type}[DecidableEq K](knd:KeyKind prog w K):HeapKind prog w (List (List K)) where
 is:=dX knd
 hash:=Bp knd
 draws:=λks=>fJ ks+1
 room:=λA=>A.units+64<kb
 inj:=λhx hy=>hx.inj hy
 keeps:=λx ho hd hs=>x.keeps ho hd hs
 pyHash:=λhu hk h=>Aa hu hk h
 eqBool:=λhu hx hy h=>zY hu hx hy h
 quiet:=λhk h=>Bk 6 hk h
end PySem
namespace Zq
open PySem PySem.Spec PyProof.Rows
variable {K:aw}{H:Hp}{xs:List (dH×Addr×a9)}
theorem KN.val{kvs:List (dH×V)}(r:KN K H kvs xs)(k:dH):oM (ik kvs k) ((pT xs k).map (·.2)):=by
 induction r with
 | nil=>exact kr
 | @cons p q ps qs h t ih=>
  obtain ⟨h1,_,h2⟩:=h
  by_cases e:p.1=k
  . have e':=h1.symm.trans e;have b:pT (q::qs) k=some q.2:=by simp[pT,iA,e']
    rw[pB e,b];exact h2
  . have e':¬ q.1=k:=λz=>e (h1.trans z);have b:pT (q::qs) k=pT qs k:=by simp[pT,iA,e']
    rw[o8 e,b];exact ih
theorem KN.repl{kvs:List (dH×V)}(r:KN K H kvs xs)(k:dH){y:V}{u:a9}(ry:AR y u) :
 KN K H (kvs.map λkv=>if kv.1=k then (kv.1,y) else kv) (xs.map (putAt k u)):=by
 induction r with
 | nil=>exact .nil
 | @cons p q ps qs h t ih=>
  rw[a8,a8];refine .cons ?_ ih;obtain ⟨h1,h2,h3⟩:=h;unfold putAt
  by_cases e:p.1=k
  . rw[if_pos e,if_pos (h1.symm.trans e)];exact ⟨h1,h2,ry⟩
  . rw[if_neg e,if_neg (λz=>e (h1.trans z))];exact ⟨h1,h2,h3⟩
theorem KN.put{kvs:List (dH×V)}(r:KN K H kvs xs)(k:dH){b:Addr}{y:V}{u:a9}(hb:o6 K H k b)(ry:AR y u) :
 KN K H (putK kvs k y) (xh xs k b u):=by
 have e:(kvs.any λkv=>decide (kv.1=k))=(pT xs k).isSome:=by
  rw[Bl,(r.val k).kh,kK]
 unfold putK xh;rw[e]
 by_cases q:(pT xs k).isSome=true
 . rw[if_pos q,if_pos q];exact r.repl k ry
 . rw[if_neg q,if_neg q];exact jI.snoc r ⟨rfl,hb,ry⟩
theorem JS:∀{cs:C2}{us:B8},AS (cs.map V.ref) us->us=cs.map iN
 | [],_,r=>by rw[fv] at r;cases r;rfl
 | c::cs,_,r=>by
  rw[a8] at r
  cases r with
  | @cons _ u _ us h t=>
   cases (h);rw[JS t];rfl
theorem G7{P:ia}{w:lI}:∀{ks:B3}{us:B8},AS (ks.map V.int) us->ItemsAre (rh P w) ks us
 | [],_,r=>by rw[fv] at r;cases r;exact .nil
 | k::ks,_,r=>by
  rw[a8] at r
  cases r with
  | @cons _ u _ us h t=>
   obtain ⟨n,e⟩:=(h);subst e;exact .cons (by show wo k (.int k n)=true;simp[wo]) (G7 t)
variable {H':Hp}
theorem Yx{P:ia}{w:lI}{a:Addr}{h':Heap}(z:xs.length<=bE)(hd:(a == gp)=false)(dd:h'.DictOfH (sU (rh P w)) a xs):gb P w H' h' a (iy a xs):=by
 obtain ⟨o,es,ep,h1,h2,h3,h4,_,h5⟩:=dd;exact ⟨⟨z,hd,h5,o,es,ep,h1,h2,h3,h4⟩,⟨o,h1⟩,λg1 g2 ⟨a1,a2,a3,o',es',ep',b1,b2⟩ k=>⟨a1,a2,a3,o',es',ep',k _ b1,b2⟩⟩
variable {Q:B2}
section
variable {X:Cx}{AK:A7}{σ:St}  {s:dy}{a b:Addr}{v:V}{u r:a9}{A:ke}{E:B2}{kvs:List (dH×V)}  {k:dH}
theorem yW{ks:B3}(I:AQ X AK σ H s)(e:SqT X.K H a (ks.map V.int)):(qA (rh X.prog X.w)).is s.heap ks a:=by
 obtain ⟨AM,r,⟨o,h1,h2,n,h3⟩,_⟩:=I.tuple e;exact ⟨o,AM.toArray,n,h1,h2,h3,by simpa using G7 r⟩
theorem VD{ks:dH}{cs:C2}(I:AQ X AK σ H s)(r:jI (λ(k:B3) c=>SqT X.K H c (k.map V.int)) ks cs):fW (rh X.prog X.w) s.heap ks (cs.map iN):=by
 induction r with
 | nil=>exact .nil
 | cons h1 _ ih=>exact .cons (yW I h1) ih
theorem zz{ks:dH}(I:AQ X AK σ H s)(n:o6 X.K H ks a):(sU (rh X.prog X.w)).is s.heap ks a:=by
 obtain ⟨cs,e,r⟩:=n;obtain ⟨AM,r2,⟨o,h1,h2,n,h3⟩,_⟩:=I.tuple e;exact ⟨o,AM.toArray,n,h1,h2,h3,by rw[JS r2];simpa using VD I r⟩
theorem Hy(I:AQ X AK σ H s)(e:H a=some (iy a xs))(r:KN X.K H kvs xs):kvs.length<=bE/\(a == gp)=false/\s.heap.DictOfH (sU (rh X.prog X.w)) a xs:=by
 obtain ⟨⟨z,y,h5,o,es,ep,h1,h2,h3,h4⟩,_⟩:=(I.AY a _ e);refine ⟨by rw[jI.length r];exact z,y,o,es,ep,h1,h2,h3,h4,λx hx=>?_,h5⟩;have all:∀{l:List (dH×V)}{m:List (dH×Addr×a9)},KN X.K H l m->∀x∈m,(sU (rh X.prog X.w)).is s.heap x.1 x.2.1:=by
  intro l m q
  induction q with
  | nil=>intro x hx;exact nomatch hx
  | @cons p q ps qs hq t ih=>
   intro x hx;rcases cp.mp hx with e | hx
   . subst e;exact zz I (by rw[<- hq.1];exact hq.2.1)
   . exact ih x hx
 exact all r x hx
theorem Ko(hu:A.units+65<kb):(sU (rh X.prog X.w)).room A.in1:=show A.units+1+64<kb by lia
theorem Tf(hu:A.units+65<kb)(I:AQ X AK σ H s)(e:H a=some (iy a xs))(rel:KN X.K H kvs xs)(eb:o6 X.K H k b)(l:ik kvs k=some v)(h:∀w' s',AQ X AK σ H s'->AR v w'->Q w' s') :
 eI (eL X.prog X.w) A (qa (.ref a) (.ref b)) Q E s:=by
 obtain ⟨z,hd,dd⟩:=Hy I e rel;obtain ⟨w',hw,rw'⟩:=oM.some_of (by rw[<- l];exact rel.val k);obtain ⟨p,hp,hp2⟩:=mn.mp hw;refine wa (Ko hu) (zz I eb) dd hp ?_;rw[hp2];exact h w' _ (I.tok _) rw'
theorem ZJ(hu:A.units+65<kb)(I:AQ X AK σ H s)(e:H a=some (iy a xs))(rel:KN X.K H kvs xs)(eb:o6 X.K H k b)(h:∀s',AQ X AK σ H s'->Q (.bool (!(ik kvs k).isSome)) s') :
 eI (eL X.prog X.w) A (gu .NotIn (.ref b) (.ref a)) Q E s:=by
 obtain ⟨z,hd,dd⟩:=Hy I e rel;refine wpAny_notIn_heap (Ko hu) (zz I eb) hd dd ?_;have q:=(rel.val k).kh;rw[kK] at q;rw[<- q];exact h _ (I.tok _)
theorem RG{Q:Unit->dy->Prop}(hu:A.units+65<kb)(I:AQ X AK σ H s)(e:H a=some (iy a xs))(rel:KN X.K H kvs xs)(eb:o6 X.K H k b)(rv:AR v r)(hl:kvs.length<bE)
 (h:∀s',AQ X AK σ (AU H a (iy a (xh xs k b r))) s'->Q () s'):eI (eL X.prog X.w) A (setItem (.ref a) (.ref b) r) Q E s:=by
 obtain ⟨z,hd,dd⟩:=Hy I e rel;have hz:xs.length<=bE:=by rw[<- jI.length rel];exact z
 refine wpAny_setItem_heap (Ko hu) (zz I eb) dd λh' dd' hs=>?_;have hl2:(xh xs k b r).length<=bE:=by have:=pJ kvs k v;rw[<- jI.length (rel.put k eb rv)];lia
 have he:∃q,h'.get? a=some q:=let ⟨q,_,_,hq,_⟩:=dd';⟨q,hq⟩;exact h _ (mQ I (by rw[e];exact kr) hs he (Yx hl2 hd dd'))
theorem aen(I:AQ X AK σ H s)(e:H a=some (.dK [])):AQ X AK σ (AU H a (iy a [])) s:=by
 obtain ⟨z,hd,vs,rel,dd⟩:=CG I.AY e;cases rel;obtain ⟨o,es,ep,h1,h2,h3,_,h4,_⟩:=dd
 have hes:es.toList=[]:=by cases h:es.toList with
  | nil=>rfl
  | cons x t=>rw[h] at h4;cases h4
 exact mQ I (by rw[e];exact kr) ⟨rfl,λ_ _=>rfl⟩ ⟨o,h1⟩ (Yx (kz _) hd ⟨o,es,ep,h1,h2,h3,by rw[hes];rfl,λx hx=>(nomatch hx),AA⟩)
end
structure Exn where
 cls:Str
 arg:Option ab
inductive AO (α:Type) where
 | ok (a:α)
 | err (x:Exn)
 | bad
abbrev C8:=ab->ab->AO ab
abbrev C9:=ab->AO ab
noncomputable def AO.bind{α β:Type}:AO α->(α->AO β)->AO β
 | .ok a,f=>f a
 | .err x,_=>.err x
 | .bad,_=>.bad
@[simp] theorem AO.aP {α β:Type} (a:α) (f:α->AO β):(AO.ok a).bind f=f a:=rfl
theorem AO.au{α β:Type}{r:AO α}{f:α->AO β}{b:β}(h:r.bind f= .ok b):∃a,r= .ok a/\f a= .ok b:=by
 cases r with
 | ok a=>exact ⟨a,rfl,h⟩
 | err x=>cases h
 | bad=>cases h
noncomputable def gd{α:Type}(c:Prop)[Decidable c](r:AO α):AO α:=if c then r else .bad
theorem b7{α:Type}{c:Prop}[Decidable c]{r:AO α}{a:α}(h:gd c r= .ok a):c/\r= .ok a:=by
 unfold gd at h
 by_cases hc:c
 . rw[if_pos hc] at h;exact ⟨hc,h⟩
 . rw[if_neg hc] at h;cases h
theorem bw{α:Type}{c:Prop}[Decidable c]{r:AO α}(h:c):gd c r=r:=if_pos h
abbrev Ev:=List (Option ab)
inductive Out where
 | nx (Γ:Ev)
 | rt (d:ab)
 | bk (Γ:Ev)
 | ct (Γ:Ev)
abbrev ME:=Ev->AO ab
abbrev MS:=Ev->AO Out
noncomputable def bM:ab->Option Key
 | .int i=>some (.inl i)
 | .str x=>some (.inr x)
 | _=>none
mutual
def Rp(K:aw)(A:Hp):ab->V->Prop
 | .none,v=>v= .non
 | .bool b,v=>v= .bl b
 | .int i,v=>v= .int i
 | .str x,v=>v= .str x
 | .list ds,v=>∃a vs,v= .ref a/\SqL K A a vs/\aA K A ds vs
 | .tuple ds,v=>∃a vs,v= .ref a/\SqT K A a vs/\aA K A ds vs
 | .dict kvs,v=>∃a u,v= .ref a/\Rd A a (.dK u)/\bu K A kvs u
def aA(K:aw)(A:Hp):B4->C0->Prop
 | [],vs=>vs=[]
 | d::ds,vs=>∃v r,vs=v::r/\Rp K A d v/\aA K A ds r
def bu(K:aw)(A:Hp):B0->A8->Prop
 | [],u=>u=[]
 | (k,d)::r,u=>∃key v u',u=(key,v)::u'/\bM k=some key/\Rp K A d v/\bu K A r u'
end
theorem aF.rd(e:aF H H'){a:Addr}{u:HO}(h:Rd H a u):Rd H' a u:=by
 rcases h with h | ⟨o,h⟩
 . exact .inl (e _ _ h)
 . exact .inr ⟨o,e _ _ h⟩
mutual
theorem Rp.mono(e:aF H H'):∀(d:ab) {v:V},Rp K H d v->Rp K H' d v
 | .none,v,h=>by rw[Rp] at h ⊢;exact h
 | .bool _,v,h=>by rw[Rp] at h ⊢;exact h
 | .int _,v,h=>by rw[Rp] at h ⊢;exact h
 | .str _,v,h=>by rw[Rp] at h ⊢;exact h
 | .list ds,v,h=>by
  rw[Rp] at h ⊢;obtain ⟨a,vs,h1,h2,h3⟩:=h;exact ⟨a,vs,h1,e.seq h2,aA.mono e ds h3⟩
 | .tuple ds,v,h=>by
  rw[Rp] at h ⊢;obtain ⟨a,vs,h1,h2,h3⟩:=h;exact ⟨a,vs,h1,e.fX h2,aA.mono e ds h3⟩
 | .dict kvs,v,h=>by
  rw[Rp] at h ⊢;obtain ⟨a,u,h1,h2,h3⟩:=h;exact ⟨a,u,h1,aF.rd e h2,bu.mono e kvs h3⟩
theorem aA.mono(e:aF H H'):∀(ds:B4) {vs:C0},aA K H ds vs->aA K H' ds vs
 | [],vs,h=>by rw[aA] at h ⊢;exact h
 | d::ds,vs,h=>by
  rw[aA] at h ⊢;obtain ⟨v,r,h1,h2,h3⟩:=h;exact ⟨v,r,h1,Rp.mono e d h2,aA.mono e ds h3⟩
theorem bu.mono(e:aF H H'):∀(kvs:B0) {u:A8},bu K H kvs u->bu K H' kvs u
 | [],u,h=>by rw[bu] at h ⊢;exact h
 | (k,d)::r,u,h=>by
  rw[bu] at h ⊢;obtain ⟨key,v,u',h1,h2,h3,h4⟩:=h;exact ⟨key,v,u',h1,h2,Rp.mono e d h3,bu.mono e r h4⟩
end
mutual
theorem Rp.is:∀(d:ab) {v:V},d.canLay0=true->Rp K H d v->Is K H d v
 | .none,v,_,h=>by rw[Rp] at h;rw[Is];exact h
 | .bool _,v,_,h=>by rw[Rp] at h;rw[Is];exact h
 | .int _,v,_,h=>by rw[Rp] at h;rw[Is];exact h
 | .str _,v,_,h=>by rw[Rp] at h;rw[Is];exact h
 | .list ds,v,c,h=>by
  rw[Rp] at h;rw[Is];rw[kL] at c;obtain ⟨a,vs,h1,h2,h3⟩:=h;exact ⟨a,vs,h1,h2,aA.is ds c h3⟩
 | .tuple ds,v,c,h=>by
  rw[Rp] at h;rw[Is];rw[kL] at c;obtain ⟨a,vs,h1,h2,h3⟩:=h;exact ⟨a,vs,h1,h2,aA.is ds c h3⟩
 | .dict _,v,c,h=>by rw[kL] at c;cases c
theorem aA.is:∀(ds:B4) {vs:C0},iL ds=true->aA K H ds vs->fj K H ds vs
 | [],vs,_,h=>by rw[aA] at h;rw[fj];exact h
 | d::ds,vs,c,h=>by
  rw[aA] at h;rw[fj];rw[iL,eh] at c;obtain ⟨v,r,h1,h2,h3⟩:=h;exact ⟨v,r,h1,Rp.is d c.1 h2,aA.is ds c.2 h3⟩
end
variable {A:Hp}{ds:B4}
section
variable   {v:V}
theorem Rp.int{i:Int}:Rp K A (.int i) v↔v= .int i:=by rw[Rp]
theorem Rp.bool{b:Bool}:Rp K A (.bool b) v↔v= .bl b:=by rw[Rp]
theorem Rp.none:Rp K A .none v↔v= .non:=by rw[Rp]
theorem Rp.str{x:Str}:Rp K A (.str x) v↔v= .str x:=by rw[Rp]
theorem Rp.list:Rp K A (.list ds) v↔∃a vs,v= .ref a/\SqL K A a vs/\aA K A ds vs:=by rw[Rp]
theorem Rp.tuple:Rp K A (.tuple ds) v↔∃a vs,v= .ref a/\SqT K A a vs/\aA K A ds vs:=by rw[Rp]
theorem aA.nil{vs:C0}:aA K A [] vs↔vs=[]:=by rw[aA]
theorem aA.cons{d:ab}{ds:B4}{vs:C0}:aA K A (d::ds) vs↔∃v r,vs=v::r/\Rp K A d v/\aA K A ds r:=by rw[aA]
theorem aA.length:∀{ds:B4}{vs:C0},aA K A ds vs->ds.length=vs.length
 | [],vs,h=>by rw[aA.nil] at h;rw[h];rfl
 | d::ds,vs,h=>by
  rw[aA.cons] at h;obtain ⟨v,r,rfl,_,h⟩:=h;rw[bt,bt,aA.length h]
theorem aA.get:∀{ds:B4}{vs:C0}{i:Nat}{x:V},aA K A ds vs->vs[i]?=some x->∃d,ds[i]?=some d/\Rp K A d x
 | [],vs,i,x,h,e=>by rw[aA.nil] at h;subst h;simp at e
 | d::ds,vs,i,x,h,e=>by
  rw[aA.cons] at h;obtain ⟨v,r,rfl,h1,h⟩:=h
  match i with
  | 0=>simp at e;subst e;exact ⟨d,rfl,h1⟩
  | i+1=>
   have e':=by simpa using e
   obtain ⟨d',h2,h3⟩:=aA.get h e';exact ⟨d',by simpa using h2,h3⟩
theorem aA.get':∀{ds:B4}{vs:C0}{i:Nat}{d:ab},aA K A ds vs->ds[i]?=some d->∃x,vs[i]?=some x/\Rp K A d x
 | [],vs,i,x,h,e=>by simp at e
 | d::ds,vs,i,x,h,e=>by
  rw[aA.cons] at h;obtain ⟨v,r,rfl,h1,h⟩:=h
  match i with
  | 0=>simp at e;subst e;exact ⟨v,rfl,h1⟩
  | i+1=>
   have e':=by simpa using e
   obtain ⟨d',h2,h3⟩:=aA.get' h e';exact ⟨d',by simpa using h2,h3⟩
theorem aA.append:∀{ds es:B4}{vs us:C0},aA K A ds vs->aA K A es us->aA K A (ds++es) (vs++us)
 | [],es,vs,us,h,g=>by rw[aA.nil] at h;subst h;exact g
 | d::ds,es,vs,us,h,g=>by
  rw[aA.cons] at h;obtain ⟨v,r,rfl,h1,h⟩:=h;rw[gL,gL,aA.cons];exact ⟨v,r++us,rfl,h1,aA.append h g⟩
theorem aA.one{d:ab}{x:V}(h:Rp K A d x):aA K A [d] [x]:=by rw[aA.cons];exact ⟨x,[],rfl,h,aA.nil.mpr rfl⟩
theorem aA.take:∀{ds:B4}{vs:C0} (n:Nat),aA K A ds vs->aA K A (ds.take n) (vs.take n)
 | _,_,0,_=>by rw[mP,mP];exact aA.nil.mpr rfl
 | [],vs,n+1,h=>by rw[aA.nil] at h;subst h;exact aA.nil.mpr rfl
 | d::ds,vs,n+1,h=>by
  rw[aA.cons] at h;obtain ⟨v,r,rfl,h1,h⟩:=h;rw[List.take_succ_cons,List.take_succ_cons,aA.cons];exact ⟨v,_,rfl,h1,aA.take n h⟩
theorem aA.drop:∀{ds:B4}{vs:C0} (n:Nat),aA K A ds vs->aA K A (ds.drop n) (vs.drop n)
 | _,_,0,h=>by rw[we,we];exact h
 | [],vs,n+1,h=>by rw[aA.nil] at h;subst h;exact aA.nil.mpr rfl
 | d::ds,vs,n+1,h=>by
  rw[aA.cons] at h;obtain ⟨v,r,rfl,h1,h⟩:=h;rw[List.drop_succ_cons,List.drop_succ_cons];exact aA.drop n h
theorem aA.reverse:∀{ds:B4}{vs:C0},aA K A ds vs->aA K A ds.reverse vs.reverse
 | [],vs,h=>by rw[aA.nil] at h;subst h;exact aA.nil.mpr rfl
 | d::ds,vs,h=>by
  rw[aA.cons] at h;obtain ⟨v,r,rfl,h1,h⟩:=h;rw[rL,rL];exact (aA.reverse h).append (aA.one h1)
theorem aA.ints{ns:B3}:aA K A (ns.map ab.int) (ns.map V.int):=by
 induction ns with
 | nil=>exact aA.nil.mpr rfl
 | cons n ns ih=>exact aA.cons.mpr ⟨_,_,rfl,Rp.int.mpr rfl,ih⟩
end
inductive Fl where
 | AW | AV | own | fix (p:Addr) | exc (C:Addr) | nst (b:Bool) | kit
 deriving DecidableEq
abbrev B9:=List Fl
noncomputable def isO:Fl->Bool
 | .own=>true
 | .fix _=>true
 | _=>false
noncomputable def isX:Fl->Bool
 | .exc _=>true
 | .nst _=>true
 | .kit=>true
 | _=>false
def afr(A:Hp)(C:Addr)(v:V):Prop:=∃p ob,v= .ref p/\A p=some (.frz ob (.own 0))/\ob.cls= .ref C
noncomputable def nH:B4->Option B3
 | []=>some []
 | .int i::r=>match nH r with
  | some l=>some (i::l)
  | none=>none
 | _::_=>none
noncomputable def tH:B4->Option dH
 | []=>some []
 | .tuple ds::r=>match nH ds,tH r with
  | some a,some b=>some (a::b)
  | _,_=>none
 | _::_=>none
noncomputable def jD:ab->Option dH
 | .tuple ds=>tH ds
 | _=>none
def RpN(K:aw)(A:Hp)(kvs:B0)(xs:List (dH×Addr×a9)):Prop:=∃us:List (dH×V),KN K A us xs/\jI (λp q=>jD p.1=some q.1/\Rp K A p.2 q.2) kvs us
def aeX(K:aw)(A B H:Hp)(d:ab)(v:V):Prop:=∃p xs kvs,v= .ref p/\d= .dict kvs/\H p=some (iy p xs)/\A p=none/\B p=none/\RpN K A kvs xs
noncomputable def pX:ab->Option B3
 | .tuple ds=>nH ds
 | _=>none
abbrev RpT(K:aw)(A:Hp):B0->List (B3×Addr×a9)->Prop:=jI λp q=>pX p.1=some q.1/\SqT K A q.2.1 (q.1.map V.int)/\∃v,AR v q.2.2/\Rp K A p.2 v
def qI(K:aw)(A:Hp)(d:ab)(v:V):Prop:=∃p xs kvs,v= .ref p/\d= .dict kvs/\A p=some (jV p xs)/\RpT K A kvs xs
theorem qI.mono{d:ab}{v:V}(sa:aF A H)(h:qI K A d v):qI K H d v:=by
 obtain ⟨p,xs,kvs,e1,e2,h1,h2⟩:=h;exact ⟨p,xs,kvs,e1,e2,sa _ _ h1,Paired.sO h2 λ_ _ z=>⟨z.1,sa.fX z.2.1,z.2.2.imp λv y=>⟨y.1,Rp.mono sa _ y.2⟩⟩⟩
def Pk(K:aw)(A H:Hp)(d:ab)(v:V):Prop:=
 Rp K A d v\/(∃p vs ds,v= .ref p/\d= .list ds/\SqL K H p vs/\aA K A ds vs)\/∃p u kvs,v= .ref p/\d= .dict kvs/\Rd H p (.dK u)/\bu K A kvs u
def jc(K:aw)(A:Hp)(d:ab)(o:HO):Prop:=(∃ds vs,d= .list ds/\o= .lst vs/\aA K A ds vs)\/∃kvs u,d= .dict kvs/\o= .dK u/\bu K A kvs u
def Own(K:aw)(A B H:Hp)(d:ab)(v:V):Prop:=∃p o,v= .ref p/\H p=some o/\A p=none/\B p=none/\jc K A d o
def zQ(K:aw)(A B H:Hp):Fl->ab->V->Prop
 | .AW,d,v=>Rp K A d v
 | .AV,d,v=>Pk K A B d v
 | .own,d,v=>Own K A B H d v
 | .fix p,d,v=>v= .ref p/\Own K A B H d v
 | .exc C,_,v=>afr A C v
 | .nst b,d,v=>b=true->aeX K A B H d v
 | .kit,d,v=>qI K A d v
def Hu(K:aw)(A B H:Hp)(f:Fl)(d:Option ab)(v:Option V):Prop:=∀d',d=some d'->∃v',v=some v'/\zQ K A B H f d' v'
noncomputable abbrev fl(O:B9)(i:Nat):Fl:=O.getD i .AW
noncomputable abbrev gv(Γ:Ev)(i:Nat):Option ab:=Γ.getD i none
noncomputable abbrev sv(σ:St)(i:Nat):Option V:=σ.getD i none
structure bh (K:aw) (A B H:Hp) (O:B9) (σ:St) (Γ:Ev):Prop where
 a:aF A H
 b:aF B H
 len:Γ.length=σ.length
 slot:∀i,Hu K A B H (fl O i) (gv Γ i) (sv σ i)
 sep:∀i j,i≠j->isO (fl O i)=true->isO (fl O j)=true->gv Γ i≠none->gv Γ j≠none->sv σ i≠sv σ j
def New(A A' B:Hp):Prop:=∀p,A p=none->B p≠none->A' p=none
structure aZ (A H A' H':Hp):Prop where
 aa:aF A A'
 hh:aF H H'
 ah:aF A' H'
 nw:New A A' H
theorem aZ.refl(h:aF A H):aZ A H A H:=⟨aF.refl _,aF.refl _,h,λ_ h _=>h⟩
variable {p:Addr}
theorem aF.ne(e:aF H H')(h:H p≠none):H' p≠none:=by
 cases q:H p with
 | none=>exact absurd q h
 | some o=>rw[e p o q];simp
theorem aZ.trans{H1 A2 H2:Hp}(g:aZ A H H' H1)(g':aZ H' H1 A2 H2):aZ A H A2 H2:=
 ⟨g.aa.trans g'.aa,g.hh.trans g'.hh,g'.ah,λp h1 h2=>g'.nw p (g.nw p h1 h2) (aF.ne g.hh h2)⟩
theorem New.mono{B:Hp}(n:New A H H')(s:aF B H'):New A H B:=λp h1 h2=>n p h1 (aF.ne s h2)
theorem New.trans{B:Hp}(n:New A H B)(m:New H H' B):New A H' B:=λp h1 h2=>m p (n p h1 h2) h2
variable {kvs:B0}{o:HO}
section
variable  {B A':Hp}{O:B9}{σ:St}{Γ:Ev}{d:ab}{v:V}
theorem Pk.mono(ha:aF A A')(hh:aF H H')(h:Pk K A H d v):Pk K A' H' d v:=by
 rcases h with h | ⟨p,vs,ds,e1,e2,h1,h2⟩ | ⟨p,u,kvs,e1,e2,h1,h2⟩
 . exact .inl (Rp.mono ha d h)
 . exact .inr (.inl ⟨p,vs,ds,e1,e2,hh.seq h1,aA.mono ha ds h2⟩)
 . exact .inr (.inr ⟨p,u,kvs,e1,e2,aF.rd hh h1,bu.mono ha kvs h2⟩)
theorem jc.mono(ha:aF A A')(h:jc K A d o):jc K A' d o:=by
 rcases h with ⟨ds,vs,e1,e2,h⟩ | ⟨kvs,u,e1,e2,h⟩
 . exact .inl ⟨ds,vs,e1,e2,aA.mono ha ds h⟩
 . exact .inr ⟨kvs,u,e1,e2,bu.mono ha kvs h⟩
theorem RpN.mono(ha:aF A A')(h:RpN K A kvs xs):RpN K A' kvs xs:=by
 obtain ⟨us,h1,h2⟩:=h;exact ⟨us,h1.keeps λb ys e=>ha.fX e,Paired.sO h2 λ_ _ z=>⟨z.1,Rp.mono ha _ z.2⟩⟩
theorem jc.nx(h:jc K A d o)(e:some o=some (iy p xs)):False:=by
 rcases h with ⟨ds,vs,e1,e2,h⟩ | ⟨kvs,u,e1,e2,h⟩ <;> (rw[e2] at e;cases e)
theorem zQ.grow(g:aZ A H A' H'){f:Fl}(h:zQ K A B H f d v):zQ K A' B H' f d v:=by
 cases f with
 | AW=>exact Rp.mono g.aa d h
 | AV=>exact Pk.mono g.aa (aF.refl _) h
 | own=>
  obtain ⟨p,o,e,h1,h2,h3,h4⟩:=h;exact ⟨p,o,e,g.hh _ _ h1,g.nw p h2 (by rw[h1];simp),h3,h4.mono g.aa⟩
 | fix p0=>
  obtain ⟨e0,p,o,e,h1,h2,h3,h4⟩:=h;exact ⟨e0,p,o,e,g.hh _ _ h1,g.nw p h2 (by rw[h1];simp),h3,h4.mono g.aa⟩
 | exc C=>
  obtain ⟨p,ob,e,h1,h2⟩:=h;exact ⟨p,ob,e,g.aa _ _ h1,h2⟩
 | nst b=>
  intro z;obtain ⟨p,xs,kvs,w1,w2,w3,w4,w5,w6⟩:=h z;exact ⟨p,xs,kvs,w1,w2,g.hh _ _ w3,g.nw p w4 (by rw[w3];simp),w5,w6.mono g.aa⟩
 | kit=>exact qI.mono g.aa h
theorem Hu.grow(g:aZ A H A' H'){f:Fl}{d:Option ab}{v:Option V}(h:Hu K A B H f d v):Hu K A' B H' f d v:=λd' e=>
 let ⟨v',e',q⟩:=h d' e;⟨v',e',q.grow g⟩
theorem bh.grow(g:aZ A H A' H')(r:bh K A B H O σ Γ):bh K A' B H' O σ Γ:=
 ⟨g.ah,r.b.trans g.hh,r.len,λi=>(r.slot i).grow g,r.sep⟩
theorem jc.share(h:jc K A d o)(s:aF A (AU A p o)):Rp K (AU A p o) d (.ref p):=by
 rcases h with ⟨ds,vs,e1,e2,h⟩ | ⟨kvs,u,e1,e2,h⟩
 . subst e1;subst e2;exact Rp.list.mpr ⟨p,vs,rfl,SqL.of aU,aA.mono s ds h⟩
 . subst e1;subst e2;exact (by rw[Rp];exact ⟨p,u,rfl,.inl aU,bu.mono s kvs h⟩)
theorem Own.pk(h:Own K A B H d v):Pk K A H d v:=by
 obtain ⟨p,o,e,h1,_,_,⟨ds,vs,e2,e3,h4⟩ | ⟨kvs,u,e2,e3,h4⟩⟩:=h
 . subst e3;exact .inr (.inl ⟨p,vs,ds,e,e2,SqL.of h1,h4⟩)
 . subst e3;exact .inr (.inr ⟨p,u,kvs,e,e2,.inl h1,h4⟩)
theorem zQ.pk(hb:aF B H){f:Fl}(h:zQ K A B H f d v)(hx:isX f=false):Pk K A H d v:=by
 cases f with
 | AW=>exact .inl h
 | AV=>exact Pk.mono (aF.refl _) hb h
 | own=>exact Own.pk h
 | fix p0=>exact Own.pk h.2
 | exc C=>cases hx
 | nst b=>cases hx
 | kit=>cases hx
theorem Pk.list(ha:aF A H)(h:Pk K A H (.list ds) v):∃p vs,v= .ref p/\SqL K H p vs/\aA K A ds vs:=by
 rcases h with h | ⟨p,vs,ds',e1,e2,h1,h2⟩ | ⟨p,u,kvs,e1,e2,h1,h2⟩
 . obtain ⟨a,vs,e,h1,h2⟩:=Rp.list.mp h;exact ⟨a,vs,e,ha.seq h1,h2⟩
 . cases e2;exact ⟨p,vs,e1,h1,h2⟩
 . cases e2
theorem Pk.mq(h:Pk K A H d v)(n:∀ds,d ≠ .list ds)(n2:∀kvs,d ≠ .dict kvs):Rp K A d v:=by
 rcases h with h | ⟨p,vs,ds',e1,e2,h1,h2⟩ | ⟨p,u,kvs,e1,e2,h1,h2⟩
 . exact h
 . exact absurd e2 (n ds')
 . exact absurd e2 (n2 kvs)
theorem Pk.int{i:Int}(h:Pk K A H (.int i) v):v= .int i:=Rp.int.mp (h.mq (λ_ z=>nomatch z) (λ_ z=>nomatch z))
theorem Pk.bool{i:Bool}(h:Pk K A H (.bool i) v):v= .bl i:=Rp.bool.mp (h.mq (λ_ z=>nomatch z) (λ_ z=>nomatch z))
theorem Pk.none(h:Pk K A H .none v):v= .non:=Rp.none.mp (h.mq (λ_ z=>nomatch z) (λ_ z=>nomatch z))
theorem Pk.str{x:Str}(h:Pk K A H (.str x) v):v= .str x:=Rp.str.mp (h.mq (λ_ z=>nomatch z) (λ_ z=>nomatch z))
theorem Pk.tuple(ha:aF A H)(h:Pk K A H (.tuple ds) v):∃p vs,v= .ref p/\SqT K H p vs/\aA K A ds vs:=by
 obtain ⟨a,vs,e,h1,h2⟩:=Rp.tuple.mp (h.mq (λ_ z=>nomatch z) (λ_ z=>nomatch z));exact ⟨a,vs,e,ha.fX h1,h2⟩
theorem Pk.is(ha:aF A H)(hc:eK d=true)(h:Pk K A H d v):Is K H d v:=by
 have c:=mr hc;rcases h with h | ⟨p,vs,ds',e1,e2,h1,h2⟩ | ⟨p,u,kvs,e1,e2,h1,h2⟩
 rotate_right
 . subst e2;rw[kL] at c;cases c
 . exact Is.mono ha d (Rp.is d c h)
 . subst e2;rw[Is];rw[kL] at c;exact ⟨p,vs,e1,h1,fj.mono ha ds' (aA.is ds' c h2)⟩
theorem Rp.dict:Rp K A (.dict kvs) v↔∃a u,v= .ref a/\Rd A a (.dK u)/\bu K A kvs u:=by rw[Rp]
theorem bu.nil{u:A8}:bu K A [] u↔u=[]:=by rw[bu]
theorem bu.cons{k d:ab}{r:B0}{u:A8}:bu K A ((k,d)::r) u↔∃key v u',u=(key,v)::u'/\bM k=some key/\Rp K A d v/\bu K A r u':=by rw[bu]
theorem Pk.dict(ha:aF A H)(h:Pk K A H (.dict kvs) v):∃a u,v= .ref a/\Rd H a (.dK u)/\bu K A kvs u:=by
 rcases h with h | ⟨p,vs,ds',e1,e2,h1,h2⟩ | ⟨p,u,kvs',e1,e2,h1,h2⟩
 . obtain ⟨a,u,e,h1,h2⟩:=Rp.dict.mp h;exact ⟨a,u,e,aF.rd ha h1,h2⟩
 . cases e2
 . cases e2;exact ⟨p,u,e1,h1,h2⟩
theorem aZ.new(ha:aF A H)(h:H p=none):aZ A H (AU A p o) (AU H p o):=
 ⟨aF.new (ha.free h) o,aF.new h o,λb u q=>by
  by_cases hb:b=p
  . subst hb;rw[aU] at q ⊢;exact q
  . rw[aH hb] at q ⊢;exact ha b u q,λb h1 h2=>by
  have hb:b≠p:=λz=>h2 (z ▸ h);rw[aH hb];exact h1⟩
theorem aZ.lay(ha:aF A H)(h:H p=none):aZ A H A (AU H p o):=
 ⟨aF.refl _,aF.new h o,ha.trans (aF.new h o),λb h1 _=>h1⟩
end
structure Nm (X:Cx) (i:Nat) (x:Str):Prop where
 a:X.N[i]?=some x
 b:Vis X.env.scope x
 c:nD x
 d:(x == ("__classdict__" : Str))=false
end Zq
local macro_rules | `(tactic| walk_at "nm")=>`(tactic| exact ⟨rfl,by first | exact hW rfl | exact va (hW rfl) | exact va (va rfl),by decide,by decide⟩)
namespace Zq
open PySem PySem.Spec PyProof.Rows
noncomputable def Bn:Expr->Bool
 | .Starred _ _=>false
 | _=>true
noncomputable def iD:C1->Bool
 | []=>true
 | e::es=>Bn e&&iD es
variable {e:Expr}{es:C1}
theorem cN{env:Env}(h:Bn e=true):d5 (e::es) env=(false,eval e env)::d5 es env:=by
 cases e <;> first | rfl | cases h
theorem iY:∀{es:C1}{env:Env}{pos:Pos},iD es=true->(nc pos (d5 es env)).any (·.1)=false
 | [],_,_,_=>rfl
 | e::es,env,pos,h=>by
  rw[iD,eh] at h;rw[cN h.1];show (false||(nc pos (d5 es env)).any (·.1))=false;rw[iY h.2];rfl
def tE(K:aw)(O:B9)(m:ME):TE:=λσ H Q=>∃A B Γ d,bh K A B H O σ Γ/\m Γ = .ok d/\∀v A' H',aZ A H A' H'->Rp K A' d v->Q v H'
def tP(K:aw)(O:B9)(m:ME):TE:=λσ H Q=>∃A B Γ d,bh K A B H O σ Γ/\m Γ = .ok d/\∀v A' H',aZ A H A' H'->Pk K A' H' d v->Q v H'
def yt(K:aw)(H A' H':Hp)(d:ab)(v:V):Prop:=∃p o,v= .ref p/\H p=none/\H' p=some o/\A' p=none/\jc K A' d o
def tF(K:aw)(O:B9)(m:ME):TE:=λσ H Q=>∃A B Γ d,bh K A B H O σ Γ/\m Γ = .ok d/\∀v A' H',aZ A H A' H'->yt K H A' H' d v->Q v H'
def tT(K:aw)(O:B9)(m:ME):TT:=λσ H Q=>∃A B Γ b,bh K A B H O σ Γ/\m Γ = .ok (.bool b)/\∀A' H',aZ A H A' H'->Q b H'
variable {X:Cx}{t t':TT}{tg:Expr}
theorem PE.imp{t t':TE}(h:PE X e t)(i:∀σ H Q,t' σ H Q->t σ H Q):PE X e t':=λAK s σ H Q I q=>h AK s σ H Q I (i σ H Q q)
theorem PT.imp(h:PT X e t)(i:∀σ H Q,t' σ H Q->t σ H Q):PT X e t':=λAK s σ H Q I q=>h AK s σ H Q I (i σ H Q q)
theorem PW.imp(h:PW X e t)(i:∀σ H Q,t' σ H Q->t σ H Q):PW X e t':=λw AK s σ H Q I q=>h w AK s σ H Q I (i σ H Q q)
theorem PA.imp{t t':TA}(h:PA X es t)(i:∀σ H Q,t' σ H Q->t σ H Q):PA X es t':=λpos AK s σ H Q I q=>h pos AK s σ H Q I (i σ H Q q)
theorem PS.imp{e:Stmt}{t t':TS}(h:PS X e t)(i:∀D σ H,t' D σ H->t D σ H):PS X e t':=λAK s σ H D I q=>h AK s σ H D I (i D σ H q)
theorem PSs.imp{e:C5}{t t':TS}(h:PSs X e t)(i:∀D σ H,t' D σ H->t D σ H):PSs X e t':=λAK s σ H D I q=>h AK s σ H D I (i D σ H q)
theorem PI.imp{t t':TI}(h:PI X tg e t)(i:∀σ H R,t' σ H R->t σ H R):PI X tg e t':=λAK s σ H R I q=>h AK s σ H R I (i σ H R q)
section
variable (X:Cx)
structure QE (e:Expr) (t:TE):Prop where
 h:PE X e t
structure QT (e:Expr) (t:TT):Prop where
 h:PT X e t
structure QW (e:Expr) (t:TT):Prop where
 h:PW X e t
structure QA (e:C1) (t:TA):Prop where
 h:PA X e t
structure QS (e:Stmt) (t:TS):Prop where
 h:PS X e t
structure QSs (e:C5) (t:TS):Prop where
 h:PSs X e t
structure QI (tg e:Expr) (t:TI):Prop where
 h:PI X tg e t
structure QO (e:Option Expr) (t:TO):Prop where
 h:PO X e t
structure QG (tg:Expr) (t:TG):Prop where
 h:PG X tg t
structure QGs (tg:C1) (t:TGs):Prop where
 h:PGs X tg t
structure yC (e:C1) (t:TT):Prop where
 h:sy X e t
end
theorem QE.imp{t t':TE}(h:PE X e t)(i:∀σ H Q,t' σ H Q->t σ H Q):QE X e t':=⟨PE.imp h i⟩
theorem QT.imp(h:PT X e t)(i:∀σ H Q,t' σ H Q->t σ H Q):QT X e t':=⟨PT.imp h i⟩
theorem QW.imp(h:PW X e t)(i:∀σ H Q,t' σ H Q->t σ H Q):QW X e t':=⟨PW.imp h i⟩
theorem QA.imp{t t':TA}(h:PA X es t)(i:∀σ H Q,t' σ H Q->t σ H Q):QA X es t':=⟨PA.imp h i⟩
theorem QS.imp{e:Stmt}{t t':TS}(h:PS X e t)(i:∀D σ H,t' D σ H->t D σ H):QS X e t':=⟨PS.imp h i⟩
theorem QSs.imp{e:C5}{t t':TS}(h:PSs X e t)(i:∀D σ H,t' D σ H->t D σ H):QSs X e t':=⟨PSs.imp h i⟩
theorem QI.imp{t t':TI}(h:PI X tg e t)(i:∀σ H R,t' σ H R->t σ H R):QI X tg e t':=⟨PI.imp h i⟩
variable {K:aw}{O:B9}{m m1 m2:ME}{a b c:Expr}{pos:Pos}{A H A' H':Hp}{v:V}{i:Nat}{Γ:Ev}{σ:St}{x:Str}{op:CmpOp}{rest:C1}{ds:B4}{vs:C0}
theorem sp(h:QE X e (tE K O m)):QE X e (tP K O m):=QE.imp h.h λσ H Q az=>by obtain ⟨A,B,Γ,d,r,em,k⟩:=az;exact ⟨A,B,Γ,d,r,em,λv A' H' g p=>k v A' H' g (.inl p)⟩
theorem yt.share{d:ab}(g:aZ A H A' H')(h:yt K H A' H' d v):∃A'',aZ A H A'' H'/\Rp K A'' d v:=by
 obtain ⟨p,o,rfl,h1,h2,h3,h4⟩:=h;have s:aF A' (AU A' p o):=aF.new h3 _;refine ⟨AU A' p o,⟨g.aa.trans s,g.hh,λb u q=>?_,λb n1 n2=>?_⟩,h4.share s⟩
 . by_cases hb:b=p
   . subst hb;rw[aU] at q;rw[h2];exact q
   . rw[aH hb] at q;exact g.ah b u q
 . have hb:b≠p:=λz=>n2 (z ▸ h1);rw[aH hb];exact g.nw b n1 n2
theorem sfe(h:QE X e (tF K O m)):QE X e (tE K O m):=QE.imp h.h λσ H Q ⟨A,B,Γ,d,r,em,k⟩=>⟨A,B,Γ,d,r,em,λv A' H' g p=>by
 obtain ⟨A'',g',p'⟩:=p.share g;exact k v A'' H' g' p'⟩
theorem sfp(h:QE X e (tF K O m)):QE X e (tP K O m):=sp (sfe h)
noncomputable def aj(i:Nat):ME:=λΓ=>match gv Γ i with
 | some d=>.ok d
 | none=>.bad
noncomputable def eC(d:ab):ME:=λ_=>.ok d
theorem rE{d:ab}(h:aj i Γ = .ok d):gv Γ i=some d:=by
 unfold aj at h
 cases q:gv Γ i with
 | none=>rw[q] at h;cases h
 | some d'=>rw[q] at h;cases h;rfl
theorem dU(h:sv σ i=some v):σ[i]?=some (some v):=by
 unfold sv at h;rw[ae] at h
 cases q:σ[i]? with
 | none=>rw[q] at h;cases h
 | some o=>rw[q] at h;exact congrArg some h
theorem aq(i:Nat)(nm:Nm X i x:=by walk_at "nm")(hx:isX (fl O i)=false:=by rfl):QE X (.Name x pos) (tP K O (aj i)):=QE.imp (dW nm.1 nm.2 nm.3 nm.4) λσ H Q az=>by
 obtain ⟨A,B,Γ,d,r,em,k⟩:=az;obtain ⟨v,e1,q⟩:=r.slot i d (rE em);exact ⟨v,dU e1,k v A H (aZ.refl r.a) (q.pk r.b hx)⟩
theorem aY(i:Nat)(hi:fl O i= .AW:=by rfl)(nm:Nm X i x:=by walk_at "nm"):QE X (.Name x pos) (tE K O (aj i)):=QE.imp (dW nm.1 nm.2 nm.3 nm.4) λσ H Q az=>by
 obtain ⟨A,B,Γ,d,r,em,k⟩:=az;obtain ⟨v,e1,q⟩:=r.slot i d (rE em);rw[hi] at q;exact ⟨v,dU e1,k v A H (aZ.refl r.a) q⟩
theorem Kf{d:ab}(h:PE X e (tC v))(hr:∀A,Rp K A d v):QE X e (tE K O (eC d)):=QE.imp h λσ H Q az=>by
 obtain ⟨A,B,Γ,d',r,em,k⟩:=az;cases em;exact k v A H (aZ.refl r.a) (hr A)
theorem fP{i:Int}{j pos}:QE X (.Constant (.int i) j pos) (tE K O (eC (.int i))):=Kf Iz λ_=>Rp.int.mpr rfl
theorem lG{i:Bool}{j pos}:QE X (.Constant (.bool i) j pos) (tE K O (eC (.bool i))):=Kf aeo λ_=>Rp.bool.mpr rfl
theorem kZ{j pos}:QE X (.Constant .none j pos) (tE K O (eC .none)):=Kf adO λ_=>Rp.none.mpr rfl
theorem lX{j pos}:QE X (.Constant (.str x) j pos) (tE K O (eC (.str x))):=Kf Ud λ_=>Rp.str.mpr rfl
theorem zq{u:a9}{d:ab}(hg:Gl X x)(hm:X.mg x=some u)(r:AR v u)(hr:∀A,Rp K A d v)(hd:nD x:=by decide):QE X (.Name x pos) (tE K O (eC d)):=
 Kf (Oj hg hm r hd) hr
noncomputable def ao(f:C8)(a b:ME):ME:=λΓ=>(a Γ).bind λx=>(b Γ).bind λy=>f x y
def rD(K:aw)(f:C8):R2:=λx y H Q=>∃A d1 d2 d,f d1 d2= .ok d/\aF A H/\Pk K A H d1 x/\Pk K A H d2 y/\∀v A' H',aZ A H A' H'->Rp K A' d v->Q v H'
theorem yS{f:C8}{Q:VK}(h:tE K O (ao f m1 m2) σ H Q):tOp (rD K f) (tP K O m1) (tP K O m2) σ H Q:=by
 obtain ⟨A,B,Γ,d,r,em,k⟩:=h;obtain ⟨d1,e1,em⟩:=AO.au em;obtain ⟨d2,e2,em⟩:=AO.au em;refine ⟨A,B,Γ,d1,r,e1,λx A1 H1 g1 p1=>⟨A1,B,Γ,d2,r.grow g1,e2,λy A2 H2 g2 p2=>⟨A2,d1,d2,d,em,g2.ah,p1.mono g2.aa g2.hh,p2,λv A' H' g3 p3=>k v A' H' ((g1.trans g2).trans g3) p3⟩⟩⟩
theorem ace{f:C8}{Q:Bool->Hp->Prop}(h:tT K O (ao f m1 m2) σ H Q):Yp (tOp (rD K f) (tP K O m1) (tP K O m2)) σ H Q:=by
 obtain ⟨A,B,Γ,bb,r,em,k⟩:=h;exact yS ⟨A,B,Γ,_,r,em,λv A' H' g p=>⟨bb,Rp.bool.mp p,k A' H' g⟩⟩
theorem aL{op:Operator}{f:C8}(ho:OpR X (hY op) (rD K f))(ha:QE X a (tP K O m1))(hb:QE X b (tP K O m2)):QE X (.BinOp a op b pos) (tE K O (ao f m1 m2)):=QE.imp (Yd ho ha.h hb.h) λ_ _ _=>yS
theorem CZ{f:C8}(ho:OpR X (gu op) (rD K f))(ha:QE X a (tP K O m1))(hb:QE X b (tP K O m2))(hm:oq op b=false):QE X (.Compare a [op] [b] pos) (tE K O (ao f m1 m2)):=QE.imp (Zr ho ha.h hb.h hm) λ_ _ _=>yS
theorem n8{f:C8}(ho:OpR X (gu op) (rD K f))(ha:QE X a (tP K O m1))(hb:QE X b (tP K O m2))(hm:oq op b=false):QT X (.Compare a [op] [b] pos) (tT K O (ao f m1 m2)):=QT.imp (Ng ho ha.h hb.h hm) λ_ _ _=>ace
noncomputable def uE(a b:ME):ME:=λΓ=>(a Γ).bind λx=>match x with
 | .bool true=>b Γ
 | .bool false=>.ok (.bool false)
 | _=>.bad
noncomputable def eOr(a b:ME):ME:=λΓ=>(a Γ).bind λx=>match x with
 | .bool false=>b Γ
 | .bool true=>.ok (.bool true)
 | _=>.bad
noncomputable def xu(a:ME):ME:=λΓ=>(a Γ).bind λx=>match x with
 | .bool t=>.ok (.bool (!t))
 | _=>.bad
noncomputable def eIf(c a b:ME):ME:=λΓ=>(c Γ).bind λx=>match x with
 | .bool true=>a Γ
 | .bool false=>b Γ
 | _=>.bad
theorem ado{op}(h:QE X a (tE K O m)):QE X (.BoolOp op [a] pos) (tE K O m):=⟨adK h.h⟩
theorem abl(ha:QE X a (tE K O m1))(hb:QE X (.BoolOp .And (b::rest) pos) (tE K O m2)):QE X (.BoolOp .And (a::b::rest) pos) (tE K O (uE m1 m2)):=QE.imp (acU ha.h hb.h) λσ H Q az=>by
 obtain ⟨A,B,Γ,d,r,em,k⟩:=az;obtain ⟨d1,e1,em⟩:=AO.au em;refine ⟨A,B,Γ,d1,r,e1,λv A1 H1 g1 p1=>?_⟩
 cases d1 with
 | bool bb=>
  refine ⟨bb,Rp.bool.mp p1,?_⟩
  cases bb with
  | true=>exact Bc ⟨A1,B,Γ,d,r.grow g1,em,λv A' H' g p=>k v A' H' (g1.trans g) p⟩
  | false=>cases em;exact Bh (k _ A1 H1 g1 (Rp.bool.mpr rfl))
 | _=>cases em
theorem ab6(ha:QE X a (tE K O m1)):QE X (.UnaryOp .Not a pos) (tE K O (xu m1)):=QE.imp (abG ha.h) λσ H Q az=>by
 obtain ⟨A,B,Γ,d,r,em,k⟩:=az;obtain ⟨d1,e1,em⟩:=AO.au em;refine ⟨A,B,Γ,d1,r,e1,λv A1 H1 g1 p1=>?_⟩
 cases d1 with
 | bool bb=>cases em;exact ⟨bb,Rp.bool.mp p1,k _ A1 H1 g1 (Rp.bool.mpr rfl)⟩
 | _=>cases em
theorem rB(ha:QT X a (tT K O m)):QW X (.BoolOp .And [a] pos) (tT K O m):=⟨Zv ha.h⟩
theorem yP(ha:QT X a (tT K O m)):QW X (.BoolOp .Or [a] pos) (tT K O m):=⟨adH ha.h⟩
theorem uW(ha:QT X a (tT K O m1))(hb:QW X (.BoolOp .And (b::rest) pos) (tT K O m2)):QW X (.BoolOp .And (a::b::rest) pos) (tT K O (uE m1 m2)):=QW.imp (ade ha.h hb.h) λσ H Q az=>by
 obtain ⟨A,B,Γ,d,r,em,k⟩:=az;obtain ⟨d1,e1,em⟩:=AO.au em
 cases d1 with
 | bool bb=>
  refine ⟨A,B,Γ,bb,r,e1,λA1 H1 g1=>?_⟩
  cases bb with
  | true=>exact Bc ⟨A1,B,Γ,d,r.grow g1,em,λA' H' g=>k A' H' (g1.trans g)⟩
  | false=>cases em;exact Bh (k A1 H1 g1)
 | _=>cases em
theorem Dc(ha:QT X a (tT K O m1))(hb:QW X (.BoolOp .Or (b::rest) pos) (tT K O m2)):QW X (.BoolOp .Or (a::b::rest) pos) (tT K O (eOr m1 m2)):=QW.imp (aeb ha.h hb.h) λσ H Q az=>by
 obtain ⟨A,B,Γ,d,r,em,k⟩:=az;obtain ⟨d1,e1,em⟩:=AO.au em
 cases d1 with
 | bool bb=>
  refine ⟨A,B,Γ,bb,r,e1,λA1 H1 g1=>?_⟩
  cases bb with
  | false=>exact Bh ⟨A1,B,Γ,d,r.grow g1,em,λA' H' g=>k A' H' (g1.trans g)⟩
  | true=>cases em;exact Bc (k A1 H1 g1)
 | _=>cases em
theorem m8(h:QW X e (tT K O m)):QT X e (tT K O m):=⟨h.h.pt⟩
theorem Dq(ha:QT X a (tT K O m1)):QT X (.UnaryOp .Not a pos) (tT K O (xu m1)):=QT.imp (acR ha.h) λσ H Q az=>by
 obtain ⟨A,B,Γ,d,r,em,k⟩:=az;obtain ⟨d1,e1,em⟩:=AO.au em
 cases d1 with
 | bool bb=>cases em;exact ⟨A,B,Γ,bb,r,e1,λA1 H1 g1=>k A1 H1 g1⟩
 | _=>cases em
theorem Q3(hc:QT X c (tT K O m))(ha:QE X a (tE K O m1))(hb:QE X b (tE K O m2)):QE X (.IfExp c a b pos) (tE K O (eIf m m1 m2)):=QE.imp (VP hc.h ha.h hb.h) λσ H Q az=>by
 obtain ⟨A,B,Γ,d,r,em,k⟩:=az;obtain ⟨d1,e1,em⟩:=AO.au em
 cases d1 with
 | bool bb=>
  refine ⟨A,B,Γ,bb,r,e1,λA1 H1 g1=>?_⟩
  cases bb with
  | true=>exact Bc ⟨A1,B,Γ,d,r.grow g1,em,λv A' H' g p=>k v A' H' (g1.trans g) p⟩
  | false=>exact Bh ⟨A1,B,Γ,d,r.grow g1,em,λv A' H' g p=>k v A' H' (g1.trans g) p⟩
 | _=>cases em
noncomputable def Ar:ab->AO ab
 | .none=>.ok (.bool false)
 | .bool b=>.ok (.bool b)
 | .int i=>.ok (.bool (i != 0))
 | .list ds=>.ok (.bool (!ds.isEmpty))
 | .tuple ds=>.ok (.bool (!ds.isEmpty))
 | .str x=>gd (x.length<=bE) (.ok (.bool ((x.length:Int) != 0)))
 | _=>.bad
noncomputable def eUn(f:C9)(a:ME):ME:=λΓ=>(a Γ).bind f
theorem aA.isEmpty(h:aA K A ds vs):vs.isEmpty=ds.isEmpty:=by
 cases ds with
 | nil=>rw[aA.nil] at h;subst h;rfl
 | cons d ds=>rw[aA.cons] at h;obtain ⟨v,r,rfl,_⟩:=h;rfl
theorem xQ(h:QE X a (tP X.K O m))(he:∀whole,isTrue a X.env whole=(do let v <- whole;standAt a.pos;holding [v] (truthy v)):=by intro _;rfl):QT X a (tT X.K O (eUn Ar m)):=QT.imp (WK h.h he) λσ H Q az=>by
 obtain ⟨A,B,Γ,bb,r,em,k⟩:=az;obtain ⟨d1,e1,em⟩:=AO.au em;refine ⟨A,B,Γ,d1,r,e1,λv A1 H1 g1 p1=>⟨bb,?_,k A1 H1 g1⟩⟩
 cases d1 with
 | none=>cases em;rw[p1.none];rfl
 | bool b=>cases em;rw[p1.bool];rfl
 | int i=>cases em;rw[p1.int];rfl
 | str x=>
  obtain ⟨hz,em⟩:=b7 em;cases em;rw[p1.str];exact ⟨hz,rfl⟩
 | list ds=>
  cases em;obtain ⟨p,vs,rfl,h1,h2⟩:=p1.list g1.ah;exact .inl ⟨vs,h1,by rw[h2.isEmpty]⟩
 | tuple ds=>
  cases em;obtain ⟨p,vs,rfl,h1,h2⟩:=p1.tuple g1.ah;exact .inr (.inl ⟨vs,h1,by rw[h2.isEmpty]⟩)
 | dict _=>cases em
noncomputable def rY(g:Int->Int->AO ab):ab->ab->AO ab
 | .int a,.int b=>g a b
 | _,_=>.bad
theorem jR{g:Int->Int->AO ab}{a b d:ab}(e:rY g a b= .ok d):∃i j,a= .int i/\b= .int j/\g i j= .ok d:=by
 cases a with
 | int i=>
  cases b with
  | int j=>exact ⟨i,j,rfl,rfl,e⟩
  | _=>cases e
 | _=>cases e
noncomputable def dz:ab->ab->AO ab
 | .int a,.int b=>.ok (.int (a+b))
 | .str a,.str b=>gd (a.length+b.length<=bE) (.ok (.str (a++b)))
 | .list a,.list b=>gd (a.length+b.length<=bE) (.ok (.list (a++b)))
 | .tuple a,.tuple b=>gd (a.length+b.length<=bE) (.ok (.tuple (a++b)))
 | .int a,.bool b=>.ok (.int (a+b2i b))
 | _,_=>.bad
noncomputable def jt:ab->ab->AO ab:=rY λa b=>.ok (.int (a - b))
instance (i j:Int):Decidable (rQ i j):=by unfold rQ;infer_instance
instance (i j:Int):Decidable (Ez i j):=by unfold Ez;infer_instance
instance (i j:Int):Decidable (Er i j):=by unfold Er;infer_instance
noncomputable def mK:ab->ab->AO ab:=rY λa b=>gd (rQ a b) (.ok (.int (a*b)))
noncomputable def pK:ab->ab->AO ab:=rY λa b=>gd (Ez a b) (.ok (.int (a / b)))
noncomputable def mO:ab->ab->AO ab:=rY λa b=>gd (0<b) (.ok (.int (a % b)))
noncomputable def ni:ab->ab->AO ab:=rY λa b=>gd (Er a b) (.ok (.int (a*2^b.toNat)))
noncomputable def qJ:ab->ab->AO ab:=rY λa b=>gd (0<=b) (.ok (.int (a / 2^b.toNat)))
noncomputable def oh:ab->ab->AO ab:=rY λa b=>.ok (.int (gz a b))
noncomputable def orD:ab->ab->AO ab:=rY λa b=>.ok (.int (kD a b))
noncomputable def Fq:ab->AO ab
 | .int a=>.ok (.int (-a))
 | _=>.bad
noncomputable def ltD:ab->ab->AO ab:=rY λa b=>.ok (.bool (decide (a<b)))
noncomputable def gtD:ab->ab->AO ab:=rY λa b=>.ok (.bool (decide (b<a)))
noncomputable def eqD(a b:ab):AO ab:=gd (eK a=true/\eK b=true) (.ok (.bool (fw a b)))
noncomputable def neD(a b:ab):AO ab:=gd (eK a=true/\eK b=true) (.ok (.bool (!fw a b)))
noncomputable def Wo:ab->Bool
 | .none=>true
 | _=>false
noncomputable def qz:ab->ab->AO ab
 | a,.none=>.ok (.bool (Wo a))
 | _,_=>.bad
noncomputable def Dr:ab->ab->AO ab
 | a,.none=>.ok (.bool (!Wo a))
 | _,_=>.bad
noncomputable def AX:ab->ab->AO ab
 | .list ds,.int i=>match atI ds i with | some d=>.ok d | none=>.bad
 | .tuple ds,.int i=>match atI ds i with | some d=>.ok d | none=>.bad
 | _,_=>.bad
variable {g:a9->a9->Sem a9}
theorem xF{f:C8}{C:Int->Int->Prop}{h:Int->Int->Int}(ho:OpR X g (rI C λi j=>.int (h i j)))
 (hf:∀a b d,f a b= .ok d->∃i j,a= .int i/\b= .int j/\C i j/\d= .int (h i j)):OpR X g (rD X.K f):=by
 rintro AK s σ H x y v u Q I rx ry ⟨A,d1,d2,d,e,ha,p1,p2,k⟩;obtain ⟨i,j,rfl,rfl,hc,rfl⟩:=hf _ _ _ e;exact ho AK s σ H x y v u Q I rx ry ⟨i,j,p1.int,p2.int,hc,k _ A H (aZ.refl ha) (Rp.int.mpr rfl)⟩
theorem Fy{f:C8}{h:Int->Int->Int}(ho:OpR X g (rI0 λi j=>.int (h i j)))
 (hf:∀a b d,f a b= .ok d->∃i j,a= .int i/\b= .int j/\d= .int (h i j)):OpR X g (rD X.K f):=by
 rintro AK s σ H x y v u Q I rx ry ⟨A,d1,d2,d,e,ha,p1,p2,k⟩;obtain ⟨i,j,rfl,rfl,rfl⟩:=hf _ _ _ e;exact ho AK s σ H x y v u Q I rx ry ⟨i,j,p1.int,p2.int,k _ A H (aZ.refl ha) (Rp.int.mpr rfl)⟩
theorem Tw{f:C8}{h:Int->Int->Bool}(ho:OpR X g (rI0 λi j=>.bl (h i j)))
 (hf:∀a b d,f a b= .ok d->∃i j,a= .int i/\b= .int j/\d= .bool (h i j)):OpR X g (rD X.K f):=by
 rintro AK s σ H x y v u Q I rx ry ⟨A,d1,d2,d,e,ha,p1,p2,k⟩;obtain ⟨i,j,rfl,rfl,rfl⟩:=hf _ _ _ e;exact ho AK s σ H x y v u Q I rx ry ⟨i,j,p1.int,p2.int,k _ A H (aZ.refl ha) (Rp.bool.mpr rfl)⟩
theorem jo:OpR X (hY .Sub) (rD X.K jt):=Fy adl λa b d e=>by
 obtain ⟨i,j,rfl,rfl,e⟩:=jR e;cases e;exact ⟨_,_,rfl,rfl,rfl⟩
theorem m7:OpR X (hY .FloorDiv) (rD X.K pK):=xF Zf λa b d e=>by
 obtain ⟨i,j,rfl,rfl,e⟩:=jR e;obtain ⟨hc,e⟩:=b7 e;cases e;exact ⟨_,_,rfl,rfl,hc,rfl⟩
theorem jn:OpR X (hY .Mod) (rD X.K mO):=xF acj λa b d e=>by
 obtain ⟨i,j,rfl,rfl,e⟩:=jR e;obtain ⟨hc,e⟩:=b7 e;cases e;exact ⟨_,_,rfl,rfl,hc,rfl⟩
theorem kE:OpR X (hY .LShift) (rD X.K ni):=xF adV λa b d e=>by
 obtain ⟨i,j,rfl,rfl,e⟩:=jR e;obtain ⟨hc,e⟩:=b7 e;cases e;exact ⟨_,_,rfl,rfl,hc,rfl⟩
theorem ou:OpR X (hY .RShift) (rD X.K qJ):=xF abp λa b d e=>by
 obtain ⟨i,j,rfl,rfl,e⟩:=jR e;obtain ⟨hc,e⟩:=b7 e;cases e;exact ⟨_,_,rfl,rfl,hc,rfl⟩
theorem kJ:OpR X (hY .BitAnd) (rD X.K oh):=Fy acd λa b d e=>by
 obtain ⟨i,j,rfl,rfl,e⟩:=jR e;cases e;exact ⟨_,_,rfl,rfl,rfl⟩
theorem P0:OpR X (hY .BitOr) (rD X.K orD):=Fy aea λa b d e=>by
 obtain ⟨i,j,rfl,rfl,e⟩:=jR e;cases e;exact ⟨_,_,rfl,rfl,rfl⟩
theorem Hq:OpR X (gu .Lt) (rD X.K ltD):=Tw aet λa b d e=>by
 obtain ⟨i,j,rfl,rfl,e⟩:=jR e;cases e;exact ⟨_,_,rfl,rfl,rfl⟩
theorem Dk:OpR X (gu .Gt) (rD X.K gtD):=Tw aeQ λa b d e=>by
 obtain ⟨i,j,rfl,rfl,e⟩:=jR e;cases e;exact ⟨_,_,rfl,rfl,rfl⟩
theorem dZ(hu:X.A.units+64<kb):OpR X (gu .Eq) (rD X.K eqD):=by
 rintro AK s σ H x y v u Q I rx ry ⟨A,d1,d2,d,e,ha,p1,p2,k⟩;obtain ⟨⟨h1,h2⟩,e⟩:=b7 e;cases e;exact abX hu AK s σ H x y v u Q I rx ry ⟨d1,d2,p1.is ha h1,p2.is ha h2,h1,h2,k _ A H (aZ.refl ha) (Rp.bool.mpr rfl)⟩
theorem BX(hu:X.A.units+64<kb):OpR X (gu .NotEq) (rD X.K neD):=by
 rintro AK s σ H x y v u Q I rx ry ⟨A,d1,d2,d,e,ha,p1,p2,k⟩;obtain ⟨⟨h1,h2⟩,e⟩:=b7 e;cases e;exact ab1 hu AK s σ H x y v u Q I rx ry ⟨d1,d2,p1.is ha h1,p2.is ha h2,h1,h2,k _ A H (aZ.refl ha) (Rp.bool.mpr rfl)⟩
theorem Pk.isNone{d:ab}(ha:aF A H)(p:Pk K A H d v):decide (v=V.non)=Wo d:=by
 cases d with
 | none=>rw[p.none];rfl
 | bool b=>rw[p.bool];rfl
 | int b=>rw[p.int];rfl
 | str b=>rw[p.str];rfl
 | list b=>obtain ⟨q,vs,rfl,_⟩:=p.list ha;rfl
 | tuple b=>obtain ⟨q,vs,rfl,_⟩:=p.tuple ha;rfl
 | dict b=>obtain ⟨q,u,rfl,_⟩:=p.dict ha;rfl
theorem Cj:OpR X (gu .Is) (rD X.K qz):=by
 rintro AK s σ H x y v u Q I rx ry ⟨A,d1,d2,d,e,ha,p1,p2,k⟩
 cases d2 with
 | none=>
  have e':=AO.ok.inj e;subst e';exact acA AK s σ H x y v u Q I rx ry ⟨p2.none,by rw[p1.isNone ha];exact k _ A H (aZ.refl ha) (Rp.bool.mpr rfl)⟩
 | _=>cases e
theorem Oa:OpR X (gu .IsNot) (rD X.K Dr):=by
 rintro AK s σ H x y v u Q I rx ry ⟨A,d1,d2,d,e,ha,p1,p2,k⟩
 cases d2 with
 | none=>
  have e':=AO.ok.inj e;subst e';refine aaX AK s σ H x y v u Q I rx ry ⟨p2.none,?_⟩;rw[p1.isNone ha];exact k _ A H (aZ.refl ha) (Rp.bool.mpr rfl)
 | _=>cases e
def aeK(K:aw):R2:=λx y H Q=>∃l b xs zs,x= .ref l/\y= .ref b/\SqL K H l xs/\SqL K H b zs/\xs.length+zs.length<=bE/\∀p,H p=none->Q (.ref p) (AU H p (.lst (xs++zs)))
theorem Y4:OpR X (hY .Add) (aeK X.K):=by
 rintro AK s σ H x y v u Q I rx ry ⟨l,b,xs,zs,rfl,rfl,hH,hB,hz,q⟩;cases rx;cases ry;obtain ⟨AM,r,pl,_⟩:=I.list hH;obtain ⟨its2,r2,pl2,_⟩:=I.list hB;have hl:=r.length;have hl2:=r2.length;obtain ⟨⟨cls,dd,data,sl⟩,ho,hc,n,hd⟩:=pl.isList;obtain ⟨⟨cls2,dd2,data2,sl2⟩,ho2,hc2,n2,hd2⟩:=pl2.isList;simp only at hc hd hc2 hd2;subst hc hd hc2 hd2;have ea:AM.toArray++its2.toArray=(AM++its2).toArray:=by simp
 refine yY ⟨_,ho,rfl⟩ ⟨_,ho2,rfl⟩ noFill_list_add seq_list_add PySem.F.slot_list_add PySem.F.entry_list_add (PySem.F.args_list_add_2 _ _) (list_addW l b AM.toArray its2.toArray n n2 dd dd2 sl sl2 (by simp only[cK];lia)) ⟨ho,ho2,?_⟩;rw[ea];exact ⟨.ref _,_,I.adn (r.append r2) (by rw[ai];lia),rfl,q _ I.fresh⟩
theorem XC:OpR X (hY .Add) (λx y H Q=>∃a b ys,x= .ref a/\y= .ref b/\SqT X.K H a []/\SqT X.K H b ys/\Q (.ref b) H):=by
 rintro AK s σ H x y v u Q I rx ry ⟨a,b,ys,rfl,rfl,ha,hb,q⟩;cases rx;cases ry;obtain ⟨AM,r1,p1,_⟩:=I.tuple ha;obtain ⟨its2,r2,p2,_⟩:=I.tuple hb;cases r1;obtain ⟨⟨cls,dd,data,sl⟩,ho,hc,n,hd⟩:=id p1;obtain ⟨⟨cls2,dd2,data2,sl2⟩,ho2,hc2,n2,hd2⟩:=id p2;simp only at hc hd hc2 hd2;subst hc hd hc2 hd2;exact yY ⟨_,ho,rfl⟩ ⟨_,ho2,rfl⟩ xS seq_tuple_add ro qB (pS _ _)
  (tuple_addW0 a b _ its2.toArray n n2 dd dd2 sl sl2 rfl) ⟨ho,ho2,⟨.ref b,H,I,rfl,q⟩⟩
theorem dh:OpR X (hY .Add) (rD X.K dz):=by
 rintro AK s σ H x y v u Q I rx ry ⟨A,d1,d2,d,e,ha,p1,p2,k⟩
 cases d1 with
 | int i=>
  cases d2 with
  | int j=>cases e;exact abY AK s σ H x y v u Q I rx ry ⟨i,j,p1.int,p2.int,k _ A H (aZ.refl ha) (Rp.int.mpr rfl)⟩
  | bool j=>cases e;exact Ti AK s σ H x y v u Q I rx ry ⟨i,j,p1.int,p2.bool,k _ A H (aZ.refl ha) (Rp.int.mpr rfl)⟩
  | _=>cases e
 | str i=>
  cases d2 with
  | str j=>
   obtain ⟨hc,e⟩:=b7 e;cases e;exact Px AK s σ H x y v u Q I rx ry ⟨i,j,p1.str,p2.str,hc,k _ A H (aZ.refl ha) (Rp.str.mpr rfl)⟩
  | _=>cases e
 | list i=>
  cases d2 with
  | list j=>
   obtain ⟨hc,e⟩:=b7 e;cases e;obtain ⟨l1,xs,e1,h1,q1⟩:=p1.list ha;obtain ⟨l2,ys,e2,h2,q2⟩:=p2.list ha;refine Y4 AK s σ H x y v u Q I rx ry ⟨l1,l2,xs,ys,e1,e2,h1,h2,by rw[<- q1.length,<- q2.length];exact hc,λp hp=>?_⟩;have g:=aZ.new (o:=.lst (xs++ys)) ha hp;exact k _ _ _ g (Rp.list.mpr ⟨p,_,rfl,SqL.of aU,(aA.mono g.aa _ q1).append (aA.mono g.aa _ q2)⟩)
  | _=>cases e
 | tuple i=>
  cases d2 with
  | tuple j=>
   obtain ⟨hc,e⟩:=b7 e;cases e;obtain ⟨l1,xs,e1,h1,q1⟩:=p1.tuple ha;obtain ⟨l2,ys,e2,h2,q2⟩:=p2.tuple ha
   by_cases hne:i=[]
   . subst hne;have ex:=n0 q1.length.symm;subst ex;refine XC AK s σ H x y v u Q I rx ry ⟨l1,l2,ys,e1,e2,h1,h2,?_⟩;rw[fe] at k;refine k _ A H (aZ.refl ha) ?_;have:=p2.mq (λ_ z=>nomatch z) (λ_ z=>nomatch z);rwa [e2] at this
   refine ZV AK s σ H x y v u Q I rx ry ⟨l1,l2,xs,ys,e1,e2,h1,h2,λz=>?_,by rw[<- q1.length,<- q2.length];exact hc,λz=>?_,λz p hp=>?_⟩
   . subst z;have:=q1.length;exact hne (n0 this)
   . subst z;have e0:=n0 q2.length;subst e0;rw[dA] at k;refine k _ A H (aZ.refl ha) ?_;have:=p1.mq (λ_ z=>nomatch z) (λ_ z=>nomatch z);rwa [e1] at this
   . have g:=aZ.new (o:=.tup (xs++ys)) ha hp;exact k _ _ _ g (Rp.tuple.mpr ⟨p,_,rfl,SqT.of aU,(aA.mono g.aa _ q1).append (aA.mono g.aa _ q2)⟩)
  | _=>cases e
 | _=>cases e
def aeR:R2:=λx y H Q=>∃l k xs,x= .ref l/\y= .int k/\Rd H l (.lst xs) /\ -(2^63)<=k/\k<2^63/\xs.length*k.toNat<=bE /\
 ∀p,H p=none->Q (.ref p) (AU H p (.lst (ax k.toNat xs).flatten))
theorem aac:OpR X (hY .Mult) aeR:=by
 rintro AK s σ H x y v u Q I rx ry ⟨l,k,xs,rfl,rfl,hH,h1,h2,hz,q⟩;cases rx;obtain ⟨t,rfl⟩:=ry;obtain ⟨z,AM,n,r,e⟩:=hH.ok I.AY;have hl:=r.length;have hlen:AM.toArray.size*k.toNat<=bE:=by rw[cK,<- hl];exact hz
 have afA:¬ AM.toArray.size*k.toNat > (2^63 - 1) / 8:=by
  have:(bE:Nat)<=(2^63 - 1) / 8:=by decide
  lia
 have hfit:¬ (!mM k)=true:=by
  rw[fitsIndex_both h1 h2];exact eW
 have Q8:¬ lj (AM.toArray.size*k.toNat)=true:=by
  rw[JT hlen];exact eW
 have hnew:List.foldl (λx1 x2=>x1++x2) #[] (ax (if AM.toArray.isEmpty=true then 0 else k.toNat) AM.toArray)=(ax k.toNat AM).flatten.toArray:=by
  have f0:=λm=>by
   have:=foldl_rep AM m [];rwa [fe] at this
  rw[f0]
  cases AM with
  | nil=>simp
  | cons a r'=>rw[if_neg (by simp)]
 refine wpAny_binaryOp_repeat_ref (by decide) ⟨_,e,rfl⟩ (λs'=>typeIs_int s' k t) noFill_list_mul F.fills_int_mul F.slot_int_rmul repeat_list F.slot_int_index.lookup
  (y8 F.slot_int_rmul (typeIs_int s k t) F.entry_int_rmul (F.args_int_rmul_2 _ _) (int___rmul___int_list k t l AM.toArray n)
   ⟨e,rfl,⟨_,e,rfl⟩,y8 F.slot_list_mul ⟨_,e,rfl⟩ F.entry_list_mul (F.args_list_mul_2 _ _) (AutoListH.list___mul___list_int_3 l AM.toArray n k t hfit afA Q8) ⟨e,?_⟩⟩)
 rw[hnew];exact ⟨.ref _,_,I.adn (r.rep k.toNat) (by rw[len_rep,Nat.mul_comm];exact hz),rfl,q _ I.fresh⟩
theorem aA.reps(h:aA K A ds vs)(k:Nat):aA K A (ax k ds).flatten (ax k vs).flatten:=by
 induction k with
 | zero=>exact aA.nil.mpr rfl
 | succ k ih=>rw[fo,fo,lS,lS];exact h.append ih
theorem jg:OpR X (hY .Mult) (rD X.K mK):=xF abH λa b d e=>by
 obtain ⟨i,j,rfl,rfl,e⟩:=jR e;obtain ⟨hc,e⟩:=b7 e;cases e;exact ⟨_,_,rfl,rfl,hc,rfl⟩
noncomputable def v5:ab->ab->AO ab
 | .list a,.int k=>gd (-(2^63)<=k/\k<2^63/\a.length*k.toNat<=bE) (.ok (.list (ax k.toNat a).flatten))
 | _,_=>.bad
theorem Dp(ha:QE X a (tF X.K O m1))(hb:QE X b (tP X.K O m2)):QE X (.BinOp a .Mult b pos) (tF X.K O (ao v5 m1 m2)):=QE.imp (Yd aac ha.h hb.h) λσ H Q az=>by
 obtain ⟨A,B,Γ,d,r,em,k⟩:=az;obtain ⟨d1,e1,em⟩:=AO.au em;obtain ⟨d2,e2,em⟩:=AO.au em;refine ⟨A,B,Γ,d1,r,e1,λx A1 H1 g1 p1=>⟨A1,B,Γ,d2,r.grow g1,e2,λy A2 H2 g2 p2=>?_⟩⟩
 cases d1 with
 | list i=>
  cases d2 with
  | int j=>
   obtain ⟨hc,em⟩:=b7 em;cases em;obtain ⟨l1,o,rfl,h0,h1,h2,⟨ds,xs,e3,rfl,q1⟩ | ⟨kvs,u,e3,_⟩⟩:=p1
   rotate_right
   . cases e3
   cases e3;refine ⟨l1,j,xs,rfl,p2.int,.inl (g2.hh _ _ h1),hc.1,hc.2.1,by rw[<- q1.length];exact hc.2.2,λp hp=>?_⟩;have gg:=g1.trans g2;exact k _ _ _ (gg.trans (aZ.lay g2.ah hp)) ⟨p,_,rfl,gg.hh.free hp,aU,g2.ah.free hp,.inl ⟨_,_,rfl,rfl,(aA.mono g2.aa _ q1).reps _⟩⟩
  | _=>cases em
 | _=>cases em
theorem aA.atI{i:Int}{d:ab}(h:aA K A ds vs)(e:Zq.atI ds i=some d):∃x,Zq.atI vs i=some x/\Rp K A d x:=by
 unfold Zq.atI at e ⊢;rw[<- h.length]
 cases q:ixN ds.length i with
 | none=>rw[q] at e;cases e
 | some j=>rw[q] at e;exact h.get' e
theorem Hz:IxR X (rD X.K AX):=by
 intro value slice AK s σ H x y v u Q I rx ry hq hs;obtain ⟨A,d1,d2,d,e,ha,p1,p2,k⟩:=hq
 cases d1 with
 | list ds=>
  cases d2 with
  | int i=>
   have e':(match Zq.atI ds i with | some d=>AO.ok d | none=>.bad)= .ok d:=e
   cases q:Zq.atI ds i with
   | none=>rw[q] at e';cases e'
   | some d0=>
    rw[q] at e';cases e';obtain ⟨l,vs,e1,h1,q2⟩:=p1.list ha;obtain ⟨z,hz,rz⟩:=q2.atI q;exact ZS value slice AK s σ H x y v u Q I rx ry ⟨l,vs,i,z,e1,p2.int,h1,hz,k _ A H (aZ.refl ha) rz⟩ hs
  | _=>cases e
 | tuple ds=>
  cases d2 with
  | int i=>
   have e':(match Zq.atI ds i with | some d=>AO.ok d | none=>.bad)= .ok d:=e
   cases q:Zq.atI ds i with
   | none=>rw[q] at e';cases e'
   | some d0=>
    rw[q] at e';cases e';obtain ⟨l,vs,e1,h1,q2⟩:=p1.tuple ha;obtain ⟨z,hz,rz⟩:=q2.atI q;exact ada value slice AK s σ H x y v u Q I rx ry ⟨l,vs,i,z,e1,p2.int,h1,hz,k _ A H (aZ.refl ha) rz⟩ hs
  | _=>cases e
 | _=>cases e
theorem X5(ha:QE X a (tP X.K O m1))(hb:QE X b (tP X.K O m2))(hs:lD b):QE X (.Subscript a b pos) (tE X.K O (ao AX m1 m2)):=QE.imp (Cg Hz ha.h hb.h hs) λ_ _ _=>yS
noncomputable def evs:List ME->Ev->AO B4
 | [],_=>.ok []
 | m::ms,Γ=>(m Γ).bind λd=>(evs ms Γ).bind λds=>.ok (d::ds)
theorem qN:∀{ms:List ME}{Γ:Ev}{ds:B4},evs ms Γ = .ok ds->ds.length=ms.length
 | [],_,_,h=>by cases h;rfl
 | m::ms,Γ,ds,h=>by
  obtain ⟨d,_,h⟩:=AO.au h;obtain ⟨r,e,h⟩:=AO.au h;cases h;rw[bt,bt,qN e]
def tAi(K:aw)(O:B9)(ms:List ME):TA:=λσ H Q=>∃A B Γ ds,bh K A B H O σ Γ/\evs ms Γ = .ok ds/\∀vs A' H',aZ A H A' H'->aA K A' ds vs->Q vs H'
def BL(K:aw)(A H:Hp):Fl->ab->V->Prop
 | .AW,d,v=>Rp K A d v
 | _,d,v=>Pk K A H d v
def pZ(K:aw)(A H:Hp):B9->B4->C0->Prop
 | [],ds,vs=>ds=[]/\vs=[]
 | f::fs,ds,vs=>∃d r v s,ds=d::r/\vs=v::s/\BL K A H f d v/\pZ K A H fs r s
def tAr(K:aw)(O:B9)(fs:B9)(ms:List ME):TA:=λσ H Q=>∃A B Γ ds,bh K A B H O σ Γ/\evs ms Γ = .ok ds/\∀vs A' H',aZ A H A' H'->pZ K A' H' fs ds vs->Q vs H'
variable {ms:List ME}
section
variable      {fs:B9}
theorem aK:QA X [] (tAi K O []):=QA.imp eQ λσ H Q az=>by
 obtain ⟨A,B,Γ,ds,r,em,k⟩:=az;cases em;exact k [] A H (aZ.refl r.a) (aA.nil.mpr rfl)
theorem aD(ha:QE X e (tE K O m))(hr:QA X es (tAi K O ms))(hs:Bn e=true:=by rfl):QA X (e::es) (tAi K O (m::ms)):=QA.imp (bW ha.h hr.h (cN hs)) λσ H Q az=>by
 obtain ⟨A,B,Γ,ds,r,em,k⟩:=az;obtain ⟨d,e1,em⟩:=AO.au em;obtain ⟨ds',e2,em⟩:=AO.au em;cases em;exact ⟨A,B,Γ,d,r,e1,λv A1 H1 g1 p1=>⟨A1,B,Γ,ds',r.grow g1,e2,λvs A2 H2 g2 p2=>k (v::vs) A2 H2 (g1.trans g2) (aA.cons.mpr ⟨v,vs,rfl,Rp.mono g2.aa d p1,p2⟩)⟩⟩
theorem aG:QA X [] (tAr K O [] []):=QA.imp eQ λσ H Q az=>by
 obtain ⟨A,B,Γ,ds,r,em,k⟩:=az;cases em;exact k [] A H (aZ.refl r.a) ⟨rfl,rfl⟩
theorem fB(ha:QE X e (tE K O m))(hr:QA X es (tAr K O fs ms))(hs:Bn e=true:=by rfl):QA X (e::es) (tAr K O (.AW::fs) (m::ms)):=QA.imp (bW ha.h hr.h (cN hs)) λσ H Q az=>by
 obtain ⟨A,B,Γ,ds,r,em,k⟩:=az;obtain ⟨d,e1,em⟩:=AO.au em;obtain ⟨ds',e2,em⟩:=AO.au em;cases em;exact ⟨A,B,Γ,d,r,e1,λv A1 H1 g1 p1=>⟨A1,B,Γ,ds',r.grow g1,e2,λvs A2 H2 g2 p2=>k (v::vs) A2 H2 (g1.trans g2) ⟨d,ds',v,vs,rfl,rfl,Rp.mono g2.aa d p1,p2⟩⟩⟩
theorem bK(ha:QE X e (tP K O m))(hr:QA X es (tAr K O fs ms))(hs:Bn e=true:=by rfl):QA X (e::es) (tAr K O (.AV::fs) (m::ms)):=QA.imp (bW ha.h hr.h (cN hs)) λσ H Q az=>by
 obtain ⟨A,B,Γ,ds,r,em,k⟩:=az;obtain ⟨d,e1,em⟩:=AO.au em;obtain ⟨ds',e2,em⟩:=AO.au em;cases em;exact ⟨A,B,Γ,d,r,e1,λv A1 H1 g1 p1=>⟨A1,B,Γ,ds',r.grow g1,e2,λvs A2 H2 g2 p2=>k (v::vs) A2 H2 (g1.trans g2) ⟨d,ds',v,vs,rfl,rfl,p1.mono g2.aa g2.hh,p2⟩⟩⟩
noncomputable def bN(ms:List ME):ME:=λΓ=>(evs ms Γ).bind λds=>.ok (.tuple ds)
noncomputable def bQ(ms:List ME):ME:=λΓ=>(evs ms Γ).bind λds=>.ok (.list ds)
theorem bD{x1}(h:QA X es (tAi K O ms))(hl:ms.length<=bE:=by first | decide | exact of_decide_eq_true rfl):QE X (.Tuple es x1 pos) (tE K O (bN ms)):=QE.imp (ac8 h.h) λσ H Q az=>by
 obtain ⟨A,B,Γ,d,r,em,k⟩:=az;obtain ⟨ds,e1,em⟩:=AO.au em;cases em;refine ⟨A,B,Γ,ds,r,e1,λvs A1 H1 g1 p1=>⟨by rw[<- p1.length,qN e1];exact hl,λp hp=>?_⟩⟩;have g:=aZ.new (o:=.tup vs) g1.ah hp;exact k _ _ _ (g1.trans g) (Rp.tuple.mpr ⟨p,vs,rfl,SqT.of aU,aA.mono g.aa ds p1⟩)
theorem bC(h:QA X es (tAi K O ms))(hl:ms.length<=bE:=by first | decide | exact of_decide_eq_true rfl):QE X (.List es pos) (tF K O (bQ ms)):=QE.imp (abU h.h) λσ H Q az=>by
 obtain ⟨A,B,Γ,d,r,em,k⟩:=az;obtain ⟨ds,e1,em⟩:=AO.au em;cases em;refine ⟨A,B,Γ,ds,r,e1,λvs A1 H1 g1 p1=>⟨by rw[<- p1.length,qN e1];exact hl,λp hp=>?_⟩⟩;exact k _ _ _ (g1.trans (aZ.lay g1.ah hp)) ⟨p,_,rfl,g1.hh.free hp,aU,g1.ah.free hp,.inl ⟨ds,vs,rfl,rfl,p1⟩⟩
noncomputable def iZ:List (Str×ME)->ME
 | []=>λ_=>.ok (.dict [])
 | (x,m)::r=>λΓ=>(m Γ).bind λd=>(iZ r Γ).bind λe=>match e with
  | .dict ds=>.ok (.dict ((.str x,d)::ds))
  | _=>.bad
theorem oY:QE X (.Dict [] [] pos) (tF K O (iZ [])):=QE.imp Xo λσ H Q az=>by
 obtain ⟨A,B,Γ,d,r,em,k⟩:=az;cases em;intro p hp;exact k _ _ _ (aZ.lay r.a hp) ⟨p,_,rfl,hp,aU,r.a.free hp,.inr ⟨_,_,rfl,rfl,bu.nil.mpr rfl⟩⟩
theorem X8{op:UnaryOp}{f:C9}{r:V->Hp->VK->Prop}(ho:UnR X (unaryOp op) r)(hf:∀A H d1 d x (Q:VK),f d1= .ok d->aF A H->Pk K A H d1 x->(∀v A' H',aZ A H A' H'->Rp K A' d v->Q v H')->r x H Q)
 (ha:QE X a (tP K O m)):QE X (.UnaryOp op a pos) (tE K O (eUn f m)):=QE.imp (aes ho ha.h) λσ H Q az=>by
 obtain ⟨A,B,Γ,d,r,em,k⟩:=az;obtain ⟨d1,e1,em⟩:=AO.au em;exact ⟨A,B,Γ,d1,r,e1,λv A1 H1 g1 p1=>hf A1 H1 d1 d v Q em g1.ah p1 λv A' H' g p=>k v A' H' (g1.trans g) p⟩
theorem Du(ha:QE X a (tP K O m)):QE X (.UnaryOp .USub a pos) (tE K O (eUn Fq m)):=X8 adQ (λA H d1 d x Q e hA p k=>by
 cases d1 with
 | int i=>cases e;exact ⟨i,p.int,k _ A H (aZ.refl hA) (Rp.int.mpr rfl)⟩
 | _=>cases e) ha
noncomputable def eFn(f:B4->AO ab)(ms:List ME):ME:=λΓ=>(evs ms Γ).bind f
def qO(K:aw)(A H:Hp)(ds:B4)(vs:C0):Prop:=pZ K A H (ds.map λ_=>.AV) ds vs
def rC(K:aw)(f:B4->AO ab):C0->Hp->VK->Prop:=λvs H Q=>∃A ds d,f ds= .ok d/\aF A H/\qO K A H ds vs/\∀v A' H',aZ A H A' H'->Rp K A' d v->Q v H'
def rCF(K:aw)(f:B4->AO ab):C0->Hp->VK->Prop:=λvs H Q=>∃A ds d,f ds= .ok d/\aF A H/\qO K A H ds vs/\∀v A' H',aZ A H A' H'->yt K H A' H' d v->Q v H'
noncomputable def p7(ms:List ME):B9:=ms.map λ_=>.AV
theorem Rt(h:evs ms Γ = .ok ds):p7 ms=ds.map λ_=>.AV:=by
 have e:=qN h;rw[p7,List.map_const',List.map_const',e]
theorem Yg{f:B4->AO ab}{Q:VK}(h:tE K O (eFn f ms) σ H Q):tCB (rC K f) (tAr K O (p7 ms) ms) σ H Q:=by
 obtain ⟨A,B,Γ,d,r,em,k⟩:=h;obtain ⟨ds,e1,em⟩:=AO.au em;refine ⟨A,B,Γ,ds,r,e1,λvs A1 H1 g1 p1=>⟨A1,ds,d,em,g1.ah,by rw[qO,<- Rt e1];exact p1,λv A' H' g p=>k v A' H' (g1.trans g) p⟩⟩
theorem YC{f:B4->AO ab}{Q:VK}(h:tF K O (eFn f ms) σ H Q):tCB (rCF K f) (tAr K O (p7 ms) ms) σ H Q:=by
 obtain ⟨A,B,Γ,d,r,em,k⟩:=h;obtain ⟨ds,e1,em⟩:=AO.au em;refine ⟨A,B,Γ,ds,r,e1,λvs A1 H1 g1 p1=>⟨A1,ds,d,em,g1.ah,by rw[qO,<- Rt e1];exact p1,λv A' H' g p=>k v A' H' (g1.trans g) ?_⟩⟩;obtain ⟨q,o,e,h1,h2⟩:=p;exact ⟨q,o,e,g1.hh.free h1,h2⟩
variable  {p:Pos}{id:String}{f:B4->AO ab}
theorem cD(hc:fO X (.builtin id) (rC K f))(hg:Gl X x)(hm:X.mg x=none)(hv:fk x=some (.builtin id))(ha:QA X (e::es) (tAr K O (p7 ms) ms))(hn:x ≠ "__name__" := by decide)(hdb:nD x:=by decide)
 (hs:Bn e=true:=by rfl) (hpl:iD es=true:=by rfl):QE X (.Call (.Name x p) (e::es) [] pos) (tE K O (eFn f ms)):=QE.imp (By hc hg hm hv ha.h hn hdb (cN hs) (iY hpl)) λ_ _ _=>Yg
theorem Vy(hc:fO X (.builtin id) (rCF K f))(hg:Gl X x)(hm:X.mg x=none)(hv:fk x=some (.builtin id))(ha:QA X (e::es) (tAr K O (p7 ms) ms))(hn:x ≠ "__name__" := by decide)(hdb:nD x:=by decide)
 (hs:Bn e=true:=by rfl) (hpl:iD es=true:=by rfl):QE X (.Call (.Name x p) (e::es) [] pos) (tF K O (eFn f ms)):=QE.imp (By hc hg hm hv ha.h hn hdb (cN hs) (iY hpl)) λ_ _ _=>YC
theorem fG(hc:fO X (.type id) (rC K f))(hg:Gl X x)(hm:X.mg x=none)(hv:fk x=some (.type id))(ha:QA X (e::es) (tAr K O (p7 ms) ms))(hn:x ≠ "__name__" := by decide)(hdb:nD x:=by decide)
 (hs:Bn e=true:=by rfl) (hpl:iD es=true:=by rfl):QE X (.Call (.Name x p) (e::es) [] pos) (tE K O (eFn f ms)):=QE.imp (uo hc hg hm hv ha.h hn hdb (cN hs) (iY hpl)) λ_ _ _=>Yg
theorem xW(hc:fO X (.type id) (rCF K f))(hg:Gl X x)(hm:X.mg x=none)(hv:fk x=some (.type id))(ha:QA X (e::es) (tAr K O (p7 ms) ms))(hn:x ≠ "__name__" := by decide)(hdb:nD x:=by decide)
 (hs:Bn e=true:=by rfl) (hpl:iD es=true:=by rfl):QE X (.Call (.Name x p) (e::es) [] pos) (tF K O (eFn f ms)):=QE.imp (uo hc hg hm hv ha.h hn hdb (cN hs) (iY hpl)) λ_ _ _=>YC
end
theorem qO.nil(h:qO K A H [] vs):vs=[]:=h.2
theorem qO.cons{K:aw}{A H:Hp}{d:ab}{ds:B4}{vs:C0}(h:qO K A H (d::ds) vs):∃v r,vs=v::r/\Pk K A H d v/\qO K A H ds r:=by
 obtain ⟨d',r',v,s,e1,e2,h1,h2⟩:=h;cases e1;exact ⟨v,s,e2,h1,h2⟩
noncomputable def gQ:B4->AO ab
 | [.list ds]=>.ok (.int ds.length)
 | [.tuple ds]=>.ok (.int ds.length)
 | [.str x]=>gd (x.length<=bE) (.ok (.int x.length))
 | _=>.bad
noncomputable def Ht:B4->AO ab
 | [.list ds]=>.ok (.list ds)
 | [.tuple ds]=>.ok (.list ds)
 | _=>.bad
noncomputable def gO:B4->AO ab
 | [.list ds]=>.ok (.tuple ds)
 | [.tuple ds]=>.ok (.tuple ds)
 | _=>.bad
theorem jr:fO X (.builtin "len") (rC X.K gQ):=by
 rintro AK s σ H xs us Q I r ⟨A,ds,d,e,ha,p,k⟩
 match ds,e with
 | [.list es],e=>
  cases e;obtain ⟨v,r',rfl,p1,p2⟩:=p.cons;obtain rfl:=p2.nil;obtain ⟨l,vs,rfl,h1,q1⟩:=p1.list ha;exact yo AK s σ H _ us Q I r ⟨l,vs,rfl,.inl h1,by rw[<- q1.length];exact k _ A H (aZ.refl ha) (Rp.int.mpr rfl)⟩
 | [.tuple es],e=>
  cases e;obtain ⟨v,r',rfl,p1,p2⟩:=p.cons;obtain rfl:=p2.nil;obtain ⟨l,vs,rfl,h1,q1⟩:=p1.tuple ha;exact yo AK s σ H _ us Q I r ⟨l,vs,rfl,.inr h1,by rw[<- q1.length];exact k _ A H (aZ.refl ha) (Rp.int.mpr rfl)⟩
 | [.str x],e=>
  obtain ⟨hc,e⟩:=b7 e;cases e;obtain ⟨v,r',rfl,p1,p2⟩:=p.cons;obtain rfl:=p2.nil;exact Ik AK s σ H _ us Q I r ⟨x,by rw[p1.str],hc,k _ A H (aZ.refl ha) (Rp.int.mpr rfl)⟩
theorem Oo:fO X (.type "list") (rCF X.K Ht):=by
 rintro AK s σ H xs us Q I r ⟨A,ds,d,e,ha,p,k⟩
 match ds,e with
 | [.list es],e=>
  cases e;obtain ⟨v,r',rfl,p1,p2⟩:=p.cons;obtain rfl:=p2.nil;obtain ⟨l,vs,rfl,h1,q1⟩:=p1.list ha;exact yJ AK s σ H _ us Q I r ⟨l,vs,rfl,.inl h1,λq hq=>k _ A _ (aZ.lay ha hq) ⟨q,_,rfl,hq,aU,ha.free hq,.inl ⟨_,_,rfl,rfl,q1⟩⟩⟩
 | [.tuple es],e=>
  cases e;obtain ⟨v,r',rfl,p1,p2⟩:=p.cons;obtain rfl:=p2.nil;obtain ⟨l,vs,rfl,h1,q1⟩:=p1.tuple ha;exact yJ AK s σ H _ us Q I r ⟨l,vs,rfl,.inr h1,λq hq=>k _ A _ (aZ.lay ha hq) ⟨q,_,rfl,hq,aU,ha.free hq,.inl ⟨_,_,rfl,rfl,q1⟩⟩⟩
theorem gC:fO X (.type "tuple") (rC X.K gO):=by
 rintro AK s σ H xs us Q I r ⟨A,ds,d,e,ha,p,k⟩
 match ds,e with
 | [.list es],e=>
  cases e;obtain ⟨v,r',rfl,p1,p2⟩:=p.cons;obtain rfl:=p2.nil;obtain ⟨l,vs,rfl,h1,q1⟩:=p1.list ha;exact wY AK s σ H _ us Q I r ⟨l,vs,rfl,.inl ⟨h1,λq hq=>by
   have g:=aZ.new (o:=.tup vs) ha hq;exact k _ _ _ g (Rp.tuple.mpr ⟨q,vs,rfl,SqT.of aU,aA.mono g.aa _ q1⟩)⟩⟩
 | [.tuple es],e=>
  cases e;obtain ⟨v,r',rfl,p1,p2⟩:=p.cons;obtain rfl:=p2.nil;have p1':=p1.mq (λ_ z=>nomatch z) (λ_ z=>nomatch z);obtain ⟨l,vs,rfl,h1,q1⟩:=p1.tuple ha;exact wY AK s σ H _ us Q I r ⟨l,vs,rfl,.inr ⟨h1,k _ A H (aZ.refl ha) p1'⟩⟩
noncomputable def tyN:ab->String
 | .none => "NoneType"
 | .bool _ => "bool"
 | .int _ => "int"
 | .str _ => "str"
 | .list _ => "list"
 | .tuple _ => "tuple"
 | .dict _ => "dict"
noncomputable def wj(T:String)(d:ab):Bool:=tyN d == T||(T == "int" && tyN d == "bool")
noncomputable def QK(T:String)(a:ME):ME:=λΓ=>(a Γ).bind λd=>.ok (.bool (wj T d))
variable {T:String}
theorem Kz(t:String):oS K (.type t) (.type t)=some true:=by rw[oS,if_pos (by simp)]
theorem Sg{t:String}{b:Bool}(hne:(l6 t == l6 T)=false)(h:(if PySem.W.kitMeta T=true then (fastBuiltinMro t).map (·.contains (l6 T)) else none)=some b):oS K (.type t) (.type T)=some b:=by
 unfold oS PySem.W.kitCls;rw[if_neg (by rw[hne];exact eW)];exact h
def JW(K:aw)(T:String):Prop:=∀d:ab,oS K (.type (tyN d)) (.type T)=some (wj T d)
theorem S7(h:∀t∈["NoneType", "bool", "int", "str", "list", "tuple", "dict"],oS K (.type t) (.type T)=some (t == T||(T == "int" && t == "bool"))):JW K T:=λd=>h (tyN d) (by cases d <;> simp[tyN])
theorem Y5:JW K "int" := S7 λt h=>by
 simp only[cp,pv,or_false] at h;rcases h with rfl | rfl | rfl | rfl | rfl | rfl | rfl <;> first | exact (Kz _).trans (by decide +kernel) | exact Sg (by decide +kernel) (by decide +kernel)
theorem Wy:JW K "bool" := S7 λt h=>by
 simp only[cp,pv,or_false] at h;rcases h with rfl | rfl | rfl | rfl | rfl | rfl | rfl <;> first | exact (Kz _).trans (by decide +kernel) | exact Sg (by decide +kernel) (by decide +kernel)
section
variable     {p:Pos}
def aeG(K:aw)(T:String):C0->Hp->VK->Prop:=λxs H Q=>∃x A d,xs=[x,.ty T]/\aF A H/\Pk K A H d x/\Q (.bl (wj T d)) H
theorem acB(hT:JW X.K T):fO X (.builtin "isinstance") (aeG X.K T):=by
 rintro AK s σ H xs us Q I r ⟨x,A,d,rfl,ha,p1,q⟩;obtain ⟨u,c,rfl,rx,rc⟩:=AS.two r;cases rc;have fin:∀tk,EP X AK σ Q (.bool (wj T d)) { s with toks:=tk }:=λtk=>⟨.bl _,H,I.tok tk,rfl,q⟩;have e:=hT d
 cases d with
 | none=>rw[p1.none] at rx;cases rx;exact nv PySem.W.kitx_none I.kIn kr e (λz=>nomatch z) fin
 | bool y=>rw[p1.bool] at rx;cases rx;exact nv PySem.W.kitx_bool I.kIn kr e (λz=>nomatch z) fin
 | int i=>rw[p1.int] at rx;obtain ⟨t,rfl⟩:=rx;exact nv PySem.W.kitx_int I.kIn kr e (λz=>nomatch z) fin
 | str y=>rw[p1.str] at rx;obtain ⟨t,rfl⟩:=rx;exact nv PySem.W.kitx_str I.kIn kr e (λz=>nomatch z) fin
 | list ds=>
  obtain ⟨l,vs,rfl,h1,q1⟩:=p1.list ha;cases rx;obtain ⟨AM,_,pl,_⟩:=I.list h1;obtain ⟨o,h2,h3,_⟩:=pl.isList;exact nv PySem.W.kitx_list I.kIn ⟨o,h2,h3⟩ e (λz=>nomatch z) fin
 | tuple ds=>
  obtain ⟨l,vs,rfl,h1,q1⟩:=p1.tuple ha;cases rx;obtain ⟨AM,_,⟨o,h2,h3,_⟩,_⟩:=I.tuple h1;exact nv PySem.W.kitx_tuple I.kIn ⟨o,h2,h3⟩ e (λz=>nomatch z) fin
 | dict ds=>
  obtain ⟨l,kvs,rfl,h1,_⟩:=p1.dict ha;cases rx;obtain ⟨_,_,vs,_,hd⟩:kvs.length<=bE/\(l == gp)=false/\∃vs,KV kvs vs/\s.heap.DictOf (bY X.prog X.w) l vs:=pR I.AY h1;obtain ⟨o,_,_,h2,h3,_⟩:=hd;exact nv PySem.W.kitx_dict I.kIn ⟨o,h2,h3.1⟩ e (λz=>nomatch z) fin
theorem RM(hT:JW X.K T)(hg:Gl X "isinstance")(hm:X.mg "isinstance"= none)(ha:QE X a (tP X.K O m))(hb:PE X b (tC (.ty T)))
 (h1:d5 (a::[b]) X.env=(false,eval a X.env)::d5 [b] X.env:=by rfl) (h2:d5 [b] X.env=(false,eval b X.env)::d5 [] X.env:=by rfl) (hpl:(nc pos (d5 [b] X.env)).any (·.1)=false:=by rfl) :
 QE X (.Call (.Name "isinstance" p) [a,b] [] pos) (tE X.K O (QK T m)):=
 QE.imp (By (acB hT) hg hm (show fk "isinstance"= some (.builtin "isinstance") by decide +kernel) (bW ha.h (bW hb eQ h2) h1) (by decide) (by decide) h1 hpl) λσ H Q az=>by
  obtain ⟨A,B,Γ,d,r,em,k⟩:=az;obtain ⟨d1,e1,em⟩:=AO.au em;cases em;exact ⟨A,B,Γ,d1,r,e1,λv A1 H1 g1 p1=>⟨v,A1,d1,rfl,g1.ah,p1,k _ A1 H1 g1 (Rp.bool.mpr rfl)⟩⟩
theorem Yr(hg:Gl X x)(hm:X.mg x=none)(hv:fk x=some (.type T))(hn:x ≠ "__name__" := by decide)(hd:nD x:=by decide):PE X (.Name x pos) (tC (.ty T)):=
 Z2 hg hm hv rfl hn hd
end
noncomputable def cutD(xs:B4)(lo hi:C3):B4:=(xs.drop (HT.sIx xs.length 0 lo)).take (HT.sIx xs.length xs.length hi - HT.sIx xs.length 0 lo)
def MO:=Ev->AO C3
noncomputable def Qy:MO:=λ_=>.ok none
noncomputable def Rc(m:ME):MO:=λΓ=>(m Γ).bind λd=>match d with
 | .int i=>.ok (some i)
 | _=>.bad
noncomputable def slD:ab->C3->C3->AO ab
 | .list ds,lo,hi=>.ok (.list (cutD ds lo hi))
 | .tuple ds,lo,hi=>.ok (.tuple (cutD ds lo hi))
 | _,_,_=>.bad
noncomputable def eSl(a:ME)(lo hi:MO):ME:=λΓ=>(a Γ).bind λd=>(lo Γ).bind λl=>(hi Γ).bind λh=>slD d l h
def tO(K:aw)(O:B9)(m:MO):TO:=λσ H Q=>∃A B Γ o,bh K A B H O σ Γ/\m Γ = .ok o/\∀A' H',aZ A H A' H'->Q o H'
theorem PO.imp{e:Option Expr}{t t':TO}(h:PO X e t)(i:∀σ H Q,t' σ H Q->t σ H Q):PO X e t':=λAK s σ H Q I q=>h AK s σ H Q I (i σ H Q q)
theorem QO.imp{e:Option Expr}{t t':TO}(h:PO X e t)(i:∀σ H Q,t' σ H Q->t σ H Q):QO X e t':=⟨PO.imp h i⟩
variable {prog:ia}{w:lI}{E Q:B2}{s:dy}{hi:C3}
section
variable    {lo hi:Option Expr}{ml mh:MO}  {p p2:Pos}
theorem ZD:QO X none (tO X.K O Qy):=QO.imp Z8 λσ H Q az=>by obtain ⟨A,B,Γ,o,r,em,k⟩:=az;cases em;exact k A H (aZ.refl r.a)
theorem aa8(h:QE X e (tP X.K O m)):QO X (some e) (tO X.K O (Rc m)):=QO.imp (YQ h.h) λσ H Q az=>by
 obtain ⟨A,B,Γ,o,r,em,k⟩:=az;obtain ⟨d,e1,em⟩:=AO.au em
 cases d with
 | int i=>cases em;exact ⟨A,B,Γ,_,r,e1,λv A1 H1 g1 p1=>⟨i,p1.int,k A1 H1 g1⟩⟩
 | _=>cases em
section
variable   {A:ke}
open HT in
theorem z9{t sl:Addr}{items:Array a9}{vl vu:a9}{lo hi:C3}(ht:zv s.heap t items)(hs:s.heap.IsSliceOf sl vl vu .none)(pl:xo vl lo)(pu:xo vu hi)
 (hw:sIx items.size 0 lo=0/\sIx items.size items.size hi=items.size) (h:Q (.ref t) s):eI (eL prog w) A (qa (.ref t) (.ref sl)) Q E s:=by
 obtain ⟨os,hos,hcs,hds⟩:=id hs;have hTs:s.TypeIs (.ref sl) "slice" := ⟨os,hos,hcs⟩;unfold qa
 try with_reducible refine lh ?_
 first | refine ag (bo ?_) | skip
 refine ag (w9 ht.typeIs (by decide) ?_);refine ag (gE ht.typeIs fI
  (fR fI ht.typeIs entry_tuple_getitem ?_ (args_tuple_getitem _ _)))
 show eI _ _ (oP (.ref t) >>= _) _ _ s;refine ag (tupleItemsOf_ ht (ag (y6 hTs ?_)));rw[if_pos (by decide)];refine ag (sY hs pl pu ?_);show eI _ _ (if (((sIx items.size 0 lo:Nat):Int) == 0&&(1:Int) == 1&&(sIx items.size items.size hi - sIx items.size 0 lo) == items.size)=true then _ else _) _ _ s;rw[hw.1,hw.2,if_pos (by simp)];refine ag (ag (y6 ht.typeIs (bo ?_)));rw[if_pos (by decide)];exact ag (vT (bo ⟨_,rfl,bo h⟩))
end
def ac1(K:aw):V->C3->C3->Hp->VK->Prop:=λx lo hi H Q=>∃a xs,x= .ref a/\SqT K H a xs /\
 (HT.sIx xs.length 0 lo=0/\HT.sIx xs.length xs.length hi=xs.length)/\Q (.ref a) H
theorem Y8:SlR X (ac1 X.K):=by
 rintro AK s σ H x v vl vu lo hi sl Q I rx hs pl pu ⟨a,xs,rfl,hx,hw,q⟩;cases rx;obtain ⟨AM,r,ht,hz⟩:=I.tuple hx;have hlen:AM.toArray.size=xs.length:=by rw[cK];exact r.length.symm
 refine ⟨"tuple",_,fI.lookup,ht.typeIs,?_⟩;exact z9 ht hs pl pu (by rw[hlen];exact hw) ⟨.ref a,H,I,rfl,q⟩
theorem U0{lo hi:C3}(h:HT.sIx ds.length 0 lo=0/\HT.sIx ds.length ds.length hi=ds.length):cutD ds lo hi=ds:=by
 rw[cutD,h.1,h.2,we,Nat.sub_zero,eD]
def ae1(K:aw):V->C3->C3->Hp->VK->Prop:=λx lo hi H Q=>adz K x lo hi H Q\/acr K x lo hi H Q\/ac1 K x lo hi H Q
theorem afl:SlR X (ae1 X.K):=by
 intro AK s σ H x v vl vu lo hi sl Q I rx hs pl pu h;rcases h with h | h | h
 . exact ZQ AK s σ H x v vl vu lo hi sl Q I rx hs pl pu h
 . exact acI AK s σ H x v vl vu lo hi sl Q I rx hs pl pu h
 . exact Y8 AK s σ H x v vl vu lo hi sl Q I rx hs pl pu h
theorem aA.cut(h:aA K A ds vs)(lo hi:C3):aA K A (cutD ds lo hi) (yf vs lo hi):=by
 unfold cutD yf;rw[<- h.length];exact (h.drop _).take _
theorem aep(ha:QE X a (tP X.K O m))(hl:QO X lo (tO X.K O ml))(hh:QO X hi (tO X.K O mh)):QE X (.Subscript a (.Slice lo hi none p2) pos) (tE X.K O (eSl m ml mh)):=QE.imp (Xy afl ha.h hl.h hh.h) λσ H Q az=>by
 obtain ⟨A,B,Γ,d,r,em,k⟩:=az;obtain ⟨d1,e1,em⟩:=AO.au em;obtain ⟨l,e2,em⟩:=AO.au em;obtain ⟨h,e3,em⟩:=AO.au em;refine ⟨A,B,Γ,d1,r,e1,λv A1 H1 g1 p1=>⟨A1,B,Γ,l,r.grow g1,e2,λA2 H2 g2=>⟨A2,B,Γ,h,(r.grow g1).grow g2,e3,λA3 H3 g3=>?_⟩⟩⟩;have g:=(g1.trans g2).trans g3;have p3:=p1.mono (g2.trans g3).aa (g2.trans g3).hh
 cases d1 with
 | list ds=>
  cases em;obtain ⟨q,vs,rfl,h1,q1⟩:=p3.list g3.ah;refine .inl ⟨q,vs,rfl,h1,λt ht=>?_⟩;have gn:=aZ.new (o:=.lst (yf vs l h)) g3.ah ht;exact k _ _ _ (g.trans gn) (Rp.list.mpr ⟨t,_,rfl,SqL.of aU,aA.mono gn.aa _ (q1.cut l h)⟩)
 | tuple ds=>
  cases em;have rp:=p3.mq (λ_ z=>nomatch z) (λ_ z=>nomatch z);obtain ⟨q,vs,rfl,h1,q1⟩:=p3.tuple g3.ah
  by_cases hc:HT.sIx ds.length 0 l=0/\HT.sIx ds.length ds.length h=ds.length
  . refine .inr (.inr ⟨q,vs,rfl,h1,by rw[<- q1.length];exact hc,?_⟩);rw[U0 hc] at k;exact k _ _ _ g rp
  refine .inr (.inl ⟨q,vs,rfl,h1,by rw[<- q1.length];exact hc,λt ht=>?_⟩);have gn:=aZ.new (o:=.tup (yf vs l h)) g3.ah ht;exact k _ _ _ (g.trans gn) (Rp.tuple.mpr ⟨t,_,rfl,SqT.of aU,aA.mono gn.aa _ (q1.cut l h)⟩)
 | _=>cases em
end
theorem bL{α:Type}{l:List α}{x d:α}(h:i<l.length):(l.set i x).getD i d=x:=by
 rw[ae,mm h];rfl
variable {j:Nat}
theorem aR{α:Type}{l:List α}{x d:α}(h:i≠j):(l.set i x).getD j d=l.getD j d:=by
 rw[ae,ae,oC h]
variable {p:Addr}{B:Hp}{o:HO}
section
variable       {d:ab}
theorem bh.set(r:bh K A B H O σ Γ)(hi:i < Γ.length)(hO:i<O.length)(p:Rp K A d v):bh K A B H (O.set i .AW) (σ.set i (some v)) (Γ.set i (some d)):=by
 have hs:i < σ.length:=by rw[<- r.len];exact hi
 refine ⟨r.a,r.b,by rw[fx,fx];exact r.len,λj=>?_,λj k hjk h1 h2 h3 h4=>?_⟩
 . by_cases hj:i=j
   . subst hj;unfold fl gv sv;rw[bL hO,bL hi,bL hs];exact λd' e=>⟨v,rfl,by cases e;exact p⟩
   . unfold fl gv sv;rw[aR hj,aR hj,aR hj];exact r.slot j
 . have hj:i≠j:=λz=>by subst z;unfold fl at h1;rw[bL hO] at h1;cases h1
   have hk:i≠k:=λz=>by subst z;unfold fl at h2;rw[bL hO] at h2;cases h2
   unfold fl at h1 h2;unfold gv at h3 h4;rw[aR hj] at h1 h3;rw[aR hk] at h2 h4;unfold sv;rw[aR hj,aR hk];exact r.sep j k hjk h1 h2 h3 h4
theorem bh.afg(r:bh K A B H O σ Γ)(hi:i < Γ.length)(hO:i<O.length)(h1:H p=some o)(h2:A p=none)(h3:B p=none)(h4:jc K A d o)
 (hn:∀j,isO (fl O j)=true->gv Γ j≠none->sv σ j≠some (.ref p)):bh K A B H (O.set i .own) (σ.set i (some (.ref p))) (Γ.set i (some d)):=by
 have hs:i < σ.length:=by rw[<- r.len];exact hi
 refine ⟨r.a,r.b,by rw[fx,fx];exact r.len,λj=>?_,λj k hjk q1 q2 q3 q4=>?_⟩
 . by_cases hj:i=j
   . subst hj;unfold fl gv sv;rw[bL hO,bL hi,bL hs];exact λd' e=>⟨_,rfl,by cases e;exact ⟨p,o,rfl,h1,h2,h3,h4⟩⟩
   . unfold fl gv sv;rw[aR hj,aR hj,aR hj];exact r.slot j
 . unfold fl at q1 q2;unfold gv at q3 q4;unfold sv
   by_cases hj:i=j
   . subst hj;have hk:=hjk;rw[aR hk] at q2 q4;rw[bL hs,aR hk];exact λz=>hn k q2 q4 z.symm
   . rw[aR hj] at q1 q3;rw[aR hj]
     by_cases hk:i=k
     . subst hk;rw[bL hs];exact hn j q1 q3
     . rw[aR hk] at q2 q4;rw[aR hk];exact r.sep j k hjk q1 q2 q3 q4
theorem bh.nY(r:bh K A B H O σ Γ)(h1:isO (fl O j)=true)(h2:gv Γ j≠none):∃d p o,gv Γ j=some d/\sv σ j=some (.ref p)/\H p=some o/\A p=none/\B p=none/\jc K A d o:=by
 cases e:gv Γ j with
 | none=>exact absurd e h2
 | some d=>
  obtain ⟨v,e1,q⟩:=r.slot j d e
  cases hf:fl O j with
  | AW=>rw[hf] at h1;cases h1
  | AV=>rw[hf] at h1;cases h1
  | own=>
   rw[hf] at q;obtain ⟨p,o,rfl,q⟩:=q;exact ⟨d,p,o,rfl,e1,q⟩
  | fix p0=>
   rw[hf] at q;obtain ⟨_,p,o,rfl,q⟩:=q;exact ⟨d,p,o,rfl,e1,q⟩
  | exc C=>rw[hf] at h1;cases h1
  | nst b=>rw[hf] at h1;cases h1
  | kit=>rw[hf] at h1;cases h1
theorem bh.fresh(r:bh K A B H O σ Γ)(g:aZ A H A' H')(hi:i < Γ.length)(hO:i<O.length)(h0:H p=none)(h1:H' p=some o)(h2:A' p=none)(h4:jc K A' d o) :
 bh K A' B H' (O.set i .own) (σ.set i (some (.ref p))) (Γ.set i (some d)):=by
 refine (r.grow g).afg hi hO h1 h2 (r.b.free h0) h4 λj q1 q2 z=>?_;obtain ⟨d',p',o',e1,e2,e3,_⟩:=r.nY q1 q2;rw[e2] at z;cases z;rw[h0] at e3;cases e3
theorem bh.freeze(r:bh K A B H O σ Γ)(hi:fl O i= .own)(hO:i<O.length):∃A',aF A A'/\New A A' B/\bh K A' B H (O.set i .AW) σ Γ:=by
 by_cases hg:gv Γ i=none
 . refine ⟨A,aF.refl _,λ_ h _=>h,r.a,r.b,r.len,λj=>?_,λj k hjk h1 h2 h3 h4=>?_⟩
   . by_cases hj:i=j
     . subst hj;intro d e;rw[hg] at e;cases e
     . rw[fl,aR hj];exact r.slot j
   . have hj:i≠j:=λz=>by subst z;exact h3 hg
     have hk:i≠k:=λz=>by subst z;exact h4 hg
     unfold fl at h1 h2;rw[aR hj] at h1;rw[aR hk] at h2;exact r.sep j k hjk h1 h2 h3 h4
 . have hiO:isO (fl O i)=true:=by rw[hi];rfl
   obtain ⟨d,p,o,e1,e2,h1,h2,h3,h4⟩:=r.nY hiO hg;have s:=aF.new h2 o;refine ⟨AU A p o,s,λq n1 n2=>?_,λb u q=>?_,r.b,r.len,λj=>?_,λj k hjk q1 q2 q3 q4=>?_⟩
   . have hq:q≠p:=λz=>n2 (z ▸ h3);rw[aH hq];exact n1
   . by_cases hb:b=p
     . subst hb;rw[aU] at q;rw[h1];exact q
     . rw[aH hb] at q;exact r.a b u q
   . by_cases hj:i=j
     . subst hj;rw[fl,bL hO];intro d' e';rw[e1] at e';cases e';refine ⟨_,e2,?_⟩;exact h4.share s
     . rw[fl,aR hj];intro d' e';obtain ⟨v',e'',q⟩:=r.slot j d' e';refine ⟨v',e'',?_⟩
       cases hf:fl O j with
       | AW=>rw[hf] at q;unfold fl at hf;rw[hf];exact Rp.mono s d' q
       | AV=>rw[hf] at q;unfold fl at hf;rw[hf];exact Pk.mono s (aF.refl _) q
       | own=>
        rw[hf] at q;have hf':=hf;unfold fl at hf;rw[hf];obtain ⟨p',o',rfl,g1,g2,g3,g4⟩:=q;refine ⟨p',o',rfl,g1,?_,g3,g4.mono s⟩;have hne:p'≠p:=λz=>by
         refine r.sep i j hj hiO (by rw[hf'];rfl) hg (by rw[e'];simp) ?_;rw[e2,e'',z]
        rw[aH hne];exact g2
       | fix p0=>
        rw[hf] at q;have hf':=hf;unfold fl at hf;rw[hf];obtain ⟨q0,p',o',rfl,g1,g2,g3,g4⟩:=q;refine ⟨q0,p',o',rfl,g1,?_,g3,g4.mono s⟩;have hne:p'≠p:=λz=>by
         refine r.sep i j hj hiO (by rw[hf'];rfl) hg (by rw[e'];simp) ?_;rw[e2,e'',z]
        rw[aH hne];exact g2
       | kit=>rw[hf] at q;unfold fl at hf;rw[hf];exact qI.mono s q
       | exc C=>
        rw[hf] at q;unfold fl at hf;rw[hf];obtain ⟨p',ob,w1,w2,w3⟩:=q;exact ⟨p',ob,w1,s _ _ w2,w3⟩
       | nst b=>
        rw[hf] at q;unfold fl at hf;rw[hf];intro z;obtain ⟨p',xs,kvs,w1,w2,w3,w4,w5,w6⟩:=q z;refine ⟨p',xs,kvs,w1,w2,w3,?_,w5,w6.mono s⟩;have hne:p'≠p:=λz=>by subst z;rw[h1] at w3;exact h4.nx w3
        rw[aH hne];exact w4
   . have hj:i≠j:=λz=>by subst z;unfold fl at q1;rw[bL hO] at q1;cases q1
     have hk:i≠k:=λz=>by subst z;unfold fl at q2;rw[bL hO] at q2;cases q2
     unfold fl at q1 q2;rw[aR hj] at q1;rw[aR hk] at q2;exact r.sep j k hjk q1 q2 q3 q4
theorem bh.change{o':HO}{d':ab}(r:bh K A B H O σ Γ)(hi:isO (fl O i)=true)(hl:i < Γ.length)(he:gv Γ i≠none)(hs:sv σ i=some (.ref p))(h1:H p=some o)(h4:jc K A d' o') :
 bh K A B (AU H p o') O σ (Γ.set i (some d')):=by
 obtain ⟨d,p',o0,e1,e2,g1,g2,g3,g4⟩:=r.nY hi he;rw[hs] at e2;cases e2;refine ⟨λb u q=>?_,λb u q=>?_,by rw[fx];exact r.len,λj=>?_,λj k hjk q1 q2 q3 q4=>?_⟩
 . have hb:b≠p:=λz=>by rw[z,g2] at q;cases q
   rw[aH hb];exact r.a b u q
 . have hb:b≠p:=λz=>by rw[z,g3] at q;cases q
   rw[aH hb];exact r.b b u q
 . by_cases hj:i=j
   . subst hj;rw[gv,bL hl];intro d'' e;cases e;refine ⟨_,hs,?_⟩
     cases hf:fl O i with
     | AW=>rw[hf] at hi;cases hi
     | AV=>rw[hf] at hi;cases hi
     | own=>exact ⟨p,o',rfl,aU,g2,g3,h4⟩
     | fix p0=>
      obtain ⟨v',ev,q⟩:=r.slot i d e1;rw[hf] at q;rw[hs] at ev;cases ev;exact ⟨q.1,p,o',rfl,aU,g2,g3,h4⟩
     | exc C=>rw[hf] at hi;cases hi
     | nst b=>rw[hf] at hi;cases hi
     | kit=>rw[hf] at hi;cases hi
   . rw[gv,aR hj];intro d'' e'';obtain ⟨v',ev,q⟩:=r.slot j d'' e'';refine ⟨v',ev,?_⟩
     cases hf:fl O j with
     | AW=>rwa [hf] at q
     | AV=>rwa [hf] at q
     | own=>
      rw[hf] at q;obtain ⟨p',o',rfl,u1,u2,u3,u4⟩:=q;refine ⟨p',o',rfl,?_,u2,u3,u4⟩;have hne:p'≠p:=λz=>by
       refine r.sep i j hj hi (by rw[hf];rfl) he (by rw[gv,e''];simp) ?_;rw[hs,ev,z]
      rw[aH hne];exact u1
     | fix p0=>
      rw[hf] at q;obtain ⟨q0,p',o',rfl,u1,u2,u3,u4⟩:=q;refine ⟨q0,p',o',rfl,?_,u2,u3,u4⟩;have hne:p'≠p:=λz=>by
       refine r.sep i j hj hi (by rw[hf];rfl) he (by rw[gv,e''];simp) ?_;rw[hs,ev,z]
      rw[aH hne];exact u1
     | kit=>rwa [hf] at q
     | exc C=>rwa [hf] at q
     | nst b=>
      rw[hf] at q;intro z;obtain ⟨p',xs,kvs,w1,w2,w3,w4,w5,w6⟩:=q z;have hne:p'≠p:=λz=>by subst z;rw[g1] at w3;exact g4.nx w3
      exact ⟨p',xs,kvs,w1,w2,by rw[aH hne];exact w3,w4,w5,w6⟩
 . have h3:gv Γ j≠none:=by
    by_cases hj:i=j
    . subst hj;exact he
    . unfold gv at q3 ⊢;rwa [aR hj] at q3
   have h4':gv Γ k≠none:=by
    by_cases hk:i=k
    . subst hk;exact he
    . unfold gv at q4 ⊢;rwa [aR hk] at q4
   exact r.sep j k hjk q1 q2 h3 h4'
theorem bh.weak{Γ':Ev}(r:bh K A B H O σ Γ)(hl:Γ'.length=Γ.length)(h:∀j,gv Γ' j=none\/gv Γ' j=gv Γ j):bh K A B H O σ Γ':=by
 have h':∀j,gv Γ' j≠none->gv Γ j≠none:=λj n=>by
  rcases h j with z | z
  . exact absurd z n
  . rw[<- z];exact n
 refine ⟨r.a,r.b,hl.trans r.len,λj d e=>?_,λj k hjk q1 q2 q3 q4=>r.sep j k hjk q1 q2 (h' j q3) (h' k q4)⟩;rcases h j with z | z
 . rw[z] at e;cases e
 . rw[z] at e;exact r.slot j d e
end
noncomputable def clr(l:B5)(Γ:Ev):Ev:=l.foldl (λΓ i=>Γ.set i none) Γ
theorem DG:∀(l:B5) (Γ:Ev),(clr l Γ).length=Γ.length/\∀j,gv (clr l Γ) j=none\/gv (clr l Γ) j=gv Γ j
 | [],Γ=>⟨rfl,λ_=>.inr rfl⟩
 | i::l,Γ=>by
  obtain ⟨h1,h2⟩:=DG l (Γ.set i none);refine ⟨h1.trans (fx ..),λj=>?_⟩;rcases h2 j with z | z
  . exact .inl z
  . by_cases hj:i=j
    . subst hj;left;show gv (clr l (Γ.set i none)) i=none;rw[z];rw[gv,ae]
      by_cases hi:i < Γ.length
      . rw[mm hi];rfl
      . rw[fh (by rw[fx];lia)];rfl
    . right;show gv (clr l (Γ.set i none)) j=gv Γ j;rw[z];exact aR hj
theorem bh.clr(r:bh K A B H O σ Γ)(l:B5):bh K A B H O σ (Zq.clr l Γ):=r.weak (DG l Γ).1 (DG l Γ).2
inductive Rm where
 | f | t | m (p:Addr)
def WT(K:aw)(rm:Rm)(B A' H':Hp)(d:ab)(v:V):Prop:=match rm with
 | .f=>Rp K A' d v
 | .t=>yt K B A' H' d v
 | .m p=>∃d1 dm o,d= .tuple [d1,dm]/\Rp K A' d1 v/\H' p=some o/\A' p=none/\jc K A' dm o
def uc(K:aw)(rm:Rm)(Ol O':B9)(A B:Hp)(D:Ends):Out->Prop
 | .nx Γ'=>∀σ' A' H',bh K A' B H' O' σ' Γ'->aF A A'->New A A' B->D.nx σ' H'
 | .bk Γ'=>∀σ' A' H',bh K A' B H' Ol σ' Γ'->aF A A'->New A A' B->D.bk σ' H'
 | .ct Γ'=>∀σ' A' H',bh K A' B H' Ol σ' Γ'->aF A A'->New A A' B->D.ct σ' H'
 | .rt d=>∀v A' H',aF A' H'->aF B H'->aF A A'->New A A' B->WT K rm B A' H' d v->D.rt v H'
def tS(K:aw)(rm:Rm)(Ol O O':B9)(m:MS):TS:=λD σ H=>∃A B Γ o,bh K A B H O σ Γ/\m Γ = .ok o/\uc K rm Ol O' A B D o
variable {rm:Rm}{Ol O':B9}
section
variable    {A1 H1:Hp}{D:Ends}{o:Out}
theorem uc.sub(sa:aF A A1)(nw:New A A1 B)(h:uc K rm Ol O' A B D o):uc K rm Ol O' A1 B D o:=by
 cases o with
 | nx Γ=>exact λσ' A' H' r s n=>h σ' A' H' r (sa.trans s) (nw.trans n)
 | bk Γ=>exact λσ' A' H' r s n=>h σ' A' H' r (sa.trans s) (nw.trans n)
 | ct Γ=>exact λσ' A' H' r s n=>h σ' A' H' r (sa.trans s) (nw.trans n)
 | rt d=>exact λv A' H' s1 s2 s n=>h v A' H' s1 s2 (sa.trans s) (nw.trans n)
theorem aZ.nB(g:aZ A H A1 H1)(b:aF B H):New A A1 B:=g.nw.mono b
end
noncomputable def cQ:MS:=λΓ=>.ok (.nx Γ)
noncomputable def aJ(a b:MS):MS:=λΓ=>(a Γ).bind λo=>match o with
 | .nx Γ'=>b Γ'
 | .rt d=>.ok (.rt d)
 | .bk Γ'=>.ok (.bk Γ')
 | .ct Γ'=>.ok (.ct Γ')
noncomputable def aW(i:Nat)(m:ME):MS:=λΓ=>(m Γ).bind λd=>gd (i < Γ.length) (.ok (.nx (Γ.set i (some d))))
noncomputable def sIf(c:ME)(a b:MS):MS:=λΓ=>(c Γ).bind λx=>match x with
 | .bool true=>a Γ
 | .bool false=>b Γ
 | _=>.bad
noncomputable def bF(m:ME):MS:=λΓ=>(m Γ).bind λd=>.ok (.rt d)
noncomputable def sEx(m:ME):MS:=λΓ=>(m Γ).bind λ_=>.ok (.nx Γ)
noncomputable def Ef:MS:=λ_=>.bad
variable {O1 O2:B9}{pos':Pos}
section
variable      {m1 m2:MS}  {st:Stmt}{rest a b:C5}
theorem bZ:QSs X [] (tS K rm Ol O O cQ):=QSs.imp YH λD σ H az=>by
 obtain ⟨A,B,Γ,o,r,em,k⟩:=az;cases em;exact k σ A H r (aF.refl _) λ_ h _=>h
theorem bI(h1:QS X st (tS K rm Ol O O1 m1))(h2:QSs X rest (tS K rm Ol O1 O2 m2)):QSs X (st::rest) (tS K rm Ol O O2 (aJ m1 m2)):=QSs.imp (WQ h1.h h2.h) λD σ H az=>by
 obtain ⟨A,B,Γ,o,r,em,k⟩:=az;obtain ⟨o1,e1,em⟩:=AO.au em
 cases o1 with
 | nx Γ1=>exact ⟨A,B,Γ,_,r,e1,λσ' A' H' r' sa nw=>⟨A',B,Γ1,o,r',em,k.sub sa nw⟩⟩
 | rt d=>cases em;exact ⟨A,B,Γ,_,r,e1,k⟩
 | bk d=>cases em;exact ⟨A,B,Γ,_,r,e1,k⟩
 | ct d=>cases em;exact ⟨A,B,Γ,_,r,e1,k⟩
theorem aB(h1:QS X st (tS K rm Ol O O1 m1)):QSs X [st] (tS K rm Ol O O1 m1):=⟨aaI h1.h⟩
theorem Jc(i:Nat)(h:QS X st (tS K rm Ol O2 O' m1))(hO:O.set i .AW=O2:=by rfl)(hi:fl O i= .own:=by rfl)(hl:i<O.length:=by exact of_decide_eq_true rfl):QS X st (tS K rm Ol O O' m1):=QS.imp (hO ▸ h.h) λD σ H az=>by
 obtain ⟨A,B,Γ,o,r,em,k⟩:=az;obtain ⟨A',sa,nw,r'⟩:=r.freeze hi hl;exact ⟨A',B,Γ,o,r',em,k.sub sa nw⟩
theorem Vv{te:TE}(h:∀σ H Q,tE K O m σ H Q->te σ H Q)(hl:i<O.length){D:Ends}{σ:St}{H:Hp}(q:tS K rm Ol O (O.set i .AW) (aW i m) D σ H):Qx te (CQ i) D σ H:=by
 obtain ⟨A,B,Γ,o,r,em,k⟩:=q;obtain ⟨d,e1,em⟩:=AO.au em;obtain ⟨hi,em⟩:=b7 em;cases em;refine h σ H _ ⟨A,B,Γ,d,r,e1,λv A' H' g p=>?_⟩;exact k _ A' H' ((r.grow g).set hi hl p) g.aa (g.nB r.b)
theorem xn{te:TE}(h:∀σ H Q,tF K O m σ H Q->te σ H Q)(hl:i<O.length){D:Ends}{σ:St}{H:Hp}(q:tS K rm Ol O (O.set i .own) (aW i m) D σ H):Qx te (CQ i) D σ H:=by
 obtain ⟨A,B,Γ,o,r,em,k⟩:=q;obtain ⟨d,e1,em⟩:=AO.au em;obtain ⟨hi,em⟩:=b7 em;cases em;refine h σ H _ ⟨A,B,Γ,d,r,e1,λv A' H' g p=>?_⟩;obtain ⟨p,o,rfl,h0,h1,h2,h4⟩:=p;exact k _ A' H' (r.fresh g hi hl h0 h1 h2 h4) g.aa (g.nB r.b)
theorem aci(i:Nat)(hN:X.N.Nodup)(hi:X.N[i]?=some x)(hx:Loc X.env.scope x)(he:QE X e (tE K O m))(hl:i<O.length:=by exact of_decide_eq_true rfl)(hs:h9 e (some (.Name x pos')) pos.line X.env=pure false:=by rfl)
 (hf:X.fn x=true\/X.env.scope.names.lookup x=some .local:=by walk_at "hf") (hO:O.set i .AW=O2:=by rfl):QS X (.Assign [.Name x pos'] e pos) (tS K rm Ol O O2 (aW i m)):=
 hO ▸ QS.imp (Dh hN hi hx he.h hs hf) λD σ H=>Vv (λ_ _ _ z=>z) hl
theorem Zc(i:Nat)(hN:X.N.Nodup)(hi:X.N[i]?=some x)(hx:Loc X.env.scope x)(he:QE X e (tF K O m))(hl:i<O.length:=by exact of_decide_eq_true rfl)(hs:h9 e (some (.Name x pos')) pos.line X.env=pure false:=by rfl)
 (hf:X.fn x=true\/X.env.scope.names.lookup x=some .local:=by walk_at "hf") (hO:O.set i .own=O2:=by rfl):QS X (.Assign [.Name x pos'] e pos) (tS K rm Ol O O2 (aW i m)):=
 hO ▸ QS.imp (Dh hN hi hx he.h hs hf) λD σ H=>xn (λ_ _ _ z=>z) hl
theorem cF(hc:QT X c (tT K O m))(ha:QSs X a (tS K rm Ol O O' m1))(hb:QSs X b (tS K rm Ol O O' m2)):QS X (.If c a b pos) (tS K rm Ol O O' (sIf m m1 m2)):=QS.imp (ad7 hc.h ha.h hb.h) λD σ H az=>by
 obtain ⟨A,B,Γ,o,r,em,k⟩:=az;obtain ⟨d1,e1,em⟩:=AO.au em
 cases d1 with
 | bool bb=>
  refine ⟨A,B,Γ,bb,r,e1,λA1 H1 g1=>?_⟩
  cases bb with
  | true=>exact Bc ⟨A1,B,Γ,o,r.grow g1,em,k.sub g1.aa (g1.nB r.b)⟩
  | false=>exact Bh ⟨A1,B,Γ,o,r.grow g1,em,k.sub g1.aa (g1.nB r.b)⟩
 | _=>cases em
theorem bA(he:QE X e (tE K O m)):QS X (.Return (some e) pos) (tS K .f Ol O O' (bF m)):=QS.imp (yF he.h) λD σ H az=>by
 obtain ⟨A,B,Γ,o,r,em,k⟩:=az;obtain ⟨d1,e1,em⟩:=AO.au em;cases em;exact ⟨A,B,Γ,d1,r,e1,λv A' H' g p=>k v A' H' g.ah (r.b.trans g.hh) g.aa (g.nB r.b) p⟩
theorem rH(he:QE X e (tF K O m)):QS X (.Return (some e) pos) (tS K .t Ol O O' (bF m)):=QS.imp (yF he.h) λD σ H az=>by
 obtain ⟨A,B,Γ,o,r,em,k⟩:=az;obtain ⟨d1,e1,em⟩:=AO.au em;cases em;refine ⟨A,B,Γ,d1,r,e1,λv A' H' g p=>k v A' H' g.ah (r.b.trans g.hh) g.aa (g.nB r.b) ?_⟩;obtain ⟨q,o,e,h1,h2⟩:=p;exact ⟨q,o,e,r.b.free h1,h2⟩
theorem lJ(i:Nat)(hi:fl O i= .own:=by rfl)(nm:Nm X i x:=by walk_at "nm"):QS X (.Return (some (.Name x pos')) pos) (tS K .t Ol O O' (bF (aj i))):=QS.imp (yF (dW nm.1 nm.2 nm.3 nm.4)) λD σ H az=>by
 obtain ⟨A,B,Γ,o,r,em,k⟩:=az;obtain ⟨d1,e1,em⟩:=AO.au em;cases em;obtain ⟨v,e2,q⟩:=r.slot i d1 (rE e1);rw[hi] at q;refine ⟨v,dU e2,k v A H r.a r.b (aF.refl _) (λ_ h _=>h) ?_⟩;obtain ⟨pos',o,e,h1,h2,h3,h4⟩:=q;exact ⟨pos',o,e,h3,h1,h2,h4⟩
theorem KH:QS X st (tS K rm Ol O O' Ef):=QS.imp Wz λD σ H az=>by obtain ⟨A,B,Γ,o,r,em,k⟩:=az;cases em
theorem aeU(he:QE X e (tP K O m))(hs:h9 e none pos.line X.env=pure false:=by rfl):QS X (.Expr e pos) (tS K rm Ol O O (sEx m)):=QS.imp (o7 he.h hs) λD σ H az=>by
 obtain ⟨A,B,Γ,o,r,em,k⟩:=az;obtain ⟨d1,e1,em⟩:=AO.au em;cases em;exact ⟨A,B,Γ,d1,r,e1,λv A' H' g p=>k σ A' H' (r.grow g) g.aa (g.nB r.b)⟩
end
def spF(K:aw)(fs:B9)(rm:Rm)(f:B4->AO ab):Sp:=λvs H Q _=>∃A ds d,aF A H/\pZ K A H fs ds vs/\f ds= .ok d/\∀v A' H',aZ A H A' H'->WT K rm H A' H' d v->Q v H'
theorem pZ.length:∀{fs:B9}{ds:B4}{vs:C0},pZ K A H fs ds vs->vs.length=fs.length/\ds.length=fs.length
 | [],ds,vs,h=>by obtain ⟨rfl,rfl⟩:=h;exact ⟨rfl,rfl⟩
 | f::fs,ds,vs,h=>by
  obtain ⟨d,r,v,s,rfl,rfl,_,h⟩:=h;have:=h.length;exact ⟨by rw[bt,bt,this.1],by rw[bt,bt,this.2]⟩
noncomputable def aO(f:B4->AO ab)(ms:List ME):ME:=λΓ=>(evs ms Γ).bind f
variable {ps:B6}
section
variable  {k:Nat}   {fs:B9}{f:B4->AO ab}   {p:Pos}
theorem jU(F:Def X.prog X.w X.K X.mg X.base k x ps (spF X.K fs .f f))(hr:dF k X.A)(hg:Gl X x)(ha:QA X (e::es) (tAr X.K O fs ms))(hdb:nD x:=by decide)
 (he:Bn e=true:=by rfl) (hpl:iD es=true:=by rfl):QE X (.Call (.Name x p) (e::es) [] pos) (tE X.K O (aO f ms)):=
 QE.imp (CK F hr hg ha.h hdb (cN he) (iY hpl)) λσ H Q az=>by
  obtain ⟨A,B,Γ,d,r,em,k⟩:=az;obtain ⟨ds,e1,em⟩:=AO.au em;refine ⟨A,B,Γ,ds,r,e1,λvs A1 H1 g1 p1=>?_⟩;show spF X.K fs .f f (vs++[]) H1 Q E0;rw[dA];exact ⟨A1,ds,d,g1.ah,p1,em,λv A' H' g p=>k v A' H' (g1.trans g) p⟩
theorem FT(F:Def X.prog X.w X.K X.mg X.base k x ps (spF X.K fs .t f))(hr:dF k X.A)(hg:Gl X x)(ha:QA X (e::es) (tAr X.K O fs ms))(hdb:nD x:=by decide)
 (he:Bn e=true:=by rfl) (hpl:iD es=true:=by rfl):QE X (.Call (.Name x p) (e::es) [] pos) (tF X.K O (aO f ms)):=
 QE.imp (CK F hr hg ha.h hdb (cN he) (iY hpl)) λσ H Q az=>by
  obtain ⟨A,B,Γ,d,r,em,k⟩:=az;obtain ⟨ds,e1,em⟩:=AO.au em;refine ⟨A,B,Γ,ds,r,e1,λvs A1 H1 g1 p1=>?_⟩;show spF X.K fs .t f (vs++[]) H1 Q E0;rw[dA];refine ⟨A1,ds,d,g1.ah,p1,em,λv A' H' g p=>k v A' H' (g1.trans g) ?_⟩;obtain ⟨q,o,e,h1,h2⟩:=p;exact ⟨q,o,e,g1.hh.free h1,h2⟩
end
noncomputable def fnR(n:Nat)(m:MS)(ds:B4):AO ab:=(m (ds.map some++ax (n - ds.length) none)).bind λo=>match o with
 | .rt d=>.ok d
 | _=>.bad
variable {P:ia}{mg:Str->B7}{N:B6}
section
variable     {base:Heap}
theorem p6:∀{ds:B4}{vs:C0},aF A H->pZ K A H Ol ds vs->(∀i,i<Ol.length->(fl O i= .AW/\fl Ol i= .AW)\/fl O i= .AV)->Ol.length<=N.length ->
 bh K A H H O (Zq.start N vs) (ds.map some++ax (N.length - ds.length) none):=by
 intro ds vs ha h hO hn;have hl:=h.length;have one:∀(Ol:B9) (ds:B4) (vs:C0),pZ K A H Ol ds vs->∀i d,ds[i]?=some d->∃v,vs[i]?=some v/\BL K A H (fl Ol i) d v:=by
  intro Ol
  induction Ol with
  | nil=>intro ds vs h i d e;obtain ⟨rfl,rfl⟩:=h;simp at e
  | cons f Ol ih=>
   intro ds vs h i d e;obtain ⟨d0,r,v,s,rfl,rfl,h1,h⟩:=h
   match i with
   | 0=>simp at e;subst e;exact ⟨v,rfl,h1⟩
   | i+1=>
    obtain ⟨v',h2,h3⟩:=ih r s h i d (by simpa using e);exact ⟨v',by simpa using h2,h3⟩
 have gvN:∀i,gv (ds.map some++ax (N.length - ds.length) none) i=ds[i]?:=λi=>by
  rw[gv,ae];rcases gy i ds.length with h | h
  . rw[cq (by simpa using h),br,av h];rfl
  . rw[b9 (by simpa using h),iO,fh h];split <;> rfl
 have svN:∀i v,vs[i]?=some v->sv (Zq.start N vs) i=some v:=λi v e=>by
  unfold sv Zq.start;rw[ae];have h:=(aS.mp e).1;rw[cq (by simpa using h),br,e];rfl
 refine ⟨ha,aF.refl _,?_,λi d e=>?_,λi j hij h1 h2 h3 h4=>?_⟩
 . rw[Zq.start,ai,ai,af,af,ck,ck];lia
 . rw[gvN] at e;obtain ⟨v,e1,q⟩:=one Ol ds vs h i d e;refine ⟨v,svN i v e1,?_⟩;have hi:i<Ol.length:=by rw[<- hl.2];exact (aS.mp e).1
   rcases hO i hi with ⟨z,z'⟩ | z
   . rw[z];rwa [z'] at q
   . rw[z]
     cases hf:fl Ol i with
     | AW=>rw[hf] at q;exact .inl q
     | AV=>rwa [hf] at q
     | own=>rwa [hf] at q
     | fix p0=>rwa [hf] at q
     | exc C=>rwa [hf] at q
     | nst b=>rwa [hf] at q
     | kit=>rwa [hf] at q
 . rw[gvN] at h3;have hi:i<Ol.length:=by
    rw[<- hl.2];rcases gy i ds.length with h | h
    . exact h
    . exact absurd (fh h) h3
   rcases hO i hi with ⟨z,_⟩ | z <;> rw[z] at h1 <;> cases h1
theorem aaF{st:Stmt}{fd:nS}{fs:B9}{m:MS}(F:Fun K x x st p fd)(S:cX N ps (aN st))(hf:fs.length=ps.length)(hn:ps.length<=N.length)
 (hO:∀i,i<fs.length->(fl O i= .AW/\fl fs i= .AW)\/fl O i= .AV)
 (hbody:∀(f:Addr) (AN:a9) (A:ke) (BA:C6) (s:dy) (H:Hp) (E:XK),dF j (A.deeper (oD x (aN st) s.heap.objs.size f AN)) ->
  QSs (mL CX0 P w K mg base N x (aN st) f AN A BA s H E).nox (bR st) (tS K rm Ol O O' m)):sJ P w K mg base CX0 (j+1) p fd ps (spF K fs rm (fnR N.length m)):=by
 refine F.ok S (λvs H Q E h=>?_) (λAN A BA s H vs Q E hr h=>?_)
 . obtain ⟨A,ds,d,_,h,_⟩:=h;rw[h.length.1,hf]
 . obtain ⟨A',ds,d,ha,h,em,q⟩:=h;obtain ⟨o,e1,em⟩:=AO.au em
   cases o with
   | rt d'=>
    cases em;refine ⟨_,(hbody p AN A BA s H E hr).h,A',H,_,_,p6 ha h hO (by lia),e1,λv A2 H2 s1 s2 sa nw rv=>q v A2 H2 ⟨sa,s2,s1,nw⟩ rv⟩
   | _=>cases em
theorem Zb{st:Stmt}{k:Nat}(F:At K mg x st ps)(S:cX N ps (aN st)):Def P w K mg base (k+1) x ps (spF K O rm (λ_=>.bad)):=by
 refine F.ok S (λvs H Q E h=>?_) (λf AN A BA s H vs Q E hr h=>?_)
 . obtain ⟨A,ds,d,_,_,em,_⟩:=h;cases em
 . obtain ⟨A,ds,d,_,_,em,_⟩:=h;cases em
theorem adI{st:Stmt}{m:MS}(F:At K mg x st ps)(S:cX N ps (aN st))(hf:O1.length=ps.length)(hn:ps.length<=N.length)
 (hO:∀i,i<O1.length->(fl O i= .AW/\fl O1 i= .AW)\/fl O i= .AV)
 (hbody:∀(f:Addr) (AN:a9) (A:ke) (BA:C6) (s:dy) (H:Hp) (E:XK),dF j (A.deeper (oD x (aN st) s.heap.objs.size f AN)) ->
  QSs (mL CX0 P w K mg base N x (aN st) f AN A BA s H E).nox (bR st) (tS K rm Ol O O' m)):Def P w K mg base (j+1) x ps (spF K O1 rm (fnR N.length m)):=by
 refine F.ok S (λvs H Q E h=>?_) (λf AN A BA s H vs Q E hr h=>?_)
 . obtain ⟨A,ds,d,_,h,_⟩:=h;rw[h.length.1,hf]
 . obtain ⟨A',ds,d,ha,h,em,q⟩:=h;obtain ⟨o,e1,em⟩:=AO.au em
   cases o with
   | rt d'=>
    cases em;refine ⟨_,(hbody f AN A BA s H E hr).h,A',H,_,_,p6 ha h hO (by lia),e1,λv A2 H2 s1 s2 sa nw rv=>q v A2 H2 ⟨sa,s2,s1,nw⟩ rv⟩
   | _=>cases em
end
abbrev MI:=Ev->AO B4
structure rN (K:aw) (A B:Hp) (J:It) (xs:B4):Prop where
 go:∀i H,aF A H->aF B H->i<xs.length->J.go i H
 stop:∀H,aF A H->aF B H->J.stop xs.length H
 yld:∀i A2 H x H',aF A A2->aF A2 H->aF B H->i<xs.length->J.yld i H x H'->∃A' d,xs[i]?=some d/\aZ A2 H A' H'/\Rp K A' d x
def tI(K:aw)(O:B9)(it:MI):TI:=λσ H R=>∃A B Γ xs,bh K A B H O σ Γ/\it Γ = .ok xs/\∀J A1 H1,aZ A H A1 H1->rN K A1 B J xs->R J H1
def tIc(K:aw)(O:B9)(it:MI):TI:=λσ H R=>∃A B Γ xs,bh K A B H O σ Γ/\it Γ = .ok xs/\∀J A1 H1,aZ A H A1 H1->rN K A1 H1 J xs->R J H1
def tQ(K:aw)(O:B9)(m:ME):TE:=λσ H Q=>∃A B Γ d,bh K A B H O σ Γ/\m Γ = .ok d/\∀v A' H',aZ A H A' H'->Pk K A' B d v->Q v H'
theorem sq(h:QE X e (tE K O m)):QE X e (tQ K O m):=QE.imp h.h λσ H Q az=>by obtain ⟨A,B,Γ,d,r,em,k⟩:=az;exact ⟨A,B,Γ,d,r,em,λv A' H' g p=>k v A' H' g (.inl p)⟩
theorem gh(i:Nat)(hi:isO (fl O i)=false:=by rfl)(nm:Nm X i x:=by walk_at "nm")(hx:isX (fl O i)=false:=by rfl):QE X (.Name x pos) (tQ K O (aj i)):=QE.imp (dW nm.1 nm.2 nm.3 nm.4) λσ H Q az=>by
 obtain ⟨A,B,Γ,d,r,em,k⟩:=az;obtain ⟨v,e1,q⟩:=r.slot i d (rE em);refine ⟨v,dU e1,k v A H (aZ.refl r.a) ?_⟩
 cases hf:fl O i with
 | AW=>rw[hf] at q;exact .inl q
 | AV=>rwa [hf] at q
 | own=>rw[hf] at hi;cases hi
 | fix p0=>rw[hf] at hi;cases hi
 | exc C=>rw[hf] at hx;cases hx
 | nst b=>rw[hf] at hx;cases hx
 | kit=>rw[hf] at hx;cases hx
theorem Pk.QQ{H:Hp}(h:Pk K A B (.list ds) v):∃p vs,v= .ref p/\aA K A ds vs/\∀H,aF A H->aF B H->SqL K H p vs:=by
 rcases h with h | ⟨p,vs,ds',e1,e2,h1,h2⟩ | ⟨_,_,_,_,e2,_⟩
 . obtain ⟨a,vs,e,h1,h2⟩:=Rp.list.mp h;exact ⟨a,vs,e,h2,λH s _=>s.seq h1⟩
 . cases e2;exact ⟨p,vs,e1,h2,λH _ s=>s.seq h1⟩
 . cases e2
theorem Pk.fX{H:Hp}(h:Pk K A B (.tuple ds) v):∃p vs,v= .ref p/\aA K A ds vs/\∀H,aF A H->SqT K H p vs:=by
 obtain ⟨a,vs,e,h1,h2⟩:=Rp.tuple.mp (h.mq (λ_ z=>nomatch z) (λ_ z=>nomatch z));exact ⟨a,vs,e,h2,λH s=>s.fX h1⟩
theorem aap(hr:aA K A ds vs)(hq:∀H,aF A H->aF B H->SqL K H p vs):rN K A B (Itl K p) ds:=by
 have hl:=hr.length;refine ⟨λi H s1 s2 hi=>?_,λH s1 s2=>⟨vs,hq H s1 s2,by lia⟩,λi A2 H x H' sa s1 s2 hi y=>?_⟩
 . exact ⟨vs,vs[i]'(by lia),hq H s1 s2,av _⟩
 . obtain ⟨rfl,y⟩:=y;have e:=y vs (hq H' (sa.trans s1) s2);obtain ⟨d,e1,q⟩:=hr.get e;exact ⟨A2,d,e1,aZ.refl s1,Rp.mono sa d q⟩
theorem adC(hr:aA K A ds vs)(hq:∀H,aF A H->SqT K H p vs):rN K A B (Itt K p) ds:=by
 have hl:=hr.length;refine ⟨λi H s1 s2 hi=>?_,λH s1 s2=>⟨vs,hq H s1,by lia⟩,λi A2 H x H' sa s1 s2 hi y=>?_⟩
 . exact ⟨vs,vs[i]'(by lia),hq H s1,av _⟩
 . obtain ⟨rfl,y⟩:=y;have e:=y vs (hq H' (sa.trans s1));obtain ⟨d,e1,q⟩:=hr.get e;exact ⟨A2,d,e1,aZ.refl s1,Rp.mono sa d q⟩
theorem Kh(lo:Int)(n:Nat):rN K A B (Itr lo n) ((List.range n).map λi=>ab.int (lo+(i:Nat))):=by
 have hl:((List.range n).map λi=>ab.int (lo+(i:Nat))).length=n:=by rw[af,cS]
 refine ⟨λi H _ _ hi=>(by rwa [hl] at hi),λH _ _=>(by rw[hl];exact ay _),λi A2 H x H' sa s1 s2 hi y=>?_⟩;obtain ⟨rfl,rfl⟩:=y;rw[hl] at hi;exact ⟨A2,.int (lo+i),by rw[br,eP hi];rfl,aZ.refl s1,Rp.int.mpr rfl⟩
theorem acP(hr:aA K A ds vs)(hq:∀H,aF A H->aF B H->SqL K H p vs):rN K A B (Itv K p vs.length) ds.reverse:=by
 have hl:=hr.length;refine ⟨λi H s1 s2 hi=>?_,λH s1 s2=>?_,λi A2 H x H' sa s1 s2 hi y=>?_⟩
 . rw[mf,hl] at hi;exact ⟨hi,vs,vs[vs.length - 1 - i]'(by lia),hq H s1 s2,av _⟩
 . rw[mf,hl];rfl
 . rw[mf,hl] at hi;obtain ⟨rfl,y⟩:=y;have e:=y vs (hq H' (sa.trans s1) s2);have e':vs.reverse[i]?=some x:=by rw[List.getElem?_reverse hi];exact e
   obtain ⟨d,e1,q⟩:=hr.reverse.get e';exact ⟨A2,d,e1,aZ.refl s1,Rp.mono sa d q⟩
noncomputable def eZ(ds:B4):B4:=(List.range ds.length).map λi=>ab.tuple [.int (i:Nat),ds.getD i .none]
theorem Nx(hr:aA K A ds vs)(hq:∀H,aF A H->aF B H->SqL K H p vs):rN K A B (Ite K p) (eZ ds):=by
 have hl:=hr.length;have he:(eZ ds).length=vs.length:=by rw[eZ,af,cS,hl]
 refine ⟨λi H s1 s2 hi=>?_,λH s1 s2=>⟨vs,hq H s1 s2,by lia⟩,λi A2 H x H' sa s1 s2 hi y=>?_⟩
 . exact ⟨vs,vs[i]'(by lia),hq H s1 s2,av _⟩
 . obtain ⟨q,v,hq0,rfl,rfl,y⟩:=y;have e:=y vs (hq H (sa.trans s1) s2);obtain ⟨d,e1,rd⟩:=hr.get e;have g:=aZ.new (o:=.tup [.int (i:Nat),v]) s1 hq0;refine ⟨_,.tuple [.int i,d],?_,g,Rp.tuple.mpr ⟨q,_,rfl,SqT.of aU,aA.cons.mpr ⟨_,_,rfl,Rp.int.mpr rfl,aA.one (Rp.mono (sa.trans g.aa) d rd)⟩⟩⟩;rw[eZ,br,eP (by lia)];show some (ab.tuple [ab.int (i:Nat),ds.getD i .none])=_;rw[ae,e1];rfl
theorem HW(hr:aA K A ds vs)(hq:∀H,aF A H->SqT K H p vs):rN K A B (V9 K p) (eZ ds):=by
 have hl:=hr.length;have he:(eZ ds).length=vs.length:=by rw[eZ,af,cS,hl]
 refine ⟨λi H s1 s2 hi=>?_,λH s1 s2=>⟨vs,hq H s1,by lia⟩,λi A2 H x H' sa s1 s2 hi y=>?_⟩
 . exact ⟨vs,vs[i]'(by lia),hq H s1,av _⟩
 . obtain ⟨q,v,hq0,rfl,rfl,y⟩:=y;have e:=y vs (hq H (sa.trans s1));obtain ⟨d,e1,rd⟩:=hr.get e;have g:=aZ.new (o:=.tup [.int (i:Nat),v]) s1 hq0;refine ⟨_,.tuple [.int i,d],?_,g,Rp.tuple.mpr ⟨q,_,rfl,SqT.of aU,aA.cons.mpr ⟨_,_,rfl,Rp.int.mpr rfl,aA.one (Rp.mono (sa.trans g.aa) d rd)⟩⟩⟩;rw[eZ,br,eP (by lia)];show some (ab.tuple [ab.int (i:Nat),ds.getD i .none])=_;rw[ae,e1];rfl
noncomputable def itL(m:ME):MI:=λΓ=>(m Γ).bind λd=>match d with
 | .list ds=>.ok ds
 | .tuple ds=>.ok ds
 | _=>.bad
noncomputable def fY(m:ME):MI:=λΓ=>(m Γ).bind λd=>match d with
 | .int j=>gd (-(2^62)<=j/\j<2^62) (.ok ((List.range j.toNat).map λi=>ab.int (0+(i:Nat))))
 | _=>.bad
noncomputable def itV(m:ME):MI:=λΓ=>(m Γ).bind λd=>match d with
 | .list ds=>.ok ds.reverse
 | _=>.bad
noncomputable def itE(m:ME):MI:=λΓ=>(m Γ).bind λd=>match d with
 | .list ds=>.ok (eZ ds)
 | .tuple ds=>.ok (eZ ds)
 | _=>.bad
variable {m':ME}{xs:B4}{elts:C1}{tpos:Pos}
section
variable     {p:Pos}
def afc(K:aw)(tl:TE):TI:=λσ H R=>tl σ H λx H1=>∃a,x= .ref a/\(((∃xs,SqL K H1 a xs)/\R (Itl K a) H1)\/((∃xs,SqT K H1 a xs)/\R (Itt K a) H1))
theorem S9{tl:TE}(hl:PE X c tl):PI X tg c (afc X.K tl):=by
 intro AK s σ H R I h;refine thn (hl AK s σ H _ I h) λv s1 az=>?_;obtain ⟨x,H1,I1,r1,q1⟩:=az;obtain ⟨a,e,q1⟩:=q1;subst e;cases r1;rcases q1 with ⟨⟨xs,hq⟩,q⟩ | ⟨⟨xs,hq⟩,q⟩
 . obtain ⟨AM,rv,p,hz⟩:=I1.list hq;refine wpAny_pyIter_list p.isList (⟨s1.heap.objs.size,[s1.heap.objs.size],_,_,H1,rfl,I1.kept λb o e=>aE _ e,TX a _,⟨_,c6 _ rfl,rfl,rfl⟩,λb hb=>?_,q⟩);have e:=by simpa using hb
   subst e;exact I1.sS (ay _) (I1.AY.fresh (ay _))
 . obtain ⟨AM,rv,p,hz⟩:=I1.tuple hq;refine oi (p) (⟨s1.heap.objs.size,[s1.heap.objs.size],_,_,H1,rfl,I1.kept λb o e=>aE _ e,O9 a _,⟨_,c6 _ rfl,rfl,rfl⟩,λb hb=>?_,q⟩);have e:=by simpa using hb
   subst e;exact I1.sS (ay _) (I1.AY.fresh (ay _))
theorem Nf{d:ab}{R:It->Hp->Prop}(sa:aF A A')(sb:aF B A')(p:Pk K A B d v)(e:(match d with | .list ds=>AO.ok ds | .tuple ds=>.ok ds | _=>.bad)= .ok xs)
 (k:∀J,rN K A B J xs->R J A'):∃a,v= .ref a/\(((∃xs,SqL K A' a xs)/\R (Itl K a) A')\/((∃xs,SqT K A' a xs)/\R (Itt K a) A')):=by
 cases d with
 | list ds=>
  cases e;obtain ⟨q,vs,rfl,h2,h1⟩:=p.QQ (H:=A');exact ⟨q,rfl,.inl ⟨⟨vs,h1 A' sa sb⟩,k _ (aap h2 h1)⟩⟩
 | tuple ds=>
  cases e;obtain ⟨q,vs,rfl,h2,h1⟩:=p.fX (H:=A');exact ⟨q,rfl,.inr ⟨⟨vs,h1 A' sa⟩,k _ (adC h2 h1)⟩⟩
 | _=>cases e
theorem d8(h:QE X e (tQ X.K O m)):QI X tg e (tI X.K O (itL m)):=QI.imp (S9 h.h) λσ H R az=>by
 obtain ⟨A,B,Γ,xs,r,em,k⟩:=az;obtain ⟨d,e1,em⟩:=AO.au em;refine ⟨A,B,Γ,d,r,e1,λv A1 H1 g1 p1=>Nf g1.ah (r.b.trans g1.hh) p1 em λJ hj=>k J A1 H1 g1 hj⟩
theorem j7(h:QE X e (tP X.K O m)):QI X tg e (tIc X.K O (itL m)):=QI.imp (S9 h.h) λσ H R az=>by
 obtain ⟨A,B,Γ,xs,r,em,k⟩:=az;obtain ⟨d,e1,em⟩:=AO.au em;refine ⟨A,B,Γ,d,r,e1,λv A1 H1 g1 p1=>Nf g1.ah (aF.refl _) p1 em λJ hj=>k J A1 H1 g1 hj⟩
theorem fK(hg:Gl X "range")(hm:X.mg "range"= none)(ha:QE X a (tP X.K O m))(hs:d5 [a] X.env=[(false,eval a X.env)]:=by rfl):QI X tg (.Call (.Name "range" p) [a] [] pos) (tI X.K O (fY m)):=
 QI.imp (Gw hg hm (bW ha.h eQ hs) hs) λσ H R az=>by
  obtain ⟨A,B,Γ,xs,r,em,k⟩:=az;obtain ⟨d,e1,em⟩:=AO.au em
  cases d with
  | int j=>
   obtain ⟨hc,em⟩:=b7 em;cases em;exact ⟨A,B,Γ,_,r,e1,λv A1 H1 g1 p1=>⟨j,by rw[p1.int],hc.1,hc.2,k _ A1 H1 g1 (Kh 0 _)⟩⟩
  | _=>cases em
theorem iW(hg:Gl X "range")(hm:X.mg "range"= none)(ha:QE X a (tP X.K O m))(hs:d5 [a] X.env=[(false,eval a X.env)]:=by rfl):QI X tg (.Call (.Name "range" p) [a] [] pos) (tIc X.K O (fY m)):=
 QI.imp (Gw hg hm (bW ha.h eQ hs) hs) λσ H R az=>by
  obtain ⟨A,B,Γ,xs,r,em,k⟩:=az;obtain ⟨d,e1,em⟩:=AO.au em
  cases d with
  | int j=>
   obtain ⟨hc,em⟩:=b7 em;cases em;exact ⟨A,B,Γ,_,r,e1,λv A1 H1 g1 p1=>⟨j,by rw[p1.int],hc.1,hc.2,k _ A1 H1 g1 (Kh 0 _)⟩⟩
  | _=>cases em
theorem acw(hg:Gl X "reversed")(hm:X.mg "reversed"= none)(ha:QE X a (tQ X.K O m))(hs:d5 [a] X.env=[(false,eval a X.env)]:=by rfl):QI X tg (.Call (.Name "reversed" p) [a] [] pos) (tI X.K O (itV m)):=
 QI.imp (acg hg hm (bW ha.h eQ hs) hs) λσ H R az=>by
  obtain ⟨A,B,Γ,xs,r,em,k⟩:=az;obtain ⟨d,e1,em⟩:=AO.au em
  cases d with
  | list ds=>
   cases em;refine ⟨A,B,Γ,_,r,e1,λv A1 H1 g1 p1=>?_⟩;obtain ⟨q,vs,rfl,h2,h1⟩:=p1.QQ (H:=H1);exact ⟨q,vs,rfl,h1 H1 g1.ah (r.b.trans g1.hh),k _ A1 H1 g1 (acP h2 h1)⟩
  | _=>cases em
theorem M8{x1}(hg:Gl X "enumerate")(hm:X.mg "enumerate"= none)(ha:QE X a (tQ X.K O m))(hs:d5 [a] X.env=[(false,eval a X.env)]:=by rfl):QI X (.Tuple elts x1 tpos) (.Call (.Name "enumerate" p) [a] [] pos) (tI X.K O (itE m)):=
 QI.imp (JR hg hm (bW ha.h eQ hs) hs) λσ H R az=>by
  obtain ⟨A,B,Γ,xs,r,em,k⟩:=az;obtain ⟨d,e1,em⟩:=AO.au em
  cases d with
  | list ds=>
   cases em;refine ⟨A,B,Γ,_,r,e1,λv A1 H1 g1 p1=>?_⟩;obtain ⟨q,vs,rfl,h2,h1⟩:=p1.QQ (H:=H1);exact ⟨q,vs,rfl,.inl ⟨h1 H1 g1.ah (r.b.trans g1.hh),k _ A1 H1 g1 (Nx h2 h1)⟩⟩
  | tuple ds=>
   cases em;refine ⟨A,B,Γ,_,r,e1,λv A1 H1 g1 p1=>?_⟩;obtain ⟨q,vs,rfl,h2,h1⟩:=p1.fX (H:=H1);exact ⟨q,vs,rfl,.inr ⟨h1 H1 g1.ah,k _ A1 H1 g1 (HW h2 h1)⟩⟩
  | _=>cases em
theorem Ov{x1}(hg:Gl X "enumerate")(hm:X.mg "enumerate"= none)(ha:QE X a (tP X.K O m))(hs:d5 [a] X.env=[(false,eval a X.env)]:=by rfl):QI X (.Tuple elts x1 tpos) (.Call (.Name "enumerate" p) [a] [] pos) (tIc X.K O (itE m)):=
 QI.imp (JR hg hm (bW ha.h eQ hs) hs) λσ H R az=>by
  obtain ⟨A,B,Γ,xs,r,em,k⟩:=az;obtain ⟨d,e1,em⟩:=AO.au em
  cases d with
  | list ds=>
   cases em;refine ⟨A,B,Γ,_,r,e1,λv A1 H1 g1 p1=>?_⟩;obtain ⟨q,vs,rfl,h2,h1⟩:=p1.QQ (H:=H1);exact ⟨q,vs,rfl,.inl ⟨h1 H1 g1.ah (aF.refl _),k _ A1 H1 g1 (Nx h2 h1)⟩⟩
  | tuple ds=>
   cases em;refine ⟨A,B,Γ,_,r,e1,λv A1 H1 g1 p1=>?_⟩;obtain ⟨q,vs,rfl,h2,h1⟩:=p1.fX (H:=H1);exact ⟨q,vs,rfl,.inr ⟨h1 H1 g1.ah,k _ A1 H1 g1 (HW h2 h1)⟩⟩
  | _=>cases em
end
abbrev MG:=ab->Ev->AO Ev
noncomputable def gN(i:Nat):MG:=λd Γ=>gd (i < Γ.length) (.ok (Γ.set i (some d)))
noncomputable def gTs:List MG->B4->Ev->AO Ev
 | [],[],Γ=>.ok Γ
 | g::gs,d::ds,Γ=>(g d Γ).bind λΓ'=>gTs gs ds Γ'
 | _,_,_=>.bad
noncomputable def gT(gs:List MG):MG:=λd Γ=>match d with
 | .tuple ds=>gTs gs ds Γ
 | _=>.bad
def rK(is:B5)(σ σ':St):Prop:=σ'.length=σ.length/\∀j,j∉is->σ'[j]?=σ[j]?
theorem rK.trans{is js:B5}{σ' σ'':St}(h:rK is σ σ')(h':rK js σ' σ''):rK (is++js) σ σ'':=
 ⟨h'.1.trans h.1,λj hj=>(h'.2 j λz=>hj (dn _ z)).trans (h.2 j λz=>hj (eM _ z))⟩
def tG(K:aw)(O O':B9)(is:B5)(g:MG):TG:=λv σ H Q=>∃A B Γ d Γ',bh K A B H O σ Γ/\Rp K A d v/\g d Γ = .ok Γ'/\∀σ',bh K A B H O' σ' Γ'->rK is σ σ'->Q σ' H
def tGs(K:aw)(O O':B9)(is:B5)(gs:List MG):TGs:=λvs σ H Q=>∃A B Γ ds Γ',bh K A B H O σ Γ/\aA K A ds vs/\gTs gs ds Γ = .ok Γ'/\∀σ',bh K A B H O' σ' Γ'->rK is σ σ'->Q σ' H
theorem PG.imp{t t':TG}(h:PG X tg t)(i:∀v σ H Q,t' v σ H Q->t v σ H Q):PG X tg t':=λAK s σ H v u Q I r q=>h AK s σ H v u Q I r (i v σ H Q q)
theorem PGs.imp{t t':TGs}(h:PGs X es t)(i:∀v σ H Q,t' v σ H Q->t v σ H Q):PGs X es t':=λAK s σ H v u Q I r q=>h AK s σ H v u Q I r (i v σ H Q q)
theorem QG.imp{t t':TG}(h:PG X tg t)(i:∀v σ H Q,t' v σ H Q->t v σ H Q):QG X tg t':=⟨PG.imp h i⟩
theorem QGs.imp{t t':TGs}(h:PGs X es t)(i:∀v σ H Q,t' v σ H Q->t v σ H Q):QGs X es t':=⟨PGs.imp h i⟩
theorem Cr:∀{gs:List MG}{ds:B4}{Γ Γ':Ev},gTs gs ds Γ = .ok Γ'->ds.length=gs.length
 | [],[],_,_,_=>rfl
 | g::gs,d::ds,Γ,Γ',h=>by
  obtain ⟨Γ1,_,h⟩:=AO.au h;rw[bt,bt,Cr h]
section
variable   {is js:B5}{g:MG}{gs:List MG}
theorem cC(i:Nat)(hN:X.N.Nodup)(hi:X.N[i]?=some x)(hx:Loc X.env.scope x)(hl:i<O.length:=by exact of_decide_eq_true rfl)(hf:X.fn x=true\/X.env.scope.names.lookup x=some .local:=by walk_at "hf")(hO:O.set i .AW=O2:=by rfl) :
 QG X (.Name x pos) (tG X.K O O2 [i] (gN i)):=hO ▸ QG.imp (aag hN hi hx hf) λv σ H Q az=>by
 obtain ⟨A,B,Γ,d,Γ',r,p,em,k⟩:=az;obtain ⟨hi,em⟩:=b7 em;cases em;exact k _ (r.set hi hl p) ⟨fx ..,λj hj=>oC (λz=>hj (by rw[z];exact bX))⟩
theorem lB:QGs X [] (tGs X.K O O [] []):=QGs.imp aaV λvs σ H Q az=>by
 obtain ⟨A,B,Γ,ds,Γ',r,p,em,k⟩:=az
 cases ds with
 | nil=>cases em;exact ⟨aA.nil.mp p,k σ r ⟨rfl,λ_ _=>rfl⟩⟩
 | cons d ds=>cases em
theorem jH(h1:QG X e (tG X.K O O1 is g))(h2:QGs X es (tGs X.K O1 O2 js gs))(hs:(nK (e::es) X.env).map (·.2)=assign e X.env::(nK es X.env).map (·.2):=by rfl):QGs X (e::es) (tGs X.K O O2 (is++js) (g::gs)):=by
 refine QGs.imp (Vu h1.h h2.h ?_) λvs σ H Q ⟨A,B,Γ,ds,Γ',r,p,em,k⟩=>?_
 . exact hs
 . cases ds with
   | nil=>cases em
   | cons d ds=>
    obtain ⟨Γ1,e1,em⟩:=AO.au em;obtain ⟨v,r',rfl,p1,p2⟩:=aA.cons.mp p;exact ⟨v,r',rfl,A,B,Γ,d,Γ1,r,p1,e1,λσ' r2 y=>⟨A,B,Γ1,ds,Γ',r2,p2,em,λσ2 r3 y2=>k σ2 r3 (y.trans y2)⟩⟩
theorem nM{n:Nat}(hc:X.calm=true)(h:QGs X es (tGs X.K O O' is gs))(hgs:gs.length=n:=by rfl)
 (hn:(nK es X.env).length=n:=by rfl) (hst:(nK es X.env).findIdx? (·.1)=none:=by rfl):QG X (.Tuple es i pos) (tG X.K O O' is (gT gs)):=QG.imp (acz hc h.h hn hst) λv σ H Q az=>by
 obtain ⟨A,B,Γ,d,Γ',r,p,em,i⟩:=az
 cases d with
 | tuple ds=>
  have p':=Rp.tuple.mp p;obtain ⟨a,vs,rfl,h1,h2⟩:=p';exact ⟨a,vs,rfl,r.a.fX h1,by rw[<- h2.length,<- hgs];exact Cr em,A,B,Γ,ds,Γ',r,h2,em,i⟩
 | _=>cases em
end
noncomputable def pN(O Oe:B9)(cl:B5):Bool:=Oe.length == O.length&&(List.range O.length).all λj=>decide (fl Oe j=fl O j)||cl.contains j
variable {Oe:B9}{cl:B5}
theorem V2(h:pN O Oe cl=true)(j:Nat):fl Oe j=fl O j\/j∈cl:=by
 unfold pN at h;rw[eh,fS] at h;rcases gy j O.length with hj | hj
 . have:=h.2 j (dQ.mpr hj);rw[uk] at this;rcases this with z | z
   . exact .inl (of_decide_eq_true z)
   . exact .inr (by simpa using z)
 . left;unfold fl;rw[ae,ae,fh hj,fh (by rw[show Oe.length=O.length by simpa using h.1];exact hj)]
theorem KZ:∀(l:B5) (Γ:Ev) (j:Nat),j∈l->gv (clr l Γ) j=none
 | i::l,Γ,j,h=>by
  by_cases hj:j∈l
  . exact KZ l (Γ.set i none) j hj
  . have e:j=i:=by
     rcases cp.mp h with z | z
     . exact z
     . exact absurd z hj
    subst e;rcases (DG l (Γ.set j none)).2 j with z | z
    . exact z
    . show gv (clr l (Γ.set j none)) j=none;rw[z];rw[gv,ae]
      by_cases hi:j < Γ.length
      . rw[mm hi];rfl
      . rw[fh (by rw[fx];lia)];rfl
theorem bh.ig(hE:pN O Oe cl=true)(r:bh K A B H Oe σ Γ):bh K A B H O σ (Zq.clr cl Γ):=by
 have r':=r.clr cl;have hf:∀j,gv (Zq.clr cl Γ) j≠none->fl O j=fl Oe j:=λj n=>by
  rcases V2 hE j with z | z
  . exact z.symm
  . exact absurd (KZ cl Γ j z) n
 refine ⟨r'.a,r'.b,r'.len,λj d e=>?_,λi j hij h1 h2 h3 h4=>r'.sep i j hij (by rw[<- hf i h3];exact h1) (by rw[<- hf j h4];exact h2) h3 h4⟩;have:=r'.slot j d e;rw[hf j (by rw[e];simp)];exact this
noncomputable def forR(g:MG)(cl:B5)(b:MS):B4->Ev->AO Out
 | [],Γ=>.ok (.nx Γ)
 | x::xs,Γ=>(g x Γ).bind λΓ1=>(b Γ1).bind λo=>match o with
  | .nx Γ2=>forR g cl b xs (clr cl Γ2)
  | .ct Γ2=>forR g cl b xs (clr cl Γ2)
  | .bk Γ2=>.ok (.nx (clr cl Γ2))
  | .rt d=>.ok (.rt d)
noncomputable def cz(it:MI)(g:MG)(cl:B5)(b:MS):MS:=λΓ=>(it Γ).bind λxs=>forR g cl b xs Γ
section
variable    {is:B5}{g:MG}{it:MI}  {mb:MS}{iter:Expr}{body:C5}
theorem iJ(hp:vE (eL X.prog X.w) X.A X.env X.xe)(hc:X.calm=true)(cl:B5)(hi:QI X tg iter (tI X.K O it))(hg:QG X tg (tG X.K O O is g))(hb:QSs X body (tS X.K rm Oe O Oe mb))(hE:pN O Oe cl=true)
 (hs:∀x,ja iter X.env x=pure x:=by intro _;rfl):QS X (.For tg iter body [] pos) (tS X.K rm Ol O O (cz it g cl mb)):=by
 refine QS.imp (Tr hp hc hi.h hg.h hb.h hs) λD σ H az=>?_;obtain ⟨A,B,Γ,o,r,em,k⟩:=az;obtain ⟨xs,e1,em⟩:=AO.au em;refine ⟨A,B,Γ,xs,r,e1,λJ A1 H1 g1 hj=>?_⟩;refine ⟨λi n σ' H'=>n=xs.length - i/\i<=xs.length/\∃A2 Γ2,bh X.K A2 B H' O σ' Γ2/\aF A A2/\New A A2 B/\aF A1 A2/\forR g cl mb (xs.drop i) Γ2= .ok o,⟨xs.length,rfl,kz _,A1,Γ,r.grow g1,g1.aa,g1.nB r.b,aF.refl _,em⟩,?_⟩;rintro i n σ' H' ⟨rfl,hi.h,A2,Γ2,r2,sa,nw,s12,e2⟩
 by_cases hlt:i<xs.length
 . refine .inr ⟨hj.go i H' (s12.trans r2.a) r2.b hlt,λσ'' H''=>i+1<=xs.length/\∃A3 Γ3,bh X.K A3 B H'' O σ'' Γ3/\aF A A3/\New A A3 B/\aF A1 A3/\forR g cl mb (xs.drop (i+1)) Γ3= .ok o,?_,λx H3 y=>?_⟩
   . rintro σ'' H'' ⟨h1,A3,Γ3,h2⟩;exact ⟨xs.length - (i+1),by lia,rfl,h1,A3,Γ3,h2⟩
   . obtain ⟨A3,d,ed,g3,p3⟩:=hj.yld i A2 H' x H3 s12 r2.a r2.b hlt y;have hd:xs.drop i=d::xs.drop (i+1):=by
      rw[nh hlt];rw[av hlt] at ed;cases ed;rfl
     rw[hd] at e2;obtain ⟨Γ3,e3,e2⟩:=AO.au e2;obtain ⟨o3,e4,e2⟩:=AO.au e2;have sa3:=sa.trans g3.aa;have nw3:=nw.trans (g3.nB r2.b);refine ⟨A3,B,Γ2,d,Γ3,r2.grow g3,p3,e3,λσ4 r4 _=>⟨A3,B,Γ3,o3,r4,e4,?_⟩⟩;have sb:∀{D':Ends},uc X.K rm Ol O A B D' o->uc X.K rm Ol O A3 B D' o:=λh=>h.sub sa3 nw3
     cases o3 with
     | nx Γ4=>exact λσ5 A5 H5 r5 s5 n5=>⟨hlt,A5,clr cl Γ4,r5.ig hE,sa3.trans s5,nw3.trans n5,s12.trans (g3.aa.trans s5),e2⟩
     | ct Γ4=>exact λσ5 A5 H5 r5 s5 n5=>⟨hlt,A5,clr cl Γ4,r5.ig hE,sa3.trans s5,nw3.trans n5,s12.trans (g3.aa.trans s5),e2⟩
     | bk Γ4=>
      cases e2;exact λσ5 A5 H5 r5 s5 n5=>k σ5 A5 H5 (r5.ig hE) (sa3.trans s5) (nw3.trans n5)
     | rt d'=>
      cases e2;exact λv A5 H5 q1 q2 s5 n5 rv=>k v A5 H5 q1 q2 (sa3.trans s5) (nw3.trans n5) rv
 . have e:i=xs.length:=by lia
   subst e;rw[x9] at e2;cases e2;exact .inl ⟨hj.stop H' (s12.trans r2.a) r2.b,k σ' A2 H' r2 sa nw⟩
end
noncomputable def whR(c:ME)(cl:B5)(b:MS):Nat->Ev->AO Out
 | 0,_=>.bad
 | n+1,Γ=>(c Γ).bind λx=>match x with
  | .bool true=>(b Γ).bind λo=>match o with
   | .nx Γ2=>whR c cl b n (clr cl Γ2)
   | .ct Γ2=>whR c cl b n (clr cl Γ2)
   | .bk Γ2=>.ok (.nx (clr cl Γ2))
   | .rt d=>.ok (.rt d)
  | .bool false=>.ok (.nx Γ)
  | _=>.bad
noncomputable def oF(fuel:Nat)(c:ME)(cl:B5)(b:MS):MS:=λΓ=>whR c cl b fuel Γ
section
variable      {mc:ME}{mb:MS}{body:C5}
theorem XJ(hp:vE (eL X.prog X.w) X.A X.env X.xe)(fuel:Nat)(cl:B5)(hc:QT X c (tT X.K O mc))(hb:QSs X body (tS X.K rm Oe O Oe mb))(hE:pN O Oe cl=true):QS X (.While c body [] pos) (tS X.K rm Ol O O (oF fuel mc cl mb)):=by
 refine QS.imp (Xd hp hc.h hb.h) λD σ H ⟨A,B,Γ,o,r,em,k⟩=>⟨λn σ' H'=>∃A2 Γ2,bh X.K A2 B H' O σ' Γ2/\aF A A2/\New A A2 B/\whR mc cl mb n Γ2= .ok o,⟨fuel,A,Γ,r,aF.refl _,λ_ h _=>h,em⟩,?_⟩;rintro n σ' H' ⟨A2,Γ2,r2,sa,nw,e2⟩
 cases n with
 | zero=>cases e2
 | succ n=>
  obtain ⟨x,e3,e2⟩:=AO.au e2
  cases x with
  | bool bb=>
   refine ⟨A2,B,Γ2,bb,r2,e3,λA3 H3 g3=>?_⟩;have sa3:=sa.trans g3.aa;have nw3:=nw.trans (g3.nB r2.b)
   cases bb with
   | false=>
    cases e2;exact Bh (k σ' A3 H3 (r2.grow g3) sa3 nw3)
   | true=>
    obtain ⟨o3,e4,e2⟩:=AO.au e2;refine Bc ⟨λσ'' H''=>∃A2 Γ2,bh X.K A2 B H'' O σ'' Γ2/\aF A A2/\New A A2 B/\whR mc cl mb n Γ2= .ok o,λσ'' H'' h=>⟨n,sP _,h⟩,A3,B,Γ2,o3,r2.grow g3,e4,?_⟩
    cases o3 with
    | nx Γ4=>exact λσ5 A5 H5 r5 s5 n5=>⟨A5,clr cl Γ4,r5.ig hE,sa3.trans s5,nw3.trans n5,e2⟩
    | ct Γ4=>exact λσ5 A5 H5 r5 s5 n5=>⟨A5,clr cl Γ4,r5.ig hE,sa3.trans s5,nw3.trans n5,e2⟩
    | bk Γ4=>cases e2;exact λσ5 A5 H5 r5 s5 n5=>k σ5 A5 H5 (r5.ig hE) (sa3.trans s5) (nw3.trans n5)
    | rt d'=>cases e2;exact λv A5 H5 q1 q2 s5 n5 rv=>k v A5 H5 q1 q2 (sa3.trans s5) (nw3.trans n5) rv
  | _=>cases e2
end
noncomputable def pQ(g:MG)(c:ME)(e:ME)(Γ:Ev):B4->AO B4
 | []=>.ok []
 | x::xs=>(g x Γ).bind λΓ1=>(c Γ1).bind λt=>match t with
  | .bool true=>(e Γ1).bind λd=>(pQ g c e Γ xs).bind λds=>.ok (d::ds)
  | .bool false=>pQ g c e Γ xs
  | _=>.bad
noncomputable def gk(nt:Nat)(ix:B5)(Γ:Ev):Ev:=ax nt none++ix.map (gv Γ)
noncomputable def bfl:Fl->Fl
 | .own=>.AV
 | .fix _=>.AV
 | .nst _=>.nst false
 | f=>f
noncomputable def nJ(nt:Nat)(ix:B5)(O:B9):B9:=ax nt .AW++ix.map λi=>bfl (fl O i)
noncomputable def cu(it:MI)(g:MG)(c e:ME)(nt:Nat)(ix:B5):ME:=λΓ=>(it Γ).bind λxs=>gd (xs.length<bE) ((pQ g c e (gk nt ix Γ) xs).bind λds=>.ok (.list ds))
theorem Y0:(σ[i]?).join=sv σ i:=by
 rw[sv,ae]
 cases σ[i]? with
 | none=>rfl
 | some o=>rfl
theorem t7{α:Type}{os:List α}{ix:B5}{f:Nat->α}{d:α}(j:Nat):(os++ix.map f).getD j d=if j<os.length then os.getD j d else match ix[j - os.length]? with | some i=>f i | none=>d:=by
 rw[ae];split
 . rename_i h;rw[cq h,ae]
 . rename_i h;rw[b9 (by lia),br];cases ix[j - os.length]? <;> rfl
theorem bh.block(r:bh K A B H O σ Γ){os:List (Option V)}{nt:Nat}(ho:os.length=nt)(ix:B5):bh K A H H (nJ nt ix O) (os++ix.map λi=>(σ[i]?).join) (gk nt ix Γ):=by
 have fN:∀j,isO (fl (nJ nt ix O) j)=false:=λj=>by
  unfold fl nJ;rw[t7,ck];split
  . rw[ae,iO];split <;> rfl
  . cases ix[j - nt]? with
    | none=>rfl
    | some i=>simp only;cases fl O i <;> rfl
 refine ⟨r.a,aF.refl _,?_,λj d e=>?_,λi j _ h1 _ _ _=>absurd (h1.symm.trans (fN i)) Bool.noConfusion⟩
 . rw[gk,ai,ai,ck,af,af,ho]
 . unfold gv gk at e;rw[t7,ck] at e;split at e
   . rw[ae,iO] at e;split at e <;> cases e
   . rename_i hj
     cases q:ix[j - nt]? with
     | none=>rw[q] at e;cases e
     | some i=>
      rw[q] at e;obtain ⟨v,e1,sl⟩:=r.slot i d e;refine ⟨v,?_,?_⟩
      . rw[sv,t7,if_neg (by lia),ho,q];show (σ[i]?).join=some v;rw[Y0];exact e1
      . have ef:fl (nJ nt ix O) j=bfl (fl O i):=by
         unfold fl nJ;rw[t7,ck,if_neg hj,q]
        rw[ef]
        cases hf:fl O i with
        | AW=>rwa [hf] at sl
        | AV=>rw[hf] at sl;exact Pk.mono (aF.refl _) r.b sl
        | own=>rw[hf] at sl;exact Own.pk sl
        | fix p0=>rw[hf] at sl;exact Own.pk sl.2
        | exc C=>rwa [hf] at sl
        | nst b=>exact λz=>nomatch z
        | kit=>rwa [hf] at sl
variable {ifs:C1}
theorem sy.imp(h:sy X ifs t)(i:∀σ H Q,t' σ H Q->t σ H Q):sy X ifs t':=λAK s σ H Q I q=>h AK s σ H Q I (i σ H Q q)
theorem yC.imp(h:sy X ifs t)(i:∀σ H Q,t' σ H Q->t σ H Q):yC X ifs t':=⟨sy.imp h i⟩
theorem dq:yC X [] (tT X.K O (eC (.bool true))):=yC.imp V6 λσ H Q az=>by
 obtain ⟨A,B,Γ,b,r,em,k⟩:=az;cases em;exact k A H (aZ.refl r.a)
theorem wA(h:QT X c (tT X.K O m)):yC X [c] (tT X.K O m):=⟨Xq h.h⟩
section
variable  {Ob:B9}{tn:B6}{ix:B5}{it:MI}{g:MG}{mc me:ME}
theorem BJ(hOb:Ob=nJ tn.length ix O){nt:Nat}(hnt:nt=tn.length)(his:∀j∈cl,j<tn.length){Q:VK}(h:tF K O (cu it g mc me nt ix) σ H Q):Hv tn ix (tIc K O it) (tG K Ob O1 cl g) (tT K O1 mc) (tE K O1 me) σ H Q:=by
 subst hOb hnt;obtain ⟨A,B,Γ,d,r,em,k⟩:=h;obtain ⟨xs,e1,em⟩:=AO.au em;obtain ⟨hz,em⟩:=b7 em;obtain ⟨ds,e2,em⟩:=AO.au em;cases em;refine ⟨A,B,Γ,xs,r,e1,λJ A1 H1 g1 hj D hD=>?_⟩;have r1:=r.grow g1;have hAD:=g1.ah.free hD;refine ⟨λi n σb AL H2=>n=xs.length - i/\i<=xs.length/\AL.length<=i/\(∃os:List (Option V),os.length=tn.length/\σb=os++ix.map λi=>(σ[i]?).join)/\∃A2,aF A1 A2/\New A1 A2 H1/\aF A2 H2/\aF H1 H2/\A2 D=none/\H2 D=some (.lst AL) /\
  ∃ds1 ds2,ds=ds1++ds2/\aA K A2 ds1 AL/\pQ g mc me (gk tn.length ix Γ) (xs.drop i)= .ok ds2,⟨xs.length,rfl,kz _,kz _,⟨_,ck,rfl⟩,A1,aF.refl _,λ_ h _=>h,g1.ah.trans (aF.new hD _),aF.new hD _,hAD,aU,[],ds,rfl,aA.nil.mpr rfl,e2⟩,?_⟩
 rintro i n σb AL H2 ⟨rfl,hi,hacc,⟨os,ho,rfl⟩,A2,sa,nw,s2,sh,a2,hD2,ds1,ds2,rfl,rp,e3⟩;refine ⟨hD2,?_⟩
 by_cases hlt:i<xs.length
 . refine .inr ⟨hj.go i H2 (sa.trans s2) sh hlt,by lia,λx H3 y=>?_⟩;obtain ⟨A3,dx,ed,g3,p3⟩:=hj.yld i A2 H2 x H3 sa s2 sh hlt y;have hd:xs.drop i=dx::xs.drop (i+1):=by
    rw[nh hlt];rw[av hlt] at ed;cases ed;rfl
   rw[hd] at e3;obtain ⟨Γ1,e4,e3⟩:=AO.au e3;obtain ⟨t,e5,e3⟩:=AO.au e3;have rb:=by
    have rr:bh K A3 B H3 O σ Γ:=by
     refine ⟨g3.ah,r1.b.trans (sh.trans g3.hh),r1.len,λj=>?_,r1.sep⟩;intro d' e';obtain ⟨v',e'',q⟩:=r1.slot j d' e';refine ⟨v',e'',?_⟩
     cases hf:fl O j with
     | AW=>rw[hf] at q;exact Rp.mono (sa.trans g3.aa) d' q
     | AV=>rw[hf] at q;exact Pk.mono (sa.trans g3.aa) (aF.refl _) q
     | own=>
      rw[hf] at q;obtain ⟨p',o',rfl,u1,u2,u3,u4⟩:=q;have n1:=nw p' u2 (by rw[u1];simp);exact ⟨p',o',rfl,g3.hh _ _ (sh _ _ u1),g3.nw p' n1 (by rw[sh _ _ u1];simp),u3,u4.mono (sa.trans g3.aa)⟩
     | fix p0=>
      rw[hf] at q;obtain ⟨q0,p',o',rfl,u1,u2,u3,u4⟩:=q;have n1:=nw p' u2 (by rw[u1];simp);exact ⟨q0,p',o',rfl,g3.hh _ _ (sh _ _ u1),g3.nw p' n1 (by rw[sh _ _ u1];simp),u3,u4.mono (sa.trans g3.aa)⟩
     | kit=>rw[hf] at q;exact qI.mono (sa.trans g3.aa) q
     | exc C=>
      rw[hf] at q;obtain ⟨p',ob,w1,w2,w3⟩:=q;exact ⟨p',ob,w1,(sa.trans g3.aa) _ _ w2,w3⟩
     | nst b=>
      rw[hf] at q;intro z;obtain ⟨p',xs,kvs,w1,w2,w3,w4,w5,w6⟩:=q z;have n1:=nw p' w4 (by rw[w3];simp);exact ⟨p',xs,kvs,w1,w2,g3.hh _ _ (sh _ _ w3),g3.nw p' n1 (by rw[sh _ _ w3];simp),w5,w6.mono (sa.trans g3.aa)⟩
    exact rr.block ho ix
   refine ⟨A3,H3,_,dx,Γ1,rb,p3,e4,λσ4 r4 y4=>?_⟩;have hos:∃os':List (Option V),os'.length=tn.length/\σ4=os'++ix.map λi=>(σ[i]?).join:=by
    have hl4:σ4.length=tn.length+ix.length:=by rw[y4.1,ai,af,ho]
    refine ⟨σ4.take tn.length,by rw[dr];lia,sd λj=>?_⟩;rcases gy j tn.length with hj | hj
    . rw[cq (by rw[dr];lia),la hj]
    . rw[y4.2 j (λz=>absurd (his j z) (by lia)),b9 (by lia),b9 (by rw[dr];lia),dr,ho];congr 1;lia
   cases t with
   | bool bb=>
    refine ⟨A3,H3,Γ1,bb,r4,e5,λA4 H4 g4=>?_⟩;have nw4:=nw.trans ((g3.trans g4).nw.mono sh);have hD4:=g4.hh _ _ (g3.hh _ _ hD2);have a4:=(g3.trans g4).nw D a2 (by rw[hD2];simp)
    cases bb with
    | false=>
     refine Bh ⟨xs.length - (i+1),by lia,rfl,hlt,by lia,hos,A4,sa.trans (g3.trans g4).aa,nw4,g4.ah,sh.trans (g3.trans g4).hh,a4,hD4,ds1,ds2,rfl,aA.mono (g3.trans g4).aa _ rp,e3⟩
    | true=>
     obtain ⟨dv,e6,e3⟩:=AO.au e3;obtain ⟨ds3,e7,e3⟩:=AO.au e3;cases e3;refine Bc ⟨A4,H3,Γ1,dv,r4.grow g4,e6,λv A5 H5 g5 p5=>?_⟩;have gg:=(g3.trans g4).trans g5;have hD5:=g5.hh _ _ hD4;have a5:=gg.nw D a2 (by rw[hD2];simp);refine ⟨hD5,xs.length - (i+1),by lia,rfl,hlt,by rw[ai,cy];lia,hos,A5,sa.trans gg.aa,nw.trans (gg.nw.mono sh),λb u q=>?_,?_,a5,aU,ds1++[dv],ds3,by rw[d6];rfl,(aA.mono gg.aa _ rp).append (aA.one p5),e7⟩
     . have hb:b≠D:=λz=>by rw[z,a5] at q;cases q
       rw[aH hb];exact g5.ah b u q
     . exact (sh.trans gg.hh).up hD
   | _=>cases e3
 . have e:i=xs.length:=by lia
   subst e;rw[x9] at e3;cases e3;rw[dA] at k;refine .inl ⟨hj.stop H2 (sa.trans s2) sh,k _ A2 H2 ⟨g1.aa.trans sa,g1.hh.trans sh,s2,λp n1 n2=>nw p (g1.nw p n1 n2) (aF.ne g1.hh n2)⟩ ⟨D,_,rfl,g1.hh.free hD,hD2,a2,.inl ⟨ds1,AL,rfl,rfl,rp⟩⟩⟩
end
section
variable  {Ob:B9}{scope:vF}{tn:B6}{ix is:B5}{it:MI}{g:MG}{mc me:ME}{elt iter:Expr}   {nt:Nat}
theorem dw(tn:B6)(ix:B5)(S:iU X scope ix=true)(hc:X.calm=true)(hOb:Ob=nJ tn.length ix O)(hnt:nt=tn.length)(his:∀j∈is,j<tn.length)(hi:QI X tg iter (tIc X.K O it))
 (hg:∀cl C s₂ H₂ fp,QG (X.comp scope tn ix cl C s₂ H₂ fp) tg (tG X.K Ob O1 is g)) (ht:∀cl C s₂ H₂ fp,yC (X.comp scope tn ix cl C s₂ H₂ fp) ifs (tT X.K O1 mc)) (he:∀cl C s₂ H₂ fp,QE (X.comp scope tn ix cl C s₂ H₂ fp) elt (tE X.K O1 me))
 (hs:∀x,ja iter X.env x=pure x:=by intro _;rfl):QE X (.ListComp elt [⟨tg,iter,ifs,0⟩] scope pos) (tF X.K O (cu it g mc me nt ix)):=
 QE.imp (aaB S hc hi.h (λcl C s₂ H₂ fp=>(hg cl C s₂ H₂ fp).h) (λcl C s₂ H₂ fp=>(ht cl C s₂ H₂ fp).h) (λcl C s₂ H₂ fp=>(he cl C s₂ H₂ fp).h) hs) λσ H Q h=>BJ hOb hnt his h
theorem aa4(i:Nat)(tn:B6)(ix:B5){y:Str}(hN:X.N.Nodup)(hiN:X.N[i]?=some y)(hy:Loc X.env.scope y)(S:iU X scope ix=true)(hc:X.calm=true)(hOb:Ob=nJ tn.length ix O)(hnt:nt=tn.length)(his:∀j∈is,j<tn.length)(hi:QI X tg iter (tIc X.K O it))
 (hg:∀cl C s₂ H₂ fp,QG (X.comp scope tn ix cl C s₂ H₂ fp) tg (tG X.K Ob O1 is g)) (ht:∀cl C s₂ H₂ fp,yC (X.comp scope tn ix cl C s₂ H₂ fp) ifs (tT X.K O1 mc)) (he:∀cl C s₂ H₂ fp,QE (X.comp scope tn ix cl C s₂ H₂ fp) elt (tE X.K O1 me))
 (hl:i<O.length:=by exact of_decide_eq_true rfl) (hsw:h9 (.ListComp elt [⟨tg,iter,ifs,0⟩] scope pos) (some (.Name y pos')) tpos.line X.env=pure true:=by rfl)
 (hf:X.fn y=true\/X.env.scope.names.lookup y=some .local:=by walk_at "hf")
 (hs:∀x,ja iter X.env x=pure x:=by intro _;rfl) (hO:O.set i .own=O2:=by rfl):QS X (.Assign [.Name y pos'] (.ListComp elt [⟨tg,iter,ifs,0⟩] scope pos) tpos) (tS X.K rm Ol O O2 (aW i (cu it g mc me nt ix))):=
 hO ▸ QS.imp (Nt hN hiN hy S hc hi.h (λcl C s₂ H₂ fp=>(hg cl C s₂ H₂ fp).h) (λcl C s₂ H₂ fp=>(ht cl C s₂ H₂ fp).h) (λcl C s₂ H₂ fp=>(he cl C s₂ H₂ fp).h) hsw hf hs) λD σ H=>xn (λσ H Q h=>BJ hOb hnt his h) hl
end
noncomputable def lL(i:Nat)(m:ME):MS:=λΓ=>(m Γ).bind λd=>match gv Γ i with
 | some (.list ds)=>gd (ds.length<bE/\i < Γ.length) (.ok (.nx (Γ.set i (some (.list (ds++[d]))))))
 | _=>.bad
noncomputable def Em(i:Nat)(m:ME):MS:=λΓ=>(m Γ).bind λd=>match gv Γ i,d with
 | some (.list ds),.list es=>gd (ds.length+es.length<=bE/\i < Γ.length) (.ok (.nx (Γ.set i (some (.list (ds++es))))))
 | _,_=>.bad
noncomputable def QZ(i:Nat)(m m':ME):MS:=λΓ=>(m Γ).bind λk=>(m' Γ).bind λd=>match gv Γ i,k with
 | some (.list ds),.int j=>gd (0<=j/\j<=ds.length/\ds.length<1000/\i < Γ.length) (.ok (.nx (Γ.set i (some (.list (ds.take j.toNat++d::ds.drop j.toNat))))))
 | _,_=>.bad
variable {apos cpos:Pos}
section
variable      {p:Pos}
theorem oH(r:bh K A B H O σ Γ)(hi:isO (fl O i)=true)(he:gv Γ i=some (.list ds)):∃q vs,sv σ i=some (.ref q)/\H q=some (.lst vs)/\aA K A ds vs:=by
 obtain ⟨d,q,o,e1,e2,h1,h2,h3,⟨ds',vs,rfl,rfl,h4⟩ | ⟨kvs,u,rfl,rfl,h4⟩⟩:=r.nY hi (by rw[he];simp)
 rotate_right
 . rw[he] at e1;cases e1
 rw[he] at e1;cases e1;exact ⟨q,vs,e2,h1,h4⟩
theorem jh(i:Nat)(he:QE X e (tE X.K O m))(hi:isO (fl O i)=true:=by rfl)(nm:Nm X i x:=by walk_at "nm")(hbase:mw (.Name x p) "append" X.env (eval (.Name x p) X.env)=eval (.Name x p) X.env:=by rfl)
 (hfew:((nc cpos (d5 (e::[]) X.env)).all (λx=>!x.1)&&(x6 cpos (qV [] X.env)).all (λx=>x.1.isSome)
  && decide ((e::[]).length+([]:List pf).length+(if ([]:List pf).isEmpty then 0 else 1)<30))=true:=by rfl)
 (hline:(apos.endLine == cpos.line)=true:=by rfl) (hs:d5 (e::[]) X.env=(false,eval e X.env)::d5 [] X.env:=by rfl) (hplain:(nc cpos (d5 [] X.env)).any (·.1)=false:=by rfl)
 (hsw:h9 (.Call (.Attribute (.Name x p) "append" apos) [e] [] cpos) none pos.line X.env=pure false:=by rfl) :
 QS X (.Expr (.Call (.Attribute (.Name x p) "append" apos) [e] [] cpos) pos) (tS X.K rm Ol O O (lL i m)):=by
 refine QS.imp (o7 (BR lT rS xy yQ (dW nm.1 nm.2 nm.3 nm.4) (bW he.h eQ hs) hbase hfew hline hs hplain) hsw) λD σ H az=>?_;obtain ⟨A,B,Γ,o,r,em,k⟩:=az;obtain ⟨d,e1,em⟩:=AO.au em
 cases hg:gv Γ i with
 | none=>rw[hg] at em;cases em
 | some dl=>
  rw[hg] at em
  cases dl with
  | list ds=>
   obtain ⟨⟨hc,hlt⟩,em⟩:=b7 em;cases em;obtain ⟨q,vs,e2,h1,h4⟩:=oH r hi hg;refine ⟨.ref q,dU e2,.inl ⟨rfl,vs,SqL.of h1⟩,A,B,Γ,d,r,e1,λv A1 H1 g1 p1=>⟨q,vs,v,rfl,rfl,g1.hh _ _ h1,by rw[<- h4.length];exact hc,?_⟩⟩;exact k σ A1 _ ((r.grow g1).change hi hlt (by rw[hg];simp) e2 (g1.hh _ _ h1) (.inl ⟨_,_,rfl,rfl,(aA.mono g1.aa _ h4).append (aA.one p1)⟩)) g1.aa (g1.nB r.b)
  | _=>cases em
def Vx:V->C0->Hp->VK->Prop:=λx vs H Q=>∃l b xs zs,x= .ref l/\vs=[.ref b]/\H l=some (.lst xs)/\Rd H b (.lst zs)/\xs.length+zs.length<=bE/\Q .non (AU H l (.lst (xs++zs)))
theorem Qo:MtM X "list.extend" Vx:=by
 rintro AK s σ H x vs v us Q I rx rv ⟨l,b,xs,zs,rfl,rfl,hH,hB,hz,q⟩;cases rx;obtain ⟨u,rfl,ru⟩:=rv.one;cases ru;obtain ⟨z,AM,n,r,hl,e⟩:=I.Oz hH;obtain ⟨z2,its2,n2,r2,e2⟩:=hB.ok I.AY;have hl2:=r2.length;have hsz:AM.toArray.size+its2.toArray.size<=bE:=by rw[cK,cK];lia
 have Q8:¬ (!AM.toArray.isEmpty&&lj (AM.toArray.size+its2.toArray.size))=true:=by
  rw[JT hsz,Bool.and_false];exact eW
 refine y8 ot ⟨_,e,rfl⟩ F.entry_list_extend (F.args_list_extend_2 _ _)
  (AutoSeq1.list_extend_list_list_0 l AM.toArray n b its2.toArray n2 Q8 (by rw[cK];lia) (by lia)) ⟨e,e2,?_⟩
 refine ⟨.non,_,I.Q4 hH e (by simp) (r.append r2) ?_,rfl,q⟩;rw[ai];lia
theorem abk(i:Nat)(he:QE X e (tF X.K O m))(hi:isO (fl O i)=true:=by rfl)(nm:Nm X i x:=by walk_at "nm")(hbase:mw (.Name x p) "extend" X.env (eval (.Name x p) X.env)=eval (.Name x p) X.env:=by rfl)
 (hfew:((nc cpos (d5 (e::[]) X.env)).all (λx=>!x.1)&&(x6 cpos (qV [] X.env)).all (λx=>x.1.isSome)
  && decide ((e::[]).length+([]:List pf).length+(if ([]:List pf).isEmpty then 0 else 1)<30))=true:=by rfl)
 (hline:(apos.endLine == cpos.line)=true:=by rfl) (hs:d5 (e::[]) X.env=(false,eval e X.env)::d5 [] X.env:=by rfl) (hplain:(nc cpos (d5 [] X.env)).any (·.1)=false:=by rfl)
 (hsw:h9 (.Call (.Attribute (.Name x p) "extend" apos) [e] [] cpos) none pos.line X.env=pure false:=by rfl) :
 QS X (.Expr (.Call (.Attribute (.Name x p) "extend" apos) [e] [] cpos) pos) (tS X.K rm Ol O O (Em i m)):=by
 refine QS.imp (o7 (BR lT ot xA Qo (dW nm.1 nm.2 nm.3 nm.4) (bW he.h eQ hs) hbase hfew hline hs hplain) hsw) λD σ H az=>?_;obtain ⟨A,B,Γ,o,r,em,k⟩:=az;obtain ⟨d,e1,em⟩:=AO.au em
 cases hg:gv Γ i with
 | none=>rw[hg] at em;cases em
 | some dl=>
  rw[hg] at em
  cases dl with
  | list ds=>
   cases d with
   | list es=>
    obtain ⟨⟨hc,hlt⟩,em⟩:=b7 em;cases em;obtain ⟨q,vs,e2,h1,h4⟩:=oH r hi hg;refine ⟨.ref q,dU e2,.inl ⟨rfl,vs,SqL.of h1⟩,A,B,Γ,_,r,e1,λv A1 H1 g1 p1=>?_⟩;obtain ⟨q2,o2,rfl,h0,h5,h7,⟨es',us,e3,rfl,h6⟩ | ⟨_,_,e3,_⟩⟩:=p1
    rotate_right
    . cases e3
    cases e3;refine ⟨q,q2,vs,us,rfl,rfl,g1.hh _ _ h1,.inl h5,by rw[<- h4.length,<- h6.length];exact hc,?_⟩;exact k σ A1 _ ((r.grow g1).change hi hlt (by rw[hg];simp) e2 (g1.hh _ _ h1) (.inl ⟨_,_,rfl,rfl,(aA.mono g1.aa _ h4).append h6⟩)) g1.aa (g1.nB r.b)
   | _=>cases em
  | _=>cases em
theorem ab8(i:Nat)(ha:QE X a (tE X.K O m))(hb:QE X b (tE X.K O m'))(hi:isO (fl O i)=true:=by rfl)(nm:Nm X i x:=by walk_at "nm")(hbase:mw (.Name x p) "insert" X.env (eval (.Name x p) X.env)=eval (.Name x p) X.env:=by rfl)
 (hfew:((nc cpos (d5 (a::[b]) X.env)).all (λx=>!x.1)&&(x6 cpos (qV [] X.env)).all (λx=>x.1.isSome)
  && decide ((a::[b]).length+([]:List pf).length+(if ([]:List pf).isEmpty then 0 else 1)<30))=true:=by rfl)
 (hline:(apos.endLine == cpos.line)=true:=by rfl) (hs:d5 (a::[b]) X.env=(false,eval a X.env)::d5 [b] X.env:=by rfl) (hs2:d5 (b::[]) X.env=(false,eval b X.env)::d5 [] X.env:=by rfl) (hplain:(nc cpos (d5 [b] X.env)).any (·.1)=false:=by rfl)
 (hsw:h9 (.Call (.Attribute (.Name x p) "insert" apos) [a,b] [] cpos) none pos.line X.env=pure false:=by rfl) :
 QS X (.Expr (.Call (.Attribute (.Name x p) "insert" apos) [a,b] [] cpos) pos) (tS X.K rm Ol O O (QZ i m m')):=by
 refine QS.imp (o7 (BR lT PySem.F.slot_list_insert PySem.F.type_list_insert Uu (dW nm.1 nm.2 nm.3 nm.4) (bW ha.h (bW hb.h eQ hs2) hs) hbase hfew hline hs hplain) hsw) λD σ H az=>?_;obtain ⟨A,B,Γ,o,r,em,k⟩:=az;obtain ⟨kd,e1,em⟩:=AO.au em;obtain ⟨d,e2,em⟩:=AO.au em
 cases hg:gv Γ i with
 | none=>rw[hg] at em;cases em
 | some dl=>
  rw[hg] at em
  cases dl with
  | list ds=>
   cases kd with
   | int j=>
    obtain ⟨⟨hc1,hc2,hc3,hlt⟩,em⟩:=b7 em;cases em;obtain ⟨q,vs,e3,h1,h4⟩:=oH r hi hg;have hl:=h4.length;refine ⟨.ref q,dU e3,.inl ⟨rfl,vs,SqL.of h1⟩,A,B,Γ,_,r,e1,λv A1 H1 g1 p1=>⟨A1,B,Γ,d,r.grow g1,e2,λu A2 H2 g2 p2=>⟨q,vs,j,u,rfl,by rw[Rp.int.mp p1],(g1.trans g2).hh _ _ h1,hc1,by lia,by lia,?_⟩⟩⟩;have gg:=g1.trans g2;refine k σ A2 _ ((r.grow gg).change hi hlt (by rw[hg];simp) e3 (gg.hh _ _ h1) (.inl ⟨_,_,rfl,rfl,?_⟩)) gg.aa (gg.nB r.b);have h5:=aA.mono gg.aa _ h4;exact (h5.take _).append (aA.cons.mpr ⟨u,_,rfl,p2,h5.drop _⟩)
   | _=>cases em
  | _=>cases em
end
noncomputable def intsOf:B4->Option B3
 | []=>some []
 | .int i::ds=>(intsOf ds).map (i :: ·)
 | _::_=>none
theorem Gm:∀{ds:B4}{ns:B3},intsOf ds=some ns->ds=ns.map ab.int
 | [],ns,h=>by cases h;rfl
 | .int i::ds,ns,h=>by
  unfold intsOf at h
  cases e:intsOf ds with
  | none=>rw[e] at h;cases h
  | some ms=>rw[e] at h;cases h;rw[Gm e];rfl
@[simp] theorem vQ (ns:B3):intsOf (ns.map ab.int)=some ns:=by
 induction ns with
 | nil=>rfl
 | cons n ns ih=>rw[a8,intsOf,ih];rfl
noncomputable def yw:B4->AO ab
 | [.list ds]=>match intsOf ds with
  | some ns=>.ok (.int ns.sum)
  | none=>.bad
 | _=>.bad
theorem aA.aca:∀{ns:B3}{vs:C0},aA K A (ns.map ab.int) vs->vs=ns.map V.int
 | [],vs,h=>by rwa [fv,aA.nil] at h
 | n::ns,vs,h=>by
  rw[a8,aA.cons] at h;obtain ⟨v,r,rfl,h1,h2⟩:=h;rw[Rp.int.mp h1,h2.aca];rfl
theorem Gy:∀{ns:B3}{us:B8},AS (ns.map V.int) us->sR us ns
 | [],_,.nil=>.nil
 | n::ns,_,.cons r t=>by
  obtain ⟨tk,rfl⟩:=r;exact .cons n tk (Gy t)
theorem xO(hc:X.calm=true):fO X (.builtin "sum") (rC X.K yw):=by
 rintro AK s σ H xs us Q I r ⟨A,ds,d,e,ha,p,k⟩
 match ds,e with
 | [.list es],e=>
  have e':(match intsOf es with | some ns=>AO.ok (ab.int ns.sum) | none=>.bad)= .ok d:=e
  cases hn:intsOf es with
  | none=>rw[hn] at e';cases e'
  | some ns=>
   rw[hn] at e';cases e';obtain rfl:=Gm hn;obtain ⟨v,r',rfl,p1,p2⟩:=p.cons;obtain rfl:=p2.nil;obtain ⟨l,vs,rfl,h1,q1⟩:=p1.list ha;obtain rfl:=q1.aca;obtain ⟨u,rfl,rx⟩:=AS.one r;cases rx;obtain ⟨AM,rv,pl,hz⟩:=I.list h1;have hi:=Gy rv;have hall:=hi.allInts;obtain ⟨ys,ey⟩:=hall.items;have e2:=nums_intItems ys;refine sum_intListG (I.ok.hd hc) (by rw[<- ey];exact pl.isList) λh' tk t' hk=>?_;have e3:numsOf (intItems ys).toList=ns:=by
    rw[<- ey];exact hi.numsOf
   rw[e2] at e3;rw[preSum_eq,ij (by simp),e3];exact ⟨.int ns.sum,H,I.kept hk,⟨t',rfl⟩,k _ A H (aZ.refl ha) (Rp.int.mpr rfl)⟩
theorem OJ{a:Addr}{ns:B3}{f:B4->AO ab}{fg:Fl}{E:XK}(hm:f [.list (ns.map ab.int)]= .ok (.bool true))(hS:SqL K H a (ns.map V.int)):spF K [fg] .f f [.ref a] H (λv _=>v= .bl true) E:=by
 refine ⟨H,[.list (ns.map ab.int)],.bool true,aF.refl _,⟨_,_,_,_,rfl,rfl,?_,rfl,rfl⟩,hm,λv A' H' g p=>(Rp.bool (K:=K) (A:=A')).mp p⟩;have q:=Rp.list.mpr ⟨a,_,rfl,hS,aA.ints⟩
 cases fg with
 | AW=>exact q
 | AV=>exact .inl q
 | own=>exact .inl q
 | fix p0=>exact .inl q
 | exc C=>exact .inl q
 | nst b=>exact .inl q
 | kit=>exact .inl q
section
variable   {A:ke}
local macro_rules | `(tactic| walk_at "up_eq")=>`(tactic| (refine congrArg (_ >>= ·) (funext fun _=>?_);refine congrArg (_ >>= ·) (funext fun c=>?_);obtain ⟨r,m⟩:=c;cases r <;> rfl))
theorem RD{vs:B8}{ns:B3}{P:Fin->dy->Prop}(ho:s.heap.get? p=some (xB "list" vs.toArray i))
 (hI:sR vs ns) (hz:vs.length<64)
 (h:∀(out:Array a9) (ns':B3),sR out.toList ns'->ns'.Perm ns->ns'.Pairwise (· <= ·)->P (.done (.ret .none)) { s with heap:=sortedHeap s.heap p vs out }) :
 eI (eL prog w) A (Builtin.«list.sort» ⟨[.ref p],[]⟩) P E s:=list_sort_tree ho hI (by lia) h
end
noncomputable def insI(x:Int):B3->B3
 | []=>[x]
 | y::ys=>if x<=y then x::y::ys else y::insI x ys
noncomputable def srt:B3->B3
 | []=>[]
 | x::xs=>insI x (srt xs)
theorem insI_perm(x:Int):∀ys:B3,(insI x ys).Perm (x::ys)
 | []=>.refl _
 | y::ys=>by
  unfold insI
  by_cases h:x<=y
  . rw[if_pos h]
  . rw[if_neg h];exact ((insI_perm x ys).cons y).trans (.swap ..)
theorem oJ:∀xs:B3,(srt xs).Perm xs
 | []=>.refl _
 | x::xs=>(insI_perm x (srt xs)).trans ((oJ xs).cons x)
theorem Ak(x:Int):∀{ys:B3},ys.Pairwise (· <= ·)->(insI x ys).Pairwise (· <= ·)
 | [],_=>ya _ _
 | y::ys,h=>by
  unfold insI;have hy:=(mI.mp h)
  by_cases hxy:x<=y
  . rw[if_pos hxy];refine mI.mpr ⟨λz hz=>?_,h⟩;rcases cp.mp hz with rfl | hz
    . exact hxy
    . exact AI hxy (hy.1 z hz)
  . rw[if_neg hxy];refine mI.mpr ⟨λz hz=>?_,Ak x hy.2⟩;rcases cp.mp ((insI_perm x ys).mem_iff.mp hz) with rfl | hz
    . lia
    . exact hy.1 z hz
theorem wO:∀xs:B3,(srt xs).Pairwise (· <= ·)
 | []=>.nil
 | x::xs=>Ak x (wO xs)
theorem Ae:∀{xs ys:B3},xs.Perm ys->xs.Pairwise (· <= ·)->ys.Pairwise (· <= ·)->xs=ys
 | [],ys,p,_,_=>(List.nil_perm.mp p).symm ▸ rfl
 | x::xs,[],p,_,_=>absurd p.length_eq (by simp)
 | x::xs,y::ys,p,hx,hy=>by
  have hx':=mI.mp hx;have hy':=mI.mp hy;have h1:y<=x:=by
   rcases cp.mp (p.mem_iff.mp bX) with e | e
   . lia
   . exact hy'.1 x e
  have h2:x<=y:=by
   rcases cp.mp (p.mem_iff.mpr bX) with e | e
   . lia
   . exact hx'.1 y e
  have e:x=y:=by lia
  subst e;rw[Ae (p.cons_inv) hx'.2 hy'.2]
theorem yr:∀{us:B8}{ns:B3},sR us ns->AS (ns.map V.int) us
 | _,_,.nil=>.nil
 | _,_,.cons n t h=>.cons ⟨t,rfl⟩ (yr h)
open Classical in
noncomputable def eqR(h:Heap)(x:ab)(y:a9):Bool:=if q:∃d as,Reads h y d as/\d.canLay0=true then fw (yb q) x else false
variable {h:Heap}
theorem Tu{x d:ab}{y:a9}{as:C2}(r:Reads h y d as)(hd:d.canLay0=true):eqR h x y=fw d x:=by
 unfold eqR;have q:∃d as,Reads h y d as/\d.canLay0=true:=⟨d,as,r,hd⟩;rw[dif_pos q];obtain ⟨as',r',c'⟩:=Classical.choose_spec q;rw[(PySem.Reads.unique r' d as r).1]
theorem anyR{x:ab}:∀{us:B8}{ds:B4}{as:C2},ReadsAll h us ds as->iL ds=true->us.any (eqR h x)=ds.any λd=>fw d x
 | _,_,_,.nil,_=>rfl
 | _,_,_,.cons r rs,c=>by
  rw[iL,eh] at c;rw[kF,kF,Tu r c.1,anyR rs c.2]
theorem adh:∀{us:B8}{ds:B4}{as:C2}{u:a9},ReadsAll h us ds as->u∈us->∃d as,d∈ds/\Reads h u d as
 | _,_,_,u,.nil,m=>nomatch m
 | _,_,_,u,.cons r rs,m=>by
  rcases cp.mp m with rfl | m
  . exact ⟨_,_,bX,r⟩
  . obtain ⟨d',as,h1,h2⟩:=adh rs m;exact ⟨d',as,cc _ h1,h2⟩
noncomputable def inB(a:ab)(ds:B4):Bool:=ds.any λy=>fw y a
noncomputable def inX:ab->ab->AO ab
 | a,.list ds=>gd (eK a=true/\ds.all eK=true) (.ok (.bool (inB a ds)))
 | a,.tuple ds=>gd (eK a=true/\ds.all eK=true) (.ok (.bool (inB a ds)))
 | _,_=>.bad
noncomputable def Rz:ab->ab->AO ab
 | a,.list ds=>gd (eK a=true/\ds.all eK=true) (.ok (.bool (!inB a ds)))
 | a,.tuple ds=>gd (eK a=true/\ds.all eK=true) (.ok (.bool (!inB a ds)))
 | _,_=>.bad
theorem Fz:∀{ds:B4},ds.all eK=true->iL ds=true
 | [],_=>by rw[iL]
 | d::ds,h=>by
  rw[ti,eh] at h;rw[iL,mr h.1,Fz h.2];rfl
theorem Jw{d:ab}(h:eK d=true):d.depth<=64:=by
 unfold eK at h;rw[eh] at h;exact of_decide_eq_true h.2
variable {AK:A7}
theorem DW{d1:ab}{x:V}{v:a9}{AM:B8}(hu:X.A.units+66<kb)(I:AQ X AK σ H s)(rx:AR x v)(ha:aF A H)
 (p1:Pk X.K A H d1 x) (f1:eK d1=true) (f2:ds.all eK=true) (q2:aA X.K A ds vs) (r:AS vs AM) :
 (∀y,y∈AM.toArray->SeqAt.EqAt X.A.in1 s y v (eqR s.heap d1 y))/\AM.toArray.any (eqR s.heap d1)=inB d1 ds:=by
 obtain ⟨as,r1⟩:=Is.reads I d1 (p1.is ha f1) rx;obtain ⟨bs,r2⟩:=fj.reads I ds (fj.mono ha ds (aA.is ds (Fz f2) q2)) r;refine ⟨λy hy=>?_,by rw[List.any_toArray,anyR r2 (Fz f2)];rfl⟩;obtain ⟨d,cs,hd,ry⟩:=adh r2 (by simpa using hy);have hs:=fS.mp f2 d hd;rw[Tu ry (mr hs)];refine SeqAt.eqAt_reads d d1 X.A.in1 s y v cs as ry r1 (mr hs) (mr f1) ?_;have:=Jw hs;have e:X.A.in1.units=X.A.units+1:=rfl;have:=Nat.min_le_left d.depth d1.depth;lia
theorem Uj(hu:X.A.units+66<kb):OpR X (gu .In) (rD X.K inX):=by
 rintro AK s σ H x y v u Q I rx ry ⟨A,d1,d2,d,e,ha,p1,p2,k⟩
 cases d2 with
 | list ds=>
  obtain ⟨⟨f1,f2⟩,e⟩:=b7 e;have e':=AO.ok.inj e;subst e';obtain ⟨l,vs,rfl,h1,q2⟩:=p2.list ha;cases ry;obtain ⟨AM,r,pl,hz⟩:=I.list h1;obtain ⟨w1,w2⟩:=DW hu I rx ha p1 f1 f2 q2 r;refine SeqAt.in_listAt (eqR s.heap d1) pl.isList w1 ?_;rw[w2];exact ⟨.bl _,H,I,rfl,k _ A H (aZ.refl ha) (Rp.bool.mpr rfl)⟩
 | tuple ds=>
  obtain ⟨⟨f1,f2⟩,e⟩:=b7 e;have e':=AO.ok.inj e;subst e';obtain ⟨l,vs,rfl,h1,q2⟩:=p2.tuple ha;cases ry;obtain ⟨AM,r,pl,hz⟩:=I.tuple h1;obtain ⟨w1,w2⟩:=DW hu I rx ha p1 f1 f2 q2 r;refine SeqAt.in_tupleAt (eqR s.heap d1) (pl) w1 ?_;rw[w2];exact ⟨.bl _,H,I,rfl,k _ A H (aZ.refl ha) (Rp.bool.mpr rfl)⟩
 | _=>cases e
theorem GP(hu:X.A.units+66<kb):OpR X (gu .NotIn) (rD X.K Rz):=by
 rintro AK s σ H x y v u Q I rx ry ⟨A,d1,d2,d,e,ha,p1,p2,k⟩
 cases d2 with
 | list ds=>
  obtain ⟨⟨f1,f2⟩,e⟩:=b7 e;have e':=AO.ok.inj e;subst e';obtain ⟨l,vs,rfl,h1,q2⟩:=p2.list ha;cases ry;obtain ⟨AM,r,pl,hz⟩:=I.list h1;obtain ⟨w1,w2⟩:=DW hu I rx ha p1 f1 f2 q2 r;refine SeqAt.notIn_listAt (eqR s.heap d1) pl.isList w1 ?_;rw[w2];exact ⟨.bl _,H,I,rfl,k _ A H (aZ.refl ha) (Rp.bool.mpr rfl)⟩
 | tuple ds=>
  obtain ⟨⟨f1,f2⟩,e⟩:=b7 e;have e':=AO.ok.inj e;subst e';obtain ⟨l,vs,rfl,h1,q2⟩:=p2.tuple ha;cases ry;obtain ⟨AM,r,pl,hz⟩:=I.tuple h1;obtain ⟨w1,w2⟩:=DW hu I rx ha p1 f1 f2 q2 r;refine SeqAt.notIn_tupleAt (eqR s.heap d1) (pl) w1 ?_;rw[w2];exact ⟨.bl _,H,I,rfl,k _ A H (aZ.refl ha) (Rp.bool.mpr rfl)⟩
 | _=>cases e
theorem _root_.Zq.dF.cH{A:ke}(r:dF i A):A.units+66<kb:=by have:=r.un;lia
noncomputable def cR(key:Key):B0->Option ab
 | []=>none
 | (k,d)::r=>if bM k=some key then some d else cR key r
noncomputable def oZ(key:Key):B0->Bool
 | []=>false
 | (k,_)::r=>if bM k=some key then true else oZ key r
noncomputable def uG(key:Key)(x:ab):B0->B0
 | []=>[]
 | (k,d)::r=>(if bM k=some key then (k,x) else (k,d))::uG key x r
noncomputable def gU(kd:ab)(key:Key)(x:ab)(kvs:B0):B0:=if oZ key kvs=true then uG key x kvs else kvs++[(kd,x)]
theorem mU{k:ab}{key key':Key}(h:bM k=some key'):bM k=some key↔key'=key:=by rw[h];simp
variable {kd:ab}{kvs:B0}{u:A8}
section
variable   {key:Key}
theorem bu.look:∀{kvs:B0}{u:A8},bu K A kvs u->(∀d,cR key kvs=some d->∃v,ik u key=some v/\Rp K A d v)/\(cR key kvs=none->ik u key=none)
 | [],u,h=>by
  rw[bu.nil] at h;subst h;exact ⟨λd e=>(nomatch e),λ_=>rfl⟩
 | (k,d)::r,u,h=>by
  obtain ⟨key',v,u',rfl,hk,hd,hr⟩:=bu.cons.mp h;unfold cR
  by_cases e:bM k=some key
  . have e':=(mU hk).mp e;rw[if_pos e];exact ⟨λd' z=>by cases z;exact ⟨v,pB e',hd⟩,λz=>(nomatch z)⟩
  . have e':=λz=>e ((mU hk).mpr z);rw[if_neg e,o8 e'];exact bu.look hr
theorem bu.has:∀{kvs:B0}{u:A8},bu K A kvs u->(u.any λkv=>decide (kv.1=key))=oZ key kvs
 | [],u,h=>by rw[bu.nil] at h;subst h;rfl
 | (k,d)::r,u,h=>by
  obtain ⟨key',v,u',rfl,hk,hd,hr⟩:=bu.cons.mp h;rw[oZ,kF,bu.has hr]
  by_cases e:bM k=some key
  . rw[if_pos e,decide_eq_true ((mU hk).mp e)];rfl
  . rw[if_neg e,decide_eq_false λz=>e ((mU hk).mpr z)];rfl
theorem bu.set{w:V}(hx:Rp K A kd w):∀{kvs:B0}{u:A8},bu K A kvs u->bu K A (uG key kd kvs) (u.map λkv=>if kv.1=key then (kv.1,w) else kv)
 | [],u,h=>by rw[bu.nil] at h;subst h;exact bu.nil.mpr rfl
 | (k,d)::r,u,h=>by
  obtain ⟨key',v,u',rfl,hk,hd,hr⟩:=bu.cons.mp h;rw[uG,a8]
  by_cases e:bM k=some key
  . rw[if_pos e,if_pos ((mU hk).mp e)];exact bu.cons.mpr ⟨key',w,_,rfl,hk,hx,bu.set hx hr⟩
  . rw[if_neg e,if_neg λz=>e ((mU hk).mpr z)];exact bu.cons.mpr ⟨key',v,_,rfl,hk,hd,bu.set hx hr⟩
theorem bu.snoc{x:ab}{w:V}(hk:bM kd=some key)(hx:Rp K A x w):∀{kvs:B0}{u:A8},bu K A kvs u->bu K A (kvs++[(kd,x)]) (u++[(key,w)])
 | [],u,h=>by rw[bu.nil] at h;subst h;exact bu.cons.mpr ⟨key,w,[],rfl,hk,hx,bu.nil.mpr rfl⟩
 | (k,d)::r,u,h=>by
  obtain ⟨key',v,u',rfl,hk',hd,hr⟩:=bu.cons.mp h;exact bu.cons.mpr ⟨key',v,_,rfl,hk',hd,bu.snoc hk hx hr⟩
theorem bu.put{x:ab}(hk:bM kd=some key)(hx:Rp K A x v)(h:bu K A kvs u):bu K A (gU kd key x kvs) (putK u key v):=by
 unfold gU putK;rw[h.has]
 by_cases e:oZ key kvs=true
 . rw[if_pos e,if_pos e];exact h.set hx
 . rw[if_neg e,if_neg e];exact h.snoc hk hx
theorem bu.length:∀{kvs:B0}{u:A8},bu K A kvs u->kvs.length=u.length
 | [],u,h=>by rw[bu.nil] at h;subst h;rfl
 | (k,d)::r,u,h=>by
  obtain ⟨key',v,u',rfl,_,_,hr⟩:=bu.cons.mp h;rw[bt,bt,bu.length hr]
end
noncomputable def inY:ab->ab->AO ab
 | a,.dict kvs=>match bM a with
  | some key=>.ok (.bool (cR key kvs).isSome)
  | none=>.bad
 | a,b=>inX a b
noncomputable def lZ:ab->ab->AO ab
 | a,.dict kvs=>match bM a with
  | some key=>.ok (.bool (!(cR key kvs).isSome))
  | none=>.bad
 | a,b=>Rz a b
theorem Pk.key{key:Key}(p:Pk K A H kd v)(h:bM kd=some key):v=kV key:=by
 cases kd with
 | int i=>cases h;exact p.int
 | str x=>cases h;exact p.str
 | _=>cases h
theorem bu.some{key:Key}(h:bu K A kvs u):(ik u key).isSome=(cR key kvs).isSome:=by
 have:=h.look (key:=key)
 cases e:cR key kvs with
 | none=>rw[this.2 e];rfl
 | some d=>obtain ⟨v,e1,_⟩:=this.1 d e;rw[e1];rfl
theorem Ii(hu:X.A.units+66<kb):OpR X (gu .In) (rD X.K inY):=by
 rintro AK s σ H x y v u Q I rx ry ⟨A,d1,d2,d,e,ha,p1,p2,k⟩
 cases d2 with
 | dict kvs=>
  have e:(match bM d1 with | some key=>AO.ok (ab.bool (cR key kvs).isSome) | none=>.bad)= .ok d:=e
  cases hk:bM d1 with
  | none=>rw[hk] at e;cases e
  | some key=>
   rw[hk] at e;cases e;obtain ⟨l,w,rfl,h1,h2⟩:=p2.dict ha;cases ry;rw[p1.key hk] at rx;exact ae8 (by lia) I ((hW ⟨_,key,h1,rfl,rfl⟩)) rx λs' I'=>⟨.bl _,H,I',rfl,k _ A H (aZ.refl ha) (Rp.bool.mpr (by rw[h2.some]))⟩
 | list ds=>exact Uj hu AK s σ H x y v u Q I rx ry ⟨A,d1,.list ds,d,e,ha,p1,p2,k⟩
 | tuple ds=>exact Uj hu AK s σ H x y v u Q I rx ry ⟨A,d1,.tuple ds,d,e,ha,p1,p2,k⟩
 | _=>cases e
theorem qp(hu:X.A.units+66<kb):OpR X (gu .NotIn) (rD X.K lZ):=by
 rintro AK s σ H x y v u Q I rx ry ⟨A,d1,d2,d,e,ha,p1,p2,k⟩
 cases d2 with
 | dict kvs=>
  have e:(match bM d1 with | some key=>AO.ok (ab.bool (!(cR key kvs).isSome)) | none=>.bad)= .ok d:=e
  cases hk:bM d1 with
  | none=>rw[hk] at e;cases e
  | some key=>
   rw[hk] at e;cases e;obtain ⟨l,w,rfl,h1,h2⟩:=p2.dict ha;cases ry;rw[p1.key hk] at rx;exact ZF (by lia) I ((hW ⟨_,key,h1,rfl,rfl⟩)) rx λs' I'=>⟨.bl _,H,I',rfl,k _ A H (aZ.refl ha) (Rp.bool.mpr (by rw[h2.some]))⟩
 | list ds=>exact GP hu AK s σ H x y v u Q I rx ry ⟨A,d1,.list ds,d,e,ha,p1,p2,k⟩
 | tuple ds=>exact GP hu AK s σ H x y v u Q I rx ry ⟨A,d1,.tuple ds,d,e,ha,p1,p2,k⟩
 | _=>cases e
noncomputable def gW(i:Nat)(mk mv:ME):MS:=λΓ=>(mv Γ).bind λx=>(mk Γ).bind λkd=>match gv Γ i with
 | some (.dict kvs)=>match bM kd with
  | some key=>gd (kvs.length<bE/\i < Γ.length) (.ok (.nx (Γ.set i (some (.dict (gU kd key x kvs))))))
  | none=>.bad
 | _=>.bad
section
variable      {p:Pos}
theorem vW(r:bh K A B H O σ Γ)(hi:isO (fl O i)=true)(he:gv Γ i=some (.dict kvs)):∃q u,sv σ i=some (.ref q)/\H q=some (.dK u)/\bu K A kvs u:=by
 obtain ⟨d,q,o,e1,e2,h1,h2,h3,⟨ds',vs,rfl,rfl,h4⟩ | ⟨kvs,u,rfl,rfl,h4⟩⟩:=r.nY hi (by rw[he];simp)
 . rw[he] at e1;cases e1
 . rw[he] at e1;cases e1;exact ⟨q,u,e2,h1,h4⟩
theorem Rp.key{key:Key}(p:Rp K A kd v)(h:bM kd=some key):v=kV key:=Pk.key (H:=A) (.inl p) h
theorem m6(i:Nat)(hu:X.A.units+66<kb)(ha:QE X a (tE X.K O m))(he:QE X e (tE X.K O m'))(hi:isO (fl O i)=true:=by rfl)(nm:Nm X i x:=by walk_at "nm")(hs:h9 e (some (.Subscript (.Name x pos') a tpos)) pos.line X.env=pure false:=by rfl) :
 QS X (.Assign [.Subscript (.Name x pos') a tpos] e pos) (tS X.K rm Ol O O (gW i m m')):=by
 refine QS.imp (M6 (by lia) (dW nm.1 nm.2 nm.3 nm.4) ha.h he.h hs) λD σ H az=>?_;obtain ⟨A,B,Γ,o,r,em,k⟩:=az;obtain ⟨d,e1,em⟩:=AO.au em;obtain ⟨kd,e2,em⟩:=AO.au em
 cases hg:gv Γ i with
 | none=>rw[hg] at em;cases em
 | some dl=>
  rw[hg] at em
  cases dl with
  | dict kvs=>
   have em':=em
   cases hk:bM kd with
   | none=>rw[hk] at em';cases em'
   | some key=>
    rw[hk] at em';obtain ⟨⟨hz,hlt⟩,em'⟩:=b7 em';cases em';obtain ⟨q,u,e3,h2,h4⟩:=vW r hi hg;refine ⟨A,B,Γ,d,r,e1,λv A1 H1 g1 p1=>⟨.ref q,dU e3,A1,B,Γ,_,r.grow g1,e2,λw A2 H2 g2 p2=>?_⟩⟩;have gg:=g1.trans g2;refine ⟨q,_,rfl,by rw[Rp.key p2 hk];exact Eh.k (gg.hh _ _ h2) (by rw[<- h4.length];exact hz),?_⟩;exact k σ A2 _ ((r.grow gg).change hi hlt (by rw[hg];simp) e3 (gg.hh _ _ h2) (.inr ⟨_,_,rfl,rfl,bu.put hk (Rp.mono g2.aa _ p1) (bu.mono gg.aa _ h4)⟩)) gg.aa (gg.nB r.b)
  | _=>cases em
end
noncomputable def ixY:ab->ab->AO ab
 | .dict kvs,a=>match bM a with
  | some key=>match cR key kvs with
   | some d=>.ok d
   | none=>.bad
  | none=>.bad
 | a,b=>AX a b
theorem aaw:IxR X (λx y H Q=>∃a v,x= .ref a/\Kv H a y (some v)/\X.A.units+1<kb/\Q v H):=by
 intro value slice AK s σ H x y v u Q I rx ry h hs;obtain ⟨a,w,rfl,g,hu,q⟩:=h;cases rx;have hT:=Mu I g;refine ag ?_;rw[mT hT.not_modules];refine ag (kQ hT kX.lookup ?_);have fin:eI (eL X.prog X.w) X.A (oQ slice false (.ref a) u) (λr s₃=>eI (eL X.prog X.w) X.A (rX value (.ref a) r >>= λ_=>pure r) (EP X AK σ Q) X.xe s₃) X.xe s:=by
  rw[hs];exact qf (ib (TV hu I g ry λw' s' I' rw'=>(⟨w,H,I',rw',q⟩:EP X AK σ Q w' s')) (λr s₃ h₃=>ag (nE (bo h₃))) λ_ _ x=>x)
 first
  | exact bo (ag fin)
  | exact ag (bo (ag fin))
  | exact ag fin
theorem adE(hu:X.A.units+66<kb):IxR X (rD X.K ixY):=by
 intro value slice AK s σ H x y v u Q I rx ry hq hs;obtain ⟨A,d1,d2,d,e,ha,p1,p2,k⟩:=hq
 cases d1 with
 | dict kvs=>
  have e:(match bM d2 with | some key=>(match cR key kvs with | some d=>AO.ok d | none=>.bad) | none=>.bad)= .ok d:=e
  cases hk:bM d2 with
  | none=>rw[hk] at e;cases e
  | some key=>
   rw[hk] at e;have e:(match cR key kvs with | some d=>AO.ok d | none=>.bad)= .ok d:=e
   cases hl:cR key kvs with
   | none=>rw[hl] at e;cases e
   | some d0=>
    rw[hl] at e;cases e;obtain ⟨l,w,rfl,h1,h2⟩:=p1.dict ha;obtain ⟨v0,ev,rv⟩:=(h2.look).1 d hl;refine aaw value slice AK s σ H _ y v u Q I rx ry ⟨l,v0,rfl,?_,by lia,k _ A H (aZ.refl ha) rv⟩ hs;rw[p2.key hk,<- ev];exact (.inl ⟨_,_,h1,rfl,rfl⟩)
 | list ds=>exact Hz value slice AK s σ H x y v u Q I rx ry ⟨A,.list ds,d2,d,e,ha,p1,p2,k⟩ hs
 | tuple ds=>exact Hz value slice AK s σ H x y v u Q I rx ry ⟨A,.tuple ds,d2,d,e,ha,p1,p2,k⟩ hs
 | str ds=>exact Hz value slice AK s σ H x y v u Q I rx ry ⟨A,.str ds,d2,d,e,ha,p1,p2,k⟩ hs
 | _=>cases e
theorem qw(hu:X.A.units+66<kb)(ha:QE X a (tP X.K O m1))(hb:QE X b (tP X.K O m2))(hs:lD b):QE X (.Subscript a b pos) (tE X.K O (ao ixY m1 m2)):=QE.imp (Cg (adE hu) ha.h hb.h hs) λ_ _ _=>yS
noncomputable def pH:B0->Option B3
 | []=>some []
 | (.int k,_)::r=>(pH r).map (k :: ·)
 | _=>none
theorem Jo:∀{kvs:B0}{ns:B3}{u:A8},pH kvs=some ns->bu K A kvs u->u.map (·.1)=ns.map kU
 | [],ns,u,h,r=>by cases h;rw[bu.nil.mp r];rfl
 | (.int k,d)::rest,ns,u,h,r=>by
  have h:(pH rest).map (k :: ·)=some ns:=h
  cases e:pH rest with
  | none=>rw[e] at h;cases h
  | some ms=>
   rw[e] at h;cases h;obtain ⟨key,v,u',rfl,hk,_,r'⟩:=bu.cons.mp r;cases hk;rw[a8,a8,Jo e r']
 | (.none,d)::rest,ns,u,h,r=>by cases h
 | (.bool _,d)::rest,ns,u,h,r=>by cases h
 | (.str _,d)::rest,ns,u,h,r=>by cases h
 | (.list _,d)::rest,ns,u,h,r=>by cases h
 | (.tuple _,d)::rest,ns,u,h,r=>by cases h
 | (.dict _,d)::rest,ns,u,h,r=>by cases h
theorem ZZ{vs:List (Key×a9)}(r:KV u vs):vs.map (·.1)=u.map (·.1):=by
 induction r with
 | nil=>rfl
 | cons h t ih=>rw[a8,a8,ih,h.1]
theorem YM{i:Int}{v:a9}(h:(bY P w).is (.inl i) v=true):∃t,v= .int i t:=by
 rw[Qk] at h;cases v <;> simp_all [tZ,wo]
theorem vg:∀{vs:B8}{ns:B3},vs.length=ns.length->(∀(j:Nat) (v:a9),vs[j]?=some v->∃n t,ns[j]?=some n/\v= .int n t)->sR vs ns
 | [],[],_,_=>.nil
 | [],_::_,h,_=>by simp at h
 | _::_,[],h,_=>by simp at h
 | v::vs,n::ns,h,g=>by
  obtain ⟨n',t,e,rfl⟩:=g 0 v rfl;obtain rfl:n=n':=Option.some.inj e;exact .cons n t (vg (by simpa using h) λj v hv=>g (j+1) v (by simpa using hv))
theorem Ka(hc:X.calm=true):fO X (.builtin "sorted") (λxs H Q=>∃p u ns,xs=[.ref p]/\Rd H p (.dK u)/\u.map (·.1)=ns.map kU/\ns.length<64/\∀l,H l=none->Q (.ref l) (AU H l (.lst ((srt ns).map V.int)))):=by
 intro AK s σ H xs us Q I r h;obtain ⟨p,u,ns,rfl,he,hk,h64,q⟩:=h;obtain ⟨z,rfl,rx⟩:=vals1 r;cases rx;obtain ⟨hz,hsys,vs,kv,dd⟩:=pR I.AY he;obtain ⟨ep,hat⟩:=dd.dictAt;have hks:=(ZZ kv).trans hk;have hln:vs.length=ns.length:=by have:=congrArg List.length hks;rw[af,af] at this;exact this
 have small:vs.length<=bE:=by rw[hln];exact ka (ze h64 (by decide))
 refine (Calls.call_function_entry kind_sorted plain_sorted entry_sorted (args_sorted1 _) ?_);unfold Builtin.«sorted»;refine ag (m:=checkCount "sorted" 1 1 _) (bo (ag (PySem.W.kdu_collect (A:=X.A.in1) (PySem.W.kdl_dict (knd:=bY X.prog X.w) (kvs:=vs) (ep:=ep) hsys) (I.ok.hd hc) hat small λh' tk AL hkeep hacc=>?_)));have hl:AL.toList.length=ns.length:=by rw[md,hacc.1,hln]
 have hI:sR AL.toList ns:=vg hl λj v hv=>by
  obtain ⟨k,x,e1,e2⟩:=hacc.2 j v (by rw[<- sF];exact hv);have e3:(ns.map kU)[j]?=some k:=by rw[<- hks,br,e1];rfl
  rw[br] at e3
  cases e4:ns[j]? with
  | none=>rw[e4] at e3;cases e3
  | some n=>
   rw[e4] at e3;cases e3;obtain ⟨t,rfl⟩:=YM e2;exact ⟨n,t,rfl,rfl⟩
 have hoL:(h'.push (xB "list" AL.toList.toArray 0)).get? h'.objs.size=some (xB "list" AL.toList.toArray 0):=c6 _ rfl;have I1:Zq.AQ X AK σ H { s with heap:=h',toks:=tk }:=I.kept hkeep;refine ag (wpAny_newList (ag (lh (fR slot_list_sort ⟨_,hoL,rfl⟩ entry_list_sort (RD hoL hI (show _<64 by lia) λout ns' a1 a2 a3=>⟨_,rfl,bo ⟨_,rfl,?_⟩⟩) (args_list_sort _)))) (by rw[hl];exact ka (ze h64 (by decide))));have e:ns'=srt ns:=Ae (a2.trans (oJ ns).symm) a3 (wO ns);subst e;obtain ⟨c,hc'⟩:=sortedHeap_at (out:=out) hoL;refine ⟨.ref h'.objs.size,_,I1.laid (a:=h'.objs.size) (o:=.lst ((srt ns).map V.int)) (h':=sortedHeap (h'.push (xB "list" AL.toList.toArray 0)) h'.objs.size AL.toList out) (t':=tk) (λb o e=>?_) (ay _) ?_,rfl,q _ (I1.AY.fresh (ay _))⟩
 . have hb:b<h'.objs.size:=c8 e;rw[sortedHeap_old (fi hb) (by rw[size_push'];exact Nat.lt_succ_of_lt hb)];exact aE _ e
 . refine ⟨?_,out.toList,c,yr a1,by simpa[xB] using hc'⟩;rw[af,(oJ ns).length_eq];exact ka (ze h64 (by decide))
noncomputable def zu:B4->AO ab
 | [.dict kvs]=>match pH kvs with
  | some ns=>gd (ns.length<64) (.ok (.list ((srt ns).map ab.int)))
  | none=>.bad
 | _=>.bad
theorem QJ(hc:X.calm=true):fO X (.builtin "sorted") (rCF X.K zu):=by
 intro AK s σ H xs us Q I r h;obtain ⟨A,ds,d,e,ha,p,k⟩:=h
 match ds,e with
 | [.dict kvs],e=>
  have e:(match pH kvs with | some ns=>gd (ns.length<64) (.ok (.list ((srt ns).map ab.int))) | none=>.bad)=AO.ok d:=e
  cases hn:pH kvs with
  | none=>rw[hn] at e;cases e
  | some ns=>
   rw[hn] at e;obtain ⟨hz,e⟩:=b7 e;cases e;obtain ⟨v,r',rfl,p1,p2⟩:=p.cons;obtain rfl:=p2.nil;obtain ⟨l,u,rfl,h1,q1⟩:=p1.dict ha;exact Ka hc AK s σ H _ us Q I r ⟨l,u,ns,rfl,h1,Jo hn q1,hz,λq hq=>k _ A _ (aZ.lay ha hq) ⟨q,_,rfl,hq,aU,ha.free hq,.inl ⟨_,_,rfl,rfl,aA.ints⟩⟩⟩
theorem Mp:fO X (.type "range") (λxs H Q=>∃n,xs=[.int n]/\∀p,H p=none->Q (.ref p) (AU H p (.rng 0 n))):=by
 rintro AK s σ H xs us Q I r ⟨n,rfl,q⟩;obtain ⟨z,rfl,t,rfl⟩:=vals1 r;refine call_range_1 ⟨.ref s.heap.objs.size,_,I.laid (o:=.rng 0 n) (λb o e=>aE _ e) (ay _) ⟨_,_,_,c6 _ rfl⟩,rfl,q _ (I.AY.fresh (ay _))⟩
theorem Ph(hc:X.calm=true):fO X (.type "list") (λxs H Q=>∃p n,xs=[.ref p]/\H p=some (.rng 0 n)/\(-(2^20)<=n/\n<=2^20)/\∀l,H l=none->Q (.ref l) (AU H l (.lst ((List.range n.toNat).map λi=>V.int (i:Nat))))):=by
 rintro AK s σ H xs us Q I r ⟨p,n,rfl,he,hn,q⟩;obtain ⟨z,rfl,rx⟩:=vals1 r;cases rx;obtain ⟨t,u,v,eo⟩:=(I.AY p _ he);refine call_list_range (n:=n.toNat) (I.ok.hd hc) (eo) (small_one (by decide) (by decide) (by lia) (by lia)) (by rw[rangeSize_one];split <;> lia) (by lia) λh' tk AL c hk hS hacc=>⟨.ref s.heap.objs.size,_,I.laid (o:=.lst ((List.range n.toNat).map λi=>V.int (i:Nat))) hk (ay _) ⟨?_,AL.toList,c,?_,by simpa using hS⟩,rfl,q _ (I.AY.fresh (ay _))⟩
 . rw[af,cS,PySem.sizeLine_eq];lia
 . have hv:∀(m:Nat) vs,vs.length=m->(∀(j:Nat) v,vs[j]?=some v->∃t,v=a9.int (0+j*1) t)->∀k:Nat,(∀(j:Nat) v,vs[j]?=some v->∃t,v=a9.int (0+j*1) t)->AS ((List.range m).map λi=>V.int (i:Nat)) vs:=by
    intro m
    induction m with
    | zero=>intro vs h _ _ _;rw[l5.mp h];exact .nil
    | succ m ih=>
     intro vs hl g k _;rw[kR,a7];obtain ⟨ws,x,rfl⟩:∃ws x,vs=ws++[x]:=⟨vs.dropLast,vs.getLast (by intro z;rw[z] at hl;cases hl),(ve _).symm⟩;have hl':=by simpa using hl
     refine AS.append (ih ws hl' (λj v e=>g j v (by rw[cq (aS.mp e).1];exact e)) 0 λj v e=>g j v (by rw[cq (aS.mp e).1];exact e)) (.cons ?_ .nil);obtain ⟨t,e⟩:=g m x (by rw[b9 (by lia)];simp[hl']);exact ⟨t,by rw[e];congr 1;lia⟩
   have g:=λj v e=>hacc.2 j v (by rw[<- sF];exact e);exact hv n.toNat AL.toList (by rw[md];exact hacc.1) g 0 g
noncomputable def lrD:ab->AO ab
 | .int n=>gd (-(2^20)<=n/\n<=2^20) (.ok (.list ((List.range n.toNat).map λi=>ab.int (i:Nat))))
 | _=>.bad
theorem aA.range{K:aw}{A:Hp}:aA K A ((List.range j).map λi=>ab.int (i:Nat)) ((List.range j).map λi=>V.int (i:Nat)):=by
 have:=aA.ints (K:=K) (A:=A) (ns:=(List.range j).map λi=>((i:Nat):Int));rwa [de,de] at this
theorem yU(hc:X.calm=true)(hgl:Gl X "list")(hml:X.mg "list"= none)(hvl:fk "list"= some (.type "list"))(hgr:Gl X "range")(hmr:X.mg "range"= none)(hvr:fk "range"= some (.type "range"))(he:QE X e (tP X.K O m))
 (hst:Bn e=true:=by rfl):QE X (.Call (.Name "list" pos') [.Call (.Name "range" tpos) [e] [] apos] [] pos) (tF X.K O (eUn lrD m)):=by
 refine QE.imp (uo (Ph hc) hgl hml hvl (bW (uo Mp hgr hmr hvr (bW he.h eQ (cN hst)) (by decide) (by decide) (cN hst) (iY rfl)) eQ)) λσ H Q az=>?_;obtain ⟨A,B,Γ,d,r,em,k⟩:=az;obtain ⟨d1,e1,em⟩:=AO.au em
 cases d1 with
 | int n=>
  obtain ⟨hn,em⟩:=b7 em;cases em;refine ⟨A,B,Γ,_,r,e1,λv A1 H1 g1 p1=>⟨n,by rw[p1.int],λq hq=>⟨q,n,rfl,aU,hn,λl hl=>?_⟩⟩⟩;have hq1:H1 l=none:=by
   by_cases z:l=q
   . subst z;rw[aU] at hl;cases hl
   . rwa [aH z] at hl
  have g2:=aZ.lay (o:=HO.rng 0 n) g1.ah hq;have g3:=aZ.lay (o:=HO.lst ((List.range n.toNat).map λi=>V.int (i:Nat))) g2.ah hl;exact k _ A1 _ (g1.trans (g2.trans g3)) ⟨l,_,rfl,g1.hh.free hq1,aU,g2.ah.free hl,.inl ⟨_,_,rfl,rfl,aA.range⟩⟩
 | _=>cases em
noncomputable def rem(H:Hp)(p:Addr):Hp:=λb=>if b=p then none else H b
theorem J5:rem H p p=none:=if_pos rfl
theorem qe{b:Addr}(h:b≠p):rem H p b=H b:=if_neg h
theorem abd:aF (rem H p) H:=λb o e=>by
 by_cases h:b=p
 . subst h;rw[J5] at e;cases e
 . rwa [qe h] at e
theorem oW(s:aF B H)(hp:B p=none):aF B (rem H p):=λb o e=>by
 have h:b≠p:=λz=>by rw[z,hp] at e;cases e
 rw[qe h];exact s b o e
theorem Yq(h:gv Γ i≠none):i < Γ.length:=by
 rcases gy i Γ.length with z | z
 . exact z
 . exact absurd (by rw[gv,ae,fh z];rfl) h
theorem bh.abV(r:bh K A B H O σ Γ)(hi:isO (fl O i)=true)(he:gv Γ i≠none)(hs:sv σ i=some (.ref p))(sa:aF A A')(ah:aF A' H')(hk:∀b u,b≠p->H b=some u->H' b=some u)(nw:New A A' H)
 (ap:A' p=none) (hp:H' p=some o) (ho:jc K A' kd o):bh K A' B H' O σ (Γ.set i (some kd)):=by
 obtain ⟨d,p',o0,e1,e2,g1,g2,g3,g4⟩:=r.nY hi he;rw[hs] at e2;cases e2;have hl:=Yq he;refine ⟨ah,λb u q=>?_,by rw[fx];exact r.len,λj=>?_,λj k hjk q1 q2 q3 q4=>?_⟩
 . have hb:b≠p:=λz=>by rw[z,g3] at q;cases q
   exact hk b u hb (r.b b u q)
 . by_cases hj:i=j
   . subst hj;rw[gv,bL hl];intro d'' e;cases e;refine ⟨_,hs,?_⟩
     cases hf:fl O i with
     | AW=>rw[hf] at hi;cases hi
     | AV=>rw[hf] at hi;cases hi
     | own=>exact ⟨p,o,rfl,hp,ap,g3,ho⟩
     | fix p0=>
      obtain ⟨v',ev,q⟩:=r.slot i d e1;rw[hf] at q;rw[hs] at ev;cases ev;exact ⟨q.1,p,o,rfl,hp,ap,g3,ho⟩
     | exc C=>rw[hf] at hi;cases hi
     | nst b=>rw[hf] at hi;cases hi
     | kit=>rw[hf] at hi;cases hi
   . rw[gv,aR hj];intro d'' e'';obtain ⟨v',ev,q⟩:=r.slot j d'' e'';refine ⟨v',ev,?_⟩;have hne:isO (fl O j)=true->∀p',v'= .ref p'->p'≠p:=λhf p' ez z=>by
      refine r.sep i j hj hi hf he (by rw[gv,e''];simp) ?_;rw[hs,ev,ez,z]
     cases hf:fl O j with
     | AW=>rw[hf] at q;exact Rp.mono sa d'' q
     | AV=>rw[hf] at q;exact Pk.mono sa (aF.refl _) q
     | own=>
      rw[hf] at q;obtain ⟨p',o,rfl,u1,u2,u3,u4⟩:=q;exact ⟨p',o,rfl,hk _ _ (hne (by rw[hf];rfl) p' rfl) u1,nw p' u2 (by rw[u1];simp),u3,u4.mono sa⟩
     | fix p0=>
      rw[hf] at q;obtain ⟨q0,p',o,rfl,u1,u2,u3,u4⟩:=q;exact ⟨q0,p',o,rfl,hk _ _ (hne (by rw[hf];rfl) p' rfl) u1,nw p' u2 (by rw[u1];simp),u3,u4.mono sa⟩
     | kit=>rw[hf] at q;exact qI.mono sa q
     | exc C=>
      rw[hf] at q;obtain ⟨p',ob,w1,w2,w3⟩:=q;exact ⟨p',ob,w1,sa _ _ w2,w3⟩
     | nst b=>
      rw[hf] at q;intro z;obtain ⟨p',xs,kvs,w1,w2,w3,w4,w5,w6⟩:=q z;have hn:p'≠p:=λz=>by subst z;rw[g1] at w3;exact g4.nx w3
      exact ⟨p',xs,kvs,w1,w2,hk _ _ hn w3,nw p' w4 (by rw[w3];simp),w5,w6.mono sa⟩
 . have h3:gv Γ j≠none:=by
    by_cases hj:i=j
    . subst hj;exact he
    . unfold gv at q3 ⊢;rwa [aR hj] at q3
   have h4':gv Γ k≠none:=by
    by_cases hk:i=k
    . subst hk;exact he
    . unfold gv at q4 ⊢;rwa [aR hk] at q4
   exact r.sep j k hjk q1 q2 h3 h4'
inductive MA where
 | AW | AV | var (i:Nat) | new
def Q5(K:aw)(A B:Hp)(σ:St)(Γ:Ev)(H0 H:Hp):MA->ab->V->Prop
 | .AW,d,v=>Rp K A d v
 | .AV,d,v=>Pk K A B d v
 | .var i,d,v=>sv σ i=some v/\gv Γ i=some d
 | .new,d,v=>∃p o,v= .ref p/\H0 p=none/\H p=some o/\A p=none/\jc K A d o
def pM(K:aw)(A B:Hp)(σ:St)(Γ:Ev)(H0 H:Hp):List MA->B4->C0->Prop
 | [],ds,vs=>ds=[]/\vs=[]
 | a::as,ds,vs=>∃d r v s,ds=d::r/\vs=v::s/\Q5 K A B σ Γ H0 H a d v/\pM K A B σ Γ H0 H as r s
section
variable  {H0:Hp}
theorem pM.base(s:aF H0 H):∀{as:List MA}{ds:B4}{vs:C0},pM K A B σ Γ H H' as ds vs->pM K A B σ Γ H0 H' as ds vs
 | [],ds,vs,h=>h
 | a::as,ds,vs,h=>by
  obtain ⟨d,r,v,t,rfl,rfl,h1,h2⟩:=h;refine ⟨d,r,v,t,rfl,rfl,?_,pM.base s h2⟩
  cases a with
  | new=>obtain ⟨p,o,e,h0,q⟩:=h1;exact ⟨p,o,e,s.free h0,q⟩
  | AW=>exact h1
  | AV=>exact h1
  | var i=>exact h1
theorem pM.len:∀{as:List MA}{ds:B4}{vs:C0},pM K A B σ Γ H0 H as ds vs->ds.length=as.length/\vs.length=as.length
 | [],ds,vs,h=>by obtain ⟨rfl,rfl⟩:=h;exact ⟨rfl,rfl⟩
 | a::as,ds,vs,h=>by
  obtain ⟨d,r,v,t,rfl,rfl,_,h2⟩:=h;have:=h2.len;exact ⟨by rw[bt,bt,this.1],by rw[bt,bt,this.2]⟩
theorem pM.get:∀{as:List MA}{ds:B4}{vs:C0}{i:Nat}{d:ab}{v:V}{a:MA},pM K A B σ Γ H0 H as ds vs->as[i]?=some a->ds[i]?=some d->vs[i]?=some v->Q5 K A B σ Γ H0 H a d v
 | [],ds,vs,i,d,v,a,h,ea,ed,ev=>by simp at ea
 | b::as,ds,vs,i,d,v,a,h,ea,ed,ev=>by
  obtain ⟨d0,r,v0,t,rfl,rfl,h1,h2⟩:=h
  match i with
  | 0=>simp at ea ed ev;subst ea;subst ed;subst ev;exact h1
  | i+1=>exact h2.get (by simpa using ea) (by simpa using ed) (by simpa using ev)
end
def tAm(K:aw)(O:B9)(as:List MA)(ms:List ME):TA:=λσ H Q=>∃A B Γ ds,bh K A B H O σ Γ/\evs ms Γ = .ok ds/\∀vs A' H',aZ A H A' H'->pM K A' B σ Γ H H' as ds vs->Q vs H'
section
variable      {as:List MA}
theorem jN:QA X [] (tAm K O [] []):=QA.imp eQ λσ H Q az=>by
 obtain ⟨A,B,Γ,ds,r,em,k⟩:=az;cases em;exact k [] A H (aZ.refl r.a) ⟨rfl,rfl⟩
theorem qu(ha:QE X e (tE K O m))(hr:QA X es (tAm K O as ms))(hs:Bn e=true:=by rfl):QA X (e::es) (tAm K O (.AW::as) (m::ms)):=QA.imp (bW ha.h hr.h (cN hs)) λσ H Q az=>by
 obtain ⟨A,B,Γ,ds,r,em,k⟩:=az;obtain ⟨d,e1,em⟩:=AO.au em;obtain ⟨ds',e2,em⟩:=AO.au em;cases em;exact ⟨A,B,Γ,d,r,e1,λv A1 H1 g1 p1=>⟨A1,B,Γ,ds',r.grow g1,e2,λvs A2 H2 g2 p2=>k (v::vs) A2 H2 (g1.trans g2) ⟨d,ds',v,vs,rfl,rfl,Rp.mono g2.aa d p1,p2.base g1.hh⟩⟩⟩
theorem eG(ha:QE X e (tQ K O m))(hr:QA X es (tAm K O as ms))(hs:Bn e=true:=by rfl):QA X (e::es) (tAm K O (.AV::as) (m::ms)):=QA.imp (bW ha.h hr.h (cN hs)) λσ H Q az=>by
 obtain ⟨A,B,Γ,ds,r,em,k⟩:=az;obtain ⟨d,e1,em⟩:=AO.au em;obtain ⟨ds',e2,em⟩:=AO.au em;cases em;exact ⟨A,B,Γ,d,r,e1,λv A1 H1 g1 p1=>⟨A1,B,Γ,ds',r.grow g1,e2,λvs A2 H2 g2 p2=>k (v::vs) A2 H2 (g1.trans g2) ⟨d,ds',v,vs,rfl,rfl,Pk.mono g2.aa (aF.refl _) p1,p2.base g1.hh⟩⟩⟩
theorem jO(i:Nat)(hr:QA X es (tAm K O as ms))(nm:Nm X i x:=by walk_at "nm"):QA X (.Name x pos::es) (tAm K O (.var i::as) (aj i::ms)):=QA.imp (bW (dW nm.1 nm.2 nm.3 nm.4) hr.h (cN rfl)) λσ H Q az=>by
 obtain ⟨A,B,Γ,ds,r,em,k⟩:=az;obtain ⟨d,e1,em⟩:=AO.au em;obtain ⟨ds',e2,em⟩:=AO.au em;cases em;obtain ⟨v,e3,_⟩:=r.slot i d (rE e1);exact ⟨v,dU e3,A,B,Γ,ds',r,e2,λvs A2 H2 g2 p2=>k (v::vs) A2 H2 g2 ⟨d,ds',v,vs,rfl,rfl,⟨e3,rE e1⟩,p2⟩⟩
end
def spM(K:aw)(fs:B9)(j:Nat)(f:B4->AO ab):Sp:=λvs H Q _=>∃A B ds d dm p o,aF A H/\aF B H/\vs.length=fs.length/\ds.length=fs.length/\vs[j]?=some (.ref p)/\H p=some o/\A p=none/\B p=none /\
 (∀e,ds[j]?=some e->jc K A e o)/\(∀(i:Nat) e v,i≠j->ds[i]?=some e->vs[i]?=some v->BL K A B (fl fs i) e v)/\f ds= .ok (.tuple [d,dm]) /\
 ∀v A' H' o',aF A A'->aF A' H'->(∀b u,b≠p->H b=some u->H' b=some u)->New A A' H->A' p=none->H' p=some o'->jc K A' dm o'->Rp K A' d v->Q v H'
noncomputable def kOk:MA->Fl->Bool
 | .AW,.AW=>true
 | .AW,.AV=>true
 | .AV,.AV=>true
 | _,_=>false
theorem Q5.afv{a:MA}{f:Fl}(h:Q5 K A B σ Γ A' H a kd v)(hk:kOk a f=true):BL K A B f kd v:=by
 cases a <;> cases f <;> first | exact h | exact .inl h | cases hk
noncomputable def pg:ab->Option (ab×ab)
 | .tuple [d,dm]=>some (d,dm)
 | _=>none
def tM(K:aw)(O:B9)(i:Nat)(f:B4->AO ab)(ms:List ME):TE:=λσ H Q=>∃A B Γ ds d dm,bh K A B H O σ Γ/\evs ms Γ = .ok ds/\f ds= .ok (.tuple [d,dm]) /\
 ∀v A' H',bh K A' B H' O σ (Γ.set i (some dm))->aF A A'->New A A' B->Rp K A' d v->Q v H'
section
variable  {k:Nat}   {fs:B9}  {f:B4->AO ab}  {as:List MA}  {p:Pos}
theorem iH(i:Nat)(F:Def X.prog X.w X.K X.mg X.base k x ps (spM X.K fs j f))(hr:dF k X.A)(hg:Gl X x)(ha:QA X (e::es) (tAm X.K O as ms))(hj:as[j]?=some (.var i))(hi:isO (fl O i)=true)(hlen:as.length=fs.length)(hfs:∀l,l<fs.length->l≠j->kOk (as.getD l .new) (fl fs l)=true)
 (hdb:nD x:=by decide) (he:Bn e=true:=by rfl) (hpl:iD es=true:=by rfl):QE X (.Call (.Name x p) (e::es) [] pos) (tM X.K O i f ms):=
 QE.imp (CK F hr hg ha.h hdb (cN he) (iY hpl)) λσ H Q az=>by
  obtain ⟨A,B,Γ,ds,d,dm,r,e1,e2,k⟩:=az;refine ⟨A,B,Γ,ds,r,e1,λvs A1 H1 g1 p1=>?_⟩;show spM X.K fs j f (vs++[]) H1 Q E0;rw[dA];have hl:=p1.len;have r1:=r.grow g1;have hjl:=(aS.mp hj).1;have hdj:ds[j]?=some ds[j]:=av (by lia);have hvj:vs[j]?=some vs[j]:=av (by lia);obtain ⟨hs,hg'⟩:sv σ i=some vs[j]/\gv Γ i=some ds[j]:=p1.get hj hdj hvj;have hgn:gv Γ i≠none:=by rw[hg'];simp
  obtain ⟨d',p',o,u1,u2,u3,u4,u5,u6⟩:=r1.nY hi hgn;rw[hs] at u2;rw[hg'] at u1;have u1:=Option.some.inj u1;have u2:=Option.some.inj u2;refine ⟨A1,B,ds,d,dm,p',o,g1.ah,r1.b,by lia,by lia,by rw[hvj,u2],u3,u4,u5,λz hz=>?_,λl z v hlj hz hv=>?_,e2,λv A2 H2 o2 s1 s2 s3 s4 s5 s6 s7 s8=>?_⟩
  . rw[hdj] at hz;rw[<- Option.some.inj hz,u1];exact u6
  . have hll:l<as.length:=by have:=(aS.mp hz).1;lia
    have ea:as[l]?=some (as.getD l .new):=by rw[ae,av hll];rfl
    exact (p1.get ea hz hv).afv (hfs l (by lia) hlj)
  . exact k v A2 H2 (r1.abV hi hgn (by rw[hs,u2]) s1 s2 s3 s4 s5 s6 s7) (g1.aa.trans s1) ((g1.nB r.b).trans (s4.mono r1.b)) s8
end
noncomputable def Ds(x i:Nat)(f:B4->AO ab)(ms:List ME):MS:=λΓ=>(evs ms Γ).bind λds=>(f ds).bind λr=>match pg r with
 | some (d,dm)=>gd (x < Γ.length) (.ok (.nx ((Γ.set i (some dm)).set x (some d))))
 | none=>.bad
theorem yX{d dm:ab}(h:pg kd=some (d,dm)):kd= .tuple [d,dm]:=by
 unfold pg at h;split at h
 . cases h;rfl
 . cases h
section
variable     {f:B4->AO ab}
theorem Ei(x i:Nat){y:Str}(hN:X.N.Nodup)(hi:X.N[x]?=some y)(hx:Loc X.env.scope y)(he:QE X e (tM K O i f ms))(hl:x<O.length)(hs:h9 e (some (.Name y pos')) pos.line X.env=pure false:=by rfl)
 (hf:X.fn y=true\/X.env.scope.names.lookup y=some .local:=by walk_at "hf") (hO:O.set x .AW=O2:=by rfl):QS X (.Assign [.Name y pos'] e pos) (tS K rm Ol O O2 (Ds x i f ms)):=
 hO ▸ QS.imp (Dh hN hi hx he.h hs hf) λD σ H az=>by
  obtain ⟨A,B,Γ,o,r,em,k⟩:=az;obtain ⟨ds,e1,em⟩:=AO.au em;obtain ⟨t,e2,em⟩:=AO.au em
  cases h:pg t with
  | none=>rw[h] at em;cases em
  | some q=>
   obtain ⟨d,dm⟩:=q;rw[h] at em;obtain ⟨hxl,em⟩:=b7 em;cases em;rw[yX h] at e2;exact ⟨A,B,Γ,ds,d,dm,r,e1,e2,λv A' H' r' sa nw p=>k _ A' H' (r'.set (by rw[fx];exact hxl) hl p) sa nw⟩
noncomputable def HD(k i:Nat)(f:B4->AO ab)(ms:List ME):MS:=λΓ=>(evs ms Γ).bind λds=>(f ds).bind λr=>match pg r,gv Γ k with
 | some (d,dm),some (.list es)=>gd (es.length<bE) (.ok (.nx ((Γ.set i (some dm)).set k (some (.list (es++[d]))))))
 | _,_=>.bad
theorem Nb(i j:Nat)(hij:j≠i)(he:QE X e (tM X.K O j f ms))(hi:isO (fl O i)=true:=by rfl)(nm:Nm X i x:=by walk_at "nm")(hbase:mw (.Name x pos') "append" X.env (eval (.Name x pos') X.env)=eval (.Name x pos') X.env:=by rfl)
 (hfew:((nc cpos (d5 (e::[]) X.env)).all (λx=>!x.1)&&(x6 cpos (qV [] X.env)).all (λx=>x.1.isSome)
  && decide ((e::[]).length+([]:List pf).length+(if ([]:List pf).isEmpty then 0 else 1)<30))=true:=by rfl)
 (hline:(apos.endLine == cpos.line)=true:=by rfl) (hs:d5 (e::[]) X.env=(false,eval e X.env)::d5 [] X.env:=by rfl) (hplain:(nc cpos (d5 [] X.env)).any (·.1)=false:=by rfl)
 (hsw:h9 (.Call (.Attribute (.Name x pos') "append" apos) [e] [] cpos) none pos.line X.env=pure false:=by rfl) :
 QS X (.Expr (.Call (.Attribute (.Name x pos') "append" apos) [e] [] cpos) pos) (tS X.K rm Ol O O (HD i j f ms)):=by
 refine QS.imp (o7 (BR lT rS xy yQ (dW nm.1 nm.2 nm.3 nm.4) (bW he.h eQ hs) hbase hfew hline hs hplain) hsw) λD σ H az=>?_;obtain ⟨A,B,Γ,o,r,em,k⟩:=az;obtain ⟨ds,e1,em⟩:=AO.au em;obtain ⟨t,e2,em⟩:=AO.au em
 cases h:pg t with
 | none=>rw[h] at em;cases em
 | some q=>
  obtain ⟨d,dm⟩:=q;rw[h] at em;rw[yX h] at e2
  cases hg:gv Γ i with
  | none=>rw[hg] at em;cases em
  | some dl=>
   rw[hg] at em
   cases dl with
   | list es=>
    obtain ⟨hc,em⟩:=b7 em;cases em;obtain ⟨q,vs,e3,h1,h4⟩:=oH r hi hg;have hgi:gv (Γ.set j (some dm)) i=some (.list es):=by
     have:=hg;unfold gv at this ⊢;rw[aR hij];exact this
    refine ⟨.ref q,dU e3,.inl ⟨rfl,vs,SqL.of h1⟩,A,B,Γ,ds,d,dm,r,e1,e2,λv A1 H1 r1 sa nw p1=>?_⟩;obtain ⟨q',vs',e4,h5,h6⟩:=oH r1 hi hgi;rw[e3] at e4;cases e4;refine ⟨q,vs',v,rfl,rfl,h5,by rw[<- h6.length];exact hc,?_⟩;exact k σ A1 _ (r1.change hi (Yq (by rw[hgi];simp)) (by rw[hgi];simp) e3 h5 (.inl ⟨_,_,rfl,rfl,h6.append (aA.one p1)⟩)) sa nw
   | _=>cases em
noncomputable def BW(j:Nat)(m:ME):MS:=λΓ=>(m Γ).bind λd=>match gv Γ j with
 | some dm=>.ok (.rt (.tuple [d,dm]))
 | none=>.bad
theorem Fj(j:Nat)(hj:fl O j= .fix p)(he:QE X e (tE K O m)):QS X (.Return (some e) pos) (tS K (.m p) Ol O O' (BW j m)):=QS.imp (yF he.h) λD σ H az=>by
 obtain ⟨A,B,Γ,o,r,em,k⟩:=az;obtain ⟨d1,e1,em⟩:=AO.au em
 cases hg:gv Γ j with
 | none=>rw[hg] at em;cases em
 | some dm=>
  rw[hg] at em;cases em;refine ⟨A,B,Γ,d1,r,e1,λv A' H' g q=>k v A' H' g.ah (r.b.trans g.hh) g.aa (g.nB r.b) ?_⟩;obtain ⟨v',_,s⟩:=(r.grow g).slot j dm hg;rw[hj] at s;obtain ⟨rfl,p',o',e',h1,h2,_,h4⟩:=s;cases e';exact ⟨d1,dm,o',rfl,q,h1,h2,h4⟩
theorem Dj:pN O O cl=true:=by
 rw[pN,eh];exact ⟨beq_self_eq_true _,fS.mpr λj _=>by rw[decide_eq_true rfl];rfl⟩
end
section
variable     {base:Heap}
theorem wz(ha:aF A H)(hb:aF B H)(hv:vs.length=Ol.length)(hd:ds.length=Ol.length)(hj:vs[j]?=some (.ref p))(hp:H p=some o)(ap:A p=none)(bp:B p=none)
 (hown:∀e,ds[j]?=some e->jc K A e o) (hargs:∀(i:Nat) e v,i≠j->ds[i]?=some e->vs[i]?=some v->BL K A B (fl Ol i) e v) (hOj:fl O j= .fix p) (hO:∀i,i<Ol.length->i≠j->(fl O i= .AW/\fl Ol i= .AW)\/fl O i= .AV) (hn:Ol.length<=N.length) :
 bh K A (rem H p) H O (Zq.start N vs) (ds.map some++ax (N.length - ds.length) none):=by
 have gvN:∀i,gv (ds.map some++ax (N.length - ds.length) none) i=ds[i]?:=λi=>by
  rw[gv,ae];rcases gy i ds.length with h | h
  . rw[cq (by simpa using h),br,av h];rfl
  . rw[b9 (by simpa using h),iO,fh h];split <;> rfl
 have svN:∀i v,vs[i]?=some v->sv (Zq.start N vs) i=some v:=λi v e=>by
  unfold sv Zq.start;rw[ae];have h:=(aS.mp e).1;rw[cq (by simpa using h),br,e];rfl
 have isj:∀i,i<Ol.length->isO (fl O i)=true->i=j:=λi hi h=>by
  rcases Classical.em (i=j) with z | z
  . exact z
  . rcases hO i hi z with ⟨q,_⟩ | q <;> rw[q] at h <;> cases h
 refine ⟨ha,abd,?_,λi d e=>?_,λi l hil h1 h2 h3 h4=>?_⟩
 . rw[Zq.start,ai,ai,af,af,ck,ck];lia
 . rw[gvN] at e;have hi:i<Ol.length:=by rw[<- hd];exact (aS.mp e).1
   by_cases z:i=j
   . subst z;exact ⟨_,svN i _ hj,by rw[hOj];exact ⟨rfl,p,o,rfl,hp,ap,J5,hown d e⟩⟩
   . have ev:vs[i]?=some vs[i]:=av (by lia);refine ⟨_,svN i _ ev,?_⟩;have q:=hargs i d _ z e ev;rcases hO i hi z with ⟨z1,z2⟩ | z1
     . rw[z1];rwa [z2] at q
     . rw[z1]
       cases hf:fl Ol i with
       | AW=>rw[hf] at q;exact .inl q
       | AV=>rw[hf] at q;exact Pk.mono (aF.refl _) (oW hb bp) q
       | own=>rw[hf] at q;exact Pk.mono (aF.refl _) (oW hb bp) q
       | fix p0=>rw[hf] at q;exact Pk.mono (aF.refl _) (oW hb bp) q
       | exc C=>rw[hf] at q;exact Pk.mono (aF.refl _) (oW hb bp) q
       | nst b=>rw[hf] at q;exact Pk.mono (aF.refl _) (oW hb bp) q
       | kit=>rw[hf] at q;exact Pk.mono (aF.refl _) (oW hb bp) q
 . rw[gvN] at h3 h4;have hi:i<Ol.length:=by
    rw[<- hd];rcases gy i ds.length with h | h
    . exact h
    . exact absurd (fh h) h3
   have hl:l<Ol.length:=by
    rw[<- hd];rcases gy l ds.length with h | h
    . exact h
    . exact absurd (fh h) h4
   exact absurd ((isj i hi h1).trans (isj l hl h2).symm) hil
theorem Ek{st:Stmt}{k:Nat}{fs:B9}{O O':Addr->B9}{m:MS}(F:At K mg x st ps)(S:cX N ps (aN st))(hf:fs.length=ps.length)(hn:ps.length<=N.length)
 (hOj:∀p,fl (O p) j= .fix p) (hO:∀p i,i<fs.length->i≠j->(fl (O p) i= .AW/\fl fs i= .AW)\/fl (O p) i= .AV)
 (hbody:∀(p:Addr) (f:Addr) (AN:a9) (A:ke) (BA:C6) (s:dy) (H:Hp) (E:XK),dF k (A.deeper (oD x (aN st) s.heap.objs.size f AN)) ->
  QSs (mL CX0 P w K mg base N x (aN st) f AN A BA s H E).nox (bR st) (tS K (.m p) Ol (O p) (O' p) m)):Def P w K mg base (k+1) x ps (spM K fs j (fnR N.length m)):=by
 refine F.ok S (λvs H Q E h=>?_) (λf AN A BA s H vs Q E hr h=>?_)
 . obtain ⟨_,_,_,_,_,_,_,_,_,h,_⟩:=h;rw[h,hf]
 . obtain ⟨A',B,ds,d,dm,p,o,ha,hb,hv,hd,hj,hp,ap,bp,hown,hargs,em,q⟩:=h;obtain ⟨out,e1,em⟩:=AO.au em
   cases out with
   | rt d'=>
    cases em;refine ⟨_,(hbody p f AN A BA s H E hr).h,A',rem H p,_,_,wz ha hb hv hd hj hp ap bp hown hargs (hOj p) (hO p) (by lia),e1,λv A2 H2 s1 s2 sa nw rv=>?_⟩;obtain ⟨d1,dm1,o1,ed,r1,r2,r3,r4⟩:=rv;cases ed;refine q v A2 H2 o1 sa s1 (λb u hbp hu=>s2 b u (by rw[qe hbp];exact hu)) (λb q1 q2=>?_) r3 r2 r4 r1
    by_cases z:b=p
    . subst z;exact r3
    . exact nw b q1 (by rw[qe z];exact q2)
   | _=>cases em
theorem Ws{st:Stmt}{k:Nat}(F:At K mg x st ps)(S:cX N ps (aN st)):Def P w K mg base (k+1) x ps (spM K O j (λ_=>.bad)):=by
 refine F.ok S (λvs H Q E h=>?_) (λf AN A BA s H vs Q E hr h=>?_)
 . obtain ⟨_,_,_,_,_,_,_,_,_,_,_,_,_,_,_,_,_,em,_⟩:=h;cases em
 . obtain ⟨_,_,_,_,_,_,_,_,_,_,_,_,_,_,_,_,_,em,_⟩:=h;cases em
end
abbrev MZ:=Ev->AO Str
noncomputable def Qh(lo c:Int)(n:Nat):It:=⟨λi _=>i<n,λi H x H'=>H'=H/\x= .int (lo+i*c),λi _=>n<=i⟩
theorem Ln(it:Addr)(lo c:Int)(n:Nat):Turn P w K tg (Qh lo c n) [it] it (λi h=>IsRangeIter h it (lo+(i:Nat)*c) ((n:Int) - (i:Nat)) c) where
 mem:=by simp
 obj:=λi h st b hb=>by
  have e:=by simpa using hb
  subst e;exact ⟨_,st,λv z=>by
   have z':=z;cases z'⟩
 keep:=λi h h' st k=>k it (by simp) _ st
 item:=by
  intro X hP hw hK hc i AK s σ H E I hf st hg;subst hP hw hK;obtain ⟨f0,f1,f2,f3,f4,f5⟩:=hf it (by simp);have W:=Walks.range (prog:=X.prog) (w:=X.w) (I.ok.hd hc) it lo c n;refine W.item i s _ _ hg st λv h' tk hv st' kk=>?_;obtain ⟨t,rfl⟩:=hv;have I1:AQ X AK σ H { s with heap:=h',toks:=tk }:=I.turned (λb o hb e=>kk b o (by simpa using hb) e) f0 f1 f3 f4 f5;refine ⟨_,rfl,zG st' rfl rfl (by decide) ⟨.int (lo+i*c),H,I1,⟨t,rfl⟩,⟨rfl,rfl⟩,st',λb hb=>(hf b hb).1⟩⟩
 done:=by
  intro X hP hw hK hc i AK s σ H E I hf st hg;subst hP hw hK;obtain ⟨f0,f1,f2,f3,f4,f5⟩:=hf it (by simp);exact wpAny_pyNext_range_end (I.ok.hd hc) st (by have:n<=i:=hg;lia) λh' eb=>⟨rfl,I.turned (λb o hb e=>eb b o hb e) f0 f1 f3 f4 f5⟩
 self:=λ_ _ _ _ _ st h=>wpAny_pyIter_rangeiter st h
theorem S8{R:It->Hp->Prop}{lo hi c:Int}{t u v:Tok}(I:AQ X AK σ H s)(hs:Builtin.Range.small lo hi c=true)(h0:0<=dS lo hi c)
 (q:R (Qh lo c (dS lo hi c).toNat) H):eI (eL X.prog X.w) X.A (pyIter (.ref s.heap.objs.size)) (PIE X AK σ tg R) E { s with heap:=s.heap.push { cls:=.type "range",data:=.fields #[.int lo t,.int hi u,.int c v] },toks:=i }:=by
 refine wpAny_pyIter_range (IsRange.new ..) hs ?_;have I1:AQ X AK σ H { s with heap:=s.heap.push { cls:=.type "range",data:=.fields #[.int lo t,.int hi u,.int c v] },toks:=i }:=I.kept λb o e=>aE _ e;refine ⟨(s.heap.push { cls:=.type "range",data:=.fields #[.int lo t,.int hi u,.int c v] }).objs.size,[(s.heap.push { cls:=.type "range",data:=.fields #[.int lo t,.int hi u,.int c v] }).objs.size],_,_,H,rfl,
  I1.kept λb o e=>aE _ e,Ln _ lo c (dS lo hi c).toNat,?_,λb hb=>?_,q⟩
 . have e1:lo+((0:Nat):Int)*c=lo:=by simp
   have e2:(((dS lo hi c).toNat:Nat):Int) - ((0:Nat):Int)=dS lo hi c:=by lia
   rw[e1,e2];exact c6 _ rfl
 . have e:b=(s.heap.push { cls:=.type "range",data:=.fields #[.int lo t,.int hi u,.int c v] }).objs.size:=by simpa using hb
   subst e;exact I1.sS (ay _) (I1.AY.fresh (ay _))
def ad9(ta:TA):TI:=λσ H R=>ta σ H λvs H1=>∃i j c:Int,vs=[.int i,.int j,.int c]/\(c≠0/\c.natAbs<1073741824/\Builtin.Range.small i j c=true/\0<=dS i j c)/\R (Qh i c (dS i j c).toNat) H1
theorem Gf{ta:TA}(hg:Gl X "range")(hm:X.mg "range"= none)(ha:PA X [a,b,c] ta)(hs:d5 [a,b,c] X.env=[(false,eval a X.env),(false,eval b X.env),(false,eval c X.env)]:=by rfl)(hs2:d5 [b,c] X.env=[(false,eval b X.env),(false,eval c X.env)]:=by rfl) :
 PI X tg (.Call (.Name "range" pos') [a,b,c] [] pos) (ad9 ta):=by
 intro AK s σ H R I h;refine Call_ (nZ I hg hm boot_range (iF (thn (ha pos AK s σ H _ I h) λus s1 az=>?_) (by rw[hs,hs2]) (by rw[hs2];rfl)));obtain ⟨vs,H1,I1,r1,q1⟩:=az;obtain ⟨i,j,k,e,⟨q0,q1,q2,q3⟩,q⟩:=q1;subst e
 cases r1 with
 | cons r rr=>
  cases rr with
  | cons r' rr=>
   cases rr with
   | cons r'' rr=>
    cases rr;obtain ⟨t,rfl⟩:=r;obtain ⟨t',rfl⟩:=r';obtain ⟨t'',rfl⟩:=r'';exact call_range_3 q0 (S8 I1 q2 q3 q) (.inl (yA q1))
section
variable   {m'':ME}  {p:Pos}
theorem G6(lo c:Int)(n:Nat):rN K A B (Qh lo c n) ((List.range n).map λi=>ab.int (lo+(i:Nat)*c)):=by
 have hl:((List.range n).map λi=>ab.int (lo+(i:Nat)*c)).length=n:=by rw[af,cS]
 refine ⟨λi H _ _ hi=>(by rwa [hl] at hi),λH _ _=>(by rw[hl];exact ay _),λi A2 H x H' sa s1 s2 hi y=>?_⟩;obtain ⟨rfl,rfl⟩:=y;rw[hl] at hi;exact ⟨A2,.int (lo+i*c),by rw[br,eP hi];rfl,aZ.refl s1,Rp.int.mpr rfl⟩
noncomputable def Fp(d d' d'':ab):AO B4:=match d,d',d'' with
 | .int i,.int j,.int c=>gd (c≠0/\c.natAbs<1073741824/\Builtin.Range.small i j c=true/\0<=dS i j c) (.ok ((List.range (dS i j c).toNat).map λk=>ab.int (i+(k:Nat)*c)))
 | _,_,_=>.bad
noncomputable def Av(m m' m'':ME):MI:=λΓ=>(m Γ).bind λd=>(m' Γ).bind λd'=>(m'' Γ).bind λd''=>Fp d d' d''
theorem Nj{d' d'':ab}(h:Fp kd d' d''= .ok xs):∃i j c:Int,kd= .int i/\d'= .int j/\d''= .int c/\(c≠0/\c.natAbs<1073741824/\Builtin.Range.small i j c=true/\0<=dS i j c)/\xs=(List.range (dS i j c).toNat).map λk=>ab.int (i+(k:Nat)*c):=by
 unfold Fp at h;split at h
 . obtain ⟨hc,em⟩:=b7 h;cases em;exact ⟨_,_,_,rfl,rfl,rfl,hc,rfl⟩
 . cases h
theorem Uw(hg:Gl X "range")(hm:X.mg "range"= none)(ha:QE X a (tP X.K O m))(hb:QE X b (tP X.K O m'))(hc:QE X c (tP X.K O m''))(hs:d5 [a,b,c] X.env=[(false,eval a X.env),(false,eval b X.env),(false,eval c X.env)]:=by rfl)(hs2:d5 [b,c] X.env=[(false,eval b X.env),(false,eval c X.env)]:=by rfl)(hs3:d5 [c] X.env=[(false,eval c X.env)]:=by rfl) :
 QI X tg (.Call (.Name "range" p) [a,b,c] [] pos) (tI X.K O (Av m m' m'')):=
 QI.imp (Gf hg hm (bW ha.h (bW hb.h (bW hc.h eQ hs3) (by rw[hs2,hs3])) (by rw[hs,hs2])) hs hs2) λσ H R az=>by
  obtain ⟨A,B,Γ,xs,r,em,k⟩:=az;obtain ⟨d,e1,em⟩:=AO.au em;obtain ⟨d',e2,em⟩:=AO.au em;obtain ⟨d'',e3,em⟩:=AO.au em;obtain ⟨i,j,s,rfl,rfl,rfl,hc,rfl⟩:=Nj em;exact ⟨A,B,Γ,_,r,e1,λv A1 H1 g1 p1=>⟨A1,B,Γ,_,r.grow g1,e2,λv' A2 H2 g2 p2=>⟨A2,B,Γ,_,(r.grow g1).grow g2,e3,λv'' A3 H3 g3 p3=>⟨i,j,s,by rw[p1.int,p2.int,p3.int],hc,k _ A3 H3 ((g1.trans g2).trans g3) (G6 i s _)⟩⟩⟩⟩
theorem Tp(hg:Gl X "range")(hm:X.mg "range"= none)(ha:QE X a (tP X.K O m))(hb:QE X b (tP X.K O m'))(hc:QE X c (tP X.K O m''))(hs:d5 [a,b,c] X.env=[(false,eval a X.env),(false,eval b X.env),(false,eval c X.env)]:=by rfl)(hs2:d5 [b,c] X.env=[(false,eval b X.env),(false,eval c X.env)]:=by rfl)(hs3:d5 [c] X.env=[(false,eval c X.env)]:=by rfl) :
 QI X tg (.Call (.Name "range" p) [a,b,c] [] pos) (tIc X.K O (Av m m' m'')):=
 QI.imp (Gf hg hm (bW ha.h (bW hb.h (bW hc.h eQ hs3) (by rw[hs2,hs3])) (by rw[hs,hs2])) hs hs2) λσ H R az=>by
  obtain ⟨A,B,Γ,xs,r,em,k⟩:=az;obtain ⟨d,e1,em⟩:=AO.au em;obtain ⟨d',e2,em⟩:=AO.au em;obtain ⟨d'',e3,em⟩:=AO.au em;obtain ⟨i,j,s,rfl,rfl,rfl,hc,rfl⟩:=Nj em;exact ⟨A,B,Γ,_,r,e1,λv A1 H1 g1 p1=>⟨A1,B,Γ,_,r.grow g1,e2,λv' A2 H2 g2 p2=>⟨A2,B,Γ,_,(r.grow g1).grow g2,e3,λv'' A3 H3 g3 p3=>⟨i,j,s,by rw[p1.int,p2.int,p3.int],hc,k _ A3 H3 ((g1.trans g2).trans g3) (G6 i s _)⟩⟩⟩⟩
noncomputable def acV:ab->AO ab
 | .int a=>.ok (.int (iq a))
 | _=>.bad
theorem ad0(ha:QE X a (tP K O m)):QE X (.UnaryOp .Invert a pos) (tE K O (eUn acV m)):=X8 adx (λA H d1 d x Q e hA p k=>by
 cases d1 with
 | int i=>cases e;exact ⟨i,p.int,k _ A H (aZ.refl hA) (Rp.int.mpr rfl)⟩
 | _=>cases e) ha
end
section
variable   {A:ke}
theorem U7{b:Addr}{xs ys:Array a9}{o:Obj}(e:s.heap.get? p=some { cls:=.type "list",dict:=none,data:=.seq xs i,slots:=#[] })(e2:s.heap.get? b=some o)(hc:o.cls= .type "list")(hd:o.data= .seq ys j)(hz:xs.size+ys.size<=bE)
 (h:Q .none { s with heap:=s.heap.update p (y7 (· ++ ys)) }):eI (eL P w) A (call (.builtin "list.extend") [.ref p,.ref b]) Q E s:=by
 refine fR ot ⟨_,e,rfl⟩ F.entry_list_extend ?_ (F.args_list_extend_2 _ _);refine ag (wpAny_of_eq rfl ?_);unfold Builtin.List.listExtendWith;refine ag (y6 ⟨_,e2,hc⟩ ?_);rw[show (Builtin.List.listSameRef (.ref p) (.ref b)||l6 "list" == l6 "list" || l6 "list" == l6 "tuple")=true by simp];unfold Builtin.List.listItems;refine ag (ag (fT e2 hd (bo (ag (ag (fT e rfl (bo ?_)))))));rw[show (!xs.isEmpty&&lj (xs.size+ys.size))=false by
  rw[show lj (xs.size+ys.size)=false from by exact decide_eq_false (by lia)];exact Bool.and_false _]
 refine ag (vi e rfl (bo ⟨_,rfl,h⟩) (by lia) (by rw[Array.size_append];lia))
end
section
variable      {p:Pos}
def V1(K:aw):V->C0->Hp->VK->Prop:=λx vs H Q=>∃l b xs zs,x= .ref l/\vs=[.ref b]/\H l=some (.lst xs)/\SqL K H b zs/\xs.length+zs.length<=bE/\Q .non (AU H l (.lst (xs++zs)))
theorem O7:MtM X "list.extend" (V1 X.K):=by
 rintro AK s σ H x vs v us Q I rx rv ⟨l,b,xs,zs,rfl,rfl,hH,hB,hz,q⟩;cases rx;obtain ⟨u,rfl,ru⟩:=rv.one;cases ru;obtain ⟨z,AM,n,r,hl,e⟩:=I.Oz hH;obtain ⟨its2,r2,⟨o2,n2,e2,hc2,_,hd2⟩,z2⟩:=I.list hB;have hl2:=r2.length;refine U7 e e2 hc2 hd2 (by rw[cK,cK];lia) (⟨.non,_,I.Q4 hH e (by simp) (r.append r2) ?_,rfl,q⟩);rw[ai];lia
theorem aah(i:Nat)(he:QE X e (tE X.K O m))(hi:isO (fl O i)=true:=by rfl)(nm:Nm X i x:=by walk_at "nm")(hbase:mw (.Name x p) "extend" X.env (eval (.Name x p) X.env)=eval (.Name x p) X.env:=by rfl)
 (hfew:((nc cpos (d5 (e::[]) X.env)).all (λx=>!x.1)&&(x6 cpos (qV [] X.env)).all (λx=>x.1.isSome)
  && decide ((e::[]).length+([]:List pf).length+(if ([]:List pf).isEmpty then 0 else 1)<30))=true:=by rfl)
 (hline:(apos.endLine == cpos.line)=true:=by rfl) (hs:d5 (e::[]) X.env=(false,eval e X.env)::d5 [] X.env:=by rfl) (hplain:(nc cpos (d5 [] X.env)).any (·.1)=false:=by rfl)
 (hsw:h9 (.Call (.Attribute (.Name x p) "extend" apos) [e] [] cpos) none pos.line X.env=pure false:=by rfl) :
 QS X (.Expr (.Call (.Attribute (.Name x p) "extend" apos) [e] [] cpos) pos) (tS X.K rm Ol O O (Em i m)):=by
 refine QS.imp (o7 (BR lT ot xA O7 (dW nm.1 nm.2 nm.3 nm.4) (bW he.h eQ hs) hbase hfew hline hs hplain) hsw) λD σ H az=>?_;obtain ⟨A,B,Γ,o,r,em,k⟩:=az;obtain ⟨d,e1,em⟩:=AO.au em
 cases hg:gv Γ i with
 | none=>rw[hg] at em;cases em
 | some dl=>
  rw[hg] at em
  cases dl with
  | list ds=>
   cases d with
   | list es=>
    obtain ⟨⟨hc,hlt⟩,em⟩:=b7 em;cases em;obtain ⟨q,vs,e2,h1,h4⟩:=oH r hi hg;refine ⟨.ref q,dU e2,.inl ⟨rfl,vs,SqL.of h1⟩,A,B,Γ,_,r,e1,λv A1 H1 g1 p1=>?_⟩;obtain ⟨q2,us,rfl,h5,h6⟩:=Rp.list.mp p1;refine ⟨q,q2,vs,us,rfl,rfl,g1.hh _ _ h1,h5.elim (λz=>.inl (aF.rd g1.ah z)) .inr,by rw[<- h4.length,<- h6.length];exact hc,?_⟩;exact k σ A1 _ ((r.grow g1).change hi hlt (by rw[hg];simp) e2 (g1.hh _ _ h1) (.inl ⟨_,_,rfl,rfl,(aA.mono g1.aa _ h4).append h6⟩)) g1.aa (g1.nB r.b)
   | _=>cases em
  | _=>cases em
end
noncomputable def fnN(n:Nat)(m:MS)(ds:B4):AO ab:=(m (ds.map some++ax (n - ds.length) none)).bind λo=>match o with
 | .rt d=>.ok d
 | .nx _=>.ok .none
 | _=>.bad
section
variable     {base:Heap}
theorem aaH{st:Stmt}{fs:B9}{m:MS}(F:At K mg x st ps)(S:cX N ps (aN st))(hf:fs.length=ps.length)(hn:ps.length<=N.length)
 (hO:∀i,i<fs.length->(fl O i= .AW/\fl fs i= .AW)\/fl O i= .AV)
 (hbody:∀(f:Addr) (AN:a9) (A:ke) (BA:C6) (s:dy) (H:Hp) (E:XK),dF j (A.deeper (oD x (aN st) s.heap.objs.size f AN)) ->
  QSs (mL CX0 P w K mg base N x (aN st) f AN A BA s H E).nox (bR st) (tS K .f Ol O O' m)) (hrm:rm= .f):Def P w K mg base (j+1) x ps (spF K fs rm (fnN N.length m)):=by
 subst hrm;refine F.ok S (λvs H Q E h=>?_) (λf AN A BA s H vs Q E hr h=>?_)
 . obtain ⟨A,ds,d,_,h,_⟩:=h;rw[h.length.1,hf]
 . obtain ⟨A',ds,d,ha,h,em,q⟩:=h;obtain ⟨o,e1,em⟩:=AO.au em
   cases o with
   | rt d'=>
    cases em;refine ⟨_,(hbody f AN A BA s H E hr).h,A',H,_,_,p6 ha h hO (by lia),e1,λv A2 H2 s1 s2 sa nw rv=>q v A2 H2 ⟨sa,s2,s1,nw⟩ rv⟩
   | nx Γ'=>
    cases em;refine ⟨_,(hbody f AN A BA s H E hr).h,A',H,_,_,p6 ha h hO (by lia),e1,λσ2 A2 H2 r2 sa nw=>q .non A2 H2 ⟨sa,r2.b,r2.a,nw⟩ (show Rp K A2 .none .non from Rp.none.mpr rfl)⟩
   | _=>cases em
end
noncomputable def vR(k:Str):List (Str×ab)->Option ab
 | []=>none
 | (x,d)::D=>if k=x then some d else vR k D
inductive lK (K:aw):List ra->List (Str×ab)->Prop
 | nil:lK K [] []
 | cons {e:ra}{x:Str}{t:Tok}{d:ab}{v:V}{es:List ra}{D:List (Str×ab)}:e.key= .str x t->AR v e.val->(∀A,Rp K A d v)->lK K es D->lK K (e::es) ((x,d)::D)
def XS(K:aw)(a:Addr)(D:List (Str×ab)):Prop:=(a == gp)=false/\∃o es ep,K.lookup a=some o/\o.ExactDict/\o.data= .dict es ep/\lK K es.toList D
variable {D:List (Str×ab)}
theorem lK.exact{es:List ra}(h:lK K es D):(es.all λe=>isExactStrKey e.key)=true:=by
 induction h with
 | nil=>rfl
 | cons hk _ _ _ ih=>rw[ti,ih,hk];rfl
theorem lK.find{es:List ra}(h:lK K es D){k:Str}(hd:vR k D=some kd):∃i e v,es.findIdx? (λe=>e.key.isStr k)=some i/\es[i]?=some e/\AR v e.val/\∀A,Rp K A kd v:=by
 induction h with
 | nil=>cases hd
 | @cons e x t d' v es D hk hv hr hrest ih=>
  unfold vR at hd
  by_cases hkx:k=x
  . rw[if_pos hkx] at hd;cases hd;refine ⟨0,e,v,?_,rfl,hv,hr⟩;rw[List.findIdx?_cons,hk];simp[Value.isStr,hkx]
  . rw[if_neg hkx] at hd;obtain ⟨i,e',v',h1,h2,h3,h4⟩:=ih hd;refine ⟨i+1,e',v',?_,by simpa using h2,h3,h4⟩;rw[List.findIdx?_cons,hk];have:(a9.str x t).isStr k=false:=by simp[Value.isStr];exact λz=>hkx z.symm
    rw[this,h1];rfl
def afC(K:aw)(D:List (Str×ab)):R2:=λx y H Q=>∃a k d,x= .ref a/\y= .str k/\XS K a D/\vR k D=some d/\∀v,(∀A,Rp K A d v)->Q v H
theorem acy:IxR X (afC X.K D):=by
 intro value slice AK s σ H x y v u Q I rx ry h hs;obtain ⟨a,k,d,rfl,rfl,⟨hsys,o,es,ep,hk,hex,hd,hr⟩,hl,q⟩:=h;cases rx;obtain ⟨tk,rfl⟩:∃tk,u= .str k tk:=ry;have hh:=I.kIn a o hk;have hT:s.TypeIs (.ref a) "dict" := ⟨o,hh,hex.1⟩;obtain ⟨i,e,w,hf,hi,rw',rp⟩:=hr.find hl;have hfa:es.findIdx? (λe=>e.key.isStr k)=some i:=by
  obtain ⟨l⟩:=es;simpa using hf
 have hia:es[i]?=some e:=by
  obtain ⟨l⟩:=es;simpa using hi
 have get:eI (eL X.prog X.w) X.A.in1 (dictGet a (.str k tk)) (λr s₁=>r=some e.val/\s₁={ s with toks:=s.toks+1 }) X.xe s:=by
  try with_reducible refine lh ?_
  refine ag (wpAny_pyHash_str (ag (KTD.kt_dictFind_strs hh hd (by obtain ⟨l⟩:=es;simpa using hr.exact) ?_)));rw[hfa];refine ag (wpAny_dictEntries hh hd (bo ?_));simp[hia]
 have item:eI (eL X.prog X.w) X.A (qa (.ref a) (.str k tk)) (EP X AK σ Q) X.xe s:=by
  unfold qa
  try with_reducible refine lh ?_
  refine ag (w9 hT (by decide) ?_);refine ag (gE hT slot_dict_getitem
   (fR slot_dict_getitem hT entry_dict_getitem ?_ (args_dict_getitem _ _)))
  show eI _ _ (dictGet a (.str k tk) >>= _) _ _ s;refine ag (ib get (λr s₁ h₁=>?_) λ_ _ x=>x);obtain ⟨rfl,rfl⟩:=h₁;exact bo ⟨e.val,rfl,bo ⟨w,H,I.tok _,rw',q w rp⟩⟩
 refine ag ?_;rw[mT hT.not_modules];refine ag (kQ hT kX.lookup ?_);have fin:eI (eL X.prog X.w) X.A (oQ slice false (.ref a) (.str k tk)) (λr s₃=>eI (eL X.prog X.w) X.A (rX value (.ref a) r >>= λ_=>pure r) (EP X AK σ Q) X.xe s₃) X.xe s:=by
  rw[hs];exact qf (ib item (λr s₃ h₃=>ag (nE (bo h₃))) λ_ _ x=>x)
 first
  | exact bo (ag fin)
  | exact ag (bo (ag fin))
  | exact ag fin
noncomputable def Qz(D:List (Str×ab)):ab->AO ab
 | .str k=>(match vR k D with | some d=>.ok d | none=>.bad)
 | _=>.bad
theorem Y9(hg:Gl X x)(hm:X.mg x=some (.ref p))(T:XS X.K p D)(hb:QE X b (tP X.K O m))(hs:lD b)(hd:nD x:=by decide):QE X (.Subscript (.Name x pos') b pos) (tE X.K O (eUn (Qz D) m)):=
 QE.imp (Cg acy (Oj (v:=.ref p) hg hm rfl hd) hb.h hs) λσ H Q az=>by
  obtain ⟨A,B,Γ,d,r,em,k⟩:=az;obtain ⟨d1,e1,em⟩:=AO.au em;refine ⟨A,B,Γ,d1,r,e1,λy A1 H1 g1 p1=>?_⟩
  cases d1 with
  | str z=>
   have em:(match vR z D with | some d=>AO.ok d | none=>.bad)= .ok d:=em
   cases hl:vR z D with
   | none=>rw[hl] at em;cases em
   | some d0=>
    rw[hl] at em;cases em;exact ⟨p,z,d,rfl,p1.str,T,hl,λv hv=>k v A1 H1 g1 (hv A1)⟩
  | _=>cases em
noncomputable def lM(K:aw):Nat->ab->a9->Bool
 | 0,_,_=>false
 | _+1,.int i,.int j _=>i == j
 | _+1,.str x,.str y _=>x == y
 | n+1,.tuple ds,.ref a=>(match K.lookup a with
  | some o=>o.cls == .type "tuple" && (match o.data with
   | .seq AM _=>decide (AM.size<=1000)&&(ds.length == AM.toList.length)&&(ds.zip AM.toList).all λp=>lM K n p.1 p.2
   | _=>false)
  | none=>false)
 | _+1,_,_=>false
theorem M3(ih:∀d v,lM K i d v=true->∃x,AR x v/\∀A,Rp K A d x):∀(ds:B4) (us:B8),ds.length=us.length->((ds.zip us).all λp=>lM K i p.1 p.2)=true->∃xs,AS xs us/\∀A,aA K A ds xs
 | [],[],_,_=>⟨[],.nil,λ_=>aA.nil.mpr rfl⟩
 | d::ds,u::us,hl,h=>by
  simp only[List.zip_cons_cons,ti,eh] at h;obtain ⟨x,rx,hx⟩:=ih d u h.1;obtain ⟨xs,rs,hxs⟩:=M3 ih ds us (by simpa using hl) h.2;exact ⟨x::xs,.cons rx rs,λA=>aA.cons.mpr ⟨x,xs,rfl,hx A,hxs A⟩⟩
 | [],_::_,hl,_=>by simp at hl
 | _::_,[],hl,_=>by simp at hl
theorem Od:∀(n:Nat) (d:ab) (v:a9),lM K n d v=true->∃x,AR x v/\∀A,Rp K A d x:=by
 intro n
 induction n with
 | zero=>intro d v h;simp[lM] at h
 | succ n ih=>
  intro d v h;unfold lM at h;split at h
  . rename_i z;cases z
  . rename_i i j t e;have e:=eq_of_beq h;subst e;exact ⟨.int i,⟨_,rfl⟩,λA=>Rp.int.mpr rfl⟩
  . rename_i x y t e;have e:=eq_of_beq h;subst e;exact ⟨.str x,⟨_,rfl⟩,λA=>Rp.str.mpr rfl⟩
  . rename_i m ds a e;cases e;split at h
    . rename_i o ho;simp only[eh] at h;obtain ⟨h1,h⟩:=h;split at h
      . rename_i AM sz hd;simp only[eh,decide_eq_true_eq] at h;obtain ⟨⟨h2,h3⟩,h4⟩:=h;obtain ⟨xs,rs,hxs⟩:=M3 ih ds AM.toList (beq_iff_eq.mp h3) h4;exact ⟨.ref a,rfl,λA=>Rp.tuple.mpr ⟨a,xs,rfl,.inr ⟨o,AM,sz,ho,beq_iff_eq.mp h1,hd,by simp only[sizeLine_eq];lia,rs⟩,hxs A⟩⟩
      . cases h
    . cases h
  . cases h
noncomputable def zm(K:aw):List ra->List (Str×ab)->Bool
 | [],[]=>true
 | e::es,(x,d)::D=>(match e.key with | .str y _=>y == x | _=>false)&&lM K 9 d e.val&&zm K es D
 | _,_=>false
theorem KD:∀(es:List ra) (D:List (Str×ab)),zm K es D=true->lK K es D
 | [],[],_=>.nil
 | e::es,(x,d)::D,h=>by
  simp only[zm,eh] at h;obtain ⟨⟨h1,h2⟩,h3⟩:=h;split at h1
  . rename_i y t hk;have e:=eq_of_beq h1;subst e;obtain ⟨v,rv,hv⟩:=Od _ _ _ h2;exact .cons hk rv hv (KD es D h3)
  . cases h1
 | [],_::_,h=>by simp[zm] at h
 | _::_,[],h=>by simp[zm] at h
noncomputable def Bt(K:aw)(a:Addr)(D:List (Str×ab)):Bool:=!(a == gp)&&(match K.lookup a with
 | some o=>o.cls == .type "dict" && o.dict.isNone&&o.slots.isEmpty&&(match o.data with | .dict es _=>zm K es.toList D | _=>false)
 | none=>false)
theorem aaR{a:Addr}(h:Bt K a D=true):XS K a D:=by
 simp only[Bt,eh] at h;obtain ⟨h0,hl⟩:=h;split at hl
 . rename_i o ho;simp only[eh] at hl;obtain ⟨⟨⟨e1,e2⟩,e3⟩,e4⟩:=hl;split at e4
   . rename_i es ep hd;exact ⟨by simpa using h0,o,es,ep,ho,⟨beq_iff_eq.mp e1,by simpa using e2,by simpa using e3⟩,hd,KD _ _ e4⟩
   . cases e4
 . cases hl
theorem Th(hg:Gl X x)(hm:X.mg x=some (.ref p))(T:Bt X.K p D=true)(hb:QE X b (tP X.K O m))(hs:lD b)(hd:nD x:=by decide):QE X (.Subscript (.Name x pos') b pos) (tE X.K O (eUn (Qz D) m)):=Y9 hg hm (aaR T) hb hs hd
theorem jP{u:a9}(hg:Gl X x)(hm:X.mg x=some u)(r:lM X.K 9 kd u=true)(hd:nD x:=by decide):QE X (.Name x pos) (tE X.K O (eC kd)):=
 let ⟨_,r1,r2⟩:=Od _ _ _ r
 zq hg hm r1 r2 hd
inductive jX (X:Cx) (O:B9):List (Option Expr)->C1->List (Str×ME)->Prop
 | nil:jX X O [] [] []
 | cons {x:Str}{v:Expr}{kj}{kp:Pos}{ks:List (Option Expr)}{vs:C1}{m:ME}{R:List (Str×ME)}:QE X v (tE X.K O m)->jX X O ks vs R->jX X O (some (.Constant (.str x) kj kp)::ks) (v::vs) ((x,m)::R)
noncomputable def adD(K:aw)(O:B9)(R:List (Str×ME)):List (TE×TE):=R.map λp=>(tC (.str p.1),tE K O p.2)
section
variable   {ks:List (Option Expr)}{vs:C1}{R:List (Str×ME)}
theorem jX.pps(h:jX X O ks vs R):PPs X pos ks vs (adD X.K O R):=by
 induction h with
 | nil=>exact zO
 | cons hv _ ih=>exact sr Ud hv.h ih
theorem jX.some(h:jX X O ks vs R):ks.all (·.isSome)=true/\ks.length=vs.length/\ks.length=R.length:=by
 induction h with
 | nil=>exact ⟨rfl,rfl,rfl⟩
 | cons _ _ ih=>exact ⟨by rw[ti,ih.1];rfl,by rw[bt,bt,ih.2.1],by rw[bt,bt,ih.2.2]⟩
theorem Jj:∀(R:List (Str×ME)) {A B H:Hp}{Γ:Ev}{d:ab}{Q:List (V×V)->Hp->Prop},bh K A B H O σ Γ->iZ R Γ = .ok d ->
 (∀(us:List (Str×V)) A' H',aZ A H A' H'->us.map (·.1)=R.map (·.1)->(∃ds,d= .dict ds/\bu K A' ds (us.map λu=>(ox u.1,u.2)))->Q (us.map λu=>(V.str u.1,u.2)) H')->sE (adD K O R) σ H Q
 | [],A,B,H,Γ,d,Q,r,em,k=>by
  cases em;exact k [] A H (aZ.refl r.a) rfl ⟨[],rfl,bu.nil.mpr rfl⟩
 | (x,m)::R,A,B,H,Γ,d,Q,r,em,k=>by
  obtain ⟨d1,e1,em⟩:=AO.au em;obtain ⟨d2,e2,em⟩:=AO.au em;refine ⟨A,B,Γ,d1,r,e1,λv A1 H1 g1 p1=>Jj R (r.grow g1) e2 λus A2 H2 g2 hk p2=>?_⟩;obtain ⟨ds,rfl,p2⟩:=p2;cases em;exact k ((x,v)::us) A2 H2 (g1.trans g2) (by rw[a8,a8,hk]) ⟨_,rfl,bu.cons.mpr ⟨_,v,_,rfl,rfl,Rp.mono g2.aa d1 p1,p2⟩⟩
theorem Dl:∀(us AL:A8),((AL++us).map (·.1)).Nodup->lR AL us=AL++us
 | [],AL,_=>by rw[dA];rfl
 | u::us,AL,h=>by
  have hn:¬ ((AL.any λkv=>decide (kv.1=u.1))=true):=λz=>by
   obtain ⟨kv,h1,h2⟩:=nX.mp z;rw[a7,a8,fm] at h;exact h.2.2 _ (List.mem_map_of_mem h1) _ bX (of_decide_eq_true h2)
  show lR (putK AL u.1 u.2) us=_;have:putK AL u.1 u.2=AL++[u]:=by rw[putK,if_neg hn]
  rw[this,Dl us (AL++[u]) (by rw[d6];exact h),d6];rfl
theorem Z5(h:jX X O ks vs R)(hn:(R.map (·.1)).Nodup)(h0:ks≠[])(h15:ks.length<=15):QE X (.Dict ks vs pos) (tE X.K O (iZ R)):=
 QE.imp (Fe h.pps h.some.1 h.some.2.1 h0 h15) λσ H Q az=>by
  obtain ⟨A,B,Γ,d,r,em,k⟩:=az;intro p hp;have g0:aZ A H A (AU H p (.dK [])):=aZ.lay r.a hp;refine Jj R (r.grow g0) em λus A1 H1 g1 hk p1=>⟨g1.hh _ _ aU,us.map λu=>(ox u.1,u.2),by rw[de];rfl,?_,?_⟩
  . rw[af,show us.length=R.length by have:=congrArg List.length hk;simpa using this,<- h.some.2.2];exact h15
  obtain ⟨ds,rfl,p1⟩:=p1;have em:=Dl _ [] (by
   rw[fe,de];have:(us.map ((λx:Key×V=>x.1)∘λu:Str×V=>((ox u.1:Key),u.2)))=(us.map (·.1)).map ox:=by rw[de];rfl
   rw[this,hk];exact xt.map _ (λa b hab e=>hab (ox.inj e)) hn)
  rw[em];have pa:=g1.4 p (r.a.free hp) (by rw[aU];exact λz=>nomatch z);have gg:aZ A H (AU A1 p (.dK (us.map λu=>(ox u.1,u.2)))) (AU H1 p (.dK (us.map λu=>(ox u.1,u.2)))):=by
   refine ⟨(g1.aa).trans (aF.new pa _),λb o q=>?_,λb o q=>?_,λb q1 q2=>?_⟩
   . have hb:=c7 q hp;rw[aH hb];exact g1.hh _ _ (by rw[aH hb];exact q)
   . by_cases hb:b=p
     . subst hb;rw[aU] at q ⊢;exact q
     . rw[aH hb] at q ⊢;exact g1.ah _ _ q
   . have hb:b≠p:=λz=>q2 (z ▸ hp);rw[aH hb];exact g1.4 b q1 (by rw[aH hb];exact q2)
  exact k _ _ _ gg (Rp.dict.mpr ⟨p,_,rfl,.inl aU,bu.mono (aF.new pa _) ds p1⟩)
end
noncomputable def jW(key:dH):B0->Option ab
 | []=>none
 | (k,d)::r=>if jD k=some key then some d else jW key r
noncomputable def Ba(key:dH):B0->Bool
 | []=>false
 | (k,_)::r=>if jD k=some key then true else Ba key r
noncomputable def Q6(key:dH)(x:ab):B0->B0
 | []=>[]
 | (k,d)::r=>(if jD k=some key then (k,x) else (k,d))::Q6 key x r
noncomputable def putN(kd:ab)(key:dH)(x:ab)(kvs:B0):B0:=if Ba key kvs=true then Q6 key x kvs else kvs++[(kd,x)]
abbrev NP(K:aw)(A:Hp):B0->List (dH×V)->Prop:=jI λp q=>jD p.1=some q.1/\Rp K A p.2 q.2
section
variable   {key:dH}  {us:List (dH×V)}
theorem rG{key key':dH}(h:jD kd=some key'):jD kd=some key↔key'=key:=by rw[h];simp
theorem NP.look(h:NP K A kvs us):(∀d,jW key kvs=some d->∃v,ik us key=some v/\Rp K A d v)/\(jW key kvs=none->ik us key=none):=by
 induction h with
 | nil=>exact ⟨λd e=>(nomatch e),λ_=>rfl⟩
 | @cons p q ps qs hq t ih=>
  obtain ⟨hk,hd⟩:=hq;obtain ⟨k,d⟩:=p;unfold jW
  by_cases e:jD k=some key
  . have e':=(rG hk).mp e;rw[if_pos e];exact ⟨λd' z=>by cases z;exact ⟨q.2,pB e',hd⟩,λz=>(nomatch z)⟩
  . have e':=λz=>e ((rG hk).mpr z);rw[if_neg e,o8 e'];exact ih
theorem NP.any(h:NP K A kvs us):(ik us key).isSome=(jW key kvs).isSome:=by
 have:=h.look (key:=key)
 cases e:jW key kvs with
 | none=>rw[this.2 e];rfl
 | some d=>obtain ⟨v,e1,_⟩:=this.1 d e;rw[e1];rfl
theorem NP.has(h:NP K A kvs us):(us.any λkv=>decide (kv.1=key))=Ba key kvs:=by
 induction h with
 | nil=>rfl
 | @cons p q ps qs hq t ih=>
  obtain ⟨hk,hd⟩:=hq;obtain ⟨k,d⟩:=p;rw[Ba,kF,ih]
  by_cases e:jD k=some key
  . rw[if_pos e,decide_eq_true ((rG hk).mp e)];rfl
  . rw[if_neg e,decide_eq_false λz=>e ((rG hk).mpr z)];rfl
theorem NP.set(hx:Rp K A kd v)(h:NP K A kvs us):NP K A (Q6 key kd kvs) (us.map λkv=>if kv.1=key then (kv.1,v) else kv):=by
 induction h with
 | nil=>exact .nil
 | @cons p q ps qs hq t ih=>
  obtain ⟨hk,hd⟩:=hq;obtain ⟨k,d⟩:=p;rw[Q6,a8]
  by_cases e:jD k=some key
  . rw[if_pos e,if_pos ((rG hk).mp e)];exact .cons ⟨hk,hx⟩ ih
  . rw[if_neg e,if_neg λz=>e ((rG hk).mpr z)];exact .cons ⟨hk,hd⟩ ih
theorem NP.put{x:ab}(hk:jD kd=some key)(hx:Rp K A x v)(h:NP K A kvs us):NP K A (putN kd key x kvs) (putK us key v):=by
 unfold putN putK;rw[h.has]
 by_cases e:Ba key kvs=true
 . rw[if_pos e,if_pos e];exact h.set hx
 . rw[if_neg e,if_neg e];exact jI.snoc h ⟨hk,hx⟩
theorem aA.QH:∀{ds:B4}{vs:C0}{ns:B3},aA K A ds vs->nH ds=some ns->vs=ns.map V.int
 | [],vs,ns,h,e=>by rw[aA.nil] at h;cases e;exact h
 | .int i::r,vs,ns,h,e=>by
  obtain ⟨v,rest,rfl,h1,h2⟩:=aA.cons.mp h;unfold nH at e
  cases e1:nH r with
  | none=>rw[e1] at e;cases e
  | some l=>
   rw[e1] at e;cases e;rw[Rp.int.mp h1,aA.QH h2 e1];rfl
 | .none::r,vs,ns,h,e=>by cases e
 | .bool _::r,vs,ns,h,e=>by cases e
 | .str _::r,vs,ns,h,e=>by cases e
 | .list _::r,vs,ns,h,e=>by cases e
 | .tuple _::r,vs,ns,h,e=>by cases e
 | .dict _::r,vs,ns,h,e=>by cases e
theorem aA.X7:∀{ds:B4}{vs:C0}{key:dH},aA K A ds vs->tH ds=some key->∃cs:C2,vs=cs.map V.ref/\jI (λ(k:B3) c=>SqT K A c (k.map V.int)) key cs
 | [],vs,key,h,e=>by rw[aA.nil] at h;cases e;exact ⟨[],h,.nil⟩
 | .tuple ds::r,vs,key,h,e=>by
  obtain ⟨v,rest,rfl,h1,h2⟩:=aA.cons.mp h;obtain ⟨a,ws,rfl,h3,h4⟩:=Rp.tuple.mp h1;unfold tH at e
  cases e1:nH ds with
  | none=>rw[e1] at e;cases e
  | some l=>
   cases e2:tH r with
   | none=>rw[e1,e2] at e;cases e
   | some l2=>
    rw[e1,e2] at e;cases e;obtain ⟨cs,rfl,hp⟩:=aA.X7 h2 e2;rw[aA.QH h4 e1] at h3;exact ⟨a::cs,rfl,.cons h3 hp⟩
 | .none::r,vs,key,h,e=>by cases e
 | .bool _::r,vs,key,h,e=>by cases e
 | .str _::r,vs,key,h,e=>by cases e
 | .list _::r,vs,key,h,e=>by cases e
 | .int _::r,vs,key,h,e=>by cases e
 | .dict _::r,vs,key,h,e=>by cases e
theorem Rp.Vz(h:Rp K A kd v)(hk:jD kd=some key):∃b,v= .ref b/\o6 K A key b:=by
 cases kd with
 | tuple ds=>
  obtain ⟨a,vs,rfl,h1,h2⟩:=Rp.tuple.mp h;obtain ⟨cs,rfl,hp⟩:=aA.X7 h2 hk;exact ⟨a,rfl,cs,h1,hp⟩
 | _=>cases hk
end
theorem bh.Jg(r:bh K A B H O σ Γ)(hi:fl O i= .nst true)(he:gv Γ i=some (.dict kvs)) :
 ∃p xs,sv σ i=some (.ref p)/\H p=some (iy p xs)/\A p=none/\B p=none/\RpN K A kvs xs:=by
 obtain ⟨v,e1,q⟩:=r.slot i _ he;rw[hi] at q;obtain ⟨p,xs,kvs',rfl,w2,w3,w4,w5,w6⟩:=q rfl;cases w2;exact ⟨p,xs,e1,w3,w4,w5,w6⟩
theorem bh.afE{xs xs':List (dH×Addr×a9)}(r:bh K A B H O σ Γ)(hi:fl O i= .nst true)(hl:i < Γ.length)(hs:sv σ i=some (.ref p))(h1:H p=some (iy p xs))(h2:A p=none)(h3:B p=none)(h4:RpN K A kvs xs')
 (hone:∀j,i≠j->fl O j ≠ .nst true):bh K A B (AU H p (iy p xs')) O σ (Γ.set i (some (.dict kvs))):=by
 refine ⟨λb u q=>?_,λb u q=>?_,by rw[fx];exact r.len,λj=>?_,λj k hjk q1 q2 q3 q4=>?_⟩
 . rw[aH (λz=>by rw[z,h2] at q;cases q)];exact r.a b u q
 . rw[aH (λz=>by rw[z,h3] at q;cases q)];exact r.b b u q
 . by_cases hj:i=j
   . subst hj;rw[gv,bL hl];intro d e;cases e;refine ⟨_,hs,?_⟩;rw[hi];exact λ_=>⟨p,xs',kvs,rfl,rfl,aU,h2,h3,h4⟩
   . rw[gv,aR hj];intro d e;obtain ⟨v,ev,q⟩:=r.slot j d e;refine ⟨v,ev,?_⟩
     cases hf:fl O j with
     | AW=>rwa [hf] at q
     | AV=>rwa [hf] at q
     | own=>
      rw[hf] at q;obtain ⟨p',o',rfl,u1,u2,u3,u4⟩:=q;have hne:p'≠p:=λz=>by subst z;rw[u1] at h1;exact u4.nx h1
      exact ⟨p',o',rfl,by rw[aH hne];exact u1,u2,u3,u4⟩
     | fix p0=>
      rw[hf] at q;obtain ⟨q0,p',o',rfl,u1,u2,u3,u4⟩:=q;have hne:p'≠p:=λz=>by subst z;rw[u1] at h1;exact u4.nx h1
      exact ⟨q0,p',o',rfl,by rw[aH hne];exact u1,u2,u3,u4⟩
     | kit=>rwa [hf] at q
     | exc C=>rwa [hf] at q
     | nst b=>
      cases b with
      | true=>exact absurd hf (hone j hj)
      | false=>exact λz=>nomatch z
 . have g:∀l,isO (fl O l)=true->gv (Γ.set i (some (.dict kvs))) l≠none->gv Γ l≠none:=λl h z=>by
    have hl:i≠l:=λz=>by subst z;rw[hi] at h;cases h
    unfold gv at z ⊢;rwa [aR hl] at z
   exact r.sep j k hjk q1 q2 (g j q1 q3) (g k q2 q4)
theorem bh.abI(r:bh K A B H O σ Γ)(hi:fl O i= .own)(hO:i<O.length)(he:gv Γ i=some (.dict [])) :
 ∃p,H p=some (.dK [])/\bh K A B (AU H p (iy p [])) (O.set i (.nst true)) σ Γ:=by
 obtain ⟨d,p,o,e1,e2,h1,h2,h3,h4⟩:=r.nY (by rw[hi];rfl) (by rw[he];simp);rw[he] at e1;cases e1;rcases h4 with ⟨ds,vs,z,_⟩ | ⟨kvs,u,z,rfl,h4⟩
 . cases z
 cases z;rw[bu.nil] at h4;subst h4;refine ⟨p,h1,λb u q=>?_,λb u q=>?_,r.len,λj=>?_,λj k hjk q1 q2 q3 q4=>?_⟩
 . rw[aH (λz=>by rw[z,h2] at q;cases q)];exact r.a b u q
 . rw[aH (λz=>by rw[z,h3] at q;cases q)];exact r.b b u q
 . by_cases hj:i=j
   . subst hj;rw[fl,bL hO];intro d e;rw[he] at e;cases e;exact ⟨_,e2,λ_=>⟨p,[],[],rfl,rfl,aU,h2,h3,[],.nil,.nil⟩⟩
   . rw[fl,aR hj];intro d e;obtain ⟨v,ev,q⟩:=r.slot j d e;refine ⟨v,ev,?_⟩;have hne:isO (fl O j)=true->∀p',v= .ref p'->p'≠p:=λhf p' ez z=>by
      refine r.sep i j hj (by rw[hi];rfl) hf (by rw[he];simp) (by rw[e];simp) ?_;rw[e2,ev,ez,z]
     cases hf:fl O j with
     | AW=>unfold fl at hf;rw[hf];rwa [show fl O j= .AW from hf] at q
     | AV=>unfold fl at hf;rw[hf];rwa [show fl O j= .AV from hf] at q
     | own=>
      have hn:=hne (by rw[hf];rfl);unfold fl at hf;rw[hf];rw[show fl O j= .own from hf] at q;obtain ⟨p',o',rfl,u1,u2,u3,u4⟩:=q;exact ⟨p',o',rfl,by rw[aH (hn p' rfl)];exact u1,u2,u3,u4⟩
     | fix p0=>
      have hn:=hne (by rw[hf];rfl);unfold fl at hf;rw[hf];rw[show fl O j= .fix p0 from hf] at q;obtain ⟨q0,p',o',rfl,u1,u2,u3,u4⟩:=q;exact ⟨q0,p',o',rfl,by rw[aH (hn p' rfl)];exact u1,u2,u3,u4⟩
     | exc C=>unfold fl at hf;rw[hf];rwa [show fl O j= .exc C from hf] at q
     | kit=>unfold fl at hf;rw[hf];rwa [show fl O j= .kit from hf] at q
     | nst b=>
      unfold fl at hf;rw[hf];rw[show fl O j= .nst b from hf] at q;intro z;obtain ⟨p',xs,kvs,w1,w2,w3,w4,w5,w6⟩:=q z;have hn:p'≠p:=λz=>by subst z;rw[h1] at w3;cases w3
      exact ⟨p',xs,kvs,w1,w2,by rw[aH hn];exact w3,w4,w5,w6⟩
 . have hj:i≠j:=λz=>by subst z;unfold fl at q1;rw[bL hO] at q1;cases q1
   have hk:i≠k:=λz=>by subst z;unfold fl at q2;rw[bL hO] at q2;cases q2
   unfold fl at q1 q2;rw[aR hj] at q1;rw[aR hk] at q2;exact r.sep j k hjk q1 q2 q3 q4
noncomputable def zT(i:Nat)(m:ME):ME:=λΓ=>(m Γ).bind λkd=>match gv Γ i with
 | some (.dict kvs)=>match jD kd with
  | some key=>.ok (.bool (!(jW key kvs).isSome))
  | none=>.bad
 | _=>.bad
noncomputable def Q9(i:Nat)(m:ME):ME:=λΓ=>(m Γ).bind λkd=>match gv Γ i with
 | some (.dict kvs)=>match jD kd with
  | some key=>match jW key kvs with
   | some d=>.ok d
   | none=>.bad
  | none=>.bad
 | _=>.bad
noncomputable def HJ(i:Nat)(mk mv:ME):MS:=λΓ=>(mv Γ).bind λx=>(mk Γ).bind λkd=>match gv Γ i with
 | some (.dict kvs)=>match jD kd with
  | some key=>gd (kvs.length<bE/\i < Γ.length) (.ok (.nx (Γ.set i (some (.dict (putN kd key x kvs))))))
  | none=>.bad
 | _=>.bad
section
variable         {xp:Pos}
def aeg(K:aw):R2:=λx y H Q=>∃b p xs us k,x= .ref b/\y= .ref p/\H p=some (iy p xs)/\KN K H us xs/\o6 K H k b/\Q (.bl (!(ik us k).isSome)) H
theorem SM(hu:X.A.units+66<kb):OpR X (gu .NotIn) (aeg X.K):=by
 rintro AK s σ H x y v u Q I rx ry ⟨b,p,xs,us,k,rfl,rfl,h1,h2,h3,q⟩;cases (rx);cases (ry);exact ZJ (by lia) I h1 h2 h3 λs' I'=>⟨.bl _,H,I',rfl,q⟩
def afy(K:aw):R2:=λx y H Q=>∃p b xs us k v,x= .ref p/\y= .ref b/\H p=some (iy p xs)/\KN K H us xs/\o6 K H k b/\ik us k=some v/\Q v H
theorem afp(hu:X.A.units+66<kb):IxR X (afy X.K):=by
 intro value slice AK s σ H x y v u Q I rx ry h hs;obtain ⟨p,b,xs,us,k,w,rfl,rfl,h1,h2,h3,h4,q⟩:=h;cases (rx);cases (ry);have hT:=(Hy I h1 h2).2.2.typeIs;refine ag ?_;rw[mT hT.not_modules];refine ag (kQ hT kX.lookup ?_);have fin:eI (eL X.prog X.w) X.A (oQ slice false (.ref p) (.ref b)) (λr s₃=>eI (eL X.prog X.w) X.A (rX value (.ref p) r >>= λ_=>pure r) (EP X AK σ Q) X.xe s₃) X.xe s:=by
  rw[hs];exact qf (ib (Tf (by lia) I h1 h2 h3 h4 λw' s' I' rw'=>(⟨w,H,I',rw',q⟩:EP X AK σ Q w' s')) (λr s₃ h₃=>ag (nE (bo h₃))) λ_ _ x=>x)
 first
  | exact bo (ag fin)
  | exact ag (bo (ag fin))
  | exact ag fin
def adY(K:aw)(td ty tv:TE):TS:=λD σ H=>tv σ H λv H1=>td σ H1 λx H2=>ty σ H2 λy H3=>∃a b xs us k,x= .ref a/\y= .ref b/\H3 a=some (iy a xs)/\KN K H3 us xs/\o6 K H3 k b/\us.length<bE /\
 ∀r,AR v r->D.nx σ (AU H3 a (iy a (xh xs k b r)))
theorem aan{td ty tv:TE}(hu:X.A.units+66<kb)(ho:PE X e td)(hi:PE X tg ty)(hv:PE X c tv)(hs:h9 c (some (.Subscript e tg pos')) pos.line X.env=pure false) :
 PS X (.Assign [.Subscript e tg pos'] c pos) (adY X.K td ty tv):=by
 intro AK s σ H D I h;refine wpAny_Assign_Subscript (thn (hv AK s σ H _ I h) λr s1 ⟨v,H1,I1,rv,q1⟩=>thn (ho AK s1 σ H1 _ I1 q1) λu s2 ⟨x,H2,I2,rx,q2⟩=>thn (hi AK s2 σ H2 _ I2 q2) λiv s3 az=>?_) hs;obtain ⟨y,H3,I3,ry,a,b,xs,us,k,ex,ey,h1,h2,h3,hl,q3⟩:=az;subst ex ey;obtain rfl:u=iN a:=rx;obtain rfl:iv=iN b:=ry;exact RG (by lia) I3 h1 h2 h3 rv hl λs4 I4=>⟨σ,_,I4,q3 r rv⟩
theorem Ss(i:Nat)(hu:X.A.units+66<kb)(ha:QE X a (tE X.K O m))(hi:fl O i= .nst true:=by rfl)(nm:Nm X i x:=by walk_at "nm"):QT X (.Compare a [.NotIn] [.Name x xp] pos) (tT X.K O (zT i m)):=
 QT.imp (Ng (SM hu) ha.h (dW nm.1 nm.2 nm.3 nm.4) rfl) λσ H Q az=>by
  obtain ⟨A,B,Γ,bb,r,em,k⟩:=az;obtain ⟨kd,e1,em⟩:=AO.au em
  cases hg:gv Γ i with
  | none=>rw[hg] at em;cases em
  | some dl=>
   rw[hg] at em
   cases dl with
   | dict kvs=>
    have em:=em
    cases hk:jD kd with
    | none=>rw[hk] at em;cases em
    | some key=>
     rw[hk] at em;cases em;obtain ⟨p,xs,e3,h1,h2,h3,us,h4,h5⟩:=r.Jg hi hg;refine ⟨A,B,Γ,kd,r,e1,λv A1 H1 g1 p1=>⟨.ref p,dU e3,?_⟩⟩;obtain ⟨b,rfl,nt⟩:=Rp.Vz p1 hk;exact ⟨b,p,xs,us,key,rfl,rfl,g1.hh _ _ h1,h4.keeps λ_ _ e=>(g1.aa.trans g1.ah).fX e,nt.keeps λ_ _ e=>g1.ah.fX e,_,by rw[NP.any h5],k A1 H1 g1⟩
   | _=>cases em
theorem adT(i:Nat)(hu:X.A.units+66<kb)(ha:QE X a (tE X.K O m))(hs:lD a)(hi:fl O i= .nst true:=by rfl)(nm:Nm X i x:=by walk_at "nm"):QE X (.Subscript (.Name x xp) a pos) (tE X.K O (Q9 i m)):=
 QE.imp (Cg (afp hu) (dW nm.1 nm.2 nm.3 nm.4) ha.h hs) λσ H Q az=>by
  obtain ⟨A,B,Γ,d,r,em,k⟩:=az;obtain ⟨kd,e1,em⟩:=AO.au em
  cases hg:gv Γ i with
  | none=>rw[hg] at em;cases em
  | some dl=>
   rw[hg] at em
   cases dl with
   | dict kvs=>
    have em:=em
    cases hk:jD kd with
    | none=>rw[hk] at em;cases em
    | some key=>
     rw[hk] at em;have em:(match jW key kvs with | some d=>AO.ok d | none=>.bad)= .ok d:=em
     cases hl:jW key kvs with
     | none=>rw[hl] at em;cases em
     | some d0=>
      rw[hl] at em;cases em;obtain ⟨p,xs,e3,h1,h2,h3,us,h4,h5⟩:=r.Jg hi hg;obtain ⟨v0,ev,rv⟩:=(NP.look h5).1 d hl;refine ⟨.ref p,dU e3,A,B,Γ,kd,r,e1,λv A1 H1 g1 p1=>?_⟩;obtain ⟨b,rfl,nt⟩:=Rp.Vz p1 hk;exact ⟨p,b,xs,us,key,v0,rfl,rfl,g1.hh _ _ h1,h4.keeps λ_ _ e=>(g1.aa.trans g1.ah).fX e,nt.keeps λ_ _ e=>g1.ah.fX e,ev,k _ A1 H1 g1 (Rp.mono g1.aa _ rv)⟩
   | _=>cases em
noncomputable def abD(O:B9)(i:Nat):Bool:=(List.range O.length).all λj=>j == i || !decide (fl O j= .nst true)
theorem Z0(h:abD O i=true)(hj:i≠j):fl O j ≠ .nst true:=λz=>by
 have hl:j<O.length:=by
  rcases gy j O.length with z' | z'
  . exact z'
  . unfold fl at z;rw[ae,fh z'] at z;cases z
 have:=fS.mp h j (dQ.mpr hl);rw[decide_eq_true z] at this;simp at this;exact hj this.symm
theorem Z7(i:Nat)(hu:X.A.units+66<kb)(ha:QE X a (tE X.K O m))(he:QE X e (tE X.K O m'))(hi:fl O i= .nst true:=by rfl)(hone:abD O i=true:=by rfl)(nm:Nm X i x:=by walk_at "nm")(hs:h9 e (some (.Subscript (.Name x xp) a tpos)) pos.line X.env=pure false:=by rfl) :
 QS X (.Assign [.Subscript (.Name x xp) a tpos] e pos) (tS X.K rm Ol O O (HJ i m m')):=by
 refine QS.imp (aan hu (dW nm.1 nm.2 nm.3 nm.4) ha.h he.h hs) λD σ H az=>?_;obtain ⟨A,B,Γ,o,r,em,k⟩:=az;obtain ⟨d,e1,em⟩:=AO.au em;obtain ⟨kd,e2,em⟩:=AO.au em
 cases hg:gv Γ i with
 | none=>rw[hg] at em;cases em
 | some dl=>
  rw[hg] at em
  cases dl with
  | dict kvs=>
   have em':=em
   cases hk:jD kd with
   | none=>rw[hk] at em';cases em'
   | some key=>
    rw[hk] at em';obtain ⟨⟨hz,hlt⟩,em'⟩:=b7 em';cases em';obtain ⟨q,xs,e3,h1,h2,h3,us,h4,h5⟩:=r.Jg hi hg;refine ⟨A,B,Γ,d,r,e1,λv A1 H1 g1 p1=>⟨.ref q,dU e3,A1,B,Γ,_,r.grow g1,e2,λw A2 H2 g2 p2=>?_⟩⟩;have gg:=g1.trans g2;obtain ⟨b,rfl,nt⟩:=Rp.Vz p2 hk;have h4':=h4.keeps λ_ _ e=>gg.aa.fX e;have h5':NP X.K A2 kvs us:=Paired.sO h5 λ_ _ z=>⟨z.1,Rp.mono gg.aa _ z.2⟩;refine ⟨q,b,xs,us,key,rfl,rfl,gg.hh _ _ h1,h4'.keeps λ_ _ e=>gg.ah.fX e,nt.keeps λ_ _ e=>gg.ah.fX e,by rw[<- jI.length h5];exact hz,λrr hr=>?_⟩;exact k σ A2 _ ((r.grow gg).afE hi hlt e3 (gg.hh _ _ h1) (gg.nw q h2 (by rw[h1];simp)) h3 ⟨_,h4'.put key nt hr,NP.put hk (Rp.mono g2.aa _ p1) h5'⟩ λj hj=>Z0 hone hj) gg.aa (gg.nB r.b)
  | _=>cases em
theorem Z1{st:Stmt}(i:Nat)(h:QS X st (tS X.K rm Ol O O1 (aW i (iZ []))))(hi:fl O1 i= .own:=by rfl)(hl:i<O1.length:=by exact of_decide_eq_true rfl)(hO:O1.set i (.nst true)=O2:=by rfl):QS X st (tS X.K rm Ol O O2 (aW i (iZ []))):=by
 subst hO;refine ⟨λAK s σ H D I ⟨A,B,Γ,o,r,em,k⟩=>?_⟩;have em0:=em;obtain ⟨d,e1,em⟩:=AO.au em;obtain ⟨hlt,em⟩:=b7 em;cases em;cases e1;refine thn (h.h AK s σ H ⟨λσ' H'=>∃p,H' p=some (.dK [])/\D.nx σ' (AU H' p (iy p [])),D.rt,D.bk,D.ct⟩ I ⟨A,B,Γ,_,r,em0,λσ' A' H' r' sa nw=>?_⟩) λf s' q=>?_
 . obtain ⟨p,hp,r2⟩:=r'.abI hi hl (by rw[gv,bL hlt]);exact ⟨p,hp,k σ' A' _ r2 sa nw⟩
 . cases f with
   | next=>
    obtain ⟨σ',H',I',p,hp,hq⟩:=q;exact ⟨σ',_,aen I' hp,hq⟩
   | brk=>exact q
   | cont=>exact q
   | ret u=>exact q
end
noncomputable def Hr(mk mv:ME):ME:=λΓ=>(mk Γ).bind λkd=>(mv Γ).bind λd=>match bM kd with
 | some _=>.ok (.dict [(kd,d)])
 | none=>.bad
theorem Zn{mk:ME}(hk:QE X e (tE X.K O mk))(hv:QE X tg (tE X.K O m)):QE X (.Dict [some e] [tg] pos) (tF X.K O (Hr mk m)):=
 QE.imp (Fe (sr hk.h hv.h zO) rfl rfl (λz=>nomatch z) (by show 1<=15;decide)) λσ H Q az=>by
  obtain ⟨A,B,Γ,d,r,em,k⟩:=az;obtain ⟨kd,e0,em⟩:=AO.au em;obtain ⟨d1,e1,em⟩:=AO.au em
  cases hkk:bM kd with
  | none=>rw[hkk] at em;cases em
  | some key=>
   rw[hkk] at em;cases em;intro p hp;have g0:aZ A H A (AU H p (.dK [])):=aZ.lay r.a hp;refine ⟨A,B,Γ,kd,r.grow g0,e0,λkv A1 H1 g1 p1=>⟨A1,B,Γ,d1,(r.grow g0).grow g1,e1,λtg A2 H2 g2 p2=>⟨(g1.trans g2).hh _ _ aU,[(key,tg)],by rw[Rp.key p1 hkk];rfl,by show 1<=15;decide,?_⟩⟩⟩;have g12:=g1.trans g2;have pa:=g12.4 p (r.a.free hp) (by rw[aU];exact λz=>nomatch z);have gg:aZ A H A2 (AU H2 p (.dK (lR [] [(key,tg)]))):=by
    refine ⟨g12.aa,λb o q=>?_,λb o q=>?_,λb q1 q2=>?_⟩
    . have hb:=c7 q hp;rw[aH hb];exact g12.hh _ _ (by rw[aH hb];exact q)
    . have hb:=c7 q pa;rw[aH hb];exact g2.ah _ _ q
    . have hb:b≠p:=λz=>q2 (z ▸ hp);exact g12.4 b q1 (by rw[aH hb];exact q2)
   exact k _ _ _ gg ⟨p,_,rfl,hp,aU,pa,.inr ⟨_,[(key,tg)],rfl,rfl,bu.cons.mpr ⟨_,tg,[],rfl,hkk,p2,bu.nil.mpr rfl⟩⟩⟩
noncomputable def Kd(ds es:B4):B4:=(ds.zip es).map λp=>ab.tuple [p.1,p.2]
section
open Builtin Builtin.Str
section
variable   {A:ke}   {o J U c d q:Addr}{k:Nat}{us vs:Array a9}{u v m n:a9}
theorem NB{Q:Bool->dy->Prop}(ho:yi s.heap o J U .none)(hQ:Q true s):eI (eL prog w) A (Builtin.SmallTypes.ownedTupleIsFree (.ref o)) Q E s:=by
 exact ag (jv ho rfl rfl (bo hQ))
theorem YK{r:Addr}{Q:Unit->dy->Prop}(ho:yi s.heap o J U .ellipsis)(hQ:∀h',yi h' o J U (ua r)->pe o s.heap h'->Q () { s with heap:=h' }) :
 eI (eL prog w) A (Builtin.SmallTypes.ownedTupleHandOut (.ref o) (.ref r)) Q E s:=by
 exact ag (mS ho (by simp) λha za ba=>mS (za) (by simp) λhb zb bb=>hQ hb zb ⟨bb.1.trans ba.1,λb hne=>(bb.2 b hne).trans (ba.2 b hne)⟩)
theorem MN(ap:ZipApart o J U c d p q)(ho:yi s.heap o J U .none)(hj:ow s.heap J (.ref c) (.ref d))(hu:ow s.heap U u v)
 (hc:s.heap.IsTupleIter c p k) (hd:s.heap.IsListIter d q k) (hp:s.heap.IsTuple p us) (hq:s.heap.IsList q vs) (hm:us[k]?=some m) (hn:vs[k]?=some n)
 (hQ:∀h',yi h' o J U (ua s.heap.objs.size)->ow h' U m n->h'.IsTupleIter c p (k+1)->h'.IsListIter d q (k+1)->ow h' s.heap.objs.size m n ->
  (∀b x,b≠o->b≠U->b≠c->b≠d->s.heap.get? b=some x->h'.get? b=some x)->Q (.ref s.heap.objs.size) { s with heap:=h' }) :
 eI (eL prog w) A (Builtin.«zip.__next__» ⟨[.ref o],[]⟩) (λf t=>∃y,f= .done (.ret y)/\Q y t) E s:=by
 show eI _ _ (field (.ref o) 2 >>= _) _ _ s;refine ag (jv ho rfl rfl (ag (jv ho rfl rfl (ag (fT hj rfl ?_)))));refine ag (NB ho (ag (vT (ag (jv ho rfl rfl (ag (mS ho (by simp) λha za ba=>ag ?_)))))));replace za:yi ha o J U .ellipsis:=za;refine ag (ag (xC (ag (ji (hc.at λy e=>ba.extBut c y ap.i1z e) (let ⟨y,e,r⟩:=hp;⟨y,ba.extBut p y ap.l1z e,r⟩) hm λhb cb bb=>bo ?_))));have ub:=bb.extBut U _ ap.TOi1 (ba.extBut U _ ap.TOz hu);refine ag (fT ub rfl (ag (tw ub λhe ue be=>ag (rf (bo ?_)))));replace ue:ow he U m v:=ue;refine ag (ag (xC ?_));have kd:=λx e=>be.extBut d x ap.TOi2.symm (bb.extBut d x ap.i12.symm (ba.extBut d x ap.i2z e));have kq:=λx e=>be.extBut q x ap.l2TO (bb.extBut q x ap.l2i1 (ba.extBut q x ap.l2z e));refine ag (wpAny_nextOf_list_item (hd.at kd) (let ⟨y,e,r⟩:=hq;⟨y,kq y e,r⟩) hn λhf df bf=>bo ?_);have uf:=bf.extBut U _ ap.TOi2 ue;refine ag (fT uf rfl (ag (tw uf λhg ug bg=>ag (rf (bo (bo ?_))))));replace ug:ow hg U m n:=ug;refine ag (fT ug rfl (ag (wpAny_newTuple ?_)));have sz:hg.objs.size=s.heap.objs.size:=by rw[bg.1,bf.1,be.1,bb.1,ba.1]
 have zg:=bg.extBut o _ ap.TOz.symm (bf.extBut o _ ap.i2z.symm (be.extBut o _ ap.TOz.symm (bb.extBut o _ ap.i1z.symm za)));have kg:=λb x n1 n2 n3 n4 e=>bg.extBut b x n2 (bf.extBut b x n4 (be.extBut b x n2 (bb.extBut b x n3 (ba.extBut b x n1 e))));have cg:=cb.at λy e=>bg.extBut c y ap.TOi1.symm (bf.extBut c y ap.i12 (be.extBut c y ap.TOi1.symm e));have dg:=df.at λy e=>bg.extBut d y ap.TOi2.symm e;have lo:=c8 zg;refine ag (YK (aE _ zg) λhl zl bl=>bo ⟨_,rfl,?_⟩);have up:=λb x n1 e=>bl.extBut b x n1 (aE _ e);have tl:=bl.extBut _ _ (rl lo) (c6 _ rfl);rw[sz] at zl tl;rw[sz];exact hQ hl zl (up U _ ap.TOz ug) (cg.at λy e=>up c y ap.i1z e) (dg.at λy e=>up d y ap.i2z e) tl λb x n1 n2 n3 n4 e=>up b x n1 (kg b x n1 n2 n3 n4 e)
theorem adp{Q:Fin->dy->Prop}(hh:A.handled=none)(ap:ZipApart o J U c d p q)(ho:yi s.heap o J U .none)(hj:ow s.heap J (.ref c) (.ref d))(hu:ow s.heap U u v)
 (hc:s.heap.IsTupleIter c p k) (hd:s.heap.IsListIter d q k) (hp:s.heap.IsTuple p us) (hq:s.heap.IsList q vs) (hx:us[k]?=none\/vs[k]?=none)
 (hE:∀h' y,(∀b x,b≠o->b≠U->b≠c->b≠d->s.heap.get? b=some x->h'.get? b=some x)->(∃x,h'.get? y=some x/\x.cls= .type "StopIteration")->E (.ref y) { s with heap:=h' }) :
 eI (eL prog w) A (Builtin.«zip.__next__» ⟨[.ref o],[]⟩) Q E s:=by
 show eI _ _ (field (.ref o) 2 >>= _) _ _ s;refine ag (jv ho rfl rfl (ag (jv ho rfl rfl (ag (fT hj rfl ?_)))));refine ag (NB ho (ag (vT (ag (jv ho rfl rfl (ag (mS ho (by simp) λha za ba=>ag ?_)))))));replace za:yi ha o J U .ellipsis:=za;refine ag (ag (xC ?_));have ca:=hc.at λy e=>ba.extBut c y ap.i1z e;have pa:ha.IsTuple p us:=let ⟨y,e,r⟩:=hp;⟨y,ba.extBut p y ap.l1z e,r⟩;have out:∀{hr:Heap}{y:Addr}{x:Obj},hr.get? y=some x->x.cls= .type "StopIteration" -> yi hr o J U .ellipsis->y≠o:=λe cl z eq=>by
  rw[eq,z] at e;cases e;exact absurd cl (by show ¬ (l6 "zip"= l6 "StopIteration");decide)
 cases h0:us[k]? with
 | none=>
  refine ag (jK hh ca pa h0 λhb y bb az=>?_);obtain ⟨x,e,cl⟩:=az;have zb:=bb o _ ap.i1z.symm za;exact mS zb (by simp) λhe _ be=>hE he y (λb x n1 _ n3 _ e=>be.extBut b x n1 (bb b x n3 (ba.extBut b x n1 e))) ⟨x,be.extBut y x (out e cl zb) e,cl⟩
 | some m=>
  have h1:=hx.resolve_left λz=>by rw[h0] at z;cases z
  refine ag (ji ca pa h0 λhb cb bb=>bo ?_);have ub:=bb.extBut U _ ap.TOi1 (ba.extBut U _ ap.TOz hu);refine ag (fT ub rfl (ag (tw ub λhe ue be=>ag (rf (bo (ag (ag (xC ?_))))))));have kd:=λx e=>be.extBut d x ap.TOi2.symm (bb.extBut d x ap.i12.symm (ba.extBut d x ap.i2z e));have kq:=λx e=>be.extBut q x ap.l2TO (bb.extBut q x ap.l2i1 (ba.extBut q x ap.l2z e));refine ag (wpAny_nextOf_list_end hh (hd.at kd) (let ⟨y,e,r⟩:=hq;⟨y,kq y e,r⟩) h1 λhf y bf az=>?_);obtain ⟨x,e,cl⟩:=az;have zf:=bf o _ ap.i2z.symm (be.extBut o _ ap.TOz.symm (bb.extBut o _ ap.i1z.symm za));exact mS zf (by simp) λhg _ bg=>hE hg y (λb x n1 n2 n3 n4 e=>bg.extBut b x n1 (bf b x n4 (be.extBut b x n2 (bb.extBut b x n3 (ba.extBut b x n1 e))))) ⟨x,bg.extBut y x (out e cl zf) e,cl⟩
theorem Pj{Q:B7->dy->Prop}(ap:ZipApart o J U c d p q)(ho:yi s.heap o J U .none)(hj:ow s.heap J (.ref c) (.ref d))(hu:ow s.heap U u v)
 (hc:s.heap.IsTupleIter c p k) (hd:s.heap.IsListIter d q k) (hp:s.heap.IsTuple p us) (hq:s.heap.IsList q vs) (hm:us[k]?=some m) (hn:vs[k]?=some n)
 (hQ:∀h',yi h' o J U (ua s.heap.objs.size)->ow h' U m n->h'.IsTupleIter c p (k+1)->h'.IsListIter d q (k+1)->ow h' s.heap.objs.size m n ->
  (∀b x,b≠o->b≠U->b≠c->b≠d->s.heap.get? b=some x->h'.get? b=some x)->Q (some (.ref s.heap.objs.size)) { s with heap:=h' }) :
 eI (eL prog w) A (pyNext (.ref o)) Q E s:=by
 have ty:s.TypeIs (.ref o) "zip" := ⟨_,ho,rfl⟩;have one:=MN (prog:=prog) (w:=w) (A:=A) (E:=λe t=>False) ap ho hj hu hc hd hp hq hm hn (Q:=λy t=>Q (some y) t) hQ;refine ag (wpAny_attempt (gE ty vj (fR vj ty F.entry_zip_next (MN ap ho hj hu hc hd hp hq hm hn λh' a1 a2 a3 a4 a5 a6=>?_) (F.args_zip_next_1 _))));exact bo (hQ h' a1 a2 a3 a4 a5 a6)
theorem Uq{Q:B7->dy->Prop}(hh:A.handled=none)(ap:ZipApart o J U c d p q)(ho:yi s.heap o J U .none)(hj:ow s.heap J (.ref c) (.ref d))(hu:ow s.heap U u v)
 (hc:s.heap.IsTupleIter c p k) (hd:s.heap.IsListIter d q k) (hp:s.heap.IsTuple p us) (hq:s.heap.IsList q vs) (hx:us[k]?=none\/vs[k]?=none)
 (hQ:∀h',(∀b x,b≠o->b≠U->b≠c->b≠d->s.heap.get? b=some x->h'.get? b=some x)->Q none { s with heap:=h' }):eI (eL prog w) A (pyNext (.ref o)) Q E s:=by
 have ty:s.TypeIs (.ref o) "zip" := ⟨_,ho,rfl⟩;refine ag (wpAny_attempt (gE ty vj (fR vj ty F.entry_zip_next (adp hh ap ho hj hu hc hd hp hq hx λh' y kp ⟨x,e,cl⟩=>?_) (F.args_zip_next_1 _))));exact ag (pj ⟨x,e,cl⟩ isSubtype_stop (bo (hQ _ kp)))
end
noncomputable def ztA(h:Heap)(p:Addr):Heap:=h.push { cls:=.type "tuple_iterator",data:=.fields #[.ref p,.int 0 0] }
noncomputable def ztB(h:Heap)(p q:Addr):Heap:=(ztA h p).push { cls:=.type "list_iterator",data:=.fields #[.ref q,.int 0 0] }
noncomputable def ztC(h:Heap)(p q:Addr):Heap:=(ztB h p q).push { cls:=.type "tuple",data:=.seq #[.ref h.objs.size,.ref (ztA h p).objs.size] }
noncomputable def ztD(h:Heap)(p q:Addr):Heap:=(ztC h p q).push { cls:=.type "tuple",data:=.seq #[.none,.none] }
noncomputable def ztE(h:Heap)(p q:Addr):Heap:=(ztD h p q).push { cls:=.type "zip",data:=.fields #[.none,.bool false,.bool false,.ref (ztB h p q).objs.size,.ref (ztC h p q).objs.size] }
theorem Xe(p q:Addr)(us vs:Array a9):Meets (Builtin.«zip.__new__» ⟨[.type "zip",.ref p,.ref q],[]⟩) (λ_ R s=>s.heap.IsTuple p us/\s.heap.IsList q vs /\
 R (.ok (.ret (.ref (ztD s.heap p q).objs.size))) { s with heap:=ztE s.heap p q }):=
 .of_wp λprog w A R s az=>by
  obtain ⟨hp,hq,h⟩:=az;obtain ⟨hh,g,d,tk,os⟩:=s;have hsub:=sub_zip;have tp:=hp;have lq:Heap.IsList (Shared.heap ⟨hh.push { cls:=.type "tuple_iterator",data:=.fields #[.ref p,.int 0 0] },g,d,tk,os⟩) q vs:=hq.push _
  wp_walk using oi tp,wpAny_pyIter_list lq
  exact ⟨_,rfl,h⟩
theorem abe{A:ke}{q:Addr}{us vs:Array a9}(hp:s.heap.IsTuple p us)(hq:s.heap.IsList q vs)
 (go:∀h' N,N=s.heap.objs.size->yi h' (N+4) (N+2) (N+3) .none->ow h' (N+2) (.ref N) (.ref (N+1))->ow h' (N+3) .none .none->h'.IsTupleIter N p 0->h'.IsListIter (N+1) q 0 ->
  (∀b x,s.heap.get? b=some x->h'.get? b=some x)->Q (.ref (N+4)) { s with heap:=h' }):eI (eL prog w) A (call (.type "zip") [.ref p,.ref q]) Q E s:=by
 have y1:(ztA s.heap p).objs.size=s.heap.objs.size+1:=iS ..
 have y2:(ztB s.heap p q).objs.size=s.heap.objs.size+2:=(iS ..).trans (by rw[y1]);have y3:(ztC s.heap p q).objs.size=s.heap.objs.size+3:=(iS ..).trans (by rw[y2]);have y4:(ztD s.heap p q).objs.size=s.heap.objs.size+4:=(iS ..).trans (by rw[y3]);have x5:(ztE s.heap p q).get? (ztD s.heap p q).objs.size=some _:=c6 _ rfl;have x4:(ztE s.heap p q).get? (ztC s.heap p q).objs.size=some _:=aE _ (c6 _ rfl);have x3:(ztE s.heap p q).get? (ztB s.heap p q).objs.size=some _:=aE _ (aE _ (c6 _ rfl));have x2:(ztE s.heap p q).get? (ztA s.heap p).objs.size=some _:=aE _ (aE _ (aE _ (c6 _ rfl)));have x1:(ztE s.heap p q).get? s.heap.objs.size=some _:=aE _ (aE _ (aE _ (aE _ (c6 _ rfl))));refine callType_new F.called_zip (by decide) (F.typeCall_zip_2 _ _) (F.newCall_zip_2 _ _) (λb=>F.args_object_init_3 b _ _) F.entry_zip_new (Xe p q us vs) ⟨hp,hq,?_⟩;rw[y2,y3,y4] at x5;rw[y3] at x4;rw[y1,y2] at x3;rw[y1] at x2;rw[y4];exact ⟨⟨_,x5,rfl⟩,go _ _ rfl x5 x3 x4 ⟨_,x1,rfl,rfl⟩ ⟨_,x2,rfl,rfl⟩ λb x e=>aE _ (aE _ (aE _ (aE _ (aE _ e))))⟩
noncomputable def Xw(K:aw)(a b:Addr):It:=
 ⟨λi H=>∃xs ys x y,SqT K H a xs/\SqL K H b ys/\xs[i]?=some x/\ys[i]?=some y,
  λi H v H'=>∃p x y,H p=none/\v= .ref p/\H'=AU H p (.tup [x,y])/\(∀xs,SqT K H a xs->xs[i]?=some x)/\(∀ys,SqL K H b ys->ys[i]?=some y),
  λi H=>∃xs ys,SqT K H a xs/\SqL K H b ys/\(xs.length<=i\/ys.length<=i)⟩
theorem aaA{x1}(a b z TI TO i1 i2:Addr)(D:ZipApart z TI TO i1 i2 a b) :
 Turn P w K (.Tuple elts x1 tpos) (Xw K a b) [z,TI,TO,i1,i2] z (λi h=>yi h z TI TO .none/\ow h TI (.ref i1) (.ref i2)/\(∃u v,ow h TO u v)/\h.IsTupleIter i1 a i/\h.IsListIter i2 b i) where
 mem:=by simp
 obj:=λi h st c hc=>by
  obtain ⟨hz,hTI,⟨u,v,hTO⟩,⟨o1,ho1,c1,d1⟩,o2,ho2,c2,d2⟩:=st;have hc':c=z\/c=TI\/c=TO\/c=i1\/c=i2:=by simpa using hc
  rcases hc' with rfl | rfl | rfl | rfl | rfl
  . exact ⟨_,hz,λv z=>by cases z⟩
  . exact ⟨_,hTI,λv z=>by cases z⟩
  . exact ⟨_,hTO,λv z=>by cases z⟩
  . exact ⟨o1,ho1,λv z=>by rw[d1] at z;cases z⟩
  . exact ⟨o2,ho2,λv z=>by rw[d2] at z;cases z⟩
 keep:=λi h h' st k=>by
  obtain ⟨hz,hTI,⟨u,v,hTO⟩,h1,h2⟩:=st;exact ⟨k z (by simp) _ hz,k TI (by simp) _ hTI,⟨u,v,k TO (by simp) _ hTO⟩,h1.at λo q=>k i1 (by simp) o q,h2.at λo q=>k i2 (by simp) o q⟩
 item:=by
  intro X hP hw hK hc i AK s σ H E I hf st hg;subst hP hw hK;obtain ⟨hz,hTI,⟨u,v,hTO⟩,hi1,hi2⟩:=st;obtain ⟨xs,ys,x,y,hq1,hq2,hx,hy⟩:=hg;obtain ⟨Pb,rv1,p1,_⟩:=I.tuple hq1;obtain ⟨its2,rv2,p2,_⟩:=I.list hq2;obtain ⟨u1,hu1,ru1⟩:=rv1.get hx;obtain ⟨u2,hu2,ru2⟩:=rv2.get hy;have fz:=hf z (by simp);have fTI:=hf TI (by simp);have fTO:=hf TO (by simp);have f1:=hf i1 (by simp);have f2:=hf i2 (by simp);refine Pj D hz hTI hTO hi1 hi2 (show s.heap.IsTuple a Pb.toArray from p1) p2.isList (m:=u1) (n:=u2) (by simpa using hu1) (by simpa using hu2) λh' hz' afK afn hi2' hN' hk=>?_;refine ⟨_,rfl,?_⟩;refine wpAny_letOwnedTupleGo_zip (s:={ s with heap:=h' }) hz' λh2 hz2 sb2=>?_;have hnew:H s.heap.objs.size=none:=I.AY.fresh (ay _);have hpz:s.heap.objs.size≠z:=rl (c8 hz);have hN2:ow h2 s.heap.objs.size u1 u2:=sb2.extBut _ _ hpz hN';have k2:∀c o,c≠z->c≠TO->c≠i1->c≠i2->s.heap.get? c=some o->h2.get? c=some o:=λc o c1 c2 c3 c4 q=>sb2.extBut c o c1 (hk c o c1 c2 c3 c4 q);have k3:∀c o,s.heap.get? c=some o->c∉[z,TI,TO,i1,i2]->h2.get? c=some o:=λc o q hc=>k2 c o (λe=>hc (by simp[e])) (λe=>hc (by simp[e])) (λe=>hc (by simp[e])) (λe=>hc (by simp[e])) q;have I2:=I.zM (tk:=s.toks) hf k3 hN2 rfl rfl ru1 ru2;refine ⟨.ref s.heap.objs.size,_,I2,rfl,⟨_,x,y,hnew,rfl,rfl,λys hy'=>by rw[I.xU hy' hq1];exact hx,λys' hy'=>by rw[I.wI hy' hq2];exact hy⟩,⟨hz2,?_,⟨_,_,sb2.extBut _ _ D.TOz afK⟩,afn.at λo q=>sb2.extBut _ o D.i1z q,hi2'.at λo q=>sb2.extBut _ o D.i2z q⟩,λb hb=>?_⟩
  . exact k2 TI _ D.TIz D.TITO D.TIi1 D.TIi2 hTI
  . have hb':=(hf b hb).1;have:b≠s.heap.objs.size:=by
     have hc':b=z\/b=TI\/b=TO\/b=i1\/b=i2:=by simpa using hb
     rcases hc' with rfl | rfl | rfl | rfl | rfl
     . exact fi (c8 hz)
     . exact fi (c8 hTI)
     . exact fi (c8 hTO)
     . obtain ⟨o,ho,_⟩:=hi1;exact fi (c8 ho)
     . obtain ⟨o,ho,_⟩:=hi2;exact fi (c8 ho)
    rw[aH this];exact hb'
 done:=by
  intro X hP hw hK hc i AK s σ H E I hf st hg;subst hP hw hK;obtain ⟨hz,hTI,⟨u,v,hTO⟩,hi1,hi2⟩:=st;obtain ⟨xs,ys,hq1,hq2,hx⟩:=hg;obtain ⟨Pb,rv1,p1,_⟩:=I.tuple hq1;obtain ⟨its2,rv2,p2,_⟩:=I.list hq2;have l1:=rv1.length;have l2:=rv2.length;refine Uq (I.ok.hd hc) D hz hTI hTO hi1 hi2 (show s.heap.IsTuple a Pb.toArray from p1) p2.isList (by
   rcases hx with h | h
   . exact .inl (by simp;lia)
   . exact .inr (by simp;lia)) λh' hk=>⟨rfl,?_⟩
  have k3:∀c o,s.heap.get? c=some o->c∉[z,TI,TO,i1,i2]->h'.get? c=some o:=λc o q hc=>hk c o (λe=>hc (by simp[e])) (λe=>hc (by simp[e])) (λe=>hc (by simp[e])) (λe=>hc (by simp[e])) q;have ge:∀c o,H c=some o->c∉[z,TI,TO,i1,i2]:=λc o q hc=>by rw[(hf c hc).1] at q;cases q
  have un:Un (frs X.stack) [z,TI,TO,i1,i2] H H s.heap h':=by
   refine ⟨λb o q n _ hc=>k3 b o q hc,λb o q n _ hc=>⟨o.slots,k3 b o q hc⟩,λb o q n hc=>n,λb o q hc=>⟨o,k3 b o q hc⟩,λb ys q=>q,λb o y q=>q,λ_ _ q=>q⟩
  have AY:HOk X.prog X.w H h':=λb o q=>by
   refine (I.AY b o q).stay (λc v hc q'=>?_) (λc q'=>q') λc ys q'=>q';rcases hc with rfl | hc
   . exact k3 c v q' (ge c _ q)
   . exact k3 c v q' (ge c _ hc)
  exact I.call' rfl un AY I.bare λb hb=>by
   obtain ⟨f0,f1,f2,f3,f4,f5⟩:=hf b hb;exact ⟨f3,f1,f4,f5⟩
 self:=λ_ _ _ _ _ st h=>wpAny_pyIter_zip st.1 h
def iZt(K:aw)(ta:TA):TI:=λσ H R=>ta σ H λvs H1=>∃a b xs ys,vs=[.ref a,.ref b]/\SqT K H1 a xs/\SqL K H1 b ys/\R (Xw K a b) H1
theorem aew{x1}{ta:TA}(hg:Gl X "zip")(hm:X.mg "zip"= none)(ha:PA X [a,b] ta)(hs:d5 [a,b] X.env=[(false,eval a X.env),(false,eval b X.env)]:=by rfl)(hs2:d5 [b] X.env=[(false,eval b X.env)]:=by rfl) :
 PI X (.Tuple elts x1 tpos) (.Call (.Name "zip" pos') [a,b] [] pos) (iZt X.K ta):=by
 intro AK s σ H R I h;refine Call_ (nZ I hg hm (show fk "zip"= some (.type "zip") by decide +kernel) (iF (thn (ha pos AK s σ H _ I h) λus s1 az=>?_) (by rw[hs,hs2]) (by rw[hs2];rfl)));obtain ⟨vs,H1,I1,r1,q1⟩:=az;obtain ⟨l1,l2,xs,ys,e,hq1,hq2,q⟩:=q1;subst e
 cases r1 with
 | cons r rr=>
  cases rr with
  | cons r' rr=>
   cases rr;cases r;cases r';obtain ⟨Pb,rv1,p1,_⟩:=I1.tuple hq1;obtain ⟨its2,rv2,p2,_⟩:=I1.list hq2;have a1:l1<s1.heap.objs.size:=by obtain ⟨o,e,_⟩:=p1;exact c8 e
   have a2:l2<s1.heap.objs.size:=by obtain ⟨o,n,e,_⟩:=p2;exact c8 e
   refine abe (p1) p2.isList λh' N eN hz hTI hTO hi1 hi2 k=>?_;subst eN;refine wpAny_pyIter_zip hz ?_;have hfp:∀b,b∈[s1.heap.objs.size+4,s1.heap.objs.size+2,s1.heap.objs.size+3,s1.heap.objs.size,s1.heap.objs.size+1]->s1.heap.objs.size<=b:=λb hb=>by
    simp only[cp,pv,or_false] at hb;lia
   exact ⟨s1.heap.objs.size+4,[s1.heap.objs.size+4,s1.heap.objs.size+2,s1.heap.objs.size+3,s1.heap.objs.size,s1.heap.objs.size+1],_,_,H1,rfl,I1.kept k,aaA l1 l2 _ _ _ _ _ (zipApart_new a1 a2),⟨hz,hTI,⟨_,_,hTO⟩,hi1,hi2⟩,λb hb=>I1.sS (hfp b hb) (I1.AY.fresh (hfp b hb)),q⟩
end
noncomputable def Ku(m m':ME):MI:=λΓ=>(m Γ).bind λd=>(m' Γ).bind λe=>match d,e with
 | .tuple ds,.list es=>.ok (Kd ds es)
 | _,_=>.bad
section
variable     {p:Pos}   {es:B4}{ws:C0}{q q':Addr}
theorem aec(hr:aA K A ds vs)(hr':aA K A es ws)(hq:∀H,aF A H->SqT K H q vs)(hq':∀H,aF A H->SqL K H q' ws):rN K A B (Xw K q q') (Kd ds es):=by
 have hl:=hr.length;have hl':=hr'.length;have he:(Kd ds es).length=min vs.length ws.length:=by rw[Kd,af,List.length_zip,hl,hl']
 refine ⟨λi H s1 s2 hi=>?_,λH s1 s2=>⟨vs,ws,hq H s1,hq' H s1,by lia⟩,λi A2 H x H' sa s1 s2 hi y=>?_⟩
 . exact ⟨vs,ws,vs[i]'(by lia),ws[i]'(by lia),hq H s1,hq' H s1,av _,av _⟩
 . obtain ⟨p,v,w,hq0,rfl,rfl,y,y'⟩:=y;obtain ⟨d,e1,rd⟩:=hr.get (y vs (hq H (sa.trans s1)));obtain ⟨d',e1',rd'⟩:=hr'.get (y' ws (hq' H (sa.trans s1)));have g:=aZ.new (o:=.tup [v,w]) s1 hq0;refine ⟨_,.tuple [d,d'],?_,g,Rp.tuple.mpr ⟨p,_,rfl,SqT.of aU,aA.cons.mpr ⟨_,_,rfl,Rp.mono (sa.trans g.aa) d rd,aA.one (Rp.mono (sa.trans g.aa) d' rd')⟩⟩⟩;rw[Kd,br,List.getElem?_zip_eq_some (z:=(d,d')).mpr ⟨e1,e1'⟩];rfl
theorem Og{x1}(hg:Gl X "zip")(hm:X.mg "zip"= none)(ha:QE X a (tE X.K O m))(hb:QE X b (tE X.K O m'))(hs:d5 [a,b] X.env=[(false,eval a X.env),(false,eval b X.env)]:=by rfl)(hs2:d5 [b] X.env=[(false,eval b X.env)]:=by rfl):QI X (.Tuple elts x1 tpos) (.Call (.Name "zip" p) [a,b] [] pos) (tI X.K O (Ku m m')):=
 QI.imp (aew hg hm (bW ha.h (bW hb.h eQ hs2) (by rw[hs,hs2])) hs hs2) λσ H R az=>by
  obtain ⟨A,B,Γ,xs,r,em,k⟩:=az;obtain ⟨d,e1,em⟩:=AO.au em;obtain ⟨d',e2,em⟩:=AO.au em
  cases d with
  | tuple ds=>
   cases d' with
   | list es=>
    cases em;refine ⟨A,B,Γ,_,r,e1,λv A1 H1 g1 p1=>⟨A1,B,Γ,_,r.grow g1,e2,λv' A2 H2 g2 p2=>?_⟩⟩;obtain ⟨q,vs,rfl,h1,h2⟩:=Rp.tuple.mp (Rp.mono g2.aa _ p1);obtain ⟨q',ws,rfl,h1',h2'⟩:=Rp.list.mp p2;exact ⟨q,q',vs,ws,rfl,g2.ah.fX h1,g2.ah.seq h1',k _ A2 H2 (g1.trans g2) (aec h2 h2' (λH s=>s.fX h1) λH s=>s.seq h1')⟩
   | _=>cases em
  | _=>cases em
end
noncomputable def Qj:ab->AO ab
 | .list ds=>.ok (.list ds.reverse)
 | _=>.bad
section
variable     {p p2 pos2:Pos}
noncomputable def mJ:B4->AO ab
 | [.dict kvs]=>.ok (.int kvs.length)
 | _=>.bad
theorem bu.len:∀{kvs:B0}{u:A8},bu K A kvs u->kvs.length=u.length
 | [],u,h=>by rw[bu.nil.mp h];rfl
 | (k,d)::r,u,h=>by
  obtain ⟨key,v,u',rfl,_,_,h⟩:=bu.cons.mp h;rw[bt,bt,bu.len h]
theorem vh:fO X (.builtin "len") (rC X.K mJ):=by
 rintro AK s σ H xs us Q I r ⟨A,ds,d,e,ha,p,k⟩
 match ds,e with
 | [.dict kvs],e=>
  cases e;obtain ⟨v,r',rfl,p1,p2⟩:=p.cons;obtain rfl:=p2.nil;obtain ⟨l,u,rfl,h1,q1⟩:=p1.dict ha;obtain ⟨z,rfl,rx⟩:=vals1 r;cases rx;exact aeP I h1 λt s' I'=>⟨.int kvs.length,H,I',⟨t,by rw[q1.len]⟩,k _ A H (aZ.refl ha) (Rp.int.mpr rfl)⟩
end
theorem len0{α:Type}{P:List α->Prop}(h:P [])(us:List α)(e:us.length=0):P us:=by
 rw[l5.mp e];exact h
theorem ac3{α:Type}{P:List α->Prop}(h:∀a0,P [a0])(us:List α)(e:us.length=1):P us:=by
 cases us with
 | nil=>cases e
 | cons a r=>exact len0 (P:=λr=>P (a::r)) (h a) r (Nat.succ.inj e)
theorem acx{α:Type}{P:List α->Prop}(h:∀a0 a1,P [a0,a1])(us:List α)(e:us.length=2):P us:=by
 cases us with
 | nil=>cases e
 | cons a r=>exact ac3 (P:=λr=>P (a::r)) (λb0=>h a b0) r (Nat.succ.inj e)
theorem abA{α:Type}{P:List α->Prop}(h:∀a0 a1 a2,P [a0,a1,a2])(us:List α)(e:us.length=3):P us:=by
 cases us with
 | nil=>cases e
 | cons a r=>exact acx (P:=λr=>P (a::r)) (λb0 b1=>h a b0 b1) r (Nat.succ.inj e)
theorem afu{α:Type}{P:List α->Prop}(h:∀a0 a1 a2 a3,P [a0,a1,a2,a3])(us:List α)(e:us.length=4):P us:=by
 cases us with
 | nil=>cases e
 | cons a r=>exact abA (P:=λr=>P (a::r)) (λb0 b1 b2=>h a b0 b1 b2) r (Nat.succ.inj e)
theorem ab2{st:Stmt}(h:∀(kV doc pm:a9) (an:C4) (AN ct:a9) (a0:a9),kG (fb x x (cM st) (bR st) (aN st) .none kV doc pm an AN ct) ⟨[a0],[]⟩=pure (ps.zip [a0]))(hp:ps.length=1) :
 ∀(kV doc pm:a9) (an:C4) (AN ct:a9) (us:B8),us.length=ps.length->kG (fb x x (cM st) (bR st) (aN st) .none kV doc pm an AN ct) ⟨us,[]⟩=pure (ps.zip us):=λkV doc pm an AN ct us hl=>
 ac3 (P:=λus=>kG (fb x x (cM st) (bR st) (aN st) .none kV doc pm an AN ct) ⟨us,[]⟩=pure (ps.zip us)) (h kV doc pm an AN ct) us (hl.trans hp)
theorem VF{st:Stmt}(h:∀(kV doc pm:a9) (an:C4) (AN ct:a9) (a0 a1:a9),kG (fb x x (cM st) (bR st) (aN st) .none kV doc pm an AN ct) ⟨[a0,a1],[]⟩=pure (ps.zip [a0,a1]))(hp:ps.length=2) :
 ∀(kV doc pm:a9) (an:C4) (AN ct:a9) (us:B8),us.length=ps.length->kG (fb x x (cM st) (bR st) (aN st) .none kV doc pm an AN ct) ⟨us,[]⟩=pure (ps.zip us):=λkV doc pm an AN ct us hl=>
 acx (P:=λus=>kG (fb x x (cM st) (bR st) (aN st) .none kV doc pm an AN ct) ⟨us,[]⟩=pure (ps.zip us)) (h kV doc pm an AN ct) us (hl.trans hp)
theorem adt{st:Stmt}(h:∀(kV doc pm:a9) (an:C4) (AN ct:a9) (a0 a1 a2:a9),kG (fb x x (cM st) (bR st) (aN st) .none kV doc pm an AN ct) ⟨[a0,a1,a2],[]⟩=pure (ps.zip [a0,a1,a2]))(hp:ps.length=3) :
 ∀(kV doc pm:a9) (an:C4) (AN ct:a9) (us:B8),us.length=ps.length->kG (fb x x (cM st) (bR st) (aN st) .none kV doc pm an AN ct) ⟨us,[]⟩=pure (ps.zip us):=λkV doc pm an AN ct us hl=>
 abA (P:=λus=>kG (fb x x (cM st) (bR st) (aN st) .none kV doc pm an AN ct) ⟨us,[]⟩=pure (ps.zip us)) (h kV doc pm an AN ct) us (hl.trans hp)
theorem ac4{st:Stmt}(h:∀(kV doc pm:a9) (an:C4) (AN ct:a9) (a0 a1 a2 a3:a9),kG (fb x x (cM st) (bR st) (aN st) .none kV doc pm an AN ct) ⟨[a0,a1,a2,a3],[]⟩=pure (ps.zip [a0,a1,a2,a3]))(hp:ps.length=4) :
 ∀(kV doc pm:a9) (an:C4) (AN ct:a9) (us:B8),us.length=ps.length->kG (fb x x (cM st) (bR st) (aN st) .none kV doc pm an AN ct) ⟨us,[]⟩=pure (ps.zip us):=λkV doc pm an AN ct us hl=>
 afu (P:=λus=>kG (fb x x (cM st) (bR st) (aN st) .none kV doc pm an AN ct) ⟨us,[]⟩=pure (ps.zip us)) (h kV doc pm an AN ct) us (hl.trans hp)
section
variable   {mk:ME}{st:Expr}{p2:Pos}{te ts:TE}
theorem aau(he:PE X a te)(hst:PE X st ts):PE X (.Subscript a (.Slice none none (some st) p2) pos) (λσ H Q=>te σ H λv H1=>ts σ H1 λk H2=>k= .int (-1)/\∃l vs,v= .ref l/\SqL X.K H2 l vs/\∀n,H2 n=none->Q (.ref n) (AU H2 n (.lst vs.reverse))):=by
 intro AK s σ H Q I h;refine Subscript_ (thn (he AK s σ H _ I h) λv s1 ⟨x,H1,I1,r1,q1⟩=>wpAny_Slice ?_);rw[evalPart_none];refine bo (bo ?_);rw[evalPart_some];refine thn (hst AK s1 σ H1 _ I1 q1) λvk s3 az=>?_;obtain ⟨k,H3,I3,rk,q3⟩:=az;obtain ⟨rfl,l,vs,rfl,h1,q3⟩:=q3;obtain ⟨tk,rfl⟩:=rk;cases r1;have I4:Zq.AQ X AK σ H3 { s3 with heap:=s3.heap.push { cls:=.type "slice",data:=.fields #[.none,.none,.int (-1) tk] } }:=I3.kept λb ob q=>aE _ q;obtain ⟨AM,r,ht,hz⟩:=I4.list h1;have hlen:=r.length;refine tail_any ht.isList.typeIs xa.lookup ?_ rfl;refine wpAny_getItem_list_slice ht.isList (Heap.IsSliceOf.new ..) .none .none (xo.int _ _) (by decide) ?_ (by rw[cK] <;> lia);rw[PySem.W.krv_pick];refine ⟨.ref _,_,I4.laid (λb ob q=>aE _ q) (ay _) ?_,rfl,q3 _ (I4.AY.fresh (ay _))⟩;exact ⟨by rw[mf];exact hz,_,0,r.reverse,c6 _ rfl⟩
theorem aae(ha:QE X a (tP X.K O m))(hs:QE X st (tP X.K O mk))(hk:∀Γ,mk Γ = .ok (.int (-1))):QE X (.Subscript a (.Slice none none (some st) p2) pos) (tF X.K O (eUn Qj m)):=
 QE.imp (aau ha.h hs.h) λσ H Q az=>by
  obtain ⟨A,B,Γ,d,r,em,k⟩:=az;obtain ⟨d1,e1,em⟩:=AO.au em
  cases d1 with
  | list ds=>
   cases em;refine ⟨A,B,Γ,_,r,e1,λv A1 H1 g1 p1=>⟨A1,B,Γ,_,r.grow g1,hk Γ,λv2 A2 H2 g2 p2=>⟨p2.int,?_⟩⟩⟩;obtain ⟨l,vs,rfl,h1,h2⟩:=(p1.mono g2.aa g2.hh).list g2.ah;have g:=g1.trans g2;exact ⟨l,vs,rfl,h1,λn hn=>k _ A2 _ (g.trans (aZ.lay g.ah hn)) ⟨n,_,rfl,g.hh.free hn,aU,g.ah.free hn,.inl ⟨_,_,rfl,rfl,h2.reverse⟩⟩⟩
  | _=>cases em
end
def Fnd(K:aw)(x:Str)(st:Stmt):Prop:=∃(f:Addr) (oc:a9) (od an:C4) (sl:Array B7) (kV doc pm AN ct:a9),i8 K ff x=some (some (.ref f)) /\
 K.lookup f=some ⟨oc,od,.func (fb x x (cM st) (bR st) (aN st) .none kV doc pm an AN ct),sl⟩/\mE K AN x=true/\lx K (.ref f)=true
theorem Fnd.mk{st:Stmt}{oc:a9}{od an:C4}{sl:Array B7}{kV doc pm AN ct:a9}(a:i8 K ff x=some (some (.ref p)))
 (l:K.lookup p=some ⟨oc,od,.func (fb x x (cM st) (bR st) (aN st) .none kV doc pm an AN ct),sl⟩) (c:mE K AN x=true) (k:lx K (.ref p)=true):Fnd K x st:=⟨_,_,_,_,_,_,_,_,_,_,a,l,c,k⟩
theorem Fnd.at{st:Stmt}(F:Fnd K x st)(X:K.In h)(G:h.Ns ff mg)
 (b:∀(kV doc pm:a9) (an:C4) (AN ct:a9) (us:B8),us.length=ps.length->kG (fb x x (cM st) (bR st) (aN st) .none kV doc pm an AN ct) ⟨us,[]⟩=pure (ps.zip us):=by first | exact ab2 (λ_ _ _ _ _ _ _=>rfl) rfl | exact VF (λ_ _ _ _ _ _ _ _=>rfl) rfl | exact adt (λ_ _ _ _ _ _ _ _ _=>rfl) rfl | exact ac4 (λ_ _ _ _ _ _ _ _ _ _=>rfl) rfl):At K mg x st ps:=by
 obtain ⟨f,oc,od,an,sl,kV,doc,pm,AN,ct,a,l,c,k⟩:=F;exact At.mk' (iX X G a) l c k b
theorem sck{P:B6}{sc:vF}(a:sc.kind= .function:=by rfl)(b:sc.isCoroutine=false:=by rfl)(c:sc.isGenerator=false:=by rfl)(d:N.Nodup:=by decide +kernel)(e:N.take P.length=P:=by rfl)
 (f:∀x∈P,sc.names.lookup x=some .local\/sc.names.lookup x=some .cell:=by decide +kernel) (g:∀y∈sc.names,y.2 ≠ .free:=by decide +kernel):cX N P sc:=⟨a,b,c,d,e,f,g⟩
section
variable      {s1 s2 mb:MS}{iter:Expr}  {st:Stmt}{rest body:C5}{p:Pos}{it:MI}{g:MG}{gs:List MG}{mc:ME}{is js:B5}{k n:Nat}   {fs:B9}{f:B4->AO ab}
theorem bj(h1:QS X st (tS K rm Ol O O s1))(h2:QSs X rest (tS K rm Ol O O2 s2)):QSs X (st::rest) (tS K rm Ol O O2 (aJ s1 s2)):=bI h1 h2
theorem pL(h1:QG X e (tG X.K O O is g))(h2:QGs X es (tGs X.K O O2 js gs))(hs:(nK (e::es) X.env).map (·.2)=assign e X.env::(nK es X.env).map (·.2):=by rfl):QGs X (e::es) (tGs X.K O O2 (is++js) (g::gs)):=jH h1 h2 hs
theorem d7(cl:B5)(hi:QI X tg iter (tI X.K O it))(hg:QG X tg (tG X.K O O is g))(hb:QSs X body (tS X.K rm O O O mb))(hp:vE (eL X.prog X.w) X.A X.env X.xe:=by exact fy)(hc:X.calm=true:=by rfl)(hE:pN O O cl=true:=by decide)
 (hs:∀x,ja iter X.env x=pure x:=by intro _;rfl):QS X (.For tg iter body [] pos) (tS X.K rm Ol O O (cz it g cl mb)):=iJ hp hc cl hi hg hb hE hs
theorem Yv(fuel:Nat)(cl:B5)(hc:QT X c (tT X.K O mc))(hb:QSs X body (tS X.K rm O O O mb))(hp:vE (eL X.prog X.w) X.A X.env X.xe:=by exact fy)(hE:pN O O cl=true:=by decide):QS X (.While c body [] pos) (tS X.K rm Ol O O (oF fuel mc cl mb)):=XJ hp fuel cl hc hb hE
theorem bB(i:Nat)(hN:X.N.Nodup)(he:QE X e (tE K O m))(hi:X.N[i]?=some x:=by rfl)(hx:Loc X.env.scope x:=by first | exact .inl rfl | exact .inr rfl)(hl:i<O.length:=by exact of_decide_eq_true rfl)(hs:h9 e (some (.Name x pos')) pos.line X.env=pure false:=by rfl)
 (hf:X.fn x=true\/X.env.scope.names.lookup x=some .local:=by walk_at "hf") (hO:O.set i .AW=O2:=by rfl):QS X (.Assign [.Name x pos'] e pos) (tS K rm Ol O O2 (aW i m)):=aci i hN hi hx he hl hs hf hO
theorem dY(i:Nat)(hN:X.N.Nodup)(he:QE X e (tF K O m))(hi:X.N[i]?=some x:=by rfl)(hx:Loc X.env.scope x:=by first | exact .inl rfl | exact .inr rfl)(hl:i<O.length:=by exact of_decide_eq_true rfl)(hs:h9 e (some (.Name x pos')) pos.line X.env=pure false:=by rfl)
 (hf:X.fn x=true\/X.env.scope.names.lookup x=some .local:=by walk_at "hf") (hO:O.set i .own=O2:=by rfl):QS X (.Assign [.Name x pos'] e pos) (tS K rm Ol O O2 (aW i m)):=Zc i hN hi hx he hl hs hf hO
theorem eU(ha:QE X a (tP X.K O m1))(hb:QE X b (tP X.K O m2))(hs:lD b:=by exact λ_ _=>rfl):QE X (.Subscript a b pos) (tE X.K O (ao AX m1 m2)):=X5 ha hb hs
theorem sI{i:Int}:QE X (.Constant (.int i) j pos) (tP K O (eC (.int i))):=sp fP
theorem bz{i:Int}(hr:QA X es (tAi K O ms)):QA X (.Constant (.int i) j pos::es) (tAi K O (eC (.int i)::ms)):=aD fP hr
theorem aV(i:Nat)(hr:QA X es (tAr X.K O fs ms))(nm:Nm X i x:=by walk_at "nm")(hx:isX (fl O i)=false:=by rfl):QA X (.Name x p::es) (tAr X.K O (.AV::fs) (aj i::ms)):=bK (aq i nm hx) hr
theorem sx(i:Nat){k:Int}(nm:Nm X i x:=by walk_at "nm")(hx:isX (fl O i)=false:=by rfl)(hs:lD (.Constant (.int k) j pos'):=by exact λ_ _=>rfl) :
 QE X (.Subscript (.Name x p) (.Constant (.int k) j pos') pos) (tE X.K O (ao AX (aj i) (eC (.int k)))):=X5 (aq i nm hx) (sp fP) hs
theorem cB(i:Nat)(hN:X.N.Nodup)(hi:X.N[i]?=some x:=by rfl)(hx:Loc X.env.scope x:=by first | exact .inl rfl | exact .inr rfl)(hl:i<O.length:=by exact of_decide_eq_true rfl)(hf:X.fn x=true\/X.env.scope.names.lookup x=some .local:=by walk_at "hf")(hO:O.set i .AW=O2:=by rfl) :
 QG X (.Name x p) (tG X.K O O2 [i] (gN i)):=cC i hN hi hx hl hf hO
theorem cU{f:C8}(ho:OpR X (gu op) (rD K f))(ha:QE X a (tP K O m1))(hb:QE X b (tP K O m2))(hm:oq op b=false:=by exact xZ _):QT X (.Compare a [op] [b] pos) (tT K O (ao f m1 m2)):=n8 ho ha hb hm
theorem bV(F:Def X.prog X.w X.K X.mg X.base k x ps (spF X.K fs .f f))(hr:dF n X.A)(ha:QA X (e::es) (tAr X.K O fs ms))(hk:k<=n:=by decide)(hg:Gl X x:=by rfl)(hdb:nD x:=by decide)
 (he:Bn e=true:=by rfl) (hpl:iD es=true:=by rfl):QE X (.Call (.Name x p) (e::es) [] pos) (tE X.K O (aO f ms)):=jU F (hr.mono hk) hg ha hdb he hpl
theorem oX(F:Def X.prog X.w X.K X.mg X.base k x ps (spF X.K fs .t f))(hr:dF n X.A)(ha:QA X (e::es) (tAr X.K O fs ms))(hk:k<=n:=by decide)(hg:Gl X x:=by rfl)(hdb:nD x:=by decide)
 (he:Bn e=true:=by rfl) (hpl:iD es=true:=by rfl):QE X (.Call (.Name x p) (e::es) [] pos) (tF X.K O (aO f ms)):=FT F (hr.mono hk) hg ha hdb he hpl
end
section
variable     {base:Heap}
theorem bU{k:Nat}{m:MS}(st:Stmt)(N:B6)(O:B9)(F:At K mg x st ps)
 (hbody:∀{f:Addr}{AN:a9}{A:ke}{BA:C6}{s:dy}{H:Hp}{E:XK},N.Nodup->dF k (A.deeper (oD x (aN st) s.heap.objs.size f AN)) ->
  QSs (mL CX0 P w K mg base N x (aN st) f AN A BA s H E).nox (bR st) (tS K rm [] O [] m)) (S:cX N ps (aN st):=by exact sck) (hf:Ol.length=ps.length:=by rfl) (hn:ps.length<=N.length:=by decide)
 (hO:∀i,i<Ol.length->(fl O i= .AW/\fl Ol i= .AW)\/fl O i= .AV:=by decide):Def P w K mg base (k+1) x ps (spF K Ol rm (fnR N.length m)):=adI F S hf hn hO λ_ _ _ _ _ _ _ hr=>hbody S.nd hr
end
end Zq
namespace PySem
open Sem (wp)
end PySem
namespace Zq
open PySem PySem.Spec PyProof.Rows
noncomputable def uN(c:ME)(cl:B5)(b:MS)(zb:MZ):Nat->MZ
 | 0,_=>.bad
 | n+1,Γ=>(c Γ).bind λx=>match x with
  | .bool true=>(match b Γ with
   | .ok (.nx Γ2)=>uN c cl b zb n (clr cl Γ2)
   | _=>zb Γ)
  | _=>.bad
noncomputable def ab9(fuel:Nat)(c:ME)(cl:B5)(b:MS)(zb:MZ):MZ:=λΓ=>uN c cl b zb fuel Γ
variable {P:ia}{w:lI}{K:aw}{mg:Str->B7}{a:Addr}
theorem TF{mb:Str->B7}{CX:CXT}{k:Nat}{fa:Addr}{fd:nS}{x:Str}{sp:Sp}{s₁:dy}{vs:B8}{ns:B3}
 (KX:K.In s₁.heap) (hns:s₁.heap.Ns ff mg) (hb:s₁.heap.Ns qk mb) (hbb:∀x:Str,x ≠ "__name__" -> mb x=fk x) (hlim:s₁.heap.NoLimit) (hg:s₁.gens=#[]) (hbm:∃bm ob,mg "__builtins__"= some (.ref bm)/\bm≠qk/\s₁.heap.get? bm=some ob/\ob.cls= .type "module" /\ ob.dict=some qk/\ob.data= .plain)
 (hT:∀T,TabAt K mg T->s₁.heap.get? T=some { cls:=.none,data:=.fields #[] }/\K.lookup T=none)
 (ha:s₁.heap.get? a=some { cls:=.type "list",data:=.seq vs.toArray }) (hi:sR vs ns) (hl:ns.length<=bE) (hr:dF k AB)
 (F:∀base:Heap,K.In base->base.Ns ff mg->sJ P w K mg base CX k fa fd [x] sp) (hbind:∀(s:dy) (u:a9),BindsTo s fd ⟨[u],[]⟩ [(x,u)])
 (hsp:∀H:Hp,SqL K H a (ns.map V.int)->sp [.ref a] H (λv _=>v= .bl true) λ_ _ _=>False)
 (hCX:∀H e s',CX [] H s₁ (λ_ _ _=>False) e s'->False) :
 yB (eL P w) AB (.call (.ref fa) ⟨[.ref a],[]⟩) (λr s'=>r= .ok (.ret (.bool true))/\OldK s₁.heap s'.heap/\s'.os=s₁.os/\wq s'.gens) s₁:=by
 have rv:=GC hi;have lenV:=hi.length;have aT:∀T,TabAt K mg T->T≠a:=λT h z=>by
  have:=(hT T h).1;rw[z,ha] at this;cases this
 have core:∀H:Hp,(∀b,H b=none\/(∃o xs,H b=some (.frz o (.lst xs)))\/(H b=some (.tbl jl)/\TabAt K mg b))->(∀T,TabAt K mg T->H T=some (.tbl jl))->SqL K H a (ns.map V.int)->HOk P w H s₁.heap->(∀b,H b≠none->b=a\/TabAt K mg b)->(H a≠none->K.lookup a=none) ->
  yB (eL P w) AB (.call (.ref fa) ⟨[.ref a],[]⟩) (λr s'=>r= .ok (.ret (.bool true))/\OldK s₁.heap s'.heap/\s'.os=s₁.os/\wq s'.gens) s₁:=by
  intro H hO hTT hS AY hA hK;have Fi:∀{b:Addr}{o:Obj},s₁.heap.get? b=some o->H b=none->(xH s₁.heap H).get? b=some o:=λe n=>Xp e n;have noA:∀{b:Addr}{o:Obj}{es:Array ra}{ep:Nat},s₁.heap.get? b=some o->o.data= .dict es ep->H b=none:=λ{b o es ep} e d=>by
   cases q:H b with
   | none=>rfl
   | some u=>
    rcases hA b (by rw[q];simp) with e' | e'
    . subst e';rw[ha] at e;cases e;have d':=d;cases d'
    . rw[(hT b e').1] at e;cases e;have d':=d;cases d'
  have nsK:∀{b:Addr}{m:Str->B7},s₁.heap.Ns b m->(xH s₁.heap H).Ns b m:=λ{b m} ⟨o,es,ep,e,d,r⟩=>⟨o,es,ep,Fi e (noA e d),d,r⟩;have hKb:=λb o e=>Fi (KX b o e) (by
   cases q:H b with
   | none=>rfl
   | some u=>
    rcases hA b (by rw[q];simp) with e' | e'
    . subst e';rw[hK (by rw[q];simp)] at e;cases e
    . rw[(hT b e').2] at e;cases e)
  have hM:Mod K mg (xH s₁.heap H):=⟨hKb,nsK hns,⟨mb,nsK hb,hbb⟩,let ⟨mc,h1,h2⟩:=hlim;⟨mc,nsK h1,h2⟩,by
   obtain ⟨bm,ob,b1,b2,b3,b4,b5⟩:=hbm;refine ⟨bm,ob,b1,b2,Fi b3 ?_,b4,b5⟩
   cases q:H bm with
   | none=>rfl
   | some u=>
    rcases hA bm (by rw[q];simp) with e' | e'
    . rw[e',ha] at b3;cases b3;have b4:=b4;injection b4 with z;exact absurd z (by decide)
    . rw[(hT bm e').1] at b3;cases b3;cases b4⟩
  have e0:QR P w K mg (xH s₁.heap H) AB [] s₁ H:=⟨rfl,hM,λb o e=>Zo e,Nat.le_of_eq (SN _ _),trivial,λb hb=>absurd (show b∈([]:C2) from hb) (by simp),AY,.of_eq hg,hTT⟩;refine codeAny_mono ((F _ hKb (nsK hns)).run AB [] s₁ H ⟨[.ref a],[]⟩ [.ref a] [.ref a] _ _ hr e0 (hbind s₁ (.ref a)) (.cons rfl .nil) (hsp H hS)) λr s' h=>?_
  cases r with
  | error e=>exact (hCX H e s' h).elim
  | ok fl=>
   cases fl with
   | next=>exact l7 h
   | brk=>exact l7 h
   | cont=>exact l7 h
   | ret u=>
    obtain ⟨v,H',os,bare,un,hok',r',q⟩:=h;have q':=q;subst q';obtain rfl:u=a9.bool true:=r';have tabs:∀b,H b=some (.tbl jl)->∃ps,s'.heap.get? b=some { cls:=.none,data:=.fields ps }:=λb z=>by
     obtain ⟨ps,e,_⟩:=hok' b _ (un.nj b _ z);exact ⟨ps,e⟩
    refine ⟨rfl,⟨λb o e=>?_,λb o e=>un.there b o e (by simp)⟩,os,bare⟩
    cases q:H b with
    | none=>exact .inl (un.keep b o e q (by intro z;exact absurd (show b∈([]:C2) from z) (by simp)) (by simp))
    | some u=>
     rcases hO b with z | ⟨ob,xs,z⟩ | ⟨z,zt⟩
     . rw[q] at z;cases z
     . have z2:=un.qG b ob _ z;obtain ⟨e1,_⟩:=AY b _ z;obtain ⟨e2,_⟩:=hok' b _ z2;rw[e] at e1;cases e1;exact .inl e2
     . obtain ⟨ps,e2⟩:=tabs b z;have e3:=(hT b zt).1;rw[e] at e3;cases e3;obtain ⟨f,o,fd',c,t1,t2,t3,t4,t5⟩:=zt;obtain ⟨oc,vc,_,_,_,_,_,_,_,c1,c2,c3,c4,_⟩:=PySem.W.codeHd_of_K KX t5;exact .inr (.inl ⟨⟨c,oc,vc,c1,c2,c3,c4⟩,rfl,#[],ps,rfl,by rw[Array.empty_append];exact e2⟩)
 have acs:∀T,TabAt K mg T->∀H:Hp,gb P w H s₁.heap T (.tbl jl):=λT h H=>⟨#[],(hT T h).1,trivial,λpos cv z=>nomatch z⟩;have dec:∀T,Decidable (TabAt K mg T):=λT=>Classical.propDecidable _
 cases hk:K.lookup a with
 | some o=>
  have e:=KX a o hk;rw[ha] at e;cases e;refine core (λb=>if TabAt K mg b then some (.tbl jl) else none) (λb=>?_) (λT h=>if_pos h) (.inr ⟨_,vs.toArray,_,hk,rfl,rfl,rfl,by rw[cK,lenV];exact hl,by simpa using rv⟩) (λb u z=>?_) (λb z=>?_) λz=>?_
  . by_cases h:TabAt K mg b
    . exact .inr (.inr ⟨if_pos h,h⟩)
    . exact .inl (if_neg h)
  . by_cases h:TabAt K mg b
    . have z':=(if_pos h).symm.trans z;cases z';exact acs b h _
    . have z':=(if_neg h).symm.trans z;cases z'
  . by_cases h:TabAt K mg b
    . exact .inr h
    . exact absurd (if_neg h) z
  . exact absurd (if_neg λh=>aT a h rfl) z
 | none=>
  refine core (λb=>if b=a then some (.frz { cls:=.type "list",data:=.seq vs.toArray } (.lst (ns.map V.int))) else if TabAt K mg b then some (.tbl jl) else none) (λb=>?_) (λT h=>(if_neg (aT T h)).trans (if_pos h)) (.inl (.inr ⟨{ cls:=.type "list",data:=.seq vs.toArray },if_pos rfl⟩)) (λb u z=>?_) (λb z=>?_) λ_=>hk
  . by_cases hb:b=a
    . exact .inr (.inl ⟨_,_,if_pos hb⟩)
    . by_cases h:TabAt K mg b
      . exact .inr (.inr ⟨(if_neg hb).trans (if_pos h),h⟩)
      . exact .inl ((if_neg hb).trans (if_neg h))
  . by_cases hb:b=a
    . have z':=(if_pos hb).symm.trans z;cases z';subst hb;exact ⟨ha,by rw[af];exact hl,vs,_,rv,ha⟩
    . by_cases h:TabAt K mg b
      . have z':=((if_neg hb).trans (if_pos h)).symm.trans z;cases z';exact acs b h _
      . have z':=((if_neg hb).trans (if_neg h)).symm.trans z;cases z'
  . by_cases hb:b=a
    . exact .inl hb
    . by_cases h:TabAt K mg b
      . exact .inr h
      . exact absurd ((if_neg hb).trans (if_neg h)) z
variable {c:Addr}
theorem Py{P Q:Addr}(h:i7 K c P=true)(g:i7 K c Q=true):P=Q:=by
 unfold i7 at h g;split at h
 . rename_i vs _ hk;rw[hk] at g;simp only[eh] at h g;have h1:=h.1.1.1.1.1;have g1:=g.1.1.1.1.1;split at h1
   . rename_i P' e;rw[e] at g1;exact (beq_iff_eq.mp h1).symm.trans (beq_iff_eq.mp g1)
   . cases h1
 . cases h
noncomputable def qm(K:aw)(f P:Addr):Bool:=(match K.lookup f with
 | some ⟨_,_,.func fd,_⟩=>(match fd.code with
  | .ref c=>i7 K c P
  | _=>false)
 | _=>false)&&(K.lookup P).isNone
theorem ZP{P:Addr}(hm:mg "ways"= some (.ref a))(h:qm K a P=true):∀T,TabAt K mg T->T=P/\K.lookup T=none:=by
 rintro T ⟨f',o,fd,c,t1,t2,t3,t4,t5⟩;rw[hm] at t1;cases t1;unfold qm at h;rw[eh] at h;obtain ⟨h1,h2⟩:=h;rw[t2] at h1;obtain ⟨oc,od,da,sl⟩:=o;have t3:=t3;subst t3;have h1:(match fd.code with
  | .ref c=>i7 K c P
  | _=>false)=true:=h1
 rw[t4] at h1;have e:=Py t5 h1;subst e;exact ⟨rfl,by simpa using h2⟩
variable {T:Addr}{x:Str}
theorem Vh{l:yv}{n k:Nat}{q:ia}{loose:B6}{XP:(Str->B7)->Heap->Prop}{d:DefRec}{K:Params->aw}{as:C2}{e:∀P,as=(K P).map (·.1)}{CX:lI->CXT}{sp:lI->Sp}
 (hn:l.most=some n) (hn2:n<=bE) (hdf:d.params.defaults=[]) (hr:dF k AB)
 (F:∀(w:lI) (mg:Str->B7) (fa:Addr) (h:Heap),(K w.params).In h->h.Ns ff mg->mg d.name=some (.ref fa) ->
  ∃fd:nS,(∀(s:dy) (u:a9),BindsTo s fd ⟨[u],[]⟩ [(x,u)])/\(∃f,mg "ways"= some (.ref f)/\qm (K w.params) f T=true) /\
   ∀base:Heap,(K w.params).In base->base.Ns ff mg->sJ l.prog w (K w.params) mg base (CX w) k fa fd [x] (sp w))
 (hsp:∀(w:lI) (H:Hp) (a:Addr) (ns:B3),ns.length<=n->SqL (K w.params) H a (ns.map V.int)->sp w [.ref a] H (λv _=>v= .bl true) λ_ _ _=>False)
 (hCX:∀(w:lI) (H:Hp) (s:dy) (e:a9) (s':dy),CX w [] H s (λ_ _ _=>False) e s'->False) :
 PySem.W.WalkO q loose XP (PySem.W.kmHook K as e [T]).says l.row.toRowW d [] (λf vs=>PySem.call f vs):=by
 refine Att.Mt hn hdf λw s₀ s₁ mg mb fa o pm cd doc a vs ns G Y ho hd hcd hmg hobj hints hlen hg=>?_;have KX:=PySem.W.km_in_of Y;obtain ⟨fd,hb,⟨f,hf,ht⟩,hF⟩:=F w mg fa _ KX G.T.g hmg;refine TF KX G.T.g G.T.b G.T.builtins G.T.nolimit hg G.T.bmain (λP h=>?_) hobj hints (dc hlen hn2) hr hF hb (λH hS=>hsp w H a ns hlen hS) λH e s'=>hCX w H s₁ e s';obtain ⟨e1,e2⟩:=ZP hf ht P h;subst e1;exact ⟨PySem.W.km_tabs_of Y P (by simp),e2⟩
def Kept(h h':Heap):Prop:=∀b o,h.get? b=some o->h'.get? b=some o
theorem Kept.trans{a b c:Heap}(x:Kept a b)(y:Kept b c):Kept a c:=λp o e=>y p o (x p o e)
variable {h:Heap}
theorem Kept.push(o:Obj):Kept h (h.push o):=λ_ _ e=>aE _ e
def Tells(s:dy)(h:Heap)(n:Int)(x:a9)(s':dy):Prop:=∃h2 tk2 t,x= .int n t/\s'={ s with heap:=h2,toks:=tk2 }/\Kept h h2
variable {E Q:B2}{s:dy}{ep:Nat}
section
variable {prog:ia}  {A:ke}   {hA:Heap}{K:Type} [DecidableEq K] {knd:KeyKind prog w K}{kvs:List (K×a9)}  {d q I S:Addr}{R:Result->dy->Prop}
def CN(knd:KeyKind prog w K)(kvs:List (K×a9))(i:Nat)(v:a9):Prop:=∃k x,kvs[i]?=some (k,x)/\knd.is k v=true
def Qw(kf:Nat->Int)(i j:Nat):Prop:=∀l,l<j->kf i<=kf l/\(l<i->kf i<kf l)
theorem XH(kf:Nat->Int)(hh:A.handled=none)(hm:hA.DictAt knd d kvs ep)(hI:hA.get? I=none)(hS:hA.get? S=none)(hIS:S≠I)
 (turn:∀i key,CN knd kvs i key->∀h tk,Kept hA h->eI (eL prog w) A.in1 (call (.ref q) [key]) (Tells s h (kf i)) (λ_ _=>False) { s with heap:=h,toks:=tk })
 (hR:∀i v h' tk',i<kvs.length->CN knd kvs i v->Qw kf i kvs.length->Kept hA h'->R (.ok (.ret v)) { s with heap:=h',toks:=tk' }) :
 ∀(r j i:Nat) (h:Heap) (tk:Nat) (vb:a9) (tb:Tok) (c:Nat),kvs.length - j=r->j<=kvs.length->Kept hA h->h.get? S=some (xB "list" #[vb,.int (kf i) tb] c)->h.IsKeyIter I d j kvs.length ep ->
  CN knd kvs i vb->i<j->Qw kf i j->yB (eL prog w) A (.builtin "min.loop" ⟨[.ref I,.ref q,.ref S],[]⟩) R { s with heap:=h,toks:=tk }:=by
 have nm:(toString "min" ++ toString ".loop" : String) = "min.loop" := by decide
 have hd:hA.get? d≠none:=by
  obtain ⟨o,es,ho,_⟩:=hm;rw[ho];simp
 have dI:d≠I:=λz=>hd (z ▸ hI);have W:=Walks.dictKeys (knd:=knd) (A:=A.in1) hh I d dI kvs ep;have off:∀{h h':Heap}{b:Addr},Kept hA h->hA.get? b=none->(∀a o,a≠b->h.get? a=some o->h'.get? a=some o)->Kept hA h':=λk n x a o e=>x a o (λz=>by rw[z,n] at e;cases e) (k a o e);have dAt:∀{h:Heap},Kept hA h->h.DictAt knd d kvs ep:=λk=>hm.at' λo e=>k d o e;have upS:∀{h:Heap} (f:Array a9->Array a9) (a:Addr) (o:Obj),a≠S->h.get? a=some o->(h.update S (y7 f)).get? a=some o:=λf a o ne e=>((pz ..).2 a ne).trans e;intro r
 induction r with
 | zero=>
  intro j i h tk vb tb c hr hj kp hs it hv hij hb;have hjn:j=kvs.length:=by lia
  subst hjn;refine zI se ?_;rw[tz i9 _];refine ag (fT hs rfl ?_);refine ag (pb (W.done _ _ _ ⟨it,dAt kp⟩ λh' tk' k'=>?_));have k1:∀a o,a≠I->h.get? a=some o->h'.get? a=some o:=λa o ne e=>k' a o (by simpa using ne) e;show eI _ _ (updateSeq S (λ_=>#[]) >>= _) _ _ _;refine ag (vi (k1 S _ hIS hs) rfl (ag (rf (bo ?_))));exact hR i vb _ _ hij hv hb (off (off kp hI k1) hS (upS _))
 | succ r ih=>
  intro j i h tk vb tb c hr hj kp hs it hv hij hb;refine zI se ?_;rw[tz i9 _];show eI _ _ (seqItems? (.ref S) >>= _) _ _ _;refine ag (fT hs rfl ?_);show eI _ _ (tryCatch (pyNext (.ref I)) _ >>= _) _ _ _;refine ag (pb (W.item j _ _ _ (by lia) ⟨it,dAt kp⟩ λv h' tk' hP st k'=>?_));have k1:∀a o,a≠I->h.get? a=some o->h'.get? a=some o:=λa o ne e=>k' a o (by simpa using ne) e;have kp1:=off kp hI k1;show eI _ _ (tryCatch (holding [v] (call (.ref q) [v])) _ >>= _) _ _ _;refine ag (pb (lh (ib (turn j v hP h' tk' kp1) (λx s2 he=>?_) λ_ _ z=>z.elim)));obtain ⟨h2,tk2,t2,rfl,rfl,k2⟩:=he;have kp2:=kp1.trans k2;have hs2:=k2 S _ (k1 S _ hIS hs);have it2:h2.IsKeyIter I d (j+1) kvs.length ep:=st.1.at λo e=>k2 _ _ e;show eI _ _ (tryCatch (holding [v,.int (kf j) t2] (richCompare .Lt (.int (kf j) t2) (.int (kf i) tb) >>= _)) _ >>= _) _ _ _;refine ag (pb (lh (ag (CmpOf.ints_lt (prog:=prog) (w:=w) (A:=A.in1) (P:=λi v=>∃t,v= .int (kf i) t) kf (λ_ _ y=>y) j i _ _ _ _ _ ⟨t2,rfl⟩ ⟨tb,rfl⟩ ?_))));refine ag (lh (nz (ag (rf (bo ?_)))))
  by_cases lt:kf j<kf i
  . simp only[lt,decide_true,if_true];refine ag (vi hs2 rfl (ag (rf ?_)));rw[nm];refine bo ⟨xD i9 _,ih (j+1) j _ _ v t2 _ (by lia) (by lia) (off kp2 hS (upS _)) (get?_update_seq hs2 λ_=>#[v,.int (kf j) t2]) (it2.at λo e=>upS _ _ _ (nL hIS) e) hP (sP _) λl hl=>?_⟩
    by_cases e:l=j
    . subst e;exact ⟨nI _,λz=>absurd z (hV _)⟩
    . have:=(hb l (by lia)).1;exact ⟨by lia,λ_=>by lia⟩
  . simp only[lt,decide_false,Bool.false_eq_true,if_false];refine ag (rf ?_);rw[nm];refine bo ⟨xD i9 _,ih (j+1) i _ _ vb tb c (by lia) (by lia) kp2 hs2 it2 hv (by lia) λl hl=>?_⟩
    by_cases e:l=j
    . subst e;exact ⟨by lia,λz=>by lia⟩
    . exact hb l (by lia)
theorem XD(a v:a9):argsOk "min" ⟨[a],[(Str.ofString "key",v)]⟩:=by kernel_rfl
theorem Wi(kf:Nat->Int)(hh:A.handled=none)(hsm:(d == gp)=false)(hm:s.heap.DictAt knd d kvs ep)(hn:0<kvs.length)
 (turn:∀i key,CN knd kvs i key->∀h tk,Kept s.heap h->eI (eL prog w) A.in1 (call (.ref q) [key]) (Tells s h (kf i)) (λ_ _=>False) { s with heap:=h,toks:=tk })
 (hQ:∀i v h' tk',i<kvs.length->CN knd kvs i v->Qw kf i kvs.length->Kept s.heap h'->Q v { s with heap:=h',toks:=tk' }) :
 eI (eL prog w) A (call (.builtin "min") [.ref d] [(Str.ofString "key",.ref q)]) Q E s:=by
 have nm:(toString "min" ++ toString ".loop" : String) = "min.loop" := by decide
 refine kmk_tree PySem.F.kind_min PySem.F.plain_min PySem.F.entry_min (XD _ _) (ag (wpAny_of_eq (rfl) (ag (bo (ag (wpAny_pyIter_dict hsm hm ?_))))));refine ag (wpAny_newList ?_ (kz _));rw[nm];generalize hoI:({ cls:=.type "dict_keyiterator",data:=.fields #[.ref d,.int 0 0,.int kvs.length 0,.int ep 0] }:Obj)=oI;have gI:(s.heap.push oI).get? s.heap.objs.size=some oI:=c6 _ (by rw[<- hoI];rfl);have zS:(s.heap.push oI).objs.size=s.heap.objs.size+1:=by rw[iS]
 have kp:Kept s.heap ((s.heap.push oI).push (xB "list" #[] 0)):=(Kept.push _).trans (Kept.push _);have it0:((s.heap.push oI).push (xB "list" #[] 0)).IsKeyIter s.heap.objs.size d 0 kvs.length ep:=⟨oI,Kept.push _ _ _ gI,by rw[<- hoI],by rw[<- hoI];rfl⟩;have gS:((s.heap.push oI).push (xB "list" #[] 0)).get? (s.heap.push oI).objs.size=some (xB "list" #[] 0):=c6 _ rfl;have hI:s.heap.get? s.heap.objs.size=none:=tm (ay _);have hS:s.heap.get? (s.heap.push oI).objs.size=none:=tm (by rw[zS];lia);have hIS:(s.heap.push oI).objs.size≠s.heap.objs.size:=by rw[zS];lia
 generalize (s.heap.push oI).objs.size=S at gS hS hIS;generalize s.heap.objs.size=I at it0 hI hIS;generalize (s.heap.push oI).push (xB "list" #[] 0)=h at kp it0 gS;refine bo ⟨xD i9 _,?_⟩;have hd:s.heap.get? d≠none:=by
  obtain ⟨o,es,ho,_⟩:=hm;rw[ho];simp
 have dI:d≠I:=λz=>hd (z ▸ hI);have W:=Walks.dictKeys (knd:=knd) (A:=A.in1) hh I d dI kvs ep;have off:∀{h h':Heap}{b:Addr},Kept s.heap h->s.heap.get? b=none->(∀a o,a≠b->h.get? a=some o->h'.get? a=some o)->Kept s.heap h':=λk n x a o e=>x a o (λz=>by rw[z,n] at e;cases e) (k a o e);have upS:∀{h:Heap} (f:Array a9->Array a9) (a:Addr) (o:Obj),a≠S->h.get? a=some o->(h.update S (y7 f)).get? a=some o:=λf a o ne e=>((pz ..).2 a ne).trans e;refine zI se ?_;rw[tz i9 _];refine ag (fT gS rfl (ag (pb (W.item 0 _ _ _ hn ⟨it0,hm.at' λo e=>kp d o e⟩ λv h' tk' hP st k'=>?_))));have k1:=λa o ne e=>k' a o (by simpa using ne) e;have kp1:=off kp hI k1;refine ag (pb (lh (ib (turn 0 v hP h' tk' kp1) (λx s2 he=>?_) λ_ _ z=>z.elim)));obtain ⟨h2,tk2,t2,rfl,rfl,k2⟩:=he;have hs2:=k2 S _ (k1 S _ hIS gS);refine ag (vi hs2 rfl ?_);rw[nm];refine bo ⟨xD i9 _,XH kf hh hm hI hS hIS turn hQ _ 1 0 _ _ v t2 _ rfl hn (off (kp1.trans k2) hS (upS _)) (get?_update_seq hs2 λ_=>#[v,.int (kf 0) t2]) ((st.1.at λo e=>k2 _ _ e).at λo e=>upS _ _ _ (nL hIS) e) hP (by decide) λl hl=>?_⟩;have e:l=0:=by lia
 subst e;exact ⟨nI _,λz=>absurd z (hV _)⟩
end
variable {p p1:Pos}{j:Nat}{y:Str}{AM:Array a9}{h':Heap}{params:Arguments}{scope:vF}{clos:B1}
section
open PySem.W
section
variable {prog:ia}  {A:ke}
theorem JM:Vt (.Name x p):=λ_ _=>rfl
theorem Mr{i:Int}:Vt (.Constant (.int i) j p):=λ_ _=>rfl
theorem Xa{env:Env}{p3 p4 p5:Pos}{m:Str->B7}{key:a9}{d:Addr}{f:Key->B7}{k:Key}{n:Int}{t:Tok}
 (hk:env.scope.kind= .function) (hx:env.kindOf x=some .local) (hy:env.kindOf y=some .free) (hc:env.cells.lookup y=some c) (hn:s.heap.Ns env.locals m) (hm:m x=some key) (hcell:s.heap.IsCell c (some (.ref d)))
 (hd:s.heap.MapOf (bY prog w) d f) (hkey:(bY prog w).is k key=true) (hv:f k=some (.ref a)) (ht:zv s.heap a AM) (h0:AM[0]?=some (.int n t)) (hsz:AM.size<=bE)
 (hdx:nD x) (hdy:nD y) (hcy:(y == ("__classdict__" : Str))=false) (h:∀tk,Q (.int n t) { s with toks:=tk }) :
 eI (eL prog w) A (eval (.Subscript (.Subscript (.Name y p1) (.Name x p) p3) (.Constant (.int 0) j p4) p5) env) Q E s:=by
 refine Nz PySem.F.slot_tuple_getitem.lookup Mr (Nz kX.lookup JM ?_);refine yy (wpAny_loadName_free hk hy hc hcell ?_ hcy) hdy;refine yy (wpAny_loadName_local hk hx hn hm ?_) hdx;refine ⟨hd.typeIs,wpAny_getItem_of hkey hd hv (wpAny_Constant_int ?_)⟩;have hl:=vo;refine ⟨ht.typeIs,getItem_tuple ht (by decide) (by decide) ?_ h0 (h _)⟩;have:=(Array.getElem?_eq_some_iff.mp h0).1;unfold seqIndex?;simp[this]
structure X6 (h:Heap) (qual:Str) (params:Arguments) (body:Expr) (scope:vF) (clos:B1) (pm ctv:a9) (q c':Addr):Prop where
 afq:h.get? q=some (AC "<lambda>" qual params body scope clos pm c' ctv)
 code:h.CodeRec (.ref c') qual
theorem JQ{cv:a9}{q:Str}(k:Kept h h')(x:h.CodeRec cv q):h'.CodeRec cv q:=by
 obtain ⟨c,oc,vs,tq,e,ho,hd,hq⟩:=x;exact ⟨c,oc,vs,tq,e,k _ _ ho,hd,hq⟩
theorem QX(k:Kept h h')(x:zv h a AM):zv h' a AM:=by
 obtain ⟨o,e,r⟩:=x;exact ⟨o,k _ _ e,r⟩
theorem VG{tk:Nat}{qual:Str}{pm ctv:a9}{c':Addr}{p3 p4 p5:Pos}{key:a9}{d:Addr}{vs:List (Key×a9)}{k:Key}{n:Int}{t:Tok}
 (L:X6 h' qual params (.Subscript (.Subscript (.Name y p1) (.Name x p) p3) (.Constant (.int 0) j p4) p5) scope clos pm ctv T c') (kp:Kept h' h) (hroom:A.depth<recursionLimit) (hlim:h'.NoLimit)
 (hbind:kG (kla_fn "<lambda>" qual params (.Subscript (.Subscript (.Name y p1) (.Name x p) p3) (.Constant (.int 0) j p4) p5) scope clos pm (.ref c') ctv) ⟨[key],[]⟩=pure [(x,key)])
 (hco:scope.isCoroutine=false) (hgen:scope.isGenerator=false) (hk:scope.kind= .function) (hce:∀z∈scope.names,z.2 ≠ .cell) (hx:scope.names.lookup x=some .local) (hy:scope.names.lookup y=some .free) (hc:clos.lookup y=some c)
 (hcell:h'.IsCell c (some (.ref d))) (hd:h'.DictOf (bY prog w) d vs) (hkey:(bY prog w).is k key=true) (hv:xc vs k=some (.ref a)) (ht:zv h' a AM) (h0:AM[0]?=some (.int n t)) (hsz:AM.size<=bE)
 (hdx:nD x) (hdy:nD y) (hcy:(y == ("__classdict__" : Str))=false) :
 eI (eL prog w) A (call (.ref T) [key]) (Tells s h n) (λ_ _=>False) { s with heap:=h,toks:=tk }:=by
 refine wpAny_call (kla_callFunE hroom (kp _ _ L.afq) rfl hco hgen rfl (JQ kp L.code) ?_);rw[hbind];refine bo (wpAny_newFunctionEnv hce (λz hz=>by rw[aI.mp hz];exact hx) (λh1 hns hsb=>?_) hk);have k1:=λb o e=>hsb.extBut b o (fi (c8 e)) (aE _ e);have kA:=kp.trans k1;refine ⟨hlim.keeps kA,kla_codeExpr ?_⟩;refine Xa (d:=d) hk hx hy hc hns (by simp) ?_ ?_ hkey hv (QX kA ht) h0 hsz hdx hdy hcy λtk'=>⟨_,_,t,rfl,rfl,k1⟩
 . obtain ⟨o,e,r⟩:=hcell;exact ⟨o,kA _ _ e,r⟩
 . obtain ⟨o,es,ep,e,r⟩:=hd;exact Heap.DictOf.mapOf ⟨o,es,ep,kA _ _ e,r⟩
end
end
variable {pos:Pos}{X:Cx}{AK:A7}{σ:St}{H:Hp}{cd:Addr}
section
open PySem.W
theorem Ui{a b c cv:a9}:∀(l:B8),TriplesOk l->xI pos (l++[a,b,c])=some cv->xI pos l=some cv\/cv=c:=by
 intro l
 fun_induction TriplesOk l with
 | case1=>
  intro _ h;right;rw[fe] at h;unfold xI at h;split at h
  . rename_i e;cases e;split at h
    . exact (Option.some.inj h).symm
    . cases h
  . cases h
 | case2 line u col v c2 rest ih=>
  intro ht h;rw[gL,gL,gL] at h;unfold xI at h ⊢;split at h
  . rename_i hc;rw[if_pos hc];exact .inl h
  . rename_i hc;rw[if_neg hc];exact ih ht h
 | case3=>intro ht;exact ht.elim
theorem Wt{P:Addr}{body:Expr}(I:AQ X AK σ H s)(hcode:X.env.code= .ref cd)(hhd:i7 X.K cd P=true)(hT:TabAt X.K X.mg P)
 (hq:X.env.qual ++ "<lambda>"= jl) (hcl:zd scope X.env=pure clos) (hdef:defaultsOf params X.env=([],[]))
 (h:∀q c' ctv H' s',AQ X AK σ H' s'->(H'=H\/(H c'=none/\H'=AU H c' (.own P)))->X6 s'.heap jl params body scope clos ((X.mg "__name__").getD .none) ctv q c'->(∀b o,b≠P->s.heap.get? b=some o->s'.heap.get? b=some o)->Q (.ref q) s') :
 eI (eL X.prog X.w) X.A (eval (.Lambda params body scope pos) X.env) Q E s:=by
 refine kla_eval hdef ?_;rw[hq];have hH:=I.base.nj _ _ (I.ok.tabs P hT);obtain ⟨ps,hP,ht,hcs⟩:=I.AY P _ hH;have C:=codeHd_of_K I.kIn hhd;have hg:=I.mod.glob.keeps I.bk;obtain ⟨bm,ob,b1,b2,b3,b4,b5,b6⟩:=I.mod.bmain;have b3:=I.bk _ _ b3;have bP:bm≠P:=λz=>by rw[z,hP] at b3;cases b3;cases b4
 have gP:ff≠P:=λz=>by
  obtain ⟨o,es,ep,e,hd,_⟩:=hg;rw[z,hP] at e;cases e;cases hd
 have bG:bm≠ff:=λz=>by
  obtain ⟨o,es,ep,e,hd,_⟩:=hg;rw[<- z,b3] at e;cases e;rw[b6] at hd;cases hd
 have hb:s.heap.BuiltinsAt X.mg P:=⟨bm,ob,b1,b2,bG,bP,b3,b4,b5,b6⟩
 cases hf:xI pos ps.toList with
 | some cv=>
  obtain ⟨c',oc,vs,t,rfl,hown,ho,hd,hq1⟩:=hcs pos cv hf;refine kla_makeFunctionHit hcl I.ok.glob hg hcode C hP ht hf hb λctv h' tk hk hsz=>?_;have keep:∀b o,s.heap.get? b=some o->(h'.push (AC "<lambda>" jl params body scope clos ((X.mg "__name__").getD .none) c' ctv)).get? b=some o:=λb o e=>aE _ (hk b o e);exact h _ c' ctv H _ (I.un (Un.kept keep) (I.AY.kept keep)) (.inl rfl) ⟨c6 _ rfl,⟨c',oc,vs,t,rfl,keep _ _ ho,hd,hq1⟩⟩ λb o _ e=>keep b o e
 | none=>
  refine kla_makeFunction hcl I.ok.glob hg hcode C hP ht hf gP hb λc' ctv h' tk hx hge hlt hrec htb=>?_;have hc0:=I.AY.fresh hge;have nP:∀{b:Addr},H b=none->b≠P:=λn z=>by rw[z,hH] at n;cases n
  have nC:∀{b:Addr}{o:HO},H b=some o->b≠c':=λe z=>by rw[z,hc0] at e;cases e
  have old:∀b o,b≠P->s.heap.get? b=some o->(h'.push (AC "<lambda>" jl params body scope clos ((X.mg "__name__").getD .none) c' ctv)).get? b=some o:=λb o ne e=>aE _ (hx b o ne e);have tb2:(h'.push (AC "<lambda>" jl params body scope clos ((X.mg "__name__").getD .none) c' ctv)).get? P=some (tabObj (ps++#[ua pos.line,ua pos.col,.ref c'])):=aE _ htb;obtain ⟨c2,oc,vs,t,ec,ho,hd,hq1⟩:=hrec;cases ec;have ho2:(h'.push (AC "<lambda>" jl params body scope clos ((X.mg "__name__").getD .none) c' ctv)).get? c'=some oc:=aE _ ho;have un:Un X.fs [] H (AU H c' (.own P)) s.heap (h'.push (AC "<lambda>" jl params body scope clos ((X.mg "__name__").getD .none) c' ctv)):=by
   refine ⟨λb o e n _ _=>old b o (nP n) e,λb o e n _ _=>⟨o.slots,old b o (nP n) e⟩,λb o e n _=>?_,λb o e _=>?_,λb xs e=>?_,λb o u e=>?_,λb q e=>?_⟩
   . rw[aH (fi (e8 (c8 e) hge))];exact n
   . by_cases z:b=P
     . rw[z];exact ⟨_,tb2⟩
     . exact ⟨o,old b o z e⟩
   . rw[aH (nC e)];exact e
   . rw[aH (nC e)];exact e
   . rw[aH (nC e)];exact e
  have AY:HOk X.prog X.w (AU H c' (.own P)) (h'.push (AC "<lambda>" jl params body scope clos ((X.mg "__name__").getD .none) c' ctv)):=λb o e=>by
   by_cases z:b=c'
   . subst z;rw[aU] at e;cases e;exact ⟨oc,ho2⟩
   . rw[aH z] at e;have ho':∀b2 a,H b2=some (.own a)->AU H c' (.own P) b2=some (.own a):=λb2 a q=>by rw[aH (nC q)];exact q
     by_cases zP:b=P
     . subst zP;rw[hH] at e;cases e;have el:(ps++#[ua pos.line,ua pos.col,iN c']).toList=ps.toList++[ua pos.line,ua pos.col,.ref c']:=by simp
       refine ⟨_,tb2,by rw[el];exact TriplesOk_snoc _ _ _ _ ht,λpos2 cv hv=>?_⟩;rw[el] at hv;rcases Ui _ ht hv with hv | hv
       . obtain ⟨c3,ob3,vs3,t3,e1,e2,e3,e4,e5⟩:=hcs pos2 cv hv;exact ⟨c3,ob3,vs3,t3,e1,ho' _ _ e2,old _ _ (λz=>by rw[z,hH] at e2;cases e2) e3,e4,e5⟩
       . exact ⟨c',oc,vs,t,hv,aU,ho2,hd,hq1⟩
     . refine (I.AY b o e).stay (λb2 u hb2 q=>old b2 u ?_ q) (λb2 q=>ho' b2 b q) λb2 xs q=>by rw[aH (nC q)];exact q
       rcases hb2 with rfl | hb2
       . exact zP
       . exact λz=>by rw[z,hH] at hb2;cases hb2
  exact h _ c' ctv _ _ (I.un un AY) (.inr ⟨hc0,rfl⟩) ⟨c6 _ rfl,⟨c',oc,vs,t,rfl,ho2,hd,hq1⟩⟩ old
end
variable {i:Nat}
section
open PySem.W
theorem Cd{κ:Type}[DecidableEq κ]:∀{vs:List (κ×a9)}{i:Nat}{k:κ}{x:a9},(vs.map (·.1)).Nodup->vs[i]?=some (k,x)->xc vs k=some x
 | [],i,k,x,_,e=>by simp at e
 | (k0,x0)::vs,i,k,x,hn,e=>by
  unfold xc;rw[a8,kP] at hn
  match i with
  | 0=>
   have e:=Option.some.inj e;cases e;rw[List.find?_cons_of_pos (by simp)];rfl
  | i+1=>
   have e:=by simpa using e
   have hne:k0≠k:=λz=>hn.1 (by
    rw[z];exact cf.mpr ⟨_,eJ e,rfl⟩)
   rw[List.find?_cons_of_neg (by simpa using hne)];exact Cd hn.2 e
theorem Paired.getL{α β:Type}{F:α->β->Prop}:∀{l₁:List α}{l₂:List β}{i:Nat}{b:β},jI F l₁ l₂->l₂[i]?=some b->∃a,l₁[i]?=some a/\F a b
 | _,_,i,b,.nil,e=>by simp at e
 | _,_,0,b,.cons r t,e=>by cases (Option.some.inj e);exact ⟨_,rfl,r⟩
 | _,_,i+1,b,.cons r t,e=>Paired.getL (i:=i) t (by simpa using e)
def afa(K:aw)(i:Nat):TE:=λσ H Q=>∃(d:Addr) (kvs:A8) (cs:Nat->Int),σ[i]?=some (some (.ref d))/\H d=some (.dK kvs)/\0<kvs.length/\(∀l k v,kvs[l]?=some (k,v)->∃a xs,v= .ref a/\SqT K H a (.int (cs l)::xs)) /\
 ∀l k v H',kvs[l]?=some (k,v)->Qw cs l kvs.length->aF H H'->Q (kV k) H'
theorem K7{env:Env}(hs:scope.names=[(x,.local),(y,.free)])(hc:env.cells.lookup y=some c):zd scope env=pure [(y,c)]:=by
 rw[zd,hs];simp[cellOf,hc]
theorem Hw{k:Key}{u:a9}(h:(bY P w).is k u=true):AR (kV k) u:=by
 cases k with
 | inl i=>exact Value.isInt_shape h
 | inr x=>exact Value.isStrOf_shape h
theorem RP{k:Nat}{q1 q2 q3 q4 q5 Wf kp:Pos}
 (hN:X.N[i]?=some y) (hv:X.env.kindOf y=some .cell) (hr:dF k X.A) (hcode:X.env.code= .ref cd) (hhd:i7 X.K cd T=true) (hT:TabAt X.K X.mg T) (hq:X.env.qual ++ "<lambda>"= jl)
 (hg:Gl X "min") (hm:X.mg "min"= none) (hs:scope.names=[(x,.local),(y,.free)]) (hco:scope.isCoroutine=false) (hgen:scope.isGenerator=false) (hk:scope.kind= .function) (hdef:defaultsOf params X.env=([],[]))
 (hbind:∀(pm cv ctv key:a9) (clos:B1) (body:Expr),kG (kla_fn "<lambda>" jl params body scope clos pm cv ctv) ⟨[key],[]⟩=pure [(x,key)]) (hxy:(y == x)=false)
 (hdx:nD x) (hdy:nD y) (hcy:(y == ("__classdict__" : Str))=false) :
 PE X (.Call (.Name "min" p) [.Name y p1] [⟨some "key",.Lambda params (.Subscript (.Subscript (.Name y q1) (.Name x q2) q3) (.Constant (.int 0) j q4) q5) scope Wf,kp⟩] pos) (afa X.K i):=by
 rintro AK s σ H Q I ⟨d,kvs,cs,hσ,hd,hn,aeF,hQ⟩;have acL:Vis X.env.scope y:=.inr (.inl hv);refine qo (nZ I hg hm rfl (callWith_kw ?_));have hpa:PA X [.Name y p1] _:=bW (dW hN acL hdy hcy) eQ;refine thn (hpa pos AK s σ H (λvs H1=>vs=[.ref d]/\H1=H) I ⟨.ref d,hσ,rfl,rfl⟩) λus s1 az=>?_;obtain ⟨vs,H1,I1,rv,hvs,hH1⟩:=az;subst hvs;subst hH1;obtain ⟨u,us',rfl,ru,rn⟩:∃u us',us=u::us'/\u=iN d/\us'=[]:=by
  cases rv with
  | cons r t=>cases t;exact ⟨_,_,rfl,r,rfl⟩
 subst ru;subst rn;obtain ⟨c,hc⟩:=I1.ok.has y (.inl hv);refine kws_cons (Wt I1 hcode hhd hT hq (K7 hs hc) hdef λq c' ctv H' s' I' hH' L hkeep=>kws_nil ?_);have sH:aF H1 H':=by
  rcases hH' with rfl | ⟨z,rfl⟩
  . exact aF.refl _
  . exact λb o e=>by rw[aH (λy=>by rw[y,z] at e;cases e)];exact e
 have hd':=sH _ _ hd;obtain ⟨zl,hsm,vs,rel,dd⟩:=I'.AY d _ hd';obtain ⟨od,es,ep,e1,e2,e3,e4,e5,e6⟩:=id dd;have hat:s'.heap.DictAt (bY X.prog X.w) d vs ep:=⟨od,es,e1,e2,e3,e4,e5,e6⟩;have hl:=rel.length;have hcell:s'.heap.IsCell c (some (.ref d)):=by
  obtain ⟨m,hn',hloc⟩:=I'.loc;obtain ⟨u,ru,l⟩:=hloc i y (.ref d) hN hσ acL;obtain rfl:u=iN d:=ru;rcases l with ⟨l1,_⟩ | ⟨_,c2,l2,l3⟩
  . rw[hv] at l1;cases l1
  . rw[hc] at l2;cases l2;exact l3
 refine Wi cs hr.hd hsm hat (by lia) (λl key hkey h tk kp=>?_) λl v h' tk' hlt hkey hb kp=>?_
 . obtain ⟨k,x',hx,his⟩:=hkey;obtain ⟨⟨k2,v2⟩,g1,g2,g3⟩:=Paired.getL rel hx;have g2:=g2;subst g2;obtain ⟨a,xs,ev,hq2⟩:=aeF l k2 v2 g1;have ev:=ev;subst ev;obtain rfl:x'=iN a:=g3;obtain ⟨AM,rr,ht,hz⟩:=I'.tuple (sH.fX hq2);obtain ⟨t,its',rfl⟩:∃t its',AM=a9.int (cs l) t::its':=by
    cases rr with
    | cons r t=>obtain ⟨t',rfl⟩:=r;exact ⟨_,_,rfl⟩
   have hz2:=rr.length;refine VG (t:=t) L kp (by have:=hr.dp;show X.A.depth<_;lia) I'.nolimit (hbind _ _ _ _ _ _) hco hgen hk ?_ ?_ ?_ (by simp) hcell dd his (Cd e6 hx) ht (by simp) (by rw[cK,<- hz2];exact hz) hdx hdy hcy
   . intro z hz;rw[hs] at hz;rcases cp.mp hz with rfl | hz
     . intro z;cases z
     . rw[aI.mp hz];intro z;cases z
   . rw[hs];simp
   . rw[hs];rw[xb,hxy];simp[xb]
 . obtain ⟨k,x',hx,his⟩:=hkey;obtain ⟨⟨k2,v2⟩,g1,g2,g3⟩:=Paired.getL rel hx;have g2:=g2;subst g2;rw[<- hl] at hb;exact ⟨kV k2,H',I'.un (Un.kept kp) (I'.AY.kept kp),Hw his,hQ l k2 v2 H' g1 hb sH⟩
end
noncomputable def eE:ab->C3
 | .tuple (.int c::_)=>some c
 | _=>none
noncomputable def jC(k:ab)(c:Int):B0->AO ab
 | []=>.ok k
 | (k',d)::r=>match eE d with
  | some c'=>if c'<c then jC k' c' r else jC k c r
  | none=>.bad
noncomputable def j0:B0->AO ab
 | []=>.bad
 | (k,d)::r=>match eE d with
  | some c=>jC k c r
  | none=>.bad
noncomputable def Dz(i:Nat):ME:=λΓ=>match gv Γ i with
 | some (.dict kvs)=>j0 kvs
 | _=>.bad
theorem vH:∀{r:B0}{k:ab}{c:Int}{k2:ab},jC k c r= .ok k2->(∀q∈r,(eE q.2).isSome=true) /\
 ((k2=k/\∀(l:Nat) (q:ab×ab) (c':Int),r[l]?=some q->eE q.2=some c'->c<=c')\/∃(l:Nat) (q:ab×ab) (c':Int),r[l]?=some q/\eE q.2=some c'/\k2=q.1/\c'<c/\∀(l2:Nat) (q2:ab×ab) (c2:Int),r[l2]?=some q2->eE q2.2=some c2->c'<=c2/\(l2<l->c'<c2))
 | [],k,c,k2,h=>by
  cases h;exact ⟨λ_ q=>(nomatch q),.inl ⟨rfl,λl q c' e=>by simp at e⟩⟩
 | (k',d)::r,k,c,k2,h=>by
  unfold jC at h
  cases hc:eE d with
  | none=>rw[hc] at h;cases h
  | some c'=>
   rw[hc] at h;have h:(if c'<c then jC k' c' r else jC k c r)= .ok k2:=h
   by_cases lt:c'<c
   . rw[if_pos lt] at h;obtain ⟨h1,h2⟩:=vH h;refine ⟨λq hq=>?_,.inr ?_⟩
     . rcases cp.mp hq with rfl | hq
       . rw[hc];rfl
       . exact h1 q hq
     . rcases h2 with ⟨rfl,h2⟩ | ⟨l,q,c3,e1,e2,e3,e4,e5⟩
       . refine ⟨0,(k2,d),c',rfl,hc,rfl,lt,λl2 q2 c2 f1 f2=>?_⟩
         match l2 with
         | 0=>
          cases (Option.some.inj f1);have f2:=f2;rw[hc] at f2;cases f2;exact ⟨nI _,λz=>absurd z (hV _)⟩
         | l2+1=>exact ⟨h2 l2 q2 c2 (by simpa using f1) f2,λz=>absurd z (oo _)⟩
       . refine ⟨l+1,q,c3,by simpa using e1,e2,e3,Int.lt_trans e4 lt,λl2 q2 c2 f1 f2=>?_⟩
         match l2 with
         | 0=>
          cases (Option.some.inj f1);have f2:=f2;rw[hc] at f2;cases f2;exact ⟨Int.le_of_lt e4,λ_=>e4⟩
         | l2+1=>
          have:=e5 l2 q2 c2 (by simpa using f1) f2;exact ⟨this.1,λz=>this.2 (by lia)⟩
   . rw[if_neg lt] at h;obtain ⟨h1,h2⟩:=vH h;refine ⟨λq hq=>?_,?_⟩
     . rcases cp.mp hq with rfl | hq
       . rw[hc];rfl
       . exact h1 q hq
     . rcases h2 with ⟨rfl,h2⟩ | ⟨l,q,c3,e1,e2,e3,e4,e5⟩
       . refine .inl ⟨rfl,λl2 q2 c2 f1 f2=>?_⟩
         match l2 with
         | 0=>
          cases (Option.some.inj f1);have f2:=f2;rw[hc] at f2;cases f2;lia
         | l2+1=>exact h2 l2 q2 c2 (by simpa using f1) f2
       . refine .inr ⟨l+1,q,c3,by simpa using e1,e2,e3,e4,λl2 q2 c2 f1 f2=>?_⟩
         match l2 with
         | 0=>
          cases (Option.some.inj f1);have f2:=f2;rw[hc] at f2;cases f2;exact ⟨by lia,λ_=>by lia⟩
         | l2+1=>
          have:=e5 l2 q2 c2 (by simpa using f1) f2;exact ⟨this.1,λz=>this.2 (by lia)⟩
variable {kvs:B0}
theorem Ci{k:ab}(h:j0 kvs= .ok k):(∀q∈kvs,(eE q.2).isSome=true)/\∃(l:Nat) (q:ab×ab) (c:Int),kvs[l]?=some q/\eE q.2=some c/\k=q.1/\∀(l2:Nat) (q2:ab×ab) (c2:Int),kvs[l2]?=some q2->eE q2.2=some c2->c<=c2/\(l2<l->c<c2):=by
 match kvs,h with
 | (k0,d)::r,h=>
  have h:(match eE d with
   | some c=>jC k0 c r
   | none=>.bad)= .ok k:=h
  cases hc:eE d with
  | none=>rw[hc] at h;cases h
  | some c=>
   rw[hc] at h;obtain ⟨h1,h2⟩:=vH h;refine ⟨λq hq=>?_,?_⟩
   . rcases cp.mp hq with rfl | hq
     . rw[hc];rfl
     . exact h1 q hq
   . rcases h2 with ⟨rfl,h2⟩ | ⟨l,q,c3,e1,e2,e3,e4,e5⟩
     . refine ⟨0,(k,d),c,rfl,hc,rfl,λl2 q2 c2 f1 f2=>?_⟩
       match l2 with
       | 0=>
        cases (Option.some.inj f1);have f2:=f2;rw[hc] at f2;cases f2;exact ⟨nI _,λz=>absurd z (hV _)⟩
       | l2+1=>exact ⟨h2 l2 q2 c2 (by simpa using f1) f2,λz=>absurd z (oo _)⟩
     . refine ⟨l+1,q,c3,by simpa using e1,e2,e3,λl2 q2 c2 f1 f2=>?_⟩
       match l2 with
       | 0=>
        cases (Option.some.inj f1);have f2:=f2;rw[hc] at f2;cases f2;exact ⟨Int.le_of_lt e4,λ_=>e4⟩
       | l2+1=>
        have:=e5 l2 q2 c2 (by simpa using f1) f2;exact ⟨this.1,λz=>this.2 (by lia)⟩
variable {A:Hp}
theorem vZ:∀{kvs:B0}{u:A8}{l:Nat}{key:Key}{v:V},bu K A kvs u->u[l]?=some (key,v)->∃k d,kvs[l]?=some (k,d)/\bM k=some key/\Rp K A d v
 | [],u,l,key,v,h,e=>by rw[bu.nil.mp h] at e;simp at e
 | (k,d)::r,u,l,key,v,h,e=>by
  obtain ⟨key',v',u',rfl,h1,h2,h3⟩:=bu.cons.mp h
  match l with
  | 0=>cases (Option.some.inj e);exact ⟨k,d,rfl,h1,h2⟩
  | l+1=>
   obtain ⟨k2,d2,e2,h4⟩:=vZ h3 (by simpa using e);exact ⟨k2,d2,by simpa using e2,h4⟩
variable {O:B9}{v:V}
theorem WY{d:ab}{c:Int}(h:Rp K A d v)(hc:eE d=some c):∃a xs,v= .ref a/\SqT K A a (.int c::xs):=by
 unfold eE at hc;split at hc
 . cases hc;obtain ⟨a,vs,rfl,h1,h2⟩:=Rp.tuple.mp h;obtain ⟨v,r,rfl,h3,_⟩:=aA.cons.mp h2;rw[Rp.int.mp h3] at h1;exact ⟨a,r,rfl,h1⟩
 . cases hc
theorem aaT{q1 q2 q3 q4 q5 Wf kp:Pos}(i:Nat)(hi:isO (fl O i)=true)
 (hN:X.N[i]?=some y) (hv:X.env.kindOf y=some .cell) (hr:dF ep X.A) (hcode:X.env.code= .ref cd) (hhd:i7 X.K cd T=true) (hT:TabAt X.K X.mg T) (hq:X.env.qual ++ "<lambda>"= jl)
 (hg:Gl X "min") (hm:X.mg "min"= none) (hs:scope.names=[(x,.local),(y,.free)]) (hco:scope.isCoroutine=false) (hgen:scope.isGenerator=false) (hk:scope.kind= .function) (hdef:defaultsOf params X.env=([],[]))
 (hbind:∀(pm cv ctv key:a9) (clos:B1) (body:Expr),kG (PySem.W.kla_fn "<lambda>" jl params body scope clos pm cv ctv) ⟨[key],[]⟩=pure [(x,key)]) (hxy:(y == x)=false:=by decide)
 (hdx:nD x:=by decide) (hdy:nD y:=by decide) (hcy:(y == ("__classdict__" : Str))=false:=by decide) :
 QE X (.Call (.Name "min" p) [.Name y p1] [⟨some "key",.Lambda params (.Subscript (.Subscript (.Name y q1) (.Name x q2) q3) (.Constant (.int 0) j q4) q5) scope Wf,kp⟩] pos) (tE X.K O (Dz i)):=
 QE.imp (RP hN hv hr hcode hhd hT hq hg hm hs hco hgen hk hdef hbind hxy hdx hdy hcy) λσ H Q az=>by
  obtain ⟨A,B,Γ,d,r,em,kk⟩:=az;unfold Dz at em
  cases hgv:gv Γ i with
  | none=>rw[hgv] at em;cases em
  | some dl=>
   rw[hgv] at em
   cases dl with
   | dict kvs=>
    have em:=em;obtain ⟨q,u,e1,h1,h2⟩:=vW r hi hgv;obtain ⟨hall,l0,w0,c0,f1,f2,f3,f4⟩:=Ci em;have hlen:=h2.len;have cost:∀l key v,u[l]?=some (key,v)->∃(w:ab×ab) (c:Int),kvs[l]?=some w/\eE w.2=some c/\bM w.1=some key/\Rp X.K A w.2 v:=λl key v e=>by
     obtain ⟨k1,d1,g1,g2,g3⟩:=vZ h2 e;obtain ⟨c,hc⟩:=iE.mp (hall _ (eJ g1));exact ⟨(k1,d1),c,g1,hc,g2,g3⟩
    refine ⟨q,u,λl=>((kvs[l]?).bind λw=>eE w.2).getD 0,dU e1,h1,?_,λl key v e=>?_,λl key v H' e hb sH=>?_⟩
    . rw[<- hlen];exact ki (kz _) (aS.mp f1).1
    . obtain ⟨w,c,g1,g2,g3,g4⟩:=cost l key v e;obtain ⟨a,xs,rfl,hq⟩:=WY g4 g2;refine ⟨a,xs,rfl,r.a.fX ?_⟩;show SqT X.K A a (.int (((kvs[l]?).bind λw=>eE w.2).getD 0)::xs);rw[g1];show SqT X.K A a (.int ((eE w.2).getD 0)::xs);rw[g2];exact hq
    . obtain ⟨w,c,g1,g2,g3,g4⟩:=cost l key v e;have hl:=(aS.mp g1).1;have hl0:=(aS.mp f1).1;have cl:((kvs[l]?).bind λw=>eE w.2).getD 0=c:=by rw[g1];show (eE w.2).getD 0=c;rw[g2];rfl
      have cl0:((kvs[l0]?).bind λw=>eE w.2).getD 0=c0:=by rw[f1];show (eE w0.2).getD 0=c0;rw[f2];rfl
      have b1:=hb l0 (by lia);have b1:((kvs[l]?).bind λw=>eE w.2).getD 0<=((kvs[l0]?).bind λw=>eE w.2).getD 0/\(l0<l->((kvs[l]?).bind λw=>eE w.2).getD 0<((kvs[l0]?).bind λw=>eE w.2).getD 0):=b1;rw[cl,cl0] at b1;have b2:=f4 l w c g1 g2;have el:l=l0:=by
       rcases Nat.lt_trichotomy l l0 with z | z | z
       . have:=b2.2 z;lia
       . exact z
       . have:=b1.2 z;lia
      subst el;rw[f1] at g1;cases g1;refine kk _ A H' ⟨aF.refl _,sH,r.a.trans sH,λ_ h _=>h⟩ ?_;rw[f3]
      cases hw:w0.1 with
      | int n=>rw[hw] at g3;cases g3;exact Rp.int.mpr rfl
      | str z=>rw[hw] at g3;cases g3;exact Rp.str.mpr rfl
      | _=>rw[hw] at g3;cases g3
   | _=>cases em
noncomputable def xT(i:Nat)(f:B4->AO ab)(ms:List ME):MS:=λΓ=>(evs ms Γ).bind λds=>(f ds).bind λr=>match pg r with
 | some (_,dm)=>.ok (.nx (Γ.set i (some dm)))
 | none=>.bad
variable {rm:Rm}{Ol O':B9}
section
variable     {f:B4->AO ab}{ms:List ME}{m:ME}{e:Expr}
theorem JH(i:Nat)(he:QE X e (tM K O i f ms))(hs:h9 e none pos.line X.env=pure false:=by rfl):QS X (.Expr e pos) (tS K rm Ol O O (xT i f ms)):=QS.imp (o7 he.h hs) λD σ H az=>by
 obtain ⟨A,B,Γ,o,r,em,k⟩:=az;obtain ⟨ds,e1,em⟩:=AO.au em;obtain ⟨t,e2,em⟩:=AO.au em
 cases h:pg t with
 | none=>rw[h] at em;cases em
 | some q=>
  obtain ⟨d,dm⟩:=q;rw[h] at em;cases em;rw[yX h] at e2;exact ⟨A,B,Γ,ds,d,dm,r,e1,e2,λv A' H' r' sa nw p=>k _ A' H' r' sa nw⟩
end
noncomputable def adB(n j:Nat)(m:MS)(ds:B4):AO ab:=(m (ds.map some++ax (n - ds.length) none)).bind λo=>match o with
 | .rt d=>.ok d
 | .nx Γ=>match gv Γ j with
  | some dm=>.ok (.tuple [.none,dm])
  | none=>.bad
 | _=>.bad
variable {N ps:B6}
section
variable     {base:Heap}
theorem W8{st:Stmt}{fs:B9}{O O':Addr->B9}{m:MS}(F:At K mg x st ps)(S:cX N ps (aN st))(hf:fs.length=ps.length)(hn:ps.length<=N.length)
 (hOj:∀p,fl (O p) j= .fix p) (hO:∀p i,i<fs.length->i≠j->(fl (O p) i= .AW/\fl fs i= .AW)\/fl (O p) i= .AV) (afz:∀p,fl (O' p) j= .fix p)
 (hbody:∀(p:Addr) (f:Addr) (AN:a9) (A:ke) (BA:C6) (s:dy) (H:Hp) (E:XK),dF ep (A.deeper (oD x (aN st) s.heap.objs.size f AN)) ->
  QSs (mL CX0 P w K mg base N x (aN st) f AN A BA s H E).nox (bR st) (tS K (.m p) Ol (O p) (O' p) m)):Def P w K mg base (ep+1) x ps (spM K fs j (adB N.length j m)):=by
 refine F.ok S (λvs H Q E h=>?_) (λf AN A BA s H vs Q E hr h=>?_)
 . obtain ⟨_,_,_,_,_,_,_,_,_,h,_⟩:=h;rw[h,hf]
 . obtain ⟨A',B,ds,d,dm,p,o,ha,hb,hv,hd,hj,hp,ap,bp,hown,hargs,em,q⟩:=h;obtain ⟨out,e1,em⟩:=AO.au em
   cases out with
   | rt d'=>
    cases em;refine ⟨_,(hbody p f AN A BA s H E hr).h,A',rem H p,_,_,wz ha hb hv hd hj hp ap bp hown hargs (hOj p) (hO p) (by lia),e1,λv A2 H2 s1 s2 sa nw rv=>?_⟩;obtain ⟨d1,dm1,o1,ed,r1,r2,r3,r4⟩:=rv;cases ed;refine q v A2 H2 o1 sa s1 (λb u hbp hu=>s2 b u (by rw[qe hbp];exact hu)) (λb q1 q2=>?_) r3 r2 r4 r1
    by_cases z:b=p
    . subst z;exact r3
    . exact nw b q1 (by rw[qe z];exact q2)
   | nx Γ'=>
    cases hg:gv Γ' j with
    | none=>
     have em:(match gv Γ' j with | some dm=>AO.ok (ab.tuple [.none,dm]) | none=>.bad)= .ok (ab.tuple [d,dm]):=em;rw[hg] at em;cases em
    | some dm1=>
     have em:(match gv Γ' j with | some dm=>AO.ok (ab.tuple [.none,dm]) | none=>.bad)= .ok (.tuple [d,dm]):=em;rw[hg] at em;cases em;refine ⟨_,(hbody p f AN A BA s H E hr).h,A',rem H p,_,_,wz ha hb hv hd hj hp ap bp hown hargs (hOj p) (hO p) (by lia),e1,λσ2 A2 H2 r2 sa nw=>?_⟩;obtain ⟨v',ev,sl⟩:=r2.slot j dm hg;rw[afz p] at sl;obtain ⟨rfl,p',o',e',h1,h2,_,h4⟩:=sl;cases e';refine q .non A2 H2 o' sa r2.a (λb u hbp hu=>r2.b b u (by rw[qe hbp];exact hu)) (λb q1 q2=>?_) h2 h1 h4 (Rp.none.mpr rfl)
     by_cases z:b=p
     . subst z;exact h2
     . exact nw b q1 (by rw[qe z];exact q2)
   | _=>cases em
end
noncomputable def pP(key:Key)(kvs:B0):B0:=kvs.filter λkv=>!decide (bM kv.1=some key)
theorem Gx{key:Key}:∀{kvs:B0}{u:A8},bu K A kvs u->bu K A (pP key kvs) (tX u key)
 | [],u,h=>by rw[bu.nil] at h;subst h;exact bu.nil.mpr rfl
 | (k,d)::r,u,h=>by
  obtain ⟨key',v,u',rfl,hk,hd,hr⟩:=bu.cons.mp h;have ih:=Gx (key:=key) hr;unfold pP tX at ih ⊢
  by_cases e:bM k=some key
  . have ek:=(mU hk).mp e;rw[gX (by simp[e]),gX (by simp[ek])];exact ih
  . have ek:¬ key'=key:=λz=>e ((mU hk).mpr z);rw[iP (by simp[e]),iP (by simp[ek])];exact bu.cons.mpr ⟨key',v,_,rfl,hk,hd,ih⟩
noncomputable def vq(i j t:Nat):MS:=λΓ=>match gv Γ t,gv Γ i,gv Γ j with
 | some kd,some (.dict fs),some (.dict ws)=>(match bM kd with
  | some key=>(match cR key ws with
   | some d=>gd (fs.length<bE/\i < Γ.length/\j < Γ.length) (.ok (.nx ((Γ.set j (some (.dict (pP key ws)))).set i (some (.dict (gU kd key d fs))))))
   | none=>.bad)
  | none=>.bad)
 | _,_,_=>.bad
variable {tpos apos cpos:Pos}
theorem Uz(i j t:Nat){z:Str}{yp ap:Pos}(hu:X.A.units+66<kb)(hij:i≠j)(hti:t≠i)(htj:t≠j)(hi:isO (fl O i)=true:=by rfl)(hj:isO (fl O j)=true:=by rfl)(ht:fl O t= .AW:=by rfl)
 (hNx:X.N[i]?=some x:=by rfl) (hNy:X.N[j]?=some y:=by rfl) (hNz:X.N[t]?=some z:=by rfl)
 (hvx:Vis X.env.scope x:=by first | exact hW rfl | exact va (hW rfl) | exact va (va rfl)) (hvy:Vis X.env.scope y:=by first | exact hW rfl | exact va (hW rfl) | exact va (va rfl)) (hvz:Vis X.env.scope z:=by first | exact hW rfl | exact va (hW rfl) | exact va (va rfl))
 (hdx:nD x:=by decide) (hcx:(x == ("__classdict__" : Str))=false:=by decide) (hdy:nD y:=by decide) (hcy:(y == ("__classdict__" : Str))=false:=by decide) (hdz:nD z:=by decide) (hcz:(z == ("__classdict__" : Str))=false:=by decide)
 (hm:M1 X (.Name y yp) "pop" apos (.Name z ap) cpos:=by exact ⟨rfl,rfl,rfl,rfl⟩)
 (hs:h9 (.Call (.Attribute (.Name y yp) "pop" apos) [.Name z ap] [] cpos) (some (.Subscript (.Name x p) (.Name z p1) tpos)) pos.line X.env=pure false:=by rfl) :
 QS X (.Assign [.Subscript (.Name x p) (.Name z p1) tpos] (.Call (.Attribute (.Name y yp) "pop" apos) [.Name z ap] [] cpos) pos) (tS X.K rm Ol O O (vq i j t)):=by
 refine QS.imp (M6 (by lia) (dW hNx hvx hdx hcx) (dW hNz hvz hdz hcz) (Xc (dW hNy hvy hdy hcy) (dW hNz hvz hdz hcz) hm) hs) λD σ H az=>?_;obtain ⟨A,B,Γ,o,r,em,k⟩:=az;unfold vq at em
 cases gt:gv Γ t with
 | none=>rw[gt] at em;cases em
 | some kd=>
  cases gi:gv Γ i with
  | none=>rw[gt,gi] at em;cases em
  | some di=>
   cases gj:gv Γ j with
   | none=>rw[gt,gi,gj] at em;cases di <;> cases em
   | some dj=>
    rw[gt,gi,gj] at em
    cases di with
    | dict fs=>
     cases dj with
     | dict ws=>
      have em:(match bM kd with
       | some key=>(match cR key ws with
        | some d=>gd (fs.length<bE/\i < Γ.length/\j < Γ.length) (AO.ok (Out.nx ((Γ.set j (some (.dict (pP key ws)))).set i (some (.dict (gU kd key d fs))))))
        | none=>.bad)
       | none=>.bad)= .ok o:=em
      cases hk:bM kd with
      | none=>rw[hk] at em;cases em
      | some key=>
       rw[hk] at em;have em:(match cR key ws with
        | some d=>gd (fs.length<bE/\i < Γ.length/\j < Γ.length) (AO.ok (Out.nx ((Γ.set j (some (.dict (pP key ws)))).set i (some (.dict (gU kd key d fs))))))
        | none=>.bad)= .ok o:=em
       cases hl:cR key ws with
       | none=>rw[hl] at em;cases em
       | some d=>
        rw[hl] at em;obtain ⟨⟨hz,hli,hlj⟩,em⟩:=b7 em;cases em;obtain ⟨vt,et,st⟩:=r.slot t kd gt;rw[ht] at st;have vk:=Rp.key st hk;obtain ⟨qj,uj,ej,hj2,rj⟩:=vW r hj gj;obtain ⟨v,lv,rv⟩:=(rj.look).1 d hl;have r1:=r.change (o':=.dK (tX uj key)) hj hlj (by rw[gj];simp) ej hj2 (.inr ⟨_,_,rfl,rfl,Gx rj⟩);have gi1:gv (Γ.set j (some (.dict (pP key ws)))) i=some (.dict fs):=by
         have:=gi;unfold gv at this ⊢;rw[aR (nL hij)];exact this
        obtain ⟨qi,ui,ei,hi2,ri⟩:=vW r1 hi gi1;refine ⟨.ref qj,dU ej,qj,rfl,.inl ⟨uj,.inl hj2⟩,vt,dU et,uj,key,v,hj2,vk,lv,.ref qi,dU ei,vt,dU et,qi,_,rfl,by rw[vk];exact Eh.k hi2 (by rw[<- ri.length];exact hz),?_⟩;exact k σ A _ (r1.change hi (by rw[fx];exact hli) (by rw[gi1];simp) ei hi2 (.inr ⟨_,_,rfl,rfl,bu.put hk rv ri⟩)) (aF.refl _) (λ_ h _=>h)
     | _=>cases em
    | _=>cases em
variable {u:A8}{o:Obj}
section
variable      {d:Addr}
theorem AQ.afF(I:AQ X AK σ H s)(h:H d=some (.dK u)):∃o,AQ X AK σ (AU H d (.frz o (.dK u))) s:=by
 have hd:=I.AY d _ h;obtain ⟨z,hsm,vs,rel,o,es,ep,e1,e2⟩:=id hd;have ne:∀{b:Addr},H b=none->b≠d:=λhn y=>by rw[y,h] at hn;cases hn
 have nd:∀{b:Addr}{x:HO},H b=some x->x ≠ .dK u->b≠d:=λhb hx y=>by rw[y,h] at hb;exact hx (Option.some.inj hb).symm
 refine ⟨o,⟨I.ok,I.os,I.bare,⟨I.base.keep,I.base.slot,λb ob q n hx=>?_,I.base.there,λb xs q=>?_,λb ob u' q=>?_,λb q' q=>?_⟩,I.loc,I.cell,?_,λx c q=>?_,λq hq=>?_,λb ob q=>?_,I.len⟩⟩
 . have:=I.base.free b ob q n hx;rw[aH (ne this)];exact this
 . have:=I.base.tups b xs q;rw[aH (nd this (by intro z;cases z))];exact this
 . have:=I.base.qG b ob u' q;rw[aH (nd this (by intro z;cases z))];exact this
 . have:=I.base.nj b q' q;rw[aH (nd this (by intro z;cases z))];exact this
 . rw[aH (ne I.free)];exact I.free
 . rw[aH (ne (I.j5 x c q))];exact I.j5 x c q
 . obtain ⟨q1,q2,q3⟩:=I.pin q hq;exact ⟨q1,by rw[aH (ne q2)];exact q2,q3⟩
 . have ho:∀c a,H c=some (.own a)->AU H d (.frz o (.dK u)) c=some (.own a):=λc a q=>by rw[aH (nd q (by intro z;cases z))];exact q
   have ht:∀c xs,H c=some (.tup xs)->AU H d (.frz o (.dK u)) c=some (.tup xs):=λc xs q=>by rw[aH (nd q (by intro z;cases z))];exact q
   by_cases hb:b=d
   . subst hb;rw[aU] at q;cases q;exact ⟨e1,hd.stay (λ_ _ _ e=>e) (λc q=>ho c _ q) ht⟩
   . rw[aH hb] at q;exact (I.AY b ob q).stay (λ_ _ _ e=>e) (λc q=>ho c _ q) ht
theorem AQ.ab7(I:AQ X AK σ H s)(h:H d=some (.frz o (.dK u)))(hb0:∀o u,X.H₀ d≠some (.frz o u)):AQ X AK σ (AU H d (.dK u)) s:=by
 have ne:∀{b:Addr},H b=none->b≠d:=λhn y=>by rw[y,h] at hn;cases hn
 have nd:∀{b:Addr}{x:HO},H b=some x->x ≠ .frz o (.dK u)->b≠d:=λhb hx y=>by rw[y,h] at hb;exact hx (Option.some.inj hb).symm
 refine ⟨I.ok,I.os,I.bare,⟨I.base.keep,I.base.slot,λb ob q n hx=>?_,I.base.there,λb xs q=>?_,λb ob u' q=>?_,λb q' q=>?_⟩,I.loc,I.cell,?_,λx c q=>?_,λq hq=>?_,λb ob q=>?_,I.len⟩
 . have:=I.base.free b ob q n hx;rw[aH (ne this)];exact this
 . have:=I.base.tups b xs q;rw[aH (nd this (by intro z;cases z))];exact this
 . have:=I.base.qG b ob u' q;rw[aH (λz=>by rw[z] at q;exact hb0 _ _ q)];exact this
 . have:=I.base.nj b q' q;rw[aH (nd this (by intro z;cases z))];exact this
 . rw[aH (ne I.free)];exact I.free
 . rw[aH (ne (I.j5 x c q))];exact I.j5 x c q
 . obtain ⟨q1,q2,q3⟩:=I.pin q hq;exact ⟨q1,by rw[aH (ne q2)];exact q2,q3⟩
 . have ho:∀c a,H c=some (.own a)->AU H d (.dK u) c=some (.own a):=λc a q=>by rw[aH (nd q (by intro z;cases z))];exact q
   have ht:∀c xs,H c=some (.tup xs)->AU H d (.dK u) c=some (.tup xs):=λc xs q=>by rw[aH (nd q (by intro z;cases z))];exact q
   by_cases hb:b=d
   . subst hb;rw[aU] at q;cases q;exact (I.AY b _ h).2.stay (λ_ _ _ e=>e) (λc q=>ho c _ q) ht
   . rw[aH hb] at q;exact (I.AY b ob q).stay (λ_ _ _ e=>e) (λc q=>ho c _ q) ht
end
noncomputable def Itk(d:Addr)(o:Obj)(u:A8):It:=⟨λi H=>H d=some (.frz o (.dK u))/\i<u.length,λi H x H'=>H'=H/\∃k v,u[i]?=some (k,v)/\x=kV k,λi H=>H d=some (.frz o (.dK u))/\u.length<=i⟩
variable {es:Array ra}
theorem qM(I:AQ X AK σ H s)(h:H a=some (.frz o (.dK u)))(ho:o.data= .dict es ep) :
 (a == gp)=false/\∃vs,KV u vs/\s.heap.DictAt (bY X.prog X.w) a vs ep:=by
 obtain ⟨e0,z,hsm,vs,rel,o',es',ep',e1,e2,e3,e4⟩:=I.AY a _ h;rw[e0] at e1;cases e1;rw[ho] at e3;cases e3;exact ⟨hsm,vs,rel,o,es,e0,e2,ho,e4⟩
variable {tg:Expr}{it:Addr}
theorem R9(ho:o.data= .dict es ep):Turn P w K tg (Itk a o u) [it] it (λi h=>h.IsKeyIter it a i u.length ep) where
 mem:=by simp
 obj:=λi h st b hb=>by
  have e:=by simpa using hb
  subst e;obtain ⟨o,e,c,a⟩:=st;exact ⟨o,e,λv z=>by rw[a] at z;cases z⟩
 keep:=λi h h' st k=>st.at λo e=>k it (by simp) o e
 item:=by
  intro X hP hw hK hc i AK s σ H E I hf st hg;subst hP hw hK;obtain ⟨hd,hi⟩:=hg;obtain ⟨hsm,vs,rel,hat⟩:=qM I hd ho;have hl:=rel.length;obtain ⟨⟨k,x⟩,hx⟩:∃q,vs[i]?=some q:=⟨vs[i],av (by lia)⟩;obtain ⟨⟨k2,v2⟩,g1,g2,g3⟩:=Paired.getL rel hx;have g2:=g2;subst g2;obtain ⟨f0,f1,f2,f3,f4,f5⟩:=hf it (by simp);rw[hl] at st;refine wpAny_pyNext_dict_item st hat hx λkey h' hkey st' sb=>?_;have I1:=I.turned (t':=s.toks) (λb o hb e=>(sb.2 b hb).trans e) f0 f1 f3 f4 f5;obtain ⟨o2,e,c,dd⟩:=id st';exact ⟨key,rfl,zG e c dd (by decide) ⟨kV k2,H,I1,Hw hkey,⟨rfl,k2,v2,g1,rfl⟩,by rw[hl];exact st',λb hb=>(hf b hb).1⟩⟩
 done:=by
  intro X hP hw hK hc i AK s σ H E I hf st hg;subst hP hw hK;obtain ⟨hd,hi⟩:=hg;obtain ⟨hsm,vs,rel,hat⟩:=qM I hd ho;have hl:=rel.length;obtain ⟨f0,f1,f2,f3,f4,f5⟩:=hf it (by simp);rw[hl] at st;exact wpAny_pyNext_dict_end (I.ok.hd hc) st hat (by simp;lia) λh' eb=>⟨rfl,I.turned (λb o hb e=>eb b o hb e) f0 f1 f3 f4 f5⟩
 self:=λ_ _ _ _ _ st h=>wpAny_pyIter_keyiter st h
def ad6(te:TE):TI:=λσ H R=>te σ H λx H1=>∃d o u,x= .ref d/\H1 d=some (.frz o (.dK u))/\R (Itk d o u) H1
theorem Zt{l:Expr}{te:TE}(hl:PE X l te):PI X tg l (ad6 te):=by
 intro AK s σ H R I h;refine thn (hl AK s σ H _ I h) λv s1 az=>?_;obtain ⟨x,H1,I1,r1,d,o,u,ex,hd,hR⟩:=az;subst ex;obtain rfl:v=iN d:=r1;obtain ⟨e0,z,hsm,vs,rel,o',es,ep,e1,e2,e3,e4⟩:=I1.AY d _ hd;rw[e0] at e1;cases e1;have hl:=rel.length;refine wpAny_pyIter_dict hsm ⟨o,es,e0,e2,e3,e4⟩ ?_;have kp:∀b ob,s1.heap.get? b=some ob->(s1.heap.push { cls:=.type "dict_keyiterator",data:=.fields #[.ref d,.int 0 0,.int vs.length 0,.int ep 0] }).get? b=some ob:=λb ob e=>aE _ e;refine ⟨s1.heap.objs.size,[s1.heap.objs.size],_,Itk d o u,H1,rfl,I1.un (Un.kept kp) (I1.AY.kept kp),R9 e3,⟨_,c6 _ rfl,rfl,by rw[hl];rfl⟩,λb hb=>?_,hR⟩;rw[aI.mp hb];exact I1.sS (ay _) (I1.AY.fresh (ay _))
noncomputable def sw(d:Addr)(y:HO)(F:Hp):Hp:=λb=>if b=d then (F b).map λ_=>y else F b
variable {F:Hp}
theorem jY{b:Addr}{y:HO}(h:b≠a):sw a y F b=F b:=if_neg h
variable {z:HO}
theorem ux{y:HO}(h:F a=some z):sw a y F a=some y:=by rw[sw,if_pos rfl,h];rfl
theorem gw:sw a z F c=none↔F c=none:=by
 unfold sw;split
 . exact sf
 . exact Iff.rfl
theorem Tv{d:Addr}{y:HO}(h:F d=some z):sw d y F=AU F d y:=by
 funext b;unfold sw AU;split
 . rename_i e;subst e;rw[h];rfl
 . rfl
theorem Gb{d:Addr}{y:HO}(s:aF A H):aF (sw d y A) (sw d y H):=λb o e=>by
 by_cases hb:b=d
 . subst hb
   cases q:A b with
   | none=>rw[gw.mpr q] at e;cases e
   | some z=>rw[ux q] at e;cases e;exact ux (s _ _ q)
 . rw[jY hb] at e ⊢;exact s _ _ e
def IsU(u:A8)(z:HO):Prop:=z= .dK u\/∃o,z= .frz o (.dK u)
theorem IsU.rd{u':A8}(h:A a=some z)(i:IsU u z)(r:Rd A a (.dK u')):u'=u:=by
 rcases i with rfl | ⟨o,rfl⟩ <;> rcases r with r | ⟨o',r⟩ <;> rw[h] at r <;> cases r <;> rfl
theorem IsU.of(h:A a=some z)(i:IsU u z):Rd A a (.dK u):=by
 rcases i with rfl | ⟨o,rfl⟩
 . exact .inl h
 . exact .inr ⟨o,h⟩
variable {B:Hp}{xs:List (B3×Addr×a9)}{Γ:Ev}
section
variable  {d:Addr}  {y:HO}
def AtU(F:Hp)(d:Addr)(u:A8):Prop:=∀z,F d=some z->IsU u z
theorem T7{xs:C0}(h:AtU F d u)(r:SqL K F a xs):SqL K (sw d y F) a xs:=by
 rcases r with (e | ⟨o,e⟩) | k
 . exact .inl (.inl (by rw[jY (λq=>by subst q;rcases h _ e with z | ⟨_,z⟩ <;> cases z)];exact e))
 . exact .inl (.inr ⟨o,by rw[jY (λq=>by subst q;rcases h _ e with z | ⟨_,z⟩ <;> cases z)];exact e⟩)
 . exact .inr k
theorem HY{xs:C0}(h:AtU F d u)(r:SqT K F a xs):SqT K (sw d y F) a xs:=by
 rcases r with (e | ⟨o,e⟩) | k
 . exact .inl (.inl (by rw[jY (λq=>by subst q;rcases h _ e with z | ⟨_,z⟩ <;> cases z)];exact e))
 . exact .inl (.inr ⟨o,by rw[jY (λq=>by subst q;rcases h _ e with z | ⟨_,z⟩ <;> cases z)];exact e⟩)
 . exact .inr k
theorem Rj{w:A8}(h:AtU F d u)(hy:IsU u y)(r:Rd F a (.dK w)):Rd (sw d y F) a (.dK w):=by
 by_cases q:a=d
 . subst q;obtain ⟨z,e⟩:∃z,F a=some z:=by rcases r with e | ⟨o,e⟩ <;> exact ⟨_,e⟩
   rw[IsU.rd e (h _ e) r];exact hy.of (ux e)
 . rcases r with e | ⟨o,e⟩
   . exact .inl (by rw[jY q];exact e)
   . exact .inr ⟨o,by rw[jY q];exact e⟩
mutual
theorem zr(h:AtU A d u)(hy:IsU u y):∀(x:ab) {v:V},Rp K A x v->Rp K (sw d y A) x v
 | .none,v,r=>by rw[Rp] at r ⊢;exact r
 | .bool _,v,r=>by rw[Rp] at r ⊢;exact r
 | .int _,v,r=>by rw[Rp] at r ⊢;exact r
 | .str _,v,r=>by rw[Rp] at r ⊢;exact r
 | .list ds,v,r=>by
  rw[Rp] at r ⊢;obtain ⟨a,vs,h1,h2,h3⟩:=r;exact ⟨a,vs,h1,T7 h h2,sG h hy ds h3⟩
 | .tuple ds,v,r=>by
  rw[Rp] at r ⊢;obtain ⟨a,vs,h1,h2,h3⟩:=r;exact ⟨a,vs,h1,HY h h2,sG h hy ds h3⟩
 | .dict kvs,v,r=>by
  rw[Rp] at r ⊢;obtain ⟨a,w,h1,h2,h3⟩:=r;exact ⟨a,w,h1,Rj h hy h2,zy h hy kvs h3⟩
theorem sG(h:AtU A d u)(hy:IsU u y):∀(ds:B4) {vs:C0},aA K A ds vs->aA K (sw d y A) ds vs
 | [],vs,r=>by rw[aA] at r ⊢;exact r
 | x::ds,vs,r=>by
  rw[aA] at r ⊢;obtain ⟨v,t,h1,h2,h3⟩:=r;exact ⟨v,t,h1,zr h hy x h2,sG h hy ds h3⟩
theorem zy(h:AtU A d u)(hy:IsU u y):∀(kvs:B0) {w:A8},bu K A kvs w->bu K (sw d y A) kvs w
 | [],w,r=>by rw[bu] at r ⊢;exact r
 | (k,x)::t,w,r=>by
  rw[bu] at r ⊢;obtain ⟨key,v,w',h1,h2,h3,h4⟩:=r;exact ⟨key,v,w',h1,h2,zr h hy x h3,zy h hy t h4⟩
end
theorem aeH{x:ab}(hA:AtU A d u)(hB:AtU B d u)(hy:IsU u y)(p:Pk K A B x v):Pk K (sw d y A) (sw d y B) x v:=by
 rcases p with p | ⟨p,vs,ds,e1,e2,h1,h2⟩ | ⟨p,w,kvs,e1,e2,h1,h2⟩
 . exact .inl (zr hA hy x p)
 . exact .inr (.inl ⟨p,vs,ds,e1,e2,T7 hB h1,sG hA hy ds h2⟩)
 . exact .inr (.inr ⟨p,w,kvs,e1,e2,Rj hB hy h1,zy hA hy kvs h2⟩)
theorem N6{x:ab}{o:HO}(hA:AtU A d u)(hy:IsU u y)(h:jc K A x o):jc K (sw d y A) x o:=by
 rcases h with ⟨ds,vs,e1,e2,h⟩ | ⟨kvs,w,e1,e2,h⟩
 . exact .inl ⟨ds,vs,e1,e2,sG hA hy ds h⟩
 . exact .inr ⟨kvs,w,e1,e2,zy hA hy kvs h⟩
theorem ach{xs:List (dH×Addr×a9)}(hA:AtU A d u)(hy:IsU u y)(h:RpN K A kvs xs):RpN K (sw d y A) kvs xs:=by
 obtain ⟨us,h1,h2⟩:=h;exact ⟨us,h1.keeps λb ys q=>HY hA q,Paired.sO h2 λ_ _ z=>⟨z.1,zr hA hy _ z.2⟩⟩
theorem acX(hA:AtU A d u)(hy:IsU u y)(h:RpT K A kvs xs):RpT K (sw d y A) kvs xs:=
 Paired.sO h λ_ _ z=>⟨z.1,HY hA z.2.1,z.2.2.imp λv q=>⟨q.1,zr hA hy _ q.2⟩⟩
theorem AtU.sub(s:aF A H)(h:AtU H d u):AtU A d u:=λz e=>h z (s _ _ e)
theorem bh.sw(r:bh K A B H O σ Γ)(hH:AtU H d u)(hd:A d≠none\/B d≠none)(hy:IsU u y):bh K (sw d y A) (sw d y B) (sw d y H) O σ Γ:=by
 have hA:=hH.sub r.a;have hB:=hH.sub r.b;have nd:∀{p:Addr},A p=none->B p=none->p≠d:=λa b z=>by
  subst z;rcases hd with q | q
  . exact q a
  . exact q b
 refine ⟨Gb r.a,Gb r.b,r.len,λi x e=>?_,r.sep⟩;obtain ⟨v,ev,q⟩:=r.slot i x e;refine ⟨v,ev,?_⟩
 cases hf:fl O i with
 | AW=>rw[hf] at q;exact zr hA hy x q
 | AV=>rw[hf] at q;exact aeH hA hB hy q
 | own=>
  rw[hf] at q;obtain ⟨p,o,rfl,h1,h2,h3,h4⟩:=q;exact ⟨p,o,rfl,by rw[jY (nd h2 h3)];exact h1,gw.mpr h2,gw.mpr h3,N6 hA hy h4⟩
 | fix p0=>
  rw[hf] at q;obtain ⟨q0,p,o,rfl,h1,h2,h3,h4⟩:=q;exact ⟨q0,p,o,rfl,by rw[jY (nd h2 h3)];exact h1,gw.mpr h2,gw.mpr h3,N6 hA hy h4⟩
 | kit=>
  rw[hf] at q;obtain ⟨p,xs,kvs,h1,h2,h3,h4⟩:=q;exact ⟨p,xs,kvs,h1,h2,by rw[jY (λz=>by subst z;rcases hA _ h3 with z | ⟨_,z⟩ <;> cases z)];exact h3,acX hA hy h4⟩
 | exc C=>
  rw[hf] at q;obtain ⟨p,ob,h1,h2,h3⟩:=q;exact ⟨p,ob,h1,by rw[jY (λz=>by subst z;rcases hA _ h2 with z | ⟨_,z⟩ <;> cases z)];exact h2,h3⟩
 | nst b=>
  rw[hf] at q;intro z;obtain ⟨p,xs,kvs,h1,h2,h3,h4,h5,h6⟩:=q z;exact ⟨p,xs,kvs,h1,h2,by rw[jY (nd h4 h5)];exact h3,gw.mpr h4,gw.mpr h5,ach hA hy h6⟩
theorem Nr{y:HO}(h:∀x,F d=some x->x=z):sw d z (sw d y F)=F:=by
 funext b
 by_cases q:b=d
 . subst q
   cases e:F b with
   | none=>exact gw.mpr (gw.mpr e)
   | some x=>rw[ux (ux e),h x e]
 . rw[jY q,jY q]
theorem adg{y:HO}(h:New (sw d y A) H (sw d y B)):New A (sw d z H) B:=λp h1 h2=>gw.mpr (h p (gw.mpr h1) (λe=>h2 (gw.mp e)))
theorem W3{y:HO}(h:aF (sw d y A) H)(hz:∀x,A d=some x->x=z):aF A (sw d z H):=by
 have:=Gb (d:=d) (y:=z) h;rwa [Nr hz] at this
end
def Vk(σ:St)(H:Hp)(i:Nat):Prop:=∃d o u,sv σ i=some (.ref d)/\H d=some (.frz o (.dK u))
noncomputable def itK(i:Nat):MI:=λΓ=>match gv Γ i with
 | some (.dict kvs)=>.ok (kvs.map (·.1))
 | _=>.bad
def abP(K:aw)(O:B9)(i:Nat)(it:MI):TI:=λσ H R=>Vk σ H i/\tIc K O it σ H R
def tSz(K:aw)(rm:Rm)(Ol O O':B9)(i:Nat)(m:MS):TS:=λD σ H=>Vk σ H i/\tS K rm Ol O O' m D σ H
noncomputable def isR:Fl->Bool
 | .AW=>true
 | .AV=>true
 | _=>false
theorem xP(r:bh K A B H O σ Γ)(hi:isR (fl O i)=true)(hg:gv Γ i=some (.dict kvs)) :
 ∃d u z,sv σ i=some (.ref d)/\H d=some z/\IsU u z/\(A d≠none\/B d≠none)/\bu K A kvs u:=by
 obtain ⟨v,ev,q⟩:=r.slot i _ hg;have go:∀{F:Hp}{d:Addr}{u:A8},aF F H->Rd F d (.dK u)->F d≠none/\∃z,H d=some z/\IsU u z:=λs rd=>by
  rcases rd with e | ⟨o,e⟩
  . exact ⟨by rw[e];simp,_,s _ _ e,.inl rfl⟩
  . exact ⟨by rw[e];simp,_,s _ _ e,.inr ⟨o,rfl⟩⟩
 have p:Pk K A B (.dict kvs) v:=by
  cases hf:fl O i with
  | AW=>rw[hf] at q;exact .inl q
  | AV=>rwa [hf] at q
  | _=>rw[hf] at hi;cases hi
 rcases p with p | ⟨p,vs,ds,e1,e2,h1,h2⟩ | ⟨p,w,kvs',e1,e2,h1,h2⟩
 . obtain ⟨d,u,rfl,h1,h2⟩:=Rp.dict.mp p;obtain ⟨n,z,e,iu⟩:=go r.a h1;exact ⟨d,u,z,ev,e,iu,.inl n,h2⟩
 . cases e2
 . cases e2;subst e1;obtain ⟨n,z,e,iu⟩:=go r.b h1;exact ⟨p,w,z,ev,e,iu,.inr n,h2⟩
theorem Ux{xs:B4}(h:itK i Γ = .ok xs):∃kvs,gv Γ i=some (.dict kvs)/\xs=kvs.map (·.1):=by
 unfold itK at h
 cases e:gv Γ i with
 | none=>rw[e] at h;cases h
 | some d=>
  rw[e] at h
  cases d with
  | dict kvs=>cases h;exact ⟨kvs,rfl,rfl⟩
  | _=>cases h
theorem JF{k:ab}{key:Key}(h:bM k=some key):Rp K A k (kV key):=by
 cases k with
 | int i=>cases h;exact Rp.int.mpr rfl
 | str x=>cases h;exact Rp.str.mpr rfl
 | _=>cases h
section
variable  {Ob O1:B9}  {is:B5}{it:MI}{g:MG}{mc me:ME}{elt iter:Expr}{ifs:C1}  {nt:Nat}
theorem Zi(i:Nat)(hi:isR (fl O i)=true:=by rfl)(nm:Nm X i x:=by walk_at "nm"):QI X tg (.Name x pos) (abP X.K O i (itK i)):=
 QI.imp (Zt (dW nm.1 nm.2 nm.3 nm.4)) λσ H R az=>by
  obtain ⟨⟨d,o,u,e1,e2⟩,A,B,Γ,xs,r,em,k⟩:=az;obtain ⟨kvs,hg,rfl⟩:=Ux em;obtain ⟨d',u',z,f1,f2,f3,f4,f5⟩:=xP r hi hg;rw[e1] at f1;cases f1;rw[e2] at f2;cases f2;have eu:u'=u:=by
   rcases f3 with z | ⟨o',z⟩ <;> cases z;rfl
  subst eu;have hl:=f5.len;refine ⟨.ref d,dU e1,d,o,u',rfl,e2,k _ A H (aZ.refl r.a) ⟨λn H2 s1 s2 hn=>⟨s2 _ _ e2,by rw[af] at hn;lia⟩,λH2 s1 s2=>⟨s2 _ _ e2,by rw[af];lia⟩,λn A2 H2 v H3 sa s2 s3 hn hy=>?_⟩⟩;obtain ⟨rfl,key,w,e3,rfl⟩:=hy;obtain ⟨k1,d1,g1,g2,g3⟩:=vZ f5 e3;exact ⟨A2,k1,by rw[br,g1];rfl,aZ.refl s2,JF g2⟩
theorem Ym{st:Stmt}{m:MS}(i:Nat)(hi:isR (fl O i)=true)(hm:∀Γ o,m Γ = .ok o->(∃kvs,gv Γ i=some (.dict kvs))/\∃Γ',o= .nx Γ')(h:QS X st (tSz X.K rm Ol O O' i m)):QS X st (tS X.K rm Ol O O' m):=by
 refine ⟨λAK s σ H D I ⟨A,B,Γ,x,r,em,k⟩=>?_⟩;obtain ⟨⟨kvs,hg⟩,Γ',rfl⟩:=hm Γ x em;obtain ⟨d,u,z,f1,f2,f3,f4,f5⟩:=xP r hi hg;rcases f3 with rfl | ⟨o,rfl⟩
 . obtain ⟨o,I1⟩:=I.afF f2;have hH:AtU H d u:=λz e=>by rw[f2] at e;cases e;exact .inl rfl
   have r1:=r.sw hH f4 (.inr ⟨o,rfl⟩);rw[<- Tv f2] at I1;have eA:∀z,A d=some z->z= .dK u:=λz e=>by have:=r.a _ _ e;rw[f2] at this;cases this;rfl
   have eB:∀z,B d=some z->z= .dK u:=λz e=>by have:=r.b _ _ e;rw[f2] at this;cases this;rfl
   have hd1:sw d (.frz o (.dK u)) A d≠none\/sw d (.frz o (.dK u)) B d≠none:=by
    rcases f4 with q | q
    . exact .inl λz=>q (gw.mp z)
    . exact .inr λz=>q (gw.mp z)
   refine thn (h.h AK s σ _ ⟨λσ' H'=>∃A',bh X.K A' (sw d (.frz o (.dK u)) B) H' O' σ' Γ'/\aF (sw d (.frz o (.dK u)) A) A'/\New (sw d (.frz o (.dK u)) A) A' (sw d (.frz o (.dK u)) B),λ_ _=>False,λ_ _=>False,λ_ _=>False⟩ I1 ⟨⟨d,o,u,f1,ux f2⟩,_,_,Γ,_,r1,em,λσ' A' H' r' sa nw=>⟨A',r',sa,nw⟩⟩) λfl s1 q=>?_
   cases fl with
   | next=>
    obtain ⟨σ',H',I2,A',r',sa,nw⟩:=q;have fH:H' d=some (.frz o (.dK u)):=by
     rcases f4 with q | q
     . cases e:A d with
       | none=>exact absurd e q
       | some z=>exact r'.a _ _ (sa _ _ (ux e))
     . cases e:B d with
       | none=>exact absurd e q
       | some z=>exact r'.b _ _ (ux e)
    have hU:AtU H' d u:=λz e=>by rw[fH] at e;cases e;exact .inr ⟨o,rfl⟩
    have I3:=I2.ab7 fH λo' u' q=>by have:=I.base.qG _ _ _ q;rw[f2] at this;cases this
    rw[<- Tv fH] at I3;have r2:=r'.sw hU (by
     rcases hd1 with q | q
     . left;intro z
       cases e:sw d (.frz o (.dK u)) A d with
       | none=>exact q e
       | some x=>rw[sa _ _ e] at z;cases z
     . exact .inr q) (.inl rfl)
    rw[Nr eB] at r2;exact ⟨σ',_,I3,k σ' _ _ r2 (W3 sa eA) (adg nw)⟩
   | ret v=>
    obtain ⟨_,_,_,_,_,z⟩:=q;exact l7 z
   | brk=>obtain ⟨_,_,_,z⟩:=q;exact l7 z
   | cont=>obtain ⟨_,_,_,z⟩:=q;exact l7 z
 . exact h.h AK s σ H D I ⟨⟨d,o,u,f1,f2⟩,A,B,Γ,_,r,em,k⟩
theorem Xj(q i:Nat){O2:B9}(tn:B6)(ix:B5)(hri:isR (fl O q)=true)(hN:X.N.Nodup)(hiN:X.N[i]?=some y)(hy:Loc X.env.scope y)(S:iU X scope ix=true)(hc:X.calm=true)(hOb:Ob=nJ tn.length ix O)(hnt:nt=tn.length)(his:∀j∈is,j<tn.length)(hi:QI X tg iter (abP X.K O q (itK q)))
 (hg:∀cl C s₂ H₂ fp,QG (X.comp scope tn ix cl C s₂ H₂ fp) tg (tG X.K Ob O1 is g)) (ht:∀cl C s₂ H₂ fp,yC (X.comp scope tn ix cl C s₂ H₂ fp) ifs (tT X.K O1 mc)) (he:∀cl C s₂ H₂ fp,QE (X.comp scope tn ix cl C s₂ H₂ fp) elt (tE X.K O1 me))
 (hl:i<O.length:=by exact of_decide_eq_true rfl) (hsw:h9 (.ListComp elt [⟨tg,iter,ifs,0⟩] scope pos) (some (.Name y p)) p1.line X.env=pure true:=by rfl)
 (hf:X.fn y=true\/X.env.scope.names.lookup y=some .local:=by walk_at "hf")
 (hs:∀x,ja iter X.env x=pure x:=by intro _;rfl) (hO:O.set i .own=O2:=by rfl):QS X (.Assign [.Name y p] (.ListComp elt [⟨tg,iter,ifs,0⟩] scope pos) p1) (tS X.K rm Ol O O2 (aW i (cu (itK q) g mc me nt ix))):=
 Ym q hri (λΓ o h=>by
  obtain ⟨x,e1,h⟩:=AO.au h;obtain ⟨xs,e2,_⟩:=AO.au e1;obtain ⟨kvs,e,_⟩:=Ux e2;obtain ⟨_,h⟩:=b7 h;cases h;exact ⟨⟨kvs,e⟩,_,rfl⟩) (hO ▸ QS.imp (Nt hN hiN hy S hc hi.h (λcl C s₂ H₂ fp=>(hg cl C s₂ H₂ fp).h) (λcl C s₂ H₂ fp=>(ht cl C s₂ H₂ fp).h) (λcl C s₂ H₂ fp=>(he cl C s₂ H₂ fp).h) hsw hf hs) λD σ H h=>⟨h.1,xn (λσ' H' Q' z=>BJ hOb hnt his z) hl h.2⟩)
end
section
variable     {base:Heap}
theorem aaN{st:Stmt}{fs:B9}{m:MS}(F:At K mg "ways" st ps)(hT:TabAt K mg T)(S:cX N ps (aN st))(hf:fs.length=ps.length)(hn:ps.length<=N.length)
 (hO:∀i,i<fs.length->(fl O i= .AW/\fl fs i= .AW)\/fl O i= .AV)
 (hbody:∀(f cd:Addr) (A:ke) (BA:C6) (s:dy) (H:Hp) (E:XK),i7 K cd T=true->dF ep (A.deeper (oD "ways" (aN st) s.heap.objs.size f (.ref cd))) ->
  QSs (mL CX0 P w K mg base N "ways" (aN st) f (.ref cd) A BA s H E).nox (bR st) (tS K rm Ol O O' m)):Def P w K mg base (ep+1) "ways" ps (spF K fs rm (fnR N.length m)):=by
 obtain ⟨f,fd,F,b,hm⟩:=F.ex;refine ⟨f,fd,?_,b,F.kp,hm⟩;obtain ⟨oc,od,kV,doc,pm,an,AN,ct,osl,rfl,lk,hcd⟩:=F.ex;obtain ⟨f',o,fd',c,t1,t2,t3,t4,t5⟩:=hT;rw[hm] at t1;cases t1;rw[lk] at t2;cases t2;have t3:=t3;cases t3;have t4:=t4;subst t4;refine Yn lk hcd S (λvs H Q E h=>?_) λA BA s H vs Q E hr h=>?_
 . obtain ⟨A,ds,d,_,h,_⟩:=h;rw[h.length.1,hf]
 . obtain ⟨A',ds,d,ha,h,em,q⟩:=h;obtain ⟨o,e1,em⟩:=AO.au em
   cases o with
   | rt d'=>
    cases em;exact ⟨_,(hbody f c A BA s H E t5 hr).h.nox,A',H,_,_,p6 ha h hO (by lia),e1,λv A2 H2 s1 s2 sa nw rv=>q v A2 H2 ⟨sa,s2,s1,nw⟩ rv⟩
   | _=>cases em
theorem W0{f:Addr}(hm:mg "ways"= some (.ref f))(h:qm K f T=true):TabAt K mg T:=by
 unfold qm at h;rw[eh] at h;have h:=h.1;split at h
 . rename_i oc od fd sl e;split at h
   . rename_i c ec;exact ⟨f,_,fd,c,hm,e,rfl,ec,h⟩
   . cases h
 . cases h
end
noncomputable def Pq:B4->AO ab
 | [.dict kvs]=>gd (kvs.length<=bE) (.ok (.list (kvs.map (·.1))))
 | _=>.bad
theorem Ny:∀{kvs:B0}{u:A8},bu K A kvs u->aA K A (kvs.map (·.1)) (u.map λq=>kV q.1)
 | [],u,h=>by rw[bu.nil.mp h];exact aA.nil.mpr rfl
 | (k,d)::r,u,h=>by
  obtain ⟨key,v,u',rfl,h1,h2,h3⟩:=bu.cons.mp h;exact aA.cons.mpr ⟨_,_,rfl,JF h1,Ny h3⟩
theorem GJ{P:ia}{w:lI}:∀{u:A8}{vs:List (Key×a9)}{AL:B8},KV u vs->AL.length=vs.length->(∀(j:Nat) (v:a9),AL[j]?=some v->∃(k:Key) (x:a9),vs[j]?=some (k,x)/\(bY P w).is k v=true)->AS (u.map λq=>kV q.1) AL
 | [],_,[],_,_,_=>.nil
 | [],_,a::AL,.nil,hl,_=>by simp at hl
 | q::u,_,[],.cons r t,hl,_=>by simp at hl
 | q::u,vs,a::AL,h,hl,hv=>by
  cases h with
  | @cons _ q2 _ vs2 r t=>
   obtain ⟨k,x,e1,e2⟩:=hv 0 a rfl;have e1:=Option.some.inj e1;subst e1;refine .cons ?_ (GJ (P:=P) (w:=w) t (by simpa using hl) λj v e=>?_)
   . show AR (kV q.1) a;rw[r.1];exact Hw e2
   . obtain ⟨k',x',e3,e4⟩:=hv (j+1) v (by simpa using e);exact ⟨k',x',by simpa using e3,e4⟩
theorem QB(hc:X.calm=true):fO X (.type "list") (λxs H Q=>∃p u,xs=[.ref p]/\Rd H p (.dK u)/\∀l,H l=none->Q (.ref l) (AU H l (.lst (u.map λq=>kV q.1)))):=by
 rintro AK s σ H xs us Q I r ⟨p,u,rfl,he,q⟩;obtain ⟨z,rfl,rx⟩:=vals1 r;cases rx;obtain ⟨hz,hsys,vs,kv,dd⟩:=pR I.AY he;obtain ⟨ep,hat⟩:=dd.dictAt;have hl:=kv.length;refine PySem.W.kdl_call (PySem.W.kdl_dict hsys) (I.ok.hd hc) hat (by lia) λh' tk AL c hk hS hacc=>?_;have fr:=I.AY.fresh (ay s.heap.objs.size);have vl:=GJ kv (by rw[md];exact hacc.1) λj v e=>hacc.2 j v (by rw[<- sF];exact e);refine ⟨.ref s.heap.objs.size,_,I.un (Un.laid hk (ay _) fr) (I.AY.laid hk (ay _) ?_),rfl,q _ fr⟩;exact ⟨by rw[af];lia,AL.toList,c,vl,by rw[Array.toArray_toList];exact hS⟩
theorem Vg(hc:X.calm=true):fO X (.type "list") (rCF X.K Pq):=by
 rintro AK s σ H xs us Q I r ⟨A,ds,d,e,ha,p,k⟩
 match ds,e with
 | [.dict kvs],e=>
  obtain ⟨hz,e⟩:=b7 e;cases e;obtain ⟨v,r',rfl,p1,p2⟩:=p.cons;obtain rfl:=p2.nil;obtain ⟨l,u,rfl,h1,q1⟩:=p1.dict ha;exact QB hc AK s σ H _ us Q I r ⟨l,u,rfl,h1,λq hq=>k _ A _ (aZ.lay ha hq) ⟨q,_,rfl,hq,aU,ha.free hq,.inl ⟨_,_,rfl,rfl,Ny q1⟩⟩⟩
def NX(m:MS):Prop:=∀Γ o,m Γ = .ok o->∃Γ',o= .nx Γ'
theorem acv:NX cQ:=λΓ o h=>by cases h;exact ⟨_,rfl⟩
theorem adS{a b:MS}(ha:NX a)(hb:NX b):NX (aJ a b):=λΓ o h=>by
 obtain ⟨o1,e1,h⟩:=AO.au h;obtain ⟨Γ',rfl⟩:=ha Γ o1 e1;exact hb Γ' o h
theorem ael{c:ME}{a b:MS}(ha:NX a)(hb:NX b):NX (sIf c a b):=λΓ o h=>by
 obtain ⟨x,e1,h⟩:=AO.au h
 cases x with
 | bool t=>cases t with
  | true=>exact ha Γ o h
  | false=>exact hb Γ o h
 | _=>cases h
theorem adF{m:ME}:NX (lL i m):=λΓ o h=>by
 obtain ⟨d,_,h⟩:=AO.au h;split at h
 . obtain ⟨_,h⟩:=b7 h;cases h;exact ⟨_,rfl⟩
 . cases h
theorem abh{m m':ME}:NX (gW i m m'):=λΓ o h=>by
 obtain ⟨d,_,h⟩:=AO.au h;obtain ⟨d',_,h⟩:=AO.au h;split at h
 . split at h
   . obtain ⟨_,h⟩:=b7 h;cases h;exact ⟨_,rfl⟩
   . cases h
 . cases h
theorem M4{g:MG}{cl:B5}{b:MS}(hb:NX b):∀{xs:B4}{Γ:Ev}{o:Out},forR g cl b xs Γ = .ok o->∃Γ',o= .nx Γ'
 | [],Γ,o,h=>by cases h;exact ⟨_,rfl⟩
 | x::xs,Γ,o,h=>by
  rw[forR] at h;obtain ⟨Γ1,_,h⟩:=AO.au h;obtain ⟨o1,e1,h⟩:=AO.au h;obtain ⟨Γ',rfl⟩:=hb Γ1 o1 e1;exact M4 hb h
def tIK(K:aw)(O:B9)(i:Nat)(it:MI):TI:=λσ H R=>Vk σ H i/\tI K O it σ H R
noncomputable def Itd(d:Addr)(o:Obj)(u:A8):It:=
 ⟨λi H=>H d=some (.frz o (.dK u))/\i<u.length,λi H x H'=>∃p k v,H p=none/\x= .ref p/\H'=AU H p (.tup [kV k,v])/\u[i]?=some (k,v),λi H=>H d=some (.frz o (.dK u))/\u.length<=i⟩
theorem ZC:entryFor table "dict_itemiterator.__iter__"= some Builtin.«dict_keyiterator.__iter__» := entryFor_alias (id':= "dict_keyiterator.__iter__") (by kernel_rfl) rfl (by decide +kernel) (by kernel_rfl)
theorem Rh{A:ke}{ok ov:a9}(hit:IsItemIter s.heap it a i j ep ok ov)(h:Q (.ref it) s):eI (eL P w) A (pyIter (.ref it)) Q E s:=by
 have hT:s.TypeIs (.ref it) "dict_itemiterator" := ⟨_,hit,rfl⟩;refine wpAny_pyIter_slot hT pV (fR pV hT ZC ?_ (PySem.F.args_dict_itemiterator_iter_1 _));exact bo ⟨_,rfl, "dict_itemiterator",_,hT,PySem.F.slot_dict_itemiterator_next.lookup,h⟩
variable {elts:C1}
theorem Q0{x1}(ho:o.data= .dict es ep) :
 Turn P w K (.Tuple elts x1 tpos) (Itd a o u) [it] it (λi h=>∃ok ov,IsItemIter h it a i u.length ep ok ov) where
 mem:=by simp
 obj:=λi h st b hb=>by
  have e:b=it:=by simpa using hb
  subst e;obtain ⟨ok,ov,e⟩:=st;exact ⟨_,e,λv z=>by cases z⟩
 keep:=λi h h' st k=>by
  obtain ⟨ok,ov,e⟩:=st;exact ⟨ok,ov,k it (by simp) _ e⟩
 item:=by
  intro X hP hw hK hc i AK s σ H E I hf st hg;subst hP hw hK;obtain ⟨ok,ov,st⟩:=st;obtain ⟨hd,hi⟩:=hg;obtain ⟨hsm,vs,rel,hat⟩:=qM I hd ho;have hl:=rel.length;obtain ⟨⟨k,x⟩,hx⟩:∃q,vs[i]?=some q:=⟨vs[i],av (by lia)⟩;obtain ⟨⟨k2,v2⟩,g1,g2,g3⟩:=Paired.getL rel hx;have g2:k2=k:=g2;subst g2;have fz:=hf it (by simp);rw[hl] at st;refine wpAny_pyNext_items_item st hat hx λkey h' hkey st' hN hsz hk=>?_;refine ⟨_,rfl,?_⟩;refine wpAny_letOwnedTupleGo_items (s:={ s with heap:=h' }) st' λh2 hz2 sb2=>?_;have hnew:H s.heap.objs.size=none:=I.AY.fresh (ay _);have hpz:s.heap.objs.size≠it:=rl (c8 st);have hN2:h2.get? s.heap.objs.size=some { cls:=.type "tuple",data:=.seq #[key,x] }:=sb2.extBut _ _ hpz hN;have k3:∀c ob,s.heap.get? c=some ob->c∉[it]->h2.get? c=some ob:=λc ob q hc=>sb2.extBut c ob (λe=>hc (by simp[e])) (hk c ob (λe=>hc (by simp[e])) q);have I2:=I.zM (tk:=s.toks) hf k3 hN2 rfl rfl (Hw hkey) g3;refine ⟨.ref s.heap.objs.size,_,I2,rfl,⟨_,k2,v2,hnew,rfl,rfl,g1⟩,⟨key,x,by rw[hl];exact hz2⟩,λb hb=>?_⟩;have hb':b=it:=by simpa using hb
  subst hb';rw[aH (nL hpz)];exact fz.1
 done:=by
  intro X hP hw hK hc i AK s σ H E I hf st hg;subst hP hw hK;obtain ⟨ok,ov,st⟩:=st;obtain ⟨hd,hi⟩:=hg;obtain ⟨hsm,vs,rel,hat⟩:=qM I hd ho;have hl:=rel.length;obtain ⟨f0,f1,f2,f3,f4,f5⟩:=hf it (by simp);rw[hl] at st;exact wpAny_pyNext_items_end (I.ok.hd hc) st hat (by simp;lia) λh' eb=>⟨rfl,I.turned (t':=s.toks) (λb o hb e=>eb b o hb e) f0 f1 f3 f4 f5⟩
 self:=λ_ _ _ _ _ st h=>by
  obtain ⟨ok,ov,st⟩:=st;exact Rh st h
def adN(te:TE):TI:=λσ H R=>te σ H λx H1=>∃d o u,x= .ref d/\H1 d=some (.frz o (.dK u))/\R (Itd d o u) H1
theorem Wc{te:TE}{x1}(hl:PE X tg te)(hbase:mw tg "items" X.env (eval tg X.env)=eval tg X.env:=by rfl)(hline:(apos.endLine == cpos.line)=true:=by rfl):PI X (.Tuple elts x1 tpos) (.Call (.Attribute tg "items" apos) [] [] cpos) (adN te):=by
 intro AK s σ H R I h;refine wpAny_Call_method0_late hbase hline (thn (hl AK s σ H _ I h) λv s1 az=>?_);obtain ⟨x,H1,I1,r1,d,o,u,ex,hd,hR⟩:=az;subst ex;obtain rfl:v=iN d:=r1;obtain ⟨t1,t2,_⟩:=T9 I1 (.inl ⟨u,.inr ⟨o,hd⟩⟩);obtain ⟨e0,z,hsm,vs,rel,o',es,ep,e1,e2,e3,e4⟩:=I1.AY d _ hd;rw[e0] at e1;cases e1;have hlen:=rel.length;have dd:s1.heap.DictOf (bY X.prog X.w) d vs:=⟨o,es,ep,e0,e2,e3,e4⟩;refine ⟨"dict", "dict.items",x8,yk,PySem.F.type_dict_items,t1,t2,rq rfl (PySem.evalArgs_none (call_meetsIn yk t1 PySem.F.entry_dict_items (PySem.F.args_dict_items_1 _) (meets_dict_items (bY X.prog X.w) d hsm) ⟨⟨vs,dd⟩,?_⟩))⟩;have hat:(s1.heap.push { cls:=.type "dict_items",data:=.fields #[.ref d] }).DictAt (bY X.prog X.w) d vs ep:=⟨o,es,aE _ e0,e2,e3,e4⟩;refine wpAny_pyIter_items ⟨_,c6 _ rfl,rfl,rfl⟩ hat ?_;have kp:∀b ob,s1.heap.get? b=some ob->((s1.heap.push { cls:=.type "dict_items",data:=.fields #[.ref d] }).push { cls:=.type "dict_itemiterator",data:=.fields #[.none,.bool false,.ref d,.int 0 0,.int vs.length 0,.int ep 0,.none,.none] }).get? b=some ob:=λb ob e=>aE _ (aE _ e);have hsz:s1.heap.objs.size<=(s1.heap.push { cls:=.type "dict_items",data:=.fields #[.ref d] }).objs.size:=by rw[iS];lia
 refine ⟨_,[(s1.heap.push { cls:=.type "dict_items",data:=.fields #[.ref d] }).objs.size],_,Itd d o u,H1,rfl,I1.un (Un.kept kp) (I1.AY.kept kp),Q0 e3,⟨.none,.none,by rw[hlen];exact c6 _ rfl⟩,λb hb=>?_,hR⟩;rw[aI.mp hb];exact I1.sS hsz (I1.AY.fresh hsz)
noncomputable def itI(i:Nat):MI:=λΓ=>match gv Γ i with
 | some (.dict kvs)=>.ok (kvs.map λq=>ab.tuple [q.1,q.2])
 | _=>.bad
theorem R0{xs:B4}(h:itI i Γ = .ok xs):∃kvs,gv Γ i=some (.dict kvs)/\xs=kvs.map λq=>ab.tuple [q.1,q.2]:=by
 unfold itI at h
 cases e:gv Γ i with
 | none=>rw[e] at h;cases h
 | some d=>
  rw[e] at h
  cases d with
  | dict kvs=>cases h;exact ⟨kvs,rfl,rfl⟩
  | _=>cases h
section
variable    {is:B5}{g:MG}{cl:B5}{mb:MS}{iter:Expr}{body:C5}
theorem Xf(i:Nat){x1}(hi:isR (fl O i)=true:=by rfl)(nm:Nm X i x:=by walk_at "nm")(hbase:mw (.Name x pos) "items" X.env (eval (.Name x pos) X.env)=eval (.Name x pos) X.env:=by rfl)(hline:(apos.endLine == cpos.line)=true:=by rfl) :
 QI X (.Tuple elts x1 tpos) (.Call (.Attribute (.Name x pos) "items" apos) [] [] cpos) (tIK X.K O i (itI i)):=
 QI.imp (Wc (dW nm.1 nm.2 nm.3 nm.4) hbase hline) λσ H R az=>by
  obtain ⟨⟨d,o,u,e1,e2⟩,A,B,Γ,xs,r,em,k⟩:=az;obtain ⟨kvs,hg,rfl⟩:=R0 em;obtain ⟨d',u',z,f1,f2,f3,f4,f5⟩:=xP r hi hg;rw[e1] at f1;cases f1;rw[e2] at f2;cases f2;have eu:u'=u:=by
   rcases f3 with z | ⟨o',z⟩ <;> cases z;rfl
  subst eu;have hl:=f5.len;have st:∀H2,aF A H2->aF B H2->H2 d=some (.frz o (.dK u')):=λH2 s1 s2=>by
   rcases f4 with q | q
   . cases e:A d with
     | none=>exact absurd e q
     | some z=>have:=r.a _ _ e;rw[e2] at this;cases this;exact s1 _ _ e
   . cases e:B d with
     | none=>exact absurd e q
     | some z=>have:=r.b _ _ e;rw[e2] at this;cases this;exact s2 _ _ e
  refine ⟨.ref d,dU e1,d,o,u',rfl,e2,k _ A H (aZ.refl r.a) ⟨λn H2 s1 s2 hn=>⟨st H2 s1 s2,by rw[af] at hn;lia⟩,λH2 s1 s2=>⟨st H2 s1 s2,by rw[af];lia⟩,λn A2 H2 v H3 sa s2 s3 hn hy=>?_⟩⟩;obtain ⟨p,key,w,hp,rfl,rfl,e3⟩:=hy;obtain ⟨k1,d1,g1,g2,g3⟩:=vZ f5 e3;have gr:=aZ.new (o:=.tup [kV key,w]) s2 hp;exact ⟨_,.tuple [k1,d1],by rw[br,g1];rfl,gr,Rp.tuple.mpr ⟨p,_,rfl,SqT.of aU,aA.cons.mpr ⟨_,_,rfl,JF g2,aA.one (Rp.mono (sa.trans gr.aa) d1 g3)⟩⟩⟩
theorem Zz(i:Nat)(hri:isR (fl O i)=true)(hnx:NX mb)(hp:vE (eL X.prog X.w) X.A X.env X.xe)(hc:X.calm=true)(cl:B5)(hi:QI X tg iter (tIK X.K O i (itI i)))(hg:QG X tg (tG X.K O O is g))(hb:QSs X body (tS X.K rm O' O O' mb))(hE:pN O O' cl=true)
 (hs:∀x,ja iter X.env x=pure x:=by intro _;rfl):QS X (.For tg iter body [] pos) (tS X.K rm Ol O O (cz (itI i) g cl mb)):=by
 refine Ym i hri (λΓ o h=>?_) ?_
 . obtain ⟨xs,e1,h⟩:=AO.au h;obtain ⟨kvs,e,_⟩:=R0 e1;exact ⟨⟨kvs,e⟩,M4 hnx h⟩
 . skip
   refine QS.imp (Tr hp hc hi.h hg.h hb.h hs) λD σ H ⟨fz,A,B,Γ,o,r,em,k⟩=>⟨fz,?_⟩;obtain ⟨xs,e1,em⟩:=AO.au em;refine ⟨A,B,Γ,xs,r,e1,λJ A1 H1 g1 hj=>?_⟩;refine ⟨λi n σ' H'=>n=xs.length - i/\i<=xs.length/\∃A2 Γ2,bh X.K A2 B H' O σ' Γ2/\aF A A2/\New A A2 B/\aF A1 A2/\forR g cl mb (xs.drop i) Γ2= .ok o,⟨xs.length,rfl,kz _,A1,Γ,r.grow g1,g1.aa,g1.nB r.b,aF.refl _,em⟩,?_⟩;rintro i n σ' H' ⟨rfl,hi',A2,Γ2,r2,sa,nw,s12,e2⟩
   by_cases hlt:i<xs.length
   . refine .inr ⟨hj.go i H' (s12.trans r2.a) r2.b hlt,λσ'' H''=>i+1<=xs.length/\∃A3 Γ3,bh X.K A3 B H'' O σ'' Γ3/\aF A A3/\New A A3 B/\aF A1 A3/\forR g cl mb (xs.drop (i+1)) Γ3= .ok o,?_,λx H3 y=>?_⟩
     . rintro σ'' H'' ⟨h1,A3,Γ3,h2⟩;exact ⟨xs.length - (i+1),by lia,rfl,h1,A3,Γ3,h2⟩
     . obtain ⟨A3,d,ed,g3,p3⟩:=hj.yld i A2 H' x H3 s12 r2.a r2.b hlt y;have hd:xs.drop i=d::xs.drop (i+1):=by
        rw[nh hlt];rw[av hlt] at ed;cases ed;rfl
       rw[hd] at e2;obtain ⟨Γ3,e3,e2⟩:=AO.au e2;obtain ⟨o3,e4,e2⟩:=AO.au e2;have sa3:=sa.trans g3.aa;have nw3:=nw.trans (g3.nB r2.b);refine ⟨A3,B,Γ2,d,Γ3,r2.grow g3,p3,e3,λσ4 r4 _=>⟨A3,B,Γ3,o3,r4,e4,?_⟩⟩;have sb:∀{D':Ends},uc X.K rm Ol O A B D' o->uc X.K rm Ol O A3 B D' o:=λh=>h.sub sa3 nw3
       cases o3 with
       | nx Γ4=>exact λσ5 A5 H5 r5 s5 n5=>⟨hlt,A5,clr cl Γ4,r5.ig hE,sa3.trans s5,nw3.trans n5,s12.trans (g3.aa.trans s5),e2⟩
       | ct Γ4=>exact λσ5 A5 H5 r5 s5 n5=>⟨hlt,A5,clr cl Γ4,r5.ig hE,sa3.trans s5,nw3.trans n5,s12.trans (g3.aa.trans s5),e2⟩
       | bk Γ4=>
        cases e2;exact λσ5 A5 H5 r5 s5 n5=>k σ5 A5 H5 (r5.ig hE) (sa3.trans s5) (nw3.trans n5)
       | rt d'=>
        cases e2;exact λv A5 H5 q1 q2 s5 n5 rv=>k v A5 H5 q1 q2 (sa3.trans s5) (nw3.trans n5) rv
   . have e:i=xs.length:=by lia
     subst e;rw[x9] at e2;cases e2;exact .inl ⟨hj.stop H' (s12.trans r2.a) r2.b,k σ' A2 H' r2 sa nw⟩
end
inductive MV where
 | ev (m:ME)
 | cl (f:B4->AO ab) (ms:List ME)
noncomputable def mF(j:Nat):List (Int×MV)->Ev->AO (B0×Ev)
 | [],Γ=>.ok ([],Γ)
 | (k,.ev m)::r,Γ=>(m Γ).bind λd=>(mF j r Γ).bind λq=>.ok ((.int k,d)::q.1,q.2)
 | (k,.cl f ms)::r,Γ=>(evs ms Γ).bind λds=>(f ds).bind λt=>match pg t with
  | some (d,dm)=>(mF j r (Γ.set j (some dm))).bind λq=>.ok ((.int k,d)::q.1,q.2)
  | none=>.bad
inductive ie (X:Cx) (O:B9) (j:Nat):List (Option Expr)->C1->List (Int×MV)->Prop
 | nil:ie X O j [] [] []
 | ev {k:Int}{kj}{kp:Pos}{v:Expr}{ks:List (Option Expr)}{vs:C1}{m:ME}{R:List (Int×MV)}:QE X v (tE X.K O m)->ie X O j ks vs R->ie X O j (some (.Constant (.int k) kj kp)::ks) (v::vs) ((k,.ev m)::R)
 | cl {k:Int}{kj}{kp:Pos}{v:Expr}{ks:List (Option Expr)}{vs:C1}{f:B4->AO ab}{ms:List ME}{R:List (Int×MV)}:QE X v (tM X.K O j f ms)->ie X O j ks vs R->ie X O j (some (.Constant (.int k) kj kp)::ks) (v::vs) ((k,.cl f ms)::R)
noncomputable def trM(K:aw)(O:B9)(j:Nat):Int×MV->TE×TE
 | (k,.ev m)=>(tC (.int k),tE K O m)
 | (k,.cl f ms)=>(tC (.int k),tM K O j f ms)
variable {ks:List (Option Expr)}{vs:C1}
theorem ie.pps{R:List (Int×MV)}(h:ie X O j ks vs R):PPs X pos ks vs (R.map (trM X.K O j)):=by
 induction h with
 | nil=>exact zO
 | ev h _ ih=>exact sr Iz h.h ih
 | cl h _ ih=>exact sr Iz h.h ih
abbrev acZ(K:aw)(A:Hp):B0->List (V×V)->Prop:=jI λp q=>∃i,p.1= .int i/\q.1= .int i/\Rp K A p.2 q.2
theorem New.trans'(h:New A H B)(k:New H F B):New A F B:=λp h1 h2=>k p (h p h1 h2) h2
theorem Eg:∀(R:List (Int×MV)) (Γ Γ':Ev) (A H:Hp) (kvs:B0) (Q:List (V×V)->Hp->Prop),bh K A B H O σ Γ->mF j R Γ = .ok (kvs,Γ') ->
 (∀ps A' H',bh K A' B H' O σ Γ'->aF A A'->New A A' B->acZ K A' kvs ps->Q ps H')->sE (R.map (trM K O j)) σ H Q
 | [],Γ,Γ',A,H,kvs,Q,r,e,k=>by
  cases e;exact k [] A H r (aF.refl _) (λ_ h _=>h) .nil
 | (i,.ev m)::R,Γ,Γ',A,H,kvs,Q,r,e,k=>by
  obtain ⟨d,e1,e⟩:=AO.au e;obtain ⟨q,e2,e⟩:=AO.au e;cases e;refine ⟨A,B,Γ,d,r,e1,λv A1 H1 g1 p1=>?_⟩;exact Eg R Γ q.2 A1 H1 q.1 _ (r.grow g1) e2 λps A2 H2 r2 s2 n2 p2=>k _ A2 H2 r2 (g1.aa.trans s2) ((g1.nB r.b).trans' n2) (.cons ⟨i,rfl,rfl,Rp.mono s2 _ p1⟩ p2)
 | (i,.cl f ms)::R,Γ,Γ',A,H,kvs,Q,r,e,k=>by
  obtain ⟨ds,e1,e⟩:=AO.au e;obtain ⟨t,e2,e⟩:=AO.au e
  cases ht:pg t with
  | none=>rw[ht] at e;cases e
  | some q0=>
   obtain ⟨d,dm⟩:=q0;rw[ht] at e;obtain ⟨q,e3,e⟩:=AO.au e;cases e;have h3:=yX ht;subst h3;refine ⟨A,B,Γ,ds,d,dm,r,e1,e2,λv A1 H1 r1 s1 n1 p1=>?_⟩;exact Eg R _ q.2 A1 H1 q.1 _ r1 e3 λps A2 H2 r2 s2 n2 p2=>k _ A2 H2 r2 (s1.trans s2) (n1.trans' n2) (.cons ⟨i,rfl,rfl,Rp.mono s2 _ p1⟩ p2)
theorem bh.guard{p0:Addr}{o:HO}(r:bh K A B H O σ Γ)(hp:H p0=none):bh K A (AU B p0 o) (AU H p0 o) O σ Γ:=by
 have hA:=r.a.free hp;have hB:=r.b.free hp;have sB:=aF.new hB o;have sH:=aF.new hp o;have ne:∀{p:Addr}{u:HO},H p=some u->p≠p0:=λe z=>by rw[z,hp] at e;cases e
 refine ⟨r.a.trans sH,λb u q=>?_,r.len,λi d e=>?_,r.sep⟩
 . by_cases hb:b=p0
   . subst hb;rw[aU] at q ⊢;exact q
   . rw[aH hb] at q ⊢;exact r.b b u q
 . obtain ⟨v,ev,q⟩:=r.slot i d e;refine ⟨v,ev,?_⟩
   cases hf:fl O i with
   | AW=>rwa [hf] at q
   | AV=>rw[hf] at q;exact Pk.mono (aF.refl _) sB q
   | own=>
    rw[hf] at q;obtain ⟨p',o',rfl,u1,u2,u3,u4⟩:=q;exact ⟨p',o',rfl,sH _ _ u1,u2,by rw[aH (ne u1)];exact u3,u4⟩
   | fix p1=>
    rw[hf] at q;obtain ⟨q0,p',o',rfl,u1,u2,u3,u4⟩:=q;exact ⟨q0,p',o',rfl,sH _ _ u1,u2,by rw[aH (ne u1)];exact u3,u4⟩
   | exc C=>rwa [hf] at q
   | kit=>rwa [hf] at q
   | nst b=>
    rw[hf] at q;intro z;obtain ⟨p',xs,kvs,w1,w2,w3,w4,w5,w6⟩:=q z;exact ⟨p',xs,kvs,w1,w2,sH _ _ w3,w4,by rw[aH (ne w3)];exact w5,w6⟩
noncomputable def HN:List (Int×MV)->B3:=λR=>R.map (·.1)
noncomputable def CP(j:Nat)(R:List (Int×MV)):MS:=λΓ=>(mF j R Γ).bind λq=>match gv q.2 j with
 | some dm=>gd ((HN R).Nodup/\R.length<=15) (.ok (.rt (.tuple [.dict q.1,dm])))
 | none=>.bad
theorem xV:∀{R:List (Int×MV)}{Γ Γ':Ev}{kvs:B0},mF j R Γ = .ok (kvs,Γ')->kvs.map (·.1)=(HN R).map ab.int
 | [],Γ,Γ',kvs,e=>by cases e;rfl
 | (i,.ev m)::R,Γ,Γ',kvs,e=>by
  obtain ⟨d,e1,e⟩:=AO.au e;obtain ⟨q,e2,e⟩:=AO.au e;cases e;show ab.int i::q.1.map (·.1)=_;rw[xV e2];rfl
 | (i,.cl f ms)::R,Γ,Γ',kvs,e=>by
  obtain ⟨ds,e1,e⟩:=AO.au e;obtain ⟨t,e2,e⟩:=AO.au e
  cases ht:pg t with
  | none=>rw[ht] at e;cases e
  | some q0=>
   rw[ht] at e;obtain ⟨q,e3,e⟩:=AO.au e;cases e;show ab.int i::q.1.map (·.1)=_;rw[xV e3];rfl
theorem Gh:∀(more kvs:A8),((kvs++more).map (·.1)).Nodup->lR kvs more=kvs++more
 | [],kvs,_=>by rw[dA];rfl
 | p::r,kvs,h=>by
  show lR (putK kvs p.1 p.2) r=_;have hn:(kvs.any λkv=>decide (kv.1=p.1))=false:=by
   rw[sg];intro q hq z;rw[a7,a8] at h;exact (fm.mp h).2.2 q.1 (cf.mpr ⟨q,hq,rfl⟩) p.1 bX (of_decide_eq_true z)
  have e:putK kvs p.1 p.2=kvs++[(p.1,p.2)]:=by rw[putK,if_neg (by rw[hn];exact eW)]
  rw[e,Gh r (kvs++[(p.1,p.2)]) (by rw[d6];exact h),d6];rfl
theorem acF{ps:List (V×V)}(h:acZ K A kvs ps):∃u:A8,ps=u.map (λkv=>(kV kv.1,kv.2))/\bu K A kvs u/\u.map (·.1)=(kvs.filterMap λp=>bM p.1)/\u.length=kvs.length:=by
 induction h with
 | nil=>exact ⟨[],rfl,bu.nil.mpr rfl,rfl,rfl⟩
 | @cons p q ps qs h t ih=>
  obtain ⟨i,h1,h2,h3⟩:=h;obtain ⟨u,e1,e2,e3,e4⟩:=ih;obtain ⟨kd,d⟩:=p;obtain ⟨x,v⟩:=q;cases h1;cases h2;refine ⟨(.inl i,v)::u,by rw[e1];rfl,bu.cons.mpr ⟨.inl i,v,u,rfl,rfl,h3,e2⟩,?_,by rw[bt,bt,e4]⟩;rw[a8,e3];rfl
variable {values:C1}
section
variable   {keys:List (Option Expr)}  {R:List (Int×MV)}{dpos:Pos}
theorem V3(j:Nat)(hj:fl O j= .fix c)(h:ie X O j keys values R)(hall:keys.all (·.isSome)=true)(hl:keys.length=values.length)(h0:keys≠[])(h15:keys.length<=15) :
 QS X (.Return (some (.Dict keys values dpos)) pos) (tS X.K (.m c) Ol O O' (CP j R)):=QS.imp (yF (Fe h.pps hall hl h0 h15)) λD σ H az=>by
 obtain ⟨A,B,Γ,o,r,em,k⟩:=az;obtain ⟨q,e1,em⟩:=AO.au em
 cases hg:gv q.2 j with
 | none=>rw[hg] at em;cases em
 | some dm=>
  rw[hg] at em;obtain ⟨⟨hnd,af7⟩,em⟩:=b7 em;cases em;intro p0 hp;refine Eg R Γ q.2 A _ q.1 _ (r.guard hp) e1 λps A2 H2 r2 s2 n2 p2=>?_;obtain ⟨u,eu,ru,ku,lu⟩:=acF p2;have hk:u.map (·.1)=(HN R).map kU:=by
   rw[ku];have:=xV e1;have gen:∀(l:B0) (is:B3),l.map (·.1)=is.map ab.int->l.filterMap (λc=>bM c.1)=is.map kU:=λl=>by
    induction l with
    | nil=>intro is e;cases is with
     | nil=>rfl
     | cons _ _=>cases e
    | cons x l ih=>intro is e;cases is with
     | nil=>cases e
     | cons i is=>
      rw[a8,a8] at e;injection e with ea eb;rw[ma,ea,ih is eb];rfl
   exact gen _ _ this
  have hnu:(u.map (·.1)).Nodup:=by
   rw[hk];exact xt.map _ (λa b hab z=>hab (kU.inj z)) hnd
  have hlen:u.length<=15:=by
   have:=congrArg List.length hk;rw[af,af] at this;unfold HN at this;rw[af] at this;lia
  refine ⟨r2.b _ _ aU,u,eu,hlen,?_⟩;rw[Gh u [] (by rw[fe];exact hnu),fe];obtain ⟨dm',p',o',q1,q2,q3,q4,q5,q6⟩:=r2.nY (by rw[hj];rfl) (by rw[hg];simp);rw[hg] at q1;cases q1;obtain ⟨v',ev',qv⟩:=r2.slot j _ hg;rw[hj] at qv;obtain ⟨rfl,_⟩:=qv;rw[ev'] at q2;cases q2;have hpp:c≠p0:=λz=>by rw[z,aU] at q5;cases q5
  have hA0:=r.a.free hp;have hA2:=n2 p0 hA0 (by rw[aU];simp);have hB0:=r.b.free hp;have sA:aF A2 (AU A2 p0 (.dK u)):=aF.new hA2 _;refine k (.ref p0) (AU A2 p0 (.dK u)) _ (λb w e=>?_) (λb w e=>?_) (s2.trans sA) (λb h1 h2=>?_) ⟨.dict q.1,dm,o',rfl,?_,?_,?_,?_⟩
  . by_cases hb:b=p0
    . subst hb;rw[aU] at e ⊢;exact e
    . rw[aH hb] at e ⊢;exact r2.a _ _ e
  . have hb:b≠p0:=λz=>by rw[z,hB0] at e;cases e
    rw[aH hb];exact r2.b _ _ (by rw[aH hb];exact e)
  . have hb:b≠p0:=λz=>h2 (by rw[z];exact hB0);rw[aH hb];exact n2 b h1 (by rw[aH hb];exact h2)
  . rw[Rp];exact ⟨p0,u,rfl,.inl aU,bu.mono sA _ ru⟩
  . rw[aH hpp];exact q3
  . rw[aH hpp];exact q4
  . exact q6.mono sA
end
theorem Yh(z:xs.length<=bE)(hd:(a == gp)=false)(dd:h'.DictOfH (qA (rh P w)) a xs):gb P w A h' a (jV a xs):=by
 obtain ⟨o,es,ep,h1,h2,h3,h4,_,h5⟩:=dd;exact ⟨⟨z,hd,h5,o,es,ep,h1,h2,h3,h4⟩,⟨o,h1⟩,λg1 g2 ⟨a1,a2,a3,o',es',ep',b1,b2⟩ k=>⟨a1,a2,a3,o',es',ep',k _ b1,b2⟩⟩
section
variable      {b:Addr}  {u r:a9}{A:ke}   {k:B3}
theorem Yi(I:AQ X AK σ H s)(e:H a=some (jV a xs))(r:∀x∈xs,SqT X.K H x.2.1 (x.1.map V.int)):xs.length<=bE/\(a == gp)=false/\s.heap.DictOfH (qA (rh X.prog X.w)) a xs:=by
 obtain ⟨⟨z,y,h5,o,es,ep,h1,h2,h3,h4⟩,_⟩:=(I.AY a _ e);exact ⟨z,y,o,es,ep,h1,h2,h3,h4,λx hx=>yW I (r x hx),h5⟩
theorem aeI(I:AQ X AK σ H s)(e:H a=some (.dK [])):AQ X AK σ (AU H a (jV a [])) s:=by
 obtain ⟨z,hd,vs,rel,dd⟩:=CG I.AY e;cases rel;obtain ⟨o,es,ep,h1,h2,h3,_,h4,_⟩:=dd
 have hes:es.toList=[]:=by cases h:es.toList with
  | nil=>rfl
  | cons x t=>rw[h] at h4;cases h4
 exact mQ I (by rw[e];exact kr) ⟨rfl,λ_ _=>rfl⟩ ⟨o,h1⟩ (Yh (kz _) hd ⟨o,es,ep,h1,h2,h3,by rw[hes];rfl,λx hx=>(nomatch hx),AA⟩)
theorem stored_new{k:B3}{u:a9}(h:k∉xs.map (·.1)):xh xs k a u=xs++[(k,a,u)]:=by
 have e:pT xs k=none:=by
  rw[pT,sf,oj];exact λx hx z=>h (cf.mpr ⟨x,hx,by simpa using z⟩)
 rw[xh,if_neg (by rw[e];exact λz=>nomatch z)]
theorem adJ{ys:C0}{o:HO}(e:H a=some (jV a xs))(q:SqT K H c ys):SqT K (AU H a o) c ys:=by
 rcases q with q | q
 . have hc:c≠a:=λz=>by
    subst z;rcases q with q | ⟨_,q⟩ <;> (rw[e] at q;cases q)
   left;rcases q with q | ⟨w,q⟩
   . exact .inl (by rw[aH hc];exact q)
   . exact .inr ⟨w,by rw[aH hc];exact q⟩
 . exact .inr q
theorem M5(hu:A.units<kb):∀(ys:List (B3×Addr×a9)) (xs:List (B3×Addr×a9)) (s:dy) (H:Hp) (Q:PUnit->dy->Prop),AQ X AK σ H s->H a=some (jV a xs)->(∀x∈xs++ys,SqT X.K H x.2.1 (x.1.map V.int))->((xs++ys).map (·.1)).Nodup->(xs++ys).length<=bE ->
 (∀s',AQ X AK σ (AU H a (jV a (xs++ys))) s'->Q PUnit.unit s')->eI (eL X.prog X.w) A (storeAll a (ys.map λx=>(.ref x.2.1,x.2.2))) Q E s
 | [],xs,s,H,Q,I,e,hk,hn,hl,k=>by
  rw[storeAll,fv,List.forIn_nil];refine bo (k s ?_);rw[dA];have:AU H a (jV a xs)=H:=by
   funext c
   by_cases hc:c=a
   . subst hc;rw[aU,e]
   . rw[aH hc]
  rw[this];exact I
 | y::ys,xs,s,H,Q,I,e,hk,hn,hl,k=>by
  rw[storeAll,a8,zD];obtain ⟨z,hd,dd⟩:=Yi I e λx hx=>hk x (eM _ hx);refine ag (ag (wpAny_dictSet_heap hu (yW I (hk y (dn _ bX))) dd λh' dd' hs=>bo ?_));have hny:=λq=>by
   rw[a7,a8] at hn;exact (fm.mp hn).2.2 y.1 q y.1 bX rfl
  rw[stored_new hny] at dd';have he:∃q,h'.get? a=some q:=let ⟨q,_,_,hq,_⟩:=dd';⟨q,hq⟩;have hl2:(xs++[(y.1,y.2.1,y.2.2)]).length<=bE:=by
   rw[ai,bt] at hl;rw[ai,cy];lia
  have I2:=mQ (t':=s.toks+(qA (rh X.prog X.w)).draws y.1) I (by rw[e];exact kr) hs he (Yh hl2 hd dd');have ea:xs++[(y.1,y.2.1,y.2.2)]++ys=xs++y::ys:=by rw[d6];rfl
  refine M5 hu ys (xs++[(y.1,y.2.1,y.2.2)]) _ _ Q I2 aU (λx hx=>?_) (by rw[ea];exact hn) (by rw[ea];exact hl) λs' I'=>k s' (by rwa [NT,ea] at I');rw[ea] at hx;exact adJ e (hk x hx)
end
def afU(K:aw)(trs:List (TE×TE)):TE:=λσ H Q=>∀p,H p=none->sE trs σ (AU H p (.dK [])) λps H2=>H2 p=some (.dK [])/\∃kvs:List (B3×Addr×V),ps=kvs.map (λkv=>(V.ref kv.2.1,kv.2.2))/\(∀kv∈kvs,SqT K H2 kv.2.1 (kv.1.map V.int))/\(kvs.map (·.1)).Nodup/\kvs.length<=15 /\
 ∀xs,jI (λ(a:B3×Addr×V) (b:B3×Addr×a9)=>a.1=b.1/\a.2.1=b.2.1/\AR a.2.2 b.2.2) kvs xs->Q (.ref p) (AU H2 p (jV p xs))
theorem Um:∀{kvs:List (B3×Addr×V)}{ws:List (a9×a9)},VV (kvs.map λkv=>(V.ref kv.2.1,kv.2.2)) ws->∃xs:List (B3×Addr×a9),ws=xs.map (λx=>(.ref x.2.1,x.2.2))/\jI (λ(a:B3×Addr×V) (b:B3×Addr×a9)=>a.1=b.1/\a.2.1=b.2.1/\AR a.2.2 b.2.2) kvs xs
 | [],_,r=>by rw[fv] at r;cases r;exact ⟨[],rfl,.nil⟩
 | p::kvs,_,r=>by
  rw[a8] at r
  cases r with
  | @cons a b as bs h t=>
   obtain ⟨xs,e,q⟩:=Um t;obtain ⟨b1,b2⟩:=b;obtain ⟨h1,h2⟩:=h;cases (h1);exact ⟨(p.1,p.2.1,b2)::xs,by rw[e];rfl,.cons ⟨rfl,rfl,h2⟩ q⟩
theorem HQ:∀{kvs:List (B3×Addr×V)}{xs:List (B3×Addr×a9)},jI (λ(a:B3×Addr×V) (b:B3×Addr×a9)=>a.1=b.1/\a.2.1=b.2.1/\AR a.2.2 b.2.2) kvs xs->xs.map (·.1)=kvs.map (·.1)/\(∀x∈xs,∃kv∈kvs,kv.1=x.1/\kv.2.1=x.2.1)
 | _,_,.nil=>⟨rfl,λx hx=>nomatch hx⟩
 | _,_,.cons h t=>by
  obtain ⟨h1,h2⟩:=HQ t;refine ⟨by rw[a8,a8,h1,h.1],λx hx=>?_⟩;rcases cp.mp hx with rfl | hx
  . exact ⟨_,bX,h.1,h.2.1⟩
  . obtain ⟨kv,hk,e⟩:=h2 x hx;exact ⟨kv,cc _ hk,e⟩
theorem acG{trs:List (TE×TE)}(hu:X.A.units<kb)(h:PPs X pos ks values trs)(hall:ks.all (·.isSome)=true)(hl:ks.length=values.length)(h0:ks≠[])(h15:ks.length<=15) :
 PE X (.Dict ks values pos) (afU X.K trs):=by
 intro AK s σ H Q I q;have hn:=I.AY.fresh (ay s.heap.objs.size);have I1:=I.laid (t':=s.toks) (λ_ _ q=>aE _ q) (ay _) (Be s.heap I.big);refine wpAny_Dict_any hall hl h0 h15 (thn (h AK _ σ _ _ I1 (q _ hn)) λws s2 az=>?_);obtain ⟨ps,H2,I2,rel,e,kvs,ep,hk,hnd,lk,q2⟩:=az;subst ep;obtain ⟨xs,ex,px⟩:=Um rel;subst ex;obtain ⟨k1,k2⟩:=HQ px;have I3:=aeI I2 e;have hxl:=by
  have:=congrArg List.length k1;rwa [af,af] at this
 have hsq:∀x∈([]:List (B3×Addr×a9))++xs,SqT X.K (AU H2 s.heap.objs.size (jV s.heap.objs.size [])) x.2.1 (x.1.map V.int):=λx hx=>by
  obtain ⟨kv,hkv,e1,e2⟩:=k2 x hx;rw[<- e1,<- e2];rcases hk kv hkv with z | z
  . have hc:kv.2.1≠s.heap.objs.size:=λy=>by
     rw[y] at z;rcases z with z | ⟨_,z⟩ <;> (rw[e] at z;cases z)
    left;rcases z with z | ⟨w,z⟩
    . exact .inl (by rw[aH hc];exact z)
    . exact .inr ⟨w,by rw[aH hc];exact z⟩
  . exact .inr z
 refine M5 hu xs [] s2 _ _ I3 aU hsq (by rw[fe,k1];exact hnd) (by rw[fe,hxl,sizeLine_eq];lia) λs' I'=>?_;rw[NT,fe] at I';exact ⟨.ref s.heap.objs.size,_,I',rfl,q2 xs px⟩
noncomputable def zK:List (ME×ME)->Ev->AO B0
 | [],_=>.ok []
 | (mk,mv)::r,Γ=>(mk Γ).bind λkd=>(mv Γ).bind λd=>(zK r Γ).bind λq=>match pX kd with
  | some _=>.ok ((kd,d)::q)
  | none=>.bad
noncomputable def BZ(kvs:B0):List B3:=kvs.filterMap λp=>pX p.1
noncomputable def zA(i:Nat)(R:List (ME×ME)):MS:=λΓ=>(zK R Γ).bind λkvs=>gd ((BZ kvs).Nodup/\kvs.length<=15/\i < Γ.length) (.ok (.nx (Γ.set i (some (.dict kvs)))))
inductive nW (X:Cx) (O:B9):List (Option Expr)->C1->List (ME×ME)->Prop
 | nil:nW X O [] [] []
 | cons {k v:Expr}{ks:List (Option Expr)}{vs:C1}{mk mv:ME}{R:List (ME×ME)}:QE X k (tE X.K O mk)->QE X v (tE X.K O mv)->nW X O ks vs R->nW X O (some k::ks) (v::vs) ((mk,mv)::R)
theorem nW.pps{R:List (ME×ME)}(h:nW X O ks vs R):PPs X pos ks vs (R.map λp=>(tE X.K O p.1,tE X.K O p.2)):=by
 induction h with
 | nil=>exact zO
 | cons h1 h2 _ ih=>exact sr h1.h h2.h ih
abbrev Ip(K:aw)(A:Hp):B0->List (B3×Addr×V)->Prop:=jI λp q=>pX p.1=some q.1/\SqT K A q.2.1 (q.1.map V.int)/\Rp K A p.2 q.2.2
theorem Rp.abO{kd:ab}{k:B3}(h:Rp K A kd v)(hk:pX kd=some k):∃b,v= .ref b/\SqT K A b (k.map V.int):=by
 cases kd with
 | tuple ds=>
  obtain ⟨a,vs,rfl,h1,h2⟩:=Rp.tuple.mp h;rw[aA.QH h2 hk] at h1;exact ⟨a,rfl,h1⟩
 | _=>cases hk
theorem Ir:∀(R:List (ME×ME)) (A H:Hp) (kvs:B0) (Q:List (V×V)->Hp->Prop),bh K A B H O σ Γ->zK R Γ = .ok kvs ->
 (∀us A' H',aZ A H A' H'->Ip K A' kvs us->Q (us.map λu=>(V.ref u.2.1,u.2.2)) H')->sE (R.map λp=>(tE K O p.1,tE K O p.2)) σ H Q
 | [],A,H,kvs,Q,r,e,k=>by cases e;exact k [] A H (aZ.refl r.a) .nil
 | (mk,mv)::R,A,H,kvs,Q,r,e,k=>by
  obtain ⟨kd,e1,e⟩:=AO.au e;obtain ⟨d,e2,e⟩:=AO.au e;obtain ⟨q,e3,e⟩:=AO.au e
  cases hk:pX kd with
  | none=>rw[hk] at e;cases e
  | some key=>
   rw[hk] at e;cases e;refine ⟨A,B,Γ,kd,r,e1,λkv A1 H1 g1 p1=>⟨A1,B,Γ,d,r.grow g1,e2,λv A2 H2 g2 p2=>?_⟩⟩;obtain ⟨b,rfl,hb⟩:=Rp.abO p1 hk;exact Ir R A2 H2 q _ ((r.grow g1).grow g2) e3 λus A3 H3 g3 p3=>k ((key,b,v)::us) A3 H3 ((g1.trans g2).trans g3) (.cons ⟨hk,(g2.aa.trans g3.aa).fX hb,Rp.mono g3.aa _ p2⟩ p3)
variable {us:List (B3×Addr×V)}
theorem Ip.keys(h:Ip K A kvs us):us.map (·.1)=BZ kvs/\us.length=kvs.length/\∀u∈us,SqT K A u.2.1 (u.1.map V.int):=by
 induction h with
 | nil=>exact ⟨rfl,rfl,λu hu=>nomatch hu⟩
 | @cons p q ps qs h t ih=>
  obtain ⟨h1,h2,h3⟩:=ih;refine ⟨by unfold BZ at h1 ⊢;rw[a8,ma,h.1,h1],by rw[bt,bt,h2],λu hu=>?_⟩;rcases cp.mp hu with rfl | hu
  . exact h.2.1
  . exact h3 u hu
theorem Ip.kit(h:Ip K A kvs us):∀{xs:List (B3×Addr×a9)},jI (λ(a:B3×Addr×V) (b:B3×Addr×a9)=>a.1=b.1/\a.2.1=b.2.1/\AR a.2.2 b.2.2) us xs->RpT K A kvs xs:=by
 induction h with
 | nil=>intro xs p;cases p;exact .nil
 | @cons p q ps qs h t ih=>
  intro xs px
  cases px with
  | @cons _ b _ bs hb tb=>
   refine .cons ⟨by rw[<- hb.1];exact h.1,by rw[<- hb.1,<- hb.2.1];exact h.2.1,q.2.2,hb.2.2,h.2.2⟩ (ih tb)
theorem bh.uG{d:ab}(r:bh K A B H O σ Γ)(hi:i < Γ.length)(hO:i<O.length)(p:qI K A d v):bh K A B H (O.set i .kit) (σ.set i (some v)) (Γ.set i (some d)):=by
 have hs:i < σ.length:=by rw[<- r.len];exact hi
 refine ⟨r.a,r.b,by rw[fx,fx];exact r.len,λj=>?_,λj k hjk h1 h2 h3 h4=>?_⟩
 . by_cases hj:i=j
   . subst hj;unfold fl gv sv;rw[bL hO,bL hi,bL hs];exact λd' e=>by cases e;exact ⟨v,rfl,p⟩
   . unfold fl gv sv;rw[aR hj,aR hj,aR hj];exact r.slot j
 . have hj:i≠j:=λz=>by subst z;unfold fl at h1;rw[bL hO] at h1;cases h1
   have hk:i≠k:=λz=>by subst z;unfold fl at h2;rw[bL hO] at h2;cases h2
   unfold fl at h1 h2;unfold gv at h3 h4;rw[aR hj] at h1 h3;rw[aR hk] at h2 h4;unfold sv;rw[aR hj,aR hk];exact r.sep j k hjk h1 h2 h3 h4
section
variable    {keys:List (Option Expr)}  {R:List (ME×ME)}{dpos pos':Pos}
theorem acK(i:Nat){O2:B9}(hu:X.A.units+66<kb)(hN:X.N.Nodup)(hi:X.N[i]?=some y)(hx:Loc X.env.scope y)(h:nW X O keys values R)(hall:keys.all (·.isSome)=true)(hl:keys.length=values.length)(h0:keys≠[])(h15:keys.length<=15)(hil:i<O.length)
 (hs:h9 (.Dict keys values dpos) (some (.Name y pos')) pos.line X.env=pure false:=by rfl) (hf:X.fn y=true\/X.env.scope.names.lookup y=some .local:=by walk_at "hf") (hO:O.set i .kit=O2:=by rfl) :
 QS X (.Assign [.Name y pos'] (.Dict keys values dpos) pos) (tS X.K rm Ol O O2 (zA i R)):=
 hO ▸ QS.imp (Dh hN hi hx (acG (by lia) h.pps hall hl h0 h15) hs hf) λD σ H az=>by
  obtain ⟨A,B,Γ,o,r,em,k⟩:=az;obtain ⟨kvs,e1,em⟩:=AO.au em;obtain ⟨⟨hnd,hkl,hig⟩,em⟩:=b7 em;cases em;intro p hp;have g0:aZ A H A (AU H p (.dK [])):=aZ.lay r.a hp;refine Ir R A _ kvs _ (r.grow g0) e1 λus A2 H2 g2 pk=>?_;obtain ⟨k1,k2,k3⟩:=pk.keys;have pa:=g2.nw p (r.a.free hp) (by rw[aU];simp);refine ⟨g2.hh _ _ aU,us,rfl,λu hu=>g2.ah.fX (k3 u hu),by rw[k1];exact hnd,by lia,λxs px=>?_⟩;have sA:aF A2 (AU A2 p (jV p xs)):=aF.new pa _;have gg:aZ A H (AU A2 p (jV p xs)) (AU H2 p (jV p xs)):=by
   refine ⟨g2.aa.trans sA,λb o q=>?_,λb o q=>?_,λb q1 q2=>?_⟩
   . have hb:=c7 q hp;rw[aH hb];exact g2.hh _ _ (by rw[aH hb];exact q)
   . by_cases hb:b=p
     . subst hb;rw[aU] at q ⊢;exact q
     . rw[aH hb] at q ⊢;exact g2.ah _ _ q
   . have hb:b≠p:=λz=>q2 (z ▸ hp);rw[aH hb];exact g2.nw b q1 (by rw[aH hb];exact q2)
  exact k _ _ _ ((r.grow gg).uG hig hil ⟨p,xs,kvs,rfl,rfl,aU,Paired.sO (pk.kit px) λ_ _ z=>⟨z.1,sA.fX z.2.1,z.2.2.imp λv y=>⟨y.1,Rp.mono sA _ y.2⟩⟩⟩) gg.aa (gg.nB r.b)
end
noncomputable def zF(key:B3):B0->Option ab
 | []=>none
 | (k,d)::r=>if pX k=some key then some d else zF key r
noncomputable def Jb(i:Nat)(m:ME):ME:=λΓ=>(m Γ).bind λkd=>match gv Γ i with
 | some (.dict kvs)=>match pX kd with
  | some key=>match zF key kvs with
   | some d=>.ok d
   | none=>.bad
  | none=>.bad
 | _=>.bad
theorem RpT.look{key:B3}{d:ab}(h:RpT K A kvs xs)(e:zF key kvs=some d):∃p v,pT xs key=some p/\AR v p.2/\Rp K A d v:=by
 induction h with
 | nil=>cases e
 | @cons p q ps qs h t ih=>
  obtain ⟨kd,d0⟩:=p;obtain ⟨h1,h2,v,h3,h4⟩:=h;unfold zF at e
  by_cases hk:pX kd=some key
  . rw[if_pos hk] at e;cases e;have hq:=Option.some.inj (h1.symm.trans hk);exact ⟨q.2,v,by simp[pT,iA,hq],h3,h4⟩
  . rw[if_neg hk] at e;obtain ⟨p',v',e1,e2⟩:=ih e;have hq:¬ q.1=key:=λz=>hk (h1.trans (by rw[z]));exact ⟨p',v',by rw[<- e1];simp[pT,iA,hq],e2⟩
theorem RpT.all(h:RpT K A kvs xs):∀x∈xs,SqT K A x.2.1 (x.1.map V.int):=by
 induction h with
 | nil=>intro x hx;exact nomatch hx
 | cons h t ih=>
  intro x hx;rcases cp.mp hx with rfl | hx
  . exact h.2.1
  . exact ih x hx
section
variable   {m:ME}{a:Expr}{xp:Pos}
def ac5(K:aw):R2:=λx y H Q=>∃p b xs k q v,x= .ref p/\y= .ref b/\H p=some (jV p xs)/\(∀z∈xs,SqT K H z.2.1 (z.1.map V.int))/\SqT K H b (k.map V.int)/\pT xs k=some q/\AR v q.2/\Q v H
theorem ae3(hu:X.A.units+66<kb):IxR X (ac5 X.K):=by
 intro value slice AK s σ H x y v u Q I rx ry h hs;obtain ⟨p,b,xs,k,w,v0,rfl,rfl,h1,h2,h3,h4,h5,q⟩:=h;cases (rx);cases (ry);have dd:=(Yi I h1 h2).2.2;have hT:=dd.typeIs;refine ag ?_;rw[mT hT.not_modules];refine ag (kQ hT kX.lookup ?_);have hroom:=show X.A.units+1<kb by lia
 have fin:eI (eL X.prog X.w) X.A (oQ slice false (.ref p) (.ref b)) (λr s₃=>eI (eL X.prog X.w) X.A (rX value (.ref p) r >>= λ_=>pure r) (EP X AK σ Q) X.xe s₃) X.xe s:=by
  rw[hs];exact qf (ib (wa hroom (yW I h3) dd h4 (⟨v0,H,I.tok _,h5,q⟩:EP X AK σ Q w.2 _)) (λr s₃ h₃=>ag (nE (bo h₃))) λ_ _ x=>x)
 first
  | exact bo (ag fin)
  | exact ag (bo (ag fin))
  | exact ag fin
theorem acJ(i:Nat)(hu:X.A.units+66<kb)(ha:QE X a (tE X.K O m))(hs:lD a)(hi:fl O i= .kit:=by rfl)(nm:Nm X i x:=by walk_at "nm"):QE X (.Subscript (.Name x xp) a pos) (tE X.K O (Jb i m)):=
 QE.imp (Cg (ae3 hu) (dW nm.1 nm.2 nm.3 nm.4) ha.h hs) λσ H Q az=>by
  obtain ⟨A,B,Γ,d,r,em,k⟩:=az;obtain ⟨kd,e1,em⟩:=AO.au em
  cases hg:gv Γ i with
  | none=>rw[hg] at em;cases em
  | some dl=>
   rw[hg] at em
   cases dl with
   | dict kvs=>
    have em:=em
    cases hk:pX kd with
    | none=>rw[hk] at em;cases em
    | some key=>
     rw[hk] at em;have em:(match zF key kvs with | some d=>AO.ok d | none=>.bad)= .ok d:=em
     cases hl:zF key kvs with
     | none=>rw[hl] at em;cases em
     | some d0=>
      rw[hl] at em;cases em;obtain ⟨v,ev,q⟩:=r.slot i _ hg;rw[hi] at q;obtain ⟨p,xs,kvs',rfl,e2,h1,h2⟩:=q;cases e2;obtain ⟨w,v0,h3,h4,h5⟩:=RpT.look h2 hl;refine ⟨.ref p,dU ev,A,B,Γ,kd,r,e1,λv A1 H1 g1 p1=>?_⟩;obtain ⟨b,rfl,nt⟩:=Rp.abO p1 hk;exact ⟨p,b,xs,key,w,v0,rfl,rfl,g1.hh _ _ (r.a _ _ h1),λz hz=>(g1.aa.trans g1.ah).fX (RpT.all h2 z hz),g1.ah.fX nt,h3,h4,k _ A1 H1 g1 (Rp.mono g1.aa _ h5)⟩
   | _=>cases em
end
def spT(K:aw)(f0:Fl)(rm:Rm)(f:B4->AO ab):Sp:=λvs H Q _=>∃A d0 dk d v0 v1,aF A H/\vs=[v0,v1]/\BL K A H f0 d0 v0/\qI K A dk v1/\f [d0,dk]= .ok d/\∀v A' H',aZ A H A' H'->WT K rm H A' H' d v->Q v H'
section
variable     {base:Heap}
theorem O6{f0 o0:Fl}{d0 dk:ab}{v1:V}(ha:aF A H)(h0:BL K A H f0 d0 v)(h1:qI K A dk v1)(hO:(o0= .AW/\f0= .AW)\/(o0= .AV/\f0= .AV))(hn:2<=N.length) :
 bh K A H H (o0 :: .kit::O) (Zq.start N [v,v1]) ([d0,dk].map some++ax (N.length - 2) none):=by
 have gvN:∀i,2<=i->gv ([d0,dk].map some++ax (N.length - 2) none) i=none:=λi hi=>by
  rw[gv,ae,b9 (by simpa using hi),iO];split <;> rfl
 refine ⟨ha,aF.refl _,?_,λi d e=>?_,λi j hij q1 q2 q3 q4=>?_⟩
 . unfold Zq.start;simp
 . match i,e with
   | 0,e=>
    cases e;refine ⟨v,rfl,?_⟩;rcases hO with ⟨rfl,rfl⟩ | ⟨rfl,rfl⟩
    . exact h0
    . exact h0
   | 1,e=>cases e;exact ⟨v1,rfl,h1⟩
   | i+2,e=>rw[gvN (i+2) (by lia)] at e;cases e
 . match i,q1,q3 with
   | 0,q1,_=>
    have q1:=q1;rcases hO with ⟨rfl,_⟩ | ⟨rfl,_⟩ <;> cases q1
   | 1,q1,_=>cases q1
   | i+2,_,q3=>exact absurd (gvN (i+2) (by lia)) q3
theorem Sy{st:Stmt}{f0 o0:Fl}{m:MS}(F:At K mg x st ps)(S:cX N ps (aN st))(hf:ps.length=2)(hn:2<=N.length)(hO:(o0= .AW/\f0= .AW)\/(o0= .AV/\f0= .AV))
 (hbody:∀(f:Addr) (AN:a9) (A:ke) (BA:C6) (s:dy) (H:Hp) (E:XK),dF ep (A.deeper (oD x (aN st) s.heap.objs.size f AN)) ->
  QSs (mL CX0 P w K mg base N x (aN st) f AN A BA s H E).nox (bR st) (tS K rm Ol (o0 :: .kit::O) O' m)):Def P w K mg base (ep+1) x ps (spT K f0 rm (fnR N.length m)):=by
 refine F.ok S (λvs H Q E h=>?_) (λf AN A BA s H vs Q E hr h=>?_)
 . obtain ⟨A,d0,dk,d,v0,v1,_,rfl,_⟩:=h;rw[hf];rfl
 . obtain ⟨A',d0,dk,d,v0,v1,ha,rfl,h0,h1,em,q⟩:=h;obtain ⟨o,e1,em⟩:=AO.au em
   cases o with
   | rt d'=>
    cases em;refine ⟨_,(hbody f AN A BA s H E hr).h,A',H,_,_,O6 ha h0 h1 hO hn,e1,λv A2 H2 s1 s2 sa nw rv=>q v A2 H2 ⟨sa,s2,s1,nw⟩ rv⟩
   | _=>cases em
end
section
variable   {k:Nat}{fn:Str}  {f:B4->AO ab}{m:ME}{e:Expr}{p2:Pos}
noncomputable def Jt(f:B4->AO ab)(m:ME)(i:Nat):ME:=λΓ=>(m Γ).bind λd=>match gv Γ i with
 | some dk=>f [d,dk]
 | none=>.bad
theorem V4(i:Nat)(hi:fl O i= .kit)(F:Def X.prog X.w X.K X.mg X.base k fn ps (spT X.K .AV .f f))(hr:dF k X.A)(hg:Gl X fn)(ha:QE X e (tP X.K O m))(hdb:nD fn:=by decide)(he:Bn e=true:=by rfl)(nm:Nm X i y:=by walk_at "nm") :
 QE X (.Call (.Name fn p) [e,.Name y p2] [] pos) (tE X.K O (Jt f m i)):=
 QE.imp (CK F hr hg (bW ha.h (bW (dW nm.1 nm.2 nm.3 nm.4) eQ (cN rfl)) (cN he)) hdb (cN he) (iY rfl)) λσ H Q az=>by
  obtain ⟨A,B,Γ,d,r,em,k⟩:=az;obtain ⟨d0,e1,em⟩:=AO.au em
  cases hgk:gv Γ i with
  | none=>rw[hgk] at em;cases em
  | some dk=>
   rw[hgk] at em;refine ⟨A,B,Γ,d0,r,e1,λv0 A1 H1 g1 p1=>?_⟩;obtain ⟨v1,ev,q⟩:=r.slot i _ hgk;rw[hi] at q;refine ⟨v1,dU ev,?_⟩;exact ⟨A1,d0,dk,d,v0,v1,g1.ah,rfl,p1,qI.mono g1.aa q,em,λv A' H' g p=>k v A' H' (g1.trans g) p⟩
end
noncomputable def aX(xs:B3):Int:=xs.foldr (λf n=>2*n+f) 0
theorem cZ(x:Int)(xs:B3):aX (x::xs)=2*aX xs+x:=rfl
theorem jd:∀{xs:B3},(∀x∈xs,0<=x)->0<=aX xs
 | [],_=>nI 0
 | x::xs,h=>by
  have h1:=h x (by simp);have h2:=jd λy hy=>h y (cc _ hy);rw[cZ];lia
theorem two_pos(n:Nat):(0:Int)<2^n:=Int.pow_pos (by decide)
theorem um(xs:B3)(y:Int):aX (xs++[y])=aX xs+2^xs.length*y:=by
 induction xs with
 | nil=>simp[aX]
 | cons x xs ih=>
  rw[gL,cZ,ih,cZ,bt,ll];have:(2:Int)^xs.length*2*y=2*(2^xs.length*y):=by rw[si (2^xs.length) 2,p9]
  rw[this];lia
theorem Vc(xs:B3):xs.reverse.foldl (λn f=>2*n+f) 0=aX xs:=by
 rw[List.foldl_reverse];rfl
noncomputable def ak(b p:Int):Int:=b / 2^p.toNat % 2
theorem aM(b p:Int):ak b p=0\/ak b p=1:=by unfold ak;lia
theorem K1(b p:Int):0<=ak b p:=by unfold ak;lia
theorem ZK(b p:Int):ak b p<=1:=by unfold ak;lia
noncomputable def bx(k r:Nat):B3:=(List.range k).map λj=>((r / 2^j % 2:Nat):Int)
theorem bH(k r:Nat):(bx k r).length=k:=by simp[bx]
variable {r:Nat}
theorem j9{x:Int}(h:x∈bx ep r):x=0\/x=1:=by
 obtain ⟨j,_,e⟩:=cf.mp h;lia
theorem uK(k r:Nat):bx (k+1) r=bx k r++[((r / 2^k % 2:Nat):Int)]:=by
 rw[bx,kR,a7];rfl
theorem uQ(k r:Nat):aX (bx k r)=((r % 2^k:Nat):Int):=by
 induction k with
 | zero=>simp[bx,aX,Nat.mod_one]
 | succ k ih=>
  rw[uK,um,ih,bH,sk,Nat.mod_mul];have e:((2:Int)^k)=(((2^k:Nat)):Int):=by simp
  rw[e,<- Int.natCast_mul];lia
theorem cL(h:r<2^ep):aX (bx ep r)=(r:Int):=by
 rw[uQ,yn h]
noncomputable def gather(b:Int):Nat->Int
 | 0=>0
 | n+1=>gather b n+2^n*ak b n
theorem OD(b:Int)(n:Nat):gather b n=b % 2^n:=by
 induction n with
 | zero=>simp[gather,Int.emod_one]
 | succ n ih=>
  have hp:=two_pos n;rw[gather,ih,ak,cx,ll];have h1:=Int.emod_add_mul_ediv b (2^n);have h2:=Int.emod_add_mul_ediv (b / 2^n) 2;have h3:b=(b % 2^n+2^n*(b / 2^n % 2))+2^n*2*(b / 2^n / 2):=by
   have e:2^n*(b / 2^n)=2^n*(b / 2^n % 2)+2^n*2*(b / 2^n / 2):=by
    rw[p9,<- Int.mul_add,h2]
   lia
  have h4:=kT b (Int.ne_of_gt hp);have h5:=kx b hp;have h6:(b / 2^n % 2=0)\/(b / 2^n % 2=1):=by lia
  have h7:=by
   have e:=congrArg (· % (2^n*2)) h3;simp only[Int.add_mul_emod_self_left] at e;exact e.symm
  rw[<- h7];refine (Int.emod_eq_of_lt ?_ ?_).symm
  . rcases h6 with h | h <;> rw[h] <;> lia
  . rcases h6 with h | h <;> rw[h] <;> lia
variable {b:Int}
theorem Qv(h0:0<=b)(h1:b<2^ep):gather b ep=b:=by
 rw[OD,Int.emod_eq_of_lt h0 h1]
def bO(xs:B3):Prop:=∀x∈xs,x=0\/x=1
theorem bO.nn{xs:B3}(h:bO xs):∀x∈xs,0<=x:=λx hx=>by rcases h x hx with z | z <;> lia
theorem bO.tail{xs:B3}(h:bO (b::xs)):bO xs:=λy hy=>h y (cc _ hy)
theorem bO.map{α:Type}{l:List α}{f:α->Int}(h:∀a∈l,f a=0\/f a=1):bO (l.map f):=λx hx=>by
 obtain ⟨a,ha,rfl⟩:=cf.mp hx;exact h a ha
theorem bO.bits{α:Type}{l:List α}{f g:α->Int}:bO (l.map λa=>ak (f a) (g a)):=bO.map λa _=>aM _ _
theorem zU:∀{xs:B3},bO xs->aX xs<2^xs.length
 | [],_=>by decide
 | x::xs,h=>by
  have h1:=zU h.tail;have h2:=h x (by simp);rw[cZ,bt,ll];lia
theorem tD(b:Int):ak b 0=b % 2:=by unfold ak;simp
theorem ud(b:Int)(n:Nat):ak b ((n+1:Nat):Int)=ak (b / 2) (n:Nat):=by
 unfold ak;rw[cx,cx,Nat.add_comm,Int.pow_add,Int.Vm ,<- Int.ediv_ediv_of_nonneg (by decide)]
where
 Int.Vm:(2:Int)^1=2:=by decide
theorem Bo:∀{xs:B3}{r:Nat}{x:Int},bO xs->xs[r]?=some x->ak (aX xs) (r:Nat)=x
 | [],r,x,_,h=>by simp at h
 | y::xs,0,x,h,e=>by
  have h2:=h y (by simp);have e':=by simpa using e
  rw[cZ];show ak (2*aX xs+y) 0=x;rw[tD];lia
 | y::xs,r+1,x,h,e=>by
  have h2:=h y (by simp);rw[cZ,ud];have e2:(2*aX xs+y) / 2=aX xs:=by lia
  rw[e2];exact Bo h.tail (by simpa using e)
variable {m:Nat}
theorem Hb(h0:0<=b)(h1:b<2^m):aX ((List.range m).map λr=>ak b ((r:Nat):Int))=b:=by
 have key:∀m:Nat,aX ((List.range m).map λr=>ak b ((r:Nat):Int))=gather b m:=by
  intro m
  induction m with
  | zero=>rfl
  | succ m ih=>
   rw[kR,a7,List.map_singleton,um,ih,af,cS];rfl
 rw[key,Qv h0 h1]
theorem WW{c:Int}(h0:0<=b)(h1:b<2^m)(k0:0<=c)(k1:c<2^m)(h:∀r:Nat,r<m->ak b (r:Nat)=ak c (r:Nat)):b=c:=by
 rw[<- Hb h0 h1,<- Hb k0 k1];congr 1;exact cn λr hr=>h r (dQ.mp hr)
noncomputable def tab(m:Nat)(f:Nat->Int):Int:=aX ((List.range m).map f)
theorem JN{f:Nat->Int}(h:∀r,f r=0\/f r=1):bO ((List.range m).map f):=bO.map λa _=>h a
theorem nT{f:Nat->Int}(h:∀r,f r=0\/f r=1):0<=tab m f:=jd (JN h).nn
theorem yG{f:Nat->Int}(h:∀r,f r=0\/f r=1):tab m f<2^m:=by
 have:=zU (JN (m:=m) h);rwa [af,cS] at this
theorem gB{f:Nat->Int}(h:∀r,f r=0\/f r=1){r:Nat}(hr:r<m):ak (tab m f) (r:Nat)=f r:=
 Bo (JN h) (by rw[br,eP hr];rfl)
theorem Iu{f:Nat->Int}(h:∀r,f r=0\/f r=1)(h0:0<=b)(h1:b<2^m)(e:∀r,r<m->f r=ak b (r:Nat)):tab m f=b:=
 WW (nT h) (yG h) h0 h1 λr hr=>by rw[gB h hr,e r hr]
theorem eF{f g:Nat->Int}(e:∀r,r<m->f r=g r):tab m f=tab m g:=by
 unfold tab;congr 1;exact cn λr hr=>e r (dQ.mp hr)
theorem R7:∀{m r:Nat},0<=b->b<2^m->r<m->ak (2^m - 1 - b) (r:Nat)=1 - ak b (r:Nat):=by
 intro m
 induction m generalizing b with
 | zero=>intro r _ _ h;lia
 | succ m ih=>
  intro r h0 h1 hr;rw[ll] at h1 ⊢;have hp:=two_pos m
  cases r with
  | zero=>
   show ak _ 0=1 - ak _ 0;rw[tD,tD];lia
  | succ r=>
   rw[ud,ud];have e:(2^m*2 - 1 - b) / 2=2^m - 1 - b / 2:=by lia
   rw[e];exact ih (by lia) (by lia) (by lia)
noncomputable def iB(n j:Nat):Int:=tab (2^n) λr=>ak (r:Nat) (j:Nat)
noncomputable def cA(b:Int)(ts:B3)(n:Nat):Int:=tab (2^n) λr=>ak b (aX (ts.map λt=>ak t (r:Nat)))
theorem UG(h:r<2^ep):ak (iB ep j) (r:Nat)=ak (r:Nat) (j:Nat):=gB (λ_=>aM _ _) h
theorem Js(n j:Nat):0<=iB n j:=nT λ_=>aM _ _
theorem U6(n j:Nat):iB n j<2^2^n:=yG λ_=>aM _ _
theorem W4{ts:B3}(h:r<2^ep):ak (cA b ts ep) (r:Nat)=ak b (aX (ts.map λt=>ak t (r:Nat))):=gB (λ_=>aM _ _) h
theorem LR(b:Int)(ts:B3)(n:Nat):0<=cA b ts n:=nT λ_=>aM _ _
theorem aaQ(b:Int)(ts:B3)(n:Nat):cA b ts n<2^2^n:=yG λ_=>aM _ _
theorem Ih(r j:Nat):ak (r:Nat) (j:Nat)=((r / 2^j % 2:Nat):Int):=by
 rw[ak,cx];simp
theorem Ad:(List.range ep).map (λj=>ak (r:Nat) (j:Nat))=bx ep r:=by
 exact cn λj _=>Ih r j
theorem uC{xs:B3}(h:bO xs):bx xs.length (aX xs).toNat=xs:=by
 refine List.ext_getElem (bH _ _) λj h1 h2=>?_;have hb:=Bo h (av h2);have hnn:=jd h.nn;have e:(bx xs.length (aX xs).toNat)[j]=ak (((aX xs).toNat:Nat):Int) (j:Nat):=by
  simp only[bx,List.getElem_map,List.getElem_range,Ih]
 rw[e,vv hnn];exact hb
theorem DQ{xs:B3}(h:bO xs):∃r:Nat,r<2^xs.length/\aX xs=(r:Nat)/\bx xs.length r=xs:=by
 have hnn:=jd h.nn;have hlt:=zU h;refine ⟨(aX xs).toNat,?_,(vv hnn).symm,uC h⟩;have e:((2:Int)^xs.length)=(((2^xs.length:Nat)):Int):=by simp
 lia
theorem bO.bx:bO (bx ep r):=λ_ hx=>j9 hx
noncomputable def rW(xs:B3):B3:=xs.map λx=>1 - x
theorem Tz(r:Int):ak 0 r=0:=by unfold ak;simp
noncomputable def lz(j:Nat)(w:Int)(xs:B3):B3:=xs.take j++w::xs.drop j
theorem Rw(f:Int->Int)(j:Nat)(w:Int)(xs:B3):(lz j w xs).map f=lz j (f w) (xs.map f):=by
 unfold lz;rw[a7,a8,List.map_take,List.map_drop]
theorem Kr{xs:B3}(h:j<=xs.length):(lz j b xs).length=xs.length+1:=by
 rw[lz,ai,bt,dr,nV];lia
noncomputable def XF(n:Nat)(w:Int):Int:=if w=1 then 2^2^n - 1 else 0
theorem Wr(h:r<m):ak (2^m - 1) (r:Nat)=1:=by
 have e:=R7 (nI 0) (two_pos m) h;rw[Tz] at e;simpa using e
theorem Xx{w:Int}(hw:w=0\/w=1)(h:r<2^ep):ak (XF ep w) (r:Nat)=w:=by
 unfold XF;rcases hw with rfl | rfl
 . rw[if_neg (by decide)];exact Tz _
 . rw[if_pos rfl];exact Wr h
noncomputable def eV(n:Nat)(b:Int)(j:Nat)(w:Int):Int:=cA b (lz j (XF n w) ((List.range n).map λi=>iB n i)) n
theorem Qa(n:Nat)(b:Int)(j:Nat)(w:Int):0<=eV n b j w:=LR _ _ _
theorem acb(n:Nat)(b:Int)(j:Nat)(w:Int):eV n b j w<2^2^n:=aaQ _ _ _
theorem YJ{w:Int}(hw:w=0\/w=1)(hr:r<2^ep):ak (eV ep b j w) (r:Nat)=ak b (aX (lz j w (bx ep r))):=by
 rw[eV,W4 hr,Rw,Xx hw hr,de,<- Ad];congr 3;exact cn λi _=>UG hr
noncomputable def zR:ab:=(.tuple [(.int 2),(.int 8)])
noncomputable def lg:ab:=(.tuple [(.str "low"),(.str "high"),(.str "turn"),(.str "rise"),(.str "even")])
noncomputable def d9:ab:=(.tuple [(.int 2),(.int 7)])
noncomputable def gA:ab:=(.tuple [(.int 1),(.int 1)])
noncomputable def qF:List (Str×ab):=[("low",(.tuple [(.int 1),(.int 1)])),("high",(.tuple [(.int 1),(.int 1)])),("turn",(.tuple [(.int 2),(.int 8)])),("rise",(.tuple [(.int 1),(.int 1)])),("even",(.tuple [(.int 2),(.int 8)]))]
noncomputable def qy:List (Str×ab):=[("low",(.tuple [(.int 1),(.tuple [(.int 0)])])),("high",(.tuple [(.int 1),(.tuple [(.int 1)])])),("turn",(.tuple [(.int 2),(.tuple [(.int 1),(.int 2)])])),("rise",(.tuple [(.int 2),(.tuple [(.int 0),(.int 2),(.int 3)])])),("even",(.tuple [(.int 4),(.tuple [(.int 0),(.int 3),(.int 5),(.int 6),(.int 9),(.int 10),(.int 12),(.int 15)])]))]
noncomputable def jJ:B4->AO ab:=fnR 1 (bF (uE (QK "int" (aj 0)) (xu (QK "bool" (aj 0)))))
noncomputable def jT:B4->AO ab:=fnR 3 (aJ (aW 1 (eC (.int 1)))
 (aJ (cz (fY (aj 0)) (gN 2) [2] (aW 1 (ao mK (eC (.int 2)) (aj 1))))
 (bF (aj 1))))
noncomputable def mH:B4->AO ab:=fnR 3 (aJ (aW 1 (eC (.int 2)))
 (aJ (cz (fY (aj 0)) (gN 2) [2] (aW 1 (ao mK (aj 1) (aj 1))))
 (bF (aj 1))))
noncomputable def iw:B4->AO ab:=fnR 1 (bF (ao jt (aO mH [(aj 0)]) (eC (.int 1))))
noncomputable def Ea:B4->AO ab:=fnR 2 (bF (ao oh (ao qJ (aj 0) (aj 1)) (eC (.int 1))))
noncomputable def pY:B4->AO ab:=fnR 3 (aJ (aW 1 (eC (.int 0)))
 (aJ (cz (itV (aj 0)) (gN 2) [2] (aW 1 (ao dz (ao mK (eC (.int 2)) (aj 1)) (aj 2))))
 (bF (aj 1))))
noncomputable def mC:B4->AO ab:=fnR 2 (bF (aO pY [(cu (fY (aO jT [(aj 0)])) (gN 0) (eC (.bool true)) (aO Ea [(aj 0),(aj 1)]) 1 [1])]))
noncomputable def jq:B4->AO ab:=fnR 1 (bF (cu (fY (aj 0)) (gN 0) (eC (.bool true)) (aO mC [(aj 1),(aj 0)]) 1 [0]))
noncomputable def qg:B4->AO ab:=fnR 5 (aJ (aW 3 (cu (fY (aO jT [(ao AX (aj 0) (eC (.int 0)))])) (gN 0) (eC (.bool true)) (ao mK (aj 1) (aO Ea [(ao AX (aj 2) (eC (.int 1))),(aj 0)])) 1 [2,0]))
 (aJ (cz (itL (aj 1)) (gN 4) [4] (aW 3 (cu (Av (eC (.int 0)) (eFn gQ [(aj 3)]) (eC (.int 2))) (gN 0) (eC (.bool true)) (ao orD (ao oh (ao AX (aj 1) (aj 0)) (eUn acV (aj 2))) (ao oh (ao AX (aj 1) (ao dz (aj 0) (eC (.int 1)))) (aj 2))) 1 [3,4])))
 (bF (ao AX (aj 3) (eC (.int 0))))))
noncomputable def pG:B4->AO ab:=fnR 3 (bF (aO qg [(aj 0),(aj 1),(aO iw [(aj 2)])]))
noncomputable def jA:B4->AO ab:=fnR 5 (aJ (aW 3 (ao jt (ao AX (aj 0) (eC (.int 0))) (eC (.int 1))))
 (aJ (aW 4 (aO jq [(aj 3)]))
 (aJ (QZ 4 (aj 1) (eIf (ao eqD (aj 2) (eC (.int 1))) (aO iw [(aj 3)]) (eC (.int 0))))
 (bF (bN [(aj 3),(aO pG [(aj 0),(aj 4),(aj 3)])])))))
noncomputable def jz:B4->AO ab:=fnR 2 (bF (bN [(ao AX (aj 0) (eC (.int 0))),(eFn gO [(cu (itL (ao AX (aj 0) (eC (.int 1)))) (gN 0) (eC (.bool true)) (ao ixY (aj 1) (aj 0)) 1 [1])])]))
noncomputable def dB:B4->AO ab:=fnR 6 (aJ (aW 4 (eFn Ht [(aj 3)]))
 (aJ (cz (itL (ao AX (aj 2) (eC (.int 1)))) (gN 5) [5] (aJ (lL 0 (aO jz [(aj 5),(aj 4)]))
 (lL 4 (ao jt (ao dz (aj 1) (eFn gQ [(aj 0)])) (eC (.int 1))))))
 (BW 0 (ao AX (aj 4) (ao AX (aj 2) (eC (.int 2)))))))
noncomputable def nQ:B4->AO ab:=fnR 6 (aJ (aW 2 (ao AX (aj 0) (eC (.int 0))))
 (aJ (aW 3 (eUn lrD (aj 2)))
 (aJ (aW 4 (bQ []))
 (aJ (cz (itL (ao AX (aj 0) (eC (.int 1)))) (gN 5) [5] (HD 3 4 dB [(aj 4),(aj 2),(Jb 1 (ao AX (aj 5) (eC (.int 0)))),(cu (itL (ao AX (aj 5) (eC (.int 1)))) (gN 0) (eC (.bool true)) (ao AX (aj 1) (aj 0)) 1 [3])]))
 (bF (bN [(aj 2),(eFn gO [(aj 4)]),(ao AX (aj 3) (ao AX (aj 0) (eC (.int 2))))]))))))
noncomputable def je:B4->AO ab:=fnR 7 (aJ (aW 1 (ao AX (aj 0) (eC (.int 0))))
 (aJ (aW 2 (eUn lrD (aj 1)))
 (aJ (aW 3 (bQ []))
 (aJ (aW 4 (iZ []))
 (aJ (cz (itL (ao AX (aj 0) (eC (.int 1)))) (gN 5) [5,6] (aJ (aW 6 (aO jz [(aj 5),(aj 2)]))
 (aJ (sIf (zT 4 (aj 6)) (aJ (HJ 4 (aj 6) (ao dz (aj 1) (eFn gQ [(aj 3)])))
 (lL 3 (aj 6))) cQ)
 (lL 2 (Q9 4 (aj 6))))))
 (bF (bN [(aj 1),(eFn gO [(aj 3)]),(ao AX (aj 2) (ao AX (aj 0) (eC (.int 2))))])))))))
noncomputable def nu:B4->AO ab:=fnR 6 (aJ (aW 1 (ao AX (aj 0) (eC (.int 0))))
 (aJ (aW 2 (ao AX (aj 0) (eC (.int 1))))
 (aJ (aW 3 (Hr (ao AX (aj 0) (eC (.int 2))) (eC (.bool true))))
 (aJ (cz (Av (ao jt (eFn gQ [(aj 2)]) (eC (.int 1))) (eUn Fq (eC (.int 1))) (eUn Fq (eC (.int 1)))) (gN 4) [4,5] (sIf (ao inY (ao dz (aj 1) (aj 4)) (aj 3)) (cz (itL (ao AX (ao AX (aj 2) (aj 4)) (eC (.int 1)))) (gN 5) [5] (gW 3 (aj 5) (eC (.bool true)))) cQ))
 (bF (aj 3))))))
noncomputable def fV:B4->AO ab:=fnR 8 (aJ (aW 1 (ao AX (aj 0) (eC (.int 0))))
 (aJ (aW 2 (aO nu [(aj 0)]))
 (aJ (aW 3 (iZ []))
 (aJ (cz (fY (aj 1)) (gN 4) [4] (gW 3 (aj 4) (aj 4)))
 (aJ (aW 5 (bQ []))
 (aJ (cz (itE (ao AX (aj 0) (eC (.int 1)))) (gT [(gN 6),(gN 7)]) [6,7] (sIf (ao inY (ao dz (aj 1) (aj 6)) (aj 2)) (aJ (lL 5 (aO jz [(aj 7),(aj 3)]))
 (gW 3 (ao dz (aj 1) (aj 6)) (ao jt (ao dz (aj 1) (eFn gQ [(aj 5)])) (eC (.int 1))))) cQ))
 (bF (bN [(aj 1),(eFn gO [(aj 5)]),(ao ixY (aj 3) (ao AX (aj 0) (eC (.int 2))))]))))))))
noncomputable def o9:B4->AO ab:=fnR 1 (bF (aO fV [(aO je [(aj 0)])]))
noncomputable def jL:Nat->B4->AO ab
 | 0=>λ_=>.bad
 | fu+1=>fnR 5 (aJ (sIf (eUn Ar (aO jJ [(aj 2)])) (BW 0 (aj 2)) cQ)
  (aJ (aW 3 (bQ []))
  (aJ (cz (itL (ao AX (aj 2) (eC (.int 1)))) (gN 4) [4] (HD 3 0 (jL fu) [(aj 0),(aj 1),(aj 4)]))
  (aJ (lL 0 (bN [(ao AX (aj 2) (eC (.int 0))),(eFn gO [(aj 3)])]))
  (BW 0 (ao jt (ao dz (aj 1) (eFn gQ [(aj 0)])) (eC (.int 1))))))))
noncomputable def jm:B4->AO ab:=fnR 4 (aJ (aW 2 (bQ []))
 (aJ (Ds 3 2 (jL 100) [(aj 2),(aj 1),(aj 0)])
 (bF (bN [(aj 1),(eFn gO [(aj 2)]),(aj 3)]))))
noncomputable def wC:B4->AO ab:=fnR 3 (aJ (aW 1 (iZ []))
 (aJ (cz (itL (aj 0)) (gN 2) [2] (gW 1 (aj 2) (eC (.bool true))))
 (bF (aj 1))))
noncomputable def qY:B4->AO ab:=fnR 3 (bF (aO qg [(aj 0),(aj 1),(ao jt (aO jT [(aj 2)]) (eC (.int 1)))]))
noncomputable def zB:B4->AO ab:=fnR 4 (aJ (aW 2 (eC (.int 1)))
 (aJ (cz (fY (aj 1)) (gN 3) [3] (aW 2 (ao mK (aj 0) (aj 2))))
 (bF (aj 2))))
noncomputable def jk:B4->AO ab:=fnR 2 (bF (eFn yw [(cu (itL (aj 1)) (gN 0) (eC (.bool true)) (aO zB [(aj 1),(ao AX (aj 0) (eC (.int 0)))]) 1 [0])]))
noncomputable def iR:B4->AO ab:=fnR 6 (aJ (aW 1 (bQ [(bQ [])]))
 (aJ (cz (itL (aj 0)) (gN 2) [2,3,4,5] (aJ (aW 3 (bQ []))
 (aJ (cz (itL (aj 1)) (gN 4) [4,5] (cz (itL (aj 2)) (gN 5) [5] (lL 3 (ao dz (aj 4) (bQ [(aj 5)])))))
 (aW 1 (aj 3)))))
 (bF (aj 1))))
noncomputable def tB:B4->AO ab:=fnR 6 (aJ (aW 2 (ao AX (aj 1) (eC (.int 0))))
 (aJ (aW 3 (ao AX (aj 1) (eC (.int 1))))
 (aJ (sIf (ao gtD (aO jk [(eFn gQ [(aj 3)]),(bQ [(aj 0)])]) (eC (.int 20000))) Ef cQ)
 (aJ (aW 4 (aO wC [(aj 3)]))
 (aJ (cz (itL (aO iR [(ao v5 (bQ [(aj 3)]) (ao AX (aj 0) (eC (.int 0))))])) (gN 5) [5] (sIf (ao lZ (aO qY [(aj 0),(aj 5),(aj 2)]) (aj 4)) (bF (aj 5)) cQ))
 (bF (eC .none)))))))
noncomputable def mG:B4->AO ab:=fnR 5 (aJ (aW 3 (bQ []))
 (aJ (cz (fY (aj 2)) (gN 4) [4] (Em 3 (aO iR [(ao dz (ao dz (ao v5 (bQ [(aj 0)]) (aj 4)) (bQ [(aj 1)])) (ao v5 (bQ [(ao dz (aj 0) (aj 1))]) (ao jt (ao jt (aj 2) (aj 4)) (eC (.int 1)))))])))
 (bF (aj 3))))
noncomputable def fC:B4->AO ab:=fnN 2 (sIf (eOr (ao gtD (aj 0) (eC (.int 128))) (ao gtD (aO jk [(aj 0),(aj 1)]) (eC (.int 20000)))) Ef cQ)
noncomputable def mV:B4->AO ab:=adB 3 0 (sIf (eOr (ao lZ (aj 1) (aj 0)) (ao ltD (ao AX (aj 2) (eC (.int 0))) (ao AX (ao ixY (aj 0) (aj 1)) (eC (.int 0))))) (gW 0 (aj 1) (aj 2)) cQ)
noncomputable def kI:B4->AO ab:=fnR 5 (aJ (aW 2 (iZ []))
 (aJ (cz (itL (aO jq [(aj 1)])) (gN 3) [3] (xT 2 mV [(aj 2),(aj 3),(bN [(eC (.int 0)),(eC .none),(bN [])])]))
 (aJ (cz (itL (aj 0)) (gN 4) [4] (sIf (ao eqD (ao AX (aj 4) (eC (.int 0))) (eC (.int 0))) (xT 2 mV [(aj 2),(aO pG [(aj 4),(bQ []),(aj 1)]),(bN [(eC (.int 1)),(aj 4),(bN [])])]) cQ))
 (bF (aj 2)))))
noncomputable def jQ:B4->AO ab:=fnR 9 (aJ (aW 4 (cu (itK 0) (gN 0) (ao neD (aj 0) (aj 1)) (aj 0) 1 [1]))
 (aJ (aW 5 (bQ []))
 (aJ (cz (itL (aO mG [(aj 4),(bQ [(aj 1)]),(ao AX (aj 2) (eC (.int 0)))])) (gN 6) [6,7,8] (aJ (aW 7 (aO pG [(aj 2),(aj 6),(aj 3)]))
 (sIf (ao lZ (aj 7) (aj 0)) (aJ (aW 8 (ao dz (eC (.int 1)) (eFn yw [(cu (itL (aj 6)) (gN 0) (eC (.bool true)) (ao AX (ao ixY (aj 1) (aj 0)) (eC (.int 0))) 1 [0])])))
 (lL 5 (bN [(aj 7),(bN [(aj 8),(aj 2),(eFn gO [(aj 6)])])]))) cQ)))
 (bF (aj 5)))))
noncomputable def ql:B4->AO ab:=fnR 8 (aJ (aW 2 (iZ []))
 (aJ (aW 3 (aO kI [(aj 0),(aj 1)]))
 (aJ (oF 1000000 (ao gtD (eFn mJ [(aj 3)]) (eC (.int 0))) [4,5,6,7] (aJ (aW 4 (Dz 3))
 (aJ (vq 2 3 4)
 (aJ (sEx (aO fC [(eFn mJ [(aj 2)]),(aj 0)]))
 (cz (itL (aj 0)) (gN 5) [5,6,7] (cz (itL (aO jQ [(aj 2),(aj 4),(aj 5),(aj 1)])) (gT [(gN 6),(gN 7)]) [6,7] (xT 3 mV [(aj 3),(aj 6),(aj 7)])))))))
 (bF (aj 2)))))
noncomputable def iG:B4->AO ab:=fnR 7 (aJ (aW 3 (iZ []))
 (aJ (aW 4 (bQ []))
 (aJ (cz (itI 0) (gT [(gN 5),(gN 6)]) [5,6] (aJ (gW 3 (aj 5) (eFn mJ [(aj 3)]))
 (sIf (ao Dr (ao AX (aj 6) (eC (.int 1))) (eC .none)) (lL 4 (bN [(ao AX (aj 6) (eC (.int 1))),(eFn gO [(cu (itL (ao AX (aj 6) (eC (.int 2)))) (gN 0) (eC (.bool true)) (ao ixY (aj 1) (aj 0)) 1 [3])])])) cQ)))
 (bF (aO fV [(bN [(aj 2),(eFn gO [(aj 4)]),(ao ixY (aj 3) (aj 1))])])))))
noncomputable def Jm:B4->AO ab:=fnR 1 (bF (eUn (Qz qy) (aj 0)))
noncomputable def jf:B4->AO ab:=fnR 5 (aJ (cz (itE (aj 0)) (gT [(gN 2),(gN 3)]) [2,3,4] (aJ (aW 4 (aO tB [(aj 3),(aj 1)]))
 (sIf (ao Dr (aj 4) (eC .none)) (bF (bN [(aj 2),(aj 4)])) cQ)))
 (bF (eC .none)))
noncomputable def vd:B4->AO ab:=fnR 1 (bF (cu (itL (eC lg)) (gN 0) (eC (.bool true)) (aO jf [(aj 1),(aO Jm [(aj 0)])]) 1 [0]))
noncomputable def wK:B4->AO ab:=fnR 1 (bF (eUn (Qz qF) (aj 0)))
noncomputable def jF:B4->AO ab:=fnR 2 (CP 0 [(10,.ev (eC (.int 0))),(12,.ev (eC (.int 1))),(5,.cl dB [(aj 0),(eC (.int 2)),(ao AX (aj 1) (eC (.int 1))),(bQ [(eC (.int 0))])]),(3,.cl dB [(aj 0),(eC (.int 2)),(ao AX (aj 1) (eC (.int 1))),(bQ [(eC (.int 1))])]),(0,.cl dB [(aj 0),(eC (.int 2)),(ao AX (aj 1) (eC (.int 0))),(bQ [(eC (.int 0))])]),(15,.cl dB [(aj 0),(eC (.int 2)),(ao AX (aj 1) (eC (.int 3))),(bQ [(eC (.int 0))])])])
noncomputable def jj:B4->AO ab:=fnR 4 (aJ (cz (itL (aj 1)) (gN 3) [3] (sIf (ao eqD (aO pG [(aj 0),(aj 3),(eC (.int 2))]) (aj 2)) (bF (aj 3)) cQ))
 (bF (eC .none)))
noncomputable def fU:B4->AO ab:=fnR 8 (aJ (aW 2 (bQ []))
 (aJ (Ds 3 2 jF [(aj 2),(aj 1)])
 (aJ (aW 4 (aO iR [(ao v5 (bQ [(eFn Pq [(aj 3)])]) (ao AX (aj 0) (eC (.int 0))))]))
 (aJ (aW 5 (aO jj [(aj 0),(aj 4),(ao AX (eC d9) (eC (.int 1)))]))
 (aJ (aW 6 (eIf (ao qz (aj 5) (eC .none)) (aO jj [(aj 0),(aj 4),(ao AX (eC zR) (eC (.int 1)))]) (aj 5)))
 (aJ (lL 2 (bN [(aj 0),(eFn gO [(cu (itL (aj 6)) (gN 0) (eC (.bool true)) (ao ixY (aj 1) (aj 0)) 1 [3])])]))
 (aJ (aW 7 (ao dz (eFn gQ [(aj 2)]) (eC (.int 1))))
 (aJ (sIf (ao qz (aj 5) (eC .none)) (Ds 7 2 dB [(aj 2),(eC (.int 2)),(ao AX (aj 1) (eC (.int 1))),(bQ [(aj 7)])]) cQ)
 (bF (aO o9 [(bN [(eC (.int 2)),(eFn gO [(aj 2)]),(aj 7)])]))))))))))
noncomputable def cO:B4->AO ab:=fnR 1 (aJ (sIf (uE (xu (eUn Ar (aO jJ [(aj 0)]))) (ao eqD (ao AX (aj 0) (eC (.int 0))) (eC gA))) (bF (ao AX (ao AX (aj 0) (eC (.int 1))) (eC (.int 0)))) cQ)
 (bF (bN [(eC gA),(bN [(aj 0)])])))
noncomputable def sX(pt:B4->AO ab):B4->AO ab:=fnR 2 (aJ (sIf (ao eqD (ao AX (aj 0) (eC (.int 1))) (eC (.int 0))) (bF (bQ [])) cQ)
 (aJ (sIf (ao eqD (ao AX (aj 0) (eC (.int 1))) (aO iw [(ao AX (aj 0) (eC (.int 0)))])) (bF (bQ [(aO cO [(aj 1)])])) cQ)
 (bF (bQ [(bN [(eC d9),(bN [(aj 1),(aO pt [(aj 0)])])])]))))
noncomputable def cP:Nat->B4->AO ab
 | 0=>λ_=>.bad
 | fu+1=>fnR 5 (aJ (aW 1 (ao jt (ao AX (aj 0) (eC (.int 0))) (eC (.int 1))))
  (aJ (aW 2 (aO jA [(aj 0),(aj 1),(eC (.int 0))]))
  (aJ (aW 3 (aO jA [(aj 0),(aj 1),(eC (.int 1))]))
  (aJ (sIf (ao eqD (aj 2) (aj 3)) (bF (aO (cP fu) [(aj 2)])) cQ)
  (aJ (aW 4 (ao dz (aO (sX (cP fu)) [(aj 2),(aO cO [(aj 1)])]) (aO (sX (cP fu)) [(aj 3),(aj 1)])))
  (aJ (sIf (ao eqD (eFn gQ [(aj 4)]) (eC (.int 1))) (bF (aO cO [(ao AX (aj 4) (eC (.int 0)))])) cQ)
  (bF (bN [(eC d9),(eFn gO [(aj 4)])]))))))))
noncomputable def pO:B4->AO ab:=fnR 2 (aJ (aW 1 (bN [(eC d9),(bN [(eC (.int 0)),(aO cO [(eC (.int 0))])])]))
 (aJ (sIf (ao eqD (ao AX (aj 0) (eC (.int 1))) (aO iw [(ao AX (aj 0) (eC (.int 0)))])) (bF (aj 1)) cQ)
 (bF (eIf (ao eqD (ao AX (aj 0) (eC (.int 1))) (eC (.int 0))) (aO cO [(aj 1)]) (aO (cP 8) [(aj 0)])))))
noncomputable def zp:B4->AO ab:=fnR 9 (aJ (aW 2 (aO vd [(aj 0)]))
 (aJ (cz (Ku (eC lg) (aj 2)) (gT [(gN 3),(gN 4)]) [3,4] (sIf (ao qz (aj 4) (eC .none)) Ef cQ))
 (aJ (aW 5 (aO ql [(aj 0),(eC (.int 1))]))
 (aJ (aW 6 (cu (fY (eC (.int 4))) (gN 0) (eC (.bool true)) (aO iG [(aj 1),(aj 0),(eC (.int 1))]) 1 [5]))
 (aJ (aW 7 (ao AX (aj 0) (ao AX (ao AX (aj 2) (eC (.int 4))) (eC (.int 0)))))
 (aJ (zA 8 [((eC gA),(ao AX (aj 6) (eC (.int 1)))),((eC d9),(aO fU [(aj 7),(aj 6)]))])
 (bF (aO o9 [(Jt nQ (aO jm [(aO pO [(aj 1)]),(ao AX (aj 1) (eC (.int 0)))]) 8)]))))))))
end Zq
theorem Zq.sizeLine_eq:bE=16777216:=by decide
namespace Zq
open PySem PySem.Spec PyProof.Rows
variable {o:Option ab}{Γ:Ev}
theorem aad:gv (o::Γ) 0=o:=rfl
variable {i:Nat}
theorem Zx:gv (o::Γ) (i+1)=gv Γ i:=rfl
theorem SQ{d:ab}:aj 0 (some d::Γ)= .ok d:=rfl
theorem RW:aj (i+1) (o::Γ)=aj i Γ:=rfl
theorem Dn{d:ab}:eC d Γ = .ok d:=rfl
theorem Jz{f:C8}{a b:ME}:ao f a b Γ=(a Γ).bind λx=>(b Γ).bind λy=>f x y:=rfl
theorem aaZ{f:C9}{a:ME}:eUn f a Γ=(a Γ).bind f:=rfl
variable {ms:List ME}
theorem aat{f:B4->AO ab}:eFn f ms Γ=(evs ms Γ).bind f:=rfl
theorem mX{f:B4->AO ab}:aO f ms Γ=(evs ms Γ).bind f:=rfl
theorem aaD:evs [] Γ = .ok []:=rfl
variable {m:ME}
theorem Bd:evs (m::ms) Γ=(m Γ).bind λd=>(evs ms Γ).bind λds=>.ok (d::ds):=rfl
theorem VR:bN ms Γ=(evs ms Γ).bind λds=>.ok (.tuple ds):=rfl
theorem Xm:bQ ms Γ=(evs ms Γ).bind λds=>.ok (.list ds):=rfl
theorem Vl{T:String}:QK T m Γ=(m Γ).bind λd=>.ok (.bool (wj T d)):=rfl
noncomputable def bT(x:ab)(a b:AO ab):AO ab:=match x with
 | .bool true=>a
 | .bool false=>b
 | _=>.bad
noncomputable def bS(x:ab)(a b:AO Out):AO Out:=match x with
 | .bool true=>a
 | .bool false=>b
 | _=>.bad
theorem aa3{a b:AO ab}:bT (.bool true) a b=a:=rfl
theorem Xi{a b:AO ab}:bT (.bool false) a b=b:=rfl
theorem Om{a b:AO Out}:bS (.bool true) a b=a:=rfl
theorem HS{a b:AO Out}:bS (.bool false) a b=b:=rfl
theorem Di{c:Bool}{a b:AO ab}:bT (.bool c) a b=if c=true then a else b:=by cases c <;> rfl
theorem Jf{c:Bool}{a b:AO Out}:bS (.bool c) a b=if c=true then a else b:=by cases c <;> rfl
variable {c:ME}
theorem aaM{b:ME}:eIf c m b Γ=(c Γ).bind λx=>bT x (m Γ) (b Γ):=by
 rfl
theorem U5:uE m c Γ=(m Γ).bind λx=>bT x (c Γ) (.ok (.bool false)):=by
 rfl
theorem ZL{a b:ME}:eOr a b Γ=(a Γ).bind λx=>bT x (.ok (.bool true)) (b Γ):=by
 unfold eOr;congr 1;funext x;cases x <;> first | rfl | (rename_i b;cases b <;> rfl)
noncomputable def acf:ab->AO ab
 | .bool t=>.ok (.bool (!t))
 | _=>.bad
theorem Wv{t:Bool}:acf (.bool t)= .ok (.bool (!t)):=rfl
theorem V8:xu m Γ=(m Γ).bind acf:=rfl
theorem aam{lo hi:MO}:eSl m lo hi Γ=(m Γ).bind λd=>(lo Γ).bind λl=>(hi Γ).bind λh=>slD d l h:=rfl
theorem Sv:Qy Γ = .ok none:=rfl
noncomputable def abE:ab->AO C3
 | .int i=>.ok (some i)
 | _=>.bad
theorem Vr{i:Int}:abE (.int i)= .ok (some i):=rfl
theorem Up:Rc m Γ=(m Γ).bind abE:=rfl
noncomputable def Xn(b:MS):Out->AO Out
 | .nx Γ'=>b Γ'
 | .rt d=>.ok (.rt d)
 | .bk Γ'=>.ok (.bk Γ')
 | .ct Γ'=>.ok (.ct Γ')
theorem lF{b:MS}:Xn b (.nx Γ)=b Γ:=rfl
theorem Z3{b:MS}{d:ab}:Xn b (.rt d)= .ok (.rt d):=rfl
theorem gK{a b:MS}:aJ a b Γ=(a Γ).bind (Xn b):=by
 rfl
theorem YT{α:Type}{r:AO α}:gd True r=r:=rfl
theorem Bb:aW i m Γ=(m Γ).bind λd=>gd (i < Γ.length) (.ok (.nx (Γ.set i (some d)))):=rfl
theorem Nq{a b:MS}:sIf c a b Γ=(c Γ).bind λx=>bS x (a Γ) (b Γ):=by
 rfl
theorem WD:bF m Γ=(m Γ).bind λd=>.ok (.rt d):=rfl
theorem WL:cQ Γ = .ok (.nx Γ):=rfl
variable {it:MI}{g:MG}{cl:B5}
theorem VB{b:MS}:cz it g cl b Γ=(it Γ).bind λxs=>forR g cl b xs Γ:=rfl
noncomputable def fin:Out->AO ab
 | .rt d=>.ok d
 | _=>.bad
theorem abQ{d:ab}:fin (.rt d)= .ok d:=rfl
variable {ds:B4}
theorem Oi{m:MS}:fnR i m ds=(m (ds.map some++ax (i - ds.length) none)).bind fin:=by
 rfl
noncomputable def abJ:Out->AO ab
 | .rt d=>.ok d
 | .nx _=>.ok .none
 | _=>.bad
theorem aak:abJ (.nx Γ)= .ok .none:=rfl
theorem aax{m:MS}:fnN i m ds=(m (ds.map some++ax (i - ds.length) none)).bind abJ:=by
 rfl
noncomputable def adf(Γ:Ev)(i:Nat)(d:ab):Option ab->AO Out
 | some (.list ds)=>gd (ds.length<bE/\i < Γ.length) (.ok (.nx (Γ.set i (some (.list (ds++[d]))))))
 | _=>.bad
theorem Wl{d:ab}:adf Γ i d (some (.list ds))=gd (ds.length<bE/\i < Γ.length) (.ok (.nx (Γ.set i (some (.list (ds++[d])))))):=rfl
theorem W9:lL i m Γ=(m Γ).bind λd=>adf Γ i d (gv Γ i):=by
 rfl
theorem DR{d:ab}:gN i d Γ=gd (i < Γ.length) (.ok (Γ.set i (some d))):=rfl
theorem adG{gs:List MG}:gT gs (.tuple ds) Γ=gTs gs ds Γ:=rfl
theorem aaj:gTs [] [] Γ = .ok Γ:=rfl
theorem Xl{gs:List MG}{d:ab}:gTs (g::gs) (d::ds) Γ=(g d Γ).bind λΓ'=>gTs gs ds Γ':=rfl
noncomputable def Br:ab->AO B4
 | .list ds=>.ok ds
 | .tuple ds=>.ok ds
 | _=>.bad
theorem Rq:Br (.list ds)= .ok ds:=rfl
theorem Rg:Br (.tuple ds)= .ok ds:=rfl
theorem MF:itL m Γ=(m Γ).bind Br:=by
 rfl
noncomputable def upN(n:Nat):B4:=(List.range n).map λi=>ab.int (i:Nat)
noncomputable def Es:ab->AO B4
 | .int j=>gd (-(2^62)<=j/\j<2^62) (.ok (upN j.toNat))
 | _=>.bad
theorem XM{j:Int}:Es (.int j)=gd (-(2^62)<=j/\j<2^62) (.ok (upN j.toNat)):=rfl
theorem cT(h:i<2^62):Es (.int (i:Nat))= .ok (upN i):=by
 rw[XM,bw (by lia),cx]
theorem Wj:fY m Γ=(m Γ).bind Es:=by
 unfold fY;congr 1;funext d
 cases d with
 | int j=>show gd _ _=gd _ _;congr 2;unfold upN;simp only[Int.zero_add]
 | _=>rfl
noncomputable def abo:ab->AO B4
 | .list ds=>.ok ds.reverse
 | _=>.bad
theorem W5:abo (.list ds)= .ok ds.reverse:=rfl
theorem YF:itV m Γ=(m Γ).bind abo:=by
 rfl
theorem aa0:clr [] Γ=Γ:=rfl
theorem Xv:clr (i::cl) Γ=clr cl (Γ.set i none):=rfl
variable {a b:Int}
theorem Wd:dz (.int a) (.int b)= .ok (.int (a+b)):=rfl
theorem Xb:jt (.int a) (.int b)= .ok (.int (a - b)):=rfl
theorem Vf:mK (.int a) (.int b)=gd (rQ a b) (.ok (.int (a*b))):=rfl
theorem Ul:pK (.int a) (.int b)=gd (Ez a b) (.ok (.int (a / b))):=rfl
theorem WM:mO (.int a) (.int b)=gd (0<b) (.ok (.int (a % b))):=rfl
theorem Vb:ni (.int a) (.int b)=gd (Er a b) (.ok (.int (a*2^b.toNat))):=rfl
theorem V7:qJ (.int a) (.int b)=gd (0<=b) (.ok (.int (a / 2^b.toNat))):=rfl
theorem U9:oh (.int a) (.int b)= .ok (.int (gz a b)):=rfl
theorem ZW:orD (.int a) (.int b)= .ok (.int (kD a b)):=rfl
theorem YW:ltD (.int a) (.int b)= .ok (.bool (decide (a<b))):=rfl
theorem ZR:gtD (.int a) (.int b)= .ok (.bool (decide (b<a))):=rfl
theorem qU:eK (.int a)=true:=by rw[eK,kL,ab.depth];rfl
theorem Zk:eqD (.int a) (.int b)= .ok (.bool (decide (a=b))):=by
 rw[eqD,bw ⟨qU,qU⟩,fw];congr 2
theorem Zd:neD (.int a) (.int b)= .ok (.bool (!decide (a=b))):=by
 rw[neD,bw ⟨qU,qU⟩,fw];congr 2
mutual
noncomputable def plain:ab->Bool
 | .int _=>true
 | .none=>true
 | .list ds=>iV ds
 | .tuple ds=>iV ds
 | .bool _=>false
 | .str _=>false
 | .dict _=>false
noncomputable def iV:B4->Bool
 | []=>true
 | d::ds=>plain d&&iV ds
end
mutual
theorem Gd:∀(d:ab),plain d=true->d.canLay0=true
 | .int _,_=>by rw[kL]
 | .none,_=>by rw[kL]
 | .list ds,h=>by rw[kL];exact vI ds (by rwa [plain] at h)
 | .tuple ds,h=>by rw[kL];exact vI ds (by rwa [plain] at h)
 | .bool _,h=>by rw[plain] at h;cases h
 | .str _,h=>by rw[plain] at h;cases h
 | .dict _,h=>by rw[plain] at h;cases h
theorem vI:∀(ds:B4),iV ds=true->iL ds=true
 | [],_=>by rw[iL]
 | d::ds,h=>by
  rw[iV,eh] at h;rw[iL,Gd d h.1,vI ds h.2];rfl
end
mutual
theorem jy:∀(d e:ab),plain d=true->plain e=true->(fw d e=true↔d=e)
 | .int a,.int b,_,_=>by rw[fw];simp
 | .none,.none,_,_=>by rw[fw];simp
 | .list ds,.list es,h,g=>by
  rw[plain] at h g;rw[fw,wW ds es h g];exact ⟨λz=>by rw[z],λz=>by cases z;rfl⟩
 | .tuple ds,.tuple es,h,g=>by
  rw[plain] at h g;rw[fw,wW ds es h g];exact ⟨λz=>by rw[z],λz=>by cases z;rfl⟩
 | .int _,.none,_,_ | .int _,.list _,_,_ | .int _,.tuple _,_,_ | .none,.int _,_,_ | .none,.list _,_,_ | .none,.tuple _,_,_
 | .list _,.int _,_,_ | .list _,.none,_,_ | .list _,.tuple _,_,_ | .tuple _,.int _,_,_ | .tuple _,.none,_,_ | .tuple _,.list _,_,_=>by
  rw[fw];exact ⟨(λz=>nomatch z),(λz=>nomatch z)⟩
 | .bool _,_,h,_=>by rw[plain] at h;cases h
 | .str _,_,h,_=>by rw[plain] at h;cases h
 | .dict _,_,h,_=>by rw[plain] at h;cases h
 | _,.bool _,_,h=>by rw[plain] at h;cases h
 | _,.str _,_,h=>by rw[plain] at h;cases h
 | _,.dict _,_,h=>by rw[plain] at h;cases h
theorem wW:∀(ds es:B4),iV ds=true->iV es=true->(tj ds es=true↔ds=es)
 | [],[],_,_=>by rw[tj];simp
 | [],_::_,_,_=>by rw[tj];simp
 | _::_,[],_,_=>by rw[tj];simp
 | d::ds,e::es,h,g=>by
  rw[iV,eh] at h g;rw[tj,eh,jy d e h.1 g.1,wW ds es h.2 g.2];simp
end
theorem jw{d:ab}(h:plain d=true)(hd:d.depth<=64):eK d=true:=by
 rw[eK,Gd d h,decide_eq_true hd];rfl
theorem uy{a b:ab}(ha:plain a=true)(hb:plain b=true)(da:a.depth<=64)(db:b.depth<=64):(eqD a b= .ok (.bool true)↔a=b)/\(eqD a b= .ok (.bool false)↔a≠b)/\(neD a b= .ok (.bool true)↔a≠b)/\(neD a b= .ok (.bool false)↔a=b):=by
 unfold eqD neD;rw[bw ⟨jw ha da,jw hb db⟩,bw ⟨jw ha da,jw hb db⟩];have h:=jy a b ha hb
 cases q:fw a b with
 | true=>have e:=h.mp q;simp[e]
 | false=>
  have e:a≠b:=λz=>by rw[h.mpr z] at q;cases q
  simp[e]
theorem uH:∀ns:B3,iV (ns.map ab.int)=true
 | []=>by rw[fv,iV]
 | n::ns=>by rw[a8,iV,plain,uH ns];rfl
theorem wL(ns:B3):plain (.list (ns.map ab.int))=true:=by rw[plain];exact uH ns
theorem Lh(ns:B3):plain (.tuple (ns.map ab.int))=true:=by rw[plain];exact uH ns
theorem tV(ns:B3):(ab.list (ns.map ab.int)).depth<=64:=by rw[ab.depth,qX];decide
theorem Bv(ns:B3):(ab.tuple (ns.map ab.int)).depth<=64:=by rw[ab.depth,qX];decide
theorem K8{a b:B3}(h:a.map ab.int=b.map ab.int):a=b:=by
 have:=vQ a;rw[h,vQ] at this;exact (Option.some.inj this).symm
theorem Gj{a b:B3}:eqD (.list (a.map ab.int)) (.list (b.map ab.int))= .ok (.bool (decide (a=b))):=by
 have h:=uy (wL a) (wL b) (tV a) (tV b)
 by_cases e:a=b
 . subst e;rw[h.1.mpr rfl];simp
 . rw[h.2.1.mpr λz=>e (K8 (ab.list.inj z))];simp[e]
noncomputable def ig(cl:B5):Out->AO Out
 | .nx Γ=>.ok (.nx (clr cl Γ))
 | .ct Γ=>.ok (.nx (clr cl Γ))
 | .bk Γ=>.ok (.bk (clr cl Γ))
 | .rt d=>.ok (.rt d)
theorem aar:ig cl (.nx Γ)= .ok (.nx (clr cl Γ)):=rfl
theorem aaE{d:ab}:ig cl (.rt d)= .ok (.rt d):=rfl
def Goes(r:AO Out)(P:Ev->Prop):Prop:=∃Γ,r= .ok (.nx Γ)/\P Γ
variable {P:Ev->Prop}
theorem Z6:Goes (.ok (.nx Γ)) P↔P Γ:=⟨λaz=>by obtain ⟨Γ',e,h⟩:=az;cases e;exact h,λh=>⟨Γ,rfl,h⟩⟩
variable {x:ab}{xs:B4}
theorem yV{b:MS}{Γ':Ev}(h:((g x Γ).bind b).bind (ig cl)= .ok (.nx Γ')):forR g cl b (x::xs) Γ=forR g cl b xs Γ':=by
 obtain ⟨o,h1,h2⟩:=AO.au h;obtain ⟨Γ1,h3,h4⟩:=AO.au h1;rw[forR,h3,AO.aP,h4,AO.aP];cases o <;> cases h2 <;> rfl
theorem vN{b:MS}(I:Nat->Ev->Prop):∀{xs:B4}{Γ:Ev},I 0 Γ ->
 (∀i x Γ,xs[i]?=some x->I i Γ->Goes (((g x Γ).bind b).bind (ig cl)) (I (i+1)))->∃Γ',forR g cl b xs Γ = .ok (.nx Γ')/\I xs.length Γ':=by
 intro xs
 induction xs generalizing I with
 | nil=>intro Γ h0 _;exact ⟨Γ,rfl,h0⟩
 | cons x xs ih=>
  intro Γ h0 hs;obtain ⟨Γ2,e,h2⟩:=hs 0 x Γ rfl h0;obtain ⟨Γ',e3,h3⟩:=ih (λi=>I (i+1)) h2 λi y Γ hy h=>hs (i+1) y Γ (by simpa using hy) h;refine ⟨Γ',?_,h3⟩;rw[yV e];exact e3
theorem N8{b:MS}(S:Nat->Ev)(h0:Γ=S 0)
 (h:∀i x,xs[i]?=some x->((g x (S i)).bind b).bind (ig cl)= .ok (.nx (S (i+1)))):forR g cl b xs Γ = .ok (.nx (S xs.length)):=by
 obtain ⟨Γ',e,h'⟩:=vN (λi Γ=>Γ=S i) h0 λi x Γ hx hI=>by
  subst hI;exact ⟨_,h i x hx,rfl⟩
 rw[e,h']
theorem bJ{α:Type}{b:MS}{f:Out->AO α}{r:AO α}(S:Nat->Ev)(h0:Γ=S 0)
 (h:∀i x,xs[i]?=some x->((g x (S i)).bind b).bind (ig cl)= .ok (.nx (S (i+1)))) (k:f (.nx (S xs.length))=r):(forR g cl b xs Γ).bind f=r:=by
 rw[N8 S h0 h];exact k
theorem AO.bind_assoc{α β γ:Type}{r:AO α}{f:α->AO β}{g:β->AO γ}:(r.bind f).bind g=r.bind λa=>(f a).bind g:=by cases r <;> rfl
variable {e:ME}
theorem GD(F:ab->ab):∀{xs:B4},(∀x∈xs,(g x Γ).bind e= .ok (F x))->pQ g (eC (.bool true)) e Γ xs= .ok (xs.map F)
 | [],_=>rfl
 | x::xs,h=>by
  obtain ⟨Γ1,e1,e2⟩:=AO.au (h x bX);rw[pQ,e1,AO.aP,Dn,AO.aP,e2,AO.aP,GD F λy hy=>h y (cc _ hy)];rfl
variable {nt:Nat}{ix:B5}
theorem G8(F:ab->ab)(hi:it Γ = .ok xs)(hz:xs.length<bE)(h:∀x∈xs,(g x (gk nt ix Γ)).bind e= .ok (F x)) :
 cu it g (eC (.bool true)) e nt ix Γ = .ok (.list (xs.map F)):=by
 rw[cu,hi,AO.aP,bw hz,GD F h];rfl
theorem jx{n:Nat}(F:Nat->ab)(hi:it Γ = .ok (upN n))(hz:n<bE)(h:∀i,i<n->(g (.int (i:Nat)) (gk nt ix Γ)).bind e= .ok (F i)) :
 cu it g (eC (.bool true)) e nt ix Γ = .ok (.list ((List.range n).map F)):=by
 have e1:(upN n).map (λd=>match d with | .int i=>F i.toNat | _=>.none)=(List.range n).map F:=by
  rw[upN,de];refine cn λi _=>?_;show F ((i:Nat):Int).toNat=F i;rw[cx]
 rw[<- e1];refine G8 _ hi (by rw[upN,af,cS];exact hz) λx hx=>?_;obtain ⟨i,hi,rfl⟩:=cf.mp hx;show _=AO.ok (F ((i:Nat):Int).toNat);rw[cx];exact h i (dQ.mp hi)
variable {ns:B3}
theorem Dw(F:Int->ab)(hi:it Γ = .ok (ns.map ab.int))(hz:ns.length<bE)(h:∀x∈ns,(g (.int x) (gk nt ix Γ)).bind e= .ok (F x)) :
 cu it g (eC (.bool true)) e nt ix Γ = .ok (.list (ns.map F)):=by
 have e1:(ns.map ab.int).map (λd=>match d with | .int i=>F i | _=>.none)=ns.map F:=by
  rw[de];rfl
 rw[<- e1];refine G8 _ hi (by rw[af];exact hz) λx hx=>?_;obtain ⟨i,hi,rfl⟩:=cf.mp hx;exact h i hi
theorem iI(h:(upN nt)[i]?=some x):i<nt/\x= .int (i:Nat):=by
 unfold upN at h;rw[br] at h;rcases gy i nt with hi | hi
 . rw[eP hi] at h;exact ⟨hi,(Option.some.inj h).symm⟩
 . rw[fh (by rw[cS];exact hi)] at h;cases h
theorem dM(n:Nat):(upN n).length=n:=by rw[upN,af,cS]
theorem ints_get(h:(ns.map ab.int)[i]?=some x):∃v,x= .int v/\ns[i]?=some v:=by
 rw[br] at h
 cases e:ns[i]? with
 | none=>rw[e] at h;cases h
 | some v=>rw[e] at h;exact ⟨v,(Option.some.inj h).symm,rfl⟩
theorem Ql:gk nt ix Γ=ax nt none++ix.map (gv Γ):=rfl
theorem jE{d:ab}(h:ds[i]?=some d):AX (.list ds) (.int (i:Nat))= .ok d:=by
 show (match Zq.atI ds (i:Nat) with | some d=>AO.ok d | none=>.bad)=_;rw[Zq.N7 h]
theorem uq{d:ab}(h:ds[i]?=some d):AX (.tuple ds) (.int (i:Nat))= .ok d:=by
 show (match Zq.atI ds (i:Nat) with | some d=>AO.ok d | none=>.bad)=_;rw[Zq.N7 h]
theorem Gq:gQ [.list ds]= .ok (.int ds.length):=rfl
theorem wQ:gQ [.tuple ds]= .ok (.int ds.length):=rfl
theorem QD:Ht [.list ds]= .ok (.list ds):=rfl
theorem Ly:gO [.list ds]= .ok (.tuple ds):=rfl
theorem Sq{b:Bool}:Ar (.bool b)= .ok (.bool b):=rfl
noncomputable def We(Γ:Ev)(i:Nat)(k d:ab):Option ab->AO Out
 | some (.list ds)=>match k with
  | .int j=>gd (0<=j/\j<=ds.length/\ds.length<1000/\i < Γ.length) (.ok (.nx (Γ.set i (some (.list (ds.take j.toNat++d::ds.drop j.toNat))))))
  | _=>.bad
 | _=>.bad
theorem VN:We Γ i (.int a) x (some (.list ds))=gd (0<=a/\a<=ds.length/\ds.length<1000/\i < Γ.length) (.ok (.nx (Γ.set i (some (.list (ds.take a.toNat++x::ds.drop a.toNat)))))):=rfl
theorem Wm:QZ i m c Γ=(m Γ).bind λk=>(c Γ).bind λd=>We Γ i k d (gv Γ i):=by
 unfold QZ We;congr 1;funext k;congr 1;funext d
 cases gv Γ i with
 | none=>rfl
 | some x=>cases x <;> cases k <;> rfl
noncomputable def Vj:ab->AO B4
 | .list ds=>.ok (eZ ds)
 | .tuple ds=>.ok (eZ ds)
 | _=>.bad
theorem V5:Vj (.list ds)= .ok (eZ ds):=rfl
theorem Jh:Vj (.tuple ds)= .ok (eZ ds):=rfl
theorem Zj:itE m Γ=(m Γ).bind Vj:=by
 rfl
theorem JV(ds:B4):(eZ ds).length=ds.length:=by rw[eZ,af,cS]
theorem RZ(h:(eZ ds)[i]?=some x):∃d,ds[i]?=some d/\x= .tuple [.int (i:Nat),d]:=by
 unfold eZ at h;rw[br] at h;rcases gy i ds.length with hi | hi
 . rw[eP hi] at h;refine ⟨ds[i],av hi,?_⟩;have e:ab.tuple [.int (i:Nat),ds.getD i .none]=x:=Option.some.inj h;rw[<- e,ae,av hi];rfl
 . rw[fh (by rw[cS];exact hi)] at h;cases h
theorem yK(p:ab->Bool)(F:ab->ab):∀{xs:B4},(∀x∈xs,(g x Γ).bind c= .ok (.bool (p x)))->(∀x∈xs,p x=true->(g x Γ).bind e= .ok (F x))->pQ g c e Γ xs= .ok ((xs.filter p).map F)
 | [],_,_=>rfl
 | x::xs,h,h'=>by
  obtain ⟨Γ1,e1,e2⟩:=AO.au (h x bX);rw[pQ,e1,AO.aP,e2,AO.aP];have ih:=yK p F (λy hy=>h y (cc _ hy)) (λy hy=>h' y (cc _ hy))
  cases hp:p x with
  | true=>
   have e3:=h' x bX hp;rw[e1,AO.aP] at e3;rw[e3,AO.aP,ih,iP hp];rfl
  | false=>
   rw[ih,gX (by rw[hp];exact eW)]
theorem Kg(p:ab->Bool)(F:ab->ab)(hi:it Γ = .ok xs)(hz:xs.length<bE)
 (h:∀x∈xs,(g x (gk nt ix Γ)).bind c= .ok (.bool (p x))) (h':∀x∈xs,p x=true->(g x (gk nt ix Γ)).bind e= .ok (F x)):cu it g c e nt ix Γ = .ok (.list ((xs.filter p).map F)):=by
 rw[cu,hi,AO.aP,bw hz,yK p F h h'];rfl
theorem Ho{n:Nat}(p:Nat->Bool)(F:Nat->ab)(hi:it Γ = .ok (upN n))(hz:n<bE)
 (h:∀i,i<n->(g (.int (i:Nat)) (gk nt ix Γ)).bind c= .ok (.bool (p i))) (h':∀i,i<n->p i=true->(g (.int (i:Nat)) (gk nt ix Γ)).bind e= .ok (F i)):cu it g c e nt ix Γ = .ok (.list (((List.range n).filter p).map F)):=by
 have e1:((upN n).filter (λd=>match d with | .int i=>p i.toNat | _=>false)).map (λd=>match d with | .int i=>F i.toNat | _=>.none)=((List.range n).filter p).map F:=by
  rw[upN,List.filter_map,de];have e2:((λd=>match d with | .int i=>p i.toNat | _=>false)∘λ(i:Nat)=>ab.int (i:Nat))=p:=by
   funext i;show p ((i:Nat):Int).toNat=p i;rw[cx]
  rw[e2];refine cn λi _=>?_;show F ((i:Nat):Int).toNat=F i;rw[cx]
 rw[<- e1];refine Kg _ _ hi (by rw[dM];exact hz) (λx hx=>?_) λx hx hp=>?_
 . obtain ⟨i,hi,rfl⟩:=cf.mp hx;show _=AO.ok (ab.bool (p ((i:Nat):Int).toNat));rw[cx];exact h i (dQ.mp hi)
 . obtain ⟨i,hi,rfl⟩:=cf.mp hx;have hp':p ((i:Nat):Int).toNat=true:=hp;show _=AO.ok (F ((i:Nat):Int).toNat);rw[cx] at hp' ⊢;exact h' i (dQ.mp hi) hp'
theorem La:wj "int" (.int a)=true:=rfl
theorem Hi:wj "int" (.tuple ds)=false:=rfl
theorem Kc:wj "bool" (.int a)=false:=rfl
theorem FW:wj "bool" (.tuple ds)=false:=rfl
theorem Y7(xs:B4)(j:Nat):cutD xs none (some ((j:Nat):Int))=xs.take j:=by
 rw[cutD,HT.Vq,HT.YG,we,Nat.sub_zero];rcases Nat.le_total j xs.length with h | h
 . rw[Ap h]
 . rw[Nat.min_eq_right h,ij (ay _),ij h]
theorem ab3:slD (.list ds) none (some ((i:Nat):Int))= .ok (.list (ds.take i)):=by
 show AO.ok (ab.list (cutD ds none (some ((i:Nat):Int))))=_;rw[Y7]
theorem t6(h:ds.length+xs.length<=bE):dz (.list ds) (.list xs)= .ok (.list (ds++xs)):=bw h
theorem GX{α:Type}(enc:α->ab)(p:α->Bool)(F:α->ab):∀{xs:List α},(∀a∈xs,(g (enc a) Γ).bind c= .ok (.bool (p a)))->(∀a∈xs,p a=true->(g (enc a) Γ).bind e= .ok (F a))->pQ g c e Γ (xs.map enc)= .ok ((xs.filter p).map F)
 | [],_,_=>rfl
 | x::xs,h,h'=>by
  obtain ⟨Γ1,e1,e2⟩:=AO.au (h x bX);rw[a8,pQ,e1,AO.aP,e2,AO.aP];have ih:=GX enc p F (λy hy=>h y (cc _ hy)) (λy hy=>h' y (cc _ hy))
  cases hp:p x with
  | true=>
   have e3:=h' x bX hp;rw[e1,AO.aP] at e3;rw[e3,AO.aP,ih,iP hp];rfl
  | false=>
   rw[ih,gX (by rw[hp];exact eW)]
theorem qR{α:Type}{xs:List α}(enc:α->ab)(p:α->Bool)(F:α->ab)(hi:it Γ = .ok (xs.map enc))(hz:xs.length<bE)
 (h:∀a∈xs,(g (enc a) (gk nt ix Γ)).bind c= .ok (.bool (p a))) (h':∀a∈xs,p a=true->(g (enc a) (gk nt ix Γ)).bind e= .ok (F a)):cu it g c e nt ix Γ = .ok (.list ((xs.filter p).map F)):=by
 rw[cu,hi,AO.aP,bw (by rw[af];exact hz),GX enc p F h h'];rfl
theorem gY{α:Type}{xs:List α}(enc:α->ab)(F:α->ab)(hi:it Γ = .ok (xs.map enc))(hz:xs.length<bE)
 (h:∀a∈xs,(g (enc a) (gk nt ix Γ)).bind e= .ok (F a)):cu it g (eC (.bool true)) e nt ix Γ = .ok (.list (xs.map F)):=by
 rw[qR enc (λ_=>true) F hi hz (λa ha=>?_) λa ha _=>h a ha,List.filter_eq_self.mpr λ_ _=>rfl];obtain ⟨Γ1,e1,e2⟩:=AO.au (h a ha);rw[e1];rfl
theorem cG{α:Type}{enc:α->ab}{xs:List α}(h:(xs.map enc)[i]?=some x):∃a,xs[i]?=some a/\x=enc a:=by
 rw[br] at h
 cases e:xs[i]? with
 | none=>rw[e] at h;cases h
 | some v=>rw[e] at h;exact ⟨v,rfl,(Option.some.inj h).symm⟩
def Gives{α:Type}(r:AO α)(P:α->Prop):Prop:=∃a,r= .ok a/\P a
theorem Wk{α:Type}{a:α}{P:α->Prop}:Gives (.ok a) P↔P a:=⟨λaz=>by obtain ⟨b,e,h⟩:=az;cases e;exact h,λh=>⟨a,rfl,h⟩⟩
theorem qW{α:Type}{b:MS}{f:Out->AO α}{P:α->Prop}(I:Nat->Ev->Prop)(h0:I 0 Γ)
 (h:∀i x Γ,xs[i]?=some x->I i Γ->Goes (((g x Γ).bind b).bind (ig cl)) (I (i+1))) (k:∀Γ,I xs.length Γ->Gives (f (.nx Γ)) P):Gives ((forR g cl b xs Γ).bind f) P:=by
 obtain ⟨Γ',e,h'⟩:=vN I h0 h;rw[e];exact k Γ' h'
theorem Ut{b:MS}{f:Out->AO Out}(I:Nat->Ev->Prop)(h0:I 0 Γ)
 (h:∀i x Γ,xs[i]?=some x->I i Γ->Goes (((g x Γ).bind b).bind (ig cl)) (I (i+1))) (k:∀Γ,I xs.length Γ->Goes (f (.nx Γ)) P):Goes ((forR g cl b xs Γ).bind f) P:=by
 obtain ⟨Γ',e,h'⟩:=vN I h0 h;rw[e];exact k Γ' h'
theorem ab4{a:ab}:AX (.tuple (a::ds)) (.int 0)= .ok a:=uq rfl
theorem abm{b:ab}:AX (.tuple (x::b::ds)) (.int 1)= .ok b:=uq rfl
theorem ady{b c:ab}:AX (.tuple (x::b::c::ds)) (.int 2)= .ok c:=uq rfl
noncomputable def dG(n:Nat)(b:Int):ab:=.tuple [.int (n:Nat),.int b]
noncomputable def dL(ns:B3):ab:=.list (ns.map ab.int)
theorem ix0:AX (dG i b) (.int 0)= .ok (.int (i:Nat)):=rfl
theorem ix1:AX (dG i b) (.int 1)= .ok (.int b):=rfl
theorem aa7:gQ [dL ns]= .ok (.int ns.length):=by rw[dL,Gq,af]
theorem aa1:Br (dL ns)= .ok (ns.map ab.int):=rfl
theorem RX{b:B3}:eqD (dL ns) (dL b)= .ok (.bool (decide (ns=b))):=Gj
theorem o5:plain (dG i b)=true:=Lh [i,b]
theorem Bf:(dG i b).depth<=64:=Bv [i,b]
theorem abB{m:Nat}(z:dG i a=dG m b):i=m/\a=b:=by
 injection z with z;injection z with z1 z2;injection z2 with z3 z4;injection z1 with z5;injection z3 with z6;exact ⟨by lia,z6⟩
theorem HR{m:Nat}:eqD (dG i a) (dG m b)= .ok (.bool (decide (i=m/\a=b))):=by
 have h:=uy (a:=dG i a) (b:=dG m b) o5 o5 Bf Bf
 by_cases e:i=m/\a=b
 . obtain ⟨rfl,rfl⟩:=e;rw[h.1.mpr rfl];simp
 . rw[h.2.1.mpr λz=>e (abB z)];simp[e]
theorem wB{α:Type}{b:MS}{d:ab}(enc:α->ab)(p:α->Bool):∀{xs:List α},(∀a∈xs,((g (enc a) Γ).bind b).bind (ig cl)=if p a=true then .ok (.rt d) else .ok (.nx Γ)) ->
 forR g cl b (xs.map enc) Γ=if xs.any p=true then .ok (.rt d) else .ok (.nx Γ)
 | [],_=>rfl
 | x::xs,h=>by
  have h1:=h x bX;have ih:=wB enc p λy hy=>h y (cc _ hy);rw[a8]
  cases hp:p x with
  | true=>
   rw[if_pos hp] at h1;obtain ⟨o,h2,h3⟩:=AO.au h1;obtain ⟨Γ1,h4,h5⟩:=AO.au h2;rw[kF,hp,AH,if_pos rfl,forR,h4,AO.aP,h5,AO.aP];cases o <;> cases h3;rfl
  | false=>
   rw[if_neg (by rw[hp];exact eW)] at h1;rw[yV h1,ih,kF,hp,xw]
noncomputable def rtM(d:ab):Option ab->AO Out
 | some dm=>.ok (.rt (.tuple [d,dm]))
 | none=>.bad
variable {dm:ab}
theorem aa5:rtM x (some dm)= .ok (.rt (.tuple [x,dm])):=rfl
theorem RT:BW i m Γ=(m Γ).bind λd=>rtM d (gv Γ i):=by
 rfl
noncomputable def stM(Γ:Ev)(x i:Nat)(r:ab):AO Out:=match pg r with
 | some (d,dm)=>gd (x < Γ.length) (.ok (.nx ((Γ.set i (some dm)).set x (some d))))
 | none=>.bad
theorem aaY:stM Γ nt i (.tuple [x,dm])=gd (nt < Γ.length) (.ok (.nx ((Γ.set i (some dm)).set nt (some x)))):=rfl
theorem UJ{f:B4->AO ab}:Ds nt i f ms Γ=(evs ms Γ).bind λds=>(f ds).bind (stM Γ nt i):=rfl
noncomputable def apM(Γ:Ev)(k i:Nat)(o:Option ab)(r:ab):AO Out:=match pg r,o with
 | some (d,dm),some (.list es)=>gd (es.length<bE) (.ok (.nx ((Γ.set i (some dm)).set k (some (.list (es++[d]))))))
 | _,_=>.bad
theorem YZ:apM Γ nt i (some (.list ds)) (.tuple [x,dm])=gd (ds.length<bE) (.ok (.nx ((Γ.set i (some dm)).set nt (some (.list (ds++[x])))))):=rfl
theorem RL{f:B4->AO ab}:HD nt i f ms Γ=(evs ms Γ).bind λds=>(f ds).bind (apM Γ nt i (gv Γ nt)):=rfl
theorem Z9:lrD (.int a)=gd (-(2^20)<=a/\a<=2^20) (.ok (.list (upN a.toNat))):=rfl
end Zq
set_option hygiene false in
local macro_rules | `(tactic| ext)=>`(tactic| simp (config:={ decide:=true,implicitDefEqProofs:=false }) only[Zq.Oi,Zq.aax,Zq.gK,Zq.lF,Zq.Z3,Zq.YT,Zq.W5,Zq.Bb,Zq.Nq,Zq.WD,Zq.WL,Zq.VB,Zq.W9,Zq.Wl,Zq.Wm,Zq.VN,Zq.RT,Zq.aa5,Zq.UJ,Zq.aaY,Zq.RL,Zq.YZ,Zq.Z9,Zq.Zj,Zq.V5,Zq.aad,Zq.Zx,Zq.SQ,Zq.RW,Zq.Dn,Zq.Jz,Zq.aaZ,Zq.aat,Zq.mX,Zq.aaD,Zq.Bd,Zq.VR,Zq.Xm,Zq.Vl,Zq.aaM,Zq.U5,Zq.ZL,Zq.V8,Zq.ab3,Zq.La,Zq.Hi,Zq.Kc,Zq.FW,Zq.Wv,Zq.aam,Zq.Sv,Zq.Up,Zq.Vr,Zq.MF,Zq.Wj,Zq.YF,Zq.Rq,Zq.Rg,Zq.DR,Zq.adG,Zq.aaj,Zq.Xl,Zq.aa0,Zq.aar,Zq.aaE,Zq.Z6,Zq.Wk,Zq.Xv,Zq.Ql,Zq.AO.aP,Zq.AO.bind_assoc,Zq.abQ,Zq.aak,Zq.aa3,Zq.Xi,Zq.Om,Zq.HS,Zq.Wd,Zq.Xb,Zq.Vf,Zq.Ul,Zq.WM,Zq.Vb,Zq.V7,Zq.U9,Zq.ZW,Zq.YW,Zq.ZR,Zq.Zk,Zq.Zd,Zq.ab4,Zq.abm,Zq.ady,Zq.ix0,Zq.ix1,Zq.aa7,Zq.aa1,Zq.RX,Zq.HR,Zq.Gq,Zq.wQ,Zq.QD,Zq.Ly,Zq.Sq,decide_false,decide_true,if_true,if_false,Bool.not_true,Bool.not_false,and_true,true_and,a8,fv,bt,l9,af,cS,fo,mi,gL,fe,List.set_cons_zero,List.set_cons_succ,Nat.reduceSub,Nat.reduceAdd,AJ])
set_option hygiene false in
local macro_rules | `(tactic| walk_at "gd")=>`(tactic| (rw[Zq.bw (by first | omega (config:={}) | (unfold Zq.rQ;omega (config:={})) | (unfold Zq.Ez;omega (config:={})) | (unfold Zq.Er;omega (config:={})) | (simp (config:={ decide:=true }) only[Zq.sizeLine_eq,ai,af,cS,dr,nV,bt,l9];omega (config:={})))]))
set_option hygiene false in
local macro_rules | `(tactic| walk_at "go")=>`(tactic| (repeat (first | ext | walk_at "gd")))
namespace Zq
open PySem PySem.Spec PyProof.Rows
theorem Ys{a p:Int}(hp:0<=p):Ea [.int a,.int p]= .ok (.int (ak a p)):=by
 unfold Ea;ext;rw[bw hp];ext;rw[ip];rfl
variable {xs:B3}
theorem Mi:pY [dL xs]= .ok (.int (aX xs)):=by
 unfold pY dL;ext;refine bJ (λi=>[some (.list (xs.map ab.int)),some (.int ((xs.reverse.take i).foldl (λn f=>2*n+f) 0)),none]) rfl (λi x hx=>?_) ?_
 rotate_left
 . ext;rw[mf,af,<- mf,eD,Vc]
 . rw[<- List.map_reverse] at hx;obtain ⟨v,rfl,hv⟩:=ints_get hx;ext;rw[bw (.inl ⟨by decide,by decide⟩)];ext;rw[oy,hv,gc];rfl
theorem uI{n:Nat}(hn:n<=100):jT [.int (n:Nat)]= .ok (.int (2^n)):=by
 unfold jT;ext;rw[cT (by lia)];ext;refine bJ (λi=>[some (.int n),some (.int (2^i)),none]) rfl (λi x hx=>?_) ?_
 . obtain ⟨_,rfl⟩:=iI hx;ext;rw[bw (.inl ⟨by decide,by decide⟩)];ext;rw[show (2:Int)*2^i=2^(i+1) by rw[ll,si]]
 . rw[dM];ext
theorem Hm{n:Nat}(hn:n<=4):mH [.int (n:Nat)]= .ok (.int (2^2^n)):=by
 unfold mH;ext;rw[cT (by lia)];ext;refine bJ (λi=>[some (.int n),some (.int (2^2^i)),none]) rfl (λi x hx=>?_) ?_
 . obtain ⟨hi,rfl⟩:=iI hx;ext;have hb:(2:Int)^2^i<=65536/\0<(2:Int)^2^i:=by
    have:i=0\/i=1\/i=2\/i=3:=by lia
    rcases this with rfl | rfl | rfl | rfl <;> decide
   rw[bw (.inl ⟨by lia,by lia⟩)];ext;rw[show (2:Int)^2^i*2^2^i=2^2^(i+1) by rw[<- Int.pow_add,sk];congr 1;lia]
 . rw[dM];ext
theorem il{n:Nat}(hn:n<=4):iw [.int (n:Nat)]= .ok (.int (2^2^n - 1)):=by
 unfold iw;ext;rw[Hm hn];ext
theorem ym{n:Nat}(h:n<=4):2^n<=16:=by
 have:n=0\/n=1\/n=2\/n=3\/n=4:=by lia
 rcases this with rfl | rfl | rfl | rfl | rfl <;> decide
theorem JG{n:Nat}(h:n<=4):Es (.int (2^n))= .ok (upN (2^n)):=by
 have e:((2:Int)^n)=(((2^n:Nat)):Int):=by simp
 have:=ym h;rw[e,cT (by lia)]
theorem Kw{n:Nat}(h:n<=4):2^n<bE:=by
 have:=ym h;exact ki this (by decide)
theorem Bz{n:Nat}(h:n<=100000):n<bE:=ki h (by decide)
theorem oU{n:Nat}{f:Nat->Int}:(List.range n).map (λi=>ab.int (f i))=((List.range n).map f).map ab.int:=by rw[de];rfl
variable {j:Nat}
theorem Hg{n:Nat}(hn:n<=4):mC [.int (n:Nat),.int (j:Nat)]= .ok (.int (iB n j)):=by
 unfold mC;ext;rw[jx (λi=>.int (ak i j)) ?_ (Kw hn) λi _=>?_]
 . ext;rw[oU];exact (congrArg (λr=>r.bind λd=>AO.ok d) (Mi)).trans rfl
 . ext;rw[uI (by lia)];ext;exact JG hn
 . ext;rw[Ys (by lia)]
theorem uU{n:Nat}(hn:n<=4):jq [.int (n:Nat)]= .ok (dL ((List.range n).map λj=>iB n j)):=by
 unfold jq;ext;rw[jx (n:=n) (λj=>.int (iB n j)) ?_ (Bz (by lia)) λi _=>?_]
 . ext;rw[oU];rfl
 . ext;exact cT (by lia)
 . ext;rw[Hg hn]
theorem uP(x y:Int):gz x y / 2=gz (x / 2) (y / 2)/\gz x y % 2=(x % 2)*(y % 2):=by
 have h:=PySem.W.kbt_halves x y;have hx:x % 2=0\/x % 2=1:=by lia
 have hy:y % 2=0\/y % 2=1:=by lia
 rcases hx with hx | hx <;> rcases hy with hy | hy <;> simp only[hy] at h ⊢ <;> (try simp at h) <;> lia
theorem pW(x:Int):iq x / 2=iq (x / 2)/\iq x % 2=1 - x % 2:=by
 unfold iq;lia
theorem Rb(x y:Int):kD x y / 2=kD (x / 2) (y / 2)/\kD x y % 2=1 - (1 - x % 2)*(1 - y % 2):=by
 unfold kD;obtain ⟨a1,a2⟩:=pW (gz (iq x) (iq y));obtain ⟨b1,b2⟩:=uP (iq x) (iq y);obtain ⟨c1,c2⟩:=pW x;obtain ⟨d1,d2⟩:=pW y;rw[a1,a2,b1,b2,c1,c2,d1,d2];exact ⟨rfl,rfl⟩
noncomputable def xJ(x y t:Int):Int:=kD (gz x (iq t)) (gz y t)
theorem O5(x y t:Int):xJ x y t / 2=xJ (x / 2) (y / 2) (t / 2)/\xJ x y t % 2=if t % 2=1 then y % 2 else x % 2:=by
 unfold xJ;obtain ⟨a1,a2⟩:=Rb (gz x (iq t)) (gz y t);obtain ⟨b1,b2⟩:=uP x (iq t);obtain ⟨c1,c2⟩:=uP y t;obtain ⟨d1,d2⟩:=pW t;rw[a1,a2,b1,b2,c1,c2,d1,d2];refine ⟨rfl,?_⟩;have ht:t % 2=0\/t % 2=1:=by lia
 rcases ht with ht | ht <;> rw[ht] <;> simp <;> lia
theorem Gi(x:Int):gz 0 x=0:=by
 have:=PySem.W.kbt_mask' x 0;simpa using this
variable {W:Nat}
theorem vP{f:Nat->Int}:tab (W+1) f=2*tab W (λr=>f (r+1))+f 0:=by
 rw[tab,zi,a8,cZ,de];rfl
theorem NQ{f g:Nat->Int}(t:Int)(hf:∀r,f r=0\/f r=1)(hg:∀r,g r=0\/g r=1):∀W:Nat,xJ (tab W f) (tab W g) t=tab W λr=>if ak t (r:Nat)=1 then g r else f r
 | 0=>by
  show xJ 0 0 t=0;rw[xJ,Gi,Gi];rfl
 | W+1=>by
  have ih:=NQ (f:=λr=>f (r+1)) (g:=λr=>g (r+1)) (t / 2) (λr=>hf (r+1)) (λr=>hg (r+1)) W;rw[vP,vP,vP];have f0:=hf 0;have g0:=hg 0;obtain ⟨h1,h2⟩:=O5 (2*tab W (λr=>f (r+1))+f 0) (2*tab W (λr=>g (r+1))+g 0) t;rw[show (2*tab W (λr=>f (r+1))+f 0) / 2=tab W (λr=>f (r+1)) by lia,show (2*tab W (λr=>g (r+1))+g 0) / 2=tab W (λr=>g (r+1)) by lia,ih] at h1;rw[show (2*tab W (λr=>f (r+1))+f 0) % 2=f 0 by lia,show (2*tab W (λr=>g (r+1))+g 0) % 2=g 0 by lia] at h2;have e:(λr:Nat=>if ak t ((r+1:Nat):Int)=1 then g (r+1) else f (r+1))=λr:Nat=>if ak (t / 2) (r:Nat)=1 then g (r+1) else f (r+1):=by
   funext r;rw[ud]
  rw[e,show ak t ((0:Nat):Int)=t % 2 from tD t];lia
theorem mW(c:Int):∀W:Nat,tab W (λ_=>c)=(2^W - 1)*c
 | 0=>by simp[tab,aX]
 | W+1=>by
  rw[vP,mW c W,ll];have:(2^W*2 - 1)*c=2*((2^W - 1)*c)+c:=by
   rw[Int.sub_mul,Int.sub_mul,Int.mul_sub,p9,Int.mul_left_comm (2^W) 2 c];lia
  rw[this]
variable {x:Int}
theorem nA(h0:0<=x)(h1:x<4000):oz x=true:=by
 rw[oz,decide_eq_true (show -(2^63)<=x by lia),decide_eq_true (show x<2^63 by lia)];rfl
theorem WR(h:j<1000):Fp (.int 0) (.int ((2*j:Nat):Int)) (.int 2)= .ok ((List.range j).map λ(k:Nat)=>ab.int (((2*k:Nat)):Int)):=by
 have e:dS 0 ((2*j:Nat):Int) 2=(j:Nat):=by
  rw[dS,if_pos (by decide)];split <;> lia
 have hs:Builtin.Range.small 0 ((2*j:Nat):Int) 2=true:=by
  rw[Builtin.Range.small,e,nA (by decide) (by decide),nA (by lia) (by lia),nA (by decide) (by decide),nA (by lia) (by lia),if_pos (by decide),nA (by lia) (by lia),Bool.or_true];rfl
 have e2:Fp (.int 0) (.int ((2*j:Nat):Int)) (.int 2)=gd ((2:Int)≠0/\(2:Int).natAbs<1073741824/\Builtin.Range.small 0 ((2*j:Nat):Int) 2=true/\0<=dS 0 ((2*j:Nat):Int) 2) (.ok ((List.range (dS 0 ((2*j:Nat):Int) 2).toNat).map λk=>ab.int (0+(k:Nat)*2))):=rfl;have c3:(2:Int)≠0/\(2:Int).natAbs<1073741824/\Builtin.Range.small 0 ((2*j:Nat):Int) 2=true/\0<=dS 0 ((2*j:Nat):Int) 2:=⟨by lia,by lia,hs,by rw[e];lia⟩;refine e2.trans ((bw c3).trans ?_);rw[e,cx];refine congrArg AO.ok (cn λk _=>congrArg ab.int ?_);lia
noncomputable def KY(W N:Nat)(F:Int->Nat->Int):B3:=(List.range N).map λp=>tab W (F (p:Nat))
variable {p:Nat}
theorem Fw{F:Int->Nat->Int}(h:p<j):((KY W j F).map ab.int)[p]?=some (.int (tab W (F (p:Nat)))):=by
 rw[KY,de,br,eP h];rfl
noncomputable def HF(t:Int)(F:Int->Nat->Int):Int->Nat->Int:=λp r=>F (2*p+ak t (r:Nat)) r
noncomputable def lA:B3->(Int->Nat->Int)->Int->Nat->Int
 | [],F=>F
 | t::ts,F=>lA ts (HF t F)
theorem JZ:∀{ts:B3}{F:Int->Nat->Int},(∀p r,F p r=0\/F p r=1)->∀p r,lA ts F p r=0\/lA ts F p r=1
 | [],F,h=>h
 | t::ts,F,h=>JZ (ts:=ts) λp r=>h _ r
theorem De:∀{ts:B3}{t:Int}{F:Int->Nat->Int},lA (ts++[t]) F=HF t (lA ts F)
 | [],t,F=>rfl
 | u::ts,t,F=>De (ts:=ts)
theorem Jd:∀{ts:B3}{F:Int->Nat->Int}{p:Int}{r:Nat},lA ts F p r=F (2^ts.length*p+aX (ts.map λt=>ak t (r:Nat))) r
 | [],F,p,r=>by show F p r=F (2^0*p+0) r;simp
 | t::ts,F,p,r=>by
  show lA ts (HF t F) p r=_;rw[Jd];rw[HF,a8,cZ,bt,ll];congr 1;rw[si (2^ts.length) 2,p9];lia
variable {m:Nat}{b:Int}{ts:B3}
theorem Gk(hl:ts.length=m)(hm:m<=4):qg [dG m b,dL ts,.int (2^W - 1)]= .ok (.int (tab W λr=>ak b (aX (ts.map λt=>ak t (r:Nat))))):=by
 have hp:=λi=>by have:=ym (n:=m - i) (by lia);lia
 unfold qg;ext;rw[jx (λp=>.int (tab W λ_=>ak b p)) ?_ (Kw hm) λi _=>?_]
 rotate_left
 . ext;rw[uI (by lia)];ext;exact JG hm
 . ext;rw[Ys (by lia)];ext;have cm:rQ (2^W - 1) (ak b (i:Nat)):=.inr ⟨by have:=K1 b i;lia,by have:=ZK b i;lia⟩;rw[bw cm,mW]
 ext;rw[oU];refine bJ (λi=>[some (dG m b),some (dL ts),some (.int (2^W - 1)),some (dL (KY W (2^(m - i)) (lA (ts.take i) λp r=>ak b p))),none]) rfl (λi x hx=>?_) ?_
 rotate_left
 . rw[af,hl,kM,<- hl,eD];unfold dL;ext;rw[show (ab.int 0)= .int ((0:Nat):Int) from rfl,jE (Fw (by decide))];ext;congr 2;refine eF λr hr=>?_;rw[Jd];congr 1;simp
 . obtain ⟨t,rfl,ht⟩:=ints_get hx;have hi:=(aS.mp ht).1;have e2:2^(m - i)=2*2^(m - (i+1)):=by rw[show m - i=(m - (i+1))+1 by lia,sk];lia
   have p16:=hp (i+1);have F01:∀p r,lA (ts.take i) (λp r=>ak b p) p r=0\/lA (ts.take i) (λp r=>ak b p) p r=1:=JZ λp r=>aM b p;ext;rw[gY (xs:=List.range (2^(m - (i+1)))) (λk=>.int ((2*k:Nat):Int)) (λk=>.int (tab W (lA (ts.take (i+1)) (λp r=>ak b p) k))) ?_ (Bz (by rw[cS];lia)) λk hk=>?_]
   . ext;rw[oU];rfl
   . unfold Av;ext;rw[show (KY W (2^(m - i)) (lA (ts.take i) λp r=>ak b p)).length=2*2^(m - (i+1)) by rw[KY,af,cS,e2]];exact WR (by lia)
   . have hk':=dQ.mp hk;unfold dL;ext;rw[jE (Fw (by lia)),show ((2*k:Nat):Int)+1=((2*k+1:Nat):Int) by lia,jE (Fw (by lia))];ext;show AO.ok (ab.int (xJ (tab W _) (tab W _) t))=_;rw[NQ t (F01 _) (F01 _)];congr 2;refine eF λr hr=>?_;rw[oy,ht];show _=lA (ts.take i++[t]) _ _ _;rw[De];rcases aM t r with h | h <;> rw[h]
     . rw[if_neg (by decide)];congr 1 <;> lia
     . rw[if_pos rfl];congr 1 <;> lia
theorem Hx(hl:ts.length=m)(hm:m<=4)(hn:j<=4):pG [dG m b,dL ts,.int (j:Nat)]= .ok (.int (cA b ts j)):=by
 unfold pG;ext;rw[il hn];ext;rw[Gk hl hm];rfl
theorem Cz{n:Nat}(hn3:n<=3)(hj:j<=n)(hw:x=0\/x=1):jA [dG (n+1) b,.int (j:Nat),.int x]= .ok (dG n (eV n b j x)):=by
 have hn:n<=4:=by lia
 unfold jA;ext;have e1:(((n+1:Nat):Nat):Int) - 1=(n:Nat):=by lia
 rw[e1,uU hn];unfold dL;ext;have ins:∀t:Int,((((List.range n).map λj=>iB n j).map ab.int).take ((j:Nat):Int).toNat++ab.int t::(((List.range n).map λj=>iB n j).map ab.int).drop ((j:Nat):Int).toNat)=(lz j t ((List.range n).map λj=>iB n j)).map ab.int:=λt=>by
  rw[lz,cx,a7,List.map_take,a8,List.map_drop]
 have len:(((List.range n).map λj=>iB n j).map ab.int).length=n:=by simp
 have fin:∀t:Int,pG [dG (n+1) b,.list ((lz j t ((List.range n).map λj=>iB n j)).map ab.int),.int (n:Nat)]= .ok (.int (cA b (lz j t ((List.range n).map λj=>iB n j)) n)):=λt=>
  Hx (by rw[Kr (by simpa using hj)];simp) (by lia) hn
 rcases hw with rfl | rfl
 . ext;walk_at "gd";ext;rw[ins,fin];rfl
 . ext;rw[il hn];ext;walk_at "gd";ext;rw[ins,fin];rfl
theorem beyond(h:j<=4):AX (.list [.int 2,.int 4,.int 16,.int 256,.int 65536]) (.int (j:Nat))= .ok (.int (2^2^j)):=by
 have:j=0\/j=1\/j=2\/j=3\/j=4:=by lia
 rcases this with rfl | rfl | rfl | rfl | rfl <;> rfl
theorem Xk(a:Int){m:Int}(h:0<m):∃n:Nat,a % m=(n:Nat)/\(n:Int)<m:=
 ⟨(a % m).toNat,by have:=kT a (show m≠0 by lia);lia,by have:=kx a h;have:=kT a (show m≠0 by lia);lia⟩
structure aC where
 m:Nat
 b:Int
 ws:B5
noncomputable def dN(ks:B5):B4:=ks.map λk=>ab.int (k:Nat)
noncomputable def aC.d(s:aC):ab:=.tuple [dG s.m s.b,.tuple (dN s.ws)]
structure aC.Ok (t:Nat) (s:aC):Prop where
 m4:s.m<=4
 len:s.ws.length=s.m
 lt:∀k∈s.ws,k<t
 b0:0<=s.b
 b1:s.b<2^2^s.m
def bc(n:Nat)(ss:List aC):Prop:=∀(i:Nat) (s:aC),ss[i]?=some s->s.Ok (n+i)
noncomputable def dC(n:Nat)(ss:List aC)(o:Nat):ab:=.tuple [.int (n:Nat),.tuple (ss.map aC.d),.int (o:Nat)]
noncomputable def stepV(vs:B3)(s:aC):B3:=vs++[ak s.b (aX (s.ws.map λk=>vs.getD k 0))]
noncomputable def b8(n:Nat)(ss:List aC)(r:Nat):B3:=ss.foldl stepV (bx n r)
variable {ss:List aC}{s:aC}{r:Nat}
theorem iK:b8 j (ss++[s]) r=stepV (b8 j ss r) s:=by rw[b8,gc];rfl
theorem snoc_ind{α:Type}{P:List α->Prop}(h0:P [])(h:∀l a,P l->P (l++[a]))(l:List α):P l:=by
 have:∀k:Nat,∀l:List α,l.length=k->P l:=by
  intro k
  induction k with
  | zero=>intro l hl;rw[l5.mp hl];exact h0
  | succ k ih=>
   intro l hl;have hne:l≠[]:=λz=>by rw[z] at hl;cases hl
   rw[<- ve hne];exact h _ _ (ih _ (by rw[List.length_dropLast,hl];rfl))
 exact this _ l rfl
theorem fc{n:Nat}:(b8 n ss r).length=n+ss.length:=by
 induction ss using snoc_ind with
 | h0=>unfold b8;simp[bH]
 | h l a ih=>rw[iK];rw[stepV,ai,ih,ai];simp;lia
theorem MT{n:Nat}:bO (b8 n ss r):=by
 induction ss using snoc_ind with
 | h0=>exact bO.bx
 | h l a ih=>
  rw[iK];unfold stepV;intro x hx;rcases cE.mp hx with z | z
  . exact ih x z
  . rw[aI.mp z];exact aM _ _
theorem zW(h:bO xs)(k:Nat):xs.getD k 0=0\/xs.getD k 0=1:=by
 rw[ae]
 cases e:xs[k]? with
 | none=>exact .inl rfl
 | some x=>exact h x (eJ e)
theorem bc.nil:bc j []:=λi s h=>by cases h
theorem bc.snoc(h:bc j ss)(hs:s.Ok (j+ss.length)):bc j (ss++[s]):=λi t ht=>by
 rcases gy i ss.length with hi | hi
 . rw[cq hi] at ht;exact h i t ht
 . rw[b9 hi] at ht;have:=by
    have:=(aS.mp ht).1;simp at this;lia
   rw[this] at ht;have e:=Option.some.inj ht;subst e;rw[show i=ss.length by lia];exact hs
theorem vC(h:j<ts.length):AX (dL ts) (.int (j:Nat))= .ok (.int (ts.getD j 0)):=by
 refine jE ?_;rw[br,ae,av h];rfl
variable {i:Nat}
theorem nF(h:ss[i]?=some s):ss.take (i+1)=ss.take i++[s]:=by
 rw[oy,h];rfl
theorem tL:yw [.list (xs.map ab.int)]= .ok (.int xs.sum):=by
 show (match intsOf (xs.map ab.int) with | some ns=>AO.ok (ab.int ns.sum) | none=>.bad)=_;rw[vQ]
theorem Cm:∀(xs:B3),((List.range xs.length).map λi=>xs.getD i 0*2^i).sum=aX xs:=by
 intro xs
 induction xs using snoc_ind with
 | h0=>rfl
 | h l a ih=>
  rw[ai,cy,kR,a7,qh,um,<- ih];congr 1
  . congr 1;refine cn λi hi=>?_;rw[ae,ae,cq (dQ.mp hi)]
  . show List.sum [(l++[a]).getD l.length 0*2^l.length]=_;rw[ae,b9 (ay _),kM];show a*2^l.length+0=_;rw[Int.add_zero,si]
variable {t v:Int}
theorem YD(h0:0<=t)(h1:t<2^r)(hv:v=0\/v=1):kD t (v*2^r)=t+2^r*v:=by
 rw[PyProof.Rows.bitOr_and];have p2:=two_pos r;have:gz t (v*2^r)=0:=by
  rcases hv with rfl | rfl
  . rw[Int.zero_mul];exact PyProof.Rows.bitAnd_zero _
  . rw[n9,PyProof.Rows.bitAnd_pp h0 (by lia)];have e:((2:Int)^r).toNat=2^r:=by
     rw[show (2^r)=(((2^r:Nat)):Int) by simp];exact cx _
    rw[e];have hlt:t.toNat<2^r:=by lia
    have:t.toNat &&& 2^r=0:=by
     refine Nat.eq_of_testBit_eq λi=>?_;rw[Nat.testBit_and,Nat.testBit_two_pow,Nat.zero_testBit]
     by_cases h:r=i
     . subst h;rw[Nat.testBit_lt_two_pow hlt];rfl
     . simp[h]
    rw[this];rfl
 rw[this];rcases hv with rfl | rfl <;> lia
theorem M9(b:Int)(k:Nat):gz (b / 2^k) 1=ak b (k:Nat):=by
 rw[ip];rw[ak,cx]
theorem An:∀{ds:B4},(∀d∈ds,d.depth<=j)->l8 ds<=j
 | [],_=>by rw[l8];exact kz _
 | d::ds,h=>by
  rw[l8];exact Nat.max_le.mpr ⟨h d bX,An λe he=>h e (cc _ he)⟩
variable {ds:B4}
theorem xG{k:Nat}(h:∀d∈ds,d.depth<=k):(ab.tuple ds).depth<=k+1:=by
 rw[ab.depth];have:=An h;lia
theorem GQ(h:∀d∈ds,plain d=true):iV ds=true:=by
 induction ds with
 | nil=>rw[iV]
 | cons d ds ih=>rw[iV,h d bX,ih λe he=>h e (cc _ he)];rfl
theorem Te(h:∀d∈ds,plain d=true):plain (.tuple ds)=true:=by rw[Zq.plain];exact GQ h
theorem aaz:plain (.int x)=true:=by rw[Zq.plain]
theorem Ew:(ab.int x).depth<=0:=by rw[ab.depth];exact ay _
theorem RJ:(dG j b).depth<=1:=xG λd hd=>by
 rcases cp.mp hd with rfl | hd
 . exact Ew
 . rw[aI.mp hd];exact Ew
variable {o:Nat}
theorem Pn:AX (dC j ss o) (.int 0)= .ok (.int (j:Nat)):=rfl
theorem Iw:AX (dC j ss o) (.int 1)= .ok (.tuple (ss.map aC.d)):=rfl
theorem Q7:AX (dC j ss o) (.int 2)= .ok (.int (o:Nat)):=rfl
theorem yc(xs:B3):aX (rW xs)=2^xs.length - 1 - aX xs:=by
 induction xs with
 | nil=>rfl
 | cons x xs ih=>
  show aX ((1 - x)::rW xs)=_;rw[cZ,ih,cZ,bt,ll];lia
theorem bc.init(h:bc j (ss++[s])):bc j ss/\s.Ok (j+ss.length):=by
 refine ⟨λi t e=>h i t ?_,h ss.length s ?_⟩
 . rw[cq (aS.mp e).1];exact e
 . rw[b9 (ay _),kM];rfl
noncomputable def cJ(b:Int)(ts:B3)(w:Nat):Int:=tab w λc=>ak b (aX (ts.map λt=>ak t (c:Nat)))
variable {w:Nat}
theorem Am:0<=cJ b ts w:=nT λ_=>aM _ _
theorem MJ:cJ b ts w<2^w:=yG λ_=>aM _ _
theorem ad1{f:Nat->Int}:ab.list ((List.range j).map λi=>ab.int (f i))=dL ((List.range j).map f):=by rw[dL,de];rfl
theorem Qf(hl:ts.length=m)(hm:m<=4)(hw:w<=100):qY [dG m b,dL ts,.int (w:Nat)]= .ok (.int (cJ b ts w)):=by
 unfold qY;ext;rw[uI hw];ext;rw[Gk hl hm];rfl
theorem take_snoc{α:Type}{l:List α}{x:α}(h:l[i]?=some x):l.take (i+1)=l.take i++[x]:=by
 rw[List.take_succ,h];rfl
noncomputable def dT(m:Nat)(b:Int)(ds:B4):ab:=.tuple [dG m b,.tuple ds]
def nU(n:Nat):Nat->ab->Prop
 | 0,d=>∃i:Nat,i<n/\d= .int (i:Nat)
 | k+1,d=>(∃i:Nat,i<n/\d= .int (i:Nat))\/∃(m:Nat) (b:Int) (ds:B4),m<=4/\0<=b/\b<2^2^m/\ds.length=m/\d=dT m b ds/\∀e∈ds,nU n k e
theorem nU.inp{n k i:Nat}(h:i<n):nU n k (.int (i:Nat)):=by
 cases k with
 | zero=>exact ⟨i,h,rfl⟩
 | succ k=>exact .inl ⟨i,h,rfl⟩
noncomputable def JP(r:Nat):Nat->ab->Int
 | _,.int i=>ak (r:Nat) i
 | k+1,.tuple [.tuple [_,.int b],.tuple ds]=>ak b (aX (ds.map (JP r k)))
 | _,_=>0
noncomputable def jG:Nat->ab->Int
 | _,.int _=>0
 | k+1,.tuple [_,.tuple ds]=>1+(ds.map (jG k)).sum
 | _,_=>0
theorem Ji{i:Int}:JP r j (.int i)=ak (r:Nat) i:=by cases j <;> rfl
theorem yx:JP r (j+1) (dT m b ds)=ak b (aX (ds.map (JP r j))):=rfl
theorem Aq:jG j (.int x)=0:=by cases j <;> rfl
theorem t8:jG (j+1) (dT m b ds)=1+(ds.map (jG j)).sum:=rfl
theorem X3{α:Type}{xs:List α}{f:α->Int}{x:α}(h:xs[i]?=some x):((xs.take (i+1)).map f).sum=((xs.take i).map f).sum+f x:=by
 rw[List.take_succ,h,a7,qh];simp
theorem vm:jJ [.int x]= .ok (.bool true):=by
 unfold jJ;ext
theorem pA:jJ [.tuple ds]= .ok (.bool false):=by
 unfold jJ;ext
noncomputable def ren(n1 t:Nat)(hs:B5)(w:Nat):Nat:=if w<n1 then hs.getD w 0 else t+(w - n1)
noncomputable def mv(n1 t:Nat)(hs:B5)(s:aC):aC:=⟨s.m,s.b,s.ws.map (ren n1 t hs)⟩
theorem BP{ks:B5}(h:w<ks.length):AX (.list (dN ks)) (.int (w:Nat))= .ok (.int (ks.getD w 0:Nat)):=by
 refine jE ?_;rw[dN,br,av h,ae,av h];rfl
theorem yz{a b:B5}:dN (a++b)=dN a++dN b:=by unfold dN;rw[a7]
theorem vA{a:B5}:(dN a).length=a.length:=by rw[dN,af]
variable {hs:B5}{n1:Nat}
theorem Dd(hh:hs.length=n1)(hw:w<n1+i):(hs++(List.range i).map (j + ·)).getD w 0=ren n1 j hs w:=by
 rw[ren,ae]
 by_cases h:w<n1
 . rw[if_pos h,cq (by lia),ae]
 . rw[if_neg h,b9 (by lia),br,eP (by lia),hh];rfl
theorem GR(hw:∀w∈s.ws,w<hs.length)(hl:s.ws.length<=100):jz [s.d,.list (dN hs)]= .ok (aC.mk s.m s.b (s.ws.map λw=>hs.getD w 0)).d:=by
 unfold jz aC.d;ext;rw[gY (xs:=s.ws) (λw=>ab.int w) (λw=>.int (hs.getD w 0:Nat)) ?_ (Bz (by lia)) λw hw'=>?_]
 rotate_left
 . ext;rfl
 . ext;exact BP (hw w hw')
 ext;rw[dN,de];rfl
variable {AL:List aC}
theorem p_add{n:Nat}(h1:bc n1 ss)(hh:hs.length=n1)(ha:AL.length<=5000)(hl:ss.length<=5000)(ho:o<n1+ss.length)(hn:n1<=100) :
 dB [.list (AL.map aC.d),.int (n:Nat),dC n1 ss o,.list (dN hs)]= .ok (.tuple [.int (ren n1 (n+AL.length) hs o:Nat),.list ((AL++ss.map (mv n1 (n+AL.length) hs)).map aC.d)]):=by
 unfold dB;ext;rw[Iw];ext;refine bJ (λi=>[some (.list ((AL++(ss.take i).map (mv n1 (n+AL.length) hs)).map aC.d)),some (.int n),some (dC n1 ss o),some (.list (dN hs)),some (.list (dN (hs++(List.range i).map (n+AL.length + ·)))),none]) ?_ (λi x hx=>?_) ?_
 . rw[mP,fv,dA,List.range_zero,fv,dA]
 . obtain ⟨s,e,rfl⟩:=cG hx;have ok:=h1 i s e;have hi:=(aS.mp e).1;have m4:=ok.m4;have ln:=ok.len;ext;rw[GR (λw hw=>by have:=ok.lt w hw;rw[ai,af,cS];lia) (by lia)];have e1:(aC.mk s.m s.b (s.ws.map λw=>(hs++(List.range i).map (n+AL.length + ·)).getD w 0))=mv n1 (n+AL.length) hs s:=by
    congr 1;exact cn λw hw=>Dd hh (ok.lt w hw)
   have e2:(AL++(ss.take i).map (mv n1 (n+AL.length) hs)).length=AL.length+i:=by
    rw[ai,af,dr];lia
   rw[e1];ext;rw[bw (Bz (by lia))];ext;rw[bw (Bz (by rw[vA,ai,af,cS];lia))];ext;have e3:((n:Nat):Int)+(((AL++(ss.take i).map (mv n1 (n+AL.length) hs)).map aC.d++[(mv n1 (n+AL.length) hs s).d]).length:Nat) - 1=((n+AL.length+i:Nat):Nat):=by
    rw[ai,af,e2,cy];lia
   have e4:(AL++(ss.take (i+1)).map (mv n1 (n+AL.length) hs)).map aC.d=(AL++(ss.take i).map (mv n1 (n+AL.length) hs)).map aC.d++[(mv n1 (n+AL.length) hs s).d]:=by
    rw[nF e,a7 (f:=mv n1 (n+AL.length) hs),<- d6];exact a7
   have e5:dN (hs++(List.range (i+1)).map (n+AL.length + ·))=dN (hs++(List.range i).map (n+AL.length + ·))++[.int (n+AL.length+i:Nat)]:=by
    rw[kR,a7,<- d6];exact yz
   rw[e3,e4,e5]
 . rw[af,eD];ext;rw[Q7];ext;rw[BP (by rw[ai,af,cS];lia),Dd hh ho];ext
theorem Bx{n:Nat}(hw:w<n)(ss:List aC):(b8 n ss r).getD w 0=(bx n r).getD w 0:=by
 induction ss using snoc_ind with
 | h0=>rfl
 | h ss s ih=>
  rw[iK,<- ih];unfold stepV;have:=fc (n:=n) (ss:=ss) (r:=r);rw[ae,cq (by lia),ae]
variable {ys:B3}
theorem uv(h:w<xs.length):(xs++ys).getD w 0=xs.getD w 0:=by
 rw[ae,cq h,ae]
theorem getD_map{α:Type}{f:Nat->Int}(h:w<hs.length):(hs.map f).getD w 0=f (hs.getD w 0):=by
 rw[ae,br,av h,ae,av h];rfl
theorem MP{w:Nat}(hh:hs.length=n1)(hlt:∀x∈hs,x<xs.length)(hB:ts.length=n1+j)(hb:∀w,w<n1->ts.getD w 0=xs.getD (hs.getD w 0) 0)(hw:w<n1+j) :
 (xs++ts.drop n1).getD (ren n1 xs.length hs w) 0=ts.getD w 0:=by
 unfold ren
 by_cases h:w<n1
 . have hx:hs.getD w 0<xs.length:=by
    rw[ae,av (by lia)];exact hlt _ (g9 _)
   rw[if_pos h,hb w h,uv hx]
 . rw[if_neg h,ae,b9 (by lia),List.getElem?_drop,ae];congr 2;lia
theorem aaJ{n:Nat}(hh:hs.length=n1)(hlt:∀x∈hs,x<n+AL.length)(hb:bx n1 j=hs.map λw=>(b8 n AL r).getD w 0)(ss:List aC) :
 bc n1 ss->b8 n (AL++ss.map (mv n1 (n+AL.length) hs)) r=b8 n AL r++(b8 n1 ss j).drop n1:=by
 have hA:=fc (n:=n) (ss:=AL) (r:=r)
 induction ss using snoc_ind with
 | h0=>
  intro _;rw[fv,dA,show b8 n1 [] j=bx n1 j from rfl,zk (by rw[bH];exact ay _),dA]
 | h ss s ih=>
  intro h;obtain ⟨h1,h2⟩:=h.init;have hB:=fc (n:=n1) (ss:=ss) (r:=j);rw[a7,a8,fv,<- d6,iK,iK,ih h1];unfold stepV;have key:=λw hw=>by
   have:=MP hh (λx hx=>by rw[hA];exact hlt x hx) hB (λu hu=>by rw[Bx hu,hb,getD_map (α:=Nat) (by lia)]) (h2.lt w hw);rwa [hA] at this
  rw[d6,List.drop_append_of_le_length (by lia)];congr 2;show [ak s.b (aX ((s.ws.map (ren n1 (n+AL.length) hs)).map λk=>_))]=_;rw[de];congr 3;exact cn λw hw=>key w hw
theorem aeN{n:Nat}(ha:bc n AL)(h1:bc n1 ss)(hh:hs.length=n1)(hlt:∀x∈hs,x<n+AL.length):bc n (AL++ss.map (mv n1 (n+AL.length) hs)):=λi s e=>by
 by_cases h:i<AL.length
 . rw[cq h] at e;exact ha i s e
 . rw[b9 (by lia),br] at e
   cases q:ss[i - AL.length]? with
   | none=>rw[q] at e;cases e
   | some s'=>
    rw[q] at e;cases e;have ok:=h1 _ _ q;refine ⟨ok.m4,by show (s'.ws.map _).length=s'.m;rw[af,ok.len],λw hw=>?_,ok.b0,ok.b1⟩;obtain ⟨u,hu,rfl⟩:=cf.mp hw;have:=ok.lt u hu;unfold ren
    by_cases hn:u<n1
    . rw[if_pos hn,ae,av (by lia)];have:=hlt _ (g9 (n:=u) (by lia));show hs[u]<_;lia
    . rw[if_neg hn];lia
theorem abS{k:Nat}(hh:hs.length=n1)(hlt:∀x∈hs,x<j)(hw:w<n1+k):ren n1 j hs w<j+k:=by
 unfold ren
 by_cases hn:w<n1
 . rw[if_pos hn,ae,av (by lia)];have:=hlt _ (g9 (n:=w) (by lia));show hs[w]<_;lia
 . rw[if_neg hn];lia
noncomputable def fM(f:List aC->ab->List aC×Nat)(AL:List aC)(ds:B4):List aC×B5:=ds.foldl (λa d=>((f a.1 d).1,a.2++[(f a.1 d).2])) (AL,[])
noncomputable def dO(n:Nat):Nat->List aC->ab->List aC×Nat
 | 0=>λAL d=>match d with
  | .int i=>(AL,i.toNat)
  | _=>(AL,0)
 | k+1=>λAL d=>match d with
  | .int i=>(AL,i.toNat)
  | .tuple [.tuple [.int m,.int b],.tuple ds]=>((fM (dO n k) AL ds).1++[⟨m.toNat,b,(fM (dO n k) AL ds).2⟩],n+(fM (dO n k) AL ds).1.length)
  | _=>(AL,0)
theorem Aw:dO j W AL (.int (i:Nat))=(AL,i):=by cases W <;> rfl
theorem ur:dO j (W+1) AL (dT m b ds)=((fM (dO j W) AL ds).1++[⟨m,b,(fM (dO j W) AL ds).2⟩],j+(fM (dO j W) AL ds).1.length):=rfl
theorem G5{f:List aC->ab->List aC×Nat}{d:ab}:fM f AL (ds++[d])=((f (fM f AL ds).1 d).1,(fM f AL ds).2++[(f (fM f AL ds).1 d).2]):=by
 rw[fM,gc];rfl
noncomputable def cV{β:Type}(φ:Nat->Int->List β->β)(z:β)(base:List β)(ss:List aC):List β:=ss.foldl (λxs s=>xs++[φ s.m s.b (s.ws.map λw=>xs.getD w z)]) base
section
variable {β:Type}{φ:Nat->Int->List β->β}{z:β}{base:List β}{n:Nat}
theorem mZ:cV φ z base (ss++[s])=cV φ z base ss++[φ s.m s.b (s.ws.map λw=>(cV φ z base ss).getD w z)]:=by rw[cV,gc];rfl
theorem mz(hb:base.length=n):(cV φ z base ss).length=n+ss.length:=by
 induction ss using snoc_ind with
 | h0=>exact hb
 | h ss s ih=>rw[mZ,ai,ih,ai];rfl
theorem Cv{xs ys:List β}(h:w<xs.length):(xs++ys).getD w z=xs.getD w z:=by
 rw[ae,cq h,ae]
theorem ph(hb:base.length=n)(hw:w<n+AL.length)(more:List aC):(cV φ z base (AL++more)).getD w z=(cV φ z base AL).getD w z:=by
 induction more using snoc_ind with
 | h0=>rw[dA]
 | h ss s ih=>
  rw[<- d6,mZ,Cv (by rw[mz hb,ai];lia),ih]
structure Kid (φ:Nat->Int->List β->β) (z:β) (base:List β) (n:Nat) (AL:List aC) (q:List aC×Nat) (g:β) (c:Int):Prop where
 pre:∃more,q.1=AL++more
 ok:bc n q.1
 lt:q.2<n+q.1.length
 val:(cV φ z base q.1).getD q.2 z=g
 len:((q.1.length:Nat):Int)=AL.length+c
structure acY (φ:Nat->Int->List β->β) (z:β) (base:List β) (n:Nat) (AL:List aC) (q:List aC×B5) (gs:List β) (c:Int):Prop where
 pre:∃more,q.1=AL++more
 ok:bc n q.1
 lt:∀w∈q.2,w<n+q.1.length
 val:(q.2.map λw=>(cV φ z base q.1).getD w z)=gs
 len:((q.1.length:Nat):Int)=AL.length+c
theorem Ni(hb:base.length=n){f:List aC->ab->List aC×Nat}{G:ab->β}{C:ab->Int}(ha:bc n AL)(ds:B4) :
 (∀d∈ds,∀AL,bc n AL->Kid φ z base n AL (f AL d) (G d) (C d))->acY φ z base n AL (fM f AL ds) (ds.map G) (ds.map C).sum:=by
 induction ds using snoc_ind with
 | h0=>exact λ_=>⟨⟨[],(dA _).symm⟩,ha,λw hw=>(nomatch hw),rfl,by show ((AL.length:Nat):Int)=AL.length+(0:Int);lia⟩
 | h ds d ih=>
  intro h;obtain ⟨⟨m1,p1⟩,o1,l1,v1,n1⟩:=ih λe he=>h e (eM _ he);obtain ⟨⟨m2,p2⟩,o2,l2,v2,n2⟩:=h d (dn _ (aI.mpr rfl)) _ o1;rw[G5];generalize fM f AL ds=a at p1 o1 l1 v1 n1 p2 o2 l2 v2 n2;generalize f a.1 d=q at p2 o2 l2 v2 n2;refine ⟨⟨m1++m2,by rw[p2,p1,d6]⟩,o2,λw hw=>?_,?_,?_⟩
  . rcases cE.mp hw with hw | hw
    . have:=l1 w hw;rw[p2,ai];lia
    . rw[aI.mp hw];exact l2
  . rw[a7,a7,<- v1,a8,fv,a8,fv,<- v2];congr 1;refine cn λw hw=>?_;rw[p2];exact ph hb (l1 w hw) _
  . rw[n2,n1,a7,qh];show _=_+(_+(C d+0));lia
theorem Ff(hb:base.length=n){G:Nat->ab->β}(h0:∀k i:Nat,i<n->G k (.int (i:Nat))=base.getD i z)(h1:∀k m b ds,G (k+1) (dT m b ds)=φ m b (ds.map (G k))) :
 ∀{k:Nat}{d:ab}{AL:List aC},nU n k d->bc n AL->Kid φ z base n AL (dO n k AL d) (G k d) (jG k d):=by
 have inp:∀{k i:Nat}{AL:List aC},i<n->bc n AL->Kid φ z base n AL (dO n k AL (.int (i:Nat))) (G k (.int (i:Nat))) (jG k (.int (i:Nat))):=λ{k i AL} hi ha=>by
  rw[Aw,Aq,h0 k i hi];refine ⟨⟨[],(dA _).symm⟩,ha,by lia,?_,by show ((AL.length:Nat):Int)=AL.length+(0:Int);lia⟩;have:=ph (φ:=φ) (z:=z) hb (AL:=[]) (by lia) AL;exact this
 intro k
 induction k with
 | zero=>
  intro d AL h ha;obtain ⟨i,hi,rfl⟩:=h;exact inp hi ha
 | succ k ih=>
  intro d AL h ha;rcases h with ⟨i,hi,rfl⟩ | ⟨m,b,ds,hm,b0,b1,hl,rfl,hk⟩
  . exact inp hi ha
  . obtain ⟨⟨m1,p1⟩,o1,l1,v1,n1⟩:=Ni hb (C:=jG k) ha ds λd hd AL ha=>ih (hk d hd) ha;rw[ur,t8,h1];have hkl:(fM (dO n k) AL ds).2.length=m:=by
     have:=congrArg List.length v1;rw[af,af] at this;lia
    generalize fM (dO n k) AL ds=a at p1 o1 l1 v1 n1 hkl;refine ⟨⟨m1++[⟨m,b,a.2⟩],by rw[p1,d6]⟩,o1.snoc ⟨hm,hkl,l1,b0,b1⟩,by rw[ai];show _<_+(_+1);lia,?_,?_⟩
    . rw[mZ,ae,b9 (by rw[mz hb];exact ay _),mz hb,kM];show φ m b (a.2.map λw=>(cV φ z base a.1).getD w z)=_;rw[v1]
    . rw[ai,cy];lia
end
theorem O3:∀{k:Nat}{d:ab}{AL:List aC}{fu:Nat},nU j k d->bc j AL->k<fu->((AL.length:Nat):Int)+jG k d<=5000 ->
 jL fu [.list (AL.map aC.d),.int (j:Nat),d]= .ok (.tuple [.int ((dO j k AL d).2:Nat),.list ((dO j k AL d).1.map aC.d)]):=by
 have ADD:∀{k:Nat}{d:ab}{AL:List aC},nU j k d->bc j AL->Kid (λ_ _ xs=>1+xs.sum) 0 (ax j (0:Int)) j AL (dO j k AL d) (jG k d) (jG k d):=
  Ff ck (λk i hi=>by rw[Aq,ae,hZ hi];rfl) λk m b ds=>t8
 have inp:∀(k i fu:Nat) (AL:List aC),jL (fu+1) [.list (AL.map aC.d),.int (j:Nat),.int (i:Nat)]= .ok (.tuple [.int ((dO j k AL (.int (i:Nat))).2:Nat),.list ((dO j k AL (.int (i:Nat))).1.map aC.d)]):=λk i fu AL=>by
  rw[Aw];unfold jL;ext;rw[vm];ext
 intro k
 induction k with
 | zero=>
  intro d AL fu h ha hf hz;obtain ⟨i,hi,rfl⟩:=h;obtain ⟨fu,rfl⟩:∃f,fu=f+1:=⟨fu - 1,by lia⟩;exact inp 0 i fu AL
 | succ k ih=>
  intro d AL fu h ha hf hz;obtain ⟨fu,rfl⟩:∃f,fu=f+1:=⟨fu - 1,by lia⟩;rcases h with ⟨i,hi,rfl⟩ | ⟨m,b,ds,hm,b0,b1,hl,rfl,hk⟩
  . exact inp (k+1) i fu AL
  . rw[t8] at hz;rw[ur];unfold jL dT;ext;rw[pA];ext;have KO:∀i,acY (λ_ _ xs=>1+xs.sum) 0 (ax j (0:Int)) j AL (fM (dO j k) AL (ds.take i)) ((ds.take i).map (jG k)) ((ds.take i).map (jG k)).sum:=λi=>
     Ni ck ha _ λd hd AL ha=>ADD (hk d (pd hd)) ha
    have SUM:∀i,((ds.take i).map (jG k)).sum<=(ds.map (jG k)).sum:=λi=>by
     have e:ds.map (jG k)=(ds.take i).map (jG k)++(ds.drop i).map (jG k):=by rw[<- a7,sL]
     have p:∀(l:B3),(∀x∈l,0<=x)->0<=l.sum:=λl=>by
      induction l with
      | nil=>exact λ_=>nI _
      | cons x l ih=>intro h;rw[jS];have:=h x bX;have:=ih λy hy=>h y (cc _ hy);lia
     have q:=p ((ds.drop i).map (jG k)) λx hx=>by
      obtain ⟨d,hd,rfl⟩:=cf.mp hx;have K:=ADD (hk d (List.mem_of_mem_drop hd)) (bc.nil);have:=K.len;have e0:((([]:List aC).length:Nat):Int)=0:=rfl;lia
     rw[e,qh];lia
    refine bJ (λi=>[some (.list ((fM (dO j k) AL (ds.take i)).1.map aC.d)),some (.int j),some (.tuple [dG m b,.tuple ds]),some (.list (dN (fM (dO j k) AL (ds.take i)).2)),none]) rfl (λi x hx=>?_) ?_
    . have hi:=(aS.mp hx).1;have K:=KO i;have S1:=SUM (i+1);rw[X3 hx] at S1;have kl:=by
       have:=congrArg List.length K.val;rw[af,af,dr] at this;lia
      have e5:ds.take (i+1)=ds.take i++[x]:=by rw[oy,hx];rfl
      rw[e5,G5];have kn:=K.len;have ko:=K.ok;generalize fM (dO j k) AL (ds.take i)=a at kn ko kl;ext;rw[ih (hk x (eJ hx)) ko (by lia) (by lia)];ext;rw[bw (Bz (by rw[vA];lia))];ext;rw[yz];rfl
    . rw[eD];have K:=KO ds.length;rw[eD] at K;have kn:=K.len;generalize fM (dO j k) AL ds=a at kn;ext;rw[bw (Bz (by lia))];ext;rw[show ((j:Nat):Int)+((a.1.map aC.d++[ab.tuple [dG m b,.tuple (dN a.2)]]).length:Nat) - 1=((j+a.1.length:Nat):Nat) by rw[ai,af,cy];lia,a7];rfl
theorem Fv{d:ab}(h:nU j W d)(hf:W<100)(hz:jG W d<=5000):jm [d,.int (j:Nat)]= .ok (dC j (dO j W [] d).1 (dO j W [] d).2):=by
 unfold jm;ext;rw[show ab.list []= .list (([]:List aC).map aC.d) from rfl,O3 h bc.nil hf (by show ((0:Nat):Int)+_<=_;lia)];ext;rfl
noncomputable def kS(s:aC):dH:=[[(s.m:Int),s.b],s.ws.map λw=>((w:Nat):Int)]
theorem KJ:∀{a b:B5},(a.map λw=>((w:Nat):Int))=(b.map λw=>((w:Nat):Int))->a=b
 | [],[],_=>rfl
 | [],_::_,e=>by cases e
 | _::_,[],e=>by cases e
 | x::xs,y::ys,e=>by
  rw[a8,a8] at e;injection e with e1 e2;rw[AD.inj e1,KJ e2]
theorem abn{t:aC}(h:kS s=kS t):s=t:=by
 obtain ⟨m,b,ws⟩:=s;obtain ⟨m',b',ws'⟩:=t;injection h with h1 h2;injection h1 with h3 h4;injection h4 with h5 _;injection h2 with h6 _;rw[show m=m' from AD.inj h3,show b=b' from h5,show ws=ws' from KJ h6]
theorem JX:∀ks:B5,nH (dN ks)=some (ks.map λw=>((w:Nat):Int))
 | []=>rfl
 | k::ks=>by
  show (match nH (dN ks) with | some l=>some (((k:Nat):Int)::l) | none=>none)=_;rw[JX ks];rfl
theorem su(s:aC):jD s.d=some (kS s):=by
 show (match nH [ab.int (s.m:Nat),.int s.b],tH [.tuple (dN s.ws)] with | some a,some b=>some (a::b) | _,_=>none)=_;have e:tH [.tuple (dN s.ws)]=some [s.ws.map λw=>((w:Nat):Int)]:=by
  show (match nH (dN s.ws),tH [] with | some a,some b=>some (a::b) | _,_=>none)=_;rw[JX];rfl
 rw[e];rfl
noncomputable def stK:Nat->List aC->B0
 | _,[]=>[]
 | k,s::r=>(s.d,.int (k:Nat))::stK (k+1) r
noncomputable def plc(t:aC):List aC->Option Nat
 | []=>none
 | s::r=>if kS s=kS t then some 0 else (plc t r).map (· + 1)
theorem Bg(t:aC):∀(k:Nat) (AL:List aC),jW (kS t) (stK k AL)=(plc t AL).map λi=>ab.int ((k+i:Nat):Int)
 | k,[]=>rfl
 | k,s::r=>by
  unfold stK jW plc
  by_cases h:kS s=kS t
  . rw[if_pos (by rw[su,h]),if_pos h];rfl
  . rw[if_neg (by rw[su];exact λz=>h (Option.some.inj z)),if_neg h,Bg t (k+1) r,Option.map_map];congr 1;funext i;congr 2;simp;lia
theorem Ou(t:aC):∀(k:Nat) (AL:List aC),Ba (kS t) (stK k AL)=(plc t AL).isSome
 | k,[]=>rfl
 | k,s::r=>by
  unfold stK Ba plc
  by_cases h:kS s=kS t
  . rw[if_pos (by rw[su,h]),if_pos h];rfl
  . rw[if_neg (by rw[su];exact λz=>h (Option.some.inj z)),if_neg h,Ou t (k+1) r,kK]
theorem Km(t:aC):∀(k:Nat) (AL:List aC),stK k (AL++[t])=stK k AL++[(t.d,ab.int ((k+AL.length:Nat):Int))]
 | k,[]=>rfl
 | k,s::r=>by
  rw[gL,stK,Km t (k+1) r,stK,gL,bt];congr 4;congr 2;lia
theorem Oh:∀(k:Nat) (AL:List aC),(stK k AL).length=AL.length
 | k,[]=>rfl
 | k,s::r=>by rw[stK,bt,Oh,bt]
theorem Eo{t:aC}:∀{AL:List aC}{i:Nat},plc t AL=some i->AL[i]?=some t
 | [],i,h=>by cases h
 | s::r,i,h=>by
  unfold plc at h
  by_cases e:kS s=kS t
  . rw[if_pos e] at h;cases h;rw[abn e];rfl
  . rw[if_neg e] at h;obtain ⟨j,h1,rfl⟩:=mn.mp h;rw[List.getElem?_cons_succ];exact Eo h1
noncomputable def rnS(ks:B5)(s:aC):aC:=⟨s.m,s.b,s.ws.map λw=>ks.getD w 0⟩
noncomputable def Bm(n:Nat)(a:List aC×B5)(s:aC):List aC×B5:=match plc (rnS a.2 s) a.1 with
 | some i=>(a.1,a.2++[n+i])
 | none=>(a.1++[rnS a.2 s],a.2++[n+a.1.length])
noncomputable def eX(n:Nat)(ss:List aC):List aC×B5:=ss.foldl (Bm n) ([],List.range n)
theorem tK:eX j (ss++[s])=Bm j (eX j ss) s:=by rw[eX,gc];rfl
theorem fold_at{β:Type}{φ:Nat->Int->List β->β}{z:β}{base:List β}(hb:base.length=j)(l:List aC):bc j l->∀i t,l[i]?=some t->(cV φ z base l).getD (j+i) z=φ t.m t.b (t.ws.map λk=>(cV φ z base l).getD k z):=by
 refine snoc_ind (P:=λl=>bc j l->∀i t,l[i]?=some t->(cV φ z base l).getD (j+i) z=φ t.m t.b (t.ws.map λk=>(cV φ z base l).getD k z)) (λ_ i t h=>by cases h) (λl s ih hs i t h=>?_) l;have AY:=hs i t h;obtain ⟨h0,_⟩:=bc.init hs;have hi:=(aS.mp h).1;rw[ai,cy] at hi;have vl:(cV φ z base l).length=j+l.length:=mz hb;have e:(t.ws.map λk=>(cV φ z base (l++[s])).getD k z)=t.ws.map λk=>(cV φ z base l).getD k z:=cn λk hk=>by
  have:=AY.lt k hk;rw[mZ];exact Cv (by lia)
 rw[e,mZ]
 by_cases hl:i<l.length
 . rw[cq hl] at h;rw[Cv (by lia)];exact ih h0 i t h
 . have ei:i=l.length:=by lia
   subst ei;rw[b9 (ay _),kM] at h;cases h;rw[<- vl,ae,b9 (ay _),kM];rfl
theorem Ib(h:w<hs.length):(hs++[j]).getD w 0=hs.getD w 0:=Cv h
theorem Dt{β:Type}{z:β}{xs:List β}{y:β}:(xs++[y]).getD xs.length z=y:=by
 rw[ae,b9 (ay _),kM];rfl
theorem zE{xs:B5}(h:w<xs.length):xs.getD w 0∈xs:=by
 rw[ae,av h];exact g9 h
theorem yl{β:Type}{φ:Nat->Int->List β->β}{z:β}{base:List β}(hb:base.length=j):(cV φ z base (ss++[s])).getD (j+ss.length) z=φ s.m s.b (s.ws.map λk=>(cV φ z base ss).getD k z):=by
 rw[mZ,<- mz hb];exact Dt
theorem adA{a:List aC×B5}(AY:s.Ok (j+ss.length))(i2:a.2.length=j+ss.length)(i4:∀x∈a.2,x<j+a.1.length):(rnS a.2 s).Ok (j+a.1.length):=⟨AY.m4,by show (s.ws.map _).length=_;rw[af];exact AY.len,λk hk=>by
 obtain ⟨w,hw,rfl⟩:=cf.mp hk;exact i4 _ (zE (by rw[i2];exact AY.lt w hw)),AY.b0,AY.b1⟩
theorem zc(ss:List aC):bc j ss->bc j (eX j ss).1/\(eX j ss).2.length=j+ss.length/\(eX j ss).1.length<=ss.length/\(∀x∈(eX j ss).2,x<j+(eX j ss).1.length):=by
 refine snoc_ind (P:=λss=>bc j ss->bc j (eX j ss).1/\(eX j ss).2.length=j+ss.length/\(eX j ss).1.length<=ss.length/\(∀x∈(eX j ss).2,x<j+(eX j ss).1.length)) ?_ ?_ ss
 . exact λ_=>⟨bc.nil,by show (List.range j).length=_;rw[cS];rfl,ay _,λx hx=>by have:=dQ.mp hx;exact this⟩
 . intro ss s ih hs;obtain ⟨h0,AY⟩:=bc.init hs;obtain ⟨i1,i2,i3,i4⟩:=ih h0;rw[tK];generalize eX j ss=a at i1 i2 i3 i4;have ok1:=adA AY i2 i4;unfold Bm
   cases hp:plc (rnS a.2 s) a.1 with
   | none=>
    refine ⟨i1.snoc ok1,by simp[i2];lia,by simp;lia,λx hx=>?_⟩;rw[ai,cy];rcases cE.mp hx with hx | hx
    . have:=i4 x hx;lia
    . rw[aI.mp hx];lia
   | some i=>
    have hi:=(aS.mp (Eo hp)).1;refine ⟨i1,by simp[i2];lia,by simp;lia,λx hx=>?_⟩;rcases cE.mp hx with hx | hx
    . exact i4 x hx
    . rw[aI.mp hx];show j+i<j+a.1.length;lia
theorem UW{β:Type}{φ:Nat->Int->List β->β}{z:β}{base:List β}{n:Nat}(hb:base.length=n)(ss:List aC):bc n ss->∀w,w<n+ss.length->(cV φ z base (eX n ss).1).getD ((eX n ss).2.getD w 0) z=(cV φ z base ss).getD w z:=by
 refine snoc_ind (P:=λss=>bc n ss->∀w,w<n+ss.length->(cV φ z base (eX n ss).1).getD ((eX n ss).2.getD w 0) z=(cV φ z base ss).getD w z) ?_ ?_ ss
 . intro _ w hw;show (cV φ z base []).getD ((List.range n).getD w 0) z=_;have hw:w<n:=hw;rw[ae (l:=List.range n),eP hw];rfl
 . intro ss s ih hs w hw;obtain ⟨h0,AY⟩:=bc.init hs;have i5:=ih h0;obtain ⟨i1,i2,i3,i4⟩:=zc ss h0;rw[tK];generalize eX n ss=a at i1 i2 i3 i4 i5;have hv:((rnS a.2 s).ws.map λk=>(cV φ z base a.1).getD k z)=s.ws.map λk=>(cV φ z base ss).getD k z:=by
    show (s.ws.map _).map _=_;rw[de];exact cn λw hw=>i5 w (AY.lt w hw)
   have a2:∀w,w<n+ss.length->a.2.getD w 0<n+a.1.length:=λw hw=>i4 _ (zE (by rw[i2];exact hw));rw[ai,cy] at hw
   by_cases hlt:w<n+ss.length
   . rw[ph hb hlt,<- i5 w hlt];unfold Bm
     cases hp:plc (rnS a.2 s) a.1 with
     | none=>
      rw[Ib (by lia),ph hb (a2 w hlt)]
     | some i=>
      rw[Ib (by lia)]
   . have e:w=n+ss.length:=by lia
     subst e;rw[yl hb,<- i2,<- hv];unfold Bm
     cases hp:plc (rnS a.2 s) a.1 with
     | none=>
      rw[Dt,yl hb];rfl
     | some i=>
      rw[Dt,fold_at hb a.1 i1 i _ (Eo hp)];rfl
variable {Γ:Ev}
section
variable {k:Nat}{m m':ME}  {t:aC}
theorem SX(h:m Γ = .ok t.d)(hg:gv Γ i=some (.dict (stK k AL))):zT i m Γ = .ok (.bool (!(plc t AL).isSome)):=by
 rw[zT,h,AO.aP,hg];rw[su];show AO.ok (ab.bool (!(jW (kS t) (stK k AL)).isSome))=_;rw[Bg,kK]
theorem S6(h:m Γ = .ok t.d)(hg:gv Γ i=some (.dict (stK k AL)))(hp:plc t AL=some j):Q9 i m Γ = .ok (.int ((k+j:Nat):Int)):=by
 rw[Q9,h,AO.aP,hg];rw[su];show (match jW (kS t) (stK k AL) with | some d=>AO.ok d | none=>.bad)=_;rw[Bg,hp];rfl
theorem Z4(h:m Γ = .ok t.d)(h':m' Γ = .ok (.int ((k+AL.length:Nat):Int)))(hg:gv Γ i=some (.dict (stK k AL)))(hp:plc t AL=none)(hl:AL.length<=100000)(hi:i < Γ.length):HJ i m m' Γ = .ok (.nx (Γ.set i (some (.dict (stK k (AL++[t])))))):=by
 rw[HJ,h',AO.aP,h,AO.aP,hg];rw[su];show gd ((stK k AL).length<bE/\i < Γ.length) (AO.ok (Out.nx (Γ.set i (some (.dict (putN t.d (kS t) _ (stK k AL)))))))=_;rw[bw ⟨by rw[Oh];exact ki hl (by rw[Zq.sizeLine_eq];decide),hi⟩];rw[putN,Ou,hp,if_neg (by decide),Km]
end
theorem MK{t:aC}:∀{AL:List aC},plc t AL=none->plc t (AL++[t])=some AL.length
 | [],_=>by show (if kS t=kS t then some 0 else _)=_;rw[if_pos rfl];rfl
 | s::r,h=>by
  unfold plc at h
  by_cases e:kS s=kS t
  . rw[if_pos e] at h;cases h
  . rw[if_neg e] at h;show (if kS s=kS t then some 0 else (plc t (r++[t])).map (· + 1))=_;rw[if_neg e,MK (sf.mp h)];rfl
theorem Tt(hs:bc W ss)(hn:W<=100)(hl:ss.length<=5000)(ho:o<W+ss.length):je [dC W ss o]= .ok (dC W (eX W ss).1 ((eX W ss).2.getD o 0)):=by
 unfold je;ext;rw[Pn];ext;rw[bw (by lia)];ext;rw[Iw];ext;refine bJ (λi=>[some (dC W ss o),some (.int W),some (.list (dN (eX W (ss.take i)).2)),some (.list ((eX W (ss.take i)).1.map aC.d)),some (.dict (stK W (eX W (ss.take i)).1)),none,none]) ?_ (λi x hx=>?_) ?_
 . rw[mP,cx];rfl
 . obtain ⟨s,e,rfl⟩:=cG hx;have ok:=hs i s e;have hi:=(aS.mp e).1;have m4:=ok.m4;have ln:=ok.len;obtain ⟨_,d2,d3,d4⟩:=zc (ss.take i) λj t h=>by
    rw[List.getElem?_take] at h;split at h
    . exact hs j t h
    . cases h
   rw[dr,Ap (by lia)] at d2 d3;rw[nF e,tK];generalize eX W (ss.take i)=a at d2 d3 d4;ext;rw[GR (λw hw=>by have:=ok.lt w hw;rw[d2];exact this) (by lia),show aC.mk s.m s.b (s.ws.map λw=>a.2.getD w 0)=rnS a.2 s from rfl];generalize ht:rnS a.2 s=t;ext;rw[SX rfl rfl];rw[Bm,ht]
   cases hp:plc t a.1 with
   | none=>
    rw[show (ab.bool !(none:Option Nat).isSome)= .bool true from rfl];ext;rw[Z4 rfl (by ext;rfl) rfl hp (by lia) (of_decide_eq_true rfl)];ext;rw[bw (Bz (by lia))];ext;rw[S6 rfl rfl (MK hp)];ext;rw[bw (Bz (by rw[vA];lia))];ext;rw[yz,a7];rfl
   | some j=>
    rw[show (ab.bool !(some j).isSome)= .bool false from rfl];ext;rw[S6 rfl rfl hp];ext;rw[bw (Bz (by rw[vA];lia))];ext;rw[yz];rfl
 . rw[af,eD];ext;rw[Q7];ext;rw[BP (by rw[(zc ss hs).2.1];exact ho)];rfl
noncomputable def mk(ks:B3):B0:=ks.map λk=>(ab.int k,ab.bool true)
noncomputable def oE(x:Int)(ks:B3):B3:=if x∈ks then ks else ks++[x]
theorem Ug:∀ks:B3,oZ (.inl x) (mk ks)=decide (x∈ks)
 | []=>rfl
 | k::ks=>by
  show (if bM (ab.int k)=some (.inl x) then true else oZ (.inl x) (mk ks))=_;rw[Ug ks]
  by_cases h:k=x
  . subst h;rw[if_pos (show bM (ab.int k)=some (.inl k) from rfl),decide_eq_true bX]
  . rw[if_neg (show ¬ (bM (ab.int k)=some (.inl x)) from λz=>h (kU.inj (Option.some.inj z)))];have:(x∈k::ks)↔x∈ks:=⟨λz=>(cp.mp z).resolve_left (λe=>h e.symm),cc _⟩;exact decide_eq_decide.mpr this.symm
theorem zL:∀ks:B3,(cR (.inl x) (mk ks)).isSome=decide (x∈ks)
 | []=>rfl
 | k::ks=>by
  show (if bM (ab.int k)=some (.inl x) then some (ab.bool true) else cR (.inl x) (mk ks)).isSome=_
  by_cases h:k=x
  . subst h;rw[if_pos (show bM (ab.int k)=some (.inl k) from rfl),decide_eq_true bX];rfl
  . rw[if_neg (show ¬ (bM (ab.int k)=some (.inl x)) from λz=>h (kU.inj (Option.some.inj z))),zL ks];have:(x∈k::ks)↔x∈ks:=⟨λz=>(cp.mp z).resolve_left (λe=>h e.symm),cc _⟩;exact decide_eq_decide.mpr this.symm
theorem Sh:∀ks:B3,uG (.inl x) (.bool true) (mk ks)=mk ks
 | []=>rfl
 | k::ks=>by
  show (if bM (ab.int k)=some (.inl x) then (ab.int k,ab.bool true) else (ab.int k,ab.bool true))::uG (.inl x) (.bool true) (mk ks)=(ab.int k,ab.bool true)::mk ks;rw[Sh ks,ite_self]
variable {ks:B3}
theorem ac7:gU (.int x) (.inl x) (.bool true) (mk ks)=mk (oE x ks):=by
 unfold gU oE;rw[Ug]
 by_cases h:x∈ks
 . rw[if_pos (decide_eq_true h),if_pos h,Sh]
 . rw[if_neg (by rw[decide_eq_true_eq];exact h),if_neg h];unfold mk;rw[a7];rfl
theorem JK:(oE x ks).length<=ks.length+1:=by
 unfold oE;split
 . lia
 . rw[ai];exact ay _
theorem j8{y:Int}:y∈oE x ks↔y=x\/y∈ks:=by
 unfold oE;split
 . rename_i h;exact ⟨.inr,λz=>z.elim (λe=>e ▸ h) id⟩
 . rw[cE,aI];exact Or.comm
theorem Ua:(mk ks).length=ks.length:=by rw[mk,af]
variable {m1 m2:ME}
theorem sV(h2:m2 Γ = .ok (.bool true))(h1:m1 Γ = .ok (.int x))(hg:gv Γ i=some (.dict (mk ks)))(hl:ks.length<=100000)(hi:i < Γ.length):gW i m1 m2 Γ = .ok (.nx (Γ.set i (some (.dict (mk (oE x ks)))))):=by
 rw[gW,h2,h1];show (match gv Γ i with
  | some (.dict kvs)=>(match bM (.int x) with
   | some key=>gd (kvs.length<bE/\i < Γ.length) (.ok (Out.nx (Γ.set i (some (.dict (gU (.int x) key (.bool true) kvs))))))
   | none=>.bad)
  | _=>AO.bad)=_
 rw[hg];show gd ((mk ks).length<bE/\i < Γ.length) (.ok (Out.nx (Γ.set i (some (.dict (gU (.int x) (.inl x) (.bool true) (mk ks)))))))=_;rw[bw ⟨Bz (by rw[Ua];exact hl),hi⟩,ac7]
theorem J2:∀ks:B3,pH (mk ks)=some ks
 | []=>rfl
 | k::ks=>by
  show (pH (mk ks)).map (k :: ·)=_;rw[J2 ks];rfl
theorem Ox(h:ks.length<64):zu [.dict (mk ks)]= .ok (.list ((srt ks).map ab.int)):=by
 show (match pH (mk ks) with
  | some ns=>gd (ns.length<64) (AO.ok (ab.list ((srt ns).map ab.int)))
  | none=>.bad)=_
 rw[J2];exact bw h
noncomputable def dR(rs:B3):ab:=.tuple (rs.map ab.int)
theorem WN:lZ (.int x) (.dict (mk ks))= .ok (.bool (!decide (x∈ks))):=by
 show AO.ok (ab.bool (!(cR (.inl x) (mk ks)).isSome))=_;rw[zL]
noncomputable def gV(rs:B3)(ls:List B3):List B3:=ls.flatMap λc=>rs.map λr=>c++[r]
noncomputable def gJ(rs:B3):Nat->List B3
 | 0=>[[]]
 | m+1=>gV rs (gJ rs m)
variable {rs:B3}
theorem mR:∀ls:List B3,(gV rs ls).length=ls.length*rs.length
 | []=>by show 0=0*_;lia
 | c::ls=>by
  show ((rs.map λr=>c++[r])++gV rs ls).length=_;rw[ai,af,mR ls,bt,y9];lia
theorem Il:∀m,(gJ rs m).length=rs.length^m
 | 0=>rfl
 | m+1=>by show (gV rs (gJ rs m)).length=_;rw[mR,Il m,sk]
theorem xN:∀m,∀c∈gJ rs m,c.length=m
 | 0,c,h=>by rw[aI.mp h];rfl
 | m+1,c,h=>by
  obtain ⟨c',h1,h2⟩:=kB.mp h;obtain ⟨r,_,rfl⟩:=cf.mp h2;rw[ai,xN m c' h1];rfl
variable {ls:List B3}{c:B3}
theorem vM:gV rs (ls++[c])=gV rs ls++rs.map λr=>c++[r]:=by
 unfold gV;rw[pE];show _++((rs.map λr=>c++[r])++[])=_;rw[dA]
theorem U8{r:Int}(h:c.length<=100):dz (dL c) (.list [.int r])= .ok (dL (c++[r])):=by
 unfold dL;rw[t6 (ka (Bz (by rw[af,cy];lia))),a7];rfl
variable {cl:B5}
theorem qZ{α:Type}{g:MG}{b:MS}(enc D:α->ab)(p:α->Bool):∀{xs:List α},(∀a∈xs,((g (enc a) Γ).bind b).bind (ig cl)=if p a=true then .ok (.rt (D a)) else .ok (.nx Γ)) ->
 forR g cl b (xs.map enc) Γ=match xs.find? p with | some a=>.ok (.rt (D a)) | none=>.ok (.nx Γ)
 | [],_=>rfl
 | x::xs,h=>by
  have h1:=h x bX;have ih:=qZ enc D p λa ha=>h a (cc _ ha);rw[a8]
  cases hp:p x with
  | true=>
   rw[if_pos hp] at h1;obtain ⟨o,h2,h3⟩:=AO.au h1;obtain ⟨Γ1,h4,h5⟩:=AO.au h2;rw[iA,hp,forR,h4,AO.aP,h5,AO.aP];cases o <;> cases h3;rfl
  | false=>
   rw[if_neg (by rw[hp];exact eW)] at h1;rw[yV h1,ih,iA,hp]
theorem aaa(h : -(2^63)<=x/\x<2^63/\ds.length*x.toNat<=bE):v5 (.list ds) (.int x)= .ok (.list (ax x.toNat ds).flatten):=bw h
theorem rep1{x:ab}(hn:j<=100):v5 (.list [x]) (.int (j:Nat))= .ok (.list (ax j x)):=by
 rw[aaa ⟨by lia,by lia,by rw[cx,cy,Nat.one_mul];exact ka (Bz (by lia))⟩,cx];congr 2;clear hn
 induction j with
 | zero=>rfl
 | succ j ih=>rw[fo,lS,ih,fo];rfl
noncomputable def markL(rs:B3):B3:=rs.foldl (λks r=>oE r ks) []
theorem vD{r:Int}:markL (rs++[r])=oE r (markL rs):=by rw[markL,gc];rfl
theorem Tj(rs:B3):x∈markL rs↔x∈rs:=by
 induction rs using snoc_ind with
 | h0=>exact Iff.rfl
 | h rs r ih=>rw[vD,j8,ih,cE,aI];exact Or.comm
theorem Rx(rs:B3):(markL rs).length<=rs.length:=by
 induction rs using snoc_ind with
 | h0=>exact ay _
 | h rs r ih=>rw[vD,ai];exact dc JK (Nat.succ_le_succ ih)
theorem U3(hr:rs.length<=1000):wC [dR rs]= .ok (.dict (mk (markL rs))):=by
 unfold wC;ext;rw[show Br (dR rs)= .ok (rs.map ab.int) from rfl,show iZ [] [some (dR rs),none,none]= .ok (.dict []) from rfl];ext;refine bJ (λi=>[some (dR rs),some (.dict (mk (markL (rs.take i)))),none]) rfl (λi x hx=>?_) ?_
 . obtain ⟨r,er,rfl⟩:=cG hx;ext;rw[sV rfl rfl rfl (dc (Rx _) (by rw[dr];lia)) (of_decide_eq_true rfl)];ext;rw[take_snoc er,vD]
 . rw[af,eD];ext
theorem X4{c:ME}{b:MS}(I:Nat->Ev->Prop)(h:∀k Γ,I k Γ->c Γ = .ok (.bool false)\/(c Γ = .ok (.bool true)/\∃k' Γ2,k'<k/\b Γ = .ok (.nx Γ2)/\I k' (clr cl Γ2))) :
 ∀n k Γ,I k Γ->k<n->∃k' Γ',whR c cl b n Γ = .ok (.nx Γ')/\I k' Γ'/\c Γ'= .ok (.bool false)
 | 0,k,Γ,_,hn=>absurd hn (oo _)
 | n+1,k,Γ,hi,hn=>by
  rcases h k Γ hi with e | ⟨e,k',Γ2,hk,eb,hi'⟩
  . exact ⟨k,Γ,by rw[whR,e];rfl,hi,e⟩
  . obtain ⟨k2,Γ',e2,h2,h3⟩:=X4 I h n k' (clr cl Γ2) hi' (by lia);refine ⟨k2,Γ',?_,h2,h3⟩;rw[whR,e,AO.aP,eb];exact e2
noncomputable def cW(cs:List B3):List B3:=cs.foldl (λls rs=>gV rs ls) [[]]
theorem nq(cs:List B3)(rs:B3):cW (cs++[rs])=gV rs (cW cs):=by rw[cW,gc];rfl
theorem Ri:c∈gV rs ls↔∃d∈ls,∃r∈rs,c=d++[r]:=by
 rw[gV,kB];constructor
 . rintro ⟨d,hd,h⟩;obtain ⟨r,hr,rfl⟩:=cf.mp h;exact ⟨d,hd,r,hr,rfl⟩
 . rintro ⟨d,hd,r,hr,rfl⟩;exact ⟨d,hd,cf.mpr ⟨r,hr,rfl⟩⟩
variable {cs:List B3}
theorem qt:c∈cW cs↔c.length=cs.length/\∀i,i<cs.length->c.getD i 0∈cs.getD i []:=by
 induction cs using snoc_ind generalizing c with
 | h0=>
  constructor
  . intro h;rw[aI.mp h];exact ⟨rfl,λi hi=>absurd hi (oo _)⟩
  . rintro ⟨h,_⟩;rw[l5.mp h];exact aI.mpr rfl
 | h cs rs ih=>
  rw[nq,Ri];constructor
  . rintro ⟨d,hd,r,hr,rfl⟩;obtain ⟨h1,h2⟩:=ih.mp hd;refine ⟨by rw[ai,ai,h1];rfl,λi hi=>?_⟩;rw[ai] at hi;have hi:i<cs.length+1:=hi;rcases gy i cs.length with q | q
    . have:=h2 i q;rw[ae,ae] at this ⊢;rw[cq (l₁:=d) (by lia),cq q];exact this
    . have e:i=cs.length:=by lia
      subst e;rw[ae,ae,b9 (l₁:=d) (by lia),b9 (ay _),h1,kM];exact hr
  . rintro ⟨h1,h2⟩;rw[ai] at h1;have h1:c.length=cs.length+1:=h1;have hl:cs.length<c.length:=by lia
    refine ⟨c.take cs.length,ih.mpr ⟨by rw[dr];lia,λi hi=>?_⟩,c.getD cs.length 0,?_,?_⟩
    . have:=h2 i (by rw[ai];exact Nat.lt_succ_of_lt hi);rw[ae,ae] at this ⊢;rw[cq hi] at this;rw[List.getElem?_take,if_pos hi];exact this
    . have:=h2 cs.length (by rw[ai];exact sP _);rwa [ae (l:=cs++[rs]),b9 (ay _),kM] at this
    . rw[ae,av hl];show c=c.take cs.length++[c[cs.length]];have e1:c.take (cs.length+1)=c.take cs.length++[c[cs.length]]:=by rw[oy,av hl];rfl
      rw[<- e1,ij (by lia)]
theorem Dm(h:c∈cW cs):c.length=cs.length:=(qt.mp h).1
variable {B:Nat}
theorem yM:∀{cs:List B3},(∀rs∈cs,rs.length<=B)->(cW cs).length<=B^cs.length:=λ{cs}=>by
 induction cs using snoc_ind with
 | h0=>exact λ_=>ay _
 | h cs rs ih=>
  intro hb;rw[nq,mR,ai];show _<=B^(cs.length+1);rw[sk];exact wm (ih λr hr=>hb r (eM _ hr)) (hb rs (by simp))
theorem tW(rs:B3):∀m,gJ rs m=cW (ax m rs)
 | 0=>rfl
 | m+1=>by
  rw[tJ,nq,<- tW rs m];rfl
theorem jB:c∈gJ rs m↔c.length=m/\∀x∈c,x∈rs:=by
 rw[tW,qt,ck];constructor
 . rintro ⟨h1,h2⟩;refine ⟨h1,λx hx=>?_⟩;obtain ⟨i,hi,rfl⟩:=kC.mp hx;have:=h2 i (by lia);rwa [ae,ae,av hi,hZ (by lia)] at this
 . rintro ⟨h1,h2⟩;refine ⟨h1,λi hi=>?_⟩;rw[ae,ae,av (l:=c) (by lia),hZ hi];exact h2 _ (g9 _)
theorem afs(hn:j<=16)(hm:m<=4):j^m<=65536:=dc (nN hn m) (dc (fq (by decide) hm) (by decide))
variable {enc:B3->ab}
theorem Dy(he:∀rs,Br (enc rs)= .ok (rs.map ab.int))(hr:∀rs∈cs,rs.length<=16)(hm:cs.length<=4):iR [.list (cs.map enc)]= .ok (.list ((cW cs).map dL)):=by
 unfold iR;ext;refine bJ (λi=>[some (.list (cs.map enc)),some (.list ((cW (cs.take i)).map dL)),none,none,none,none]) rfl (λi x hx=>?_) ?_
 . obtain ⟨rs,ers,rfl⟩:=cG hx;have hi:=(aS.mp ers).1;have hrs:=hr rs (eJ ers);have L0:(cW (cs.take i)).length<=65536:=dc (yM λr q=>hr r (pd q)) (afs (ay _) (by rw[dr];lia));ext;refine bJ (λj=>[some (.list (cs.map enc)),some (.list ((cW (cs.take i)).map dL)),some (enc rs),some (.list ((gV rs ((cW (cs.take i)).take j)).map dL)),none,none]) rfl (λj x hx=>?_) ?_
   . obtain ⟨c,ec,rfl⟩:=cG hx;have hc:=Dm (eJ ec);rw[dr] at hc;have Lj:(gV rs ((cW (cs.take i)).take j)).length<=1100000:=by
      rw[mR,dr];exact dc (wm (dc (sN _ _) L0) hrs) (by decide)
     ext;rw[he];ext;refine bJ (λk=>[some (.list (cs.map enc)),some (.list ((cW (cs.take i)).map dL)),some (enc rs),some (.list ((gV rs ((cW (cs.take i)).take j)++(rs.take k).map λr=>c++[r]).map dL)),some (dL c),none]) ?_ (λk x hx=>?_) ?_
     . rw[mP,fv,dA]
     . obtain ⟨r,er,rfl⟩:=cG hx;have hk:=(aS.mp er).1;ext;rw[U8 (by lia)];ext;rw[bw (ki (show _<=1200000 by rw[ai,af,dr];lia) (by decide))];ext;rw[take_snoc er,a7 (f:=λr=>c++[r]),<- d6,a7 (l₂:=List.map (λr=>c++[r]) [r])];rfl
     . rw[af,eD];ext;rw[take_snoc ec,vM]
   . rw[af,eD];ext;rw[take_snoc ers,nq]
 . rw[af,eD];ext
theorem aaS(hn:j<=100000)(hm:m<=4):zB [.int (j:Nat),.int (m:Nat)]= .ok (.int ((j^m:Nat):Int)):=by
 unfold zB;ext;rw[cT (by lia)];ext;refine bJ (λi=>[some (.int j),some (.int m),some (.int ((j^i:Nat):Int)),none]) rfl (λi x hx=>?_) ?_
 . obtain ⟨hi,rfl⟩:=iI hx;have e:((j^(i+1):Nat):Int)=(j:Nat)*((j^i:Nat):Int):=by rw[sk,Nat.mul_comm,Int.natCast_mul]
   rw[e];generalize j^i=q;walk_at "go"
 . rw[dM];ext
noncomputable abbrev AZ(g:Nat×Int):ab:=dG g.1 g.2
theorem NK{m:ME}{es:B4}(hm:m Γ = .ok (.list es))(hg:gv Γ i=some (.list ds))(hl:ds.length+es.length<=bE)(hi:i < Γ.length):Em i m Γ = .ok (.nx (Γ.set i (some (.list (ds++es))))):=by
 rw[Em,hm];show (match gv Γ i,ab.list es with
  | some (.list ds),.list es=>gd (ds.length+es.length<=bE/\i < Γ.length) (.ok (Out.nx (Γ.set i (some (.list (ds++es))))))
  | _,_=>AO.bad)=_
 rw[hg];exact bw ⟨hl,hi⟩
noncomputable def gM(old fresh:B3)(n p:Nat):List B3:=ax p old++[fresh]++ax (n - p - 1) (old++fresh)
noncomputable def km(old fresh:B3)(n:Nat):List B3:=(List.range n).flatMap λp=>cW (gM old fresh n p)
variable {old:B3}
theorem iQ{n:Nat}(h:p<n):(gM old xs n p).length=n:=by
 rw[gM,ai,ai,ck,ck,cy];lia
theorem yI{fresh:B3}(h:p<j)(hi:i<j):(gM old fresh j p).getD i []=if i<p then old else if i=p then fresh else old++fresh:=by
 rw[gM,ae];rcases Nat.lt_trichotomy i p with q | q | q
 . rw[if_pos q,d6,cq (by rw[ck];exact q),hZ q];rfl
 . subst q;rw[if_neg (hV _),if_pos rfl,d6,b9 (by rw[ck];exact ay _),ck,kM];rfl
 . rw[if_neg (by lia),if_neg (by lia),b9 (by rw[ai,ck,cy];lia),ai,ck,cy,hZ (by lia)];rfl
theorem rO{fresh:B3}(h:c∈km old fresh j):c.length=j/\∀x∈c,x∈old++fresh:=by
 obtain ⟨p,hp,h⟩:=kB.mp h;have hp:=dQ.mp hp;obtain ⟨h1,h2⟩:=qt.mp h;rw[iQ hp] at h1 h2;refine ⟨h1,λx hx=>?_⟩;obtain ⟨i,hi,rfl⟩:=kC.mp hx;have:=h2 i (by lia);rw[yI hp (by lia),ae,av hi] at this;have this:=this;split at this
 . exact eM _ this
 . split at this
   . exact dn _ this
   . exact this
theorem Qc{fresh:B3}{n:Nat}(hl:c.length=n)(hc:∀x∈c,x∈old++fresh)(hx:∃x∈c,x∉old):c∈km old fresh n:=by
 have hlt:c.findIdx (λx=>!decide (x∈old))<c.length:=List.findIdx_lt_length.mpr (by
  obtain ⟨x,h1,h2⟩:=hx;exact ⟨x,h1,by rw[decide_eq_false h2];rfl⟩)
 have hp:=List.findIdx_getElem (w:=hlt);refine kB.mpr ⟨c.findIdx (λx=>!decide (x∈old)),dQ.mpr (by lia),qt.mpr ⟨by rw[iQ (by lia),hl],λi hi=>?_⟩⟩;rw[iQ (by lia)] at hi;rw[yI (by lia) hi,ae,av (by lia)];have hin:=hc _ (g9 (show i<c.length by lia));split
 . rename_i q;have:=List.not_of_lt_findIdx q;simp only[Bool.not_eq_false'] at this;exact of_decide_eq_true this
 . split
   . rename_i q;subst q;have hno:c[c.findIdx (λx=>!decide (x∈old))]∉old:=by
      intro z;rw[decide_eq_true z] at hp;cases hp
     exact (cE.mp hin).resolve_left hno
   . exact hin
theorem wF{b:B4}(h:ds.length+b.length<=1000):dz (.list ds) (.list b)= .ok (.list (ds++b)):=t6 (ka (Bz (by lia)))
noncomputable def kO(n:Nat)(gs:A9):Nat:=(gs.map λg=>n^g.1).sum
variable {gs:A9}
theorem rP{n:Nat}(hn:n<=100000)(hg:gs.length<=100)(hm:∀g∈gs,g.1<=4):jk [.int (n:Nat),.list (gs.map AZ)]= .ok (.int (kO n gs:Nat)):=by
 unfold jk;ext;rw[gY (xs:=gs) AZ (λg=>.int ((n^g.1:Nat):Int)) ?_ (Bz (by lia)) λg h=>?_]
 . ext;rw[show gs.map (λg=>ab.int ((n^g.1:Nat):Int))=(gs.map λg=>((n^g.1:Nat):Int)).map ab.int by rw[de];rfl];have:∀ns:B3,yw [.list (ns.map ab.int)]= .ok (.int ns.sum):=λns=>tL;rw[this];ext;unfold kO;congr 2
   induction gs with
   | nil=>rfl
   | cons g gs ih=>
    rw[a8,jS,a8,jS,As,ih (by rw[bt] at hg;lia) λq hq=>hm q (cc _ hq)]
 . ext
 . ext;rw[aaS hn (hm g h)]
theorem Lk(hn:j<=128)(hg:gs.length<=100)(hm:∀g∈gs,g.1<=4)(hc:kO j gs<=20000):fC [.int (j:Nat),.list (gs.map AZ)]= .ok .none:=by
 unfold fC;ext;rw[decide_eq_false (by lia)];ext;rw[rP (by lia) hg hm];ext;rw[decide_eq_false (by lia)];ext
def aaC(gs:A9)(w:Nat)(Z:Int->Prop):Prop:=∀g∈gs,∀c:B3,c.length=g.1->(∀x∈c,Z x)->Z (cJ g.2 c w)
def Reach(gs:A9)(w:Nat)(rs:B3)(x:Int):Prop:=∀Z:Int->Prop,(∀r∈rs,Z r)->aaC gs w Z->Z x
theorem Reach.row{r:Int}(h:r∈rs):Reach gs w rs r:=λZ h1 _=>h1 r h
variable {g:Nat×Int}
theorem Reach.step(hg:g∈gs)(hl:c.length=g.1)(h:∀x∈c,Reach gs w rs x):Reach gs w rs (cJ g.2 c w):=λZ h1 h2=>h2 g hg c hl λx hx=>h x hx Z h1 h2
theorem o4:∀{N:Nat}{l:B3},l.Nodup->(∀x∈l,0<=x/\x<N)->l.length<=N
 | 0,l,hn,hb=>by
  cases l with
  | nil=>exact ay _
  | cons x l=>have:=hb x bX;lia
 | N+1,l,hn,hb=>by
  have h1:(l.erase (N:Int)).length<=N:=o4 (hn.erase _) λx hx=>by
   have hx:=(hn.mem_erase_iff).mp hx;have:=hb x hx.2;have hne:=hx.1;lia
  by_cases hm:(N:Int)∈l
  . rw[xE hm] at h1;lia
  . rw[List.erase_of_not_mem hm] at h1;lia
theorem lE{l:B3}:x∈srt l↔x∈l:=(oJ l).mem_iff
theorem abi{m:ME}{d:ab}(h:m Γ = .ok d):sEx m Γ = .ok (.nx Γ):=by rw[sEx,h];rfl
theorem Wg{α:Type}{c:ME}{b:MS}{f:Out->AO α}{P:α->Prop}(I:Nat->Ev->Prop)(k:Nat)(h0:I k Γ)(hn:k<j)
 (h:∀k Γ,I k Γ->c Γ = .ok (.bool false)\/(c Γ = .ok (.bool true)/\∃k' Γ2,k'<k/\b Γ = .ok (.nx Γ2)/\I k' (clr cl Γ2))) (he:∀k' Γ',I k' Γ'->c Γ'= .ok (.bool false)->Gives (f (.nx Γ')) P):Gives ((oF j c cl b Γ).bind f) P:=by
 obtain ⟨k',Γ',e,h1,h2⟩:=X4 I h j k Γ h0 hn;show Gives ((whR c cl b j Γ).bind f) P;rw[e];exact he k' Γ' h1 h2
theorem abj(h:∀g∈gs,j^g.1<=B):kO j gs<=gs.length*B:=by
 unfold kO
 induction gs with
 | nil=>simp
 | cons g gs ih=>
  rw[a8,jS,bt,y9];have h1:=h g bX;have h2:=ih λq hq=>h q (cc _ hq);lia
noncomputable def FJ(w:Nat)(rs:B3):ab:=.tuple [.int (w:Nat),dR rs]
noncomputable def brk(b:Int)(w:Nat)(rs:B3)(m:Nat):Option B3:=(gJ rs m).find? λc=>!decide (cJ b c w∈rs)
noncomputable def xr:Option B3->ab
 | none=>.none
 | some c=>dL c
theorem Xu(hr:rs.length<=16)(hm:m<=4)(hp:rs.length^m<=20000)(hw:w<=100):tB [dG m b,FJ w rs]= .ok (xr (brk b w rs m)):=by
 unfold tB FJ;ext;rw[show gQ [dR rs]= .ok (.int (rs.length:Nat)) by rw[dR,wQ,af]];ext;have hc:=rP (n:=rs.length) (gs:=[(m,b)]) (by lia) (by simp) λg hg=>by rw[aI.mp hg];exact hm
 rw[show ab.list [dG m b]= .list ([(m,b)].map AZ) from rfl,hc,show kO rs.length [(m,b)]=rs.length^m by unfold kO;simp];ext;rw[decide_eq_false (by lia)];ext;rw[U3 (by lia)];ext;rw[rep1 (by lia)];ext;rw[show ax m (dR rs)=(ax m rs).map dR by rw[k9],Dy (λ_=>rfl) (λr h=>by rw[(qr.mp h).2];exact hr) (by rw[ck];exact hm),<- tW];ext;rw[qZ dL dL (λc=>!decide (cJ b c w∈rs)) λc hc=>?_]
 . unfold brk
   cases (gJ rs m).find? λc=>!decide (cJ b c w∈rs) with
   | none=>ext;rfl
   | some c=>ext;rfl
 . ext;rw[Qf (by rw[xN m c hc]) hm hw];ext;rw[WN,decide_eq_decide.mpr (Tj rs)];ext;rw[Jf]
   by_cases h:cJ b c w∈rs
   . rw[decide_eq_true h];rfl
   . rw[decide_eq_false h];rfl
theorem U4:(brk b w rs m).isNone=(gJ rs m).all λc=>decide (cJ b c w∈rs):=by
 unfold brk
 cases h:(gJ rs m).find? λc=>!decide (cJ b c w∈rs) with
 | none=>
  have:=oj.mp h;symm;show _=true;rw[fS];intro c hc;have:=this c hc;simpa using this
 | some c=>
  have h1:=vn h;have h2:=nk h;symm;show _=false;rw[<- Bool.not_eq_true,fS];intro z;have:=z c h2;rw[this] at h1;cases h1
theorem Yl:inY (.int x) (.dict (mk ks))= .ok (.bool (decide (x∈ks))):=by
 show AO.ok (ab.bool ((cR (.inl x) (mk ks)).isSome))=_;rw[zL]
theorem Us(h:W<=100000):Fp (.int (((W:Nat):Int) - 1)) (.int (-1)) (.int (-1))= .ok ((List.range W).map λi=>ab.int (((W:Nat):Int) - 1 - (i:Nat))):=by
 have e:dS (((W:Nat):Int) - 1) (-1) (-1)=((W:Nat):Int):=by
  unfold dS;simp;lia
 show gd ((-1:Int)≠0/\(-1:Int).natAbs<1073741824/\Builtin.Range.small (((W:Nat):Int) - 1) (-1) (-1)=true/\0<=dS (((W:Nat):Int) - 1) (-1) (-1)) (AO.ok ((List.range (dS (((W:Nat):Int) - 1) (-1) (-1)).toNat).map λj=>ab.int (((W:Nat):Int) - 1+(j:Nat)*(-1))))=_;rw[e,bw ⟨by decide,by decide,by unfold Builtin.Range.small;simp only[oz];simp;lia,by lia⟩,cx];congr 1;exact cn λi _=>by congr 1;lia
noncomputable def my(U:B3)(ws:B5):B3:=ws.foldl (λU w=>oE ((w:Nat):Int) U) U
variable {U:B3}
theorem uR:my U (hs++[w])=oE ((w:Nat):Int) (my U hs):=by rw[my,gc];rfl
theorem vV(ws:B5):x∈my U ws↔x∈U\/∃w∈ws,x=((w:Nat):Int):=by
 induction ws using snoc_ind with
 | h0=>simp[my]
 | h ws w ih=>
  rw[uR,j8,ih];constructor
  . rintro (rfl | h | ⟨v,hv,rfl⟩)
    . exact .inr ⟨w,by simp,rfl⟩
    . exact .inl h
    . exact .inr ⟨v,by simp[hv],rfl⟩
  . rintro (h | ⟨v,hv,rfl⟩)
    . exact .inr (.inl h)
    . rcases cE.mp hv with hv | hv
      . exact .inr (.inr ⟨v,hv,rfl⟩)
      . rw[aI.mp hv];exact .inl rfl
theorem vJ(ws:B5):(my U ws).length<=U.length+ws.length:=by
 induction ws using snoc_ind with
 | h0=>exact ay _
 | h ws w ih=>rw[uR,ai,cy];have:=JK (x:=((w:Nat):Int)) (ks:=my U ws);lia
noncomputable def dJ(n:Nat)(ss:List aC)(o:Nat):Nat->B3
 | 0=>[((o:Nat):Int)]
 | i+1=>if ((n+(ss.length - 1 - i):Nat):Int)∈dJ n ss o i then my (dJ n ss o i) ((ss[ss.length - 1 - i]?.map aC.ws).getD []) else dJ n ss o i
theorem Jx{o:Nat}(hs:bc j ss):∀i,(dJ j ss o i).length<=1+4*i
 | 0=>ay _
 | i+1=>by
  have ih:=Jx (o:=o) hs i;unfold dJ;split
  . cases e:ss[ss.length - 1 - i]? with
    | none=>have:=vJ (U:=dJ j ss o i) [];simp at this ⊢;lia
    | some s=>
     have:=vJ (U:=dJ j ss o i) s.ws;have ok:=hs _ s e;have:=ok.len;have:=ok.m4;simp;lia
  . lia
theorem adW(hs:bc W ss)(hl:ss.length<=5000):nu [dC W ss o]= .ok (.dict (mk (dJ W ss o ss.length))):=by
 unfold nu;ext;rw[Pn];ext;rw[Iw];ext;rw[show ∀Γ:Ev,gv Γ 0=some (dC W ss o)->Hr (ao AX (aj 0) (eC (.int 2))) (eC (.bool true)) Γ = .ok (.dict (mk [((o:Nat):Int)])) from λΓ h=>by
  rw[Hr,show (ao AX (aj 0) (eC (.int 2))) Γ = .ok (.int (o:Nat)) by unfold ao aj;rw[h];rfl];rfl]
 . ext;rw[show ∀Γ:Ev,gv Γ 2=some (.tuple (ss.map aC.d))->Av (ao jt (eFn gQ [(aj 2)]) (eC (.int 1))) (eUn Fq (eC (.int 1))) (eUn Fq (eC (.int 1))) Γ = .ok ((List.range ss.length).map λi=>ab.int (((ss.length:Nat):Int) - 1 - (i:Nat))) from λΓ h=>by
    rw[Av,show (ao jt (eFn gQ [(aj 2)]) (eC (.int 1))) Γ = .ok (.int ((ss.length:Int) - 1)) by
     show ((eFn gQ [(aj 2)]) Γ).bind _=_;rw[show (eFn gQ [(aj 2)]) Γ = .ok (.int ss.length) by
      unfold eFn evs aj;rw[h];show gQ [.tuple (ss.map aC.d)]=_;rw[wQ,af]]
     rfl]
    exact Us (by lia)]
   . ext;refine bJ (λi=>[some (dC W ss o),some (.int W),some (.tuple (ss.map aC.d)),some (.dict (mk (dJ W ss o i))),none,none]) rfl (λi x hx=>?_) ?_
     . obtain ⟨i',ei,rfl⟩:=cG hx;obtain ⟨hi,ei'⟩:i<ss.length/\i'=i:=by
        have:=(aS.mp ei);obtain ⟨h1,h2⟩:=this;rw[cS] at h1;rw[List.getElem_range] at h2;exact ⟨h1,h2.symm⟩
       rw[ei'];have hu:=Jx (o:=o) hs i;ext;rw[show (W:Int)+((ss.length:Int) - 1 - i)=((W+(ss.length - 1 - i):Nat):Int) by lia,Yl,show dJ W ss o (i+1)=if ((W+(ss.length - 1 - i):Nat):Int)∈dJ W ss o i then my (dJ W ss o i) ((ss[ss.length - 1 - i]?.map aC.ws).getD []) else dJ W ss o i from rfl]
       by_cases hm:((W+(ss.length - 1 - i):Nat):Int)∈dJ W ss o i
       . rw[if_pos hm,decide_eq_true hm];generalize dJ W ss o i=U at hu;have hlt:ss.length - 1 - i<ss.length:=by lia
         have es:=av hlt;generalize ss[ss.length - 1 - i]=s at es;have ok:=hs _ s es;have ln:=ok.len;have m4:=ok.m4;ext;rw[show (ss.length:Int) - 1 - i=((ss.length - 1 - i:Nat):Int) by lia,uq (by rw[br,es];rfl),es];ext;rw[show AX s.d (.int 1)= .ok (.tuple (dN s.ws)) from rfl];ext;refine bJ (λj=>[some (dC W ss o),some (.int W),some (.tuple (ss.map aC.d)),some (.dict (mk (my U (s.ws.take j)))),some (.int ((ss.length - 1 - i:Nat):Int)),none]) rfl (λj x hx=>?_) ?_
         . obtain ⟨w,ew,rfl⟩:=cG hx;have:=vJ (U:=U) (s.ws.take j);rw[dr] at this;ext;rw[sV rfl rfl rfl (by lia) (of_decide_eq_true rfl)];ext;rw[take_snoc ew,uR]
         . rw[vA,eD];ext;rfl
       . rw[if_neg hm,decide_eq_false hm];ext
     . rw[af,cS];ext
   . rfl
 . rfl
section
variable {n:Nat}
theorem G3(h:x∈dJ n ss o i):x∈dJ n ss o (i+1):=by
 unfold dJ;split
 . exact (vV _).mpr (.inl h)
 . exact h
theorem Gv:∀d,x∈dJ n ss o i->x∈dJ n ss o (i+d)
 | 0,h=>h
 | d+1,h=>G3 (Gv d h)
theorem vO:∀i,((o:Nat):Int)∈dJ n ss o i
 | 0=>aI.mpr rfl
 | i+1=>G3 (vO i)
theorem Bu(hs:bc n ss):∀d,i+d<=ss.length->x∈dJ n ss o (i+d)->x∈dJ n ss o i\/x<((n+(ss.length - 1 - i):Nat):Int)
 | 0,_,h=>.inl h
 | d+1,hd,h=>by
  have h:x∈dJ n ss o (i+d+1):=h;unfold dJ at h;split at h
  . rcases (vV _).mp h with h | ⟨w,hw,rfl⟩
    . exact Bu hs d (by lia) h
    . have hlt:ss.length - 1 - (i+d)<ss.length:=by lia
      rw[av hlt] at hw;have:=(hs _ _ (av hlt)).lt w hw;right;lia
  . exact Bu hs d (by lia) h
theorem uD(hs:bc n ss)(e:ss[j]?=some s)(h:((n+j:Nat):Int)∈dJ n ss o ss.length):∀w∈s.ws,((w:Nat):Int)∈dJ n ss o ss.length:=λw hw=>by
 have hj:=(aS.mp e).1;obtain ⟨i,hi⟩:∃i,i=ss.length - 1 - j:=⟨_,rfl⟩;have hj':ss.length - 1 - i=j:=by lia
 have h1:((n+j:Nat):Int)∈dJ n ss o i:=by
  rcases Bu hs (i:=i) (ss.length - i) (by lia) (by rw[show i+(ss.length - i)=ss.length by lia];exact h) with h | h
  . exact h
  . rw[hj'] at h;lia
 have h2:((w:Nat):Int)∈dJ n ss o (i+1):=by
  rw[dJ,hj',if_pos h1,e];exact (vV _).mpr (.inr ⟨w,hw,rfl⟩)
 have:=Gv (ss.length - (i+1)) h2;rwa [show i+1+(ss.length - (i+1))=ss.length by lia] at this
end
noncomputable def dP(ps:List (Nat×Nat)):B0:=ps.map λp=>(ab.int (p.1:Nat),ab.int (p.2:Nat))
noncomputable def lkP(w:Nat):List (Nat×Nat)->Option Nat
 | []=>none
 | p::r=>if p.1=w then some p.2 else lkP w r
theorem Ey(w:Nat):∀ps:List (Nat×Nat),cR (.inl ((w:Nat):Int)) (dP ps)=(lkP w ps).map λv=>ab.int (v:Nat)
 | []=>rfl
 | p::r=>by
  show (if bM (ab.int (p.1:Nat))=some (.inl ((w:Nat):Int)) then some (ab.int (p.2:Nat)) else cR (.inl ((w:Nat):Int)) (dP r))=_;unfold lkP
  by_cases h:p.1=w
  . rw[if_pos (by rw[h];rfl),if_pos h];rfl
  . rw[if_neg (show ¬ (bM (ab.int (p.1:Nat))=some (.inl ((w:Nat):Int))) from λz=>h (AD.inj (kU.inj (Option.some.inj z)))),if_neg h,Ey w r]
theorem R6(w:Nat):∀ps:List (Nat×Nat),oZ (.inl ((w:Nat):Int)) (dP ps)=(lkP w ps).isSome
 | []=>rfl
 | p::r=>by
  show (if bM (ab.int (p.1:Nat))=some (.inl ((w:Nat):Int)) then true else oZ (.inl ((w:Nat):Int)) (dP r))=_;unfold lkP
  by_cases h:p.1=w
  . rw[if_pos (by rw[h];rfl),if_pos h];rfl
  . rw[if_neg (show ¬ (bM (ab.int (p.1:Nat))=some (.inl ((w:Nat):Int))) from λz=>h (AD.inj (kU.inj (Option.some.inj z)))),if_neg h,R6 w r]
theorem uY:∀{ps:List (Nat×Nat)},lkP w (ps++[(j,W)])=match lkP w ps with | some u=>some u | none=>if j=w then some W else none
 | []=>rfl
 | p::r=>by
  show (if p.1=w then some p.2 else lkP w (r++[(j,W)]))=match (if p.1=w then some p.2 else lkP w r) with | some u=>some u | none=>if j=w then some W else none
  by_cases h:p.1=w
  . rw[if_pos h,if_pos h]
  . rw[if_neg h,if_neg h,uY]
variable {ps:List (Nat×Nat)}
theorem acM{v:Nat}{m:ME}(h:m Γ = .ok (.int (j:Nat)))(h':m1 Γ = .ok (.int (v:Nat)))(hg:gv Γ i=some (.dict (dP ps)))(hn:lkP j ps=none)(hl:ps.length<=100000)(hi:i < Γ.length) :
 gW i m m1 Γ = .ok (.nx (Γ.set i (some (.dict (dP (ps++[(j,v)])))))):=by
 rw[gW,h',AO.aP,h,AO.aP,hg];show gd ((dP ps).length<bE/\i < Γ.length) (AO.ok (Out.nx (Γ.set i (some (.dict (gU (.int (j:Nat)) (.inl ((j:Nat):Int)) (.int (v:Nat)) (dP ps)))))))=_;rw[bw ⟨Bz (by rw[dP,af];exact hl),hi⟩];rw[gU,R6,hn,if_neg (by decide)];unfold dP;rw[a7];rfl
noncomputable def rnP(ps:List (Nat×Nat))(s:aC):aC:=⟨s.m,s.b,s.ws.map λw=>(lkP w ps).getD 0⟩
theorem Ra(hw:∀w∈s.ws,(lkP w ps).isSome=true)(hl:s.ws.length<=100):jz [s.d,.dict (dP ps)]= .ok (rnP ps s).d:=by
 unfold jz aC.d;ext;rw[gY (xs:=s.ws) (λw=>ab.int w) (λw=>.int ((lkP w ps).getD 0:Nat)) ?_ (Bz (by lia)) λw hw'=>?_]
 rotate_left
 . ext;rfl
 . ext;show (match cR (.inl ((w:Nat):Int)) (dP ps) with | some d=>AO.ok d | none=>.bad)=_;rw[Ey];obtain ⟨v,e⟩:=iE.mp (hw w hw');rw[e];rfl
 ext;unfold rnP dN;rw[de];rfl
noncomputable def gm(n:Nat)(U:B3)(ss:List aC):Nat->List aC×List (Nat×Nat)
 | 0=>([],(List.range n).map λj=>(j,j))
 | i+1=>if ((n+i:Nat):Int)∈U then ((gm n U ss i).1++[rnP (gm n U ss i).2 (ss.getD i ⟨0,0,[]⟩)],(gm n U ss i).2++[(n+i,n+(gm n U ss i).1.length)]) else gm n U ss i
theorem rR:∀l:B5,lkP w (l.map λj=>(j,j))=if w∈l then some w else none
 | []=>rfl
 | j::r=>by
  show (if j=w then some j else lkP w (r.map λj=>(j,j)))=_;rw[rR r]
  by_cases h:j=w
  . rw[if_pos h,if_pos (by rw[h];exact bX),h]
  . rw[if_neg h]
    by_cases h2:w∈r
    . rw[if_pos h2,if_pos (cc _ h2)]
    . rw[if_neg h2,if_neg (λz=>(cp.mp z).elim (λz=>h z.symm) h2)]
theorem zV(h:((j+i:Nat):Int)∈U):gm j U ss (i+1)=((gm j U ss i).1++[rnP (gm j U ss i).2 (ss.getD i ⟨0,0,[]⟩)],(gm j U ss i).2++[(j+i,j+(gm j U ss i).1.length)]):=by
 show (if _ then _ else _)=_;rw[if_pos h]
theorem wX(h:((j+i:Nat):Int)∉U):gm j U ss (i+1)=gm j U ss i:=by
 show (if _ then _ else _)=_;rw[if_neg h]
structure aei (n:Nat) (U:B3) (i:Nat) (a:List aC×List (Nat×Nat)):Prop where
 st:bc n a.1
 len:a.1.length<=i
 pl:a.2.length<=n+i
 has:∀w,w<n+i->(w<n\/((w:Nat):Int)∈U)->∃v,lkP w a.2=some v/\v<n+a.1.length
 new:∀w,n+i<=w->lkP w a.2=none
def Ie(n:Nat)(U:B3)(ss:List aC):Prop:=∀j s,ss[j]?=some s->((n+j:Nat):Int)∈U->∀w∈s.ws,w<n\/((w:Nat):Int)∈U
theorem rM(hs:bc W ss)(hc:Ie W U ss):∀i,i<=ss.length->aei W U i (gm W U ss i)
 | 0,_=>by
  refine ⟨bc.nil,ay _,by show ((List.range W).map _).length<=_;rw[af,cS];exact ay _,λw hw _=>⟨w,?_,hw⟩,λw hw=>?_⟩
  . show lkP w ((List.range W).map λj=>(j,j))=_;rw[rR,if_pos (dQ.mpr (show w<W from hw))]
  . show lkP w ((List.range W).map λj=>(j,j))=_;rw[rR,if_neg (λz=>by have:=dQ.mp z;lia)]
 | i+1,hi=>by
  obtain ⟨a1,a2,a3,a4,a5⟩:=rM hs hc i (by lia)
  by_cases h:((W+i:Nat):Int)∈U
  . have es:ss[i]?=some ss[i]:=av (by lia);rw[zV h,show ss.getD i ⟨0,0,[]⟩=ss[i] by rw[ae,es];rfl];generalize ss[i]=s at es;have ok:=hs i s es;have cl:=hc i s es h;generalize gm W U ss i=a at a1 a2 a3 a4 a5;refine ⟨a1.snoc ⟨ok.m4,by show (s.ws.map _).length=_;rw[af];exact ok.len,λk hk=>?_,ok.b0,ok.b1⟩,by simp;lia,by simp;lia,λw hw hu=>?_,λw hw=>?_⟩
    . obtain ⟨w,hw,rfl⟩:=cf.mp hk;obtain ⟨v,e,hv⟩:=a4 w (ok.lt w hw) (cl w hw);rw[e];exact hv
    . rw[ai,cy]
      by_cases hlt:w<W+i
      . obtain ⟨v,e,hv⟩:=a4 w hlt hu;exact ⟨v,by rw[uY,e],by lia⟩
      . have ew:w=W+i:=by lia
        subst ew;exact ⟨W+a.1.length,by rw[uY,a5 _ (ay _),if_pos rfl],by lia⟩
    . rw[uY,a5 w (by lia),if_neg (by lia)]
  . rw[wX h];refine ⟨a1,by lia,by lia,λw hw hu=>a4 w ?_ hu,λw hw=>a5 w (by lia)⟩;rcases gy w (W+i) with z | z
    . exact z
    . have ew:w=W+i:=by lia
      subst ew;rcases hu with hu | hu
      . lia
      . exact absurd hu h
theorem yj{β:Type}{φ:Nat->Int->List β->β}{z:β}{base:List β}(hb:base.length=W)(hs:bc W ss)(hc:Ie W U ss):∀i,i<=ss.length->∀w v,w<W+i->(w<W\/((w:Nat):Int)∈U)->lkP w (gm W U ss i).2=some v->(cV φ z base (gm W U ss i).1).getD v z=(cV φ z base ss).getD w z
 | 0,_,w,v,hw,_,e=>by
  have e:lkP w ((List.range W).map λj=>(j,j))=some v:=e;rw[rR,if_pos (dQ.mpr (show w<W from hw))] at e;cases e;have:=ph (φ:=φ) (z:=z) hb (AL:=[]) hw ss;exact this.symm
 | i+1,hi,w,v,hw,hu,e=>by
  obtain ⟨a1,a2,a3,a4,a5⟩:=rM hs hc i (by lia);have ih:=yj (φ:=φ) (z:=z) hb hs hc i (by lia)
  by_cases h:((W+i:Nat):Int)∈U
  . have es:ss[i]?=some ss[i]:=av (by lia);rw[zV h,show ss.getD i ⟨0,0,[]⟩=ss[i] by rw[ae,es];rfl] at e ⊢;generalize ss[i]=s at es e;have ok:=hs i s es;have cl:=hc i s es h;generalize gm W U ss i=a at a1 a2 a3 a4 a5 ih e;rw[uY] at e
    by_cases hlt:w<W+i
    . obtain ⟨v',e',hv⟩:=a4 w hlt hu;rw[e'] at e;cases e;rw[ph hb hv];exact ih w v hlt hu e'
    . have ew:w=W+i:=by lia
      subst ew;rw[a5 _ (ay _),if_pos rfl] at e;cases e;rw[yl hb,fold_at hb ss hs i s es];show φ s.m s.b ((s.ws.map _).map _)=_;rw[de];congr 1;refine cn λw hw=>?_;obtain ⟨v,e,hv⟩:=a4 w (ok.lt w hw) (cl w hw);show (cV φ z base a.1).getD ((lkP w a.2).getD 0) z=_;rw[e];exact ih w v (ok.lt w hw) (cl w hw) e
  . rw[wX h] at e ⊢;refine ih w v ?_ hu e;rcases gy w (W+i) with y | y
    . exact y
    . have ew:w=W+i:=by lia
      subst ew;rcases hu with hu | hu
      . lia
      . exact absurd hu h
theorem Iv{n:Nat}(hs:bc n ss)(hn:n<=100)(hl:ss.length<=5000)(ho:o<n+ss.length) :
 fV [dC n ss o]= .ok (dC n (gm n (dJ n ss o ss.length) ss ss.length).1 ((lkP o (gm n (dJ n ss o ss.length) ss ss.length).2).getD 0)):=by
 have hc:Ie n (dJ n ss o ss.length) ss:=λj s e h w hw=>.inr (uD hs e h w hw);have ho':=vO (n:=n) (ss:=ss) (o:=o) ss.length;unfold fV;ext;rw[Pn];ext;rw[adW hs hl];generalize dJ n ss o ss.length=U at hc ho';ext;rw[cT (by lia)];ext;refine bJ (λi=>[some (dC n ss o),some (.int n),some (.dict (mk U)),some (.dict (dP ((List.range i).map λj=>(j,j)))),none,none,none,none]) rfl (λi x hx=>?_) ?_
 . obtain ⟨hi,rfl⟩:=iI hx;ext;rw[acM rfl rfl rfl (by rw[rR,if_neg (λz=>by have:=dQ.mp z;lia)]) (by rw[af,cS];lia) (of_decide_eq_true rfl)];ext;rw[kR,a7];rfl
 . rw[dM];ext;rw[Iw];ext;rw[Jh];ext;refine bJ (λi=>[some (dC n ss o),some (.int n),some (.dict (mk U)),some (.dict (dP (gm n U ss i).2)),none,some (.list ((gm n U ss i).1.map aC.d)),none,none]) rfl (λi x hx=>?_) ?_
   . obtain ⟨d,hd,rfl⟩:=RZ hx;obtain ⟨s,es,rfl⟩:=cG hd;have hi:=(aS.mp es).1;have ok:=hs i s es;have m4:=ok.m4;have ln:=ok.len;have u:=rM hs hc i (by lia);have u2:=u.len;have u3:=u.pl;ext;rw[show (n:Int)+i=((n+i:Nat):Int) by lia,Yl]
     by_cases h:((n+i:Nat):Int)∈U
     . rw[decide_eq_true h,zV h,show ss.getD i ⟨0,0,[]⟩=s by rw[ae,es];rfl];have cl:=hc i s es h;generalize gm n U ss i=a at u u2 u3;ext;rw[Ra (λw hw=>by obtain ⟨v,e,_⟩:=u.has w (ok.lt w hw) (cl w hw);rw[e];rfl) (by lia)];ext;rw[bw (Bz (by lia))];ext;rw[acM (v:=n+a.1.length) (by ext;congr 1) (by ext;congr 2;rw[ai,af,cy];lia) rfl (u.new _ (ay _)) (by lia) (of_decide_eq_true rfl)];ext;rw[a7];rfl
     . rw[decide_eq_false h,wX h];ext
   . rw[JV,af];have u:=rM hs hc ss.length (ay _);obtain ⟨v,e,_⟩:=u.has o ho (.inr ho');ext;rw[Q7];ext;rw[show ixY (.dict (dP (gm n U ss ss.length).2)) (.int (o:Nat))= .ok (.int (v:Nat)) from by
      show (match cR (.inl ((o:Nat):Int)) (dP (gm n U ss ss.length).2) with | some d=>AO.ok d | none=>.bad)=_;rw[Ey,e];rfl,e]
     rfl
structure Alike (n:Nat) (ss:List aC) (o:Nat) (ss':List aC) (o':Nat):Prop where
 ok:bc n ss'
 lt:o'<n+ss'.length
 same:∀{β:Type} (φ:Nat->Int->List β->β) (z:β) (base:List β),base.length=n->(cV φ z base ss').getD o' z=(cV φ z base ss).getD o z
theorem Va(h:j^m<=B)(hB:1<=B)(hi:i<=m):j^i<=B:=by
 by_cases h0:j=0
 . subst h0;exact dc (by cases i with | zero=>exact ay _ | succ i=>rw[Nat.zero_pow (Nat.succ_pos i)];exact kz _) hB
 . exact dc (fq (Nat.pos_of_ne_zero h0) hi) h
theorem Mv(he:∀rs,Br (enc rs)= .ok (rs.map ab.int))(hr:∀rs∈cs,rs.length<=256)(hm:cs.length<=4)(hL:∀i,i<cs.length->(cW (cs.take i)).length<=20000):iR [.list (cs.map enc)]= .ok (.list ((cW cs).map dL)):=by
 unfold iR;ext;refine bJ (λi=>[some (.list (cs.map enc)),some (.list ((cW (cs.take i)).map dL)),none,none,none,none]) rfl (λi x hx=>?_) ?_
 . obtain ⟨rs,ers,rfl⟩:=cG hx;have hi:=(aS.mp ers).1;have hrs:=hr rs (eJ ers);have L0:=hL i hi;ext;refine bJ (λj=>[some (.list (cs.map enc)),some (.list ((cW (cs.take i)).map dL)),some (enc rs),some (.list ((gV rs ((cW (cs.take i)).take j)).map dL)),none,none]) rfl (λj x hx=>?_) ?_
   . obtain ⟨c,ec,rfl⟩:=cG hx;have hc:=Dm (eJ ec);rw[dr] at hc;have Lj:(gV rs ((cW (cs.take i)).take j)).length<=5200000:=by
      rw[mR,dr];exact dc (wm (dc (sN _ _) L0) hrs) (by decide)
     ext;rw[he];ext;refine bJ (λk=>[some (.list (cs.map enc)),some (.list ((cW (cs.take i)).map dL)),some (enc rs),some (.list ((gV rs ((cW (cs.take i)).take j)++(rs.take k).map λr=>c++[r]).map dL)),some (dL c),none]) ?_ (λk x hx=>?_) ?_
     . rw[mP,fv,dA]
     . obtain ⟨r,er,rfl⟩:=cG hx;have hk:=(aS.mp er).1;ext;rw[U8 (by lia)];ext;rw[bw (ki (show _<=5300000 by rw[ai,af,dr];lia) (by decide))];ext;rw[take_snoc er,a7 (f:=λr=>c++[r]),<- d6,a7 (l₂:=List.map (λr=>c++[r]) [r])];rfl
     . rw[af,eD];ext;rw[take_snoc ec,vM]
   . rw[af,eD];ext;rw[take_snoc ers,nq]
 . rw[af,eD];ext
theorem uh(h:rs∈gM old xs j p):rs.length<=old.length+xs.length:=by
 rcases cE.mp h with h | h
 . rcases cE.mp h with h | h
   . rw[(qr.mp h).2];lia
   . rw[aI.mp h];lia
 . rw[(qr.mp h).2,ai];exact ay _
theorem TY(hB:∀rs∈cs,rs.length<=B)(hp:B^cs.length<=20000)(hi:i<=cs.length):(cW (cs.take i)).length<=20000:=by
 have:=yM (cs:=cs.take i) (λrs h=>hB rs (pd h));rw[dr,Ap hi] at this;exact dc this (Va hp (by decide) hi)
theorem KR(hB:∀rs∈cs,rs.length<=B)(hp:B^cs.length<=20000):(cW cs).length<=20000:=dc (yM hB) hp
theorem places_len(hp:(old.length+xs.length)^j<=20000):∀k,k<=j->(((List.range k).flatMap λp=>cW (gM old xs j p))).length<=k*20000:=λk=>by
 induction k with
 | zero=>intro _;simp
 | succ k ih=>
  intro hk;rw[kR,pE,ai,y9];have h1:=ih (by lia);have h2:(cW (gM old xs j k)).length<=20000:=KR (λrs h=>uh h) (by rw[iQ (by lia)];exact hp);have e:([k].flatMap λp=>cW (gM old xs j p)).length=(cW (gM old xs j k)).length:=by simp
  rw[e];lia
theorem Fx(hb:old.length+xs.length<=128)(hn:W<=4)(hp:(old.length+xs.length)^W<=20000):mG [dL old,dL xs,.int (W:Nat)]= .ok (.list ((km old xs W).map dL)):=by
 unfold mG;ext;rw[cT (by lia)];ext;refine bJ (λi=>[some (dL old),some (dL xs),some (.int W),some (.list (((List.range i).flatMap λp=>cW (gM old xs W p)).map dL)),none]) rfl (λi x hx=>?_) ?_
 . obtain ⟨hi,rfl⟩:=iI hx;have e1:(W:Int) - (i:Nat) - 1=((W - i - 1:Nat):Int):=by lia
   have ec:evs [ao dz (ao dz (ao v5 (bQ [aj 0]) (aj 4)) (bQ [aj 1])) (ao v5 (bQ [ao dz (aj 0) (aj 1)]) (ao jt (ao jt (aj 2) (aj 4)) (eC (.int 1))))] [some (dL old),some (dL xs),some (.int (W:Nat)),some (.list (((List.range i).flatMap λp=>cW (gM old xs W p)).map dL)),some (.int (i:Nat))]= .ok [.list ((gM old xs W i).map dL)]:=by
    ext;rw[e1,rep1 (by lia)];ext;rw[wF (by rw[ck];show i+1<=1000;lia)];ext;rw[show dz (dL old) (dL xs)= .ok (dL (old++xs)) by unfold dL;rw[wF (by rw[af,af];lia),a7]];ext;rw[rep1 (by lia)];ext;rw[wF (by rw[ai,ck,ck];show i+1+_<=1000;lia)];rw[gM,a7,a7,k9,k9];rfl
   have L0:=places_len hp i (by lia);have L1:=KR (λrs h=>uh h) (by rw[iQ hi];exact hp);rw[DR];ext;rw[NK (es:=(cW (gM old xs W i)).map dL) ?_ rfl ?_ (of_decide_eq_true rfl)]
   . ext;rw[kR,pE,a7];simp
   . rw[mX,ec,AO.aP];exact Mv (λrs=>rfl) (λrs h=>dc (uh h) (by lia)) (by rw[iQ hi];exact hn) (λj hj=>TY (λrs h=>uh h) (by rw[iQ hi];exact hp) (ka hj))
   . rw[af,af];exact dc (show _<=400000 by lia) (by decide)
 . rw[dM];ext;rfl
def iM(n:Nat)(gs:A9):Prop:=128<n\/20000<kO n gs
theorem RV(h:j<=W)(gs:A9):kO j gs<=kO W gs:=by
 unfold kO
 induction gs with
 | nil=>exact ay _
 | cons g gs ih=>
  rw[a8,jS,a8,jS];exact Nat.add_le_add (nN h _) ih
theorem Xz(h:g∈gs):j^g.1<=kO j gs:=by
 unfold kO
 induction gs with
 | nil=>cases h
 | cons q gs ih=>
  rw[a8,jS];rcases cp.mp h with rfl | h
  . lia
  . have:=ih h;lia
noncomputable def gtC:ME:=eOr (ao gtD (aj 0) (eC (.int 128))) (ao gtD (aO jk [(aj 0),(aj 1)]) (eC (.int 20000)))
theorem aab(h:iM j gs)(hg:gs.length<=100)(hm:∀g∈gs,g.1<=4):gtC [some (.int (j:Nat)),some (.list (gs.map AZ))]= .ok (.bool true):=by
 unfold gtC;ext
 by_cases hn:128<j
 . rw[decide_eq_true (show (128:Int)<j by lia)];ext
 . rw[decide_eq_false (show ¬ (128:Int)<j by lia)];ext;rw[rP (by lia) hg hm];ext;rcases h with h | h
   . exact absurd h hn
   . rw[decide_eq_true (show (20000:Int)<(kO j gs:Nat) by lia)]
theorem acW{c:ME}(h:c Γ = .ok (.bool true)):sIf c Ef cQ Γ = .bad:=by
 rw[Nq,h];rfl
theorem Ml(h:iM j gs)(hg:gs.length<=100)(hm:∀g∈gs,g.1<=4):fC [.int (j:Nat),.list (gs.map AZ)]= .bad:=by
 show AO.bind (sIf gtC Ef cQ [some (.int (j:Nat)),some (.list (gs.map AZ))]) _=_;rw[acW (aab h hg hm)];rfl
structure Way where
 c:Nat
 g:Option (Nat×Int)
 ts:B3
abbrev A6:=List (Int×Way)
noncomputable def gD:Option (Nat×Int)->ab
 | none=>.none
 | some g=>AZ g
noncomputable def wD(w:Way):ab:=.tuple [.int (w.c:Nat),gD w.g,dR w.ts]
noncomputable def Bi(ws:A6):B0:=ws.map λq=>(ab.int q.1,wD q.2)
noncomputable def lk(t:Int):A6->Option Way
 | []=>none
 | (k,w)::r=>if k=t then some w else lk t r
theorem PX:∀ws:A6,cR (.inl t) (Bi ws)=(lk t ws).map wD
 | []=>rfl
 | (k,w)::r=>by
  show (if bM (.int k)=some (.inl t) then some (wD w) else cR (.inl t) (Bi r))=_;unfold lk
  by_cases h:k=t
  . subst h;rw[if_pos (show bM (.int k)=some (.inl k) from rfl),if_pos rfl];rfl
  . rw[if_neg (show ¬ bM (.int k)=some (.inl t) from λz=>h (kU.inj (Option.some.inj z))),if_neg h];exact PX r
theorem Eb{w:Way}:∀{ws:A6},lk t ws=some w->(t,w)∈ws
 | (k,w')::r,h=>by
  unfold lk at h
  by_cases e:k=t
  . rw[if_pos e] at h;cases h;subst e;exact bX
  . rw[if_neg e] at h;exact cc _ (Eb h)
theorem rF:∀{ws:A6},(lk t ws).isSome=true↔t∈ws.map (·.1)
 | []=>by simp[lk]
 | (k,w')::r=>by
  unfold lk
  by_cases e:k=t
  . rw[if_pos e];simp[e]
  . rw[if_neg e,rF];simp[nL e]
variable {ws:A6}
theorem zN:lk t ws=none↔t∉ws.map (·.1):=by
 rw[<- rF];cases lk t ws <;> simp
theorem rA{w:Way}:∀{ws:A6},(ws.map (·.1)).Nodup->(t,w)∈ws->lk t ws=some w
 | (k,w')::r,hn,h=>by
  unfold lk;rw[a8,kP] at hn;rcases cp.mp h with e | h
  . cases e;rw[if_pos rfl]
  . rw[if_neg (λz=>hn.1 (by rw[z];exact cf.mpr ⟨_,h,rfl⟩))];exact rA hn.2 h
noncomputable def yO(t:Int)(w:Way)(ws:A6):A6:=ws.map λq=>if q.1=t then (q.1,w) else q
noncomputable def iC(t:Int)(w:Way)(ws:A6):A6:=if (lk t ws).isSome=true then yO t w ws else ws++[(t,w)]
theorem Uo:∀ws:A6,oZ (.inl t) (Bi ws)=(lk t ws).isSome
 | []=>rfl
 | (k,w)::r=>by
  show (if bM (.int k)=some (.inl t) then true else oZ (.inl t) (Bi r))=_;unfold lk
  by_cases h:k=t
  . subst h;rw[if_pos (show bM (.int k)=some (.inl k) from rfl),if_pos rfl];rfl
  . rw[if_neg (show ¬ bM (.int k)=some (.inl t) from λz=>h (kU.inj (Option.some.inj z))),if_neg h];exact Uo r
theorem Rn{w:Way}:∀ws:A6,uG (.inl t) (wD w) (Bi ws)=Bi (yO t w ws)
 | []=>rfl
 | (k,w')::r=>by
  show (if bM (.int k)=some (.inl t) then (ab.int k,wD w) else (.int k,wD w'))::uG (.inl t) (wD w) (Bi r)=_;rw[Rn r];show _=(ab.int (if k=t then (k,w) else (k,w')).1,wD (if k=t then (k,w) else (k,w')).2)::Bi (yO t w r)
  by_cases h:k=t
  . subst h;rw[if_pos (show bM (.int k)=some (.inl k) from rfl),if_pos rfl]
  . rw[if_neg (show ¬ bM (.int k)=some (.inl t) from λz=>h (kU.inj (Option.some.inj z))),if_neg h]
theorem Yc{w:Way}:gU (.int t) (.inl t) (wD w) (Bi ws)=Bi (iC t w ws):=by
 unfold gU iC;rw[Uo];split
 . exact Rn ws
 . unfold Bi;rw[a7];rfl
noncomputable def cI(ws:A6)(q:Int×Way):A6:=match lk q.1 ws with
 | none=>iC q.1 q.2 ws
 | some w0=>if q.2.c<w0.c then iC q.1 q.2 ws else ws
theorem yZ:(Bi ws).length=ws.length:=by rw[Bi,af]
theorem Yb{w:Way}(h2:m2 Γ = .ok (wD w))(h1:m1 Γ = .ok (.int t))(hg:gv Γ i=some (.dict (Bi ws)))(hl:ws.length<=100000)(hi:i < Γ.length):gW i m1 m2 Γ = .ok (.nx (Γ.set i (some (.dict (Bi (iC t w ws)))))):=by
 rw[gW,h2,AO.aP,h1,AO.aP,hg];show gd ((Bi ws).length<bE/\i < Γ.length) (AO.ok (Out.nx (Γ.set i (some (.dict (gU (.int t) (.inl t) (wD w) (Bi ws)))))))=_;rw[bw ⟨by rw[yZ];exact Bz hl,hi⟩,Yc]
theorem Ye{w:Way}(h:lk t ws=some w):ixY (.dict (Bi ws)) (.int t)= .ok (wD w):=by
 show (match cR (.inl t) (Bi ws) with
  | some d=>AO.ok d
  | none=>.bad)=_
 rw[PX,h];rfl
theorem Oc:lZ (.int t) (.dict (Bi ws))= .ok (.bool (!(lk t ws).isSome)):=by
 show AO.ok (ab.bool (!(cR (.inl t) (Bi ws)).isSome))=_;rw[PX,kK]
theorem Ow{w:Way}:AX (wD w) (.int 0)= .ok (.int (w.c:Nat)):=rfl
theorem aa9{w:Way}(hl:ws.length<=100000):mV [.dict (Bi ws),.int t,wD w]= .ok (.tuple [.none,.dict (Bi (cI ws (t,w)))]):=by
 show AO.bind (sIf _ _ _ [some (.dict (Bi ws)),some (.int t),some (wD w)]) _=_;ext;rw[Oc];ext;unfold cI
 cases h:lk t ws with
 | none=>
  ext;rw[show (!(none:Option Way).isSome)=true from rfl];ext;rw[Yb rfl rfl rfl hl (of_decide_eq_true rfl)];rfl
 | some w0=>
  rw[show (!(some w0:Option Way).isSome)=false from rfl];ext;rw[Ow,Ye h];ext;rw[Ow];ext
  by_cases lt:w.c<w0.c
  . rw[if_pos lt,decide_eq_true (show (w.c:Int)<(w0.c:Int) by lia)];ext;rw[Yb rfl rfl rfl hl (of_decide_eq_true rfl)];rfl
  . rw[if_neg lt,decide_eq_false (show ¬ (w.c:Int)<(w0.c:Int) by lia)];ext
theorem Bq{ms:List ME}{w:Way}(h:evs ms Γ = .ok [.dict (Bi ws),.int t,wD w])(hl:ws.length<=100000):xT i mV ms Γ = .ok (.nx (Γ.set i (some (.dict (Bi (cI ws (t,w))))))):=by
 rw[xT,h,AO.aP,aa9 hl];rfl
variable {q:Int×Way}
theorem Ve:(cI ws q).length<=ws.length+1:=by
 have hp:(iC q.1 q.2 ws).length<=ws.length+1:=by
  unfold iC yO;split
  . rw[af];lia
  . rw[ai];exact ay _
 unfold cI;split
 . exact hp
 . split
   . exact hp
   . lia
noncomputable def cY(n:Nat):B3:=(List.range n).map λj=>iB n j
noncomputable def fL:Way:=⟨0,none,[]⟩
noncomputable def wM(n:Nat):A6:=((cY n).map λt=>(t,fL)).foldl cI []
noncomputable def qC(gs:A9)(n:Nat):A6:=(gs.filter λg=>decide (g.1=0)).map λg=>(cA g.2 [] n,⟨1,some g,[]⟩)
noncomputable def nO(gs:A9)(n:Nat):A6:=(qC gs n).foldl cI (wM n)
theorem wU:∀{qs ws:A6},(qs.foldl cI ws).length<=ws.length+qs.length
 | [],ws=>ay _
 | q::qs,ws=>by
  rw[qc,bt];have h1:=wU (qs:=qs) (ws:=cI ws q);have h2:=Ve (ws:=ws) (q:=q);lia
theorem JC{n:Nat}(hn:n<=4)(hg:gs.length<=100):kI [.list (gs.map AZ),.int (n:Nat)]= .ok (.dict (Bi (nO gs n))):=by
 unfold kI;ext;rw[show iZ [] [some (.list (gs.map AZ)),some (.int (n:Nat)),none,none,none]= .ok (.dict (Bi [])) from rfl];ext;rw[uU hn];ext;have hb:(cY n).length=n:=by rw[cY,af,cS]
 refine bJ (xs:=(cY n).map ab.int) (λi=>[some (.list (gs.map AZ)),some (.int n),some (.dict (Bi ((((cY n).take i).map λt=>(t,fL)).foldl cI []))),none,none]) rfl (λi x hx=>?_) ?_
 . obtain ⟨t,et,rfl⟩:=cG hx;have hi:=(aS.mp et).1;have hl:=wU (qs:=((cY n).take i).map λt=>(t,fL)) (ws:=[]);rw[af,dr,l9] at hl;rw[DR];show AO.bind (AO.bind (AO.ok ([some (.list (gs.map AZ)),some (.int (n:Nat)),some (.dict (Bi ((((cY n).take i).map λt=>(t,fL)).foldl cI []))),some (.int t),none]:Ev)) _) _=_;rw[AO.aP,Bq (w:=fL) rfl (by lia),take_snoc et,a7,gc];rfl
 . rw[af,eD];ext;refine bJ (λi=>[some (.list (gs.map AZ)),some (.int n),some (.dict (Bi ((qC (gs.take i) n).foldl cI (wM n)))),none,none]) rfl (λi x hx=>?_) ?_
   . obtain ⟨g,eg,rfl⟩:=cG hx;have hi:=(aS.mp eg).1;have hl0:=wU (qs:=(cY n).map λt=>(t,fL)) (ws:=[]);rw[af,l9] at hl0;have af6:(wM n).length<=n:=by show (((cY n).map λt=>(t,fL)).foldl cI []).length<=n;lia
     have hlc:(qC (gs.take i) n).length<=i:=by
      rw[qC,af];exact dc (sC _ _) (by rw[dr];exact Nat.min_le_left _ _)
     have hl:=wU (qs:=qC (gs.take i) n) (ws:=wM n);have hc:qC (gs.take (i+1)) n=qC (gs.take i) n++if g.1=0 then [(cA g.2 [] n,⟨1,some g,[]⟩)] else []:=by
      rw[qC,take_snoc eg,List.filter_append,a7];congr 1
      by_cases h:g.1=0
      . rw[iP (by simpa using h),if_pos h];rfl
      . rw[gX (by simpa using h),if_neg h];rfl
     rw[hc,gc];generalize (qC (gs.take i) n).foldl cI (wM n)=ws at hl ⊢;rw[DR];show AO.bind (AO.bind (AO.ok ([some (.list (gs.map AZ)),some (.int (n:Nat)),some (.dict (Bi ws)),none,some (dG g.1 g.2)]:Ev)) _) _=_;rw[AO.aP];ext
     by_cases h:g.1=0
     . rw[decide_eq_true (show (g.1:Int)=0 by lia),if_pos h];ext;have ea:evs [(aj 2),(aO pG [(aj 4),(bQ []),(aj 1)]),(bN [(eC (.int 1)),(aj 4),(bN [])])] [some (.list (gs.map AZ)),some (.int (n:Nat)),some (.dict (Bi ws)),none,some (dG g.1 g.2)]= .ok [.dict (Bi ws),.int (cA g.2 [] n),wD ⟨1,some g,[]⟩]:=by
        ext;rw[show ab.list []=dL [] from rfl,Hx (by rw[h];rfl) (by lia) hn];ext;rfl
       rw[Bq ea (by lia)];rfl
     . rw[decide_eq_false (show ¬ (g.1:Int)=0 by lia),if_neg h];ext;rfl
   . rw[af,eD];ext;rfl
noncomputable def aQ(ws:A6):B3:=ws.map (·.1)
noncomputable def lH(fs:A6)(t:Int):Nat:=((lk t fs).map (·.c)).getD 0
noncomputable def j4(fs:A6)(c:B3):Nat:=(c.map λp=>lH fs p).sum
noncomputable def kY(fs:A6)(t:Int):B3:=(aQ fs).filter λk=>!decide (k=t)
noncomputable def qT(fs:A6)(g:Nat×Int)(n:Nat)(c:B3):Option (Int×Way):=if (lk (cA g.2 c n) fs).isSome=true then none else some (cA g.2 c n,⟨1+j4 fs c,some g,c⟩)
noncomputable def vK(fs:A6)(t:Int)(g:Nat×Int)(n:Nat):A6:=(km (kY fs t) [t] g.1).filterMap (qT fs g n)
noncomputable def qD(q:Int×Way):ab:=.tuple [.int q.1,wD q.2]
theorem Jy:∀ns:B5,(ns.map λk=>((k:Nat):Int)).sum=((ns.sum:Nat):Int)
 | []=>rfl
 | k::ns=>by rw[a8,jS,Jy ns,jS,As]
theorem Wn{a b:ab}{q:List (Option ab)}(hl:ws.length<=128):cu (itK 0) (gN 0) (ao neD (aj 0) (aj 1)) (aj 0) 1 [1] (some (.dict (Bi ws))::some (.int t)::q)= .ok (dL (kY ws t)):=by
 rw[qR (xs:=aQ ws) ab.int (λk=>!decide (k=t)) ab.int ?_ (Bz (by rw[aQ,af];lia)) (λk hk=>?_) λk hk h=>?_]
 . rfl
 . show AO.ok ((Bi ws).map (·.1))=_;unfold Bi aQ;rw[de,de];rfl
 . ext
 . ext
theorem acQ{α β:Type}{f:α->Option β}{a:α}:List.filterMap f [a]=(f a).toList:=by cases h:f a <;> simp[h]
theorem Lg{fs:A6}(hl:fs.length<=128)(hm:g.1<=4)(hn:j<=4)(ho:(kY fs t).length+1<=fs.length)(hp:fs.length^g.1<=20000)(ht:t∈aQ fs) :
 jQ [.dict (Bi fs),.int t,dG g.1 g.2,.int (j:Nat)]= .ok (.list ((vK fs t g j).map qD)):=by
 have hp':((kY fs t).length+[t].length)^g.1<=20000:=dc (nN ho _) hp;have hfl:(km (kY fs t) [t] g.1).length<=80000:=by
  have:=places_len hp' g.1 (ay _);show ((List.range g.1).flatMap λp=>cW (gM (kY fs t) [t] g.1 p)).length<=_;lia
 unfold jQ;ext;rw[Wn (a:=.none) (b:=.none) hl];ext;rw[show ab.list [.int t]=dL [t] from rfl,Fx (by show (kY fs t).length+1<=128;lia) hm hp'];ext;refine bJ (λi=>[some (.dict (Bi fs)),some (.int t),some (dG g.1 g.2),some (.int j),some (dL (kY fs t)),some (.list ((((km (kY fs t) [t] g.1).take i).filterMap (qT fs g j)).map qD)),none,none,none]) rfl (λi x hx=>?_) ?_
 . obtain ⟨c,ec,rfl⟩:=cG hx;have hi:=(aS.mp ec).1;obtain ⟨hcl,hcm⟩:=rO (eJ ec);have hck:=λp hpc=>by
    have:p∈aQ fs:=by
     rcases cE.mp (hcm p hpc) with h | h
     . exact (kN.mp h).1
     . rw[aI.mp h];exact ht
    exact iE.mp (rF.mpr this)
   ext;rw[Hx hcl hm hn];ext;rw[Oc,take_snoc ec,List.filterMap_append];ext;rw[acQ];have hll:(((km (kY fs t) [t] g.1).take i).filterMap (qT fs g j)).length<=80000:=dc (List.length_filterMap_le _ _) (by rw[dr];lia);generalize ((km (kY fs t) [t] g.1).take i).filterMap (qT fs g j)=L at hll ⊢;unfold qT
   by_cases h:(lk (cA g.2 c j) fs).isSome=true
   . rw[if_pos h,h];ext;rw[show (none:Option (Int×Way)).toList=[] from rfl,dA]
   . rw[if_neg h,oB.mpr h];ext;rw[gY (xs:=c) ab.int (λp=>.int ((lH fs p:Nat):Int)) ?_ (Bz (by lia)) λp hpc=>?_]
     rotate_left
     . ext
     . obtain ⟨w,hw⟩:=hck p hpc;ext;rw[Ye hw];ext;rw[Ow];rw[lH,hw];rfl
     ext;rw[show c.map (λp=>ab.int ((lH fs p:Nat):Int))=((c.map λp=>lH fs p).map λk=>((k:Nat):Int)).map ab.int by rw[de,de];rfl,tL,Jy];ext;rw[show gO [dL c]= .ok (dR c) from rfl];ext;rw[bw (ki hll (by decide))];ext;rw[a7,show (1:Int)+(((c.map λp=>lH fs p).sum:Nat):Int)=((1+j4 fs c:Nat):Int) by rw[As];rfl];rfl
 . rw[af,eD];ext;rfl
theorem Sd{w:Way}:aQ (yO t w ws)=aQ ws:=by
 unfold aQ yO;rw[de];refine cn λq _=>?_;show (if q.1=t then (q.1,w) else q).1=q.1;split <;> rfl
theorem Rr{w:Way}(h:(aQ ws).Nodup):(aQ (iC t w ws)).Nodup:=by
 unfold iC;split
 . rw[Sd];exact h
 . rename_i hn;rw[aQ,a7];refine fm.mpr ⟨h,by simp,λa ha b hb e=>?_⟩;have:=by simpa using hb
   subst this;subst e;exact hn (rF.mpr ha)
theorem Wx{w:Way}(h:q∈iC t w ws):(q∈ws/\q.1≠t)\/q=(t,w):=by
 unfold iC at h;split at h
 . obtain ⟨r,hr,e⟩:=cf.mp h
   by_cases z:r.1=t
   . rw[if_pos z] at e;subst e;exact .inr (by rw[z])
   . rw[if_neg z] at e;subst e;exact .inl ⟨hr,z⟩
 . rename_i hn;rcases cE.mp h with h | h
   . refine .inl ⟨h,λz=>hn (rF.mpr ?_)⟩;exact cf.mpr ⟨q,h,z⟩
   . exact .inr (aI.mp h)
theorem Im{w:Way}:(t,w)∈iC t w ws:=by
 unfold iC;split
 . rename_i h;obtain ⟨w',hw⟩:=iE.mp h;exact cf.mpr ⟨(t,w'),Eb hw,by rw[if_pos rfl]⟩
 . exact dn _ (aI.mpr rfl)
theorem Xg{w:Way}(h:q∈ws)(hn:q.1≠t):q∈iC t w ws:=by
 unfold iC;split
 . exact cf.mpr ⟨q,h,by rw[if_neg hn]⟩
 . exact eM _ h
structure zj (ws:A6) (qs:A6) (ws':A6):Prop where
 nd:(aQ ws').Nodup
 mem:∀q∈ws',q∈ws\/q∈qs
 old:∀q∈ws,∃w',(q.1,w')∈ws'/\w'.c<=q.2.c
 new:∀q∈qs,∃w',(q.1,w')∈ws'/\w'.c<=q.2.c
theorem abT(h:(aQ ws).Nodup):zj ws [q] (cI ws q):=by
 obtain ⟨t,w⟩:=q;have put:(∀w0,(t,w0)∈ws->w.c<=w0.c)->zj ws [(t,w)] (iC t w ws):=λhw=>by
  refine ⟨Rr h,λr hr=>?_,λr hr=>?_,λr hr=>?_⟩
  . rcases Wx hr with z | z
    . exact .inl z.1
    . exact .inr (aI.mpr z)
  . by_cases z:r.1=t
    . refine ⟨w,by rw[z];exact Im,hw r.2 ?_⟩;rw[<- z];exact hr
    . exact ⟨r.2,Xg hr z,ay _⟩
  . rw[aI.mp hr];exact ⟨w,Im,ay _⟩
 unfold cI
 cases e:lk t ws with
 | none=>exact put λw0 h0=>absurd (cf.mpr ⟨_,h0,rfl⟩) (zN.mp e)
 | some w0=>
  show zj ws [(t,w)] (if w.c<w0.c then iC t w ws else ws)
  by_cases lt:w.c<w0.c
  . rw[if_pos lt];refine put λw1 h1=>?_;have:=rA h h1;rw[e] at this;cases this;lia
  . rw[if_neg lt];refine ⟨h,λr hr=>.inl hr,λr hr=>⟨r.2,hr,ay _⟩,λr hr=>?_⟩;rw[aI.mp hr];exact ⟨w0,Eb e,ky lt⟩
theorem oO:∀{qs ws:A6},(aQ ws).Nodup->zj ws qs (qs.foldl cI ws)
 | [],ws,h=>⟨h,λr hr=>.inl hr,λr hr=>⟨r.2,hr,ay _⟩,λr hr=>nomatch hr⟩
 | q::qs,ws,h=>by
  have a:=abT (q:=q) h;have b:=oO (qs:=qs) a.nd;rw[qc];refine ⟨b.nd,λr hr=>?_,λr hr=>?_,λr hr=>?_⟩
  . rcases b.mem r hr with z | z
    . rcases a.mem r z with y | y
      . exact .inl y
      . exact .inr (by rw[aI.mp y];exact bX)
    . exact .inr (cc _ z)
  . obtain ⟨w1,h1,c1⟩:=a.old r hr;obtain ⟨w2,h2,c2⟩:=b.old _ h1;exact ⟨w2,h2,dc c2 c1⟩
  . rcases cp.mp hr with rfl | hr
    . obtain ⟨w1,h1,c1⟩:=a.new _ (aI.mpr rfl);obtain ⟨w2,h2,c2⟩:=b.old _ h1;exact ⟨w2,h2,dc c2 c1⟩
    . exact b.new r hr
def VW(gs:A9)(n:Nat)(fs:A6)(q:Int×Way):Prop:=
 (q.2=fL/\q.1∈cY n)\/∃g∈gs,q.2.g=some g/\q.2.ts.length=g.1/\(∀p∈q.2.ts,p∈aQ fs)/\cA g.2 q.2.ts n=q.1/\q.2.c=1+j4 fs q.2.ts
theorem Rv{fs:A6}(h:t∈aQ fs):lk t (fs++ws)=lk t fs:=by
 induction fs with
 | nil=>cases h
 | cons q fs ih=>
  obtain ⟨k,w⟩:=q;show lk t ((k,w)::(fs++ws))=_;unfold lk
  by_cases e:k=t
  . rw[if_pos e,if_pos e]
  . rw[if_neg e,if_neg e];refine ih ?_;rcases cp.mp h with z | z
    . exact absurd z.symm e
    . exact z
theorem GK{gs:A6}(h:∀p∈c,p∈aQ ws):j4 (ws++gs) c=j4 ws c:=by
 unfold j4;congr 1;refine cn λp hp=>?_;unfold lH;rw[Rv (h p hp)]
theorem VW.app{hs:A6}(h:VW gs j ws q):VW gs j (ws++hs) q:=by
 rcases h with h | ⟨g,h1,h2,h3,h4,h5,h6⟩
 . exact .inl h
 . exact .inr ⟨g,h1,h2,h3,λp hp=>by rw[aQ,a7];exact eM _ (h4 p hp),h5,by rw[GK h4];exact h6⟩
structure fZ (gs:A9) (n:Nat) (fs ws:A6):Prop where
 nd:(aQ fs++aQ ws).Nodup
 bd:∀t∈aQ fs++aQ ws,0<=t/\t<2^2^n
 vf:∀(i:Nat) (q:Int×Way),fs[i]?=some q->VW gs n (fs.take i) q
 vw:∀q∈ws,VW gs n fs q
 inp:∀t∈cY n,∃w,(t,w)∈fs++ws/\w.c=0
 cl:∀g∈gs,∀c:B3,c.length=g.1->(∀p∈c,p∈aQ fs)->∃w,(cA g.2 c n,w)∈fs++ws/\w.c<=1+j4 fs c
 mo:∀q∈fs,∀r∈ws,q.2.c<=r.2.c
theorem Za{n:Nat}:∀t∈cY n,0<=t/\t<2^2^n:=λt ht=>by
 obtain ⟨j,_,rfl⟩:=cf.mp ht;exact ⟨Js _ _,U6 _ _⟩
theorem Mz{n:Nat}:0<=cA b ts n/\cA b ts n<2^2^n:=⟨nT λ_=>aM _ _,yG λ_=>aM _ _⟩
theorem VW.bd{n:Nat}(h:VW gs n ws q):0<=q.1/\q.1<2^2^n:=by
 rcases h with ⟨_,h⟩ | ⟨g,_,_,_,_,h,_⟩
 . exact Za _ h
 . rw[<- h];exact Mz
theorem Rk:fZ gs j [] (nO gs j):=by
 have a:zj [] ((cY j).map λt=>(t,fL)) (wM j):=oO AA;have b:zj (wM j) (qC gs j) (nO gs j):=oO a.nd;have hm:∀q∈nO gs j,VW gs j [] q:=λq hq=>by
  rcases b.mem q hq with h | h
  . rcases a.mem q h with h | h
    . cases h
    . obtain ⟨t,ht,rfl⟩:=cf.mp h;exact .inl ⟨rfl,ht⟩
  . obtain ⟨g,hg,rfl⟩:=cf.mp h;obtain ⟨hg,h0⟩:=kN.mp hg;exact .inr ⟨g,hg,rfl,(of_decide_eq_true h0).symm,(λp hp=>nomatch hp),rfl,rfl⟩
 refine ⟨b.nd,λt ht=>?_,λi q e=>by simp at e,hm,λt ht=>?_,λg hg c hl hc=>?_,λq hq=>nomatch hq⟩
 . obtain ⟨q,hq,rfl⟩:=cf.mp (ht);exact (hm q hq).bd
 . obtain ⟨w1,h1,c1⟩:=a.new (t,fL) (cf.mpr ⟨t,ht,rfl⟩);obtain ⟨w2,h2,c2⟩:=b.old _ h1;have c1:w1.c<=0:=c1;have c2:w2.c<=w1.c:=c2;exact ⟨w2,h2,by lia⟩
 . have e:=List.eq_nil_iff_forall_not_mem.mpr λx hx=>nomatch hc x hx
   subst e;obtain ⟨w,h1,c1⟩:=b.new (cA g.2 [] j,⟨1,some g,[]⟩) (cf.mpr ⟨g,kN.mpr ⟨hg,decide_eq_true hl.symm⟩,rfl⟩);exact ⟨w,h1,c1⟩
theorem UL{fresh:B3}(h:c∈km old fresh j):∃x∈c,x∈fresh:=by
 obtain ⟨p,hp,h⟩:=kB.mp h;have hp:=dQ.mp hp;obtain ⟨h1,h2⟩:=qt.mp h;rw[iQ hp] at h1 h2;have h3:=h2 p hp;rw[yI hp hp,if_neg (hV _),if_pos rfl] at h3;refine ⟨_,?_,h3⟩;rw[ae,av (by lia)];exact g9 _
noncomputable def gG(gs:A9)(fs:A6)(t:Int)(n:Nat):A6:=gs.flatMap λg=>vK fs t g n
theorem Ej{fs:A6}:∀{c:B3},t∈c->lH fs t<=j4 fs c
 | a::c,h=>by
  rw[j4,a8,jS];rcases cp.mp h with rfl | h
  . lia
  . have:=Ej (fs:=fs) h;unfold j4 at this;lia
theorem fZ.step{n:Nat}{fs:A6}{w:Way}(I:fZ gs n fs ws)(h:(t,w)∈ws)(hmin:∀q∈ws,w.c<=q.2.c) :
 fZ gs n (fs++[(t,w)]) ((gG gs (fs++[(t,w)]) t n).foldl cI (ws.filter λq=>!decide (q.1=t))):=by
 obtain ⟨nd,bd,vf,vw,inp,cl,mo⟩:=I;have ndf:=(fm.mp nd).1;have ndw:=(fm.mp nd).2.1;have dis:=(fm.mp nd).2.2;have htw:t∈aQ ws:=cf.mpr ⟨_,h,rfl⟩;have htf:=λz=>dis t z t htw rfl;have k1:aQ (fs++[(t,w)])=aQ fs++[t]:=by rw[aQ,a7];rfl
 have nd1:(aQ (fs++[(t,w)])).Nodup:=by
  rw[k1];exact fm.mpr ⟨ndf,by simp,λa ha b hb e=>by rw[aI] at hb;subst hb;subst e;exact htf ha⟩
 have hf1:∀q,q∈ws.filter (λq=>!decide (q.1=t))↔q∈ws/\q.1≠t:=λq=>by simp
 have afJ:(aQ (ws.filter λq=>!decide (q.1=t))).Nodup:=by
  exact List.Sublist.nodup (List.Sublist.map _ (List.filter_sublist)) ndw
 have O:=oO (qs:=gG gs (fs++[(t,w)]) t n) afJ;have cw:lH (fs++[(t,w)]) t=w.c:=by
  rw[lH,rA nd1 (dn _ (aI.mpr rfl))];rfl
 have hnew:∀q∈gG gs (fs++[(t,w)]) t n,∃g∈gs,∃c∈km (kY (fs++[(t,w)]) t) [t] g.1,q=(cA g.2 c n,⟨1+j4 (fs++[(t,w)]) c,some g,c⟩)/\cA g.2 c n∉aQ (fs++[(t,w)]):=λq hq=>by
  obtain ⟨g,hg,hq⟩:=kB.mp hq;obtain ⟨c,hc,e⟩:=mB.mp hq;unfold qT at e;split at e
  . cases e
  . rename_i hs;cases e;exact ⟨g,hg,c,hc,rfl,λz=>hs (rF.mpr z)⟩
 have hck:∀{g:Nat×Int}{c:B3},c∈km (kY (fs++[(t,w)]) t) [t] g.1->∀p∈c,p∈aQ (fs++[(t,w)]):=λhc p hp=>by
  rcases cE.mp ((rO hc).2 p hp) with z | z
  . exact (kN.mp z).1
  . rw[aI.mp z,k1];exact dn _ (aI.mpr rfl)
 have afG:∀q∈gG gs (fs++[(t,w)]) t n,VW gs n (fs++[(t,w)]) q:=λq hq=>by
  obtain ⟨g,hg,c,hc,rfl,_⟩:=hnew q hq;exact .inr ⟨g,hg,rfl,(rO hc).1,hck hc,rfl,rfl⟩
 have acD:∀q∈(gG gs (fs++[(t,w)]) t n).foldl cI (ws.filter λq=>!decide (q.1=t)),VW gs n (fs++[(t,w)]) q:=λq hq=>by
  rcases O.mem q hq with z | z
  . exact (vw q ((hf1 q).mp z).1).app
  . exact afG q z
 have mv:∀{v:Int}{w':Way}{k:Nat},(v,w')∈fs++ws->w'.c<=k->∃w2,(v,w2)∈(fs++[(t,w)])++(gG gs (fs++[(t,w)]) t n).foldl cI (ws.filter λq=>!decide (q.1=t))/\w2.c<=k:=λ{v w' k} hv hk=>by
  rcases cE.mp hv with z | z
  . exact ⟨w',eM _ (eM _ z),hk⟩
  . by_cases e:v=t
    . subst e;have:=rA ndw z;rw[rA ndw h] at this;cases this;exact ⟨w,eM _ (dn _ (aI.mpr rfl)),hk⟩
    . obtain ⟨w2,h2,c2⟩:=O.old (v,w') ((hf1 _).mpr ⟨z,e⟩);exact ⟨w2,dn _ h2,dc c2 hk⟩
 refine ⟨?_,λx hx=>?_,λi q e=>?_,acD,λx hx=>?_,λg hg c hl hc=>?_,λq hq r hr=>?_⟩
 . refine fm.mpr ⟨nd1,O.nd,λa ha b hb e=>?_⟩;subst e;obtain ⟨q,hq,rfl⟩:=cf.mp hb;rcases O.mem q hq with z | z
   . obtain ⟨z1,z2⟩:=(hf1 q).mp z;rw[k1] at ha;rcases cE.mp ha with y | y
     . exact dis _ y _ (cf.mpr ⟨q,z1,rfl⟩) rfl
     . exact z2 (aI.mp y)
   . obtain ⟨g,_,c,_,rfl,hn⟩:=hnew q z;exact hn ha
 . rcases cE.mp hx with z | z
   . rw[k1] at z;rcases cE.mp z with y | y
     . exact bd x (eM _ y)
     . rw[aI.mp y];exact bd t (dn _ htw)
   . obtain ⟨q,hq,rfl⟩:=cf.mp z;exact (acD q hq).bd
 . rcases gy i fs.length with hi | hi
   . rw[cq hi] at e;rw[oe (ka hi)];exact vf i q e
   . have hi':=(aS.mp e).1;rw[ai] at hi';have hie:i=fs.length:=by
      have:i<fs.length+1:=hi';lia
     subst hie;rw[b9 (ay _),kM] at e;have e:=Option.some.inj e;subst e;rw[oe (ay _),eD];exact vw _ h
 . obtain ⟨w',h1,h2⟩:=inp x hx;obtain ⟨w2,h3,h4⟩:=mv (k:=0) h1 (by lia);exact ⟨w2,h3,by lia⟩
 . by_cases hall:∀p∈c,p∈aQ fs
   . obtain ⟨w',h1,h2⟩:=cl g hg c hl hall;rw[GK hall];exact mv h1 h2
   . have hx:∃x∈c,x∉aQ fs:=fF λz=>hall λx hx=>fF λz'=>z ⟨x,hx,z'⟩;obtain ⟨x,hx,hxn⟩:=hx;have hxt:x=t:=by
      have:=hc x hx;rw[k1] at this;rcases cE.mp this with y | y
      . exact absurd y hxn
      . exact aI.mp y
     subst hxt;have hct:w.c<=j4 (fs++[(x,w)]) c:=by rw[<- cw];exact Ej hx
     have hno:x∉kY (fs++[(x,w)]) x:=λz=>by
      have:=(kN.mp z).2;simp at this
     have hcf:=Qc hl (λp hp=>by
      by_cases e:p=x
      . exact dn _ (aI.mpr e)
      . exact eM _ (kN.mpr ⟨hc p hp,by simp[e]⟩)) ⟨x,hx,hno⟩
     by_cases hv:(lk (cA g.2 c n) (fs++[(x,w)])).isSome=true
     . obtain ⟨w',hw'⟩:=iE.mp hv;have hm:=Eb hw';refine ⟨w',eM _ hm,?_⟩;rcases cE.mp hm with z | z
       . have:=mo _ z _ h;have:w'.c<=w.c:=this;lia
       . have:=aI.mp z;cases this;lia
     . obtain ⟨w2,h2,c2⟩:=O.new (cA g.2 c n,⟨1+j4 (fs++[(x,w)]) c,some g,c⟩) (kB.mpr ⟨g,hg,mB.mpr ⟨c,hcf,by rw[qT,if_neg hv]⟩⟩);exact ⟨w2,dn _ h2,c2⟩
 . have hq':q.2.c<=w.c:=by
    rcases cE.mp hq with z | z
    . exact mo q z _ h
    . rw[aI.mp z];exact ay _
   rcases O.mem r hr with z | z
   . exact dc hq' (hmin r ((hf1 r).mp z).1)
   . obtain ⟨g,_,c,hc,rfl,_⟩:=hnew r z;obtain ⟨x,hx,hxt⟩:=UL hc;rw[aI.mp hxt] at hx;have:=Ej (fs:=fs++[(t,w)]) hx;rw[cw] at this;show q.2.c<=1+j4 (fs++[(t,w)]) c;lia
theorem Ep:∀{ws:A6}{t:Int}{c:Int},∃t',jC (.int t) c (Bi ws)= .ok (.int t')
 | [],t,c=>⟨t,rfl⟩
 | (k,w)::r,t,c=>by
  show ∃t',(if ((w.c:Nat):Int)<c then jC (.int k) (w.c:Nat) (Bi r) else jC (.int t) c (Bi r))= .ok (.int t')
  by_cases h:(w.c:Int)<c
  . rw[if_pos h];exact Ep
  . rw[if_neg h];exact Ep
theorem aeL(h:ws≠[]):∃t w,j0 (Bi ws)= .ok (.int t)/\(t,w)∈ws/\∀q∈ws,w.c<=q.2.c:=by
 cases ws with
 | nil=>exact absurd rfl h
 | cons q r=>
  obtain ⟨k,w⟩:=q;obtain ⟨t,ht⟩:∃t',j0 (Bi ((k,w)::r))= .ok (.int t'):=by
   exact Ep
  obtain ⟨_,l,q,c,e1,e2,e3,e4⟩:=Ci ht;unfold Bi at e1;rw[br] at e1;obtain ⟨⟨t',w'⟩,e5,e6⟩:=mn.mp e1;subst e6;cases e3;have e2:some ((w'.c:Nat):Int)=some c:=e2;cases e2;refine ⟨t',w',ht,eJ e5,λq hq=>?_⟩;obtain ⟨l2,hl2,e6⟩:=kC.mp hq;have e7:(Bi ((k,w)::r))[l2]?=some (ab.int q.1,wD q.2):=by
   rw[Bi,br,av hl2,e6];rfl
  have:=(e4 l2 _ (q.2.c:Int) e7 rfl).1;lia
theorem SJ{t:Int}:∀{ws:A6},pP (.inl t) (Bi ws)=Bi (ws.filter λq=>!decide (q.1=t))
 | []=>rfl
 | (k,w)::r=>by
  have ih:=SJ (t:=t) (ws:=r);unfold pP at ih;unfold pP;show ((ab.int k,wD w)::Bi r).filter _=_
  by_cases e:k=t
  . subst e;rw[gX (by simp[bM]),gX (by simp)];exact ih
  . rw[iP (by simp[bM,e]),iP (by simp[e]),ih];rfl
theorem Zg{qs:A6}(hn:j<=4)(h:(aQ ws).Nodup)(h1:∀q∈ws,0<=q.1/\q.1<2^2^j)(h2:∀q∈qs,0<=q.1/\q.1<2^2^j):(qs.foldl cI ws).length<=65536:=by
 have O:=oO (qs:=qs) h;have h8:2^2^j<=2^2^4:=fq (by decide) (fq (by decide) hn);have:=o4 O.nd λx hx=>by
  rw[show ((2^2^j:Nat):Int)=2^2^j by simp];obtain ⟨q,hq,rfl⟩:=cf.mp hx;rcases O.mem q hq with z | z
  . exact h1 q z
  . exact h2 q z
 unfold aQ at this;rw[af] at this;lia
noncomputable def wCn:ME:=ao gtD (eFn mJ [(aj 3)]) (eC (.int 0))
noncomputable def wRf:MS:=sEx (aO fC [(eFn mJ [(aj 2)]),(aj 0)])
noncomputable def wFr:MS:=cz (itL (aj 0)) (gN 5) [5,6,7] (cz (itL (aO jQ [(aj 2),(aj 4),(aj 5),(aj 1)])) (gT [(gN 6),(gN 7)]) [6,7] (xT 3 mV [(aj 3),(aj 6),(aj 7)]))
noncomputable def wBd:MS:=aJ (aW 4 (Dz 3)) (aJ (vq 2 3 4) (aJ wRf wFr))
noncomputable def wG(gs:A9)(n:Nat)(fs ws:A6):Ev:=[some (.list (gs.map AZ)),some (.int (n:Nat)),some (.dict (Bi fs)),some (.dict (Bi ws)),none,none,none,none]
noncomputable def wG2(gs:A9)(n:Nat)(fs ws:A6)(t:Int):Ev:=[some (.list (gs.map AZ)),some (.int (n:Nat)),some (.dict (Bi fs)),some (.dict (Bi ws)),some (.int t),none,none,none]
section
variable  {n:Nat}{fs:A6}
theorem ZG(hz:ws≠[]):wCn (wG gs n fs ws)= .ok (.bool true):=by
 unfold wCn wG;ext;rw[show mJ [.dict (Bi ws)]= .ok (.int ((Bi ws).length:Nat)) from rfl,yZ];ext;rw[decide_eq_true (show (0:Int)<((ws.length:Nat):Int) by have:=List.length_pos_iff.mpr hz;lia)]
theorem abW:wCn (wG gs n fs [])= .ok (.bool false):=by
 unfold wCn wG;ext;rfl
theorem Ig:evs [(eFn mJ [(aj 2)]),(aj 0)] (wG2 gs n fs ws t)= .ok [.int (fs.length:Nat),.list (gs.map AZ)]:=by
 unfold wG2;ext;rw[show mJ [.dict (Bi fs)]= .ok (.int ((Bi fs).length:Nat)) from rfl,yZ];ext
theorem abv{w:Way}(hm:j0 (Bi ws)= .ok (.int t))(I:fZ gs n fs ws)(h:(t,w)∈ws)(hf:fs.length<=100000):∃Γ,aW 4 (Dz 3) (wG gs n fs ws)= .ok (.nx Γ)/\vq 2 3 4 Γ = .ok (.nx (wG2 gs n (fs++[(t,w)]) (ws.filter λq=>!decide (q.1=t)) t)):=by
 have ndw:=(fm.mp I.nd).2.1;have htf:=λz=>(fm.mp I.nd).2.2 t z t (cf.mpr ⟨_,h,rfl⟩) rfl;refine ⟨[some (.list (gs.map AZ)),some (.int n),some (.dict (Bi fs)),some (.dict (Bi ws)),some (.int t),none,none,none],?_,?_⟩
 . rw[Bb];show AO.bind (j0 (Bi ws)) _=_;rw[hm];rfl
 . show (match cR (.inl t) (Bi ws) with
    | some d=>gd ((Bi fs).length<bE/\2<8/\3<8) (AO.ok (Out.nx [some (.list (gs.map AZ)),some (.int n),some (.dict (gU (.int t) (.inl t) d (Bi fs))),some (.dict (pP (.inl t) (Bi ws))),some (.int t),none,none,none]))
    | none=>.bad)=_
   rw[PX,rA ndw h];show gd ((Bi fs).length<bE/\2<8/\3<8) _=_;rw[bw ⟨by rw[yZ];exact Bz hf,by decide,by decide⟩,Yc,SJ];rw[iC,zN.mpr htf];rfl
theorem adX(h:iM fs.length gs)(hg:gs.length<=8)(hm:∀g∈gs,g.1<=4):wRf (wG2 gs n fs ws t)= .bad:=by
 unfold wRf sEx;rw[mX,Ig,AO.aP,Ml h (by lia) hm];rfl
theorem adq(h:¬ iM fs.length gs)(hg:gs.length<=8)(hm:∀g∈gs,g.1<=4):wRf (wG2 gs n fs ws t)= .ok (.nx (wG2 gs n fs ws t)):=by
 have h1:=ky λz=>h (.inl z);have h2:=ky λz=>h (.inr z);refine abi (d:=.none) ?_;rw[mX,Ig,AO.aP,Lk h1 (by lia) hm h2]
theorem abM(hn:n<=4)(hg:gs.length<=8)(hm:∀g∈gs,g.1<=4)(h:¬ iM fs.length gs)(ho:(kY fs t).length+1<=fs.length)(ht:t∈aQ fs)(hd:(aQ ws).Nodup)(hb:∀q∈ws,0<=q.1/\q.1<2^2^n) :
 wFr (wG2 gs n fs ws t)= .ok (.nx (wG2 gs n fs ((gG gs fs t n).foldl cI ws) t)):=by
 have h1:=ky λz=>h (.inl z);have h2:=ky λz=>h (.inr z);have hq:∀g:Nat×Int,∀q∈vK fs t g n,0<=q.1/\q.1<2^2^n:=λg q hq=>by
  obtain ⟨c,_,e⟩:=mB.mp hq;unfold qT at e;split at e
  . cases e
  . cases e;exact Mz
 have hqs:∀gs:A9,∀q∈gG gs fs t n,0<=q.1/\q.1<2^2^n:=λgs q hq'=>by
  obtain ⟨g,_,h⟩:=kB.mp hq';exact hq g q h
 unfold wFr wG2;ext;have step:∀(i:Nat) (x:ab),(gs.map AZ)[i]?=some x->((gN 5 x (wG2 gs n fs ((gG (gs.take i) fs t n).foldl cI ws) t)).bind (cz (itL (aO jQ [(aj 2),(aj 4),(aj 5),(aj 1)])) (gT [(gN 6),(gN 7)]) [6,7] (xT 3 mV [(aj 3),(aj 6),(aj 7)]))).bind (ig [5,6,7])= .ok (.nx (wG2 gs n fs ((gG (gs.take (i+1)) fs t n).foldl cI ws) t)):=λi x hx=>by
  obtain ⟨g,eg,rfl⟩:=cG hx;have hgi:=eJ eg;unfold wG2;ext;rw[Lg h1 (hm g hgi) hn ho (dc (Xz hgi) h2) ht];ext;have O:=oO (qs:=gG (gs.take i) fs t n) hd;have hb2:∀q∈(gG (gs.take i) fs t n).foldl cI ws,0<=q.1/\q.1<2^2^n:=λq hq'=>by
   rcases O.mem q hq' with z | z
   . exact hb q z
   . exact hqs _ q z
  have en:gG (gs.take (i+1)) fs t n=gG (gs.take i) fs t n++vK fs t g n:=by
   unfold gG;rw[take_snoc eg,pE];simp
  rw[en,gc];have hO:=O.nd;generalize (gG (gs.take i) fs t n).foldl cI ws=ws1 at hb2 hO ⊢;refine bJ (λj=>[some (.list (gs.map AZ)),some (.int n),some (.dict (Bi fs)),some (.dict (Bi (((vK fs t g n).take j).foldl cI ws1))),some (.int t),some (dG g.1 g.2),none,none]) rfl (λj x hx=>?_) ?_
  . obtain ⟨q,eq,rfl⟩:=cG hx;have hl:=Zg (qs:=(vK fs t g n).take j) hn hO hb2 (λq hq'=>hq g q (pd hq'));rw[take_snoc eq,gc];generalize ((vK fs t g n).take j).foldl cI ws1=ws2 at hl ⊢;show AO.bind (AO.bind (AO.ok ([some (.list (gs.map AZ)),some (.int (n:Nat)),some (.dict (Bi fs)),some (.dict (Bi ws2)),some (.int t),some (dG g.1 g.2),some (.int q.1),some (wD q.2)]:Ev)) _) _=_;rw[AO.aP,Bq rfl (by lia)];rfl
  . rw[af,eD];rfl
 have e:=N8 (λi=>wG2 gs n fs ((gG (gs.take i) fs t n).foldl cI ws) t) rfl step;rwa [af,eD] at e
theorem aas{w:Way}:(kY (ws++[(t,w)]) t).length+1<=(ws++[(t,w)]).length:=by
 unfold kY aQ;rw[a7,List.filter_append,ai,ai];have h1:=sC (λk=>!decide (k=t)) (ws.map (·.1));rw[af] at h1;have h2:(([(t,w)]:A6).map (·.1)).filter (λk=>!decide (k=t))=[]:=by simp
 rw[h2];simp only[l9,cy];lia
theorem fZ.len(I:fZ gs n fs ws)(hn:n<=4):fs.length+ws.length<=65536:=by
 have h8:2^2^n<=2^2^4:=fq (by decide) (fq (by decide) hn);have:=o4 I.nd λx hx=>by
  rw[show ((2^2^n:Nat):Int)=2^2^n by simp];exact I.bd x hx
 unfold aQ at this;rw[ai,af,af] at this;lia
theorem adU{w:Way}(I:fZ gs n fs ws)(hn:n<=4)(hg:gs.length<=8)(hm:∀g∈gs,g.1<=4)(hk:j0 (Bi ws)= .ok (.int t))(h:(t,w)∈ws)(hG:¬ iM (fs.length+1) gs) :
 ∃Γ',wBd (wG gs n fs ws)= .ok (.nx Γ')/\clr [4,5,6,7] Γ'=wG gs n (fs++[(t,w)]) ((gG gs (fs++[(t,w)]) t n).foldl cI (ws.filter λq=>!decide (q.1=t))):=by
 have hlen:=I.len hn;obtain ⟨Γ,e1,e2⟩:=abv hk I h (by lia);have hG':¬ iM (fs++[(t,w)]).length gs:=by rw[ai];exact hG
 have ndw:=(fm.mp I.nd).2.1;refine ⟨wG2 gs n (fs++[(t,w)]) ((gG gs (fs++[(t,w)]) t n).foldl cI (ws.filter λq=>!decide (q.1=t))) t,?_,rfl⟩;rw[wBd,gK,e1,AO.aP,lF,gK,e2,AO.aP,lF,gK,adq hG' hg hm,AO.aP,lF];refine abM hn hg hm hG' aas ?_ ?_ ?_
 . rw[aQ,a7];exact dn _ (aI.mpr rfl)
 . exact List.Sublist.nodup (List.Sublist.map _ (List.filter_sublist)) ndw
 . exact λq hq=>(I.vw q (kN.mp hq).1).bd
theorem abr{w:Way}(I:fZ gs n fs ws)(hn:n<=4)(hg:gs.length<=8)(hm:∀g∈gs,g.1<=4)(hk:j0 (Bi ws)= .ok (.int t))(h:(t,w)∈ws)(hG:iM (fs.length+1) gs):wBd (wG gs n fs ws)= .bad:=by
 have hlen:=I.len hn;obtain ⟨Γ,e1,e2⟩:=abv hk I h (by lia);have hG':iM (fs++[(t,w)]).length gs:=by rw[ai];exact hG
 rw[wBd,gK,e1,AO.aP,lF,gK,e2,AO.aP,lF,gK,adX hG' hg hm];rfl
theorem RB(J:A6->A6->Prop)(hJ:∀fs ws t w,J fs ws->fZ gs n fs ws->j0 (Bi ws)= .ok (.int t)->(t,w)∈ws->J (fs++[(t,w)]) ((gG gs (fs++[(t,w)]) t n).foldl cI (ws.filter λq=>!decide (q.1=t))))(hn:n<=4)(hg:gs.length<=8)(hm:∀g∈gs,g.1<=4):∀(m k:Nat) (fs ws:A6),J fs ws->fZ gs n fs ws->(fs=[]\/¬ iM fs.length gs)->k+fs.length=65536->k<m ->
 (∃L,whR wCn [4,5,6,7] wBd m (wG gs n fs ws)= .ok (.nx (wG gs n L []))/\fZ gs n L []/\J L []/\(L=[]\/¬ iM L.length gs)) \/
 (whR wCn [4,5,6,7] wBd m (wG gs n fs ws)= .bad/\(∀(zb:MZ) (T:Str),(∀fs ws t w,fZ gs n fs ws->j0 (Bi ws)= .ok (.int t)->(t,w)∈ws->iM (fs.length+1) gs->zb (wG gs n fs ws)= .ok T)->uN wCn [4,5,6,7] wBd zb m (wG gs n fs ws)= .ok T)/\∃fs ws,fZ gs n fs ws/\iM fs.length gs)
 | 0,k,fs,ws,_,_,_,_,h=>absurd h (oo _)
 | m+1,k,fs,ws,j,I,ho,hk,hkm=>by
  by_cases hz:ws=[]
  . subst hz;left;refine ⟨fs,?_,I,j,ho⟩;rw[whR,abW];rfl
  . have hy:=ZG (gs:=gs) (n:=n) (fs:=fs) hz;have hpos:=List.length_pos_iff.mpr hz;have hlen:=I.len hn;obtain ⟨t,w,e,h,hmin⟩:=aeL hz;have I':=I.step h hmin;have j':=hJ fs ws t w j I e h
    by_cases hG:iM (fs.length+1) gs
    . right;have hb:=abr I hn hg hm e h hG;refine ⟨?_,λzb T h'=>?_,_,_,I',by rw[ai];exact hG⟩
      . rw[whR,hy,AO.aP,hb];rfl
      . rw[uN,hy,AO.aP];show (match wBd (wG gs n fs ws) with
         | .ok (.nx Γ2)=>uN wCn [4,5,6,7] wBd zb m (clr [4,5,6,7] Γ2)
         | _=>zb (wG gs n fs ws))=_
        rw[hb];exact h' fs ws t w I e h hG
    . obtain ⟨Γ',e1,e2⟩:=adU I hn hg hm e h hG;generalize (gG gs (fs++[(t,w)]) t n).foldl cI (ws.filter λq=>!decide (q.1=t))=ws' at I' j' e2;have ew:whR wCn [4,5,6,7] wBd (m+1) (wG gs n fs ws)=whR wCn [4,5,6,7] wBd m (wG gs n (fs++[(t,w)]) ws'):=by
       rw[whR,hy,AO.aP,e1,AO.aP];show whR wCn [4,5,6,7] wBd m (clr [4,5,6,7] Γ')=_;rw[e2]
      have ez:∀zb:MZ,uN wCn [4,5,6,7] wBd zb (m+1) (wG gs n fs ws)=uN wCn [4,5,6,7] wBd zb m (wG gs n (fs++[(t,w)]) ws'):=λzb=>by
       rw[uN,hy,AO.aP];show (match wBd (wG gs n fs ws) with
        | .ok (.nx Γ2)=>uN wCn [4,5,6,7] wBd zb m (clr [4,5,6,7] Γ2)
        | _=>zb (wG gs n fs ws))=_
       rw[e1];show uN wCn [4,5,6,7] wBd zb m (clr [4,5,6,7] Γ')=_;rw[e2]
      rw[ew];simp only[ez];exact RB J hJ hn hg hm m (k - 1) (fs++[(t,w)]) ws' j' I' (.inr (by rw[ai];exact hG)) (by rw[ai];show k - 1+(fs.length+1)=_;lia) (by lia)
theorem Rf(J:A6->A6->Prop)(hJ:∀fs ws t w,J fs ws->fZ gs n fs ws->j0 (Bi ws)= .ok (.int t)->(t,w)∈ws->J (fs++[(t,w)]) ((gG gs (fs++[(t,w)]) t n).foldl cI (ws.filter λq=>!decide (q.1=t))))(h0:J [] (nO gs n))(hn:n<=4)(hg:gs.length<=8)(hm:∀g∈gs,g.1<=4) :
 (∃L,ql [.list (gs.map AZ),.int (n:Nat)]= .ok (.dict (Bi L))/\fZ gs n L []/\J L []/\(L=[]\/¬ iM L.length gs)) \/
 (ql [.list (gs.map AZ),.int (n:Nat)]= .bad/\oF 1000000 wCn [4,5,6,7] wBd (wG gs n [] (nO gs n))= .bad/\(∀(zb:MZ) (T:Str),(∀fs ws t w,fZ gs n fs ws->j0 (Bi ws)= .ok (.int t)->(t,w)∈ws->iM (fs.length+1) gs->zb (wG gs n fs ws)= .ok T)->ab9 1000000 wCn [4,5,6,7] wBd zb (wG gs n [] (nO gs n))= .ok T)/\∃fs ws,fZ gs n fs ws/\iM fs.length gs):=by
 have e0:ql [.list (gs.map AZ),.int (n:Nat)]=AO.bind (aJ (oF 1000000 wCn [4,5,6,7] wBd) (bF (aj 2)) (wG gs n [] (nO gs n))) fin:=by
  unfold ql;show AO.bind (aJ (aW 2 (iZ [])) _ [some (.list (gs.map AZ)),some (.int (n:Nat)),none,none,none,none,none,none]) fin=_;rw[gK,show aW 2 (iZ []) [some (.list (gs.map AZ)),some (.int (n:Nat)),none,none,none,none,none,none]= .ok (.nx [some (.list (gs.map AZ)),some (.int (n:Nat)),some (.dict (Bi [])),none,none,none,none,none]) from rfl,AO.aP,lF,gK,show aW 3 (aO kI [(aj 0),(aj 1)]) [some (.list (gs.map AZ)),some (.int n),some (.dict (Bi [])),none,none,none,none,none]= .ok (.nx (wG gs n [] (nO gs n))) by
   rw[Bb,mX,show evs [(aj 0),(aj 1)] [some (.list (gs.map AZ)),some (.int (n:Nat)),some (.dict (Bi [])),none,none,none,none,none]= .ok [.list (gs.map AZ),.int (n:Nat)] from rfl,AO.aP,JC hn (by lia)];rfl,AO.aP,lF]
  rfl
 rcases RB J hJ hn hg hm 1000000 65536 [] (nO gs n) h0 Rk (.inl rfl) rfl (by decide) with ⟨L,h1,h2,h3⟩ | ⟨h1,h2,h3⟩
 . left;have h1:oF 1000000 wCn [4,5,6,7] wBd (wG gs n [] (nO gs n))=_:=h1;refine ⟨L,?_,h2,h3⟩;rw[e0,gK,h1,AO.aP,lF];rfl
 . right;have h1:oF 1000000 wCn [4,5,6,7] wBd (wG gs n [] (nO gs n))= .bad:=h1;refine ⟨?_,h1,h2,h3⟩;rw[e0,gK,h1];rfl
end
structure Yt (gs:A9) (n:Nat) (ts:B3) (f:Int->Nat):Prop where
 nd:ts.Nodup
 so:ts.Pairwise (· <= ·)
 bd:∀t∈ts,0<=t/\t<2^2^n
 inp:∀t∈cY n,t∈ts
 zer:∀t∈ts,(f t=0↔t∈cY n)
 cl:∀g∈gs,∀c:B3,c.length=g.1->(∀p∈c,p∈ts)->cA g.2 c n∈ts/\f (cA g.2 c n)<=1+(c.map f).sum
 ju:∀t∈ts,0<f t->∃g∈gs,∃c:B3,c.length=g.1/\(∀p∈c,p∈ts)/\cA g.2 c n=t/\f t=1+(c.map f).sum
theorem vU{w:Way}(h:(aQ ws).Nodup)(hm:(t,w)∈ws):lH ws t=w.c:=by
 rw[lH,rA h hm];rfl
theorem fZ.whole(I:fZ gs j ws []):Yt gs j (srt (aQ ws)) (lH ws):=by
 obtain ⟨nd,bd,vf,vw,inp,cl,mo⟩:=I;rw[show aQ ws++aQ []=aQ ws from dA _] at nd bd;rw[dA] at inp cl;have hk:∀{t w},(t,w)∈ws->t∈srt (aQ ws):=λh=>lE.mpr (cf.mpr ⟨_,h,rfl⟩);have hv:∀t∈aQ ws,∃w,(t,w)∈ws/\VW gs j ws (t,w):=λt ht=>by
  obtain ⟨⟨t',w⟩,hq,rfl⟩:=cf.mp ht;obtain ⟨i,hi,e⟩:=kC.mp hq;have h1:=vf i (t',w) (by rw[av hi,e]);have h2:=h1.app (hs:=ws.drop i);rw[sL] at h2;exact ⟨w,hq,h2⟩
 refine ⟨(oJ _).nodup_iff.mpr nd,wO _,λt ht=>bd t (lE.mp ht),λt ht=>?_,λt ht=>?_,λg hg c hl hc=>?_,λt ht h0=>?_⟩
 . obtain ⟨w,h1,_⟩:=inp t ht;exact hk h1
 . constructor
   . intro h0;obtain ⟨w,h1,h2⟩:=hv t (lE.mp ht);rw[vU nd h1] at h0;rcases h2 with ⟨_,h⟩ | ⟨g,_,_,_,_,_,h⟩
     . exact h
     . have h:w.c=_:=h;lia
   . intro h;obtain ⟨w,h1,h2⟩:=inp t h;rw[vU nd h1];exact h2
 . obtain ⟨w,h1,h2⟩:=cl g hg c hl λp hp=>lE.mp (hc p hp);refine ⟨hk h1,?_⟩;rw[vU nd h1];exact h2
 . obtain ⟨w,h1,h2⟩:=hv t (lE.mp ht);have e:=vU nd h1;rcases h2 with ⟨h,_⟩ | ⟨g,k1,k2,k3,k4,k5,k6⟩
   . have h:w=fL:=h;rw[e,h] at h0;exact absurd h0 (hV 0)
   . refine ⟨g,k1,w.ts,k3,λp hp=>lE.mpr (k4 p hp),k5,?_⟩;rw[e];exact k6
noncomputable def kvC(ts:B3)(f:Int->Nat):B0:=ts.map λt=>(ab.int t,ab.int (f t:Nat))
theorem Tn{f:Int->Nat}:∀{ts:B3},cR (.inl t) (kvC ts f)=if t∈ts then some (.int (f t:Nat)) else none
 | []=>rfl
 | k::ts=>by
  show (if bM (.int k)=some (.inl t) then some (ab.int (f k:Nat)) else cR (.inl t) (kvC ts f))=_
  by_cases h:k=t
  . subst h;rw[if_pos (show bM (.int k)=some (.inl k) from rfl),if_pos bX]
  . rw[if_neg (show ¬ bM (.int k)=some (.inl t) from λz=>h (kU.inj (Option.some.inj z))),Tn];simp only[cp,show ¬ t=k from λz=>h z.symm,false_or]
theorem YB{f:Int->Nat}(h:t∈ts):ixY (.dict (kvC ts f)) (.int t)= .ok (.int (f t:Nat)):=by
 show (match cR (.inl t) (kvC ts f) with
  | some d=>AO.ok d
  | none=>.bad)=_
 rw[Tn,if_pos h]
theorem Yy{f:Int->Nat}:∀{ts:B3},oZ (.inl t) (kvC ts f)=decide (t∈ts)
 | []=>rfl
 | k::ts=>by
  show (if bM (.int k)=some (.inl t) then true else oZ (.inl t) (kvC ts f))=_
  by_cases h:k=t
  . subst h;rw[if_pos (show bM (.int k)=some (.inl k) from rfl)];simp
  . rw[if_neg (show ¬ bM (.int k)=some (.inl t) from λz=>h (kU.inj (Option.some.inj z))),Yy];simp only[cp,show ¬ t=k from λz=>h z.symm,false_or]
theorem aeu{f:Int->Nat}(h:t∉ts):gU (.int t) (.inl t) (.int (f t:Nat)) (kvC ts f)=kvC (ts++[t]) f:=by
 rw[gU,Yy,decide_eq_false h];unfold kvC;rw[a7];rfl
theorem aeC{f:Int->Nat}(h2:m2 Γ = .ok (.int (f t:Nat)))(h1:m1 Γ = .ok (.int t))(hg:gv Γ i=some (.dict (kvC ts f)))(hn:t∉ts)(hl:ts.length<=100000)(hi:i < Γ.length):gW i m1 m2 Γ = .ok (.nx (Γ.set i (some (.dict (kvC (ts++[t]) f))))):=by
 rw[gW,h2,AO.aP,h1,AO.aP,hg];show gd ((kvC ts f).length<bE/\i < Γ.length) (AO.ok (Out.nx (Γ.set i (some (.dict (gU (.int t) (.inl t) (.int (f t:Nat)) (kvC ts f)))))))=_;rw[bw ⟨by rw[kvC,af];exact Bz hl,hi⟩,aeu hn]
theorem Xr{n:Nat}(J:A6->A6->Prop)(hJ:∀fs ws t w,J fs ws->fZ gs n fs ws->j0 (Bi ws)= .ok (.int t)->(t,w)∈ws->J (fs++[(t,w)]) ((gG gs (fs++[(t,w)]) t n).foldl cI (ws.filter λq=>!decide (q.1=t))))(h0:J [] (nO gs n))(hn:n<=2)(hg:gs.length<=8)(hm:∀g∈gs,g.1<=4)(hc:kO (2^2^n) gs<=20000):∃L,ql [.list (gs.map AZ),.int (n:Nat)]= .ok (.dict (Bi L))/\fZ gs n L []/\J L []/\L.length<=16:=by
 have h4:2^2^n<=2^2^2:=fq (by decide) (fq (by decide) hn);have len:∀{fs ws:A6},fZ gs n fs ws->fs.length<=2^2^n:=λ{fs ws} I=>by
  have:=o4 (fm.mp I.nd).1 λx hx=>by
   rw[show ((2^2^n:Nat):Int)=2^2^n by simp];exact I.bd x (eM _ hx)
  unfold aQ at this;rwa [af] at this
 rcases Rf J hJ h0 (by lia) hg hm with ⟨L,h1,h2,hj,_⟩ | ⟨_,_,_,fs,ws,h2,h3⟩
 . exact ⟨L,h1,h2,hj,dc (len h2) h4⟩
 . have h5:=len h2;rcases h3 with h3 | h3
   . lia
   . have:=RV h5 gs;lia
noncomputable def inW(ts:B3):A6:=ts.map λt=>(t,fL)
structure qP (n:Nat) (fs ws:A6):Prop where
 few:fs.length<n->fs=inW ((cY n).take fs.length)/\∃rest,ws=inW ((cY n).drop fs.length)++rest/\∀q∈rest,1<=q.2.c
 all:n<=fs.length->fs.take n=inW (cY n)
theorem Ru:∀{ts:B3},t∈ts->lk t (inW ts)=some fL
 | k::ts,h=>by
  show (if k=t then some fL else lk t (inW ts))=_
  by_cases e:k=t
  . rw[if_pos e]
  . rw[if_neg e];exact Ru ((cp.mp h).resolve_left λz=>e z.symm)
theorem vG:aQ (inW ts)=ts:=by unfold aQ inW;rw[de];exact List.map_id' ts
theorem Fb:∀{a b:A6},t∉aQ a->lk t (a++b)=lk t b
 | [],b,_=>rfl
 | (k,w)::a,b,h=>by
  show (if k=t then some w else lk t (a++b))=_;rw[if_neg (λz=>h (by rw[<- z];exact bX)),Fb λz=>h (cc _ z)]
variable {rest:A6}
theorem ac6(hr:∀r∈rest,1<=r.2.c)(hq:1<=q.2.c):∃rest',cI (inW ts++rest) q=inW ts++rest'/\∀r∈rest',1<=r.2.c:=by
 by_cases hm:q.1∈ts
 . refine ⟨rest,?_,hr⟩;rw[cI,Rv (by rw[vG];exact hm),Ru hm];show (if q.2.c<fL.c then iC q.1 q.2 (inW ts++rest) else inW ts++rest)=_;rw[if_neg (show ¬ q.2.c<fL.c from oo _)]
 . have hm':q.1∉aQ (inW ts):=by rw[vG];exact hm
   have hp:∃rest',iC q.1 q.2 (inW ts++rest)=inW ts++rest'/\∀r∈rest',1<=r.2.c:=by
    rw[iC,Fb hm'];split
    . refine ⟨yO q.1 q.2 rest,?_,λr h=>?_⟩
      . rw[yO,a7];congr 1;refine (cn λr h=>?_).trans (tN _);rw[if_neg (λz=>hm' (cf.mpr ⟨r,h,z⟩))];rfl
      . obtain ⟨p,hp,rfl⟩:=cf.mp h;split
        . exact hq
        . exact hr p hp
    . refine ⟨rest++[(q.1,q.2)],by rw[d6],λr h=>?_⟩;rcases cE.mp h with z | z
      . exact hr r z
      . rw[aI.mp z];exact hq
   rw[cI,Fb hm'];split
   . exact hp
   . split
     . exact hp
     . exact ⟨rest,rfl,hr⟩
theorem FP:∀{qs rest:A6},(∀r∈rest,1<=r.2.c)->(∀q∈qs,1<=q.2.c)->∃rest',qs.foldl cI (inW ts++rest)=inW ts++rest'/\∀r∈rest',1<=r.2.c
 | [],rest,hr,_=>⟨rest,rfl,hr⟩
 | q::qs,rest,hr,hq=>by
  obtain ⟨r1,e1,h1⟩:=ac6 hr (hq q bX);rw[qc,e1];exact FP h1 λp hp=>hq p (cc _ hp)
theorem JL:∀{ts us:B3},(us++ts).Nodup->(ts.map λt=>(t,fL)).foldl cI (inW us)=inW (us++ts)
 | [],us,_=>by rw[dA];rfl
 | t::ts,us,h=>by
  have hn:=λz=>(fm.mp h).2.2 t z t bX rfl;have hk:t∉aQ (inW us):=by rw[vG];exact hn
  rw[a8,qc,show cI (inW us) (t,fL)=inW (us++[t]) by
   rw[cI,zN.mpr hk];rw[iC,zN.mpr hk];unfold inW;rw[a7];rfl,JL (by rw[d6];exact h),d6]
  rfl
theorem Ma(hn:(cY j).Nodup):qP j [] (nO gs j):=by
 have e:wM j=inW (cY j):=by
  show ((cY j).map λt=>(t,fL)).foldl cI (inW [])=_;rw[JL (by rw[fe];exact hn),fe]
 obtain ⟨rest,e1,h1⟩:=FP (qs:=qC gs j) (rest:=[]) (λr h=>nomatch h) λq hq=>by
  obtain ⟨g,_,rfl⟩:=cf.mp hq;exact ay _
 rw[dA] at e1;refine ⟨λ_=>⟨rfl,rest,?_,h1⟩,λh=>?_⟩
 . show (qC gs j).foldl cI (wM j)=_;rw[e,e1];rfl
 . have h:=Nat.le_zero.mp h;subst h;rfl
theorem j6{n:Nat}:(cY n).length=n:=by rw[cY,af,cS]
theorem aaW(h:t∉ts)(hr:t∉aQ rest):(inW (t::ts)++rest).filter (λq=>!decide (q.1=t))=inW ts++rest:=by
 show ((t,fL)::(inW ts++rest)).filter _=_;rw[gX (by simp)];refine List.filter_eq_self.mpr λq hq=>?_;rcases cE.mp hq with z | z
 . obtain ⟨u,hu,rfl⟩:=cf.mp z;simp only[xi,decide_eq_false_iff_not];exact λz=>h (z ▸ hu)
 . simp only[xi,decide_eq_false_iff_not];exact λe=>hr (cf.mpr ⟨q,z,e⟩)
theorem DK{k:ab}:∀{r:A6},jC k 0 (Bi r)= .ok k
 | []=>rfl
 | (u,w)::r=>by
  show (if ((w.c:Nat):Int)<0 then jC (.int u) (w.c:Nat) (Bi r) else jC k 0 (Bi r))=_;rw[if_neg (by lia)];exact DK
theorem qP.step{fs:A6}{w:Way}(F:qP j fs ws)(I:fZ gs j fs ws)(hk:j0 (Bi ws)= .ok (.int t))(h:(t,w)∈ws)(hn:(cY j).Nodup) :
 qP j (fs++[(t,w)]) ((gG gs (fs++[(t,w)]) t j).foldl cI (ws.filter λq=>!decide (q.1=t))):=by
 have hl:(fs++[(t,w)]).length=fs.length+1:=by rw[ai];rfl
 by_cases hlt:fs.length<j
 . obtain ⟨e1,rest,e2,hr⟩:=F.few hlt;obtain ⟨b,hb⟩:∃b,(cY j)[fs.length]?=some b:=⟨_,av (by rw[j6];exact hlt)⟩;have ed:(cY j).drop fs.length=b::(cY j).drop (fs.length+1):=by
    rw[nh (by rw[j6];exact hlt)];rw[av (by rw[j6];exact hlt)] at hb;rw[Option.some.inj hb]
   rw[ed] at e2;have ndw:=(fm.mp I.nd).2.1;have e2':ws=(b,fL)::(inW ((cY j).drop (fs.length+1))++rest):=e2;have etb:=by
    rw[e2'] at hk;have hk:jC (.int b) 0 (Bi (inW ((cY j).drop (fs.length+1))++rest))= .ok (.int t):=hk;rw[DK] at hk;exact (ab.int.inj (AO.ok.inj hk)).symm
   subst etb;have hw:=by
    have h1:=rA ndw h;have h2:=rA ndw (show (t,fL)∈ws by rw[e2'];exact bX);rw[h1] at h2;exact Option.some.inj h2
   subst hw;have hnd:t∉(cY j).drop (fs.length+1)/\t∉aQ rest:=by
    rw[e2'] at ndw;have h1:(t::(aQ (inW ((cY j).drop (fs.length+1)))++aQ rest)).Nodup:=by
     have:aQ ((t,fL)::(inW ((cY j).drop (fs.length+1))++rest))=t::(aQ (inW ((cY j).drop (fs.length+1)))++aQ rest):=by
      unfold aQ;rw[a8,a7]
     rwa [this] at ndw
    rw[vG] at h1;have h2:=(kP.mp h1).1;exact ⟨λz=>h2 (eM _ z),λz=>h2 (dn _ z)⟩
   have ew:ws.filter (λq=>!decide (q.1=t))=inW ((cY j).drop (fs.length+1))++rest:=by
    rw[e2];exact aaW hnd.1 hnd.2
   have ef:fs++[(t,fL)]=inW ((cY j).take (fs.length+1)):=by
    have h1:=take_snoc hb;rw[h1];rw[inW,a7];show fs++_=inW ((cY j).take fs.length)++_;rw[<- e1];rfl
   obtain ⟨rest',e3,hr'⟩:=FP (qs:=gG gs (fs++[(t,fL)]) t j) hr λq hq=>by
    obtain ⟨g,_,hq⟩:=kB.mp hq;obtain ⟨c,_,e⟩:=mB.mp hq;unfold qT at e;split at e
    . cases e
    . cases e;exact Nat.le_add_right _ _
   rw[ew,e3];refine ⟨λ_=>⟨by rw[hl];exact ef,rest',by rw[hl],hr'⟩,λhge=>?_⟩;rw[hl] at hge;have e4:j=fs.length+1:=by lia
   rw[ef,<- e4,ij (by rw[inW,af,dr];lia),ij (by rw[j6];exact ay _)]
 . have hge:=ky hlt;refine ⟨λz=>absurd z (by lia),λ_=>?_⟩;rw[oe hge];exact F.all hge
section
variable  {n:Nat}{L:A6}
theorem uz(F:qP n L []):L.take n=inW (cY n)/\n<=L.length:=by
 have h:=ky λz=>by
  obtain ⟨_,rest,e,_⟩:=F.few z;have h1:=congrArg List.length e;rw[l9,ai] at h1;unfold inW at h1;rw[af,nV,j6] at h1;lia
 exact ⟨F.all h,h⟩
theorem aeT(I:fZ gs n L [])(F:qP n L [])(hq:L[i]?=some q)(hb:q.1∈cY n):i<n/\q.1=iB n i:=by
 obtain ⟨e,hl⟩:=uz F;have nd:=by have:=I.nd;rwa [show aQ L++aQ []=aQ L from dA _] at this
 obtain ⟨j,hj,ej⟩:=kC.mp hb;rw[j6] at hj;have h1:(L.take n)[j]?=some (q.1,fL):=by
  rw[e];rw[inW,br,av (by rw[j6];exact hj),ej];rfl
 rw[la hj] at h1;have h2:(aQ L)[j]?=(aQ L)[i]?:=by
  rw[aQ,br,br,h1,hq];rfl
 have hji:=(List.getElem?_inj (by rw[aQ,af];lia) nd).mp h2;subst hji;refine ⟨hj,?_⟩;have h3:(cY n)[j]?=some (iB n j):=by rw[cY,br,eP hj];rfl
 rw[av (by rw[j6];exact hj),ej] at h3;exact Option.some.inj h3
end
def Kp(b:Int)(w:Nat)(rs:B3)(m:Nat):Prop:=∀c:B3,c.length=m->(∀x∈c,x∈rs)->cJ b c w∈rs
theorem jM:(brk b w rs m).isNone=true↔Kp b w rs m:=by
 rw[U4,fS];exact ⟨λh c h1 h2=>of_decide_eq_true (h c (jB.mpr ⟨h1,h2⟩)),λh c hc=>decide_eq_true (h c (jB.mp hc).1 (jB.mp hc).2)⟩
theorem ad2(f:Nat->Int):tab 1 f=f 0:=by show 2*0+f 0=_;lia
theorem Yu(f:Nat->Int):tab 2 f=f 0+2*f 1:=by show 2*(2*0+f 1)+f 0=_;lia
theorem Yj(f:Nat->Int):tab 4 f=f 0+2*f 1+4*f 2+8*f 3:=by show 2*(2*(2*(2*0+f 3)+f 2)+f 1)+f 0=_;lia
theorem iT:∀m,aX (ax m 0)=0
 | 0=>rfl
 | m+1=>by rw[fo,cZ,iT m];rfl
theorem yR:∀m,aX (ax m 1)=2^m - 1
 | 0=>rfl
 | m+1=>by rw[fo,cZ,yR m,ll];lia
noncomputable abbrev col(c:B3)(j:Nat):B3:=c.map λt=>ak t (j:Nat)
theorem IK(c:B3)(j:Nat):bO (col c j):=bO.map λ_ _=>aM _ _
theorem Uv:cJ b c 1=ak b (aX (col c 0)):=ad2 _
theorem Cu:cJ b c 2=ak b (aX (col c 0))+2*ak b (aX (col c 1)):=Yu _
theorem Sx:cJ b c 4=ak b (aX (col c 0))+2*ak b (aX (col c 1))+4*ak b (aX (col c 2))+8*ak b (aX (col c 3)):=Yj _
theorem T6:Kp b 1 [0] m↔ak b 0=0:=by
 have e:cJ b (ax m 0) 1=ak b 0:=by
  rw[Uv];show ak b (aX ((ax m 0).map _))=_;rw[k9];show ak b (aX (ax m 0))=_;rw[iT]
 constructor
 . intro h;have:=h (ax m 0) ck λx hx=>aI.mpr (lp hx);rwa [e,aI] at this
 . intro h c h1 h2;have:=sM.mpr ⟨h1,λx hx=>aI.mp (h2 x hx)⟩;rw[this,e,h];exact aI.mpr rfl
theorem N5:Kp b 1 [1] m↔ak b (2^m - 1)=1:=by
 have e:cJ b (ax m 1) 1=ak b (2^m - 1):=by
  rw[Uv];show ak b (aX ((ax m 1).map _))=_;rw[k9];show ak b (aX (ax m 1))=_;rw[yR]
 constructor
 . intro h;have:=h (ax m 1) ck λx hx=>aI.mpr (lp hx);rwa [e,aI] at this
 . intro h c h1 h2;have:=sM.mpr ⟨h1,λx hx=>aI.mp (h2 x hx)⟩;rw[this,e,h];exact aI.mpr rfl
theorem Ke:x∈([1,2]:B3)↔x=1\/x=2:=by simp
theorem My:Kp b 2 [1,2] m↔∀r:Nat,r<2^m->ak b (r:Nat)≠ak b (2^m - 1 - (r:Nat)):=by
 constructor
 . intro h r hr;have k:=h ((bx m r).map λx=>2 - x) (by rw[af,bH]) λx hx=>by
    obtain ⟨y,hy,rfl⟩:=cf.mp hx;rcases j9 hy with z | z <;> rw[z] <;> simp
   rw[Cu,Ke] at k;have e0:col ((bx m r).map λx=>2 - x) 0=bx m r:=by
    rw[col,de];refine (cn λx hx=>?_).trans (tN _);rcases j9 hx with z | z <;> rw[z] <;> rfl
   have e1:col ((bx m r).map λx=>2 - x) 1=rW (bx m r):=by
    unfold col rW;rw[de];refine cn λx hx=>?_;rcases j9 hx with z | z <;> rw[z] <;> rfl
   rw[e0,e1,yc,bH,cL hr] at k;have h1:=aM b r;have h2:=aM b (2^m - 1 - r);lia
 . intro h c h1 h2;have e1:col c 1=rW (col c 0):=by
    unfold rW col;rw[de];refine cn λx hx=>?_;rcases Ke.mp (h2 x hx) with z | z <;> rw[z] <;> rfl
   obtain ⟨r,hr,er,_⟩:=DQ (IK c 0);have hl:(col c 0).length=m:=by rw[af,h1]
   rw[hl] at hr;have k:=h r hr;rw[Cu,e1,yc,hl,er,Ke];have h1:=aM b r;have h2:=aM b (2^m - 1 - r);lia
theorem zx:x∈([0,2,3]:B3)↔x=0\/x=2\/x=3:=by simp
theorem EY(n i:Nat):ak (n:Nat) (i:Nat)=if n.testBit i then 1 else 0:=by
 rw[ak,cx,Nat.testBit_eq_decide_div_mod_eq];have:(n:Int) / 2^i % 2=((n / 2^i % 2:Nat):Int):=by push_cast;rfl
 rw[this]
 by_cases h:n / 2^i % 2=1
 . rw[h];simp
 . have:n / 2^i % 2=0:=by lia
   rw[this];simp
theorem q9:bx m r=(List.range m).map λj=>ak (r:Nat) (j:Nat):=by
 refine cn λj _=>?_;rw[ak,cx]
 push_cast
 rfl
theorem Ga{k:Nat}(hk:k<m):bx m (r ||| 2^k)=(bx m r).set k 1:=by
 rw[q9,q9];refine sd λi=>?_;rw[xk,br,br,af,cS]
 by_cases hi:i<m
 . rw[eP hi];simp only[EY,Nat.testBit_two_pow]
   by_cases he:k=i
   . subst he;simp[hk]
   . simp[he]
 . have:(List.range m)[i]?=none:=by rw[List.getElem?_eq_none_iff,cS];lia
   rw[this,if_neg (by lia)];rfl
inductive Below:B3->B3->Prop
 | nil:Below [] []
 | cons {x y:Int}{xs ys:B3}:(x=0/\y=0)\/(x=0/\y=1)\/(x=1/\y=1)->Below xs ys->Below (x::xs) (y::ys)
theorem G4:∀{c:B3},(∀x∈c,x∈([0,2,3]:B3))->Below (col c 0) (col c 1)
 | [],_=>.nil
 | x::c,h=>.cons (by
  rcases zx.mp (h x bX) with z | z | z <;> rw[z] <;> decide) (G4 λy hy=>h y (cc _ hy))
theorem bO.app(h:bO xs)(h':bO ys):bO (xs++ys):=λx hx=>by
 rcases cE.mp hx with z | z
 . exact h x z
 . exact h' x z
theorem Below.left(h:Below xs ys):bO xs:=by
 induction h with
 | nil=>exact λx hx=>nomatch hx
 | cons h _ ih=>exact λx hx=>by rcases cp.mp hx with z | z;(· lia);exact ih x z
theorem Y6(h:∀r k:Nat,r<2^m->k<m->ak b (r:Nat)<=ak b ((r ||| 2^k:Nat)))(hb:Below xs ys):∀pre,bO pre->pre.length+xs.length=m->ak b (aX (pre++xs))<=ak b (aX (pre++ys)):=by
 induction hb with
 | nil=>intro pre _ _;exact nI _
 | @cons x y xs ys hxy hb ih=>
  intro pre hp hl;rw[bt] at hl;have h01:bO (pre++x::xs):=hp.app λz hz=>by rcases cp.mp hz with e | e;(· lia);exact hb.left z e
  have s1:ak b (aX (pre++x::xs))<=ak b (aX (pre++y::xs)):=by
   rcases hxy with ⟨rfl,rfl⟩ | ⟨rfl,rfl⟩ | ⟨rfl,rfl⟩
   . exact nI _
   . obtain ⟨r,hr,er,eb⟩:=DQ h01;have hm:(pre++0::xs).length=m:=by rw[ai,bt];lia
     rw[hm] at hr eb;have k:=h r pre.length hr (by lia);have hb2:=Ga (m:=m) (r:=r) (k:=pre.length) (by lia);rw[eb] at hb2;have e2:(pre++0::xs).set pre.length 1=pre++1::xs:=by
      rw[List.set_append_right _ _ (ay _),kM];rfl
     rw[e2] at hb2;have hlt:r ||| 2^pre.length<2^m:=sm hr (ly (by decide) (by lia))
     rw[er,<- hb2,cL hlt];exact k
   . exact nI _
  have s2:=ih (pre++[y]) (hp.app λz hz=>by rw[aI.mp hz];lia) (by rw[ai];show pre.length+1+xs.length=m;lia);rw[d6,d6] at s2;exact AI s1 s2
theorem FN:Kp b 2 [0,2,3] m↔∀r k:Nat,r<2^m->k<m->ak b (r:Nat)<=ak b ((r ||| 2^k:Nat)):=by
 constructor
 . intro h r k hr hk;have hlt:=sm hr (ly (by decide) hk);have mem:∀j:Nat,(ak (r:Nat) (j:Nat)=0/\ak ((r ||| 2^k:Nat)) (j:Nat)=0)\/(ak (r:Nat) (j:Nat)=0/\ak ((r ||| 2^k:Nat)) (j:Nat)=1)\/(ak (r:Nat) (j:Nat)=1/\ak ((r ||| 2^k:Nat)) (j:Nat)=1):=λj=>by
    rw[EY,EY,Nat.testBit_or];cases r.testBit j <;> cases (2^k).testBit j <;> simp
   have kk:=h ((List.range m).map λj=>ak r (j:Nat)+2*ak ((r ||| 2^k:Nat)) j) (by rw[af,cS]) λx hx=>by
    obtain ⟨j,_,rfl⟩:=cf.mp hx;rw[zx];have:=mem j;lia
   have e0:col ((List.range m).map λj=>ak (r:Nat) (j:Nat)+2*ak ((r ||| 2^k:Nat)) (j:Nat)) 0=bx m r:=by
    rw[q9];rw[col,de];refine cn λj _=>?_;show ak (ak (r:Nat) (j:Nat)+2*ak ((r ||| 2^k:Nat)) (j:Nat)) ((0:Nat):Int)=ak (r:Nat) (j:Nat);rcases mem j with ⟨h1,h2⟩ | ⟨h1,h2⟩ | ⟨h1,h2⟩ <;> rw[h1,h2] <;> rfl
   have e1:col ((List.range m).map λj=>ak (r:Nat) (j:Nat)+2*ak ((r ||| 2^k:Nat)) (j:Nat)) 1=bx m (r ||| 2^k):=by
    rw[q9];rw[col,de];refine cn λj _=>?_;show ak (ak (r:Nat) (j:Nat)+2*ak ((r ||| 2^k:Nat)) (j:Nat)) ((1:Nat):Int)=ak ((r ||| 2^k:Nat)) (j:Nat);rcases mem j with ⟨h1,h2⟩ | ⟨h1,h2⟩ | ⟨h1,h2⟩ <;> rw[h1,h2] <;> rfl
   rw[Cu,e0,e1,cL hr,cL hlt,zx] at kk;have h1:=aM b r;have h2:=aM b ((r ||| 2^k:Nat));lia
 . intro h c h1 h2;have k:=Y6 h (G4 h2) [] (λx hx=>nomatch hx) (by show 0+_=m;rw[af];lia);rw[fe,fe] at k;rw[Cu,zx];have h1:=aM b (aX (col c 0));have h2:=aM b (aX (col c 1));lia
noncomputable def iz:B3:=[0,3,5,6,9,10,12,15]
theorem TQ:x∈iz↔x=0\/x=3\/x=5\/x=6\/x=9\/x=10\/x=12\/x=15:=by simp[iz]
noncomputable def wgt(b:Int)(k:Nat):Int:=ak b (2^k)+ak b 0
noncomputable def g8(b:Int):Nat->B3->Int
 | _,[]=>0
 | k,x::xs=>x*wgt b k+g8 b (k+1) xs
noncomputable def wJ(b:Int)(r:Nat):Nat->Int
 | 0=>ak b 0
 | k+1=>wJ b r k+ak (r:Nat) (k:Nat)*wgt b k
theorem Gr(b:Int)(y:Int):∀(xs:B3) (k:Nat),g8 b k (xs++[y])=g8 b k xs+y*wgt b (k+xs.length)
 | [],k=>by show y*wgt b k+0=0+y*wgt b k;lia
 | x::xs,k=>by
  show x*wgt b k+g8 b (k+1) (xs++[y])=x*wgt b k+g8 b (k+1) xs+y*wgt b (k+(xs.length+1));rw[Gr b y xs (k+1),show k+1+xs.length=k+(xs.length+1) by lia];lia
theorem vX(b:Int)(r:Nat):∀m,wJ b r m=ak b 0+g8 b 0 (bx m r)
 | 0=>by show ak b 0=ak b 0+0;lia
 | m+1=>by
  show wJ b r m+ak (r:Nat) (m:Nat)*wgt b m=_;have e:ak (r:Nat) (m:Nat)=((r / 2^m % 2:Nat):Int):=by
   rw[ak,cx]
   push_cast
   rfl
  rw[vX b r m,uK,Gr,bH,e,AJ];lia
theorem Je(b:Int):∀(c:B3) (k:Nat),(∀x∈c,x∈iz)->(g8 b k (col c 0)+g8 b k (col c 1)+g8 b k (col c 2)+g8 b k (col c 3)) % 2=0
 | [],k,_=>rfl
 | x::c,k,h=>by
  have ih:=Je b c (k+1) λy hy=>h y (cc _ hy);show (ak x ((0:Nat):Int)*wgt b k+g8 b (k+1) (col c 0)+(ak x ((1:Nat):Int)*wgt b k+g8 b (k+1) (col c 1))+(ak x ((2:Nat):Int)*wgt b k+g8 b (k+1) (col c 2))+(ak x ((3:Nat):Int)*wgt b k+g8 b (k+1) (col c 3))) % 2=0;generalize g8 b (k+1) (col c 0)=l0 at *
  generalize g8 b (k+1) (col c 1)=l1 at *
  generalize g8 b (k+1) (col c 2)=l2 at *
  generalize g8 b (k+1) (col c 3)=l3 at *
  generalize wgt b k=w at *
  have bits:∀v:Int,v∈iz->(ak v ((0:Nat):Int)=0\/ak v ((0:Nat):Int)=1)/\(ak v ((1:Nat):Int)=0\/ak v ((1:Nat):Int)=1)/\(ak v ((2:Nat):Int)=0\/ak v ((2:Nat):Int)=1)/\(ak v ((3:Nat):Int)=0\/ak v ((3:Nat):Int)=1)/\(ak v ((0:Nat):Int)+ak v ((1:Nat):Int)+ak v ((2:Nat):Int)+ak v ((3:Nat):Int)) % 2=0:=by decide
  obtain ⟨h0,h1,h2,h3,he⟩:=bits x (h x bX);rcases h0 with z0 | z0 <;> rcases h1 with z1 | z1 <;> rcases h2 with z2 | z2 <;> rcases h3 with z3 | z3 <;> rw[z0,z1,z2,z3] at he ⊢ <;> first | lia
theorem G9{c:Int}(ha:x=0\/x=1)(hb:b=0\/b=1)(hc:c=0\/c=1)(hd:t=0\/t=1):x+2*b+4*c+8*t∈iz↔(x+b+c+t) % 2=0:=by
 rcases ha with rfl | rfl <;> rcases hb with rfl | rfl <;> rcases hc with rfl | rfl <;> rcases hd with rfl | rfl <;> decide
theorem uV{α β:Type}(f:α->β)(x:α)(n:Nat):(ax n x).map f=ax n (f x):=k9
theorem Nh(h:Kp b 4 iz m):∀(xs:B3) (k:Nat),bO xs->k+xs.length=m->ak b (aX (ax k 0++xs)) % 2=(ak b 0+g8 b k xs) % 2
 | [],k,_,_=>by
  rw[dA,iT];show _=(ak b 0+0) % 2;lia
 | x::xs,k,hx,hl=>by
  rw[bt] at hl;have ih:=Nh h xs (k+1) hx.tail (by lia);have e0:ax (k+1) (0:Int)++xs=ax k 0++0::xs:=by
   rw[tJ,d6];rfl
  rw[e0] at ih;show _=(ak b 0+(x*wgt b k+g8 b (k+1) xs)) % 2;rcases hx x bX with rfl | rfl
  . rw[ih];lia
  . have kk:=h (ax k 0++5::xs.map λy=>3*y) (by simp;lia) λy hy=>by
     rw[TQ];rcases cE.mp hy with z | z
     . exact .inl (lp z)
     . rcases cp.mp z with z | z
       . lia
       . obtain ⟨v,hv,rfl⟩:=cf.mp z;rcases hx.tail v hv with e | e <;> lia
    have c0:col (ax k 0++5::xs.map λy=>3*y) 0=ax k 0++1::xs:=by
     rw[col,a7,uV,a8,de];congr 2;refine (cn λv hv=>?_).trans (tN _);rcases hx.tail v hv with e | e <;> rw[e] <;> rfl
    have c1:col (ax k 0++5::xs.map λy=>3*y) 1=ax k 0++0::xs:=by
     rw[col,a7,uV,a8,de];congr 2;refine (cn λv hv=>?_).trans (tN _);rcases hx.tail v hv with e | e <;> rw[e] <;> rfl
    have z2:∀j:Nat,(j=2\/j=3)->(xs.map λy=>3*y).map (λt=>ak t (j:Nat))=ax xs.length 0:=λj hj=>by
     rw[de];refine sM.mpr ⟨by rw[af],λv hv=>?_⟩;obtain ⟨u,hu,rfl⟩:=cf.mp hv;rcases hj with rfl | rfl <;> rcases hx.tail u hu with e | e <;> rw[e] <;> rfl
    have c2:col (ax k 0++5::xs.map λy=>3*y) 2=ax k 0++1::ax xs.length 0:=by
     rw[col,a7,uV,a8,z2 2 (.inl rfl)];rfl
    have c3:col (ax k 0++5::xs.map λy=>3*y) 3=ax k 0++0::ax xs.length 0:=by
     rw[col,a7,uV,a8,z2 3 (.inr rfl)];rfl
    have g0:∀(k:Nat) (ys:B3),aX (ax k 0++ys)=2^k*aX ys:=λk ys=>by
     induction k with
     | zero=>rw[mi,fe];lia
     | succ k ih=>rw[fo,gL,cZ,ih,ll,si (2^k) 2,p9];lia
    have v2:aX (ax k 0++1::ax xs.length 0)=2^k:=by
     rw[g0,cZ,iT];lia
    have v3:aX (ax k 0++0::ax xs.length 0)=0:=by
     rw[g0,cZ,iT];lia
    rw[Sx,c0,c1,c2,c3,v2,v3,G9 (aM _ _) (aM _ _) (aM _ _) (aM _ _)] at kk;unfold wgt;lia
theorem FZ:Kp b 4 iz m↔∀r:Nat,r<2^m->wJ b r m % 2=ak b (r:Nat):=by
 constructor
 . intro h r hr;have k:=Nh h (bx m r) 0 bO.bx (by rw[bH];lia);rw[mi,fe,cL hr,<- vX] at k;have:=aM b r;lia
 . intro h c h1 h2;rw[Sx,G9 (aM _ _) (aM _ _) (aM _ _) (aM _ _)];have e:∀j,ak b (aX (col c j))=(ak b 0+g8 b 0 (col c j)) % 2:=λj=>by
    obtain ⟨r,hr,er,eb⟩:=DQ (IK c j);have hl:(col c j).length=m:=by rw[af,h1]
    rw[hl] at hr eb;rw[er,<- h r hr,vX,eb]
   rw[e 0,e 1,e 2,e 3];have:=Je b c 0 h2;lia
structure Fam (gs:A9) (F:Int->Prop):Prop where
 clo:∀g∈gs,∀ts:B3,ts.length=g.1->(∀t∈ts,F t)->F (cJ g.2 ts 4)
 x:F 10
 y:F 12
noncomputable def eO(t:Int):Int:=tab 4 λr=>1 - ak t (r:Nat)
noncomputable def uT(p q:Int):Int:=tab 4 λr=>ak p (r:Nat)*ak q (r:Nat)
section
variable  {F:Int->Prop}
theorem Tg(h:v=0\/v=1):aX (ax m v)=if v=0 then 0 else 2^m - 1:=by
 rcases h with rfl | rfl
 . rw[iT,if_pos rfl]
 . rw[yR,if_neg (by decide)]
theorem Fam.one(h:Fam gs F)(hg:g∈gs)(ht:F t):F (tab 4 λr=>if ak t (r:Nat)=0 then ak g.2 0 else ak g.2 (2^g.1 - 1)):=by
 have k:=h.clo g hg (ax g.1 t) ck λx hx=>by rw[lp hx];exact ht
 have e:cJ g.2 (ax g.1 t) 4=tab 4 λr=>if ak t (r:Nat)=0 then ak g.2 0 else ak g.2 (2^g.1 - 1):=by
  refine eF λr _=>?_;rw[uV,Tg (aM _ _)];split <;> rfl
 rwa [e] at k
theorem Fam.not_of(h:Fam gs F)(hg:g∈gs)(h0:ak g.2 0=1)(h1:ak g.2 (2^g.1 - 1)=0)(ht:F t):F (eO t):=by
 have k:=h.one hg ht;have e:(tab 4 λr=>if ak t (r:Nat)=0 then ak g.2 0 else ak g.2 (2^g.1 - 1))=eO t:=by
  refine eF λr _=>?_;rw[h0,h1];rcases aM t r with z | z <;> rw[z] <;> rfl
 rwa [e] at k
theorem Fam.IV(h:Fam gs F)(hg:g∈gs)(h0:ak g.2 0=v)(h1:ak g.2 (2^g.1 - 1)=v):F (tab 4 λ_=>v):=by
 have k:=h.one hg h.x;have e:(tab 4 λr=>if ak 10 (r:Nat)=0 then ak g.2 0 else ak g.2 (2^g.1 - 1))=tab 4 λ_=>v:=by
  refine eF λr _=>?_;rw[h0,h1];split <;> rfl
 rwa [e] at k
theorem tab0:(tab 4 λ_=>(0:Int))=0:=by decide
theorem acE:(tab 4 λ_=>(1:Int))=15:=by decide
theorem zH(hr:r<4):ak (eO t) (r:Nat)=1 - ak t (r:Nat):=gB (λr=>by rcases aM t r with z | z <;> lia) hr
theorem Fam.CV(h:Fam gs F)(hn:∀t,F t->F (eO t))(hg:g∈gs)(hk:¬ Kp g.2 2 [1,2] g.1):F 0/\F 15:=by
 rw[My] at hk;have ⟨r,hk⟩:=ft.mp hk;have ⟨hr,hk⟩:=ft.mp hk;have hk:=Classical.not_not.mp hk;have hnx:=hn _ h.x;have k:=h.clo g hg ((bx g.1 r).map λv=>if v=1 then 10 else eO 10) (by rw[af,bH]) λt ht=>by
  obtain ⟨v,_,rfl⟩:=cf.mp ht;split
  . exact h.x
  . exact hnx
 have e:cJ g.2 ((bx g.1 r).map λv=>if v=1 then 10 else eO 10) 4=tab 4 λ_=>ak g.2 (r:Nat):=by
  refine eF λρ hρ=>?_;rw[de];rcases aM 10 ρ with z | z
  . have:(bx g.1 r).map ((λt=>ak t (ρ:Nat))∘λv=>if v=1 then 10 else eO 10)=rW (bx g.1 r):=by
     refine cn λv hv=>?_;show ak (if v=1 then 10 else eO 10) (ρ:Nat)=1 - v;rcases j9 hv with e | e
     . rw[e,if_neg (by decide),zH hρ,z]
     . rw[e,if_pos rfl,z];rfl
    rw[this,yc,bH,cL hr,hk]
  . have:(bx g.1 r).map ((λt=>ak t (ρ:Nat))∘λv=>if v=1 then 10 else eO 10)=bx g.1 r:=by
     refine (cn λv hv=>?_).trans (tN _);show ak (if v=1 then 10 else eO 10) (ρ:Nat)=v;rcases j9 hv with e | e
     . rw[e,if_neg (by decide),zH hρ,z];rfl
     . rw[e,if_pos rfl,z]
    rw[this,cL hr]
 rw[e] at k;rcases aM g.2 r with z | z
 . rw[z,tab0] at k;exact ⟨k,by have:=hn _ k;rwa [show eO 0=15 by decide] at this⟩
 . rw[z,acE] at k;exact ⟨by have:=hn _ k;rwa [show eO 15=0 by decide] at this,k⟩
theorem afx:ak 0 (r:Nat)=0:=by rw[ak,AE];rfl
theorem aej(h:r<4):ak 15 (r:Nat)=1:=by
 have:∀r<4,ak 15 ((r:Nat):Int)=1:=by decide
 exact this r h
noncomputable def cst(v:Int):Int:=if v=1 then 15 else 0
theorem aaL(h:v=0\/v=1)(hr:r<4):ak (cst v) (r:Nat)=v:=by
 unfold cst;rcases h with rfl | rfl
 . rw[if_neg (by decide),afx]
 . rw[if_pos rfl,aej hr]
theorem Dg(h0:F 0)(h1:F 15)(v:Int):F (cst v):=by
 unfold cst;split
 . exact h1
 . exact h0
theorem pq(h:bO xs)(hr:r<4):(xs.map cst).map (λt=>ak t (r:Nat))=xs:=by
 rw[de];exact (cn λv hv=>aaL (h v hv) hr).trans (tN _)
theorem Fam.Vw(h:Fam gs F)(h0:F 0)(h1:F 15)(hg:g∈gs)(hk:¬ Kp g.2 2 [0,2,3] g.1):∀t,F t->F (eO t):=by
 rw[FN] at hk;have ⟨r,hk⟩:=ft.mp hk;have ⟨k,hk⟩:=ft.mp hk;have ⟨hr,hk⟩:=ft.mp hk;have ⟨hkm,hk⟩:=ft.mp hk;have b1:=aM g.2 r;have b2:=aM g.2 ((r ||| 2^k:Nat));have v1:ak g.2 (r:Nat)=1:=by lia
 have v2:ak g.2 ((r ||| 2^k:Nat))=0:=by lia
 have hlt:=sm hr (ly (by decide) hkm);have ek:(bx g.1 r).getD k 0=0:=by
  rcases zW (bO.bx) k with z | z
  . exact z
  . exfalso
    have:bx g.1 (r ||| 2^k)=bx g.1 r:=by
     rw[Ga hkm];refine sd λi=>?_;rw[xk]
     by_cases e:k=i
     . subst e;rw[if_pos rfl,if_pos (by rw[bH];exact hkm)];rw[ae,av (by rw[bH];exact hkm)] at z;rw[av (by rw[bH];exact hkm)];exact congrArg some z.symm
     . rw[if_neg e]
    have:=congrArg aX this;rw[cL hlt,cL hr] at this;rw[this] at v2;lia
 have es:(bx g.1 r).set k 0=bx g.1 r:=by
  refine sd λi=>?_;rw[xk]
  by_cases e:k=i
  . subst e;rw[if_pos rfl,if_pos (by rw[bH];exact hkm)];rw[ae,av (by rw[bH];exact hkm)] at ek;rw[av (by rw[bH];exact hkm)];exact congrArg some ek.symm
  . rw[if_neg e]
 intro t ht;have kk:=h.clo g hg (((bx g.1 r).map cst).set k t) (by rw[fx,af,bH]) λu hu=>by
  rcases List.mem_or_eq_of_mem_set hu with z | z
  . obtain ⟨v,_,rfl⟩:=cf.mp z;exact Dg h0 h1 v
  . rw[z];exact ht
 have e:cJ g.2 (((bx g.1 r).map cst).set k t) 4=eO t:=by
  refine eF λρ hρ=>?_;rw[List.map_set,pq bO.bx hρ];rcases aM t ρ with z | z
  . rw[z,es,cL hr,v1];rfl
  . rw[z,<- Ga hkm,cL hlt,v2];rfl
 rwa [e] at kk
noncomputable def Et(b:Int)(pre mid suf:B3):Int:=ak b (aX (pre++0::(mid++0::suf)))+ak b (aX (pre++1::(mid++0::suf)))+ak b (aX (pre++0::(mid++1::suf)))+ak b (aX (pre++1::(mid++1::suf)))
theorem J9(k:Nat)(ys:B3):ax (k+1) (0:Int)++ys=ax k 0++0::ys:=by
 rw[tJ,d6];rfl
theorem adZ(k:Nat):bO (ax k 0):=λx hx=>.inl (lp hx)
theorem J1(h:∀pre mid suf:B3,bO pre->bO mid->bO suf->pre.length+mid.length+suf.length+2=m->Et b pre mid suf % 2=0)(k:Nat):∀(ys:B3) (j:Nat),bO ys->k+1+j+ys.length=m ->
 (ak b (aX (ax k 0++1::(ax j 0++ys)))+ak b (aX (ax k 0++0::(ax j 0++ys)))) % 2=(ak b (aX (ax k 0++1::ax (j+ys.length) 0))+ak b (aX (ax k 0++0::ax (j+ys.length) 0))) % 2
 | [],j,_,_=>by rw[dA];rfl
 | y::ys,j,hy,hl=>by
  rw[bt] at hl;have ih:=J1 h k ys (j+1) hy.tail (by lia);rw[J9,show j+1+ys.length=j+(y::ys).length by rw[bt];lia] at ih;rcases hy y bX with rfl | rfl
  . exact ih
  . have d:=h (ax k 0) (ax j 0) ys (adZ k) (adZ j) hy.tail (by rw[ck,ck];lia);unfold Et at d;rw[<- ih];lia
theorem Ao(h:∀pre mid suf:B3,bO pre->bO mid->bO suf->pre.length+mid.length+suf.length+2=m->Et b pre mid suf % 2=0):Kp b 4 iz m:=by
 have up:∀(xs:B3) (k:Nat),bO xs->k+xs.length=m->ak b (aX (ax k 0++xs)) % 2=(ak b 0+g8 b k xs) % 2:=by
  intro xs
  induction xs with
  | nil=>
   intro k _ _;rw[dA,iT];show _=(ak b 0+0) % 2;lia
  | cons x xs ih=>
   intro k hx hl;rw[bt] at hl;have ih:=ih (k+1) hx.tail (by lia);rw[J9] at ih;show _=(ak b 0+(x*wgt b k+g8 b (k+1) xs)) % 2;rcases hx x bX with rfl | rfl
   . rw[ih];lia
   . have d:=J1 h k xs 0 hx.tail (by lia);rw[mi,fe,AJ] at d;have g0:∀(k:Nat) (ys:B3),aX (ax k 0++ys)=2^k*aX ys:=λk ys=>by
      induction k with
      | zero=>rw[mi,fe];lia
      | succ k ih=>rw[fo,gL,cZ,ih,ll,si (2^k) 2,p9];lia
     rw[show aX (ax k 0++1::ax xs.length 0)=2^k by rw[g0,cZ,iT];lia,show aX (ax k 0++0::ax xs.length 0)=0 by rw[g0,cZ,iT];lia] at d;unfold wgt;lia
 rw[FZ];intro r hr;have k:=up (bx m r) 0 bO.bx (by rw[bH];lia);rw[mi,fe,cL hr,<- vX] at k;have:=aM b r;lia
theorem Fam.odd(h:Fam gs F)(h0:F 0)(h1:F 15)(hg:g∈gs)(hk:¬ Kp g.2 4 iz g.1):∃H:Int->Int->Int,(∀a b,H a b=0\/H a b=1)/\(H 0 0+H 1 0+H 0 1+H 1 1) % 2=1/\∀p q,F p->F q->F (tab 4 λr=>H (ak p (r:Nat)) (ak q (r:Nat))):=by
 have hk:=λz=>hk (Ao z);have ⟨pre,hk⟩:=ft.mp hk;have ⟨mid,hk⟩:=ft.mp hk;have ⟨suf,hk⟩:=ft.mp hk;have ⟨a1,hk⟩:=ft.mp hk;have ⟨a2,hk⟩:=ft.mp hk;have ⟨a3,hk⟩:=ft.mp hk;have ⟨hl,hk⟩:=ft.mp hk;refine ⟨λa b=>ak g.2 (aX (pre++a::(mid++b::suf))),λ_ _=>aM _ _,?_,λp q hp hq=>?_⟩
 . unfold Et at hk;show (ak g.2 (aX (pre++0::(mid++0::suf)))+ak g.2 (aX (pre++1::(mid++0::suf)))+ak g.2 (aX (pre++0::(mid++1::suf)))+ak g.2 (aX (pre++1::(mid++1::suf)))) % 2=1;lia
 . have k:=h.clo g hg (pre.map cst++p::(mid.map cst++q::suf.map cst)) (by simp;lia) λt ht=>by
    simp only[cE,cp,cf] at ht;rcases ht with ⟨v,_,rfl⟩ | rfl | ⟨v,_,rfl⟩ | rfl | ⟨v,_,rfl⟩
    . exact Dg h0 h1 v
    . exact hp
    . exact Dg h0 h1 v
    . exact hq
    . exact Dg h0 h1 v
   have e:cJ g.2 (pre.map cst++p::(mid.map cst++q::suf.map cst)) 4=tab 4 λr=>ak g.2 (aX (pre++ak p (r:Nat)::(mid++ak q (r:Nat)::suf))):=by
    refine eF λr hr=>?_;rw[a7,a8,a7,a8,pq a1 hr,pq a2 hr,pq a3 hr]
   rwa [e] at k
theorem Fam.and(hn:∀t,F t->F (eO t)){H:Int->Int->Int}(h01:∀a b,H a b=0\/H a b=1)(ho:(H 0 0+H 1 0+H 0 1+H 1 1) % 2=1)(hc:∀p q,F p->F q->F (tab 4 λr=>H (ak p (r:Nat)) (ak q (r:Nat)))):∀p q,F p->F q->F (uT p q):=by
 intro p q hp hq;have go:∀(n1 n2 n3:Bool),(∀a b:Int,(a=0\/a=1)->(b=0\/b=1)->(if n3=true then 1 - H (if n1=true then 1 - a else a) (if n2=true then 1 - b else b) else H (if n1=true then 1 - a else a) (if n2=true then 1 - b else b))=a*b)->F (uT p q):=λn1 n2 n3 hh=>by
  have hp':F (if n1=true then eO p else p):=by split;(· exact hn p hp);exact hp
  have hq':F (if n2=true then eO q else q):=by split;(· exact hn q hq);exact hq
  have k:=hc _ _ hp' hq';have bp:∀r:Nat,r<4->ak (if n1=true then eO p else p) (r:Nat)=if n1=true then 1 - ak p (r:Nat) else ak p (r:Nat):=λr hr=>by
   split
   . exact zH hr
   . rfl
  have bq:∀r:Nat,r<4->ak (if n2=true then eO q else q) (r:Nat)=if n2=true then 1 - ak q (r:Nat) else ak q (r:Nat):=λr hr=>by
   split
   . exact zH hr
   . rfl
  have e:(tab 4 λr=>H (ak (if n1=true then eO p else p) (r:Nat)) (ak (if n2=true then eO q else q) (r:Nat)))=tab 4 λr=>H (if n1=true then 1 - ak p (r:Nat) else ak p (r:Nat)) (if n2=true then 1 - ak q (r:Nat) else ak q (r:Nat)):=eF λr hr=>by rw[bp r hr,bq r hr]
  rw[e] at k
  cases n3 with
  | false=>
   have:(tab 4 λr=>H (if n1=true then 1 - ak p (r:Nat) else ak p (r:Nat)) (if n2=true then 1 - ak q (r:Nat) else ak q (r:Nat)))=uT p q:=eF λr _=>by
    have:=hh _ _ (aM p r) (aM q r);rwa [if_neg (by decide)] at this
   rwa [this] at k
  | true=>
   have k:=hn _ k;have:eO (tab 4 λr=>H (if n1=true then 1 - ak p (r:Nat) else ak p (r:Nat)) (if n2=true then 1 - ak q (r:Nat) else ak q (r:Nat)))=uT p q:=by
    refine eF λr hr=>?_;rw[gB (λr=>h01 _ _) hr];have:=hh _ _ (aM p r) (aM q r);rwa [if_pos rfl] at this
   rwa [this] at k
 have fill:∀(n1 n2 n3:Bool) (c00 c10 c01 c11:Int),H 0 0=c00->H 1 0=c10->H 0 1=c01->H 1 1=c11 ->
  ((if n3=true then 1 - (if n1=true then (if n2=true then c11 else c10) else (if n2=true then c01 else c00)) else (if n1=true then (if n2=true then c11 else c10) else (if n2=true then c01 else c00)))=0) ->
  ((if n3=true then 1 - (if n1=true then (if n2=true then c01 else c00) else (if n2=true then c11 else c10)) else (if n1=true then (if n2=true then c01 else c00) else (if n2=true then c11 else c10)))=0) ->
  ((if n3=true then 1 - (if n1=true then (if n2=true then c10 else c11) else (if n2=true then c00 else c01)) else (if n1=true then (if n2=true then c10 else c11) else (if n2=true then c00 else c01)))=0) ->
  ((if n3=true then 1 - (if n1=true then (if n2=true then c00 else c01) else (if n2=true then c10 else c11)) else (if n1=true then (if n2=true then c00 else c01) else (if n2=true then c10 else c11)))=1)->F (uT p q):=by
  intro n1 n2 n3 c00 c10 c01 c11 e00 e10 e01 e11 k00 k10 k01 k11;refine go n1 n2 n3 λa b ha hb=>?_;cases n1 <;> cases n2 <;> cases n3 <;> rcases ha with rfl | rfl <;> rcases hb with rfl | rfl <;> simp[e10,e11] at k00 k10 k01 k11 ⊢ <;> lia
 rcases h01 0 0 with e00 | e00 <;> rcases h01 1 0 with e10 | e10 <;> rcases h01 0 1 with e01 | e01 <;> rcases h01 1 1 with e11 | e11 <;> rw[e00,e10,e01,e11] at ho <;> first
  | exact absurd ho (by decide)
  | exact fill false false false _ _ _ _ e00 e10 e01 e11 (by decide) (by decide) (by decide) (by decide)
  | exact fill false false true _ _ _ _ e00 e10 e01 e11 (by decide) (by decide) (by decide) (by decide)
  | exact fill false true false _ _ _ _ e00 e10 e01 e11 (by decide) (by decide) (by decide) (by decide)
  | exact fill false true true _ _ _ _ e00 e10 e01 e11 (by decide) (by decide) (by decide) (by decide)
  | exact fill true false false _ _ _ _ e00 e10 e01 e11 (by decide) (by decide) (by decide) (by decide)
  | exact fill true false true _ _ _ _ e00 e10 e01 e11 (by decide) (by decide) (by decide) (by decide)
  | exact fill true true false _ _ _ _ e00 e10 e01 e11 (by decide) (by decide) (by decide) (by decide)
  | exact fill true true true _ _ _ _ e00 e10 e01 e11 (by decide) (by decide) (by decide) (by decide)
theorem Fam.full(h:Fam gs F)(k1:∃g∈gs,¬ Kp g.2 1 [0] g.1)(k2:∃g∈gs,¬ Kp g.2 1 [1] g.1)(k3:∃g∈gs,¬ Kp g.2 2 [1,2] g.1)(k4:∃g∈gs,¬ Kp g.2 2 [0,2,3] g.1)(k5:∃g∈gs,¬ Kp g.2 4 iz g.1):∀n:Nat,n<16->F (n:Nat):=by
 have base:(F 0/\F 15)/\∀t,F t->F (eO t):=by
  obtain ⟨g0,m0,h0⟩:=k1;obtain ⟨g1,m1,h1⟩:=k2;obtain ⟨g3,m3,h3⟩:=k3;obtain ⟨g4,m4,h4⟩:=k4;rw[T6] at h0;rw[N5] at h1;have a0:ak g0.2 0=1:=by have:=aM g0.2 0;lia
  have a1:ak g1.2 (2^g1.1 - 1)=0:=by have:=aM g1.2 (2^g1.1 - 1);lia
  by_cases c0:ak g0.2 (2^g0.1 - 1)=0
  . have hn:∀t,F t->F (eO t):=λt ht=>h.not_of m0 a0 c0 ht;exact ⟨h.CV hn m3 h3,hn⟩
  . by_cases c1:ak g1.2 0=1
    . have hn:∀t,F t->F (eO t):=λt ht=>h.not_of m1 c1 a1 ht;exact ⟨h.CV hn m3 h3,hn⟩
    . have d0:ak g0.2 (2^g0.1 - 1)=1:=by have:=aM g0.2 (2^g0.1 - 1);lia
      have d1:ak g1.2 0=0:=by have:=aM g1.2 0;lia
      have f15:=h.IV m0 a0 d0;have f0:=h.IV m1 d1 a1;rw[acE] at f15;rw[tab0] at f0;exact ⟨⟨f0,f15⟩,h.Vw f0 f15 m4 h4⟩
 obtain ⟨⟨f0,f15⟩,hn⟩:=base;obtain ⟨g5,m5,h5⟩:=k5;obtain ⟨H,h01,ho,hc⟩:=h.odd f0 f15 m5 h5;have ha:=Fam.and hn h01 ho hc;have f10:=h.x;have f12:=h.y;have f5:=by have:=hn _ f10;rwa [show eO 10=5 by decide] at this
 have f3:=by have:=hn _ f12;rwa [show eO 12=3 by decide] at this
 have f8:=by have:=ha _ _ f10 f12;rwa [show uT 10 12=8 by decide] at this
 have f2:=by have:=ha _ _ f10 f3;rwa [show uT 10 3=2 by decide] at this
 have f4:=by have:=ha _ _ f5 f12;rwa [show uT 5 12=4 by decide] at this
 have f1:=by have:=ha _ _ f5 f3;rwa [show uT 5 3=1 by decide] at this
 have f7:=by have:=hn _ f8;rwa [show eO 8=7 by decide] at this
 have f13:=by have:=hn _ f2;rwa [show eO 2=13 by decide] at this
 have f11:=by have:=hn _ f4;rwa [show eO 4=11 by decide] at this
 have f14:=by have:=hn _ f1;rwa [show eO 1=14 by decide] at this
 have f6:=by have:=ha _ _ f7 f14;rwa [show uT 7 14=6 by decide] at this
 have f9:=by have:=hn _ f6;rwa [show eO 6=9 by decide] at this
 intro n hn';have:n=0\/n=1\/n=2\/n=3\/n=4\/n=5\/n=6\/n=7\/n=8\/n=9\/n=10\/n=11\/n=12\/n=13\/n=14\/n=15:=by lia
 rcases this with rfl | rfl | rfl | rfl | rfl | rfl | rfl | rfl | rfl | rfl | rfl | rfl | rfl | rfl | rfl | rfl <;> assumption
theorem two_list(h:c.length=2):∃a b,c=[a,b]:=by
 match c,h with
 | [a,b],_=>exact ⟨a,b,rfl⟩
theorem aef{a:Int}(h0:0<=a)(h1:a<2^w):cJ 10 [a,b] w=a:=by
 refine Iu (λ_=>aM _ _) h0 h1 λj _=>?_;show ak 10 (aX [ak a (j:Nat),ak b (j:Nat)])=_;rcases aM a j with z | z <;> rcases aM b j with y | y <;> rw[z,y] <;> rfl
theorem aeq(h0:0<=b)(h1:b<2^w):cJ 12 [x,b] w=b:=by
 refine Iu (λ_=>aM _ _) h0 h1 λj _=>?_;show ak 12 (aX [ak x (j:Nat),ak b (j:Nat)])=_;rcases aM x j with z | z <;> rcases aM b j with y | y <;> rw[z,y] <;> rfl
theorem ZX(h:c.length=2):cJ (cJ b ts 4) c w=cJ b (ts.map λt=>cJ t c w) w:=by
 refine eF λj hj=>?_;obtain ⟨r,hr,er,_⟩:=DQ (IK c j);rw[af,h] at hr;rw[er,show ak (cJ b ts 4) (r:Nat)=ak b (aX (ts.map λt=>ak t (r:Nat))) from gB (λ_=>aM _ _) hr,de];congr 2;refine cn λt _=>?_;show _=ak (cJ t c w) (j:Nat);rw[show ak (cJ t c w) (j:Nat)=ak t (aX (col c j)) from gB (λ_=>aM _ _) hj,er]
theorem Reach.kept(hrs:∀x∈rs,0<=x/\x<2^w)(hk:∀g∈gs,Kp g.2 w rs g.1)(h:Reach gs 4 [10,12] t):Kp t w rs 2:=by
 refine h (λt=>Kp t w rs 2) (λr hr=>?_) λg hg c hl hc=>?_
 . intro c h1 h2;obtain ⟨a,b,rfl⟩:=two_list h1;have ha:=h2 a (by simp);have hb:=h2 b (by simp);have hr:=by simpa using hr
   rcases hr with rfl | rfl
   . rw[aef (hrs a ha).1 (hrs a ha).2];exact ha
   . rw[aeq (hrs b hb).1 (hrs b hb).2];exact hb
 . intro d h1 h2;rw[ZX h1];refine hk g hg _ (by rw[af,hl]) λx hx=>?_;obtain ⟨t,ht,rfl⟩:=cf.mp hx;exact hc t ht d h1 h2
end
inductive qH (n:Nat):ab->(Nat->Int)->Nat->Nat->Prop
 | inp {i:Nat} (hi:i<n):qH n (.int (i:Nat)) (λr=>ak (r:Nat) (i:Nat)) 0 0
 | not {d:ab}{v:Nat->Int}{w k:Nat} (h:qH n d v w k):qH n (dT 1 1 [d]) (λr=>1 - v r) (w+3) (k+1)
 | wR {d e:ab}{v u:Nat->Int}{w x k l:Nat} (h:qH n d v w k) (h':qH n e u x l):qH n (dT 2 7 [d,e]) (λr=>1 - v r*u r) (w+x+16) (max k l+1)
noncomputable def wt(s:aC):Nat:=if s.m=1 then 3 else 16
noncomputable def stW(ss:List aC):Nat:=(ss.map wt).sum
def NNs(ss:List aC):Prop:=∀s∈ss,(s.m=1/\s.b=1)\/(s.m=2/\s.b=7)
variable {a:List aC}
theorem NNs.app(h:NNs a)(h':NNs ss):NNs (a++ss):=λs hs=>(cE.mp hs).elim (h s) (h' s)
theorem uZ{b:List aC}:stW (a++b)=stW a+stW b:=by unfold stW;rw[a7,qh]
theorem qH.v01{d:ab}{v:Nat->Int}(h:qH j d v w W):∀r,v r=0\/v r=1:=by
 induction h with
 | inp hi=>exact λr=>aM _ _
 | not h ih=>exact λr=>by rcases ih r with z | z <;> simp only[z] <;> decide
 | wR h h' i1 i2=>exact λr=>by rcases i1 r with z | z <;> rcases i2 r with y | y <;> simp only[z,y] <;> decide
theorem Zu(h:x=0\/x=1):ak 1 (aX [x])=1 - x:=by
 rcases h with rfl | rfl <;> decide
theorem Wb{y:Int}(h:x=0\/x=1)(h':y=0\/y=1):ak 7 (aX [x,y])=1 - x*y:=by
 rcases h with rfl | rfl <;> rcases h' with rfl | rfl <;> decide
theorem qH.ok{d:ab}{v:Nat->Int}(h:qH j d v w W):∀K,W<=K->nU j K d/\(∀r,JP r K d=v r)/\∀AL,∃more,(dO j K AL d).1=AL++more/\NNs more/\stW more<=w:=by
 induction h with
 | inp hi=>exact λK _=>⟨nU.inp hi,λr=>Ji,λAL=>⟨[],by rw[Aw,dA],(λs hs=>by cases hs),ay _⟩⟩
 | @not d v w W h ih=>
  intro K hK;obtain ⟨K,rfl⟩:∃K',K=K'+1:=⟨K - 1,by lia⟩;obtain ⟨i1,i2,i3⟩:=ih K (by lia);refine ⟨.inr ⟨1,1,[d],by decide,by decide,by decide,rfl,rfl,λe he=>by rw[aI.mp he];exact i1⟩,λr=>?_,λAL=>?_⟩
  . rw[yx,a8,fv,i2 r];exact Zu (h.v01 r)
  . obtain ⟨more,e,h1,h2⟩:=i3 AL;rw[ur,show fM (dO j K) AL [d]=((dO j K AL d).1,[(dO j K AL d).2]) from rfl,e];exact ⟨more++[⟨1,1,[(dO j K AL d).2]⟩],d6 _ _ _,h1.app λs hs=>by rw[aI.mp hs];exact .inl ⟨rfl,rfl⟩,by rw[uZ];show stW more+3<=_;lia⟩
 | @wR d e v u w x W l h h' i i'=>
  intro K hK;obtain ⟨K,rfl⟩:∃K',K=K'+1:=⟨K - 1,by lia⟩;obtain ⟨i1,i2,i3⟩:=i K (by lia);obtain ⟨j1,j2,j3⟩:=i' K (by lia);refine ⟨.inr ⟨2,7,[d,e],by decide,by decide,by decide,rfl,rfl,λf hf=>?_⟩,λr=>?_,λAL=>?_⟩
  . rcases cp.mp hf with rfl | hf
    . exact i1
    . rw[aI.mp hf];exact j1
  . rw[yx,a8,a8,fv,i2 r,j2 r];exact Wb (h.v01 r) (h'.v01 r)
  . obtain ⟨m1,e1,h1,h2⟩:=i3 AL;obtain ⟨m2,e2,h3,h4⟩:=j3 (dO j K AL d).1;rw[ur,show fM (dO j K) AL [d,e]=((dO j K (dO j K AL d).1 e).1,[(dO j K AL d).2,(dO j K (dO j K AL d).1 e).2]) from rfl,e2,e1];exact ⟨m1++(m2++[⟨2,7,_⟩]),by rw[d6,d6],h1.app (h3.app λs hs=>by rw[aI.mp hs];exact .inr ⟨rfl,rfl⟩),by rw[uZ,uZ];show stW m1+(stW m2+16)<=_;lia⟩
def gR(n:Nat)(d:ab)(u:Nat->Int)(x l:Nat):Prop:=∃v w k,qH n d v w k/\(∀r,v r=u r)/\w<=x/\k<=l
theorem gR.inp{n i:Nat}(hi:i<n):gR n (.int (i:Nat)) (λr=>ak (r:Nat) (i:Nat)) 0 0:=⟨_,_,_,.inp hi,λ_=>rfl,ay _,ay _⟩
variable {u:Nat->Int}
theorem gR.ext{d:ab}{v:Nat->Int}(h:gR j d u W i)(e:∀r,u r=v r)(hx:W<=p)(hl:i<=m):gR j d v p m:=by
 obtain ⟨v',w,k,h1,h2,h3,h4⟩:=h;exact ⟨v',w,k,h1,λr=>(h2 r).trans (e r),by lia,by lia⟩
theorem gR.wR{n:Nat}{d e:ab}{u v:Nat->Int}{x y l m:Nat}(h:gR n d u x l)(h':gR n e v y m):gR n (dT 2 7 [d,e]) (λr=>1 - u r*v r) (x+y+16) (max l m+1):=by
 obtain ⟨v1,w1,k1,a1,a2,a3,a4⟩:=h;obtain ⟨v2,w2,k2,b1,b2,b3,b4⟩:=h';exact ⟨_,_,_,.wR a1 b1,λr=>by simp only[a2 r,b2 r],by lia,by lia⟩
theorem lC{d:ab}(h:gR j d u W p):∃e,cO [d]= .ok e/\gR j e (λr=>1 - u r) (W+3) (p+1):=by
 obtain ⟨v,w,k,a1,a2,a3,a4⟩:=h;have ne:∀{d:ab},cO [d]= .ok (dT 1 1 [d])->qH j d v w k->∃e,cO [d]= .ok e/\gR j e (λr=>1 - u r) (W+3) (p+1):=λe a=>⟨_,e,_,_,_,.not a,λr=>by simp only[a2 r],by lia,by lia⟩
 cases a1 with
 | @inp i hi=>
  refine ne ?_ (.inp hi);unfold cO;ext;rw[vm];ext;rfl
 | @not d v' w' k' a=>
  refine ⟨d,?_,v',w',k',a,λr=>?_,by lia,by lia⟩
  . unfold cO dT;ext;rw[pA];ext;rw[show eqD (dG 1 1) gA= .ok (.bool true) by unfold gA;exact HR];ext
  . have:1 - v' r=u r:=a2 r;show v' r=1 - u r;lia
 | @wR d e v1 v2 w1 w2 k1 k2 a b=>
  refine ne ?_ (.wR a b);unfold cO dT;ext;rw[pA];ext;rw[show eqD (dG 2 7) gA= .ok (.bool false) by unfold gA;exact HR];ext;rfl
theorem Vd:bx j (r % 2^j)=bx j r:=by
 have h:=uC (xs:=bx j r) λx hx=>j9 hx;rwa [bH,uQ,cx] at h
theorem J6(hw:x=0\/x=1)(h:((r / 2^j % 2:Nat):Int)=x):ak (eV j t j x) ((r % 2^j:Nat):Int)=ak t ((r % 2^(j+1):Nat):Int):=by
 rw[YJ hw (AG _ (xl (by decide))),Vd];have e:lz j x (bx j r)=bx (j+1) r:=by
  rw[lz,uK,h,ij (by rw[bH];exact ay _),zk (by rw[bH];exact ay _)]
 rw[e,uQ]
theorem Kq:ak (r:Nat) (j:Nat)=((r / 2^j % 2:Nat):Int):=by
 rw[ak,cx,Int.natCast_emod,Int.natCast_ediv,ny];rfl
theorem PQ{r:Int}:ak 0 r=0:=by rw[ak,AE];rfl
noncomputable def wN:Nat->Nat
 | 0=>0
 | 1=>9
 | n+2=>2*wN (n+1)+51
theorem ad4:∀n,wN n<=wN (n+1)
 | 0=>by decide
 | n+1=>by rw[show wN (n+1+1)=2*wN (n+1)+51 from rfl];lia
theorem abb{n:Nat}{p:Prop}[Decidable p](hwy:j<=3)(h:n=0->¬ p):(if p then j+wN n+16 else j+3)+3<=wN (n+1):=by
 match n with
 | 0=>
  rw[if_neg (h rfl)];show j+3+3<=9;lia
 | n+1=>
  rw[show wN (n+1+1)=2*wN (n+1)+51 from rfl];split <;> lia
theorem aaG{n:Nat}{p q:Prop}[Decidable p][Decidable q](h:n≠0):(if p then 0+3+wN n+16 else 0+3+3)+(if q then 0+wN n+16 else 0+3)+16<=wN (n+1):=by
 match n with
 | 0=>exact absurd rfl h
 | n+1=>
  rw[show wN (n+1+1)=2*wN (n+1)+51 from rfl];split <;> split <;> lia
theorem TJ{there:ab}(hn:W<=3)(h0:0<=t)(h1:t<2^2^W)(hy:gR j there u p m)
 (ih:0<t->t<2^2^W - 1->∃d,cP w [dG W t]= .ok d/\gR j d (λr=>ak t ((r % 2^W:Nat):Int)) (wN W) (3*W)) :
 ∃ds,sX (cP w) [dG W t,there]= .ok (.list ds)/\((t=0/\ds=[])\/(t≠0/\∃d,ds=[d]/\gR j d (λr=>1 - u r*ak t ((r % 2^W:Nat):Int)) (if t<2^2^W - 1 then p+wN W+16 else p+3) (max m (3*W)+1))):=by
 unfold sX
 by_cases ht0:t=0
 . subst ht0;refine ⟨[],?_,.inl ⟨rfl,rfl⟩⟩;ext
 . by_cases hf:t<2^2^W - 1
   . obtain ⟨d,e,hd⟩:=ih (by lia) hf;refine ⟨[dT 2 7 [there,d]],?_,.inr ⟨ht0,_,rfl,?_⟩⟩
     . ext;rw[decide_eq_false ht0];ext;rw[il (by lia)];ext;rw[decide_eq_false (by lia)];ext;rw[e];ext;rfl
     . rw[if_pos hf];exact (hy.wR hd).ext (λ_=>rfl) (ay _) (ay _)
   . have ht:t=2^2^W - 1:=by lia
     obtain ⟨o,eo,ho⟩:=lC hy;refine ⟨[o],?_,.inr ⟨ht0,_,rfl,?_⟩⟩
     . ext;rw[decide_eq_false ht0];ext;rw[il (by lia)];ext;rw[decide_eq_true ht];ext;rw[eo];ext
     . rw[if_neg hf];refine ho.ext (λr=>?_) (ay _) (by lia);have:ak t ((r % 2^W:Nat):Int)=1:=by
        rw[ht];have e1:(2:Int)^2^W - 1=tab (2^W) λ_=>1:=by rw[mW,wx]
        rw[e1];exact gB (λ_=>.inr rfl) (AG _ (xl (by decide)))
       rw[this,wx]
theorem sW:cP (j+1) ds=fnR 5 (aJ (aW 1 (ao jt (ao AX (aj 0) (eC (.int 0))) (eC (.int 1))))
 (aJ (aW 2 (aO jA [(aj 0),(aj 1),(eC (.int 0))]))
 (aJ (aW 3 (aO jA [(aj 0),(aj 1),(eC (.int 1))]))
 (aJ (sIf (ao eqD (aj 2) (aj 3)) (bF (aO (cP j) [(aj 2)])) cQ)
 (aJ (aW 4 (ao dz (aO (sX (cP j)) [(aj 2),(aO cO [(aj 1)])]) (aO (sX (cP j)) [(aj 3),(aj 1)])))
 (aJ (sIf (ao eqD (eFn gQ [(aj 4)]) (eC (.int 1))) (bF (aO cO [(ao AX (aj 4) (eC (.int 0)))])) cQ)
 (bF (bN [(eC d9),(eFn gO [(aj 4)])])))))))) ds:=rfl
theorem Fg{N:Nat}:∀(n fu:Nat) (t:Int),n<=4->n<=N->n<=fu->0<t->t<2^2^n - 1->∃d,cP fu [dG n t]= .ok d/\gR N d (λr=>ak t ((r % 2^n:Nat):Int)) (wN n) (3*n)
 | 0,fu,t,_,_,_,h0,h1=>by
  have h1:=h1;lia
 | n+1,0,t,_,_,hfu,_,_=>by lia
 | n+1,fu+1,t,hn,hN,hfu,h0,h1=>by
  have lt:=λw=>acb n t n w;have nn:=λw=>Qa n t n w;have xv:∀r:Nat,ak (r:Nat) (n:Nat)=0\/ak (r:Nat) (n:Nat)=1:=λr=>aM _ _;have hb0:∀r:Nat,ak (r:Nat) (n:Nat)=0->ak t ((r % 2^(n+1):Nat):Int)=ak (eV n t n 0) ((r % 2^n:Nat):Int):=λr h=>(J6 (.inl rfl) (by rw[<- Kq];exact h)).symm;have hb1:∀r:Nat,ak (r:Nat) (n:Nat)=1->ak t ((r % 2^(n+1):Nat):Int)=ak (eV n t n 1) ((r % 2^n:Nat):Int):=λr h=>(J6 (.inr rfl) (by rw[<- Kq];exact h)).symm;rw[sW];have e1:=Cz (b:=t) (j:=n) (by lia) (ay _) (.inl rfl);have e2:=Cz (b:=t) (j:=n) (by lia) (ay _) (.inr rfl);have n1:((n+1:Nat):Int) - 1=((n:Nat):Int):=by lia
  by_cases hlh:eV n t n 0=eV n t n 1
  . have both:∀r:Nat,ak t ((r % 2^(n+1):Nat):Int)=ak (eV n t n 0) ((r % 2^n:Nat):Int):=λr=>by
     rcases xv r with h | h
     . exact hb0 r h
     . rw[hb1 r h,hlh]
    have ext2:∀v:Int,(∀r:Nat,ak (eV n t n 0) ((r % 2^n:Nat):Int)=v)->t=(2^2^(n+1) - 1)*v:=λv hv=>by
     have e0:tab (2^(n+1)) (λr=>ak t (r:Nat))=t:=Iu (λr=>aM _ _) (by lia) (by lia) λr _=>rfl;rw[<- e0,<- mW];exact eF λr hr=>by
      have:=both r;rw[yn hr] at this;rw[this,hv r]
    have a0:eV n t n 0≠0:=λz=>by
     have:=ext2 0 λr=>by rw[z];rw[ak,AE];rfl
     lia
    have a1:eV n t n 0<2^2^n - 1:=by
     have:=lt 0;refine fF λz=>?_;have hz:eV n t n 0=2^2^n - 1:=by lia
     have:=ext2 1 λr=>by
      have e1:(2:Int)^2^n - 1=tab (2^n) λ_=>1:=by rw[mW,wx]
      rw[hz,e1];exact gB (λ_=>.inr rfl) (AG _ (xl (by decide)))
     lia
    obtain ⟨d,e,hd⟩:=Fg (N:=N) n fu (eV n t n 0) (by lia) (by lia) (by lia) (by have:=nn 0;lia) a1;refine ⟨d,?_,hd.ext (λr=>(both r).symm) ?_ (by lia)⟩
    . ext;rw[n1,e1];ext;rw[e2];ext;rw[decide_eq_true hlh];ext;rw[e];rfl
    . exact ad4 n
  . obtain ⟨o,eo,ho⟩:=lC (gR.inp (n:=N) (i:=n) (by lia));have ih:∀w:Int,0<eV n t n w->eV n t n w<2^2^n - 1->∃d,cP fu [dG n (eV n t n w)]= .ok d/\gR N d (λr=>ak (eV n t n w) ((r % 2^n:Nat):Int)) (wN n) (3*n):=λw q1 q2=>Fg n fu _ (by lia) (by lia) (by lia) q1 q2;obtain ⟨da,ea,ha⟩:=TJ (by lia) (nn 0) (lt 0) ho (ih 0);obtain ⟨db,eb,hb⟩:=TJ (by lia) (nn 1) (lt 1) (gR.inp (i:=n) (by lia)) (ih 1);have go:∀{q:ab},(da.length+db.length=1->cO [(da++db).getD 0 .none]= .ok q)->(da.length+db.length≠1->q= .tuple [d9,.tuple (da++db)])->cP (fu+1) [dG (n+1) t]= .ok q:=λ{q} q1 q2=>by
     have hl:(da++db).length<=2:=by
      rcases ha with ⟨_,rfl⟩ | ⟨_,d,rfl,_⟩ <;> rcases hb with ⟨_,rfl⟩ | ⟨_,d',rfl,_⟩ <;> simp
     rw[sW];ext;rw[n1,e1];ext;rw[e2];ext;rw[decide_eq_false hlh];ext;rw[eo];ext;rw[ea];ext;rw[eb];ext;rw[t6 (ka (Bz (by rw[<- ai];lia)))];ext
     by_cases h1:da.length+db.length=1
     . rw[decide_eq_true (by rw[ai];lia)];ext;have hx:(da++db)[0]?=some ((da++db).getD 0 .none):=by
        rw[ae,av (by rw[ai];lia)];rfl
       rw[show AX (.list (da++db)) (.int 0)= .ok ((da++db).getD 0 .none) from jE (i:=0) hx];ext;rw[q1 h1];rfl
     . rw[decide_eq_false (by rw[ai];lia),q2 h1];ext
    rw[<- sW];have hz:n=0->∀w,eV n t n w≠0->eV n t n w=1/\¬ eV n t n w<2^2^n - 1:=λz w hw=>by
     subst z;have h1:eV 0 t 0 w<2:=lt w;have h2:=nn w;have h3:eV 0 t 0 w=1:=by lia
     exact ⟨h3,by rw[h3];decide⟩
    have hw:∀(w:Int) (wy:Nat),wy<=3->eV n t n w≠0->(if eV n t n w<2^2^n - 1 then wy+wN n+16 else wy+3)+3<=wN (n+1):=λw wy hwy h=>abb hwy λz=>(hz z w h).2;rcases ha with ⟨a0,rfl⟩ | ⟨a0,d,rfl,hd⟩
    . rcases hb with ⟨b0,rfl⟩ | ⟨b0,d',rfl,hd'⟩
      . exact absurd (a0.trans b0.symm) hlh
      . obtain ⟨q,eq,hq⟩:=lC hd';refine ⟨q,go (λ_=>eq) (λz=>absurd rfl z),hq.ext (λr=>?_) (hw 1 0 (by lia) b0) (by lia)⟩;rcases xv r with h | h
        . rw[hb0 r h,a0,h,PQ];lia
        . rw[hb1 r h,h];have:=aM (eV n t n 1) ((r % 2^n:Nat):Int);lia
    . rcases hb with ⟨b0,rfl⟩ | ⟨b0,d',rfl,hd'⟩
      . obtain ⟨q,eq,hq⟩:=lC hd;refine ⟨q,go (λ_=>eq) (λz=>absurd rfl z),hq.ext (λr=>?_) (hw 0 3 (by lia) a0) (by lia)⟩;rcases xv r with h | h
        . rw[hb0 r h,h];have:=aM (eV n t n 0) ((r % 2^n:Nat):Int);lia
        . rw[hb1 r h,b0,h,PQ];lia
      . refine ⟨dT 2 7 [d,d'],go (λz=>by cases z) (λ_=>rfl),(hd.wR hd').ext (λr=>?_) ?_ (by lia)⟩
        . have y0:=aM (eV n t n 0) ((r % 2^n:Nat):Int);have y1:=aM (eV n t n 1) ((r % 2^n:Nat):Int);rcases xv r with h | h
          . rw[hb0 r h,h];rcases y0 with z | z <;> rcases y1 with z' | z' <;> rw[z,z'] <;> decide
          . rw[hb1 r h,h];rcases y0 with z | z <;> rcases y1 with z' | z' <;> rw[z,z'] <;> decide
        . exact aaG λz=>hlh ((hz z 0 a0).1.trans (hz z 1 b0).1.symm)
theorem Lx(hn:j<=4)(hn1:1<=j)(h0:0<=t)(h1:t<2^2^j):∃d,pO [dG j t]= .ok d/\gR j d (λr=>ak t ((r % 2^j:Nat):Int)) 429 12:=by
 have hi:gR j (.int ((0:Nat):Int)) (λr=>ak (r:Nat) ((0:Nat):Int)) 0 0:=gR.inp (by lia);obtain ⟨o,eo,ho⟩:=lC hi;have eo:cO [.int 0]= .ok o:=eo;have hal:=hi.wR ho;have al1:∀r:Nat,1 - ak (r:Nat) ((0:Nat):Int)*(1 - ak (r:Nat) ((0:Nat):Int))=1:=λr=>by
  rcases aM r ((0:Nat):Int) with z | z <;> rw[z] <;> decide
 unfold pO
 by_cases hf:t=2^2^j - 1
 . refine ⟨dT 2 7 [.int 0,o],?_,hal.ext (λr=>?_) (by decide) (by decide)⟩
   . ext;rw[eo];ext;rw[il (by lia)];ext;rw[decide_eq_true hf];ext;rfl
   . rw[al1 r,hf];have e1:(2:Int)^2^j - 1=tab (2^j) λ_=>1:=by rw[mW,wx]
     rw[e1];exact (gB (λ_=>.inr rfl) (AG _ (xl (by decide)))).symm
 . by_cases hz:t=0
   . obtain ⟨q,eq,hq⟩:=lC hal;have eq:cO [.tuple [d9,.tuple [.int 0,o]]]= .ok q:=eq;refine ⟨q,?_,hq.ext (λr=>?_) (by decide) (by decide)⟩
     . ext;rw[eo];ext;rw[il (by lia)];ext;rw[decide_eq_false hf];ext;rw[decide_eq_true hz];ext;rw[eq];rfl
     . rw[al1 r,hz,PQ];decide
   . obtain ⟨d,e,hd⟩:=Fg j 8 t hn (ay _) (by lia) (by lia) (by lia);have hw:wN j<=429:=by
      rcases (by lia:j=1\/j=2\/j=3\/j=4) with rfl | rfl | rfl | rfl <;> decide
     refine ⟨d,?_,hd.ext (λ_=>rfl) hw (by lia)⟩;ext;rw[eo];ext;rw[il (by lia)];ext;rw[decide_eq_false hf];ext;rw[decide_eq_false hz];ext;rw[e];rfl
structure ir (gs:A9) (n:Nat) (t:Int) (k:Nat) (ss:List aC) (o:Nat):Prop where
 ok:bc n ss
 lt:o<n+ss.length
 gin:∀s∈ss,(s.m,s.b)∈gs
 val:∀r,r<2^n->(b8 n ss r).getD o 0=ak t (r:Nat)
 len:ss.length<=k
def Az(ss' ss:List aC):Prop:=∀s∈ss',∃t∈ss,s.m=t.m/\s.b=t.b
theorem FQ{n:Nat}{U:B3}{ss:List aC}:∀i,i<=ss.length->Az (gm n U ss i).1 ss
 | 0,_=>λs hs=>by cases hs
 | i+1,hi=>by
  have ih:=FQ (n:=n) (U:=U) (ss:=ss) i (by lia)
  by_cases h:((n+i:Nat):Int)∈U
  . rw[zV h];intro s hs;rcases cE.mp hs with z | z
    . exact ih s z
    . rw[aI.mp z];refine ⟨ss.getD i ⟨0,0,[]⟩,?_,rfl,rfl⟩;rw[ae,av (show i<ss.length by lia)];exact g9 _
  . rw[wX h];exact ih
theorem aaO{n:Nat}(ss:List aC):Az (eX n ss).1 ss:=by
 induction ss using snoc_ind with
 | h0=>intro s hs;cases hs
 | h ss s ih=>
  rw[tK];unfold Bm;intro x hx;have old:∀y∈(eX n ss).1,∃t∈ss++[s],y.m=t.m/\y.b=t.b:=λy hy=>by
   obtain ⟨t,ht,e⟩:=ih y hy;exact ⟨t,eM _ ht,e⟩
  revert hx;split
  . exact λhx=>old x hx
  . intro hx;rcases cE.mp hx with z | z
    . exact old x z
    . rw[aI.mp z];exact ⟨s,dn _ bX,rfl,rfl⟩
theorem Az.trans{c:List aC}(h:Az a ss)(k:Az ss c):Az a c:=λs hs=>by
 obtain ⟨t,ht,e1,e2⟩:=h s hs;obtain ⟨u,hu,f1,f2⟩:=k t ht;exact ⟨u,hu,e1.trans f1,e2.trans f2⟩
theorem Tq{n:Nat}(hs:bc n ss)(hn:n<=100)(hl:ss.length<=5000)(ho:o<n+ss.length) :
 ∃(ss':List aC) (o':Nat),o9 [dC n ss o]= .ok (dC n ss' o')/\Alike n ss o ss' o'/\ss'.length<=ss.length/\Az ss' ss:=by
 obtain ⟨i1,i2,i3,i4⟩:=zc ss hs;have i5:∀{β:Type} (φ:Nat->Int->List β->β) (z:β) (base:List β),base.length=n->(cV φ z base (eX n ss).1).getD ((eX n ss).2.getD o 0) z=(cV φ z base ss).getD o z:=λφ z base hb=>UW hb ss hs o ho;have i6:=aaO (n:=n) ss;have ho1:=i4 _ (zE (by rw[i2];exact ho));have e1:=Tt hs hn hl ho;generalize (eX n ss).2.getD o 0=o1 at i5 ho1 e1;generalize (eX n ss).1=s1 at i1 i3 i5 i6 ho1 e1;have e2:=Iv i1 hn (by lia) ho1;have hc:Ie n (dJ n s1 o1 s1.length) s1:=λj s e h w hw=>.inr (uD i1 e h w hw);have ho':=vO (n:=n) (ss:=s1) (o:=o1) s1.length;have u:=rM i1 hc s1.length (ay _);obtain ⟨v,ev,hv⟩:=u.has o1 ho1 (.inr ho');refine ⟨(gm n (dJ n s1 o1 s1.length) s1 s1.length).1,v,?_,⟨u.st,hv,λφ z base hb=>?_⟩,dc u.len i3,(FQ s1.length (ay _)).trans i6⟩
 . unfold o9;ext;rw[e1];ext;rw[e2,ev];ext;rfl
 . rw[<- i5 φ z base hb];exact yj hb i1 hc _ (ay _) o1 v ho1 (.inr ho') ev
theorem qb:b8 j ss r=cV (λ_ b xs=>ak b (aX xs)) 0 (bx j r) ss:=rfl
theorem Alike.vals(h:Alike j ss o a W):(b8 j a r).getD W 0=(b8 j ss r).getD o 0:=by
 rw[qb,qb];exact h.same _ 0 _ (bH j r)
theorem ir.shared(h:ir gs j t W ss o)(hn:j<=100)(hk:W<=5000):∃ss' o',o9 [dC j ss o]= .ok (dC j ss' o')/\ir gs j t W ss' o':=by
 obtain ⟨ss',o',e,a,l,g⟩:=Tq h.ok hn (by have:=h.len;lia) h.lt;refine ⟨ss',o',e,a.ok,a.lt,λs hs=>?_,λr hr=>by rw[a.vals];exact h.val r hr,dc l h.len⟩;obtain ⟨u,hu,e1,e2⟩:=g s hs;rw[e1,e2];exact h.gin u hu
theorem ir.unused{n:Nat}(h:ir gs n t W ss o)(hn:n<=100)(hk:W<=5000):∃ss' o',fV [dC n ss o]= .ok (dC n ss' o')/\ir gs n t W ss' o':=by
 have hc:Ie n (dJ n ss o ss.length) ss:=λj s e hh w hw=>.inr (uD h.ok e hh w hw);have ho':=vO (n:=n) (ss:=ss) (o:=o) ss.length;have u:=rM h.ok hc ss.length (ay _);obtain ⟨v,ev,hv⟩:=u.has o h.lt (.inr ho');have e:=Iv h.ok hn (by have:=h.len;lia) h.lt;rw[ev] at e;refine ⟨_,v,e,u.st,hv,λs hs=>?_,λr hr=>?_,dc u.len h.len⟩
 . obtain ⟨x,hx,e1,e2⟩:=FQ ss.length (ay _) s hs;rw[e1,e2];exact h.gin x hx
 . rw[<- h.val r hr,qb,qb];exact yj (bH n r) h.ok hc _ (ay _) o v h.lt (.inr ho') ev
theorem Bj:bx m r=(List.range m).map λj=>ak (r:Nat) (j:Nat):=by
 refine cn λj _=>?_;rw[ak,cx,Int.natCast_emod,Int.natCast_ediv,ny];rfl
section
variable  {n:Nat}{L:A6}
noncomputable def jb(L:A6)(t:Int):Nat:=(aQ L).idxOf t
noncomputable def vz(L:A6)(q:Int×Way):Option aC:=q.2.g.map λg=>⟨g.1,g.2,q.2.ts.map (jb L)⟩
noncomputable def du(L:A6)(i:Nat):List aC:=(L.take i).filterMap (vz L)
theorem pos_at(nd:(aQ L).Nodup)(h:L[i]?=some q):jb L q.1=i:=by
 have hi:=(aS.mp h).1;have hk:(aQ L)[i]?=some q.1:=by rw[aQ,br,h];rfl
 have hin:=eJ hk;have h2:(aQ L)[jb L q.1]?=some q.1:=by
  rw[jb,av (vx hin),List.getElem_idxOf]
 exact (List.getElem?_inj (vx hin) nd).mp (h2.trans hk.symm)
theorem CT(nd:(aQ L).Nodup){p:Int}(h:p∈aQ (L.take i)):jb L p<i/\∃q,L[jb L p]?=some q/\q.1=p:=by
 obtain ⟨q,hq,rfl⟩:=cf.mp h;obtain ⟨j,hj,e⟩:=kC.mp hq;rw[dr] at hj;have e':L[j]?=some q:=by
  rw[av (by lia)];rw[List.getElem_take] at e;rw[e]
 rw[pos_at nd e'];exact ⟨by lia,q,e',rfl⟩
theorem uA(h:L[i]?=some q):du L (i+1)=du L i++(match vz L q with | some s=>[s] | none=>[]):=by
 rw[du,take_snoc h,List.filterMap_append];congr 1;rw[ma,List.filterMap_nil];cases vz L q <;> rfl
structure afD (gs:A9) (n:Nat) (L:A6) (i:Nat):Prop where
 len:(du L i).length=i - n
 ok:bc n (du L i)
 gin:∀s∈du L i,(s.m,s.b)∈gs
 val:n<=i->∀j q,j<i->L[j]?=some q->∀r,r<2^n->(b8 n (du L i) r).getD j 0=ak q.1 (r:Nat)
theorem WX(I:fZ gs n L [])(F:qP n L [])(hg:∀g∈gs,g.1<=4/\0<=g.2/\g.2<2^2^g.1):∀i,i<=L.length->afD gs n L i
 | 0,_=>⟨by rw[du,mP];show 0=0 - n;lia,by exact bc.nil,(λs hs=>by cases hs),λ_ j q hj _=>by lia⟩
 | i+1,hi=>by
  have nd:=by have:=I.nd;rwa [show aQ L++aQ []=aQ L from dA _] at this
  have ih:=WX I F hg i (by lia);obtain ⟨q,hq⟩:∃q,L[i]?=some q:=⟨_,av (by lia)⟩;rcases I.vf i q hq with ⟨hw,hb⟩ | ⟨g,h1,h2,h3,h4,h5,h6⟩
  . obtain ⟨hin,hu⟩:=aeT I F hq hb;have e:du L (i+1)=du L i:=by
     rw[uA hq];rw[vz,hw];exact dA _
    have hl:=ih.len;have h0:du L i=[]:=l5.mp (by lia);rw[h0] at e;refine ⟨by rw[e];show 0=_;lia,by rw[e];exact bc.nil,λs hs=>(by rw[e] at hs;cases hs),λhn j q' hj hq' r hr=>?_⟩;rw[e];show (bx n r).getD j 0=_;have hjn:j<n:=by lia
    have afV:q'.1=iB n j:=by
     obtain ⟨e1,_⟩:=uz F;have h1:(L.take n)[j]?=some q':=by rw[la hjn];exact hq'
     rw[e1] at h1;unfold inW cY at h1;rw[br,br,eP hjn] at h1;cases h1;rfl
    rw[afV];rw[iB,gB (λ_=>aM _ _) hr,Bj,ae,br,eP hjn];rfl
  . obtain ⟨g1,g2,g3⟩:=hg g h1;have hni:n<=i:=by
     refine ky λz=>?_;obtain ⟨e1,_⟩:=uz F;have h1':(L.take n)[i]?=some q:=by rw[la z];exact hq
     rw[e1] at h1';unfold inW at h1';rw[br] at h1';obtain ⟨x,hx,e2⟩:=mn.mp h1';have:q.2=fL:=by rw[<- e2]
     rw[this] at h2;cases h2
    have es:vz L q=some ⟨g.1,g.2,q.2.ts.map (jb L)⟩:=by rw[vz,h2];rfl
    have e:du L (i+1)=du L i++[⟨g.1,g.2,q.2.ts.map (jb L)⟩]:=by rw[uA hq,es]
    have hl:=ih.len;have hlt:∀w∈q.2.ts.map (jb L),w<n+(du L i).length:=λw hw=>by
     obtain ⟨p,hp,rfl⟩:=cf.mp hw;have:=(CT nd (h4 p hp)).1;lia
    refine ⟨by rw[e,ai,cy];lia,by rw[e];exact ih.ok.snoc ⟨g1,by rw[af];exact h3,hlt,g2,g3⟩,λs hs=>?_,λ_ j q' hj hq' r hr=>?_⟩
    . rw[e] at hs;rcases cE.mp hs with z | z
      . exact ih.gin s z
      . rw[aI.mp z];exact h1
    . rw[e,iK];unfold stepV;have hvl:=fc (n:=n) (ss:=du L i) (r:=r)
      by_cases hji:j<i
      . rw[uv (by lia)];exact ih.val hni j q' hji hq' r hr
      . have hji:j=i:=by lia
        subst hji;rw[hq] at hq';cases hq';rw[ae,b9 (by lia),show j - (b8 n (du L j) r).length=0 by lia];show ak g.2 (aX ((q.2.ts.map (jb L)).map _))=_;rw[<- h5];rw[cA,gB (λ_=>aM _ _) hr,de];congr 2;refine cn λp hp=>?_;obtain ⟨a1,q2,a2,a3⟩:=CT nd (h4 p hp);show (b8 n (du L j) r).getD (jb L p) 0=_;rw[ih.val hni _ q2 a1 a2 r hr,a3]
theorem acu{f:Int->Nat}:mJ [.dict (kvC ts f)]= .ok (.int (ts.length:Nat)):=by
 show AO.ok (ab.int ((kvC ts f).length:Nat))=_;rw[kvC,af]
theorem Hh(I:fZ gs n L [])(F:qP n L [])(hg:∀g∈gs,g.1<=4/\0<=g.2/\g.2<2^2^g.1)(hL:L.length<=1000)(hn:n<=100)(ht:t∈aQ L) :
 ∃ss o,iG [.dict (Bi L),.int t,.int (n:Nat)]= .ok (dC n ss o)/\ir gs n t (L.length - n) ss o:=by
 have nd:=by have:=I.nd;rwa [show aQ L++aQ []=aQ L from dA _] at this
 have W:=WX I F hg L.length (ay _);obtain ⟨_,hnL⟩:=uz F;have ht':t∈aQ (L.take L.length):=by rw[eD];exact ht
 obtain ⟨p1,q,p2,p3⟩:=CT nd ht';have C:ir gs n t (L.length - n) (du L L.length) (jb L t):=⟨W.ok,by rw[W.len];lia,W.gin,λr hr=>by rw[W.val hnL _ q p1 p2 r hr,p3],by rw[W.len];exact ay _⟩;obtain ⟨ss,o,e,hC⟩:=C.unused hn (by lia);refine ⟨ss,o,?_,hC⟩;unfold iG;ext;rw[show ∀Γ,iZ [] Γ = .ok (.dict (kvC [] (jb L))) from λ_=>rfl];ext;rw[show itI 0 [some (.dict (Bi L)),some (.int t),some (.int n),some (.dict (kvC [] (jb L))),some (.list []),none,none]= .ok (L.map λq=>ab.tuple [.int q.1,wD q.2]) by
  show AO.ok ((Bi L).map (λq=>ab.tuple [q.1,q.2]))=_;rw[Bi,de];rfl,AO.aP]
 refine bJ (λi=>[some (.dict (Bi L)),some (.int t),some (.int n),some (.dict (kvC (aQ (L.take i)) (jb L))),some (.list ((du L i).map aC.d)),none,none]) rfl (λi x hx=>?_) ?_
 . obtain ⟨⟨u,w⟩,eq,rfl⟩:=cG hx;have hi:=(aS.mp eq).1;have hkl:(aQ (L.take i)).length=i:=by rw[aQ,af,dr];lia
   have hpu:jb L u=i:=pos_at nd eq;have hun:u∉aQ (L.take i):=λz=>by have:=(CT nd z).1;lia
   have hk1:aQ (L.take (i+1))=aQ (L.take i)++[u]:=by rw[take_snoc eq];rw[aQ,a7];rfl
   show AO.bind (AO.bind (AO.ok ([some (.dict (Bi L)),some (.int t),some (.int (n:Nat)),some (.dict (kvC (aQ (L.take i)) (jb L))),some (.list ((du L i).map aC.d)),some (.int u),some (wD w)]:Ev)) _) _=_;rw[AO.aP,gK,aeC (by
    ext;rw[acu,hkl,hpu]) rfl rfl hun (by lia) (of_decide_eq_true rfl)]
   rw[<- hk1];have es:=uA eq;rcases I.vf i (u,w) eq with ⟨hw,hb⟩ | ⟨g,h1,h2,h3,h4,h5,h6⟩
   . have hw:=hw;subst hw;rw[show du L (i+1)=du L i by rw[es];exact dA _];unfold wD fL gD;ext;rw[show Dr .none .none= .ok (.bool false) from rfl];ext
   . obtain ⟨wc,wg,wt⟩:=w;have h2:=h2;have h3:wt.length=g.1:=h3;have h4:=h4;subst h2;have m4:=(hg g h1).1;have hsl:=(WX I F hg i (by lia)).len;rw[show du L (i+1)=du L i++[⟨g.1,g.2,wt.map (jb L)⟩] by rw[es];rfl,a7];unfold wD gD;ext;rw[show Dr (AZ g) .none= .ok (.bool true) from rfl];ext;rw[Dw (ns:=wt) (λp=>.int (jb L p:Nat)) ?_ (Bz (by lia)) λp hp=>?_]
     rotate_left
     . ext;rfl
     . ext;rw[YB (by rw[hk1];exact eM _ (h4 p hp))]
     ext;rw[bw (Bz (by lia))];ext;unfold aC.d dN;rw[de];rfl
 . rw[af,eD];ext;rw[YB ht];ext;rw[show ab.tuple [.int (n:Nat),.tuple ((du L L.length).map aC.d),.int (jb L t:Nat)]=dC n (du L L.length) (jb L t) from rfl,e];ext
end
theorem Np{n:Nat}(C:ir gs m b j ss o)(ha:bc n AL)(hga:∀s∈AL,(s.m,s.b)∈gs)(hh:hs.length=m)(hlt:∀x∈hs,x<n+AL.length) :
 bc n (AL++ss.map (mv m (n+AL.length) hs))/\(∀s∈AL++ss.map (mv m (n+AL.length) hs),(s.m,s.b)∈gs)/\ren m (n+AL.length) hs o<n+(AL++ss.map (mv m (n+AL.length) hs)).length/\(AL++ss.map (mv m (n+AL.length) hs)).length<=AL.length+j /\
 ∀r,(∀w,w<n+AL.length->(b8 n (AL++ss.map (mv m (n+AL.length) hs)) r).getD w 0=(b8 n AL r).getD w 0)/\(b8 n (AL++ss.map (mv m (n+AL.length) hs)) r).getD (ren m (n+AL.length) hs o) 0=ak b (aX (hs.map λw=>(b8 n AL r).getD w 0)):=by
 have hl:=C.len;refine ⟨aeN ha C.ok hh hlt,λs hs'=>?_,?_,by rw[ai,af];lia,λr=>?_⟩
 . rcases cE.mp hs' with z | z
   . exact hga s z
   . obtain ⟨t,ht,rfl⟩:=cf.mp z;exact C.gin t ht
 . rw[ai,af,<- tf];exact abS hh hlt C.lt
 . have h01:bO (hs.map λw=>(b8 n AL r).getD w 0):=bO.map λw _=>zW MT w;have hb:=uC h01;rw[af,hh] at hb;have hv:=aaJ hh hlt hb ss C.ok;have hA:=fc (n:=n) (ss:=AL) (r:=r);rw[hv];refine ⟨λw hw=>uv (by lia),?_⟩;have key:=MP hh (λx hx=>by rw[hA];exact hlt x hx) fc (λu hu=>by rw[Bx hu,hb,getD_map (α:=Nat) (by lia)]) C.lt;rw[hA] at key;have g0:=jd (h01.nn);have g1:(aX (hs.map λw=>(b8 n AL r).getD w 0)).toNat<2^m:=by
    have:=zU h01;rw[af,hh] at this;have e:((2^m:Nat):Int)=2^m:=by simp
    lia
   rw[key,C.val _ g1,vv g0]
structure Rpl (gs:A9) (n:Nat) (ss:List aC) (i:Nat) (AL:List aC) (names:B5):Prop where
 nl:names.length=n+i
 ok:bc n AL
 gin:∀s∈AL,(s.m,s.b)∈gs
 lt:∀x∈names,x<n+AL.length
 val:∀r w,w<n+i->(b8 n AL r).getD (names.getD w 0) 0=(b8 n (ss.take i) r).getD w 0
 len:AL.length<=stW (ss.take i)
noncomputable def Ed(ssN:List aC)(oN:Nat)(ssA:List aC)(oA:Nat):ab:=.dict [(gA,dC 1 ssN oN),(d9,dC 2 ssA oA)]
variable {ssN ssA:List aC}
theorem kit_at(hN:ir gs 1 1 3 ssN j)(hA:ir gs 2 7 16 ssA W)(h:(s.m=1/\s.b=1)\/(s.m=2/\s.b=7)) :
 ∃ss o,ir gs s.m s.b (wt s) ss o/\∀(Γ:Ev) (m:ME) (i:Nat),m Γ = .ok (dG s.m s.b)->gv Γ i=some (Ed ssN j ssA W)->Jb i m Γ = .ok (dC s.m ss o):=by
 obtain ⟨m,b,ws⟩:=s;rcases h with ⟨h1,h2⟩ | ⟨h1,h2⟩
 . have h1:=h1;have h2:=h2;subst h1 h2;exact ⟨ssN,j,hN,λΓ m i e g=>by rw[Jb,e,AO.aP,g];rfl⟩
 . have h1:=h1;have h2:=h2;subst h1 h2;exact ⟨ssA,W,hA,λΓ m i e g=>by rw[Jb,e,AO.aP,g];rfl⟩
theorem aaq(h:ss[i]?=some s):stW (ss.take (i+1))=stW (ss.take i)+wt s:=by
 rw[nF h,uZ];rfl
theorem Qp{n:Nat}(hN:ir gs 1 1 3 ssN j)(hA:ir gs 2 7 16 ssA W)(hs:bc n ss)(hnn:NNs ss)(hw:stW ss<=4000)(hn:n<=100)(ho:o<n+ss.length) :
 ∃AL o',nQ [dC n ss o,Ed ssN j ssA W]= .ok (dC n AL o')/\bc n AL/\(∀s∈AL,(s.m,s.b)∈gs)/\o'<n+AL.length/\AL.length<=stW ss/\∀r,(b8 n AL r).getD o' 0=(b8 n ss r).getD o 0:=by
 have hwl:∀l:List aC,l.length<=stW l:=λl=>by
  induction l with
  | nil=>exact ay _
  | cons s l ih=>
   have:stW (s::l)=wt s+stW l:=by unfold stW;rw[a8,jS]
   have h3:3<=wt s:=by unfold wt;split <;> lia
   rw[bt];lia
 have hwt:=λi=>by
  have:=uZ (a:=ss.take i) (b:=ss.drop i);rw[sL] at this;lia
 have hsl:=hwl ss
 suffices hG:Gives (nQ [dC n ss o,Ed ssN j ssA W]) λd=>∃AL o',d=dC n AL o'/\bc n AL/\(∀s∈AL,(s.m,s.b)∈gs)/\o'<n+AL.length/\AL.length<=stW ss/\∀r,(b8 n AL r).getD o' 0=(b8 n ss r).getD o 0 by
  obtain ⟨d,e,AL,o',rfl,h⟩:=hG;exact ⟨AL,o',e,h⟩
 unfold nQ;ext;rw[Pn];ext;rw[bw (by lia),cx,show upN n=dN (List.range n) from rfl];ext;rw[Iw];ext;refine qW (λi Γ=>∃AL names,Γ=[some (dC n ss o),some (Ed ssN j ssA W),some (.int n),some (.list (dN names)),some (.list (AL.map aC.d)),none]/\Rpl gs n ss i AL names) ⟨[],List.range n,rfl,?_⟩ (λi x Γ hx hI=>?_) λΓ hI=>?_
 . refine ⟨by rw[cS];rfl,bc.nil,(λs hs=>by cases hs),λx hx=>?_,λr w hw=>?_,kz _⟩
   . have:=dQ.mp hx;lia
   . rw[mP,show (List.range n).getD w 0=w by rw[ae,eP (by lia)];rfl]
 . obtain ⟨AL,names,rfl,R⟩:=hI;obtain ⟨s,es,rfl⟩:=cG hx;have ok:=hs i s es;have hi:=(aS.mp es).1;have hal:=R.len;have hnl:=R.nl;have h1:=hwt i;obtain ⟨ssK,oK,hK,hev⟩:=kit_at hN hA (hnn s (eJ es));have hKl:=hK.len;have af4:wt s<=16:=by unfold wt;split <;> lia
   have hh:(s.ws.map λw=>names.getD w 0).length=s.m:=by rw[af];exact ok.len
   have hlt:∀x∈s.ws.map λw=>names.getD w 0,x<n+AL.length:=λx hx=>by
    obtain ⟨w,hw,rfl⟩:=cf.mp hx;exact R.lt _ (zE (by rw[hnl];exact ok.lt w hw))
   obtain ⟨a1,a2,a3,a4,a5⟩:=Np hK R.ok R.gin hh hlt;have e1:=p_add (n:=n) (AL:=AL) hK.ok hh (by lia) (by lia) hK.lt (by have:=ok.m4;lia);have m4:=ok.m4;have wl:=ok.len;show Goes (AO.bind (AO.bind (AO.ok ([some (dC n ss o),some (Ed ssN j ssA W),some (.int (n:Nat)),some (.list (dN names)),some (.list (AL.map aC.d)),some s.d]:Ev)) _) _) _;rw[AO.aP];ext;rw[hev _ _ 1 (by unfold aC.d;ext) rfl];ext;rw[gY (xs:=s.ws) (λw=>ab.int (w:Int)) (λw=>.int (names.getD w 0:Nat)) ?_ (Bz (by lia)) λw hw=>?_]
   rotate_left
   . ext;rfl
   . ext;rw[BP (by rw[hnl];exact ok.lt w hw)]
   rw[show ab.list (s.ws.map λw=>ab.int (names.getD w 0:Nat))= .list (dN (s.ws.map λw=>names.getD w 0)) by rw[dN,de];rfl];ext;rw[e1];ext;rw[bw (Bz (by rw[vA];lia))];ext;refine ⟨_,names++[ren s.m (n+AL.length) (s.ws.map λw=>names.getD w 0) oK],by rw[yz];rfl,⟨by rw[ai,cy];lia,a1,a2,λx hx=>?_,λr w hw=>?_,by rw[aaq es];lia⟩⟩
   . rcases cE.mp hx with z | z
     . have:=R.lt x z;rw[ai];lia
     . rw[aI.mp z];exact a3
   . obtain ⟨b1,b2⟩:=a5 r;rw[nF es,iK];unfold stepV;have hvl:=fc (n:=n) (ss:=ss.take i) (r:=r);rw[dr] at hvl
     by_cases hwi:w<n+i
     . rw[Ib (by lia),uv (by lia),b1 _ (R.lt _ (zE (by lia)))];exact R.val r w hwi
     . have:w=n+i:=by lia
       subst this;rw[show n+i=names.length by lia,Dt,b2,ae,b9 (by lia),show names.length - (b8 n (ss.take i) r).length=0 by lia,de];congr 2;exact cn λw hw=>R.val r w (ok.lt w hw)
 . obtain ⟨AL,names,rfl,R⟩:=hI;rw[af] at R;have hnl:=R.nl;have h1:=R.len;rw[eD] at h1;ext;rw[Q7];ext;rw[BP (by lia)];ext;refine ⟨AL,names.getD o 0,rfl,R.ok,R.gin,R.lt _ (zE (by lia)),h1,λr=>?_⟩;have:=R.val r o ho;rwa [eD] at this
inductive K5:Str->Nat->B3->Prop
 | low:K5 "low" 1 [0]
 | high:K5 "high" 1 [1]
 | turn:K5 "turn" 2 [1,2]
 | rise:K5 "rise" 2 [0,2,3]
 | even:K5 "even" 4 iz
variable {nm:Str}
theorem ZM(N:K5 nm w rs):Jm [.str nm]= .ok (FJ w rs):=by
 cases N <;> rfl
noncomputable def m9(gs:A9)(w:Nat)(rs:B3):Bool:=gs.all λg=>(brk g.2 w rs g.1).isNone
theorem Jl:m9 gs w rs=true↔∀g∈gs,Kp g.2 w rs g.1:=by
 rw[m9,fS];exact ⟨λh g hg=>jM.mp (h g hg),λh g hg=>jM.mpr (h g hg)⟩
theorem K5.small(N:K5 nm w rs):rs.length<=8/\w<=100:=by cases N <;> decide
theorem Ro(N:K5 nm w rs)(hm:m<=4):tB [dG m b,FJ w rs]= .ok (xr (brk b w rs m)):=
 Xu (by have:=N.small;lia) hm (dc (nN N.small.1 _) (dc (fq (by decide) hm) (by decide))) N.small.2
theorem Gz:(List.range gs.length).find? (λi=>!(brk (gs.getD i (0,0)).2 w rs (gs.getD i (0,0)).1).isNone)=none↔m9 gs w rs=true:=by
 rw[oj];rw[m9,fS];constructor
 . intro h g hg;obtain ⟨i,hi,e⟩:=kC.mp hg;have:=h i (dQ.mpr hi);rw[ae,av hi] at this;simpa[e] using this
 . intro h i hi;have hi:=dQ.mp hi;rw[ae,av hi];have:=h gs[i] (g9 hi);simp[this]
noncomputable def Ks5:List (Str×Nat×B3):=[("low",1,[0]),("high",1,[1]),("turn",2,[1,2]),("rise",2,[0,2,3]),("even",4,iz)]
theorem Td{k:Str×Nat×B3}(h:k∈Ks5):K5 k.1 k.2.1 k.2.2:=by
 simp only[Ks5,cp,pv,or_false] at h;rcases h with rfl | rfl | rfl | rfl | rfl
 . exact .low
 . exact .high
 . exact .turn
 . exact .rise
 . exact .even
theorem VM(N:K5 nm w rs)(hg:∀g∈gs,g.1<=4):∃d,jf [.list (gs.map AZ),FJ w rs]= .ok d/\((d= .none/\m9 gs w rs=true)\/((∃(i:Nat) (c:B3) (g:Nat×Int),d= .tuple [.int (i:Nat),dL c]/\gs[i]?=some g/\¬ Kp g.2 w rs g.1)/\m9 gs w rs=false)):=by
 unfold jf;ext;have e:eZ (gs.map AZ)=(List.range gs.length).map λi=>ab.tuple [.int (i:Nat),(gs.map AZ).getD i .none]:=by
  rw[eZ,af]
 rw[e,qZ (λi=>ab.tuple [.int (i:Nat),(gs.map AZ).getD i .none]) (λi=>.tuple [.int i,xr (brk (gs.getD i (0,0)).2 w rs (gs.getD i (0,0)).1)]) (λi=>!(brk (gs.getD i (0,0)).2 w rs (gs.getD i (0,0)).1).isNone) λi hi=>?_]
 . cases hf:(List.range gs.length).find? (λi=>!(brk (gs.getD i (0,0)).2 w rs (gs.getD i (0,0)).1).isNone) with
   | none=>
    ext;exact ⟨_,rfl,.inl ⟨rfl,Gz.mp hf⟩⟩
   | some i=>
    have hs:=vn hf;ext;refine ⟨_,rfl,.inr ⟨⟨i,?_⟩,oB.mpr λz=>by rw[Gz.mpr z] at hf;cases hf⟩⟩;have hi:=dQ.mp (nk hf);have e2:gs[i]?=some (gs.getD i (0,0)):=by rw[ae,av hi];rfl
    have e3:¬ Kp (gs.getD i (0,0)).2 w rs (gs.getD i (0,0)).1:=λz=>by rw[jM.mpr z] at hs;cases hs
    cases hb:brk (gs.getD i (0,0)).2 w rs (gs.getD i (0,0)).1 with
    | none=>rw[hb] at hs;cases hs
    | some c=>exact ⟨c,_,rfl,e2,e3⟩
 . have hi:=dQ.mp hi;have e1:(gs.map AZ).getD i .none=AZ (gs.getD i (0,0)):=by
    rw[ae,br,ae,av hi];rfl
   have e2:gs.getD i (0,0)∈gs:=by
    rw[ae,av hi];exact g9 hi
   rw[e1];generalize gs.getD i (0,0)=g at *
   ext;rw[Ro N (hg g e2)];ext;cases brk g.2 w rs g.1 <;> rfl
structure Brs (gs:A9) (F:Str×Nat×B3->ab):Prop where
 h:∀k∈Ks5,(F k= .none/\m9 gs k.2.1 k.2.2=true)\/((∃(i:Nat) (c:B3) (g:Nat×Int),F k= .tuple [.int (i:Nat),dL c]/\gs[i]?=some g/\¬ Kp g.2 k.2.1 k.2.2 g.1)/\m9 gs k.2.1 k.2.2=false)
theorem JD(hg:∀g∈gs,g.1<=4):∃F,vd [.list (gs.map AZ)]= .ok (.list (Ks5.map F))/\Brs gs F:=by
 have H:∀k:Str×Nat×B3,∃d,k∈Ks5->jf [.list (gs.map AZ),FJ k.2.1 k.2.2]= .ok d/\((d= .none/\m9 gs k.2.1 k.2.2=true)\/((∃(i:Nat) (c:B3) (g:Nat×Int),d= .tuple [.int (i:Nat),dL c]/\gs[i]?=some g/\¬ Kp g.2 k.2.1 k.2.2 g.1)/\m9 gs k.2.1 k.2.2=false)):=λk=>by
  by_cases h:k∈Ks5
  . obtain ⟨d,h1,h2⟩:=VM (Td h) hg;exact ⟨d,λ_=>⟨h1,h2⟩⟩
  . exact ⟨.none,λz=>absurd z h⟩
 have hF:=λk hk=>Classical.choose_spec (H k) hk;refine ⟨λk=>yb (H k),?_,⟨λk hk=>(hF k hk).2⟩⟩;unfold vd;ext;rw[gY (xs:=Ks5) (λk=>ab.str k.1) (λk=>yb (H k)) rfl (Bz (by decide)) λk hk=>?_]
 . rfl
 . ext;rw[ZM (Td hk)];ext;exact (hF k hk).1
noncomputable def tU(gs:A9):Bool:=Ks5.all λk=>!m9 gs k.2.1 k.2.2
theorem Pg{F:Str×Nat×B3->ab}(hF:Brs gs F):lZ .none (.list (Ks5.map F))= .ok (.bool (tU gs)):=by
 have pl:∀(i:Nat) (c:B3),plain (.tuple [.int (i:Nat),dL c])=true:=λi c=>Te λd hd=>by
  rcases cp.mp hd with rfl | hd
  . exact aaz
  . rw[aI.mp hd];exact wL c
 have pn:plain .none=true:=by rw[Zq.plain]
 have sh:∀k∈Ks5,eK (F k)=true:=λk hk=>by
  rcases hF.h k hk with ⟨e,_⟩ | ⟨⟨i,c,_,e,_,_⟩,_⟩
  . rw[e];decide
  . rw[e];refine jw (pl i c) (dc (xG (k:=1) λd hd=>?_) (by decide));rcases cp.mp hd with rfl | hd
    . exact dc Ew (by decide)
    . rw[aI.mp hd];show (ab.list (c.map ab.int)).depth<=1;rw[ab.depth,qX];exact ay _
 have ev:∀k∈Ks5,fw (F k) .none=m9 gs k.2.1 k.2.2:=λk hk=>by
  rcases hF.h k hk with ⟨e,e2⟩ | ⟨⟨i,c,_,e,_,_⟩,e2⟩
  . rw[e,e2];exact (jy _ _ pn pn).mpr rfl
  . rw[e,e2];exact oB.mpr λz=>nomatch (jy _ _ (pl i c) pn).mp z
 show gd (eK .none=true/\(Ks5.map F).all eK=true) (AO.ok (ab.bool (!inB .none (Ks5.map F))))=_;rw[bw ⟨by decide,fS.mpr λd hd=>by obtain ⟨k,hk,rfl⟩:=cf.mp hd;exact sh k hk⟩];have ei:inB .none (Ks5.map F)=Ks5.any λk=>m9 gs k.2.1 k.2.2:=by
  rw[inB,List.any_map,Au,nX,nX];exact ⟨λ⟨k,hk,e⟩=>⟨k,hk,by rw[<- ev k hk];exact e⟩,λ⟨k,hk,e⟩=>⟨k,hk,by rw[<- ev k hk] at e;exact e⟩⟩
 rw[ei];rw[tU,List.not_any_eq_all_not]
theorem Vo(h:tU gs=true):(∃g∈gs,¬ Kp g.2 1 [0] g.1)/\(∃g∈gs,¬ Kp g.2 1 [1] g.1)/\(∃g∈gs,¬ Kp g.2 2 [1,2] g.1)/\(∃g∈gs,¬ Kp g.2 2 [0,2,3] g.1)/\∃g∈gs,¬ Kp g.2 4 iz g.1:=by
 have ex:∀{w:Nat}{rs:B3},((!m9 gs w rs)=true)->∃g∈gs,¬ Kp g.2 w rs g.1:=λ{w rs} z=>by
  rw[xi,oB,ne_eq,Jl] at z;exact fF λy=>z λg hg=>fF λx=>y ⟨g,hg,x⟩
 unfold tU Ks5 at h;simp only[ti,List.all_nil,Bool.and_true,eh] at h;exact ⟨ex h.1,ex h.2.1,ex h.2.2.1,ex h.2.2.2.1,ex h.2.2.2.2⟩
noncomputable def eY:B3:=[10,12,5,3,0,15]
theorem Bs:cst v∈eY:=by unfold cst;split <;> decide
theorem Sw(hk:¬ Kp g.2 4 iz g.1):∃c:B3,c.length=g.1/\(∀p∈c,p∈eY)/\(cA g.2 c 2=7\/cA g.2 c 2=8):=by
 have hd:∃pre mid suf:B3,bO pre/\bO mid/\bO suf/\pre.length+mid.length+suf.length+2=g.1/\Et g.2 pre mid suf % 2≠0:=fF λz=>hk (Ao λpre mid suf h1 h2 h3 h4=>fF λy=>z ⟨pre,mid,suf,h1,h2,h3,h4,y⟩);obtain ⟨pre,mid,suf,h1,h2,h3,h4,h5⟩:=hd;have put:∀p q:Int,cA g.2 (pre.map cst++p::(mid.map cst++q::suf.map cst)) 2=tab 4 λr=>ak g.2 (aX (pre++ak p (r:Nat)::(mid++ak q (r:Nat)::suf))):=λp q=>by
  refine eF λr hr=>?_;rw[a7,a8,a7,a8,pq h1 hr,pq h2 hr,pq h3 hr]
 have okc:∀p q:Int,p∈eY->q∈eY->(pre.map cst++p::(mid.map cst++q::suf.map cst)).length=g.1/\∀x∈pre.map cst++p::(mid.map cst++q::suf.map cst),x∈eY:=λp q hp hq=>by
  refine ⟨by simp;lia,λx hx=>?_⟩;rcases cE.mp hx with z | z
  . obtain ⟨y,_,rfl⟩:=cf.mp z;exact Bs
  rcases cp.mp z with rfl | z
  . exact hp
  rcases cE.mp z with z | z
  . obtain ⟨y,_,rfl⟩:=cf.mp z;exact Bs
  rcases cp.mp z with rfl | z
  . exact hq
  obtain ⟨y,_,rfl⟩:=cf.mp z;exact Bs
 have fin:∀p q:Int,p∈eY->q∈eY->(cA g.2 (pre.map cst++p::(mid.map cst++q::suf.map cst)) 2=7\/cA g.2 (pre.map cst++p::(mid.map cst++q::suf.map cst)) 2=8)->∃c:B3,c.length=g.1/\(∀p∈c,p∈eY)/\(cA g.2 c 2=7\/cA g.2 c 2=8):=λp q hp hq h=>⟨_,(okc p q hp hq).1,(okc p q hp hq).2,h⟩;have b:=λ(x y:Int)=>aM g.2 (aX (pre++x::(mid++y::suf)));unfold Et at h5;have val:∀p q:Int,cA g.2 (pre.map cst++p::(mid.map cst++q::suf.map cst)) 2=ak g.2 (aX (pre++ak p 0::(mid++ak q 0::suf)))+2*ak g.2 (aX (pre++ak p 1::(mid++ak q 1::suf)))+4*ak g.2 (aX (pre++ak p 2::(mid++ak q 2::suf)))+8*ak g.2 (aX (pre++ak p 3::(mid++ak q 3::suf))):=λp q=>by rw[put,Yj];rfl
 have v1:=val 10 12;have v2:=val 5 12;have v3:=val 10 3;have v4:=val 5 3;rw[show ak 10 0=0 by decide,show ak 10 1=1 by decide,show ak 10 2=0 by decide,show ak 10 3=1 by decide] at v1 v3;rw[show ak 5 0=1 by decide,show ak 5 1=0 by decide,show ak 5 2=1 by decide,show ak 5 3=0 by decide] at v2 v4;rw[show ak 12 0=0 by decide,show ak 12 1=0 by decide,show ak 12 2=1 by decide,show ak 12 3=1 by decide] at v1 v2;rw[show ak 3 0=1 by decide,show ak 3 1=1 by decide,show ak 3 2=0 by decide,show ak 3 3=0 by decide] at v3 v4;have b00:=b 0 0;have b10:=b 1 0;have b01:=b 0 1;have b11:=b 1 1;generalize ak g.2 (aX (pre++0::(mid++0::suf)))=a00 at *
 generalize ak g.2 (aX (pre++1::(mid++0::suf)))=a10 at *
 generalize ak g.2 (aX (pre++0::(mid++1::suf)))=a01 at *
 generalize ak g.2 (aX (pre++1::(mid++1::suf)))=a11 at *
 have:(a00+2*a10+4*a01+8*a11=7\/a00+2*a10+4*a01+8*a11=8)\/(a10+2*a00+4*a11+8*a01=7\/a10+2*a00+4*a11+8*a01=8)\/(a01+2*a11+4*a00+8*a10=7\/a01+2*a11+4*a00+8*a10=8)\/(a11+2*a01+4*a10+8*a00=7\/a11+2*a01+4*a10+8*a00=8):=by lia
 rcases this with h | h | h | h
 . exact fin 10 12 (by decide) (by decide) (by rw[v1];exact h)
 . exact fin 5 12 (by decide) (by decide) (by rw[v2];exact h)
 . exact fin 10 3 (by decide) (by decide) (by rw[v3];exact h)
 . exact fin 5 3 (by decide) (by decide) (by rw[v4];exact h)
noncomputable def pU(t:Int):Int:=ak t 0+2*ak t 3
theorem Vp:pU (cJ b ts 4)=cA b (ts.map pU) 1:=by
 have e2:cA b (ts.map pU) 1=tab 2 λr=>ak b (aX ((ts.map pU).map λt=>ak t (r:Nat))):=rfl;have e4:∀r:Nat,r<4->ak (cJ b ts 4) (r:Nat)=ak b (aX (ts.map λt=>ak t (r:Nat))):=λr hr=>gB (λ_=>aM _ _) hr;have p0:∀t:Int,ak (pU t) 0=ak t 0:=λt=>by
  unfold pU;rcases aM t 0 with z | z <;> rcases aM t 3 with y | y <;> rw[z,y] <;> decide
 have p1:∀t:Int,ak (pU t) 1=ak t 3:=λt=>by
  unfold pU;rcases aM t 0 with z | z <;> rcases aM t 3 with y | y <;> rw[z,y] <;> decide
 rw[e2,Yu];rw[pU,show ak (cJ b ts 4) 0=_ from e4 0 (by decide),show ak (cJ b ts 4) 3=_ from e4 3 (by decide),de,de];congr 3
 . congr 1;exact funext λt=>(p0 t).symm
 . congr 2;exact funext λt=>(p1 t).symm
theorem VL{f:Int->Nat}(W:Yt gs 1 ts f)(hf:tU gs=true):∀t:Int,0<=t->t<4->t∈ts:=by
 obtain ⟨k1,k2,k3,k4,k5⟩:=Vo hf;have fam:Fam gs (λt=>pU t∈ts):=⟨λg hg cs hl hc=>by
  rw[Vp];exact (W.cl g hg _ (by rw[af];exact hl) λp hp=>by
   obtain ⟨q,hq,rfl⟩:=cf.mp hp;exact hc q hq).1,W.inp _ (by decide +kernel),W.inp _ (by decide +kernel)⟩
 have all:=fam.full k1 k2 k3 k4 k5;intro t h0 h1;rcases (by lia:t=0\/t=1\/t=2\/t=3) with rfl | rfl | rfl | rfl
 . exact all 0 (by decide)
 . exact all 1 (by decide)
 . exact all 10 (by decide)
 . exact all 15 (by decide)
structure WAt (AL:List aC) (w:Nat) (t:Int):Prop where
 lt:w<2+AL.length
 val:∀r,r<4->(b8 2 AL r).getD w 0=ak t (r:Nat)
structure Cy (gs:A9) (AL:List aC):Prop where
 ok:bc 2 AL
 gin:∀s∈AL,(s.m,s.b)∈gs
theorem Wq:aX [x]=x:=by simp[aX]
theorem tu(C:ir gs 1 t 3 ss o)(A:Cy gs AL)(hw:WAt AL w b)(hl:AL.length<=1000)(hv:∀r,r<4->ak t (ak b (r:Nat))=ak v (r:Nat)) :
 ∃acc' w',dB [.list (AL.map aC.d),.int 2,dC 1 ss o,.list [.int (w:Nat)]]= .ok (.tuple [.int (w':Nat),.list (acc'.map aC.d)])/\Cy gs acc'/\acc'.length<=AL.length+3/\WAt acc' w' v/\∀x y,WAt AL x y->WAt acc' x y:=by
 have hlt:∀x∈[w],x<2+AL.length:=λx hx=>by rw[aI.mp hx];exact hw.lt
 obtain ⟨a1,a2,a3,a4,a5⟩:=Np C A.ok A.gin rfl hlt;refine ⟨_,_,p_add (hs:=[w]) C.ok rfl (by lia) (by have:=C.len;lia) C.lt (by decide),⟨a1,a2⟩,a4,⟨a3,λr hr=>?_⟩,λx y h=>⟨by rw[ai];have:=h.lt;lia,λr hr=>by rw[(a5 r).1 x h.lt];exact h.val r hr⟩⟩;rw[(a5 r).2,a8,fv,hw.val r hr,<- hv r hr];congr 1;rw[Wq]
theorem Df(hi:i<2)(h:∀r:Nat,r<4->ak (r:Nat) (i:Nat)=ak t (r:Nat)):WAt AL i t:=⟨by lia,λr hr=>by
 rw[Bx hi,Bj,ae,br,eP hi,<- h r hr];rfl⟩
theorem qQ{P:Nat->Prop}(h0:P 0)(h1:P 1)(h2:P 2)(h3:P 3):∀r,r<4->P r:=λr hr=>by
 rcases (by lia:r=0\/r=1\/r=2\/r=3) with rfl | rfl | rfl | rfl <;> assumption
structure V0 (gs:A9) (C:Nat->List aC×Nat):Prop where
 h:∀j,j<4->ir gs 1 (j:Nat) 3 (C j).1 (C j).2
noncomputable def jZ(C:Nat->List aC×Nat):ab:=.list ((List.range 4).map λj=>dC 1 (C j).1 (C j).2)
variable {C:Nat->List aC×Nat}
theorem vp(hj:j<4):AX (jZ C) (.int (j:Nat))= .ok (dC 1 (C j).1 (C j).2):=jE (by rw[br,eP hj];rfl)
noncomputable def yd(w5 w3 w0 w15:Nat):ab:=.dict [(.int 10,.int 0),(.int 12,.int 1),(.int 5,.int (w5:Nat)),(.int 3,.int (w3:Nat)),(.int 0,.int (w0:Nat)),(.int 15,.int (w15:Nat))]
theorem Xh(L:V0 gs C):∃AL w5 w3 w0 w15,jF [.list [],jZ C]= .ok (.tuple [yd w5 w3 w0 w15,.list (AL.map aC.d)])/\Cy gs AL/\AL.length<=12/\WAt AL w5 5/\WAt AL w3 3/\WAt AL w0 0/\WAt AL w15 15:=by
 have A0:Cy gs []:=⟨bc.nil,λs hs=>by cases hs⟩;have x0:∀AL,WAt AL 0 10:=λAL=>Df (by decide) (qQ (by decide) (by decide) (by decide) (by decide));have x1:∀AL,WAt AL 1 12:=λAL=>Df (by decide) (qQ (by decide) (by decide) (by decide) (by decide));obtain ⟨a1,w5,e1,A1,l1,h1,u1⟩:=tu (v:=5) (L.h 1 (by decide)) A0 (x0 []) (by decide) (qQ (by decide) (by decide) (by decide) (by decide));obtain ⟨a2,w3,e2,A2,l2,h2,u2⟩:=tu (v:=3) (L.h 1 (by decide)) A1 (x1 a1) (by have:([]:List aC).length=0:=rfl;lia) (qQ (by decide) (by decide) (by decide) (by decide));obtain ⟨a3,w0,e3,A3,l3,h3,u3⟩:=tu (v:=0) (L.h 0 (by decide)) A2 (x0 a2) (by have:([]:List aC).length=0:=rfl;lia) (qQ (by decide) (by decide) (by decide) (by decide));obtain ⟨a4,w15,e4,A4,l4,h4,u4⟩:=tu (v:=15) (L.h 3 (by decide)) A3 (x0 a3) (by have:([]:List aC).length=0:=rfl;lia) (qQ (by decide) (by decide) (by decide) (by decide));refine ⟨a4,w5,w3,w0,w15,?_,A4,by have:([]:List aC).length=0:=rfl;lia,u4 _ _ (u3 _ _ (u2 _ _ h1)),u4 _ _ (u3 _ _ h2),u4 _ _ h3,h4⟩;have i1:AX (jZ C) (.int 1)= .ok (dC 1 (C 1).1 (C 1).2):=vp (by decide);have i0:AX (jZ C) (.int 0)= .ok (dC 1 (C 0).1 (C 0).2):=vp (by decide);have i3:AX (jZ C) (.int 3)= .ok (dC 1 (C 3).1 (C 3).2):=vp (by decide);have e1:=e1;have e2:=e2;have e3:=e3;have e4:=e4;have cl:∀{k:Int}{f:B4->AO ab}{ms:List ME}{R:List (Int×MV)}{Γ:Ev}{ds:B4}{d dm:ab}{q:B0×Ev},evs ms Γ = .ok ds->f ds= .ok (.tuple [d,dm])->mF 0 R (Γ.set 0 (some dm))= .ok q->mF 0 ((k,.cl f ms)::R) Γ = .ok ((.int k,d)::q.1,q.2):=λh1 h2 h3=>by
  rw[mF,h1,AO.aP,h2,AO.aP];show AO.bind (mF 0 _ _) _=_;rw[h3];rfl
 have ev:∀{k:Int}{m:ME}{R:List (Int×MV)}{Γ:Ev}{d:ab}{q:B0×Ev},m Γ = .ok d->mF 0 R Γ = .ok q->mF 0 ((k,.ev m)::R) Γ = .ok ((.int k,d)::q.1,q.2):=λh1 h2=>by
  rw[mF,h1,AO.aP,h2];rfl
 have ar:∀{x y z:ab}{j k:Int},AX (jZ C) (.int j)= .ok z->evs [aj 0,eC (.int 2),ao AX (aj 1) (eC (.int j)),bQ [eC (.int k)]] [some x,some (jZ C)]= .ok [x,.int 2,z,.list [.int k]]:=λh=>by
  ext;rw[h];ext
 have run:=ev (k:=10) (m:=eC (.int 0)) (Γ:=[some (.list []),some (jZ C)]) rfl (ev (k:=12) (m:=eC (.int 1)) rfl (cl (k:=5) (ar (y:=.none) (k:=0) i1) e1 (cl (k:=3) (ar (y:=.none) (k:=1) i1) e2 (cl (k:=0) (ar (y:=.none) (k:=0) i0) e3 (cl (k:=15) (ar (y:=.none) (k:=0) i3) e4 (R:=[]) rfl)))));rw[jF,Oi];show AO.bind (CP 0 _ [some (.list []),some (jZ C)]) fin=_;rw[CP,run,AO.aP];show AO.bind (gd _ _) fin=_;rw[bw (by decide)];rfl
theorem vB{w:Int}(hm:g.1<=4)(hc:∀c∈cs,c.length=g.1):jj [dG g.1 g.2,.list (cs.map dL),.int w]= .ok (xr (cs.find? λc=>decide (cA g.2 c 2=w))):=by
 unfold jj;ext;rw[qZ dL dL (λc=>decide (cA g.2 c 2=w)) λc hcs=>?_]
 . cases cs.find? λc=>decide (cA g.2 c 2=w) with
   | none=>ext;rfl
   | some c=>ext;rfl
 . ext;rw[show pG [dG g.1 g.2,dL c,.int 2]= .ok (.int (cA g.2 c 2)) from Hx (hc c hcs) hm (by decide)];ext;cases decide (cA g.2 c 2=w) <;> rfl
theorem Lr:Pq [yd j W p m]= .ok (dL eY):=by
 show gd (6<=bE) _=_;rw[bw (by decide)];rfl
noncomputable def gq(w5 w3 w0 w15:Nat)(t:Int):Nat:=if t=10 then 0 else if t=12 then 1 else if t=5 then w5 else if t=3 then w3 else if t=0 then w0 else w15
theorem Wa(h:t∈eY):ixY (yd j W p m) (.int t)= .ok (.int (gq j W p m t:Nat)):=by
 have:=by simpa[eY] using h
 rcases this with rfl | rfl | rfl | rfl | rfl | rfl <;> rfl
theorem adu(L:V0 gs C)(hg:g∈gs)(hG:g.1<=4/\0<=g.2/\g.2<2^2^g.1)(hk:¬ Kp g.2 4 iz g.1):∃ss o,fU [dG g.1 g.2,jZ C]= .ok (dC 2 ss o)/\ir gs 2 7 16 ss o:=by
 obtain ⟨AL,w5,w3,w0,w15,et,A,hl,h5,h3,h0,h15⟩:=Xh L;obtain ⟨m4,b0,b1⟩:=hG;have wat:∀t∈eY,WAt AL (gq w5 w3 w0 w15 t) t:=λt ht=>by
  have:=by simpa[eY] using ht
  rcases this with rfl | rfl | rfl | rfl | rfl | rfl
  . exact (show WAt AL 0 10 from Df (by decide) (qQ (by decide) (by decide) (by decide) (by decide)))
  . exact (show WAt AL 1 12 from Df (by decide) (qQ (by decide) (by decide) (by decide) (by decide)))
  . exact h5
  . exact h3
  . exact h0
  . exact h15
 have hcs:∀c∈gJ eY g.1,c.length=g.1:=λc hc=>(jB.mp hc).1;have f7:=vB (w:=7) m4 hcs;have f8:=vB (w:=8) m4 hcs;have lay:∀(c:B3) (v:Int),c∈gJ eY g.1->cA g.2 c 2=v->Cy gs (AL++[⟨g.1,g.2,c.map (gq w5 w3 w0 w15)⟩])/\WAt (AL++[⟨g.1,g.2,c.map (gq w5 w3 w0 w15)⟩]) (2+AL.length) v:=λc v hc hv=>by
  obtain ⟨c1,c2⟩:=jB.mp hc;have ok:bc 2 (AL++[⟨g.1,g.2,c.map (gq w5 w3 w0 w15)⟩]):=A.ok.snoc ⟨m4,by rw[af];exact c1,λk hk=>by
   obtain ⟨t,ht,rfl⟩:=cf.mp hk;exact (wat t (c2 t ht)).lt,b0,b1⟩
  refine ⟨⟨ok,λs hs=>?_⟩,by rw[ai,cy];lia,λr hr=>?_⟩
  . rcases cE.mp hs with z | z
    . exact A.gin s z
    . rw[aI.mp z];exact hg
  . rw[iK];unfold stepV;have hvl:=fc (n:=2) (ss:=AL) (r:=r);rw[ae,b9 (by lia),show 2+AL.length - (b8 2 AL r).length=0 by lia,<- hv];show ak g.2 (aX ((c.map (gq w5 w3 w0 w15)).map _))=_;rw[cA,gB (λ_=>aM _ _) hr,de];congr 2;exact cn λt ht=>(wat t (c2 t ht)).val r hr
 have hk6:eY.length<=16:=by decide
 have comp:∀(c:B3) (Γ:Ev),c∈gJ eY g.1->gv Γ 3=some (yd w5 w3 w0 w15)->gv Γ 6=some (dL c)->cu (itL (aj 6)) (gN 0) (eC (.bool true)) (ao ixY (aj 1) (aj 0)) 1 [3] Γ = .ok (.list (dN (c.map (gq w5 w3 w0 w15)))):=λc Γ hc g3 g6=>by
  obtain ⟨c1,c2⟩:=jB.mp hc;rw[Dw (ns:=c) (λt=>.int (gq w5 w3 w0 w15 t:Nat)) ?_ (Bz (by lia)) λt ht=>?_]
  . rw[dN,de];rfl
  . rw[MF,show aj 6 Γ = .ok (dL c) by rw[aj,g6]];rfl
  . have eb:gk 1 [3] Γ=[none,some (yd w5 w3 w0 w15)]:=by rw[<- g3];rfl
    rw[eb];ext;rw[Wa (c2 t ht)]
 have i1:AX (jZ C) (.int 1)= .ok (dC 1 (C 1).1 (C 1).2):=vp (by decide);have fin:∀(c:B3) (v:Int),c∈gJ eY g.1->cA g.2 c 2=v->aC.d ⟨g.1,g.2,c.map (gq w5 w3 w0 w15)⟩= .tuple [dG g.1 g.2,.tuple (dN (c.map (gq w5 w3 w0 w15)))]:=λc v _ _=>rfl;unfold fU;ext;rw[et];ext;rw[Lr];ext;rw[rep1 (by lia)];ext;rw[show ax g.1 (dL eY)=(ax g.1 eY).map dL by rw[k9],Dy (enc:=dL) (λ_=>rfl) (λq hq=>by rw[(qr.mp hq).2];exact hk6) (by rw[ck];exact m4),<- tW];ext;rw[show AX d9 (.int 1)= .ok (.int 7) from rfl];ext;rw[f7]
 cases h7:(gJ eY g.1).find? (λc=>decide (cA g.2 c 2=7)) with
 | some c=>
  have hc:=nk h7;have hs:=vn h7;have hv:cA g.2 c 2=7:=of_decide_eq_true hs;obtain ⟨A1,W1⟩:=lay c 7 hc hv;ext;rw[show qz (xr (some c)) .none= .ok (.bool false) from rfl];ext;rw[comp c _ hc rfl rfl];ext;rw[bw (Bz (by lia))];ext;rw[show qz (xr (some c)) .none= .ok (.bool false) from rfl];ext;have eC:ab.tuple [.int 2,.tuple (AL.map aC.d++[.tuple [dG g.1 g.2,.tuple (dN (c.map (gq w5 w3 w0 w15)))]]),.int ((((AL.map aC.d++[ab.tuple [dG g.1 g.2,.tuple (dN (c.map (gq w5 w3 w0 w15)))]]).length:Nat):Int)+1)]=dC 2 (AL++[⟨g.1,g.2,c.map (gq w5 w3 w0 w15)⟩]) (2+AL.length):=by
   rw[dC,a7];congr 3;rw[ai,af,cy];congr 2;lia
  rw[eC];have Cc:ir gs 2 7 16 (AL++[⟨g.1,g.2,c.map (gq w5 w3 w0 w15)⟩]) (2+AL.length):=⟨A1.ok,W1.lt,A1.gin,W1.val,by rw[ai,cy];lia⟩;obtain ⟨ss,o,e,hC⟩:=Cc.shared (by decide) (by decide);rw[e];exact ⟨ss,o,rfl,hC⟩
 | none=>
  have n7:∀c∈gJ eY g.1,cA g.2 c 2≠7:=λc hc z=>by
   have:=oj.mp h7 c hc;rw[decide_eq_true z] at this;exact this rfl
  obtain ⟨c0,q1,q2,q3⟩:=Sw hk;have hc0:c0∈gJ eY g.1:=jB.mpr ⟨q1,q2⟩;have h80:cA g.2 c0 2=8:=q3.resolve_left (n7 c0 hc0);ext;rw[show qz (xr none) .none= .ok (.bool true) from rfl];ext;rw[show AX zR (.int 1)= .ok (.int 8) from rfl];ext;rw[f8]
  cases h8:(gJ eY g.1).find? (λc=>decide (cA g.2 c 2=8)) with
  | none=>
   have:=oj.mp h8 c0 hc0;rw[decide_eq_true h80] at this;exact absurd rfl this
  | some c=>
   have hc:=nk h8;have hs:=vn h8;have hv:cA g.2 c 2=8:=of_decide_eq_true hs;obtain ⟨A1,W1⟩:=lay c 8 hc hv;obtain ⟨a2,w2,e2,A2,l2,W2,_⟩:=tu (v:=7) (L.h 1 (by decide)) A1 W1 (by rw[ai,cy];lia) (qQ (by decide) (by decide) (by decide) (by decide));rw[ai,cy] at l2;ext;rw[comp c _ hc rfl rfl];ext;rw[bw (Bz (by lia))];ext;rw[show qz (xr none) .none= .ok (.bool true) from rfl];ext;rw[i1];ext;have eA:dB [.list (AL.map aC.d++[.tuple [dG g.1 g.2,.tuple (dN (c.map (gq w5 w3 w0 w15)))]]),.int 2,dC 1 (C 1).1 (C 1).2,.list [.int ((((AL.map aC.d++[ab.tuple [dG g.1 g.2,.tuple (dN (c.map (gq w5 w3 w0 w15)))]]).length:Nat):Int)+1)]]= .ok (.tuple [.int (w2:Nat),.list (a2.map aC.d)]):=by
    rw[<- e2,a7];have ee:(((AL.map aC.d++[ab.tuple [dG g.1 g.2,.tuple (dN (c.map (gq w5 w3 w0 w15)))]]).length:Nat):Int)+1=((2+AL.length:Nat):Int):=by
     rw[ai,af,cy];lia
    rw[ee];rfl
   rw[eA];ext;have Cc:ir gs 2 7 16 a2 w2:=⟨A2.ok,W2.lt,A2.gin,W2.val,by lia⟩;obtain ⟨ss,o,e,hC⟩:=Cc.shared (by decide) (by decide);rw[show ab.tuple [.int 2,.tuple (a2.map aC.d),.int (w2:Nat)]=dC 2 a2 w2 from rfl,e];exact ⟨ss,o,rfl,hC⟩
theorem NZ:(cY 1).Nodup:=by decide +kernel
theorem gR.afH{d:ab}{l:Nat}(h:gR j d u W l)(hl:l<=90)(hx:W<=4000):∃ss o,jm [d,.int (j:Nat)]= .ok (dC j ss o)/\bc j ss/\NNs ss/\stW ss<=W/\o<j+ss.length/\∀r,r<2^j->(b8 j ss r).getD o 0=u r:=by
 obtain ⟨v,w,k,h1,h2,h3,h4⟩:=h;obtain ⟨t1,t2,t3⟩:=h1.ok k (ay _);obtain ⟨more,e,m1,m2⟩:=t3 [];rw[fe] at e;have KC:=Ff (φ:=λ_ _ xs=>1+xs.sum) (z:=(0:Int)) ck (λk i hi=>by rw[Aq,ae,hZ hi];rfl) (λk m b ds=>t8) t1 (bc.nil);have hml:=by
  have:∀l:List aC,l.length<=stW l:=λl=>by
   induction l with
   | nil=>exact ay _
   | cons s l ih=>
    have:stW (s::l)=wt s+stW l:=by unfold stW;rw[a8,jS]
    have h3:3<=wt s:=by unfold wt;split <;> lia
    rw[bt];lia
  exact this more
 have kl:=KC.len;rw[e] at kl;have e0:((([]:List aC).length:Nat):Int)=0:=rfl;refine ⟨_,_,Fv t1 (by lia) (by lia),KC.ok,by rw[e];exact m1,by rw[e];lia,KC.lt,λr hr=>?_⟩;have KV:=Ff (φ:=λ_ b xs=>ak b (aX xs)) (z:=(0:Int)) (bH j r) (λk i hi=>by
  rw[Ji,Bj,ae,br,eP hi];rfl) (λk m b ds=>yx) t1 (bc.nil)
 rw[qb,KV.val,t2 r,h2 r]
theorem aa2{n:Nat}(hg:∀g∈gs,g.1<=4/\0<=g.2/\g.2<2^2^g.1)(hgl:gs.length<=8)(hf:tU gs=true)(hn:n<=4)(hn1:1<=n)(h0:0<=t)(h1:t<2^2^n) :
 ∃ss o,zp [.list (gs.map AZ),dG n t]= .ok (dC n ss o)/\ir gs n t 429 ss o:=by
 have hm:=λg h=>(hg g h).1;have hcn:kO (2^2^1) gs<=20000:=by
  have e1:kO (2^2^1) gs<=gs.length*256:=abj λg hgg=>by
   have h6:(2^2^1)^g.1<=(2^2^1)^4:=fq (by decide) (hm g hgg);exact dc h6 (by decide)
  have e3:gs.length*256<=8*256:=Nat.mul_le_mul_right _ hgl;lia
 obtain ⟨W,e1,I,F,hL⟩:=Xr (qP 1) (λfs ws t w j I e h=>j.step I e h NZ) (Ma NZ) (by decide) hgl hm hcn;have e1:ql [.list (gs.map AZ),.int 1]= .ok (.dict (Bi W)):=e1;have nd:=by have:=I.nd;rwa [show aQ W++aQ []=aQ W from dA _] at this
 have hW4:=by
  have:=o4 (N:=4) nd λx hx=>I.bd x (eM _ hx);unfold aQ at this;rwa [af] at this
 have four:=VL I.whole hf;have lone:∀j:Nat,∃q:List aC×Nat,j<4->iG [.dict (Bi W),.int (j:Nat),.int ((1:Nat):Int)]= .ok (dC 1 q.1 q.2)/\ir gs 1 (j:Nat) 3 q.1 q.2:=λj=>by
  by_cases hj:j<4
  . obtain ⟨ss,o,e,hC⟩:=Hh I F hg (by lia) (by decide) (lE.mp (four j (by lia) (by lia)));exact ⟨(ss,o),λ_=>⟨e,hC.ok,hC.lt,hC.gin,hC.val,dc hC.len (by lia)⟩⟩
  . exact ⟨([],0),λz=>absurd z hj⟩
 obtain ⟨C,hC⟩:∃C:Nat->List aC×Nat,∀j,j<4->iG [.dict (Bi W),.int (j:Nat),.int (1:Int)]= .ok (dC 1 (C j).1 (C j).2)/\ir gs 1 j 3 (C j).1 (C j).2:=⟨λj=>(lone j).choose,λj hj=>(lone j).choose_spec hj⟩;have L:V0 gs C:=⟨λj hj=>(hC j hj).2⟩;obtain ⟨B,ek,hB⟩:=JD hm;have hno:∀k∈Ks5,∃(i:Nat) (c:B3) (g:Nat×Int),B k= .tuple [.int (i:Nat),dL c]/\gs[i]?=some g/\¬ Kp g.2 k.2.1 k.2.2 g.1:=λk hk=>by
  rcases hB.h k hk with ⟨_,z⟩ | ⟨h,_⟩
  . have:=fS.mp hf k hk;rw[z] at this;cases this
  . exact h
 obtain ⟨i5,c5,g5,b5,q5,k5⟩:=hno ("even",4,iz) (by decide);have hg5:=eJ q5;obtain ⟨ssA,oA,eA,hA⟩:=adu L hg5 (hg g5 hg5) k5;obtain ⟨d,ed,hd⟩:=Lx hn hn1 h0 h1;obtain ⟨sT,oT,eT,T1,T2,T3,T4,T5⟩:=hd.afH (by decide) (by decide);obtain ⟨AL,o',eR,R1,R2,R3,R4,R5⟩:=Qp (L.h 1 (by decide)) hA T1 T2 (by lia) (by lia) T4;have Cc:ir gs n t 429 AL o':=⟨R1,R3,R2,λr hr=>by rw[R5,T5 r hr,yn hr],by lia⟩;obtain ⟨ss,o,eS,hS⟩:=Cc.shared (by lia) (by decide);refine ⟨ss,o,?_,hS⟩;unfold zp;ext;rw[ek];ext;rw[show Ku (eC lg) (aj 2) [some (.list (gs.map AZ)),some (dG n t),some (.list (Ks5.map B)),none,none,none,none,none,none]= .ok (Ks5.map λk=>ab.tuple [.str k.1,B k]) from rfl,AO.aP];refine bJ (λ_=>[some (.list (gs.map AZ)),some (dG n t),some (.list (Ks5.map B)),none,none,none,none,none,none]) rfl (λi x hx=>?_) ?_
 . obtain ⟨k,hk,rfl⟩:=cG hx;obtain ⟨i,c,g,e,_,_⟩:=hno k (eJ hk);rw[e];ext;rw[show qz (.tuple [.int (i:Nat),dL c]) .none= .ok (.bool false) from rfl];ext
 ext;rw[e1];ext;rw[show ab.int 4= .int ((4:Nat):Int) from rfl,jx (n:=4) (λj=>dC 1 (C j).1 (C j).2) ?_ (Bz (by decide)) λj hj=>?_]
 rotate_left
 . ext;rw[cT (by decide)]
 . ext;rw[(hC j hj).1]
 ext;rw[show ab.int ((4:Nat):Int)= .int 4 from rfl,show AX (.list (Ks5.map B)) (.int 4)= .ok (.tuple [.int (i5:Nat),dL c5]) by rw[<- b5];rfl];ext;rw[jE (by rw[br,q5];rfl)];ext;rw[show ab.list ((List.range 4).map λj=>dC 1 (C j).1 (C j).2)=jZ C from rfl];have kit:∀Γ:Ev,gv Γ 6=some (jZ C)->gv Γ 7=some (dG g5.1 g5.2)->8 < Γ.length->zA 8 [((eC gA),(ao AX (aj 6) (eC (.int 1)))),((eC d9),(aO fU [(aj 7),(aj 6)]))] Γ = .ok (.nx (Γ.set 8 (some (Ed (C 1).1 (C 1).2 ssA oA)))):=λΓ g6 g7 hl=>by
  have v6:aj 6 Γ = .ok (jZ C):=by rw[aj,g6]
  have v7:aj 7 Γ = .ok (dG g5.1 g5.2):=by rw[aj,g7]
  have a1:ao AX (aj 6) (eC (.int 1)) Γ = .ok (dC 1 (C 1).1 (C 1).2):=by
   rw[Jz,v6];ext;exact vp (by decide)
  have a2:aO fU [(aj 7),(aj 6)] Γ = .ok (dC 2 ssA oA):=by
   rw[mX,Bd,v7,AO.aP,Bd,v6];exact eA
  rw[zA,show zK [((eC gA),(ao AX (aj 6) (eC (.int 1)))),((eC d9),(aO fU [(aj 7),(aj 6)]))] Γ = .ok [(gA,dC 1 (C 1).1 (C 1).2),(d9,dC 2 ssA oA)] by
   rw[zK,Dn,AO.aP,a1,AO.aP,zK,Dn,AO.aP,a2];rfl,AO.aP,bw ⟨show (BZ [(gA,ab.none),(d9,ab.none)]).Nodup by decide,Nat.le_of_ble_eq_true rfl,hl⟩]
  rfl
 rw[kit _ rfl rfl (of_decide_eq_true rfl)];ext;unfold Jt;ext;rw[ed];ext;rw[eT];ext;rw[eR];ext;rw[eS];rfl
noncomputable def fD:B4->AO ab:=fnR 2 (aJ (sIf (ao ltD (aj 1) (eFn gQ [(aj 0)])) (bF (ao AX (aj 0) (aj 1))) cQ)
 (aJ (sIf (ao eqD (eFn gQ [(aj 0)]) (eC (.int 0))) (bF (ao dz (ao mK (ao mK (aj 1) (aj 1)) (eC (.int 48271))) (ao mK (eC (.int 7)) (aj 1)))) cQ)
 (bF (ao dz (ao pK (ao AX (aj 0) (ao mO (aj 1) (eFn gQ [(aj 0)]))) (ao dz (eC (.int 1)) (ao pK (aj 1) (eFn gQ [(aj 0)])))) (ao mK (ao mK (aj 1) (aj 1)) (eC (.int 7919)))))))
noncomputable def qL:B4->AO ab:=fnR 3 (aJ (aW 1 (ao AX (bQ [(eC (.int 2)),(eC (.int 2)),(eC (.int 1)),(eC (.int 3)),(eC (.int 2)),(eC (.int 2)),(eC (.int 3)),(eC (.int 1)),(eC (.int 0)),(eC (.int 4))]) (ao mO (aj 0) (eC (.int 10)))))
 (aJ (aW 0 (ao pK (aj 0) (eC (.int 10))))
 (aJ (aW 2 (bQ [(eC (.int 8)),(eC (.int 14)),(eC (.int 6)),(eC (.int 7)),(eC (.int 9)),(eC (.int 1)),(eC (.int 11)),(eC (.int 2))]))
 (aJ (sIf (uE (ao eqD (aj 1) (eC (.int 2))) (ao eqD (ao mO (aj 0) (eC (.int 3))) (eC (.int 0)))) (bF (bN [(eC (.int 2)),(ao AX (aj 2) (ao mO (ao pK (aj 0) (eC (.int 3))) (eC (.int 8))))])) cQ)
 (bF (bN [(aj 1),(ao mO (ao dz (ao mK (ao pK (aj 0) (eC (.int 3))) (eC (.int 40503))) (aj 0)) (ao AX (bQ [(eC (.int 2)),(eC (.int 4)),(eC (.int 16)),(eC (.int 256)),(eC (.int 65536))]) (aj 1)))]))))))
noncomputable def dD:B4->AO ab:=fnR 7 (aJ (aW 2 (ao ni (eC (.int 1)) (ao AX (aj 0) (eC (.int 0)))))
 (aJ (aW 3 (cu (fY (aj 2)) (gN 0) (eC (.bool true)) (ao oh (ao qJ (ao AX (aj 1) (eC (.int 1))) (aj 0)) (eC (.int 1))) 1 [0]))
 (aJ (sIf (ao eqD (aj 1) (eC (.str "low"))) (bF (ao eqD (ao AX (aj 3) (eC (.int 0))) (eC (.int 0)))) cQ)
 (aJ (sIf (ao eqD (aj 1) (eC (.str "high"))) (bF (ao eqD (ao AX (aj 3) (ao jt (aj 2) (eC (.int 1)))) (eC (.int 1)))) cQ)
 (aJ (sIf (ao eqD (aj 1) (eC (.str "turn"))) (bF (ao eqD (cu (fY (aj 2)) (gN 0) (ao eqD (ao AX (aj 1) (aj 0)) (ao AX (aj 1) (ao jt (ao jt (aj 2) (eC (.int 1))) (aj 0)))) (aj 0) 1 [3,2]) (bQ []))) cQ)
 (aJ (cz (fY (aj 2)) (gN 4) [4,5,6] (aJ (aW 5 (ao AX (aj 3) (eC (.int 0))))
 (aJ (cz (fY (ao AX (aj 0) (eC (.int 0)))) (gN 6) [6] (aJ (sIf (uE (ao eqD (aj 1) (eC (.str "rise"))) (ao gtD (ao AX (aj 3) (aj 4)) (ao AX (aj 3) (ao orD (aj 4) (ao ni (eC (.int 1)) (aj 6)))))) (bF (eC (.bool false))) cQ)
 (aW 5 (ao dz (aj 5) (ao mK (ao oh (ao qJ (aj 4) (aj 6)) (eC (.int 1))) (ao dz (ao AX (aj 3) (ao ni (eC (.int 1)) (aj 6))) (ao AX (aj 3) (eC (.int 0)))))))))
 (sIf (uE (ao eqD (aj 1) (eC (.str "even"))) (ao neD (ao mO (aj 5) (eC (.int 2))) (ao AX (aj 3) (aj 4)))) (bF (eC (.bool false))) cQ))))
 (bF (eC (.bool true)))))))))
noncomputable def qd:B4->AO ab:=fnR 8 (aJ (aW 2 (aO fD [(aj 0),(aj 1)]))
 (aJ (aW 3 (ao AX (bQ [(eC (.str "low")),(eC (.str "high")),(eC (.str "turn")),(eC (.str "rise")),(eC (.str "even"))]) (ao mO (ao pK (aj 2) (eC (.int 4))) (eC (.int 5)))))
 (aJ (aW 4 (bQ [(bQ [(bN [(eC (.int 2)),(eC (.int 7))])]),(bQ [(bN [(eC (.int 2)),(eC (.int 1))])]),(bQ [(bN [(eC (.int 2)),(eC (.int 8))]),(bN [(eC (.int 1)),(eC (.int 1))])]),(bQ [(bN [(eC (.int 2)),(eC (.int 14))]),(bN [(eC (.int 1)),(eC (.int 1))])]),(bQ [(bN [(eC (.int 2)),(eC (.int 8))]),(bN [(eC (.int 2)),(eC (.int 6))]),(bN [(eC (.int 0)),(eC (.int 1))])]),(bQ [(bN [(eC (.int 2)),(eC (.int 13))]),(bN [(eC (.int 0)),(eC (.int 0))])])]))
 (aJ (aW 4 (ao dz (aj 4) (bQ [(bQ [(bN [(eC (.int 3)),(eC (.int 23))]),(bN [(eC (.int 2)),(eC (.int 7))])]),(bQ [(bN [(eC (.int 2)),(eC (.int 2))]),(bN [(eC (.int 0)),(eC (.int 1))])]),(bQ [(bN [(eC (.int 3)),(eC (.int 202))]),(bN [(eC (.int 0)),(eC (.int 0))]),(bN [(eC (.int 0)),(eC (.int 1))])]),(bQ [(bN [(eC (.int 2)),(eC (.int 11))]),(bN [(eC (.int 1)),(eC (.int 1))])]),(bQ [(bN [(eC (.int 4)),(eC (.int 32767))])])])))
 (aJ (sIf (ao eqD (ao mO (aj 2) (eC (.int 4))) (eC (.int 0))) (bF (eFn Ht [(ao AX (aj 4) (ao mO (ao pK (aj 2) (eC (.int 4))) (eC (.int 11))))])) cQ)
 (aJ (aW 5 (bQ []))
 (aJ (cz (fY (ao mO (ao pK (aj 2) (eC (.int 20))) (eC (.int 7)))) (gN 6) [6,7] (aJ (aW 7 (aO qL [(aO fD [(aj 0),(ao dz (ao dz (aj 1) (eC (.int 1))) (aj 6))])]))
 (aJ (sIf (uE (ao ltD (ao mO (aj 2) (eC (.int 4))) (eC (.int 3))) (xu (eUn Ar (aO dD [(aj 7),(aj 3)])))) (aW 7 (ao ixY (iZ [("low",(bN [(eC (.int 2)),(eC (.int 8))])),("high",(bN [(eC (.int 2)),(eC (.int 14))])),("turn",(bN [(eC (.int 1)),(eC (.int 1))])),("rise",(bN [(eC (.int 2)),(eC (.int 8))])),("even",(bN [(eC (.int 2)),(eC (.int 6))]))]) (aj 3))) cQ)
 (lL 5 (aj 7)))))
 (bF (aj 5)))))))))
noncomputable def lY:B4->AO ab:=fnR 6 (aJ (aW 2 (bQ [(bQ [])]))
 (aJ (cz (fY (aj 1)) (gN 3) [3,4,5] (aJ (aW 4 (bQ []))
 (aJ (cz (itL (aj 2)) (gN 5) [5] (Em 4 (cu (itL (aj 0)) (gN 0) (eC (.bool true)) (ao dz (aj 1) (bQ [(aj 0)])) 1 [5])))
 (aW 2 (aj 4)))))
 (bF (aj 2))))
noncomputable def mY:B4->AO ab:=fnR 6 (aJ (aW 3 (eC (.int 0)))
 (aJ (cz (fY (ao ni (eC (.int 1)) (aj 2))) (gN 4) [4,5] (aJ (aW 5 (eFn yw [(cu (itE (aj 1)) (gT [(gN 0),(gN 1)]) (eC (.bool true)) (ao ni (ao oh (ao qJ (aj 1) (aj 2)) (eC (.int 1))) (aj 0)) 2 [4])]))
 (aW 3 (ao orD (aj 3) (ao ni (ao oh (ao qJ (ao AX (aj 0) (eC (.int 1))) (aj 5)) (eC (.int 1))) (aj 4))))))
 (bF (aj 3))))
noncomputable def n6:B4->AO ab:=fnR 8 (aJ (aW 2 (eUn lrD (ao ni (eC (.int 1)) (aj 1))))
 (aJ (aW 3 (iZ []))
 (aJ (cz (fY (aj 1)) (gN 4) [4] (gW 3 (eFn yw [(cu (itL (aj 2)) (gN 0) (eC (.bool true)) (ao ni (ao oh (ao qJ (aj 0) (aj 1)) (eC (.int 1))) (aj 0)) 1 [4])]) (eC (.bool true))))
 (aJ (aW 5 (eUn Fq (eC (.int 1))))
 (aJ (oF 1000000 (ao neD (aj 5) (eFn mJ [(aj 3)])) [6,7] (aJ (aW 5 (eFn mJ [(aj 3)]))
 (cz (itL (aj 0)) (gN 6) [6,7] (cz (itL (aO lY [(eFn zu [(aj 3)]),(ao AX (aj 6) (eC (.int 0)))])) (gN 7) [7] (gW 3 (aO mY [(aj 6),(aj 7),(aj 1)]) (eC (.bool true)))))))
 (bF (aj 3)))))))
noncomputable def uw:B4->AO ab:=fnR 6 (aJ (aW 2 (cu (fY (ao AX (aj 0) (eC (.int 0)))) (gN 0) (eC (.bool true)) (ao oh (ao qJ (aj 1) (aj 0)) (eC (.int 1))) 1 [1]))
 (aJ (cz (itL (ao AX (aj 0) (eC (.int 1)))) (gT [(gN 3),(gN 4)]) [3,4,5] (aJ (aW 5 (eFn yw [(cu (itE (aj 4)) (gT [(gN 0),(gN 1)]) (eC (.bool true)) (ao ni (ao AX (aj 2) (aj 1)) (aj 0)) 2 [2])]))
 (lL 2 (ao oh (ao qJ (ao AX (aj 3) (eC (.int 1))) (aj 5)) (eC (.int 1))))))
 (bF (ao AX (aj 2) (ao AX (aj 0) (eC (.int 2)))))))
noncomputable def lN:B4->AO ab:=fnR 3 (aJ (aW 2 (aO zp [(aj 0),(aj 1)]))
 (aJ (sIf (eOr (ao neD (ao AX (aj 2) (eC (.int 0))) (ao AX (aj 1) (eC (.int 0)))) (ao neD (cu (itL (ao AX (aj 2) (eC (.int 1)))) (gN 0) (ao lZ (ao AX (aj 0) (eC (.int 0))) (aj 1)) (aj 0) 1 [0]) (bQ []))) (bF (eC (.bool false))) cQ)
 (bF (ao eqD (cu (fY (ao ni (eC (.int 1)) (ao AX (aj 1) (eC (.int 0))))) (gN 0) (eC (.bool true)) (aO uw [(aj 1),(aj 0)]) 1 [2]) (cu (fY (ao ni (eC (.int 1)) (ao AX (aj 1) (eC (.int 0))))) (gN 0) (eC (.bool true)) (ao oh (ao qJ (ao AX (aj 1) (eC (.int 1))) (aj 0)) (eC (.int 1))) 1 [1])))))
noncomputable def lV:B4->AO ab:=fnR 3 (aJ (aW 1 (bQ []))
 (aJ (cz (itL (aj 0)) (gN 2) [2] (sIf (eOr (ao ltD (ao AX (aj 2) (eC (.int 0))) (eC (.int 3))) (uE (ao eqD (ao AX (aj 2) (eC (.int 0))) (eC (.int 3))) (ao eqD (cu (itL (aj 1)) (gN 0) (ao eqD (ao AX (aj 0) (eC (.int 0))) (eC (.int 3))) (aj 0) 1 []) (bQ [])))) (lL 1 (aj 2)) cQ))
 (bF (aj 1))))
noncomputable def vY:B4->AO ab:=fnR 10 (aJ (aW 1 (aO lV [(aO qd [(aj 0),(eC (.int 0))])]))
 (aJ (aW 2 (aO vd [(aj 1)]))
 (aJ (sIf (ao lZ (eC .none) (aj 2)) (aJ (cz (fY (eC (.int 5))) (gN 3) [3,4] (aJ (aW 4 (ao mO (ao dz (aO fD [(aj 0),(eC (.int 9))]) (ao mK (eC (.int 3)) (aj 3))) (eC (.int 16))))
 (sIf (eOr (xu (eUn Ar (aO lN [(aj 1),(bN [(eC (.int 2)),(aj 4)])]))) (xu (eUn Ar (aO lN [(aj 1),(bN [(eC (.int 1)),(ao mO (aj 4) (eC (.int 4)))])])))) (bF (eC (.bool false))) cQ)))
 (bF (eC (.bool true)))) cQ)
 (aJ (aW 5 (aO n6 [(aj 1),(eC (.int 2))]))
 (aJ (cz (Ku (eC lg) (aj 2)) (gT [(gN 6),(gN 7)]) [6,7,8,9] (sIf (ao qz (aj 7) (eC .none)) (aJ (aW 8 (aO wK [(aj 6)]))
 (aJ (aW 9 (eSl (bQ [(eC (.int 12)),(eC (.int 10))]) Qy (Rc (ao AX (aj 8) (eC (.int 0))))))
 (sIf (ao inY (aO mY [(aj 8),(eUn Qj (aj 9)),(eC (.int 2))]) (aj 5)) (bF (eC (.bool false))) cQ))) cQ))
 (bF (eC (.bool true))))))))
variable {L:B3}{h:Nat×Int}
section
theorem HX(ns:B3)(hns:ns.length<=63){k:Nat}(hk:k<=10000):∃c:Int,fD [dL ns,.int (k:Nat)]= .ok (.int c):=by
 unfold fD;ext;rw[Jf]
 by_cases h:k<ns.length
 . rw[if_pos (decide_eq_true (by lia)),vC h];ext;exact ⟨_,rfl⟩
 . rw[if_neg (by rw[decide_eq_true_eq];lia)];ext;rw[Jf];have hk2:((k:Nat):Int)*(k:Nat)<=10000*10000:=Int.mul_le_mul (by lia) (by lia) (by lia) (by lia);have hk0:0<=((k:Nat):Int)*(k:Nat):=Int.mul_nonneg (by lia) (by lia)
   by_cases h0:ns.length=0
   . rw[if_pos (decide_eq_true (by lia))];walk_at "go";exact ⟨_,rfl⟩
   . rw[if_neg (by rw[decide_eq_true_eq];lia)];have hp:(0:Int)<ns.length:=by lia
     obtain ⟨q,eq,hq⟩:=Xk (k:Int) hp;have hd:((k:Nat):Int) / ns.length<=10000:=AI (Int.ediv_le_self _ (by lia)) (by lia);have hd0:0<=((k:Nat):Int) / ns.length:=Int.ediv_nonneg (by lia) (by lia);ext;rw[bw hp];ext;rw[eq,vC (by lia)];ext;rw[bw (⟨hp,by lia⟩)];ext;rw[bw (⟨by lia,by lia⟩)];walk_at "go";exact ⟨_,rfl⟩
theorem ten(h:0<=v/\v<10):∃n:Nat,n<=4/\AX (.list [.int 2,.int 2,.int 1,.int 3,.int 2,.int 2,.int 3,.int 1,.int 0,.int 4]) (.int v)= .ok (.int (n:Nat)):=by
 have:v=0\/v=1\/v=2\/v=3\/v=4\/v=5\/v=6\/v=7\/v=8\/v=9:=by lia
 rcases this with rfl | rfl | rfl | rfl | rfl | rfl | rfl | rfl | rfl | rfl
 . exact ⟨2,by decide,rfl⟩
 . exact ⟨2,by decide,rfl⟩
 . exact ⟨1,by decide,rfl⟩
 . exact ⟨3,by decide,rfl⟩
 . exact ⟨2,by decide,rfl⟩
 . exact ⟨2,by decide,rfl⟩
 . exact ⟨3,by decide,rfl⟩
 . exact ⟨1,by decide,rfl⟩
 . exact ⟨0,by decide,rfl⟩
 . exact ⟨4,by decide,rfl⟩
theorem eight(h:0<=v/\v<8):∃x:Int,0<=x/\x<16/\AX (.list [.int 8,.int 14,.int 6,.int 7,.int 9,.int 1,.int 11,.int 2]) (.int v)= .ok (.int x):=by
 have:v=0\/v=1\/v=2\/v=3\/v=4\/v=5\/v=6\/v=7:=by lia
 rcases this with rfl | rfl | rfl | rfl | rfl | rfl | rfl | rfl <;> exact ⟨_,by decide,by decide,rfl⟩
theorem Oq{a b:Bool}:(if a=true then AO.ok (ab.bool b) else .ok (.bool false))= .ok (.bool (a&&b)):=by cases a <;> rfl
theorem acO(c:Int):∃(m:Nat) (b:Int),m<=4/\0<=b/\b<2^2^m/\qL [.int c]= .ok (dG m b):=by
 unfold qL;walk_at "go";obtain ⟨m,hm,em⟩:=ten ⟨kT _ (by decide),kx _ (by decide)⟩;rw[em];walk_at "go";rw[Di,Oq];have h2:=two_pos (2^m);generalize (decide ((m:Int)=2)&&decide (c / 10 % 3=0))=t
 cases t with
 | true=>
  obtain ⟨x,x0,x1,ex⟩:=eight ⟨kT _ (by decide),kx _ (by decide)⟩;rw[ex];walk_at "go";exact ⟨2,x,by decide,x0,x1,rfl⟩
 | false=>
  walk_at "go";rw[beyond hm];walk_at "go";exact ⟨m,_,hm,kT _ (by lia),kx _ h2,rfl⟩
theorem qS{y:Str}{t:Bool}(h1:eK (.str nm)=true)(h2:eK (.str y)=true)(h3:fw (.str nm) (.str y)=t):eqD (.str nm) (.str y)= .ok (.bool t):=by
 rw[eqD,bw ⟨h1,h2⟩,h3]
theorem R8:eqD (.str "low") (.str "low")= .ok (.bool true):=qS (by decide +kernel) (by decide +kernel) (by decide +kernel)
theorem PL:eqD (.str "low") (.str "high")= .ok (.bool false):=qS (by decide +kernel) (by decide +kernel) (by decide +kernel)
theorem PK:eqD (.str "low") (.str "turn")= .ok (.bool false):=qS (by decide +kernel) (by decide +kernel) (by decide +kernel)
theorem Qg:eqD (.str "low") (.str "rise")= .ok (.bool false):=qS (by decide +kernel) (by decide +kernel) (by decide +kernel)
theorem QF:eqD (.str "low") (.str "even")= .ok (.bool false):=qS (by decide +kernel) (by decide +kernel) (by decide +kernel)
theorem Qq:eqD (.str "high") (.str "low")= .ok (.bool false):=qS (by decide +kernel) (by decide +kernel) (by decide +kernel)
theorem LQ:eqD (.str "high") (.str "high")= .ok (.bool true):=qS (by decide +kernel) (by decide +kernel) (by decide +kernel)
theorem Lq:eqD (.str "high") (.str "turn")= .ok (.bool false):=qS (by decide +kernel) (by decide +kernel) (by decide +kernel)
theorem Mx:eqD (.str "high") (.str "rise")= .ok (.bool false):=qS (by decide +kernel) (by decide +kernel) (by decide +kernel)
theorem Mg:eqD (.str "high") (.str "even")= .ok (.bool false):=qS (by decide +kernel) (by decide +kernel) (by decide +kernel)
theorem Pz:eqD (.str "turn") (.str "low")= .ok (.bool false):=qS (by decide +kernel) (by decide +kernel) (by decide +kernel)
theorem K3:eqD (.str "turn") (.str "high")= .ok (.bool false):=qS (by decide +kernel) (by decide +kernel) (by decide +kernel)
theorem K6:eqD (.str "turn") (.str "turn")= .ok (.bool true):=qS (by decide +kernel) (by decide +kernel) (by decide +kernel)
theorem LC:eqD (.str "turn") (.str "rise")= .ok (.bool false):=qS (by decide +kernel) (by decide +kernel) (by decide +kernel)
theorem K9:eqD (.str "turn") (.str "even")= .ok (.bool false):=qS (by decide +kernel) (by decide +kernel) (by decide +kernel)
theorem Qn:eqD (.str "rise") (.str "low")= .ok (.bool false):=qS (by decide +kernel) (by decide +kernel) (by decide +kernel)
theorem Lp:eqD (.str "rise") (.str "high")= .ok (.bool false):=qS (by decide +kernel) (by decide +kernel) (by decide +kernel)
theorem Lz:eqD (.str "rise") (.str "turn")= .ok (.bool false):=qS (by decide +kernel) (by decide +kernel) (by decide +kernel)
theorem Mw:eqD (.str "rise") (.str "rise")= .ok (.bool true):=qS (by decide +kernel) (by decide +kernel) (by decide +kernel)
theorem Lb:eqD (.str "rise") (.str "even")= .ok (.bool false):=qS (by decide +kernel) (by decide +kernel) (by decide +kernel)
theorem Pr:eqD (.str "even") (.str "low")= .ok (.bool false):=qS (by decide +kernel) (by decide +kernel) (by decide +kernel)
theorem K4:eqD (.str "even") (.str "high")= .ok (.bool false):=qS (by decide +kernel) (by decide +kernel) (by decide +kernel)
theorem Lw:eqD (.str "even") (.str "turn")= .ok (.bool false):=qS (by decide +kernel) (by decide +kernel) (by decide +kernel)
theorem LK:eqD (.str "even") (.str "rise")= .ok (.bool false):=qS (by decide +kernel) (by decide +kernel) (by decide +kernel)
theorem Mf:eqD (.str "even") (.str "even")= .ok (.bool true):=qS (by decide +kernel) (by decide +kernel) (by decide +kernel)
local macro_rules | `(tactic| walk_at "eq")=>`(tactic| simp only[R8,PL,PK,Qg,QF,Qq,LQ,Lq,Mx,Mg,Pz,K3,K6,LC,K9,Qn,Lp,Lz,Mw,Lb,Pr,K4,Lw,LK,Mf])
noncomputable def vals(m:Nat)(b:Int):B3:=(List.range (2^m)).map λr=>ak b ((r:Nat):Int)
theorem ixV(hr:r<2^m):AX (dL (vals m b)) (.int (r:Nat))= .ok (.int (ak b (r:Nat))):=by
 rw[vC (by unfold vals;simpa using hr)];unfold vals;simp[eP hr]
theorem p2(m:Nat):(2:Int)^((m:Nat):Int).toNat=((2^m:Nat):Int):=by rw[cx];exact (ny 2 m).symm
theorem HB(hm:m<=4):2^m<=16:=dc (fq (by decide) hm) (by decide)
theorem pos2(m:Nat):0<2^m:=xl (by decide)
theorem vy{nm:ab}(hm:m<=4):cu (fY (aj 2)) (gN 0) (eC (.bool true)) (ao oh (ao qJ (ao AX (aj 1) (eC (.int 1))) (aj 0)) (eC (.int 1))) 1 [0] [some (dG m b),some nm,some (.int ((2^m:Nat):Int)),none,none,none,none]= .ok (dL (vals m b)):=by
 have h16:=HB hm;rw[jx (n:=2^m) (λr=>.int (ak b (r:Int))) ?_ (Bz (by lia)) λr hr=>?_]
 . rw[vals,ad1]
 . ext;rw[cT (by lia)]
 . walk_at "go";rw[ip];rfl
theorem aer(hm:m<=4):dD [dG m b,.str "low"]= .ok (.bool (decide (ak b 0=0))):=by
 unfold dD;walk_at "go";rw[p2,n9,vy hm];ext;walk_at "eq";ext;rw[show AX (dL (vals m b)) (.int 0)= .ok (.int (ak b 0)) from ixV (pos2 m)];ext
theorem abq(hm:m<=4):dD [dG m b,.str "high"]= .ok (.bool (decide (ak b (2^m - 1)=1))):=by
 have h0:=pos2 m;unfold dD;walk_at "go";rw[p2,n9,vy hm];ext;walk_at "eq";ext;walk_at "eq";ext;have e:((2^m:Nat):Int) - 1=((2^m - 1:Nat):Int):=by lia
 rw[e,ixV (by lia),<- e,ny];ext;rfl
theorem say{a t:Bool}{P:Prop}(ht:t=true↔P)(h:a=true↔P):AO.ok (ab.bool a)= .ok (.bool t):=by
 have:=Au.mpr (h.trans ht.symm);rw[this]
theorem abF(hm:m<=4){t:Bool}(ht:t=true↔Kp b 2 [1,2] m):dD [dG m b,.str "turn"]= .ok (.bool t):=by
 have h0:=pos2 m;have h16:=HB hm;unfold dD;walk_at "go";rw[p2,n9,vy hm];ext;walk_at "eq";ext;walk_at "eq";ext;walk_at "eq";ext;rw[Ho (n:=2^m) (λr=>decide (ak b r=ak b ((2^m - 1 - r:Nat):Int))) (λr=>.int r) ?_ (Bz (by lia)) (λr hr=>?_) λr hr _=>?_]
 . ext;have e1:ab.list (((List.range (2^m)).filter λr=>decide (ak b (r:Nat)=ak b ((2^m - 1 - r:Nat):Int))).map λr=>ab.int (r:Nat))=dL (((List.range (2^m)).filter λr=>decide (ak b (r:Nat)=ak b ((2^m - 1 - r:Nat):Int))).map λr=>((r:Nat):Int)):=by rw[dL,de];rfl
   rw[e1,show ab.list []=dL [] from rfl,RX];ext;refine say ht ?_;rw[decide_eq_true_eq,List.map_eq_nil_iff,zo,My];refine ⟨λh r hr=>?_,λh r hr=>?_⟩
   . have:=h r (dQ.mpr hr);rw[decide_eq_true_eq] at this;rw[show (2:Int)^m - 1 - (r:Nat)=((2^m - 1 - r:Nat):Int) by rw[show (2:Int)^m=((2^m:Nat):Int) from (ny 2 m).symm];lia];exact this
   . have hr:=dQ.mp hr;have:=h r hr;rw[decide_eq_true_eq];rw[show (2:Int)^m - 1 - (r:Nat)=((2^m - 1 - r:Nat):Int) by rw[show (2:Int)^m=((2^m:Nat):Int) from (ny 2 m).symm];lia] at this;exact this
 . ext;rw[cT (by lia)]
 . ext;rw[ixV hr];ext;rw[show ((2^m:Nat):Int) - 1 - r=((2^m - 1 - r:Nat):Int) by lia,ixV (by lia)];ext
 . ext
theorem Ju{g:MG}{b:MS}{d:ab}:∀{xs:B4} (S:Nat->Ev) (p:Nat->Bool),(∀i x,xs[i]?=some x->((g x (S i)).bind b).bind (ig cl)=if p i=true then .ok (.rt d) else .ok (.nx (S (i+1)))) ->
 forR g cl b xs (S 0)=if (List.range xs.length).any p=true then .ok (.rt d) else .ok (.nx (S xs.length))
 | [],_,_,_=>rfl
 | x::xs,S,p,h=>by
  have h1:=h 0 x rfl;have ih:=Ju (λi=>S (i+1)) (λi=>p (i+1)) λi y hy=>h (i+1) y hy;rw[bt,zi,kF,List.any_map]
  cases hp:p 0 with
  | true=>
   rw[if_pos hp] at h1;obtain ⟨o,h2,h3⟩:=AO.au h1;obtain ⟨Γ1,h4,h5⟩:=AO.au h2;rw[AH,if_pos rfl,forR,h4,AO.aP,h5,AO.aP];cases o <;> cases h3;rfl
  | false=>
   rw[if_neg (by rw[hp];exact eW)] at h1;rw[yV h1,ih,xw];rfl
theorem Uy{α:Type}{g:MG}{b:MS}{d:ab}{f:Out->AO α}{r:AO α}(S:Nat->Ev)(p:Nat->Bool)(h0:Γ=S 0)(h:∀i x,ds[i]?=some x->((g x (S i)).bind b).bind (ig cl)=if p i=true then .ok (.rt d) else .ok (.nx (S (i+1))))
 (k1:(List.range ds.length).any p=true->f (.rt d)=r) (k2:(List.range ds.length).any p=false->f (.nx (S ds.length))=r):(forR g cl b ds Γ).bind f=r:=by
 rw[h0,Ju S p h]
 cases hc:(List.range ds.length).any p with
 | true=>rw[if_pos rfl];exact k1 hc
 | false=>rw[if_neg eW];exact k2 hc
theorem adv(hr:r<16)(hk:j<4):kD (r:Nat) ((2^j:Nat):Int)=((r ||| 2^j:Nat):Int):=by
 have:∀r<16,∀j<4,kD (r:Nat) ((2^j:Nat):Int)=((r ||| 2^j:Nat):Int):=by decide +kernel
 exact this r hr j hk
theorem ix2(h:2^i<2^m):AX (dL (vals m b)) (.int (1*2^((i:Nat):Int).toNat))= .ok (.int (ak b (2^i))):=by
 rw[p2,n9,ixV h,show ((2^i:Nat):Int)=2^i from ny 2 i]
theorem PJ:AX (dL (vals m b)) (.int 0)= .ok (.int (ak b 0)):=ixV (pos2 m)
theorem acq(hm:m<=4){t:Bool}(ht:t=true↔Kp b 2 [0,2,3] m):dD [dG m b,.str "rise"]= .ok (.bool t):=by
 have h0:=pos2 m;have h16:=HB hm;unfold dD;walk_at "go";rw[p2,n9,vy hm];ext;walk_at "eq";ext;walk_at "eq";ext;walk_at "eq";ext;rw[cT (by lia)];ext;rw[upN,wB (d:=.bool false) (λr:Nat=>ab.int r) (λr=>(List.range m).any λk=>decide (ak b ((r ||| 2^k:Nat):Int)<ak b r)) λr hr=>?_]
 . cases hc:(List.range (2^m)).any λr=>(List.range m).any λk=>decide (ak b ((r ||| 2^k:Nat):Int)<ak b r) with
   | true=>
    rw[if_pos rfl];ext;refine say ht ⟨λh=>(nomatch h),λh=>?_⟩;obtain ⟨r,hr,h2⟩:=nX.mp hc;obtain ⟨k,hk,h3⟩:=nX.mp h2;have:=FN.mp h r k (dQ.mp hr) (dQ.mp hk);have h3:=of_decide_eq_true h3;lia
   | false=>
    rw[if_neg eW];ext;refine say ht ⟨λ_=>FN.mpr λr k hr hk=>?_,λ_=>rfl⟩;have h1:=sg.mp hc r (dQ.mpr hr);have h2:=sg.mp (oB.mpr h1) k (dQ.mpr hk);rw[decide_eq_true_eq] at h2;lia
 . have hr:=dQ.mp hr;ext;rw[show AX (dL (vals m b)) (.int 0)= .ok (.int (ak b 0)) from ixV (pos2 m)];ext;rw[cT (by lia)];ext;refine Uy (d:=.bool false) (λi=>[some (dG m b),some (.str "rise"),some (.int ((2^m:Nat):Int)),some (dL (vals m b)),some (.int r),some (.int (wJ b r i)),none]) (λk=>decide (ak b ((r ||| 2^k:Nat):Int)<ak b r)) rfl (λi x hx=>?_) (λhc=>?_) λhc=>?_
   . obtain ⟨hi,rfl⟩:=iI hx;have hlt:=sm hr (ly (by decide) hi);have hi2:2^i<2^m:=ly (by decide) hi;ext;walk_at "eq";ext;rw[ixV hr];walk_at "go";rw[p2,n9,adv (by lia) (by lia),ixV hlt];walk_at "go"
     by_cases hc:ak b ((r ||| 2^i:Nat):Int)<ak b r
     . rw[decide_eq_true hc];ext
     . rw[decide_eq_false hc];walk_at "go";rw[ix2 hi2,PJ];ext;rw[ip];change (gd (rQ (ak r i) (ak b (2^i)+ak b 0)) (AO.ok (ab.int (ak r i*(ak b (2^i)+ak b 0))))).bind _=_;have b1:=aM r i;have b2:=aM b (2^i);have b3:=aM b 0;walk_at "gd";ext;rfl
   . rw[dM] at hc;rw[if_pos hc];ext
   . rw[dM] at hc;rw[if_neg (by rw[hc];exact eW),dM];ext;walk_at "eq";ext
theorem acS(hm:m<=4){t:Bool}(ht:t=true↔Kp b 4 iz m):dD [dG m b,.str "even"]= .ok (.bool t):=by
 have h0:=pos2 m;have h16:=HB hm;unfold dD;walk_at "go";rw[p2,n9,vy hm];ext;walk_at "eq";ext;walk_at "eq";ext;walk_at "eq";ext;rw[cT (by lia)];ext;rw[upN,wB (d:=.bool false) (λr:Nat=>ab.int r) (λr=>!decide (wJ b r m % 2=ak b r)) λr hr=>?_]
 . cases hc:(List.range (2^m)).any λr=>!decide (wJ b r m % 2=ak b r) with
   | true=>
    rw[if_pos rfl];ext;refine say ht ⟨λh=>(nomatch h),λh=>?_⟩;obtain ⟨r,hr,h2⟩:=nX.mp hc;have:=FZ.mp h r (dQ.mp hr);rw[decide_eq_true this] at h2;cases h2
   | false=>
    rw[if_neg eW];ext;refine say ht ⟨λ_=>FZ.mpr λr hr=>?_,λ_=>rfl⟩;have h1:=sg.mp hc r (dQ.mpr hr);simpa using h1
 . have hr:=dQ.mp hr;ext;rw[PJ];ext;rw[cT (by lia)];ext;refine bJ (λi=>[some (dG m b),some (.str "even"),some (.int ((2^m:Nat):Int)),some (dL (vals m b)),some (.int r),some (.int (wJ b r i)),none]) rfl (λi x hx=>?_) ?_
   . obtain ⟨hi,rfl⟩:=iI hx;have hi2:2^i<2^m:=ly (by decide) hi;ext;walk_at "eq";walk_at "go";rw[ix2 hi2,PJ];ext;rw[ip];change (gd (rQ (ak r i) (ak b (2^i)+ak b 0)) (AO.ok (ab.int (ak r i*(ak b (2^i)+ak b 0))))).bind _=_;have b1:=aM r i;have b2:=aM b (2^i);have b3:=aM b 0;walk_at "gd";ext;rfl
   . rw[dM];ext;walk_at "eq";walk_at "go";rw[ixV hr];ext
     by_cases hc:wJ b r m % 2=ak b r
     . rw[decide_eq_true hc];ext
     . rw[decide_eq_false hc];ext
inductive yq:Str->Nat->B3->Prop
 | low:yq "low" 1 [0]
 | high:yq "high" 1 [1]
 | turn:yq "turn" 2 [1,2]
 | rise:yq "rise" 2 [0,2,3]
 | even:yq "even" 4 iz
theorem aaf(N:yq nm w rs)(hm:m<=4):dD [dG m b,.str nm]= .ok (.bool (brk b w rs m).isNone):=by
 cases N with
 | low=>rw[aer hm];exact say jM (decide_eq_true_iff.trans T6.symm)
 | high=>rw[abq hm];exact say jM (decide_eq_true_iff.trans N5.symm)
 | turn=>exact abF hm jM
 | rise=>exact acq hm jM
 | even=>exact acS hm jM
theorem aav{a b:ab}(h1:eK a=true)(h2:eK b=true)(h3:fw a b=true):neD a b= .ok (.bool false):=by
 rw[neD,bw ⟨h1,h2⟩,h3];rfl
theorem Goes.two{α:Type}{c:Bool}{x y:AO Out}{f:Out->AO Out}{P:Ev->Prop}(V:α->Prop)(E:α->Ev)(hx:c=true->∃v,V v/\x= .ok (.nx (E v)))(hy:c=false->∃v,V v/\y= .ok (.nx (E v)))
 (k:∀v,V v->Goes (f (.nx (E v))) P):Goes ((bS (.bool c) x y).bind f) P:=by
 cases c with
 | true=>obtain ⟨v,h,e⟩:=hx rfl;rw[Om,e];exact k v h
 | false=>obtain ⟨v,h,e⟩:=hy rfl;rw[HS,e];exact k v h
structure GOk (g:Nat×Int):Prop where
 m4:g.1<=4
 b0:0<=g.2
 b1:g.2<2^2^g.1
noncomputable def D5:B0:=[(.str "low",AZ (2,8)),(.str "high",AZ (2,14)),(.str "turn",AZ (1,1)),(.str "rise",AZ (2,8)),(.str "even",AZ (2,6))]
theorem aay(Γ:Ev):iZ [("low",(bN [(eC (.int 2)),(eC (.int 8))])),("high",(bN [(eC (.int 2)),(eC (.int 14))])),("turn",(bN [(eC (.int 1)),(eC (.int 1))])),("rise",(bN [(eC (.int 2)),(eC (.int 8))])),("even",(bN [(eC (.int 2)),(eC (.int 6))]))] Γ = .ok (.dict D5):=rfl
theorem adM(N:yq nm w rs):∃g,GOk g/\ixY (.dict D5) (.str nm)= .ok (AZ g):=by
 cases N
 . exact ⟨(2,8),⟨by decide,by decide,by decide⟩,rfl⟩
 . exact ⟨(2,14),⟨by decide,by decide,by decide⟩,rfl⟩
 . exact ⟨(1,1),⟨by decide,by decide,by decide⟩,rfl⟩
 . exact ⟨(2,8),⟨by decide,by decide,by decide⟩,rfl⟩
 . exact ⟨(2,6),⟨by decide,by decide,by decide⟩,rfl⟩
theorem five(h:0<=v/\v<5):∃nm w rs,yq nm w rs/\AX (.list [.str "low",.str "high",.str "turn",.str "rise",.str "even"]) (.int v)= .ok (.str nm):=by
 have:v=0\/v=1\/v=2\/v=3\/v=4:=by lia
 rcases this with rfl | rfl | rfl | rfl | rfl
 . exact ⟨_,_,_,.low,rfl⟩
 . exact ⟨_,_,_,.high,rfl⟩
 . exact ⟨_,_,_,.turn,rfl⟩
 . exact ⟨_,_,_,.rise,rfl⟩
 . exact ⟨_,_,_,.even,rfl⟩
noncomputable def good:List A9:=[[(2,7)],[(2,1)],[(2,8),(1,1)],[(2,14),(1,1)],[(2,8),(2,6),(0,1)],[(2,13),(0,0)],[(3,23),(2,7)],[(2,2),(0,1)],[(3,202),(0,0),(0,1)],[(2,11),(1,1)],[(4,32767)]]
theorem YX:∀gs∈good,gs.length<=6/\∀g∈gs,g.1<=4/\0<=g.2/\g.2<2^2^g.1:=by decide +kernel
theorem aeS(ns:B3)(h:ns.length<=63):∃gs:A9,qd [dL ns,.int 0]= .ok (.list (gs.map AZ))/\gs.length<=6/\∀g∈gs,GOk g:=by
 suffices z:Gives (qd [dL ns,.int 0]) λd=>∃gs:A9,d= .list (gs.map AZ)/\gs.length<=6/\∀g∈gs,GOk g by
  obtain ⟨d,e,gs,rfl,h⟩:=z;exact ⟨gs,e,h⟩
 obtain ⟨c,ec⟩:=HX ns h (k:=0) (by decide);have ec:fD [dL ns,.int 0]= .ok (.int c):=ec;unfold qd;ext;rw[ec];walk_at "go";obtain ⟨nm,w,rs,N,en⟩:=five ⟨kT _ (by decide),kx _ (by decide)⟩;rw[en];walk_at "go";generalize ha:dz (ab.list _) (ab.list _)=X;have hX:X= .ok (.list (good.map λgs=>ab.list (gs.map AZ))):=by
  rw[<- ha,t6 (Bz (by decide))];rfl
 rw[hX];ext
 by_cases h4:c % 4=0
 . rw[decide_eq_true h4];obtain ⟨k,ek,hk⟩:=Xk (c / 4) (m:=11) (by decide);have hk':=by show k<11;lia
   rw[ek,jE (by rw[br,av hk'];rfl)];ext;have:=YX good[k] (g9 hk');exact ⟨good[k],rfl,this.1,λg hg=>⟨(this.2 g hg).1,(this.2 g hg).2.1,(this.2 g hg).2.2⟩⟩
 . rw[decide_eq_false h4];obtain ⟨q,eq,hq⟩:=Xk (c / 20) (m:=7) (by decide);walk_at "go";rw[eq,cT (by lia)];ext;generalize ab.list (good.map λgs=>ab.list (gs.map AZ))=gd0;refine qW (λi Γ=>∃gs:A9,Γ=[some (dL ns),some (.int 0),some (.int c),some (.str nm),some gd0,some (.list (gs.map AZ)),none,none]/\gs.length=i/\∀g∈gs,GOk g) ⟨[],rfl,rfl,λg hg=>nomatch hg⟩ (λi x Γ hx hI=>?_) λΓ hI=>?_
   . obtain ⟨gs,rfl,hl,hgs⟩:=hI;obtain ⟨hi,rfl⟩:=iI hx;obtain ⟨d,ed⟩:=HX ns h (k:=1+i) (by lia);obtain ⟨m,b,hm,b0,b1,eg⟩:=acO d;ext;rw[show 0+1+i=((1+i:Nat):Int) by lia,ed];ext;rw[eg];walk_at "go";obtain ⟨g5,ok5,e5⟩:=adM N;rw[aaf N hm,aay];ext;rw[Di,Oq];ext;refine Goes.two GOk (λv=>[some (dL ns),some (.int 0),some (.int c),some (.str nm),some gd0,some (.list (gs.map AZ)),some (.int i),some (AZ v)]) (λ_=>⟨g5,ok5,by rw[e5];rfl⟩) (λ_=>⟨(m,b),⟨hm,b0,b1⟩,rfl⟩) λv hv=>?_;have hz:gs.length<bE:=Bz (by lia);walk_at "go";refine ⟨gs++[v],by rw[a7];rfl,by rw[ai,hl];rfl,λg hg=>?_⟩;rcases cE.mp hg with z | z
     . exact hgs g z
     . rw[aI.mp z];exact hv
   . obtain ⟨gs,rfl,hl,hgs⟩:=hI;rw[dM] at hl;ext;exact ⟨gs,rfl,by lia,hgs⟩
theorem acN:fw (AZ g) (AZ h)=decide (g=h):=by
 refine Au.mpr ((jy _ _ o5 o5).trans ⟨λz=>decide_eq_true ?_,λz=>by rw[of_decide_eq_true z]⟩);have z:=z;injection z with z;injection z with z1 z2;injection z2 with z2 _;injection z1 with z1;injection z2 with z2;exact Prod.ext (AD.inj z1) z2
theorem Ge:eK (AZ g)=true:=jw o5 Bf
theorem abx(gs:A9):inB (AZ h) (gs.map AZ)=decide (h∈gs):=by
 unfold inB
 induction gs with
 | nil=>rfl
 | cons g gs ih=>
  rw[a8,kF,ih,acN]
  by_cases e:g=h
  . subst e;rw[decide_eq_true rfl,decide_eq_true bX];rfl
  . rw[decide_eq_false e,xw];exact decide_eq_decide.mpr ⟨cc _,λz=>(cp.mp z).resolve_left λq=>e q.symm⟩
theorem adL(gs:A9):(gs.map AZ).all eK=true:=by
 rw[fS];intro d hd;obtain ⟨x,_,rfl⟩:=cf.mp hd;exact Ge
theorem XN:lZ (AZ h) (.list (gs.map AZ))= .ok (.bool (!decide (h∈gs))):=by
 show gd (eK (AZ h)=true/\(gs.map AZ).all eK=true) (AO.ok (ab.bool (!inB (AZ h) (gs.map AZ))))=_;rw[bw ⟨Ge,adL gs⟩,abx]
theorem gF(gs:A9):plain (.list (gs.map AZ))=true:=by
 rw[Zq.plain];exact GQ λd hd=>by obtain ⟨g,_,rfl⟩:=cf.mp hd;exact o5
theorem Wu(h:∀d∈ds,d.depth<=j)(hk:j<=8):(ab.list ds).depth<=64:=by
 have h1:=xG h;have h2:(ab.tuple ds).depth=l8 ds+1:=by rw[ab.depth]
 have h3:(ab.list ds).depth=l8 ds+1:=by rw[ab.depth]
 lia
theorem pC(gs:A9):(ab.list (gs.map AZ)).depth<=64:=Wu (λd hd=>by obtain ⟨g,_,rfl⟩:=cf.mp hd;exact RJ) (by decide)
theorem aba:eZ (dN hs)=(List.range hs.length).map λi=>ab.tuple [.int (i:Nat),.int (hs.getD i 0:Nat)]:=by
 unfold eZ dN;rw[af];refine cn λi hi=>?_;have hi:=dQ.mp hi;rw[ae,ae,br,av hi];rfl
theorem l_out{n:Nat}(hn:n<=4)(hs:bc n ss)(hl:ss.length<=10000)(ho:o<n+ss.length):uw [dC n ss o,.int (r:Nat)]= .ok (.int ((b8 n ss r).getD o 0)):=by
 unfold uw dC;ext;rw[jx (n:=n) (λi=>.int (ak r i)) ?_ (Bz (by lia)) λi _=>?_]
 rotate_left
 . ext;exact cT (by lia)
 . walk_at "go";rw[cx,M9]
 ext;rw[oU,Ad];refine bJ (λi=>[some (.tuple [.int n,.tuple (ss.map aC.d),.int o]),some (.int r),some (dL (b8 n (ss.take i) r)),none,none,none]) rfl (λi x hx=>?_) ?_
 . obtain ⟨s,h1,rfl⟩:=cG hx;have ok:=hs i s h1;have hi:=(aS.mp h1).1;have hv:(b8 n (ss.take i) r).length=n+i:=by rw[fc,dr];lia
   have m4:=ok.m4;have h01:=MT (n:=n) (ss:=ss.take i) (r:=r);unfold aC.d;ext;rw[gY (xs:=List.range s.ws.length) (λi=>ab.tuple [.int i,.int (s.ws.getD i 0:Nat)]) (λj=>.int ((s.ws.map λk=>(b8 n (ss.take i) r).getD k 0).getD j 0*2^j)) ?_ (Bz (by rw[cS,ok.len];lia)) λj hj=>?_]
   rotate_left
   . ext;rw[Jh,aba]
   . have hj:=dQ.mp hj;have hk:=ok.lt s.ws[j] (g9 hj);have hg:s.ws.getD j 0=s.ws[j]:=by rw[ae,av hj];rfl
     have ge:=zW h01 s.ws[j];ext;rw[hg,vC (by lia)];ext;rw[bw (⟨by lia,by have:=ok.len;lia,by lia⟩),cx,ae (l:=s.ws.map _),br,av hj];rfl
   ext;rw[oU,tL];have e2:=Cm (s.ws.map λk=>(b8 n (ss.take i) r).getD k 0);rw[af] at e2;rw[e2];have g0:0<=aX (s.ws.map λk=>(b8 n (ss.take i) r).getD k 0):=jd λx hx=>by
    obtain ⟨k,_,rfl⟩:=cf.mp hx;rcases zW h01 k with z | z <;> lia
   unfold dL;ext;rw[bw g0];ext;rw[bw (Bz (by lia)),ip];ext;rw[nF h1,iK];rw[stepV,a7];rfl
 . rw[af,eD];ext;rw[vC (by rw[fc];exact ho)];ext
theorem Yk(hm:m<=4)(hl:ts.length=m):mY [dG m b,dL ts,.int 2]= .ok (.int (cJ b ts 4)):=by
 unfold mY;walk_at "go";rw[show (1:Int)*2^(2:Int).toNat=((4:Nat):Int) from rfl,cT (by decide)];ext;refine bJ (λj=>[some (dG m b),some (dL ts),some (.int 2),some (.int (cJ b ts j)),none,none]) rfl (λj x hx=>?_) ?_
 . obtain ⟨hj,rfl⟩:=iI hx;ext;have e:eZ (ts.map ab.int)=(List.range ts.length).map λi=>ab.tuple [.int (i:Nat),(ts.map ab.int).getD i .none]:=by
    rw[eZ,af]
   rw[gY (xs:=List.range ts.length) (λi=>ab.tuple [.int i,(ts.map ab.int).getD i .none]) (λi=>.int (ak (ts.getD i 0) j*2^i)) ?_ (Bz (by rw[cS];lia)) λi hi=>?_]
   . ext;have es:ab.list ((List.range ts.length).map λi=>ab.int (ak (ts.getD i 0) (j:Nat)*2^i))= .list (((List.range ts.length).map λi=>ak (ts.getD i 0) (j:Nat)*2^i).map ab.int):=by rw[de];rfl
     have eg:((List.range ts.length).map λi=>ak (ts.getD i 0) (j:Nat)*2^i).sum=aX (ts.map λt=>ak t (j:Nat)):=by
      have:=Cm (ts.map λt=>ak t j);rw[af] at this;rw[<- this];congr 1;refine cn λi hi=>?_;have hi:=dQ.mp hi;rw[ae,ae,br,av hi];rfl
     rw[es,tL,eg];have g0:=jd (bO.bits (l:=ts) (f:=λt=>t) (g:=λ_=>(j:Nat))).nn;have h01:=aM b (aX (ts.map λt=>ak t j));ext;rw[bw g0];ext;rw[ip,show b / 2^(aX (ts.map λt=>ak t (j:Nat))).toNat % 2=ak b (aX (ts.map λt=>ak t (j:Nat))) from rfl,bw (⟨by lia,by lia,by lia⟩),cx];ext;have ep:cJ b ts (j+1)=cJ b ts j+2^j*ak b (aX (ts.map λt=>ak t (j:Nat))):=by
      unfold cJ tab;rw[kR,a7,a8,fv,um,af,cS]
     rw[YD Am MJ h01,ep]
   . ext;exact congrArg AO.ok e
   . have hi:=dQ.mp hi;have h01:=aM (ts.getD i 0) j;have eg:(ts.map ab.int).getD i .none= .int (ts.getD i 0):=by
      rw[ae,br,ae,av hi];rfl
     rw[eg];walk_at "go";rw[cx,M9,bw (⟨by lia,by lia,by lia⟩),cx]
 . rw[dM];ext
theorem aby{k:Nat}(h:j<=16)(hi:i<=k):j^i<=16^k:=dc (nN h _) (fq (by decide) hi)
theorem aal(hr:rs.length<=16)(hm:m<=3):lY [dL rs,.int (m:Nat)]= .ok (.list ((gJ rs m).map dL)):=by
 have LL:∀i,i<=3->(gJ rs i).length<=4096:=λi hi=>by rw[Il];exact aby hr hi
 unfold lY;ext;rw[cT (by lia)];ext;refine bJ (λi=>[some (dL rs),some (.int m),some (.list ((gJ rs i).map dL)),none,none,none]) rfl (λi x hx=>?_) ?_
 . obtain ⟨hi,rfl⟩:=iI hx;have L0:=LL i (by lia);ext;refine bJ (λj=>[some (dL rs),some (.int m),some (.list ((gJ rs i).map dL)),some (.int i),some (.list ((gV rs ((gJ rs i).take j)).map dL)),none]) rfl (λj x hx=>?_) ?_
   . obtain ⟨c,ec,rfl⟩:=cG hx;have hc:=xN i c (eJ ec);have Lj:(gV rs ((gJ rs i).take j)).length<=1100000:=by
      rw[mR,dr];exact dc (wm (dc (sN _ _) L0) hr) (by decide)
     ext;rw[NK (es:=(rs.map λr=>c++[r]).map dL) ?_ rfl (by simp only[af,PySem.sizeLine_eq];lia) (of_decide_eq_true rfl)]
     . ext;rw[take_snoc ec,vM,a7]
     . rw[gY ab.int (λr=>dL (c++[r])) rfl (Bz (by lia)) λr _=>?_]
       . rw[de];rfl
       . ext;rw[U8 (by lia)]
   . rw[af,eD];ext;rfl
 . rw[dM];ext
theorem aem(gs hs:A9):eqD (.list (gs.map AZ)) (.list (hs.map AZ))= .ok (.bool (fw (.list (gs.map AZ)) (.list (hs.map AZ)))):=by
 rcases hb:fw (.list (gs.map AZ)) (.list (hs.map AZ)) with _ | _
 . refine (uy (gF gs) (gF hs) (pC gs) (pC hs)).2.1.mpr λz=>?_;rw[(jy _ _ (gF gs) (gF hs)).mpr z] at hb;cases hb
 . exact (uy (gF gs) (gF hs) (pC gs) (pC hs)).1.mpr ((jy _ _ (gF gs) (gF hs)).mp hb)
theorem aao(hl:gs.length<=6):∃hs:A9,lV [.list (gs.map AZ)]= .ok (.list (hs.map AZ))/\hs.length<=6/\∀g∈hs,g∈gs/\g.1<=3:=by
 suffices z:Gives (lV [.list (gs.map AZ)]) λd=>∃hs:A9,d= .list (hs.map AZ)/\hs.length<=6/\∀g∈hs,g∈gs/\g.1<=3 by
  obtain ⟨d,e,hs,rfl,h⟩:=z;exact ⟨hs,e,h⟩
 unfold lV;ext;refine qW (λi Γ=>∃hs:A9,Γ=[some (.list (gs.map AZ)),some (.list (hs.map AZ)),none]/\hs.length<=i/\∀g∈hs,g∈gs/\g.1<=3) ⟨[],rfl,ay _,λg hg=>nomatch hg⟩ (λi x Γ hx hI=>?_) λΓ hI=>?_
 . obtain ⟨hs,rfl,h1,h2⟩:=hI;obtain ⟨g,eg,rfl⟩:=cG hx;have hi:=(aS.mp eg).1;ext;rw[qR (xs:=hs) AZ (λg=>decide ((g.1:Int)=3)) AZ ?_ (Bz (by lia)) (λg _=>?_) λg _ _=>?_]
   . rw[AO.aP,show ab.list []= .list (([]:A9).map AZ) from rfl,aem];generalize fw _ _=t;have ec:bT (.bool (decide (((g.1:Nat):Int)<3))) (AO.ok (ab.bool true)) (bT (.bool (decide (((g.1:Nat):Int)=3))) (AO.ok (ab.bool t)) (AO.ok (ab.bool false)))= .ok (.bool (decide (g.1<3)||(decide (g.1=3)&&t))):=by
      rw[Di,Di]
      by_cases a:g.1<3
      . rw[if_pos (decide_eq_true (by lia)),decide_eq_true a];rfl
      . rw[if_neg (by rw[decide_eq_true_eq];lia),decide_eq_false a]
        by_cases b:g.1=3
        . rw[if_pos (decide_eq_true (by lia)),decide_eq_true b];rfl
        . rw[if_neg (by rw[decide_eq_true_eq];lia),decide_eq_false b];rfl
     rw[ec];ext;have hz:hs.length<bE:=Bz (by lia);refine Goes.two (λhs=>hs.length<=i+1/\∀g∈hs,g∈gs/\g.1<=3) (λhs=>[some (.list (gs.map AZ)),some (.list (hs.map AZ)),some (AZ g)]) (λhc=>⟨hs++[g],⟨by rw[ai,cy];lia,λg' z=>?_⟩,?_⟩) (λ_=>⟨hs,⟨by lia,h2⟩,rfl⟩) λhs' hv=>?_
     . rcases cE.mp z with z | z
       . exact h2 g' z
       . rw[aI.mp z];refine ⟨eJ eg,?_⟩;simp at hc;lia
     . rw[bw hz,a7];rfl
     . ext;exact ⟨hs',rfl,hv⟩
   . ext
   . ext
   . ext
 . obtain ⟨hs,rfl,h1,h2⟩:=hI;rw[af] at h1;ext;exact ⟨hs,rfl,by lia,h2⟩
structure wV (gs:A9) (L:B3):Prop where
 nd:L.Nodup
 re:∀x∈L,Reach gs 4 [10,12] x/\0<=x/\x<16
 x:10∈L
 y:12∈L
theorem aaU(h:L.Nodup):(oE x L).Nodup:=by
 unfold oE;split
 . exact h
 . rename_i hx;exact fm.mpr ⟨h,ya _ x,λa ha b hb e=>hx (by rw[<- aI.mp hb,<- e];exact ha)⟩
theorem wV.ins(h:wV gs L)(hg:g∈gs)(hl:c.length=g.1)(hc:∀x∈c,x∈L):wV gs (oE (cJ g.2 c 4) L):=
 ⟨aaU h.nd,λx hx=>by
  rcases j8.mp hx with rfl | hx
  . exact ⟨Reach.step hg hl λy hy=>(h.re y (hc y hy)).1,Am,MJ⟩
  . exact h.re x hx,j8.mpr (.inr h.x),j8.mpr (.inr h.y)⟩
theorem wV.len(h:wV gs L):L.length<=16:=o4 h.nd λx hx=>⟨(h.re x hx).2.1,by have:=(h.re x hx).2.2;lia⟩
theorem sub_len:∀{l l':B3},l.Nodup->(∀x∈l,x∈l')->l.length<=l'.length
 | [],_,_,_=>kz _
 | x::l,l',h,hs=>by
  have hx:=hs x bX;have hn:=kP.mp h;have:=sub_len hn.2 λy hy=>(List.mem_erase_of_ne (b:=x) λe=>hn.1 (by rw[<- e];exact hy)).mpr (hs y (cc _ hy));rw[xE hx] at this;have:=List.length_pos_of_mem hx;rw[bt];lia
theorem sub_eq{l:B3}(h:l.Nodup)(hs:∀x∈l,x∈xs)(hl:l.length=xs.length):∀x∈xs,x∈l:=λx hx=>fF λz=>by
 have:=sub_len (kP.mpr ⟨z,h⟩) λy hy=>by
  rcases cp.mp hy with rfl | hy
  . exact hx
  . exact hs y hy
 rw[bt] at this;lia
theorem Ex:mJ [.dict (mk L)]= .ok (.int (L.length:Nat)):=by
 show AO.ok (ab.int ((mk L).length:Nat))=_;rw[Ua]
theorem aco(hl:gs.length<=6)(h3:∀g∈gs,g.1<=3):∃L:B3,n6 [.list (gs.map AZ),.int 2]= .ok (.dict (mk L))/\L.Nodup/\(∀x∈L,0<=x/\x<16)/\∀x,x∈L↔Reach gs 4 [10,12] x:=by
 suffices z:Gives (n6 [.list (gs.map AZ),.int 2]) λd=>∃L:B3,d= .dict (mk L)/\L.Nodup/\(∀x∈L,0<=x/\x<16)/\∀x,x∈L↔Reach gs 4 [10,12] x by
  obtain ⟨d,e,L,rfl,h⟩:=z;exact ⟨L,e,h⟩
 unfold n6;walk_at "go";rw[show ∀Γ:Ev,iZ [] Γ = .ok (.dict (mk [])) from λ_=>rfl,show Es (ab.int 2)= .ok (upN 2) from cT (by decide)];ext;refine qW (λi Γ=>Γ=[some (ab.list (List.map AZ gs)),some (ab.int 2),some (ab.list (upN ((1:Int)*2^Int.toNat 2).toNat)),some (.dict (mk (([10,12]:B3).take i))),none,none,none,none]) rfl (λi x Γ hx hI=>?_) λΓ hI=>?_
 . subst hI;obtain ⟨hi,rfl⟩:=iI hx;have:i=0\/i=1:=by lia
   rcases this with rfl | rfl
   . ext;rw[sV rfl rfl rfl (by decide) (of_decide_eq_true rfl)];ext;rfl
   . ext;rw[sV rfl rfl rfl (by decide) (of_decide_eq_true rfl)];ext;rfl
 . subst hI;generalize ab.list (upN ((1:Int)*2^Int.toNat 2).toNat)=rows;rw[dM];ext;have M0:wV gs [10,12]:=⟨by decide,λx hx=>by
    have hx':=by simpa using hx
    rcases hx' with rfl | rfl
    . exact ⟨Reach.row (by simp),by decide,by decide⟩
    . exact ⟨Reach.row (by simp),by decide,by decide⟩,by simp,by simp⟩
   refine Wg (λk Γ=>∃(L:B3) (q:Int),Γ=[some (ab.list (List.map AZ gs)),some (ab.int 2),some rows,some (.dict (mk L)),none,some (.int q),none,none]/\wV gs L /\ -1<=q/\q<=L.length/\(q=L.length->∀g∈gs,∀c:B3,c.length=g.1->(∀x∈c,x∈L)->cJ g.2 c 4∈L)/\k=(17 - q).toNat) 18 ⟨[10,12],-1,rfl,M0,by decide,by decide,λz=>absurd z (by decide),rfl⟩ (by decide) (λk Γ hI=>?_) λk Γ hI hf=>?_
   . obtain ⟨L,q,rfl,M,q0,q1,cl,rfl⟩:=hI;have L16:=M.len;have cnd:ao neD (aj 5) (eFn mJ [aj 3]) [some (ab.list (List.map AZ gs)),some (ab.int 2),some rows,some (ab.dict (mk L)),none,some (ab.int q),none,none]= .ok (.bool (!decide (q=L.length))):=by
      ext;rw[Ex];ext
     by_cases hq:q=L.length
     . exact .inl (by rw[cnd,decide_eq_true hq];rfl)
     . refine .inr ⟨by rw[cnd,decide_eq_false hq];rfl,(17 - (L.length:Int)).toNat,?_⟩;obtain ⟨Γ',e,L',eΓ,M',hsub,hcl⟩:=vN (g:=gN 6) (cl:=[6,7]) (b:=cz (itL (aO lY [(eFn zu [(aj 3)]),(ao AX (aj 6) (eC (.int 0)))])) (gN 7) [7] (gW 3 (aO mY [(aj 6),(aj 7),(aj 1)]) (eC (.bool true))))
        (λi Γ=>∃L':B3,Γ=[some (ab.list (List.map AZ gs)),some (ab.int 2),some rows,some (.dict (mk L')),none,some (.int L.length),none,none]/\wV gs L'/\(∀x∈L,x∈L')/\∀g∈gs.take i,∀c:B3,c.length=g.1->(∀x∈c,x∈L)->cJ g.2 c 4∈L')
        (xs:=gs.map AZ) ⟨L,rfl,M,λx hx=>hx,λg hg=>nomatch hg⟩ λi x Γ hx hI=>by
         obtain ⟨L1,rfl,M1,s1,c1⟩:=hI;obtain ⟨g,eg,rfl⟩:=cG hx;have hgm:=eJ eg;have hm3:=h3 g hgm;have ae9:=M1.len;ext;rw[Ox (by lia)];ext;rw[show ab.list ((srt L1).map ab.int)=dL (srt L1) from rfl,aal (by rw[(oJ L1).length_eq];exact ae9) hm3];ext;refine Ut (λj Γ=>∃L2':B3,Γ=[some (ab.list (List.map AZ gs)),some (ab.int 2),some rows,some (.dict (mk L2')),none,some (.int L.length),some (AZ g),none]/\wV gs L2'/\(∀x∈L1,x∈L2')/\∀c∈(gJ (srt L1) g.1).take j,cJ g.2 c 4∈L2') ⟨L1,rfl,M1,λx hx=>hx,λc hc=>nomatch hc⟩ (λj x Γ hx hI=>?_) λΓ hI=>?_
         . obtain ⟨Lj,rfl,Mj,sj,cj⟩:=hI;obtain ⟨c,ec,rfl⟩:=cG hx;have hc:=jB.mp (eJ ec);have af5:=Mj.len;ext;rw[sV rfl (by ext;exact Yk (by lia) hc.1) rfl (by lia) (of_decide_eq_true rfl)];ext;refine ⟨_,rfl,Mj.ins hgm hc.1 λx hx=>sj x (lE.mp (hc.2 x hx)),λx hx=>j8.mpr (.inr (sj x hx)),λd hd=>?_⟩;rw[take_snoc ec] at hd;rcases cE.mp hd with z | z
           . exact j8.mpr (.inr (cj d z))
           . rw[aI.mp z];exact j8.mpr (.inl rfl)
         . obtain ⟨Lj,rfl,Mj,sj,cj⟩:=hI;rw[af,eD] at cj;ext;refine ⟨Lj,rfl,Mj,λx hx=>sj x (s1 x hx),λg' hg' c h1 h2=>?_⟩;rw[take_snoc eg] at hg';rcases cE.mp hg' with z | z
           . exact sj _ (c1 g' z c h1 h2)
           . rw[aI.mp z] at h1 ⊢;exact cj c (jB.mpr ⟨h1,λx hx=>lE.mpr (s1 x (h2 x hx))⟩)
       subst eΓ;rw[af,eD] at hcl;refine ⟨[some (ab.list (List.map AZ gs)),some (ab.int 2),some rows,some (ab.dict (mk L')),none,some (ab.int L.length),none,none],by lia,?_,L',L.length,rfl,M',by lia,?_,λhz g hg c h1 h2=>?_,rfl⟩
       . ext;rw[Ex];ext;exact e
       . have:=sub_len M.nd hsub;lia
       . have hz:L.length=L'.length:=by lia
         have eq:=sub_eq M.nd hsub hz;exact hcl g hg c h1 λx hx=>eq x (h2 x hx)
   . obtain ⟨L,q,rfl,M,q0,q1,cl,rfl⟩:=hI;have cnd:ao neD (aj 5) (eFn mJ [aj 3]) [some (ab.list (List.map AZ gs)),some (ab.int 2),some rows,some (ab.dict (mk L)),none,some (ab.int q),none,none]= .ok (.bool (!decide (q=L.length))):=by
      ext;rw[Ex];ext
     rw[cnd] at hf;have hq:=fF λz=>by rw[decide_eq_false z] at hf;cases hf
     ext;exact ⟨L,rfl,M.nd,λx hx=>(M.re x hx).2,λx=>⟨λh=>(M.re x h).1,λh=>h (λx=>x∈L) (λr hr=>by
      have hr':=by simpa using hr
      rcases hr' with rfl | rfl
      . exact M.x
      . exact M.y) λg hg c h1 h2=>cl hq g hg c h1 h2⟩⟩
theorem adR:neD (.list []) (.list [])= .ok (.bool false):=
 aav (jw (gF []) (pC [])) (jw (gF []) (pC [])) ((jy _ _ (gF []) (gF [])).mpr rfl)
theorem Zh{n:Nat}(hg:∀g∈gs,g.1<=4/\0<=g.2/\g.2<2^2^g.1)(hl:gs.length<=8)(hf:tU gs=true)(hn:n<=4)(n1:1<=n)(t0:0<=t)(t1:t<2^2^n):lN [.list (gs.map AZ),dG n t]= .ok (.bool true):=by
 obtain ⟨ss,o,eb,C⟩:=aa2 hg hl hf hn n1 t0 t1;have hl:=C.len;have p16:2^n<=16:=dc (fq (by decide) hn) (by decide);unfold lN;ext;rw[eb];ext;rw[show AX (dC n ss o) (.int 0)= .ok (.int (n:Nat)) from rfl];ext;rw[qR (xs:=ss) aC.d (λs=>!decide ((s.m,s.b)∈gs)) aC.d ?_ (Bz (by lia)) (λs hs=>?_) λs _ _=>?_]
 rotate_left
 . ext;rfl
 . ext;rw[show AX s.d (.int 0)= .ok (AZ (s.m,s.b)) from rfl];ext;exact XN
 . ext
 rw[zo.mpr λs hs=>by rw[decide_eq_true (C.gin s hs)];decide];ext;rw[adR];ext;have rg:∀Γ:Ev,gv Γ 1=some (dG n t)->fY (ao ni (eC (.int 1)) (ao AX (aj 1) (eC (.int 0)))) Γ = .ok (upN (2^n)):=λΓ g1=>by
  have v1:aj 1 Γ = .ok (dG n t):=by rw[aj,g1]
  ext;rw[v1];ext;rw[show (1:Int)*2^((n:Nat):Int).toNat=((2^n:Nat):Int) by rw[n9];exact p2 n,bw (⟨by lia,by lia,by lia⟩)];ext;exact cT (by lia)
 rw[jx (λr=>.int (ak t r)) (rg _ rfl) (Bz (by lia)) λr hr=>?_]
 rotate_left
 . ext;rw[l_out hn C.ok (by lia) C.lt,C.val r hr]
 rw[jx (λr=>.int (ak t r)) (rg _ rfl) (Bz (by lia)) λr hr=>?_]
 rotate_left
 . walk_at "go";rw[cx,ip];rfl
 ext;rw[oU,show ∀l:B3,eqD (.list (l.map ab.int)) (.list (l.map ab.int))= .ok (.bool true) from λl=>by rw[Gj,decide_eq_true rfl]];ext
theorem YL:inY (.int x) (.dict (mk L))= .ok (.bool (decide (x∈L))):=by
 show AO.ok (ab.bool ((cR (.inl x) (mk L)).isSome))=_;rw[zL]
noncomputable def oT:Str×Nat×B3->Int:=λk=>if k.1 = "turn" \/ k.1 = "even" then 8 else 3
theorem aek:∀k∈Ks5,¬ Kp (oT k) k.2.1 k.2.2 2:=λk hk=>by
 have:∀k∈Ks5,(brk (oT k) k.2.1 k.2.2 2).isNone=false:=by decide +kernel
 intro z;have z:=jM.mpr z;rw[this k hk] at z;cases z
theorem adm:∀k∈Ks5,∀x∈k.2.2,0<=x/\x<2^k.2.1:=by decide +kernel
theorem main(ns:B3)(h:ns.length<=63):vY [.list (ns.map ab.int)]= .ok (.bool true):=by
 show vY [dL ns]=_;obtain ⟨gs0,es,hl0,hg0⟩:=aeS ns h;obtain ⟨c9,e9⟩:=HX ns h (k:=9) (by decide);have e9:fD [dL ns,.int 9]= .ok (.int c9):=e9;obtain ⟨hs,el,hl,hm⟩:=aao hl0;have hg:∀g∈hs,g.1<=4/\0<=g.2/\g.2<2^2^g.1:=λg z=>⟨(hg0 g (hm g z).1).m4,(hg0 g (hm g z).1).b0,(hg0 g (hm g z).1).b1⟩;obtain ⟨F,ek,hF⟩:=JD λg z=>(hg g z).1;unfold vY;ext;rw[es];ext;rw[el];ext;rw[ek];ext;rw[Pg hF]
 cases hf:tU hs with
 | true=>
  have lb:=λ{n:Nat}{t:Int}=>Zh (n:=n) (t:=t) hg (by lia) hf;ext;rw[show Es (ab.int 5)= .ok (upN 5) from cT (by decide)];ext;refine bJ (λ_=>[some (dL ns),some (.list (hs.map AZ)),some (.list (Ks5.map F)),none,none,none,none,none,none,none]) rfl (λi x hx=>?_) ?_
  . obtain ⟨hi,rfl⟩:=iI hx;ext;rw[e9];ext;rw[bw (.inl ⟨by lia,by lia⟩)];ext;have a0:0<=(c9+3*(i:Nat)) % 16:=kT _ (by decide);have a1:(c9+3*(i:Nat)) % 16<16:=kx _ (by decide);have b0:0<=(c9+3*(i:Nat)) % 16 % 4:=kT _ (by decide);have b1:(c9+3*(i:Nat)) % 16 % 4<4:=kx _ (by decide);rw[show ab.tuple [.int 2,.int ((c9+3*(i:Nat)) % 16)]=dG 2 ((c9+3*(i:Nat)) % 16) from rfl,lb (by decide) (by decide) a0 a1];ext;rw[show ab.tuple [.int 1,.int ((c9+3*(i:Nat)) % 16 % 4)]=dG 1 ((c9+3*(i:Nat)) % 16 % 4) from rfl,lb (by decide) (by decide) b0 b1];ext
  ext
 | false=>
  obtain ⟨L,em,nd,lb,lr⟩:=aco hl λg z=>(hm g z).2;ext;rw[em];ext;rw[show Ku (eC lg) (aj 2) [some (dL ns),some (.list (hs.map AZ)),some (.list (Ks5.map F)),none,none,some (.dict (mk L)),none,none,none,none]= .ok (Ks5.map λk=>ab.tuple [.str k.1,F k]) from rfl,AO.aP];refine bJ (λ_=>[some (dL ns),some (.list (hs.map AZ)),some (.list (Ks5.map F)),none,none,some (.dict (mk L)),none,none,none,none]) rfl (λi x hx=>?_) ?_
  . obtain ⟨k,hk,rfl⟩:=cG hx;have hkm:=eJ hk;rcases hF.h k hkm with ⟨e,ea⟩ | ⟨⟨i,c,g,e,_,_⟩,_⟩
    . rw[e];have no:=λz=>aek k hkm (Reach.kept (adm k hkm) (Jl.mp ea) ((lr _).mp z));ext;rw[show qz .none .none= .ok (.bool true) from rfl];ext;have fin:∃(m:Nat) (b:Int) (ts:B3),wK [.str k.1]= .ok (dG m b)/\m<=4/\ts.length=m/\List.take m [ab.int 12,ab.int 10]=ts.reverse.map ab.int/\cJ b ts 4=oT k:=by
       simp only[Ks5,cp,pv,or_false] at hkm;rcases hkm with rfl | rfl | rfl | rfl | rfl
       . exact ⟨1,1,[12],rfl,by decide,rfl,rfl,by decide +kernel⟩
       . exact ⟨1,1,[12],rfl,by decide,rfl,rfl,by decide +kernel⟩
       . exact ⟨2,8,[10,12],rfl,by decide,rfl,rfl,by decide +kernel⟩
       . exact ⟨1,1,[12],rfl,by decide,rfl,rfl,by decide +kernel⟩
       . exact ⟨2,8,[10,12],rfl,by decide,rfl,rfl,by decide +kernel⟩
      obtain ⟨m,b,ts,f1,f2,f3,f4,f5⟩:=fin;rw[f1];ext;rw[f4,show Qj (.list (ts.reverse.map ab.int))= .ok (dL ts) by show AO.ok (ab.list _)=_;rw[List.map_reverse,List.reverse_reverse];rfl];ext;rw[Yk f2 f3,f5];ext;rw[YL,decide_eq_false no];ext
    . rw[e];ext;rw[show qz (.tuple [.int (i:Nat),dL c]) .none= .ok (.bool false) from rfl];ext
  ext
end
noncomputable def top(i:Nat):Stmt:=PySem.Challenge.pw_gatekin_k46_whole_five_kinds.main.body.getD i (.Pass ⟨0,0,0,0⟩)
noncomputable abbrev dE(x:Str)(n:Nat):Str×Nat:=(x,n)
noncomputable def defs:List (Str×Nat):=[dE "is_whole" 5,dE "row_count" 6,dE "table_limit" 7,dE "full_table" 8,dE "bit" 9,dE "number_of" 10,dE "input_table" 11,dE "input_tables" 12,dE "put_all" 13,dE "put" 14,dE "with_set" 15,dE "renamed" 17,dE "add_circuit" 18,dE "replaced" 19,dE "without_doubles" 20,dE "used_wires" 21,dE "without_unused" 22,dE "shared" 23,dE "marked" 27,dE "put_rows" 28,dE "power" 29,dE "list_count" 30,dE "lists_of" 31,dE "broken" 32,dE "fresh_lists" 33,dE "refuse_too_many" 34,dE "kind" 39,dE "first_breach" 40,dE "kinds" 41,dE "outsider" 42,dE "add_tree" 44,dE "tree_circuit" 45,dE "offer" 47,dE "first_ways" 48,dE "ways_from" 49,dE "way_circuit" 51,dE "opposite" 56,dE "side" 57,dE "plain_tree" 58,dE "wish_tree" 59,dE "tables_at_hand" 60,dE "first_giving" 61,dE "nand_circuit" 62,dE "build" 63,dE "_law_cell_at" 65,dE "_law_gate" 66,dE "_law_keeps" 67,dE "_law_set" 68,dE "_law_lists" 69,dE "_law_put" 71,dE "_law_made" 70,dE "_law_out" 72,dE "_law_built" 73,dE "_law_light" 74]
noncomputable def W7:B6:=["bool", "enumerate", "int", "isinstance", "len", "list", "min", "range", "reversed", "sorted", "sum", "tuple", "zip"]
inductive Ax (K:aw):List (Str×Nat)->Prop
 | nil:Ax K []
 | cons {x:Str}{i:Nat}{l:List (Str×Nat)} (a:Fnd K x (top i)) (t:Ax K l):Ax K ((x,i)::l)
variable {K:aw}
theorem Ax.get{l:List (Str×Nat)}(h:Ax K l)(m:(nm,i)∈l):Fnd K nm (top i):=by
 induction h with
 | nil=>cases m
 | cons a t ih=>
  cases m with
  | head=>exact a
  | tail _ m=>exact ih m
inductive Ay (K:aw):B6->Prop
 | nil:Ay K []
 | cons {x:Str}{l:B6} (a:i8 K ff x=some none) (t:Ay K l):Ay K (x::l)
theorem Ay.get{l:B6}(h:Ay K l)(m:nm∈l):i8 K ff nm=some none:=by
 induction h with
 | nil=>cases m
 | cons a t ih=>
  cases m with
  | head=>exact a
  | tail _ m=>exact ih m
structure Ctx (K:aw) (mg:Str->B7) where
 h:Heap
 X:K.In h
 G:h.Ns ff mg
 F:Ax K defs
 N:Ay K W7
 W:At K mg "ways" (top 50) ["gates", "inputs"]
 Ce:a9
 ad8:mg "AND"= some Ce
 BV:lM K 9 zR Ce=true
 uX:a9
 Eu:mg "KINDS"= some uX
 oR:lM K 9 lg uX=true
 p8:a9
 yg:mg "MOST_CLOSED_ROWS"= some p8
 xR:AR (.int 128) p8
 yD:a9
 xY:mg "MOST_LISTS"= some yD
 yL:AR (.int 20000) yD
 xx:a9
 xq:mg "NAND"= some xx
 nG:lM K 9 d9 xx=true
 DN:a9
 O4:mg "NOT"= some DN
 wu:lM K 9 gA DN=true
 Al:Addr
 Ms:mg "OUTSIDERS"= some (.ref Al)
 lU:Bt K Al qF=true
 Ag:Addr
 Li:mg "RELATIONS"= some (.ref Ag)
 mj:Bt K Ag qy=true
 T:Addr
 hT:TabAt K mg T
variable {mg:Str->B7}
theorem Ctx.n(C:Ctx K mg)(m:nm∈W7:=by decide +kernel):mg nm=none:=PySem.W.mg_none_of C.X C.G (C.N.get m)
theorem Ctx.f{n:Nat}{ps:B6}(C:Ctx K mg)(m:(nm,n)∈defs:=by decide +kernel)
 (b:∀(kV doc pm:a9) (an:C4) (AN ct:a9) (us:B8),us.length=ps.length->kG (fb nm nm (cM (top n)) (bR (top n)) (aN (top n)) .none kV doc pm an AN ct) ⟨us,[]⟩=pure (ps.zip us):=by first | exact ab2 (λ_ _ _ _ _ _ _=>rfl) rfl | exact VF (λ_ _ _ _ _ _ _ _=>rfl) rfl | exact adt (λ_ _ _ _ _ _ _ _ _=>rfl) rfl | exact ac4 (λ_ _ _ _ _ _ _ _ _ _=>rfl) rfl):At K mg nm (top n) ps:=(C.F.get m).at C.X C.G b
theorem abf:fk "bool"= some (.type "bool"):=by decide +kernel
theorem abz:fk "int"= some (.type "int"):=by decide +kernel
theorem fQ:fk "len"= some (.builtin "len"):=by decide +kernel
theorem rJ:fk "list"= some (.type "list"):=by decide +kernel
theorem BK:fk "range"= some (.type "range"):=by decide +kernel
theorem RN:fk "sorted"= some (.builtin "sorted"):=by decide +kernel
theorem xj:fk "sum"= some (.builtin "sum"):=by decide +kernel
theorem gH:fk "tuple"= some (.type "tuple"):=by decide +kernel
section
variable {P:ia}{w:lI}   {base:Heap}
theorem Af(C:Ctx K mg):Def P w K mg base 1 "is_whole" ["thing"] (spF K [.AV] .f jJ):=
 bU (top 5) ["thing"] [.AV] C.f λnd hr=>
 (aB (bA (abl (RM Y5 rfl C.n (aq 0) (Yr rfl C.n abz)) (ado (ab6 (RM Wy rfl C.n (aq 0) (Yr rfl C.n abf)))))))
theorem rT(C:Ctx K mg):Def P w K mg base 1 "row_count" ["inputs"] (spF K [.AV] .f jT):=
 bU (top 6) ["inputs", "count", "j"] [.AV,.AW,.AW] C.f λnd hr=>
 (bj (bB 1 nd fP)
  (bj (d7 [2] (fK rfl C.n (aq 0)) (cB 2 nd) (aB (bB 1 nd (aL jg sI (aq 1)))))
  (aB (bA (aY 1)))))
theorem Fo(C:Ctx K mg):Def P w K mg base 1 "table_limit" ["inputs"] (spF K [.AV] .f mH):=
 bU (top 7) ["inputs", "limit", "j"] [.AV,.AW,.AW] C.f λnd hr=>
 (bj (bB 1 nd fP)
  (bj (d7 [2] (fK rfl C.n (aq 0)) (cB 2 nd) (aB (bB 1 nd (aL jg (aq 1) (aq 1)))))
  (aB (bA (aY 1)))))
theorem mD(C:Ctx K mg):Def P w K mg base 2 "full_table" ["inputs"] (spF K [.AV] .f iw):=
 bU (top 8) ["inputs"] [.AV] C.f λnd hr=>
 (aB (bA (aL jo (sp (bV (Fo C) hr (aV 0 aG))) sI)))
theorem T8(C:Ctx K mg):Def P w K mg base 1 "bit" ["number", "place"] (spF K [.AV,.AV] .f Ea):=
 bU (top 9) ["number", "place"] [.AV,.AV] C.f λnd hr=>
 (aB (bA (aL kJ (sp (aL ou (aq 0) (aq 1))) sI)))
theorem Ky(C:Ctx K mg):Def P w K mg base 1 "number_of" ["figures"] (spF K [.AV] .f pY):=
 bU (top 10) ["figures", "number", "figure"] [.AV,.AW,.AW] C.f λnd hr=>
 (bj (bB 1 nd fP)
  (bj (d7 [2] (acw rfl C.n (gh 0)) (cB 2 nd) (aB (bB 1 nd (aL dh (sp (aL jg sI (aq 1))) (aq 2)))))
  (aB (bA (aY 1)))))
theorem Ft(C:Ctx K mg):Def P w K mg base 2 "input_table" ["inputs", "j"] (spF K [.AV,.AV] .f mC):=
 bU (top 11) ["inputs", "j"] [.AV,.AV] C.f λnd hr=>
 (aB (bA (bV (Ky C) hr (bK (sfp (dw ["row"] [1] rfl rfl rfl rfl (by decide) (iW rfl C.n (sp (bV (rT C) hr (aV 0 aG)))) (λ_ _ _ _ _=>(cC 0 (show fA (["row", "j"]:B6) by decide +kernel) rfl (hW rfl))) (λ_ _ _ _ _=>dq) (λ_ _ _ _ _=>(bV (T8 C) hr (aV 0 (aV 1 aG)))))) aG))))
theorem tY(C:Ctx K mg):Def P w K mg base 3 "input_tables" ["inputs"] (spF K [.AV] .t jq):=
 bU (top 12) ["inputs"] [.AV] C.f λnd hr=>
 (aB (rH (dw ["j"] [0] rfl rfl rfl rfl (by decide) (iW rfl C.n (aq 0)) (λ_ _ _ _ _=>(cC 0 (show fA (["j", "inputs"]:B6) by decide +kernel) rfl (hW rfl))) (λ_ _ _ _ _=>dq) (λ_ _ _ _ _=>(bV (Ft C) hr (aV 1 (aV 0 aG)))))))
theorem Cq(C:Ctx K mg):Def P w K mg base 2 "put_all" ["gate", "numbers", "full"] (spF K [.AV,.AV,.AV] .f qg):=
 bU (top 13) ["gate", "numbers", "full", "given", "number"] [.AV,.AV,.AV,.AW,.AW] C.f λnd hr=>
 (bj (bB 3 nd (sfe (dw ["place"] [2,0] rfl rfl rfl rfl (by decide) (iW rfl C.n (sp (bV (rT C) hr (bK (sp (sx 0)) aG)))) (λ_ _ _ _ _=>(cC 0 (show fA (["place", "full", "gate"]:B6) by decide +kernel) rfl (hW rfl))) (λ_ _ _ _ _=>dq) (λ_ _ _ _ _=>(aL jg (aq 1) (sp (bV (T8 C) hr (bK (sp (sx 2)) (aV 0 aG)))))))))
  (bj (d7 [4] (d8 (gh 1)) (cB 4 nd) (aB (bB 3 nd (sfe (dw ["k"] [3,4] rfl rfl rfl rfl (by decide) (Tp rfl C.n sI (sp (cD jr rfl C.n fQ (aV 3 aG))) sI) (λ_ _ _ _ _=>(cC 0 (show fA (["k", "given", "number"]:B6) by decide +kernel) rfl (hW rfl))) (λ_ _ _ _ _=>dq) (λ_ _ _ _ _=>(aL P0 (sp (aL kJ (sp (eU (aq 1) (aq 0))) (sp (ad0 (aq 2))))) (sp (aL kJ (sp (eU (aq 1) (sp (aL dh (aq 0) sI)))) (aq 2))))))))))
  (aB (bA (sx 3)))))
theorem DY(C:Ctx K mg):Def P w K mg base 3 "put" ["gate", "tables", "inputs"] (spF K [.AV,.AV,.AV] .f pG):=
 bU (top 14) ["gate", "tables", "inputs"] [.AV,.AV,.AV] C.f λnd hr=>
 (aB (bA (bV (Cq C) hr (aV 0 (aV 1 (bK (sp (bV (mD C) hr (aV 2 aG))) aG))))))
theorem Ai(C:Ctx K mg):Def P w K mg base 4 "with_set" ["gate", "j", "w"] (spF K [.AV,.AW,.AV] .f jA):=
 bU (top 15) ["gate", "j", "w", "inputs", "tables"] [.AV,.AW,.AV,.AW,.own] C.f λnd hr=>
 (bj (bB 3 nd (aL jo (sp (sx 0)) sI))
  (bj (dY 4 nd (oX (tY C) hr (aV 3 aG)))
  (bj (ab8 4 (aY 1) (Q3 (cU (dZ hr.units) (aq 2) sI) (bV (mD C) hr (aV 3 aG)) fP))
  (aB (bA (bD (aD (aY 3) (aD (bV (DY C) hr (aV 0 (aV 4 (aV 3 aG)))) aK))))))))
theorem wk(C:Ctx K mg):Def P w K mg base 1 "renamed" ["step", "names"] (spF K [.AV,.AV] .f jz):=
 bU (top 17) ["step", "names"] [.AV,.AV] C.f λnd hr=>
 (aB (bA (bD (aD (sx 0) (aD (fG gC rfl C.n gH (bK (sfp (dw ["wire"] [1] rfl rfl rfl rfl (by decide) (j7 (sp (sx 0))) (λ_ _ _ _ _=>(cC 0 (show fA (["wire", "names"]:B6) by decide +kernel) rfl (hW rfl))) (λ_ _ _ _ _=>dq) (λ_ _ _ _ _=>(qw hr.cH (aq 1) (aq 0) (λ_ _=>rfl))))) aG)) aK)))))
theorem pF:cX ["steps", "inputs", "circuit", "starts", "names", "step"] ["steps", "inputs", "circuit", "starts"] (aN (top 18)):=sck
theorem gZ(C:Ctx K mg):Def P w K mg base 2 "add_circuit" ["steps", "inputs", "circuit", "starts"] (spM K [.AV,.AV,.AV,.AV] 0 dB):=
 Ek (N:=["steps", "inputs", "circuit", "starts", "names", "step"]) (fs:=[.AV,.AV,.AV,.AV]) (O:=λp=>[.fix p,.AV,.AV,.AV,.own,.AW]) (O':=λ_=>[]) (Ol:=[]) (j:=0) (C.f (n:=18)) pF rfl (by decide) (λ_=>rfl) (λp=>of_decide_eq_true rfl) λp f AN A BA s H E hr=>
 (bI (dY 4 pF.nd (xW Oo rfl C.n rJ (aV 3 aG)))
  (bI (iJ fy rfl [5] (d8 (sq (sx 2))) (cB 5 pF.nd) (bI (jh 0 (bV (wk C) hr (aV 5 (aV 4 aG))))
  (aB (jh 4 (aL jo (sp (aL dh (aq 1) (sp (cD jr rfl C.n fQ (aV 0 aG))))) sI)))) Dj)
  (aB (Fj 0 rfl (eU (aq 4) (sp (sx 2)))))))
theorem lO:cX ["circuit", "kit", "inputs", "names", "steps", "step"] ["circuit", "kit"] (aN (top 19)):=sck
theorem Mq(C:Ctx K mg):Def P w K mg base 3 "replaced" ["circuit", "kit"] (spT K .AV .f nQ):=
 Sy (N:=["circuit", "kit", "inputs", "names", "steps", "step"]) (f0:=.AV) (o0:=.AV) (O:=[.AW,.own,.own,.AW]) (O':=[]) (Ol:=[]) (rm:=.f) (C.f (n:=19)) lO rfl (by decide) (.inr ⟨rfl,rfl⟩) λf AN A BA s H E hr=>
 (bI (bB 2 lO.nd (sx 0))
  (bI (dY 3 lO.nd (yU rfl rfl C.n rJ rfl C.n BK (aq 2)))
  (bI (dY 4 lO.nd (bC aK))
  (bI (iJ fy rfl [5] (d8 (sq (sx 0))) (cB 5 lO.nd) (aB (Nb 3 4 (by decide) (iH 4 (gZ C) (hr.mono (by decide)) rfl (jO 4 (eG (gh 2) (eG (sq (acJ 1 hr.cH (sx 5) (λ_ _=>rfl))) (eG (sq (sfe (dw ["wire"] [3] rfl rfl rfl rfl (by decide) (j7 (sp (sx 5))) (λ_ _ _ _ _=>(cC 0 (show fA (["wire", "names"]:B6) by decide +kernel) rfl (hW rfl))) (λ_ _ _ _ _=>dq) (λ_ _ _ _ _=>(eU (aq 1) (aq 0)))))) jN)))) rfl rfl rfl (by decide)))) (by decide))
  (aB (bA (bD (aD (aY 2) (aD (fG gC rfl C.n gH (aV 4 aG)) (aD (eU (aq 3) (sp (sx 0))) aK))))))))))
theorem xM(C:Ctx K mg):Def P w K mg base 2 "without_doubles" ["circuit"] (spF K [.AV] .f je):=
 bU (top 20) ["circuit", "inputs", "names", "steps", "stayed", "old", "step"] [.AV,.AW,.own,.own,.own,.AW,.AW] C.f λnd hr=>
 (bI (bB 1 nd (sx 0))
  (bI (dY 2 nd (yU rfl rfl C.n rJ rfl C.n BK (aq 1)))
  (bI (dY 3 nd (bC aK))
  (bI (Z1 4 (O1:=[.AV,.AW,.own,.own,.own,.AW,.AW]) (dY 4 nd oY))
  (bI (iJ fy rfl [5,6] (d8 (sq (sx 0))) (cB 5 nd) (bI (bB 6 nd (bV (wk C) hr (aV 5 (aV 2 aG))))
  (bI (cF (Ss 4 hr.cH (aY 6)) (bI (Z7 4 hr.cH (aY 6) (aL dh (aq 1) (sp (cD jr rfl C.n fQ (aV 3 aG)))))
  (aB (jh 3 (aY 6)))) bZ)
  (aB (jh 2 (adT 4 hr.cH (aY 6) (λ_ _=>rfl)))))) (by decide))
  (aB (bA (bD (aD (aY 1) (aD (fG gC rfl C.n gH (aV 3 aG)) (aD (eU (aq 2) (sp (sx 0))) aK)))))))))))
theorem Hf(C:Ctx K mg):Def P w K mg base 1 "used_wires" ["circuit"] (spF K [.AV] .t nu):=
 bU (top 21) ["circuit", "inputs", "steps", "used", "s", "wire"] [.AV,.AW,.AW,.own,.AW,.AW] C.f λnd hr=>
 (bj (bB 1 nd (sx 0))
  (bj (bB 2 nd (sx 0))
  (bj (dY 3 nd (Zn (sx 0) lG))
  (bj (d7 [4,5] (Uw rfl C.n (sp (aL jo (sp (cD jr rfl C.n fQ (aV 2 aG))) sI)) (sp (Du sI)) (sp (Du sI))) (cB 4 nd) (aB (cF (n8 (Ii hr.cH) (sp (aL dh (aq 1) (aq 4))) (aq 3) rfl) (aB (d7 [5] (d8 (sq (eU (sp (eU (aq 2) (aq 4))) sI))) (cB 5 nd) (aB (m6 3 hr.cH (aY 5) lG)))) bZ)))
  (aB (lJ 3))))))
theorem qK(C:Ctx K mg):Def P w K mg base 2 "without_unused" ["circuit"] (spF K [.AV] .f fV):=
 bU (top 22) ["circuit", "inputs", "used", "names", "j", "steps", "s", "step"] [.AV,.AW,.AW,.own,.AW,.own,.AW,.AW] C.f λnd hr=>
 (bj (bB 1 nd (sx 0))
  (bj (bB 2 nd (sfe (oX (Hf C) hr (aV 0 aG))))
  (bj (dY 3 nd oY)
  (bj (d7 [4] (fK rfl C.n (aq 1)) (cB 4 nd) (aB (m6 3 hr.cH (aY 4) (aY 4))))
  (bj (dY 5 nd (bC aK))
  (bj (d7 [6,7] (M8 rfl C.n (sq (sx 0))) (nM rfl (pL (cB 6 nd) (pL (cB 7 nd) lB))) (aB (cF (n8 (Ii hr.cH) (sp (aL dh (aq 1) (aq 6))) (aq 2) rfl) (bj (jh 5 (bV (wk C) hr (aV 7 (aV 3 aG))))
  (aB (m6 3 hr.cH (aL dh (aq 1) (aq 6)) (aL jo (sp (aL dh (aq 1) (sp (cD jr rfl C.n fQ (aV 5 aG))))) sI)))) bZ)))
  (aB (bA (bD (aD (aY 1) (aD (fG gC rfl C.n gH (aV 5 aG)) (aD (qw hr.cH (aq 3) (sp (sx 0)) (λ_ _=>rfl)) aK))))))))))))
theorem Gu(C:Ctx K mg):Def P w K mg base 3 "shared" ["circuit"] (spF K [.AV] .f o9):=
 bU (top 23) ["circuit"] [.AV] C.f λnd hr=>
 (aB (bA (bV (qK C) hr (bK (sp (bV (xM C) hr (aV 0 aG))) aG))))
theorem Tc(C:Ctx K mg):Def P w K mg base 1 "marked" ["rows"] (spF K [.AV] .t wC):=
 bU (top 27) ["rows", "marks", "row"] [.AV,.own,.AW] C.f λnd hr=>
 (bj (dY 1 nd oY)
  (bj (d7 [2] (d8 (gh 0)) (cB 2 nd) (aB (m6 1 hr.cH (aY 2) lG)))
  (aB (lJ 1))))
theorem Ld(C:Ctx K mg):Def P w K mg base 3 "put_rows" ["gate", "rows", "width"] (spF K [.AV,.AV,.AV] .f qY):=
 bU (top 28) ["gate", "rows", "width"] [.AV,.AV,.AV] C.f λnd hr=>
 (aB (bA (bV (Cq C) hr (aV 0 (aV 1 (bK (sp (aL jo (sp (bV (rT C) hr (aV 2 aG))) sI)) aG))))))
theorem W6(C:Ctx K mg):Def P w K mg base 1 "power" ["base", "exponent"] (spF K [.AV,.AV] .f zB):=
 bU (top 29) ["base", "exponent", "product", "j"] [.AV,.AV,.AW,.AW] C.f λnd hr=>
 (bj (bB 2 nd fP)
  (bj (d7 [3] (fK rfl C.n (aq 1)) (cB 3 nd) (aB (bB 2 nd (aL jg (aq 0) (aq 2)))))
  (aB (bA (aY 2)))))
theorem xf(C:Ctx K mg):Def P w K mg base 2 "list_count" ["count", "gates"] (spF K [.AV,.AV] .f jk):=
 bU (top 30) ["count", "gates"] [.AV,.AV] C.f λnd hr=>
 (aB (bA (cD (xO rfl) rfl C.n xj (bK (sfp (dw ["gate"] [0] rfl rfl rfl rfl (by decide) (j7 (aq 1)) (λ_ _ _ _ _=>(cC 0 (show fA (["gate", "count"]:B6) by decide +kernel) rfl (hW rfl))) (λ_ _ _ _ _=>dq) (λ_ _ _ _ _=>(bV (W6 C) hr (aV 1 (bK (sp (sx 0)) aG)))))) aG))))
theorem uJ(C:Ctx K mg):Def P w K mg base 1 "lists_of" ["choices"] (spF K [.AV] .f iR):=
 bU (top 31) ["choices", "lists", "rows", "longer", "chosen", "row"] [.AV,.AW,.AW,.own,.AW,.AW] C.f λnd hr=>
 (bI (bB 1 nd (sfe (bC (aD (sfe (bC aK)) aK))))
  (bI (iJ fy rfl [2,3,4,5] (d8 (gh 0)) (cB 2 nd) (bI (dY 3 nd (bC aK))
  (bI (iJ fy rfl [4,5] (d8 (gh 1)) (cB 4 nd) (aB (iJ fy rfl [5] (d8 (gh 2)) (cB 5 nd) (aB (jh 3 (aL dh (aq 4) (sfp (bC (aD (aY 5) aK)))))) (by decide))) (by decide))
  (aB (Jc 3 (O2:=[.AV,.AW,.AW,.AW,.AW,.AW]) (bB 1 nd (aY 3)))))) (by decide))
  (aB (bA (aY 1)))))
theorem Su(C:Ctx K mg):Def P w K mg base 4 "broken" ["gate", "relation"] (spF K [.AW,.AV] .f tB):=
 bU (top 32) ["gate", "relation", "width", "rows", "marks", "chosen"] [.AW,.AV,.AW,.AW,.AW,.AW] C.f λnd hr=>
 (bj (bB 2 nd (sx 1))
  (bj (bB 3 nd (sx 1))
  (bj (cF (cU Dk (sp (bV (xf C) hr (bK (sp (cD jr rfl C.n fQ (aV 3 aG))) (bK (sfp (bC (aD (aY 0) aK))) aG)))) (sp (zq rfl C.xY C.yL (λ_=>Rp.int.mpr rfl)))) (aB KH) bZ)
  (bj (bB 4 nd (sfe (oX (Tc C) hr (aV 3 aG))))
  (bj (d7 [5] (d8 (sq (bV (uJ C) hr (bK (sfp (Dp (bC (aD (aY 3) aK)) (sp (sx 0)))) aG)))) (cB 5 nd) (aB (cF (n8 (qp hr.cH) (sp (bV (Ld C) hr (aV 0 (aV 5 (aV 2 aG))))) (aq 4) rfl) (aB (bA (aY 5))) bZ)))
  (aB (bA kZ)))))))
theorem El(C:Ctx K mg):Def P w K mg base 2 "fresh_lists" ["old", "fresh", "length"] (spF K [.AW,.AW,.AV] .t mG):=
 bU (top 33) ["old", "fresh", "length", "lists", "place"] [.AW,.AW,.AV,.own,.AW] C.f λnd hr=>
 (bj (dY 3 nd (bC aK))
  (bj (d7 [4] (fK rfl C.n (aq 2)) (cB 4 nd) (aB (aah 3 (bV (uJ C) hr (bK (sp (aL dh (sp (aL dh (sfp (Dp (bC (aD (aY 0) aK)) (aq 4))) (sfp (bC (aD (aY 1) aK))))) (sfp (Dp (bC (aD (aL dh (aq 0) (aq 1)) aK)) (sp (aL jo (sp (aL jo (aq 2) (aq 4))) sI)))))) aG)))))
  (aB (lJ 3))))
theorem yN:cX ["count", "gates"] ["count", "gates"] (aN (top 34)):=sck
theorem yH(C:Ctx K mg):Def P w K mg base 3 "refuse_too_many" ["count", "gates"] (spF K [.AV,.AV] .f fC):=
 aaH (N:=["count", "gates"]) (fs:=[.AV,.AV]) (O:=[.AV,.AV]) (O':=[.AV,.AV]) (Ol:=[]) (rm:=.f) (C.f (n:=34)) yN rfl (by decide) (by decide) (hrm:=rfl) (hbody:=λf AN A BA s H E hr=>
 (aB (cF (m8 (Dc (cU Dk (aq 0) (sp (zq rfl C.yg C.xR (λ_=>Rp.int.mpr rfl)))) (yP (cU Dk (sp (bV (xf C) hr (aV 0 (aV 1 aG)))) (sp (zq rfl C.xY C.yL (λ_=>Rp.int.mpr rfl))))))) (aB KH) bZ)))
theorem aai(C:Ctx K mg):Def P w K mg base 1 "kind" ["name"] (spF K [.AV] .f Jm):=
 bU (top 39) ["name"] [.AV] C.f λnd hr=>
 (aB (bA (Th rfl C.Li C.mj (aq 0) (λ_ _=>rfl))))
theorem DP(C:Ctx K mg):Def P w K mg base 5 "first_breach" ["gates", "relation"] (spF K [.AV,.AV] .f jf):=
 bU (top 40) ["gates", "relation", "number", "gate", "rows"] [.AV,.AV,.AW,.AW,.AW] C.f λnd hr=>
 (bj (d7 [2,3,4] (M8 rfl C.n (gh 0)) (nM rfl (pL (cB 2 nd) (pL (cB 3 nd) lB))) (bj (bB 4 nd (bV (Su C) hr (fB (aY 3) (aV 1 aG))))
  (aB (cF (cU Oa (aq 4) (sp kZ)) (aB (bA (bD (aD (aY 2) (aD (aY 4) aK))))) bZ))))
  (aB (bA kZ)))
theorem Ij(C:Ctx K mg):Def P w K mg base 6 "kinds" ["gates"] (spF K [.AV] .t vd):=
 bU (top 41) ["gates"] [.AV] C.f λnd hr=>
 (aB (rH (dw ["name"] [0] rfl rfl rfl rfl (by decide) (j7 (sp (jP rfl C.Eu C.oR))) (λ_ _ _ _ _=>(cC 0 (show fA (["name", "gates"]:B6) by decide +kernel) rfl (hW rfl))) (λ_ _ _ _ _=>dq) (λ_ _ _ _ _=>(bV (DP C) hr (aV 1 (bK (sp (bV (aai C) hr (aV 0 aG))) aG)))))))
theorem Mh(C:Ctx K mg):Def P w K mg base 1 "outsider" ["name"] (spF K [.AV] .f wK):=
 bU (top 42) ["name"] [.AV] C.f λnd hr=>
 (aB (bA (Th rfl C.Ms C.lU (aq 0) (λ_ _=>rfl))))
theorem pI:cX ["steps", "inputs", "tree", "ends", "part"] ["steps", "inputs", "tree"] (aN (top 44)):=sck
theorem Aj(C:Ctx K mg):∀fu:Nat,Def P w K mg base (2+fu) "add_tree" ["steps", "inputs", "tree"] (spM K [.AV,.AV,.AW] 0 (jL fu))
 | 0=>Ws (k:=1) (C.f (n:=44)) pI
 | fu+1=>have Pu:=Aj C fu
 Ek (k:=2+fu) (N:=["steps", "inputs", "tree", "ends", "part"]) (fs:=[.AV,.AV,.AW]) (O:=λp=>[.fix p,.AV,.AW,.own,.AW]) (O':=λ_=>[]) (Ol:=[]) (j:=0) (C.f (n:=44)) pI rfl (by decide) (λ_=>rfl) (λp=>of_decide_eq_true rfl) λp f AN A BA s H E hr=>
 (bI (cF (xQ (sp (jU (Af C) (hr.mono (by lia)) rfl (aV 2 aG)))) (aB (Fj 0 rfl (aY 2))) bZ)
  (bI (dY 3 pI.nd (bC aK))
  (bI (iJ fy rfl [4] (d8 (sq (sx 2))) (cB 4 pI.nd) (aB (Nb 3 0 (by decide) (iH 0 Pu (hr.mono (by lia)) rfl (jO 0 (eG (gh 1) (qu (aY 4) jN))) rfl rfl rfl (by decide)))) Dj)
  (bI (jh 0 (bD (aD (sx 2) (aD (fG gC rfl C.n gH (aV 3 aG)) aK))))
  (aB (Fj 0 rfl (aL jo (sp (aL dh (aq 1) (sp (cD jr rfl C.n fQ (aV 0 aG))))) sI)))))))
theorem Ca(C:Ctx K mg):Def P w K mg base 103 "tree_circuit" ["tree", "inputs"] (spF K [.AW,.AW] .f jm):=
 bU (top 45) ["tree", "inputs", "steps", "out"] [.AW,.AW,.own,.AW] C.f λnd hr=>
 (bj (dY 2 nd (bC aK))
  (bj (Ei 3 2 nd rfl (hW rfl) (iH 2 (Aj C 100) (hr.mono (by decide)) rfl (jO 2 (eG (gh 1) (qu (aY 0) jN))) rfl rfl rfl (by decide)) (of_decide_eq_true rfl))
  (aB (bA (bD (aD (aY 1) (aD (fG gC rfl C.n gH (aV 2 aG)) (aD (aY 3) aK))))))))
theorem Vi:cX ["waiting", "table", "way"] ["waiting", "table", "way"] (aN (top 47)):=sck
theorem Bw(C:Ctx K mg):Def P w K mg base 1 "offer" ["waiting", "table", "way"] (spM K [.AV,.AW,.AW] 0 mV):=
 W8 (N:=["waiting", "table", "way"]) (fs:=[.AV,.AW,.AW]) (O:=λp=>[.fix p,.AW,.AW]) (O':=λp=>[.fix p,.AW,.AW]) (Ol:=[]) (j:=0) (C.f (n:=47)) Vi rfl (by decide) (λ_=>rfl) (λp=>of_decide_eq_true rfl) (λ_=>rfl) λp f AN A BA s H E hr=>
 (aB (cF (m8 (Dc (n8 (qp hr.cH) (aq 1) (aq 0) rfl) (yP (cU Hq (sp (sx 2)) (sp (eU (sp (qw hr.cH (aq 0) (aq 1) (λ_ _=>rfl))) sI)))))) (aB (m6 0 hr.cH (aY 1) (aY 2))) bZ))
theorem Hn(C:Ctx K mg):Def P w K mg base 4 "first_ways" ["gates", "inputs"] (spF K [.AV,.AV] .t kI):=
 bU (top 48) ["gates", "inputs", "waiting", "table", "gate"] [.AV,.AV,.own,.AW,.AW] C.f λnd hr=>
 (bj (dY 2 nd oY)
  (bj (d7 [3] (d8 (sq (sfe (oX (tY C) hr (aV 1 aG))))) (cB 3 nd) (aB (JH 2 (iH 2 (Bw C) (hr.mono (by decide)) rfl (jO 2 (qu (aY 3) (qu (bD (bz (aD kZ (aD (bD aK) aK)))) jN))) rfl rfl rfl (by decide)))))
  (bj (d7 [4] (d8 (gh 0)) (cB 4 nd) (aB (cF (cU (dZ hr.units) (sp (sx 4)) sI) (aB (JH 2 (iH 2 (Bw C) (hr.mono (by decide)) rfl (jO 2 (qu (bV (DY C) hr (aV 4 (bK (sfp (bC aK)) (aV 1 aG)))) (qu (bD (bz (aD (aY 4) (aD (bD aK) aK)))) jN))) rfl rfl rfl (by decide)))) bZ)))
  (aB (lJ 2)))))
theorem KQ(C:Ctx K mg):Def P w K mg base 4 "ways_from" ["found", "table", "gate", "inputs"] (spF K [.AV,.AW,.AW,.AV] .t jQ):=
 bU (top 49) ["found", "table", "gate", "inputs", "old", "told", "chosen", "given", "cost"] [.AV,.AW,.AW,.AV,.AW,.own,.AW,.AW,.AW] C.f λnd hr=>
 (bI (Xj 0 4 ["known"] [1] rfl nd rfl (hW rfl) rfl rfl rfl rfl (by decide) (Zi 0) (λ_ _ _ _ _=>(cC 0 (show fA (["known", "table"]:B6) by decide +kernel) rfl (hW rfl))) (λ_ _ _ _ _=>(wA (cU (BX hr.units) (aq 0) (aq 1)))) (λ_ _ _ _ _=>(aY 0)))
  (bI (dY 5 nd (bC aK))
  (bI (Jc 4 (O2:=[.AV,.AW,.AW,.AV,.AW,.own,.AW,.AW,.AW]) (iJ fy rfl [6,7,8] (d8 (sq (sfe (oX (El C) hr (fB (aY 4) (fB (sfe (bC (aD (aY 1) aK))) (bK (sp (sx 2)) aG))))))) (cB 6 nd) (bI (bB 7 nd (bV (DY C) hr (aV 2 (aV 6 (aV 3 aG)))))
  (aB (cF (n8 (qp hr.cH) (aq 7) (aq 0) rfl) (bI (bB 8 nd (aL dh sI (sp (cD (xO rfl) rfl C.n xj (bK (sfp (dw ["part"] [0] rfl rfl rfl rfl (by decide) (j7 (aq 6)) (λ_ _ _ _ _=>(cC 0 (show fA (["part", "found"]:B6) by decide +kernel) rfl (hW rfl))) (λ_ _ _ _ _=>dq) (λ_ _ _ _ _=>(eU (sp (qw hr.cH (aq 1) (aq 0) (λ_ _=>rfl))) sI)))) aG)))))
  (aB (jh 5 (bD (aD (aY 7) (aD (bD (aD (aY 8) (aD (aY 2) (aD (fG gC rfl C.n gH (aV 6 aG)) aK)))) aK)))))) bZ))) (by decide)))
  (aB (lJ 5)))))
theorem oV:cX ["gates", "inputs", "found", "waiting", "table", "gate", "given", "way"] ["gates", "inputs"] (aN (top 50)):=sck
theorem aa6(C:Ctx K mg):Def P w K mg base 5 "ways" ["gates", "inputs"] (spF K [.AV,.AV] .t ql):=
 aaN (N:=["gates", "inputs", "found", "waiting", "table", "gate", "given", "way"]) (fs:=[.AV,.AV]) (O:=[.AV,.AV,.own,.own,.AW,.AW,.AW,.AW]) (O':=[]) (Ol:=[]) (rm:=.t) C.W C.hT oV rfl (by decide) (by decide) λf cd A BA s H E hcd hr=>
 (bj (dY 2 oV.nd oY)
  (bj (dY 3 oV.nd (oX (Hn C) hr (aV 0 (aV 1 aG))))
  (bj (Yv 1000000 [4,5,6,7] (cU Dk (sp (cD vh rfl C.n fQ (aV 3 aG))) sI) (bj (bB 4 oV.nd (aaT 3 rfl rfl rfl hr rfl hcd C.hT rfl rfl C.n rfl rfl rfl rfl rfl (λ_ _ _ _ _ _=>rfl)))
  (bj (Uz 2 3 4 hr.cH (by decide) (by decide) (by decide))
  (bj (aeU (sp (bV (yH C) hr (bK (sp (cD vh rfl C.n fQ (aV 2 aG))) (aV 0 aG)))))
  (aB (d7 [5,6,7] (d8 (gh 0)) (cB 5 oV.nd) (aB (d7 [6,7] (d8 (sq (sfe (oX (KQ C) hr (aV 2 (fB (aY 4) (fB (aY 5) (aV 1 aG)))))))) (nM rfl (pL (cB 6 oV.nd) (pL (cB 7 oV.nd) lB))) (aB (JH 3 (iH 3 (Bw C) (hr.mono (by decide)) rfl (jO 3 (qu (aY 6) (qu (aY 7) jN))) rfl rfl rfl (by decide))))))))))))
  (aB (lJ 2)))))
theorem En(C:Ctx K mg):Def P w K mg base 3 "way_circuit" ["found", "table", "inputs"] (spF K [.AV,.AV,.AW] .f iG):=
 bU (top 51) ["found", "table", "inputs", "wires", "steps", "known", "way"] [.AV,.AV,.AW,.own,.own,.AW,.AW] C.f λnd hr=>
 (bj (dY 3 nd oY)
  (bj (dY 4 nd (bC aK))
  (bj (Zz 0 rfl (by repeat first | exact af3 | exact acv | exact adF | exact abh | apply adS | apply ael) fy rfl [5,6] (Xf 0) (nM rfl (pL (cB 5 nd) (pL (cB 6 nd) lB))) (bj (m6 3 hr.cH (aY 5) (cD vh rfl C.n fQ (aV 3 aG)))
  (aB (cF (cU Oa (sp (sx 6)) (sp kZ)) (aB (jh 4 (bD (aD (sx 6) (aD (fG gC rfl C.n gH (bK (sfp (dw ["part"] [3] rfl rfl rfl rfl (by decide) (j7 (sp (sx 6))) (λ_ _ _ _ _=>(cC 0 (show fA (["part", "wires"]:B6) by decide +kernel) rfl (hW rfl))) (λ_ _ _ _ _=>dq) (λ_ _ _ _ _=>(qw hr.cH (aq 1) (aq 0) (λ_ _=>rfl))))) aG)) aK))))) bZ))) (by decide))
  (aB (bA (bV (qK C) hr (bK (sp (bD (aD (aY 2) (aD (fG gC rfl C.n gH (aV 4 aG)) (aD (qw hr.cH (aq 3) (aq 1) (λ_ _=>rfl)) aK))))) aG)))))))
theorem lW(C:Ctx K mg):Def P w K mg base 2 "opposite" ["tree"] (spF K [.AW] .f cO):=
 bU (top 56) ["tree"] [.AW] C.f λnd hr=>
 (bj (cF (m8 (uW (Dq (xQ (sp (bV (Af C) hr (aV 0 aG))))) (rB (cU (dZ hr.units) (sp (sx 0)) (sp (jP rfl C.O4 C.wu)))))) (aB (bA (eU (sp (sx 0)) sI))) bZ)
  (aB (bA (bD (aD (jP rfl C.O4 C.wu) (aD (bD (aD (aY 0) aK)) aK))))))
theorem YS(C:Ctx K mg){pt:B4->AO ab}{kk:Nat}(hkk:5<=kk)(nR:Def P w K mg base kk "plain_tree" ["wish"] (spF K [.AV] .f pt)):Def P w K mg base (kk+1) "side" ["half", "there"] (spF K [.AV,.AW] .t (sX pt)):=
 bU (k:=kk) (top 57) ["half", "there"] [.AV,.AW] C.f λnd hr=>
 (bj (cF (cU (dZ hr.units) (sp (sx 0)) sI) (aB (rH (bC aK))) bZ)
  (bj (cF (cU (dZ hr.units) (sp (sx 0)) (sp (jU (mD C) (hr.mono (by lia)) rfl (bK (sp (sx 0)) aG)))) (aB (rH (bC (aD (jU (lW C) (hr.mono (by lia)) rfl (fB (aY 1) aG)) aK)))) bZ)
  (aB (rH (bC (aD (bD (aD (jP rfl C.xq C.nG) (aD (bD (aD (aY 1) (aD (jU nR (hr.mono (by lia)) rfl (aV 0 aG)) aK))) aK))) aK))))))
theorem Hj:cX ["wish", "last", "low", "high", "sides"] ["wish"] (aN (top 58)):=sck
theorem wZ(C:Ctx K mg):∀fu:Nat,Def P w K mg base (5+2*fu) "plain_tree" ["wish"] (spF K [.AV] .f (cP fu))
 | 0=>Zb (k:=4) (C.f (n:=58)) Hj
 | fu+1=>have nR:=wZ C fu
 have Ur:=YS C (kk:=5+2*fu) (by lia) nR
 bU (k:=5+2*fu+1) (top 58) ["wish", "last", "low", "high", "sides"] [.AV,.AW,.AW,.AW,.AW] C.f λnd hr=>
 (bj (bB 1 nd (aL jo (sp (sx 0)) sI))
  (bj (bB 2 nd (jU (Ai C) (hr.mono (by lia)) rfl (aV 0 (fB (aY 1) (bK sI aG)))))
  (bj (bB 3 nd (jU (Ai C) (hr.mono (by lia)) rfl (aV 0 (fB (aY 1) (bK sI aG)))))
  (bj (cF (cU (dZ hr.units) (aq 2) (aq 3)) (aB (bA (jU nR (hr.mono (by lia)) rfl (aV 2 aG)))) bZ)
  (bj (bB 4 nd (aL dh (sfp (FT Ur (hr.mono (by lia)) rfl (aV 2 (fB (jU (lW C) (hr.mono (by lia)) rfl (fB (aY 1) aG)) aG)))) (sfp (FT Ur (hr.mono (by lia)) rfl (aV 3 (fB (aY 1) aG))))))
  (bj (cF (cU (dZ hr.units) (sp (cD jr rfl C.n fQ (aV 4 aG))) sI) (aB (bA (jU (lW C) (hr.mono (by lia)) rfl (fB (sx 4) aG)))) bZ)
  (aB (bA (bD (aD (jP rfl C.xq C.nG) (aD (fG gC rfl C.n gH (aV 4 aG)) aK)))))))))))
theorem Ks(C:Ctx K mg):Def P w K mg base 22 "wish_tree" ["wish"] (spF K [.AV] .f pO):=
 bU (top 59) ["wish", "always"] [.AV,.AW] C.f λnd hr=>
 (bj (bB 1 nd (bD (aD (jP rfl C.xq C.nG) (aD (bD (bz (aD (bV (lW C) hr (fB fP aG)) aK))) aK))))
  (bj (cF (cU (dZ hr.units) (sp (sx 0)) (sp (bV (mD C) hr (bK (sp (sx 0)) aG)))) (aB (bA (aY 1))) bZ)
  (aB (bA (Q3 (cU (dZ hr.units) (sp (sx 0)) sI) (bV (lW C) hr (fB (aY 1) aG)) (bV (wZ C 8) hr (aV 0 aG)))))))
theorem zX:cX ["steps", "lone"] ["steps", "lone"] (aN (top 60)):=sck
theorem z8(C:Ctx K mg):Def P w K mg base 3 "tables_at_hand" ["steps", "lone"] (spM K [.AV,.AV] 0 jF):=
 Ek (N:=["steps", "lone"]) (fs:=[.AV,.AV]) (O:=λp=>[.fix p,.AV]) (O':=λ_=>[]) (Ol:=[]) (j:=0) (C.f (n:=60)) zX rfl (by decide) (λ_=>rfl) (λp=>of_decide_eq_true rfl) λp f AN A BA s H E hr=>
 (aB (V3 0 rfl (ie.ev fP (ie.ev fP (ie.cl (iH 0 (gZ C) (hr.mono (by decide)) rfl (jO 0 (eG (sq fP) (eG (sq (sx 1)) (eG (sq (sfe (bC (bz aK)))) jN)))) rfl rfl rfl (by decide)) (ie.cl (iH 0 (gZ C) (hr.mono (by decide)) rfl (jO 0 (eG (sq fP) (eG (sq (sx 1)) (eG (sq (sfe (bC (bz aK)))) jN)))) rfl rfl rfl (by decide)) (ie.cl (iH 0 (gZ C) (hr.mono (by decide)) rfl (jO 0 (eG (sq fP) (eG (sq (sx 1)) (eG (sq (sfe (bC (bz aK)))) jN)))) rfl rfl rfl (by decide)) (ie.cl (iH 0 (gZ C) (hr.mono (by decide)) rfl (jO 0 (eG (sq fP) (eG (sq (sx 1)) (eG (sq (sfe (bC (bz aK)))) jN)))) rfl rfl rfl (by decide)) ie.nil)))))) rfl rfl (λz=>nomatch z) (by decide)))
theorem tR(C:Ctx K mg):Def P w K mg base 4 "first_giving" ["gate", "lists", "wanted"] (spF K [.AV,.AV,.AV] .f jj):=
 bU (top 61) ["gate", "lists", "wanted", "chosen"] [.AV,.AV,.AV,.AW] C.f λnd hr=>
 (bj (d7 [3] (d8 (gh 1)) (cB 3 nd) (aB (cF (cU (dZ hr.units) (sp (bV (DY C) hr (aV 0 (aV 3 (bK sI aG))))) (aq 2)) (aB (bA (aY 3))) bZ)))
  (aB (bA kZ)))
theorem CJ(C:Ctx K mg):Def P w K mg base 5 "nand_circuit" ["gate", "lone"] (spF K [.AW,.AV] .f fU):=
 bU (top 62) ["gate", "lone", "steps", "wires", "lists", "direct", "chosen", "out"] [.AW,.AV,.own,.AW,.AW,.AW,.AW,.AW] C.f λnd hr=>
 (bj (dY 2 nd (bC aK))
  (bj (Ei 3 2 nd rfl (va rfl) (iH 2 (z8 C) (hr.mono (by decide)) rfl (jO 2 (eG (gh 1) jN)) rfl rfl rfl (by decide)) (of_decide_eq_true rfl))
  (bj (bB 4 nd (bV (uJ C) hr (bK (sfp (Dp (bC (aD (sfe (xW (Vg rfl) rfl C.n rJ (aV 3 aG))) aK)) (sp (sx 0)))) aG)))
  (bj (bB 5 nd (bV (tR C) hr (aV 0 (aV 4 (bK (sp (eU (sp (jP rfl C.xq C.nG)) sI)) aG)))))
  (bj (bB 6 nd (Q3 (cU Cj (aq 5) (sp kZ)) (bV (tR C) hr (aV 0 (aV 4 (bK (sp (eU (sp (jP rfl C.ad8 C.BV)) sI)) aG)))) (aY 5)))
  (bj (jh 2 (bD (aD (aY 0) (aD (fG gC rfl C.n gH (bK (sfp (dw ["table"] [3] rfl rfl rfl rfl (by decide) (j7 (aq 6)) (λ_ _ _ _ _=>(cC 0 (show fA (["table", "wires"]:B6) by decide +kernel) rfl (hW rfl))) (λ_ _ _ _ _=>dq) (λ_ _ _ _ _=>(qw hr.cH (aq 1) (aq 0) (λ_ _=>rfl))))) aG)) aK))))
  (bj (bB 7 nd (aL dh (sp (cD jr rfl C.n fQ (aV 2 aG))) sI))
  (bj (cF (cU Cj (aq 5) (sp kZ)) (aB (Ei 7 2 nd rfl (hW rfl) (iH 2 (gZ C) (hr.mono (by decide)) rfl (jO 2 (eG (sq fP) (eG (sq (sx 1)) (eG (sq (sfe (bC (aD (aY 7) aK)))) jN)))) rfl rfl rfl (by decide)) (of_decide_eq_true rfl))) bZ)
  (aB (bA (bV (Gu C) hr (bK (sp (bD (bz (aD (fG gC rfl C.n gH (aV 2 aG)) (aD (aY 7) aK))))) aG))))))))))))
theorem Vn(C:Ctx K mg):Def P w K mg base 104 "build" ["gates", "wish"] (spF K [.AV,.AV] .f zp):=
 bU (top 63) ["gates", "wish", "breaches", "name", "breach", "found", "lone", "breaker", "kit"] [.AV,.AV,.AW,.AW,.AW,.AW,.AW,.AW,.AW] C.f λnd hr=>
 (bI (bB 2 nd (sfe (oX (Ij C) hr (aV 0 aG))))
  (bI (iJ fy rfl [3,4] (Og rfl C.n (jP rfl C.Eu C.oR) (aY 2)) (nM rfl (jH (cB 3 nd) (jH (cB 4 nd) lB))) (aB (cF (cU Cj (aq 4) (sp kZ)) (aB KH) bZ)) (by decide))
  (bI (bB 5 nd (sfe (oX (aa6 C) hr (aV 0 (bK sI aG)))))
  (bI (aa4 6 ["table"] [5] nd rfl (hW rfl) rfl rfl rfl rfl (by decide) (iW rfl C.n sI) (λ_ _ _ _ _=>(cC 0 (show fA (["table", "found"]:B6) by decide +kernel) rfl (hW rfl))) (λ_ _ _ _ _=>dq) (λ_ _ _ _ _=>(bV (En C) hr (aV 1 (aV 0 (fB fP aG))))))
  (bI (bB 7 nd (eU (aq 0) (sp (eU (sp (sx 2)) sI))))
  (bI (acK 8 hr.cH nd rfl (hW rfl) (nW.cons (jP rfl C.O4 C.wu) (sx 6) (nW.cons (jP rfl C.xq C.nG) (bV (CJ C) hr (fB (aY 7) (aV 6 aG))) nW.nil)) rfl rfl (λz=>nomatch z) (by decide) (of_decide_eq_true rfl))
  (aB (bA (bV (Gu C) hr (bK (sp (V4 8 rfl (Mq C) (hr.mono (by decide)) rfl (sp (bV (Ca C) hr (fB (bV (Ks C) hr (aV 1 aG)) (fB (sx 1) aG)))))) aG))))))))))
theorem pD(C:Ctx K mg):Def P w K mg base 1 "_law_cell_at" ["_law_script", "_law_k"] (spF K [.AV,.AV] .f fD):=
 bU (top 65) ["_law_script", "_law_k"] [.AV,.AV] C.f λnd hr=>
 (bj (cF (cU Hq (aq 1) (sp (cD jr rfl C.n fQ (aV 0 aG)))) (aB (bA (eU (aq 0) (aq 1)))) bZ)
  (bj (cF (cU (dZ hr.units) (sp (cD jr rfl C.n fQ (aV 0 aG))) sI) (aB (bA (aL dh (sp (aL jg (sp (aL jg (aq 1) (aq 1))) sI)) (sp (aL jg sI (aq 1)))))) bZ)
  (aB (bA (aL dh (sp (aL m7 (sp (eU (aq 0) (sp (aL jn (aq 1) (sp (cD jr rfl C.n fQ (aV 0 aG))))))) (sp (aL dh sI (sp (aL m7 (aq 1) (sp (cD jr rfl C.n fQ (aV 0 aG))))))))) (sp (aL jg (sp (aL jg (aq 1) (aq 1))) sI)))))))
theorem Le(C:Ctx K mg):Def P w K mg base 1 "_law_gate" ["_law_cell"] (spF K [.AW] .f qL):=
 bU (top 66) ["_law_cell", "_law_inputs", "_law_some"] [.AW,.AW,.AW] C.f λnd hr=>
 (bj (bB 1 nd (eU (sfp (bC (bz (bz (bz (bz (bz (bz (bz (bz (bz (bz aK)))))))))))) (sp (aL jn (aq 0) sI))))
  (bj (bB 0 nd (aL m7 (aq 0) sI))
  (bj (bB 2 nd (sfe (bC (bz (bz (bz (bz (bz (bz (bz (bz aK)))))))))))
  (bj (cF (m8 (uW (cU (dZ hr.units) (aq 1) sI) (rB (cU (dZ hr.units) (sp (aL jn (aq 0) sI)) sI)))) (aB (bA (bD (bz (aD (eU (aq 2) (sp (aL jn (sp (aL m7 (aq 0) sI)) sI))) aK))))) bZ)
  (aB (bA (bD (aD (aY 1) (aD (aL jn (sp (aL dh (sp (aL jg (sp (aL m7 (aq 0) sI)) sI)) (aq 0))) (sp (eU (sfp (bC (bz (bz (bz (bz (bz aK))))))) (aq 1)))) aK)))))))))
theorem Jv(C:Ctx K mg):Def P w K mg base 1 "_law_keeps" ["_law_gate_here", "_law_name"] (spF K [.AV,.AV] .f dD):=
 bU (top 67) ["_law_gate_here", "_law_name", "_law_rows", "_law_values", "_law_row", "_law_total", "_law_k"] [.AV,.AV,.AW,.AW,.AW,.AW,.AW] C.f λnd hr=>
 (bj (bB 2 nd (aL kE sI (sp (sx 0))))
  (bj (bB 3 nd (sfe (dw ["_law_row"] [0] rfl rfl rfl rfl (by decide) (iW rfl C.n (aq 2)) (λ_ _ _ _ _=>(cC 0 (show fA (["_law_row", "_law_gate_here"]:B6) by decide +kernel) rfl (hW rfl))) (λ_ _ _ _ _=>dq) (λ_ _ _ _ _=>(aL kJ (sp (aL ou (sp (sx 1)) (aq 0))) sI)))))
  (bj (cF (cU (dZ hr.units) (aq 1) (sp lX)) (aB (bA (CZ (dZ hr.units) (sp (sx 3)) sI (xZ _)))) bZ)
  (bj (cF (cU (dZ hr.units) (aq 1) (sp lX)) (aB (bA (CZ (dZ hr.units) (sp (eU (aq 3) (sp (aL jo (aq 2) sI)))) sI (xZ _)))) bZ)
  (bj (cF (cU (dZ hr.units) (aq 1) (sp lX)) (aB (bA (CZ (dZ hr.units) (sfp (dw ["_law_row"] [3,2] rfl rfl rfl rfl (by decide) (iW rfl C.n (aq 2)) (λ_ _ _ _ _=>(cC 0 (show fA (["_law_row", "_law_values", "_law_rows"]:B6) by decide +kernel) rfl (hW rfl))) (λ_ _ _ _ _=>(wA (cU (dZ hr.units) (sp (eU (aq 1) (aq 0))) (sp (eU (aq 1) (sp (aL jo (sp (aL jo (aq 2) sI)) (aq 0)))))))) (λ_ _ _ _ _=>(aY 0)))) (sfp (bC aK)) (xZ _)))) bZ)
  (bj (d7 [4,5,6] (fK rfl C.n (aq 2)) (cB 4 nd) (bj (bB 5 nd (sx 3))
  (bj (d7 [6] (fK rfl C.n (sp (sx 0))) (cB 6 nd) (bj (cF (m8 (uW (cU (dZ hr.units) (aq 1) (sp lX)) (rB (cU Dk (sp (eU (aq 3) (aq 4))) (sp (eU (aq 3) (sp (aL P0 (aq 4) (sp (aL kE sI (aq 6))))))))))) (aB (bA lG)) bZ)
  (aB (bB 5 nd (aL dh (aq 5) (sp (aL jg (sp (aL kJ (sp (aL ou (aq 4) (aq 6))) sI)) (sp (aL dh (sp (eU (aq 3) (sp (aL kE sI (aq 6))))) (sp (sx 3)))))))))))
  (aB (cF (m8 (uW (cU (dZ hr.units) (aq 1) (sp lX)) (rB (cU (BX hr.units) (sp (aL jn (aq 5) sI)) (sp (eU (aq 3) (aq 4))))))) (aB (bA lG)) bZ)))))
  (aB (bA lG))))))))
theorem QC(C:Ctx K mg):Def P w K mg base 2 "_law_set" ["_law_script", "_law_start"] (spF K [.AV,.AV] .t qd):=
 bU (top 68) ["_law_script", "_law_start", "_law_first", "_law_name", "_law_good", "_law_found", "_law_k", "_law_gate_here"] [.AV,.AV,.AW,.AW,.AW,.own,.AW,.AW] C.f λnd hr=>
 (bj (bB 2 nd (bV (pD C) hr (aV 0 (aV 1 aG))))
  (bj (bB 3 nd (eU (sfp (bC (aD lX (aD lX (aD lX (aD lX (aD lX aK))))))) (sp (aL jn (sp (aL m7 (aq 2) sI)) sI))))
  (bj (bB 4 nd (sfe (bC (aD (sfe (bC (aD (bD (bz (bz aK))) aK))) (aD (sfe (bC (aD (bD (bz (bz aK))) aK))) (aD (sfe (bC (aD (bD (bz (bz aK))) (aD (bD (bz (bz aK))) aK)))) (aD (sfe (bC (aD (bD (bz (bz aK))) (aD (bD (bz (bz aK))) aK)))) (aD (sfe (bC (aD (bD (bz (bz aK))) (aD (bD (bz (bz aK))) (aD (bD (bz (bz aK))) aK))))) (aD (sfe (bC (aD (bD (bz (bz aK))) (aD (bD (bz (bz aK))) aK)))) aK)))))))))
  (bj (bB 4 nd (aL dh (aq 4) (sfp (bC (aD (sfe (bC (aD (bD (bz (bz aK))) (aD (bD (bz (bz aK))) aK)))) (aD (sfe (bC (aD (bD (bz (bz aK))) (aD (bD (bz (bz aK))) aK)))) (aD (sfe (bC (aD (bD (bz (bz aK))) (aD (bD (bz (bz aK))) (aD (bD (bz (bz aK))) aK))))) (aD (sfe (bC (aD (bD (bz (bz aK))) (aD (bD (bz (bz aK))) aK)))) (aD (sfe (bC (aD (bD (bz (bz aK))) aK))) aK)))))))))
  (bj (cF (cU (dZ hr.units) (sp (aL jn (aq 2) sI)) sI) (aB (rH (xW Oo rfl C.n rJ (bK (sp (eU (aq 4) (sp (aL jn (sp (aL m7 (aq 2) sI)) sI)))) aG)))) bZ)
  (bj (dY 5 nd (bC aK))
  (bj (d7 [6,7] (fK rfl C.n (sp (aL jn (sp (aL m7 (aq 2) sI)) sI))) (cB 6 nd) (bj (bB 7 nd (bV (Le C) hr (fB (bV (pD C) hr (aV 0 (bK (sp (aL dh (sp (aL dh (aq 1) sI)) (aq 6))) aG))) aG)))
  (bj (cF (m8 (uW (cU Hq (sp (aL jn (aq 2) sI)) sI) (rB (Dq (xQ (sp (bV (Jv C) hr (aV 7 (aV 3 aG))))))))) (aB (bB 7 nd (qw hr.cH (sp (Z5 (jX.cons (bD (bz (bz aK))) (jX.cons (bD (bz (bz aK))) (jX.cons (bD (bz (bz aK))) (jX.cons (bD (bz (bz aK))) (jX.cons (bD (bz (bz aK))) jX.nil))))) (by decide +kernel) (λz=>nomatch z) (by decide))) (aq 3) (λ_ _=>rfl)))) bZ)
  (aB (jh 5 (aY 7))))))
  (aB (lJ 5)))))))))
theorem J7(C:Ctx K mg):Def P w K mg base 1 "_law_lists" ["_law_things", "_law_size"] (spF K [.AV,.AV] .f lY):=
 bU (top 69) ["_law_things", "_law_size", "_law_found", "_law_k", "_law_wider", "_law_some"] [.AV,.AV,.AW,.AW,.own,.AW] C.f λnd hr=>
 (bI (bB 2 nd (sfe (bC (aD (sfe (bC aK)) aK))))
  (bI (iJ fy rfl [3,4,5] (fK rfl C.n (aq 1)) (cB 3 nd) (bI (dY 4 nd (bC aK))
  (bI (iJ fy rfl [5] (d8 (gh 2)) (cB 5 nd) (aB (abk 4 (dw ["_law_one"] [5] rfl rfl rfl rfl (by decide) (j7 (aq 0)) (λ_ _ _ _ _=>(cC 0 (show fA (["_law_one", "_law_some"]:B6) by decide +kernel) rfl (hW rfl))) (λ_ _ _ _ _=>dq) (λ_ _ _ _ _=>(aL dh (aq 1) (sfp (bC (aD (aY 0) aK)))))))) (by decide))
  (aB (Jc 4 (O2:=[.AV,.AV,.AW,.AW,.AW,.AW]) (bB 2 nd (aY 4)))))) (by decide))
  (aB (bA (aY 2)))))
theorem Ck(C:Ctx K mg):Def P w K mg base 1 "_law_put" ["_law_gate_here", "_law_some", "_law_inputs"] (spF K [.AV,.AV,.AV] .f mY):=
 bU (top 71) ["_law_gate_here", "_law_some", "_law_inputs", "_law_table", "_law_row", "_law_at"] [.AV,.AV,.AV,.AW,.AW,.AW] C.f λnd hr=>
 (bI (bB 3 nd fP)
  (bI (iJ fy rfl [4,5] (fK rfl C.n (sp (aL kE sI (aq 2)))) (cB 4 nd) (bI (bB 5 nd (cD (xO rfl) rfl C.n xj (bK (sfp (dw ["_law_k", "_law_one"] [4] rfl rfl rfl rfl (by decide) (Ov rfl C.n (aq 1)) (λ_ _ _ _ _=>(nM rfl (jH (cC 0 (show fA (["_law_k", "_law_one", "_law_row"]:B6) by decide +kernel) rfl (hW rfl)) (jH (cC 1 (show fA (["_law_k", "_law_one", "_law_row"]:B6) by decide +kernel) rfl (hW rfl)) lB)))) (λ_ _ _ _ _=>dq) (λ_ _ _ _ _=>(aL kE (sp (aL kJ (sp (aL ou (aq 1) (aq 2))) sI)) (aq 0))))) aG)))
  (aB (bB 3 nd (aL P0 (aq 3) (sp (aL kE (sp (aL kJ (sp (aL ou (sp (sx 0)) (aq 5))) sI)) (aq 4))))))) (by decide))
  (aB (bA (aY 3)))))
theorem Ls(C:Ctx K mg):Def P w K mg base 2 "_law_made" ["_law_gates", "_law_inputs"] (spF K [.AV,.AV] .t n6):=
 bU (top 70) ["_law_gates", "_law_inputs", "_law_rows", "_law_found", "_law_j", "_law_before", "_law_gate_here", "_law_some"] [.AV,.AV,.AW,.own,.AW,.AW,.AW,.AW] C.f λnd hr=>
 (bj (bB 2 nd (sfe (yU rfl rfl C.n rJ rfl C.n BK (sp (aL kE sI (aq 1))))))
  (bj (dY 3 nd oY)
  (bj (d7 [4] (fK rfl C.n (aq 1)) (cB 4 nd) (aB (m6 3 hr.cH (cD (xO rfl) rfl C.n xj (bK (sfp (dw ["_law_row"] [4] rfl rfl rfl rfl (by decide) (j7 (aq 2)) (λ_ _ _ _ _=>(cC 0 (show fA (["_law_row", "_law_j"]:B6) by decide +kernel) rfl (hW rfl))) (λ_ _ _ _ _=>dq) (λ_ _ _ _ _=>(aL kE (sp (aL kJ (sp (aL ou (aq 0) (aq 1))) sI)) (aq 0))))) aG)) lG)))
  (bj (bB 5 nd (Du sI))
  (bj (Yv 1000000 [6,7] (cU (BX hr.units) (aq 5) (sp (cD vh rfl C.n fQ (aV 3 aG)))) (bj (bB 5 nd (cD vh rfl C.n fQ (aV 3 aG)))
  (aB (d7 [6,7] (d8 (gh 0)) (cB 6 nd) (aB (d7 [7] (d8 (sq (bV (J7 C) hr (bK (sfp (Vy (QJ rfl) rfl C.n RN (aV 3 aG))) (bK (sp (sx 6)) aG))))) (cB 7 nd) (aB (m6 3 hr.cH (bV (Ck C) hr (aV 6 (aV 7 (aV 1 aG)))) lG))))))))
  (aB (lJ 3)))))))
theorem PN(C:Ctx K mg):Def P w K mg base 1 "_law_out" ["_law_circuit", "_law_row"] (spF K [.AV,.AV] .f uw):=
 bU (top 72) ["_law_circuit", "_law_row", "_law_found", "_law_gate_here", "_law_some", "_law_at"] [.AV,.AV,.own,.AW,.AW,.AW] C.f λnd hr=>
 (bI (dY 2 nd (dw ["_law_j"] [1] rfl rfl rfl rfl (by decide) (iW rfl C.n (sp (sx 0))) (λ_ _ _ _ _=>(cC 0 (show fA (["_law_j", "_law_row"]:B6) by decide +kernel) rfl (hW rfl))) (λ_ _ _ _ _=>dq) (λ_ _ _ _ _=>(aL kJ (sp (aL ou (aq 1) (aq 0))) sI))))
  (bI (iJ fy rfl [3,4,5] (d8 (sq (sx 0))) (nM rfl (jH (cB 3 nd) (jH (cB 4 nd) lB))) (bI (bB 5 nd (cD (xO rfl) rfl C.n xj (bK (sfp (dw ["_law_k", "_law_wire"] [2] rfl rfl rfl rfl (by decide) (Ov rfl C.n (aq 4)) (λ_ _ _ _ _=>(nM rfl (jH (cC 0 (show fA (["_law_k", "_law_wire", "_law_found"]:B6) by decide +kernel) rfl (hW rfl)) (jH (cC 1 (show fA (["_law_k", "_law_wire", "_law_found"]:B6) by decide +kernel) rfl (hW rfl)) lB)))) (λ_ _ _ _ _=>dq) (λ_ _ _ _ _=>(aL kE (sp (eU (aq 2) (aq 1))) (aq 0))))) aG)))
  (aB (jh 2 (aL kJ (sp (aL ou (sp (sx 3)) (aq 5))) sI)))) (by decide))
  (aB (bA (eU (aq 2) (sp (sx 0)))))))
theorem yh(C:Ctx K mg):Def P w K mg base 105 "_law_built" ["_law_gates", "_law_wish"] (spF K [.AV,.AV] .f lN):=
 bU (top 73) ["_law_gates", "_law_wish", "_law_found"] [.AV,.AV,.AW] C.f λnd hr=>
 (bj (bB 2 nd (bV (Vn C) hr (aV 0 (aV 1 aG))))
  (bj (cF (m8 (Dc (cU (BX hr.units) (sp (sx 2)) (sp (sx 1))) (yP (cU (BX hr.units) (sfp (dw ["_law_step"] [0] rfl rfl rfl rfl (by decide) (j7 (sp (sx 2))) (λ_ _ _ _ _=>(cC 0 (show fA (["_law_step", "_law_gates"]:B6) by decide +kernel) rfl (hW rfl))) (λ_ _ _ _ _=>(wA (n8 (qp hr.cH) (sp (sx 0)) (aq 1) rfl))) (λ_ _ _ _ _=>(aY 0)))) (sfp (bC aK)))))) (aB (bA lG)) bZ)
  (aB (bA (CZ (dZ hr.units) (sfp (dw ["_law_row"] [2] rfl rfl rfl rfl (by decide) (iW rfl C.n (sp (aL kE sI (sp (sx 1))))) (λ_ _ _ _ _=>(cC 0 (show fA (["_law_row", "_law_found"]:B6) by decide +kernel) rfl (hW rfl))) (λ_ _ _ _ _=>dq) (λ_ _ _ _ _=>(bV (PN C) hr (aV 1 (aV 0 aG)))))) (sfp (dw ["_law_row"] [1] rfl rfl rfl rfl (by decide) (iW rfl C.n (sp (aL kE sI (sp (sx 1))))) (λ_ _ _ _ _=>(cC 0 (show fA (["_law_row", "_law_wish"]:B6) by decide +kernel) rfl (hW rfl))) (λ_ _ _ _ _=>dq) (λ_ _ _ _ _=>(aL kJ (sp (aL ou (sp (sx 1)) (aq 0))) sI)))) (xZ _))))))
theorem Ia(C:Ctx K mg):Def P w K mg base 1 "_law_light" ["_law_gates"] (spF K [.AV] .t lV):=
 bU (top 74) ["_law_gates", "_law_found", "_law_gate_here"] [.AV,.own,.AW] C.f λnd hr=>
 (bj (dY 1 nd (bC aK))
  (bj (d7 [2] (d8 (gh 0)) (cB 2 nd) (aB (cF (m8 (Dc (cU Hq (sp (sx 2)) sI) (yP (m8 (uW (cU (dZ hr.units) (sp (sx 2)) sI) (rB (cU (dZ hr.units) (sfp (dw ["_law_one"] [] rfl rfl rfl rfl (by decide) (j7 (aq 1)) (λ_ _ _ _ _=>(cC 0 (show fA (["_law_one"]:B6) by decide +kernel) rfl (hW rfl))) (λ_ _ _ _ _=>(wA (cU (dZ hr.units) (sp (sx 0)) sI))) (λ_ _ _ _ _=>(aY 0)))) (sfp (bC aK))))))))) (aB (jh 1 (aY 2))) bZ)))
  (aB (lJ 1))))
theorem lQ:cX ["_law_script", "_law_gates", "_law_told", "_law_k", "_law_bits", "_law_tables", "_law_name", "_law_first", "_law_gate_here", "_law_some"] ["_law_script"] (aN (top 75)):=sck
theorem adk(C:Ctx K mg){fa:Addr}{fd:nS}(F:Fun K "law" "law" (top 75) fa fd):sJ P w K mg base CX0 106 fa fd ["_law_script"] (spF K [.AV] .f vY):=
 aaF (N:=["_law_script", "_law_gates", "_law_told", "_law_k", "_law_bits", "_law_tables", "_law_name", "_law_first", "_law_gate_here", "_law_some"]) (fs:=[.AV]) (O:=[.AV,.AW,.AW,.AW,.AW,.AW,.AW,.AW,.AW,.AW]) (O':=[]) (Ol:=[]) (rm:=.f) F lQ rfl (by decide) (by decide) λf AN A BA s H E hr=>
 (bj (bB 1 lQ.nd (sfe (oX (Ia C) hr (bK (sfp (oX (QC C) hr (aV 0 (bK sI aG)))) aG))))
  (bj (bB 2 lQ.nd (sfe (oX (Ij C) hr (aV 1 aG))))
  (bj (cF (n8 (qp hr.cH) (sp kZ) (aq 2) rfl) (bj (d7 [3,4] (fK rfl C.n sI) (cB 3 lQ.nd) (bj (bB 4 lQ.nd (aL jn (sp (aL dh (sp (bV (pD C) hr (aV 0 (bK sI aG)))) (sp (aL jg sI (aq 3))))) sI))
  (aB (cF (m8 (Dc (Dq (xQ (sp (bV (yh C) hr (aV 1 (bK (sp (bD (bz (aD (aY 4) aK)))) aG)))))) (yP (Dq (xQ (sp (bV (yh C) hr (aV 1 (bK (sp (bD (bz (aD (aL jn (aq 4) sI) aK)))) aG))))))))) (aB (bA lG)) bZ))))
  (aB (bA lG))) bZ)
  (bj (bB 5 lQ.nd (sfe (oX (Ls C) hr (aV 1 (bK sI aG)))))
  (bj (d7 [6,7,8,9] (Og rfl C.n (jP rfl C.Eu C.oR) (aY 2)) (nM rfl (pL (cB 6 lQ.nd) (pL (cB 7 lQ.nd) lB))) (aB (cF (cU Cj (aq 7) (sp kZ)) (bj (bB 8 lQ.nd (bV (Mh C) hr (aV 6 aG)))
  (bj (bB 9 lQ.nd (aep (sfp (bC (bz (bz aK)))) ZD (aa8 (sp (sx 8)))))
  (aB (cF (n8 (Ii hr.cH) (sp (bV (Ck C) hr (aV 8 (bK (sfp (aae (aq 9) (sp (Du sI)) (λ_=>rfl))) (bK sI aG))))) (aq 5) rfl) (aB (bA lG)) bZ)))) bZ)))
  (aB (bA lG)))))))
end
variable {l:yv}
theorem all_mk{w:lI}{h:Heap}{fa:Addr}(X:K.In h)(G:h.Ns ff mg)(hfa:mg "law"= some (.ref fa))
 {f35:Addr}{afN aeZ:C4}{afo:Array B7}{ae5 afO afB ae7 abR afi:a9}
 {f55:Addr}{afR abZ:C4}{ae0:Array B7}{afM ac9 abw acC XQ ack:a9}
 {Ce:a9}
 {uX:a9}
 {ye:Tok}
 {Ja:Tok}
 {xx:a9}
 {DN:a9}
 {Ah:Addr}
 {Ac:Addr}
 {T:Addr}
 (F:Ax K defs)
 (N:Ay K W7)
 (a35:i8 K ff "ways"= some (some (.ref f35))) (l35:K.lookup f35=some ⟨ae5,afN,.func (fb "ways" "ways" (cM (top 50)) (bR (top 50)) (aN (top 50)) .none afO afB ae7 aeZ abR afi),afo⟩) (c35:mE K abR "ways"= true) (k35:lx K (.ref f35)=true)
 (a55:i8 K ff "law"= some (some (.ref f55))) (l55:K.lookup f55=some ⟨afM,afR,.func (fb "law" "law" (cM (top 75)) (bR (top 75)) (aN (top 75)) .none ac9 abw acC abZ XQ ack),ae0⟩) (c55:mE K XQ "law"= true) (k55:lx K (.ref f55)=true)
 (Qe:i8 K ff "AND"= some (some Ce)) (BV:lM K 9 zR Ce=true)
 (Ec:i8 K ff "KINDS"= some (some uX)) (oR:lM K 9 lg uX=true)
 (kW:i8 K ff "MOST_CLOSED_ROWS"= some (some (.int 128 ye)))
 (rZ:i8 K ff "MOST_LISTS"= some (some (.int 20000 Ja)))
 (Io:i8 K ff "NAND"= some (some xx)) (nG:lM K 9 d9 xx=true)
 (QL:i8 K ff "NOT"= some (some DN)) (wu:lM K 9 gA DN=true)
 (uB:i8 K ff "OUTSIDERS"= some (some (.ref Ah))) (lU:Bt K Ah qF=true)
 (uO:i8 K ff "RELATIONS"= some (some (.ref Ac))) (mj:Bt K Ac qy=true)
 (yT:qm K f35 T=true) :
 ∃fd:nS,(∀(s:dy) (v:a9),BindsTo s fd ⟨[v],[]⟩ [("_law_script",v)])/\(∃f,mg "ways"= some (.ref f)/\qm K f T=true)/\∀base:Heap,K.In base->base.Ns ff mg->sJ l.prog w K mg base CX0 106 fa fd ["_law_script"] (spF K [.AV] .f vY):=by
 have e:=hfa.symm.trans (iX X G a55);cases e;refine ⟨fb "law" "law" (cM (top 75)) (bR (top 75)) (aN (top 75)) .none ac9 abw acC abZ XQ ack,λs v=>.of_eq rfl,⟨_,iX X G a35,yT⟩,λbase _ _=>adk ⟨_,X,G,F,N,At.mk' (iX X G a35) l35 c35 k35 (VF (λ_ _ _ _ _ _ _ _=>rfl) rfl),_,iX X G Qe,BV,_,iX X G Ec,oR,_,iX X G kW,⟨_,rfl⟩,_,iX X G rZ,⟨_,rfl⟩,_,iX X G Io,nG,_,iX X G QL,wu,_,iX X G uB,lU,_,iX X G uO,mj,_,W0 (iX X G a35) yT⟩ (J8 (st:=top 75) l55 c55 k55)⟩
theorem walk{q:ia}{loose:B6}{XP:(Str->B7)->Heap->Prop}{d:DefRec}{K:Params->aw}{as:C2}{e:∀P,as=(K P).map (·.1)}{T:Addr}(hn:l.most=some 63)(hdf:d.params.defaults=[])
 (F:∀(w:lI) (mg:Str->B7) (fa:Addr) (h:Heap),(K w.params).In h->h.Ns ff mg->mg d.name=some (.ref fa) ->
  ∃fd:nS,(∀(s:dy) (u:a9),BindsTo s fd ⟨[u],[]⟩ [("_law_script",u)])/\(∃f,mg "ways"= some (.ref f)/\qm (K w.params) f T=true)/\∀base:Heap,(K w.params).In base->base.Ns ff mg->sJ l.prog w (K w.params) mg base CX0 106 fa fd ["_law_script"] (spF (K w.params) [.AV] .f vY)) :
 PySem.W.WalkO q loose XP (PySem.W.kmHook K as e [T]).says l.row.toRowW d [] (λf vs=>PySem.call f vs):=
 Zq.Vh (n:=63) (k:=106) (x:= "_law_script") (CX:=λ_=>CX0) (sp:=λw=>spF (K w.params) [.AV] .f vY) hn (by decide) hdf ⟨rfl,by decide,by decide⟩ F (λ_ H a ns hl hS=>OJ (main ns hl) hS) λ_ _ _ _ _ z=>z
end Zq
open PySem PySem.W PyProof.Rows
local macro_rules | `(tactic| walk_at "kf")=>`(tactic| exact Zq.Fnd.mk (by k_is) (by k_is) (by k_is) (by k_is))
structure PySem.W.Fast:Prop where(tw4506380664147157221 tw2888445333560926135 tw798027266255272353 tw16247778916525226379 tw3579985099001581983 tw1537665985626733983 tw5588580588497669781 tw1342136445547901768 tw16309379970406904312 tw563231141221932416 tw3883540239255898749 tw15662000989445146808 tw13571611907396938946 tw5105665551944726653 tw14861457673592153902 tw15902321027849415378 tw8908409113686848176 tw17886481752247101082 tw5795625191712871867 tw18440826457609959224 tw10068501014228168051 tw10430507217896854200 tw7491111472265114202 tw5825173809450606237 tw12836357700568680757 tw15158678810298741799 tw17756475770897000844 tw18256861565540427261 tw17843357237408472272 tw2397498559818296112 tw442856521652242263 tw1702576902589349825 tw5896897306859774741 tw539414704677273096 tw15949984364609677173 tw2375195883122866162 tw6087984836030492870 tw4828032752875446056 tw5289138639910539055 tw14167402220494419654 tw1532196390366685245 tw12121695971680350870 tw15539691841916957848 tw3676132653434971562 tw8216283829363092254 tw4253648361355750693 tw14643099529409971149 tw5542119456893374174 tw209702481474238269 tw5110400571348570500 tw15567283938789094856 tw11356800403942150208 tw1079162200326491673 tw14987360803015479986 tw13875543698834869796 tw10876285100094784630 tw615385792101814949 tw4376925528569613296 tw10711696674982444800 tw17583744929428866671 tw17296183113048879763 tw4940975362279945960 tw11544628056224661750 tw17055044291658836312 tw6057328300611824181 tw11483869325231304552 tw18237946675320941885 tw1592489187359423808 tw8083101468845617987 tw3815550807026433613 tw6535318220517441229 tw6254111868000622455 tw10939547263025834311 tw16112332321460101173 tw15252377515234006276 tw5511000909174702251 tw6108405080206550708 tw15410295581115086706 tw7219494407815751929 tw15855434090142119904 tw18221813272874301722 tw17298874814751574371 tw12462263664126311513 tw10491252072370827146 tw15058454410678859873 tw13850365269306550196 tw18276986544516287183 tw14323602733040338578 tw15236538743697094574 tw4266493946259994939 tw3614696373013572287 tw15998385010257385623 tw6348173679194143699 tw5478921581758427633 tw15857749802804299193 tw16973434544995718879 tw11034159790505251713 tw4430122851977757500 tw7706959831800935330 tw14679956499019023098 tw15232168903909791563 tw6733639038382573017 tw1631748054320708045 tw3521732361879316344 tw15457304082312496152 tw4246287017195941937 tw5211466907568556662 tw15862000609258321920 tw11695540236840478565 tw12874256464134173433 tw18255091708571096971 tw15225153025642452512 tw14698830856334430464 tw3787727248975572704 tw9863115380768339764 tw11385298664115262016 tw8686016436344045499 tw11039704188697777732 tw7895979495808230460 tw4611115386473388664 tw14664571845331578355 tw8506953359840601939 tw14551855538788616077 tw8597612296227294458 tw13500336071843410854 tw4246991364775375668 tw2857644318175090158 tw2927195016540576044 tw11730548275128711087 tw16233990871958898911 tw1822451909672874257 tw9910366011421722260 tw2695846492780241383 tw9265580443678043613 tw2725737554850619748 tw340146487889453921 tw6125879785886199637 tw15490147945010554368 tw941617893704128749 tw16499791804846471260 tw14068660757277455668 tw11592646768660871504 tw935706445417419181 tw16131296319115238160 tw6073782538431570492 tw15538477135358411162 tw6677297159355449183 tw9639573408382944063 tw10838329137749777465 tw4619685843272295271 tw10479384668344655756 tw2733422848971946662 tw12490429542070595582 tw16031505816062744901 tw14242832510520182371 tw1371543128817083131 tw3243149810476461179 tw12168655780637887253 tw4810565435102086554 tw3113939536945425629 tw11974896209123099382 tw7630647916982417922 tw14858463525193532987 tw17941554526068664876 tw11522394309482876732 tw4808887052541382535 tw880444006795977187 tw8287250913707120828 tw9584897760299485292 tw5732637360180556603 tw18187551311785700686 tw10840930982541096283 tw7053430871523965989 tw10340680992462839666 tw16425179591095556225 tw11007992247082403592 tw15278426615753114582 tw5995099091010843566 tw5567600453603075647 tw17325174494447757271 tw15476511989262340504 tw17409290510629826155 tw10205855554634846020 tw4039498980215616513 tw15730346841041985065 tw375116579564868060 tw9163203353757536514 tw16029713989626591196 tw5769111567815852851 tw18292460081891895881 tw18102859399203280666 tw11263569409389391156 tw7347150647401668688 tw5456173623957917925 tw8059579107677860004 tw6883874027984903502 tw2471462077083494945 tw15377768528407409174 tw14021088066885066004 tw6692522160418681881 tw450214669844040379 tw17909696174490620261 tw14341088644022371287 tw13132194579828141161 tw6791335272136538294 tw1226028011310478077 tw9308450167452085315 tw6569798697722920286 tw4744494804646472404 tw2130432810792527479 tw11176129768200677208 tw9313797051758104332 tw6273221043862073607 tw16253260008074634396 tw1013532656920361421 tw11970544462723920772 tw8287129927229234451 tw16247561123187653789 tw736235927326682471 tw5517422590176764570 tw16151332237509201330 tw13472405714026704446 tw12442306635733728796 tw11557887540050324660 tw11041343994359674510 tw10938952978791681512 tw16526476169293668945 tw4829461494864067839 tw8482766036506507755 tw3818582604892338765 tw16510355032574755630 tw15691324049710253192 tw14435019622213828460 tw304386461112122726 tw17666838414138647432 tw8410378606174264929 tw3201815827193542731 tw13294691797467859738 tw4925196991161512879 tw13733632813597400955 tw13470074402663826826 tw18441422179921398645 tw3170558171828886215 tw7672039155622274195 tw16807874714402782986 tw9679746499392097906 tw9086011439501666028 tw3471449358860917661 tw7157603788209239889 tw1638386294761760050 tw15722257376168232621 tw1005793096496058447 tw16703324200234704950 tw4617445278443762821 tw2340384523704805739 tw10093708750151675572 tw1105112806957656456 tw8852725712393750228 tw4109346611271763310 tw13327623285409397394 tw6515770120900345743 tw8711730392309857293 tw7585160424424380154 tw14305949497670946958 tw8560999087963788867 tw11430783546707739436 tw336098722176825375 tw309845418748165779 tw6134635338510237348 tw3585844102355016401 tw16885054665956559906 tw13357615313072056149 tw17970009049304009171 tw1680134043891849081 tw14911462756628458883 tw14115849584383108298 tw10630679675609188498 tw8415190786939879841 tw7451930013343439558 tw1716922222536831246 tw4013657602075419611 tw9535790253022633601 tw4905071105452769848 tw8684567127551090605 tw8635899862001814515 tw7201932661628609124 tw6656743497804182867 tw2289247600927236475 tw17892540685853867014 tw13693325715470267124 tw1109793415874038836 tw10342861879553618153 tw9650630503835983116 tw8571326836277922255 tw7221206180579521505 tw16711498528208702180 tw11551039520055173500 tw704671345048563654 tw10896073345170876872 tw332855652161807080 tw17417921371248306907 tw8069316561901520235 tw6262533933396858604 tw9987089485762058467 tw9629176481137516597 tw9321558422953006663 tw9311462595455518994 tw9020213963499709590 tw8770050219613318162 tw8665097282765098445 tw8618439331707696109 tw8485747894834883017 tw8481249817840228929 tw845763124780933307 tw8386959897771921707 tw8316849062691424877 tw7759067567648446634 tw7641671872902130991 tw75063370270299214 tw7496693198563928778 tw7303251445687966829 tw7047727884348209237 tw6590884478672289274 tw6588061012222958951 tw6337722311839023394 tw6112272860588349777 tw6027865607416514172 tw5999546721085704405 tw5858597035805535751 tw5787454283862222288 tw5647806133974595067 tw5410481427157151782 tw5274710391742077834 tw5266349959322983419 tw4717907833171925795 tw4507446889844935691 tw4440090703301173078 tw4371640061537519282 tw4206791366916673975 tw4107264089027196086 tw3747210513389606280 tw362075394427194285 tw3575700186166355277 tw3415146514863516627 tw3394380960999638845 tw3364760190976962157 tw3189951712638670945 tw3158052033852994896 tw309870638436814793 tw2860213752960895237 tw260022036068468405 tw18288907536601482506 tw18186608085027654968 tw17848901533937357978 tw17799421413685883480 tw17775832073256215944 tw17757580234218128847 tw17323486679688973128 tw17265505508468855700 tw16957791628209286951 tw16875984683132909485 tw16846598923898992631 tw16449594899592372564 tw16264777270517568176 tw16253797492936422104 tw1606577023059696696 tw16003953586264000162 tw15920719441431198768 tw15826473366628916289 tw15824733517958092428 tw15490346576734635030 tw1491265881079539850 tw1485006651352273438 tw14434075774165182349 tw14011693886636467487 tw14004385849851420869 tw13725745493473772882 tw13345067097745150549 tw13287185195635092982 tw13110319054849056805 tw1278637795026230058 tw12574350905825344492 tw12462419675333325631 tw12423210906462791233 tw12272182770472985336 tw12256976128882597298 tw11792990976339956741 tw11672467813977159676 tw11409076024596245343 tw11377013557392481727 tw1124857249223136123 tw11205095780128230892 tw11190426163491843228 tw11115033537392802782 tw11021046455119379413 tw1086889554332333629 tw10748916291208953824 tw10454853002434445600 tw10147531284677535318 tw10107914755491405649 tw10015296809527805478:True)
set_option maxRecDepth 100000 in
set_option maxHeartbeats 0 in
theorem PySem.Challenge.cw_gatekin_k46_whole_five_kinds_holds : PySem.Challenge.rw_gatekin_k46_whole_five_kinds.Holds := by
 w_on; o_law; k_head; (case hw => w_witness2)
 k_fill
 refine Zq.walk (l := PySem.Challenge.rw_gatekin_k46_whole_five_kinds) rfl rfl ?F
 case F =>
  intro w mg fa h KX G hmg
  refine' Zq.all_mk KX G hmg ?hFF ?hNN ?a35 ?l35 ?c35 ?k35 ?a55 ?l55 ?c55 ?k55 ?Qe ?BV ?Ec ?oR ?kW ?rZ ?Io ?nG ?QL ?wu ?uB ?lU ?uO ?mj ?yT
  (case hFF => ((repeat refine .cons (by walk_at "kf") ?_); exact .nil))
  (case hNN => ((repeat refine .cons (by k_is) ?_); exact .nil))
  (case a35 => k_is)
  (case l35 => k_is)
  (case c35 => k_is)
  (case k35 => k_is)
  (case a55 => k_is)
  (case l55 => k_is)
  (case c55 => k_is)
  (case k55 => k_is)
  (case Qe => k_is)
  (case BV => rfl)
  (case Ec => k_is)
  (case oR => rfl)
  (case kW => k_is)
  (case rZ => k_is)
  (case Io => k_is)
  (case nG => rfl)
  (case QL => k_is)
  (case wu => rfl)
  (case uB => k_is)
  (case lU => rfl)
  (case uO => k_is)
  (case mj => rfl)
  (case yT => rfl)
