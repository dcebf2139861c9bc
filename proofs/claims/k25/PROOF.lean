import PyProof.Rows.All
import Wide.All
import OpenK.AllK
import Wide.FinOn
import Lean
import PyProof.EqAt
import PyProof.EqKinds
import PyProof.TupleCall
import PySem.Challenge.RW_gatekin_k25_closed_too_great
open PySem renaming PyData→ae,wpAny_bind→af,Value→ai,Shared→ar,wpAny_pure→av,bootBuiltins→bo,sizeLine→bp,model→bt,wpAny→bP,mainGlobals→b6,Program→cw,SetTable→dc,starEach→d4,Around→eo,World→eI,wpAny_setState_of→fi,wpAny_mono→gc,wpAny_holding→gi,wpAny_call_entry→gp,wpAny_newObj_type→gu,mem_of_lookup→gI,binaryOp→g6,compareOp→h9,wpAny_of_eq→ib,NameKind→iS,wpAny_rule→i4,wpAny_callSpecial?_slot→i6,rawInt→ja,swapsWith→j3,wpAny_setEntries_of→kg,cellsFrom→kz,behindInMarks→kG,bindArgs→kL,wpAny_Call_Name_kw→mB,wpAny_passesOwn→mT,codeAny_builtin→nc,wpAny_ite_split→ng,foldedSetIterable→nr,wpAny_storeSet_of→nE,wpAny_setEpoch_of→nL,sysModules→nV,assignEach→nX,intKind→og,FuncData→om,checkBuiltinCall→ov,wpAny_isInstance→ox,isSubtype_type→oy,backTo→oC,wpAny_execs_nil→pb,wpAny_attempt→pz,wpAny_setField→qA,codeAny_mono→qS,hashInt→rS,Scope→si,sliceBounds→sm,Paired→sL,wpAny_typeOf→sP,builtinLookup_eq_fast→tN,wpAny_execs_cons→t5,wpAny_askSetting→uj,codeAny→uk,Keyword→uu,attributeBase→uS,plainId_quiet→va,codeAny_call_builtin→vk,pyNext→vt,letOwnedTupleGo→vv,Model→vw,cLine→vx,sub_set_self→wb,wpAny_call→wm,tupleKind_room_in1→wq,intKind_is→xl,wpAny_fieldsOf→xt,firstArgMember→xw,wpAny_seqItems→xy,wpAny_truthy_bool→x5,wpAny_Assign_Name→x6,keywordEach→x9,unsupported→yy,wpAny_pyIter_slot→y7,wpAny_newList→zk,setWalkUnseen→zt,noFill_tuple_add→zD,isinstance_outer→AA,assign→AG,concat_meets→AI,IsPart→AJ,isInstance→AN,call_isinstance→AV,typeLookup_type→AY,wpAny_updateSeq→AZ,GenState→A6,IsRangeIter→A7,tupleKind→BC,PassesOwn→BD,getItem→BE,callerA→BF,pyIter→BO
open PySem.W renaming Frag→ag,fnOf→cf,nsIn→cE,mg_of→dA,keepIn→dS,codeIn→eu,kitCls→eL,mg_none_of→hX,Looks→md,subIn→mf,cellsFrom_some→oI,clsIn→pE,OpenLaw→ve,looks_findIn→vn,looks_subIn→vE,callWith_K→wo,typeIn→xc,methodObj→xS,kitMeta→AW,findIn→BA,excIn→BH
open List renaming length_map→aw,getD_eq_getElem?_getD→ax,length_append→ay,getElem?_eq_getElem→aS,mem_singleton→ba,mem_cons→be,mem_cons_of_mem→bg,length_cons→bX,mem_cons_self→b5,replicate→b9,size_toArray→ck,getElem?_map→cn,length_replicate→cq,mem_append_right→cK,range→cS,getElem?_eq_some_iff→de,map_cons→dk,length_range→dP,mem_range→d5,getElem?_append_right→d6,mem_map→eh,length_take→eA,append_assoc→eB,getElem?_append_left→eP,mem_iff_getElem→eS,getElem_mem→e8,map_append→fe,extract_eq_drop_take→fk,append_nil→fq,getElem?_eq_none→fv,take_append_drop→fw,mem_filterMap→fx,mem_append→fy,take_of_length_le→fz,mem_append_left→fA,mem_of_getElem?→fE,length_set→fI,pairwise_iff_getElem→fR,mem_filter→gE,replicate_succ→gL,getElem?_set_self→hU,nodup_append→ip,getElem?_replicate→iq,length_singleton→iN,pairwise_cons→i3,take_length→i7,map_nil→jI,getElem?_range→ke,nodup_cons→ki,drop_eq_getElem_cons→kq,perm_append_comm→ku,lookup_cons→kB,all_eq_true→kC,any_cons→kH,pairwise_append→kN,getElem?_replicate_of_lt→kP,flatten_cons→kQ,take_add_one→kR,length_eq_zero_iff→kS,foldl_cons→kT,find?_cons→kX,length_nil→lh,range_succ→ll,map_congr_left→lp,pairwise_lt_range→lS,map_map→lT,length_drop→mi,mem_flatMap→mw,getElem?_set_ne→nk,mem_of_mem_take→nz,foldl_append→nI,eraseIdx_eq_take_drop_succ→oa,filter_eq_self→oi,flatMap_append→oj,filter_cons_of_neg→oz,eq_nil_of_length_eq_zero→oB,nil_append→pd,sum_cons→pV,getElem_take→qf,Nodup→qB,filterMap_cons→rh,getElem?_take_of_lt→ri,forIn_cons→rX,filter_append→sd,mem_replicate→sf,eraseIdx_cons_succ→so,filter_cons_of_pos→sC,findIdx?_eq_some_iff_getElem→sF,getElem_cons_drop→ti,Sublist→tj,pairwise_map→tm,length_pos_of_mem→tq,length_filter_le→t4,cons_append→ua,mem_erase_of_ne→vi,length_pos_iff→vS,drop_sublist_drop_left→wa,take_zero→wt,drop_zero→wx,length_eraseIdx_of_lt→xh,find?_eq_none→xi,getElem_range→xB,map_replicate→xC,extract_eq_take_drop→xD,exists_mem_of_ne_nil→xI,take_sublist→x8,ext_getElem?→yb,drop_sublist→yk,reverse_perm→yB,getElem_drop→yY,Pairwise→zd,length_erase_of_mem→zl,map_take→zC,drop_length→Ap,nodup_range→AC,getElem?_cons_succ→AD,drop_eq_nil_of_le→AM,range_succ_eq_map→AO,of_mem_zip→AU,drop_drop→A8,nodup_nil→Bi,foldl→BQ,Perm→B3
open Nat renaming le_refl→aE,lt_of_lt_of_le→cx,ne_of_lt→eJ,le_trans→eK,le_of_lt→fF,lt_irrefl→hZ,zero_le→iE,pow_succ→iF,lt_of_le_of_lt→kF,lt_or_ge→lI,lt_succ_self→mo,le_succ→ny,pow_le_pow_right→nN,not_lt→n9,lt_trans→oP,mul_comm→oQ,mul_assoc→pS,lt_succ_of_lt→qa,ne_of_gt→qE,zero_add→qV,testBit_eq_decide_div_mod_eq→tJ,mul_add→vj,pos_of_ne_zero→xa,lt_of_succ_lt→yA,le_of_succ_le→yT,lt_trichotomy→y0,mul_left_comm→y6,succ_le_succ→zI,le_of_not_lt→zS,lt_of_not_le→AE,succ_mul→AK,sub_self→AS,not_lt_zero→A0,pow_pos→A9,mul_le_mul→BB,mod_lt→BU,add_comm→BY,add_zero→B0,succ→B1
open PySem.Heap renaming get?_push_of_some→aI,lt_size→bE,get?_push_size→df,SameBut→fT,get?_update_self→kx,size_push→kM,get?_update_other→ly,size_update→Au
open Bool renaming false_eq_true→aT,and_eq_true→cc,not_true→ia,or_eq_true→kn,false_ne_true→ky,false_and→kK,eq_iff_iff→nh,or_false→vb,eq_false_iff→y8,not_false→Bn,and_false→Bz,false_or→BG,true_and→BI,and_self→BM,and_true→BN
open PyProof.Rows renaming arrOf→bq,wpS_bind→br,wpS_pure→cp,SortSt→d3,pendingOf→ff,Keyed→fh,slot_tuple_getitem→gx,wpS_forRange→hV,envOfC→iX,numOf→i8,callWith_type1→i9,IntsAre→lx,failedOf→mE,seqObj→mI,elem'→oq,wpS_mono→ot,oneType'→rk,K_mirror_equal→sR,callWith_builtin1→t9,wpS_modify→ub,reverseSlice'→u7,AllBare→vT,wpS_get→yi,mirror→zh,wpS_lift→As,bitAnd_m1→AR
open Or renaming inl→cb,inr→g9
open Array renaming length_toList→cy,getD_eq_getD_getElem?→fm,getElem?_toList→ft,getElem?_eq_getElem→fS,toList_extract→qr,getElem?_eq_some_iff→qv,getElem?_replicate→rl,toList_inj→ui,perm_iff_toList_perm→w9,size_map→xb,forIn_toList→xA,size_setIfInBounds→zi,getElem?_eq_none→AQ,replicate→AX
open PySem.Builtin.Range renaming rangeSize→dt,small→iL
open PySem.SeqAt renaming shaped→dE,canLay_of_shaped→lP
open PySem.Value renaming ref→dQ,type→nS
open PySem.SetTable renaming below→eD,layClean→hJ,sizeAbove→i5,eraseAt→kD,fill→pT,insertAt→qh,fits→ro,turns→xk,road→zv
open Int renaming toNat_natCast→eM,le_of_lt→gy,le_trans→gS,le_refl→ma,emod_lt_of_pos→mM,emod_nonneg→pj,natCast_add→r0,emod_two_eq→r6,pow_succ→tz,toNat_of_nonneg→vF,fdiv_eq_ediv_of_nonneg→wc,mul_assoc→zw,not_lt→AL,mul_comm→B2
open PySem.PassesOwn renaming never→fo
open PySem.PyData renaming eqv→gz,canLayAll0→ij,canLay0→jS,depthAll→kU,eqvAll→vc
open PySem.Heap.SameBut renaming update→gX
open PySem.Builtin renaming bitNot→g7,bitAnd→iA,bitOr→iP
open PySem.SetTable.sizeAbove renaming go→iO
open PySem.Builtin.List renaming listTooLong→i0,listExtendWith→qo,listSameRef→rL
open PySem.NameKind renaming cell→jv
open PySem.Obj renaming mapSeq→kA,putSet→r9
open PySem.Builtin.Frozenset renaming difference→lj,unchanged→qq,sizeOf→rq,differenceUpdate→se
open PySem.Manifest.ParamKind renaming posOnly→mP
open PySem.Builtin.Slice renaming slicePlaces→mS,sliceAdjust→ra
open ForInStep renaming yield→na
open PySem.Around renaming under_plainId→nK
open PySem.Builtin.Tuple renaming tupleExact→n4
open PySem.F renaming plainAttrs_list→oo,called_set→oS,args_tuple_add_2→rj,entry_tuple_add→sj,slot_tuple_add→sM,slot_list_append→sQ,type_list_append→ze
open False renaming elim→oD
open Ne renaming symm→p9
open PySem.SetTable.below renaming go→qc
open Option.some renaming injEq→qk
open PySem.Calls renaming call_function_entry→rg,spliced_cons→we
open Sum renaming inl→rV,inr→AF
open PySem.Str renaming ofString→sN
open Nat.Coprime renaming dvd_of_dvd_mul_right→tw
open Classical renaming byContradiction→xE
open Option renaming isSome_map→ya,isSome_iff_exists→y9
open PySem.SetTable.probe renaming go→y3
open List.Pairwise renaming imp_of_mem→zo,filterMap→AB
open PyProof renaming noPylong_small→AH
open True renaming intro→BS
set_option Elab.async false
set_option linter.all false
set_option maxRecDepth 100000
local macro_rules | `(tactic| omega) => `(tactic| lia)
namespace L2
open PySem PySem.Spec PyProof.Rows
noncomputable abbrev Key:=Sum Int Str
noncomputable def qz:Key→ai→Bool
 | .inl k,v=>Value.isInt k v
 | .inr x,v=>Value.isStrOf x v
noncomputable def aan (w:eI):Key→Int
 | .inl k=>rS k
 | .inr x=>hashStr w x
theorem fH:∀{k:Key}{v:ai},qz k v=true→(∃i t,k=rV i∧v=ai.int i t)∨(∃x t,k=AF x∧v=ai.str x t)
 | .inl i,v,h=>by
  obtain ⟨t,e⟩:=Value.isInt_shape (k:=i) (v:=v) h
  exact .inl ⟨i,t,rfl,e⟩
 | .inr x,v,h=>by
  obtain ⟨t,e⟩:=Value.isStrOf_shape (x:=x) (v:=v) h
  exact .inr ⟨x,t,rfl,e⟩
theorem Lh (i:Int) (t:Tok):qz (.inl i) (.int i t)=true:=by simp[qz,Value.isInt]
theorem Li (x:Str) (t:Tok):qz (.inr x) (.str x t)=true:=by simp[qz,Value.isStrOf]
theorem WX (a b:Int):decide ((rV a:Key)=rV b)=(a == b):=by
 by_cases e:a=b
 · subst e;simp
 · have h:¬ (rV a:Key)=rV b:=fun q=>e (rV.inj q)
   rw[decide_eq_false h]
   exact (beq_eq_false_iff_ne.mpr e).symm
theorem Yp (a b:Str):decide ((AF a:Key)=AF b)=decide (a=b):=by
 by_cases e:a=b
 · subst e;simp
 · have h:¬ (AF a:Key)=AF b:=fun q=>e (AF.inj q)
   rw[decide_eq_false h,decide_eq_false e]
theorem Ww (a:Int) (b:Str):decide ((rV a:Key)=AF b)=false:=decide_eq_false (fun q=>nomatch q)
theorem YC (a:Str) (b:Int):decide ((AF a:Key)=rV b)=false:=decide_eq_false (fun q=>nomatch q)
noncomputable def dW (prog:cw) (w:eI):PySem.KeyKind prog w Key where
 is:=qz
 hash:=aan w
 inj:=fun v a b ha hb=>by
  rcases fH ha with ⟨i,t,rfl,rfl⟩ | ⟨x,t,rfl,rfl⟩
  · rcases fH hb with ⟨j,u,rfl,e⟩ | ⟨y,u,rfl,e⟩
    · injection e with e1 _;rw[e1]
    · exact nomatch e
  · rcases fH hb with ⟨j,u,rfl,e⟩ | ⟨y,u,rfl,e⟩
    · exact nomatch e
    · injection e with e1 _;rw[e1]
 byValue:=fun k v h=>by
  rcases fH h with ⟨i,t,rfl,rfl⟩ | ⟨x,t,rfl,rfl⟩ <;> rfl
 pyHash:=fun hv h=>by
  rcases fH hv with ⟨i,t,rfl,rfl⟩ | ⟨x,t,rfl,rfl⟩
  · exact wpAny_pyHash_int h
  · exact wpAny_pyHash_str h
 eqBool:=fun hu hv h=>by
  rcases fH hu with ⟨i,t,rfl,rfl⟩ | ⟨x,t,rfl,rfl⟩
  · rcases fH hv with ⟨j,u,rfl,rfl⟩ | ⟨y,u,rfl,rfl⟩
    · rw[WX] at h;exact wpAny_eqBool_int h
    · rw[Ww] at h;exact SeqAt.EqAt.int_str i t y u _ _ _ _ h
  · rcases fH hv with ⟨j,u,rfl,rfl⟩ | ⟨y,u,rfl,rfl⟩
    · rw[YC] at h;exact SeqAt.EqAt.str_int x t j u _ _ _ _ h
    · rw[Yp] at h;exact wpAny_eqBool_str h
 «strs» := fun k x t v h=>by
  rcases fH h with ⟨i,u,rfl,e⟩ | ⟨y,u,rfl,e⟩
  · exact nomatch e
  · injection e with e1 _
    subst e1
    cases v <;> rfl
theorem K4 (prog:cw) (w:eI) (k:Key) (v:ai):(dW prog w).is k v=qz k v:=rfl
theorem Hd (prog:cw) (w:eI) (i:Int) (t:Tok):(dW prog w).is (.inl i) (.int i t)=true:=Lh i t
theorem G4 (prog:cw) (w:eI) (x:Str) (t:Tok):(dW prog w).is (.inr x) (.str x t)=true:=Li x t
inductive V where
 | non | bl (b:Bool) | int (i:Int) | str (x:Str) | byt (b:Array UInt8) | flt (b:UInt64) | ref (a:Addr) | ty (n:String)
 deriving DecidableEq
noncomputable def RelV:V→ai→Prop
 | .non,u=>u=ai.none
 | .bl b,u=>u=ai.bool b
 | .int i,u=>∃t,u=ai.int i t
 | .str x,u=>∃t,u=ai.str x t
 | .byt b,u=>∃t,u=Value.bytes b t
 | .flt b,u=>∃t,u=Value.float b t
 | .ref a,u=>u=dQ a
 | .ty n,u=>u=nS n
noncomputable abbrev Vals:List V→List ai→Prop:=sL RelV
theorem Vals.length {xs:List V}{us:List ai} (r:Vals xs us):xs.length=us.length:=sL.length r
theorem Vals.get:∀{xs:List V}{us:List ai}{i:Nat}{x:V},Vals xs us→xs[i]?=some x→∃u,us[i]?=some u∧RelV x u
 | _,_,_,_,.nil,e=>by simp at e
 | _,_,0,_,.cons r _,e=>by simp at e;subst e;exact ⟨_,rfl,r⟩
 | _,_,i+1,x,.cons _ t,e=>by
  obtain ⟨u,h1,h2⟩:=Vals.get (i:=i) (x:=x) t (by simpa using e)
  exact ⟨u,by simpa using h1,h2⟩
theorem Vals.append:∀{xs ys:List V}{us ws:List ai},Vals xs us→Vals ys ws→Vals (xs++ys) (us++ws)
 | _,_,_,_,.nil,s=>s
 | _,_,_,_,.cons r t,s=>.cons r (Vals.append t s)
theorem Vals.take:∀{xs:List V}{us:List ai} (n:Nat),Vals xs us→Vals (xs.take n) (us.take n)
 | _,_,0,_=>.nil
 | _,_,_+1,.nil=>.nil
 | _,_,n+1,.cons r t=>.cons r (Vals.take n t)
theorem Vals.drop:∀{xs:List V}{us:List ai} (n:Nat),Vals xs us→Vals (xs.drop n) (us.drop n)
 | _,_,0,r=>r
 | _,_,_+1,.nil=>.nil
 | _,_,n+1,.cons _ t=>Vals.drop n t
noncomputable def zV:Option V→Option ai→Prop
 | some v,some u=>RelV v u
 | none,none=>True
 | _,_=>False
noncomputable def KV {κ:Type}:List (κ×V)→List (κ×ai)→Prop:=sL fun (p:κ×V) (q:κ×ai)=>p.1=q.1∧RelV p.2 q.2
noncomputable def kV:Key→V
 | .inl i=>.int i
 | .inr x=>.str x
inductive HO where
 | lst (xs:List V)
 | tup (xs:List V)
 | dK (kvs:List (Key×V)) | dT (kvs:List (List Key×V))
 | set (S:Int→Bool) (n:Nat)
 | ins (C dx:Addr) (fs:List (Str×V))
 | own (x:Addr)
 | xd (fs:List (Str×V))
 | met (f x:Addr)
 | rng (lo hi:Int)
 | frz (o:Obj) (u:HO)
 | tbl (ps:Array ai)
 | ext (φ:Heap→Prop)
noncomputable abbrev Hp:=Addr→Option HO
noncomputable def upd (H:Hp) (a:Addr) (o:HO):Hp:=fun b=>if b=a then some o else H b
theorem bK {H:Hp}{a:Addr}{o:HO}:upd H a o a=some o:=by unfold upd;rw[if_pos rfl]
theorem bu {H:Hp}{a b:Addr}{o:HO} (h:b≠a):upd H a o b=H b:=by unfold upd;rw[if_neg h]
theorem Zo {H:Hp}{a b:Addr}{o u:HO} (h:H a=some o) (h':H b=some u) (d:o≠u):a≠b:=by
 intro e;subst e;rw[h] at h';exact d (Option.some.inj h')
theorem iT {H:Hp}{a b:Addr}{o:HO} (h:H a=some o) (h':H b=none):a≠b:=by
 intro e;subst e;rw[h] at h';cases h'
section
variable (P:cw) (w:eI)
noncomputable def fJ (H:Hp) (h:Heap) (a:Addr):HO→Prop
 | .lst xs=>xs.length≤bp∧∃(its:List ai) (n:Nat),Vals xs its∧h.get? a=some { cls:=.type "list",data:=.seq its.toArray n }
 | .tup xs=>xs.length≤bp∧∃its:List ai,Vals xs its∧IsTup h a its.toArray
 | .dK kvs=>kvs.length≤bp∧(a == nV)=false∧∃vs,KV kvs vs∧h.DictOf (dW P w) a vs
 | .dT kvs=>kvs.length≤bp∧(a == nV)=false∧∃xs:List (List Key×Addr×ai),
  sL (fun (p:List Key×V) (q:List Key×Addr×ai)=>p.1=q.1∧H q.2.1=some (.tup (p.1.map kV))∧RelV p.2 q.2.2) kvs xs ∧
  ∃o es ep,h.get? a=some o∧o.ExactDict∧o.data = .dict es ep∧es.toList=xs.map (entryOfKey (BC (dW P w)))∧(xs.map (·.1)).Nodup
 | .set S n=>h.SetOf (og P w) a S n
 | .ins C dx fs=>H dx=some (.own a)∧fs.length≤1000∧dx≠a∧h.get? a=some (PySem.W.instObj C dx) ∧
  ∃mA,h.Ns1 dx mA∧(∀f,zV (fs.lookup f) (mA f))∧PySem.Within mA (fs.map (·.1))
 | .own _=>∃o,h.get? a=some o
 | .xd fs=>∃mA,h.Ns1 a mA∧∀f,zV (fs.lookup f) (mA f)
 | .rng lo hi=>∃t u v,h.get? a=some { cls:=.type "range",data:=.fields #[.int lo t,.int hi u,.int 1 v] }
 | .frz o u=>h.get? a=some o∧fJ H h a u
 | .tbl ps=>h.get? a=some { cls:=.none,data:=.fields ps }
 | .met f x=>h.get? a=some (xS (.ref f) (.ref x))
 | .ext φ=>φ h∧(∃o,h.get? a=some o)∧∀h1 h2:Heap,φ h1→(∀o,h1.get? a=some o→h2.get? a=some o)→φ h2
noncomputable def HOk (H:Hp) (h:Heap):Prop:=∀a o,H a=some o→fJ P w H h a o
end
section
variable {P:cw}{w:eI}{H H':Hp}{h h':Heap}{a:Addr}{o:HO}
theorem fJ.lt (x:fJ P w H h a o):a < h.objs.size:=by
 cases o with
 | lst xs=>obtain ⟨_,_,_,_,e⟩:=x;exact bE e
 | tup xs=>obtain ⟨_,_,_,p⟩:=x;exact p.lt
 | dK kvs=>obtain ⟨_,_,_,_,o,_,_,e,_⟩:=x;exact bE e
 | dT kvs=>obtain ⟨_,_,_,_,o,_,_,e,_⟩:=x;exact bE e
 | set S n=>obtain ⟨o,_,_,_,e,_⟩:=x;exact bE e
 | ins C dx fs=>obtain ⟨_,_,_,e,_⟩:=x;exact bE e
 | own y=>obtain ⟨_,e⟩:=x;exact bE e
 | xd fs=>obtain ⟨_,⟨_,_,_,e,_⟩,_⟩:=x;exact bE e
 | rng lo hi=>obtain ⟨_,_,_,e⟩:=x;exact bE e
 | frz ob u=>obtain ⟨e,_⟩:=x;exact bE e
 | tbl ps=>exact bE (show h.get? a=some _ from x)
 | met f y=>exact bE (show h.get? a=some _ from x)
 | ext φ=>obtain ⟨_,⟨_,e⟩,_⟩:=x;exact bE e
theorem Paired.zz {α β:Type}{F G:α→β→Prop}:∀{l₁:List α}{l₂:List β},sL F l₁ l₂→(∀a b,F a b→G a b)→sL G l₁ l₂
 | _,_,.nil,_=>.nil
 | _,_,.cons r t,f=>.cons (f _ _ r) (Paired.zz t f)
theorem fJ.stay (x:fJ P w H h a o) (k:∀b u,(b=a∨H b=some (.own a))→h.get? b=some u→h'.get? b=some u)
 (ho:∀b,H b=some (.own a)→H' b=some (.own a)) (ht:∀b xs,H b=some (.tup xs)→H' b=some (.tup xs)):fJ P w H' h' a o:=by
 induction o with
 | lst xs=>obtain ⟨z,its,n,r,e⟩:=x;exact ⟨z,its,n,r,k _ _ (.inl rfl) e⟩
 | tup xs=>obtain ⟨z,its,r,ob,e,c⟩:=x;exact ⟨z,its,r,ob,k _ _ (.inl rfl) e,c⟩
 | dK kvs=>obtain ⟨z,y,vs,r,ob,es,ep,e,c⟩:=x;exact ⟨z,y,vs,r,ob,es,ep,k _ _ (.inl rfl) e,c⟩
 | dT kvs=>
  obtain ⟨z,y,xs,r,ob,es,ep,e,c⟩:=x
  exact ⟨z,y,xs,Paired.zz r fun p q z=>⟨z.1,ht _ _ z.2.1,z.2.2⟩,ob,es,ep,k _ _ (.inl rfl) e,c⟩
 | set S n=>obtain ⟨ob,es,ep,t,e,c⟩:=x;exact ⟨ob,es,ep,t,k _ _ (.inl rfl) e,c⟩
 | ins C dx fs=>
  obtain ⟨d,z,ne,e,mA,⟨od,es,ep,e2,c⟩,r⟩:=x
  exact ⟨ho _ d,z,ne,k _ _ (.inl rfl) e,mA,⟨od,es,ep,k _ _ (.inr d) e2,c⟩,r⟩
 | own y=>obtain ⟨ob,e⟩:=x;exact ⟨ob,k _ _ (.inl rfl) e⟩
 | xd fs=>obtain ⟨mA,⟨od,es,ep,e,c⟩,r⟩:=x;exact ⟨mA,⟨od,es,ep,k _ _ (.inl rfl) e,c⟩,r⟩
 | rng lo hi=>obtain ⟨t,u,v,e⟩:=x;exact ⟨t,u,v,k _ _ (.inl rfl) e⟩
 | frz ob u ih=>obtain ⟨e,q⟩:=x;exact ⟨k _ _ (.inl rfl) e,ih q⟩
 | tbl ps=>
  have e:h.get? a=some { cls:=.none,data:=.fields ps }:=x
  show h'.get? a=some { cls:=.none,data:=.fields ps }
  exact k a _ (.inl rfl) e
 | met f y=>
  have e:h.get? a=some (xS (.ref f) (.ref y)):=x
  show h'.get? a=some (xS (.ref f) (.ref y))
  exact k a _ (.inl rfl) e
 | ext φ=>obtain ⟨p,⟨o,e⟩,st⟩:=x;exact ⟨st _ _ p fun o q=>k _ _ (.inl rfl) q,⟨o,k _ _ (.inl rfl) e⟩,st⟩
theorem HOk.lt (x:HOk P w H h) (e:H a=some o):a < h.objs.size:=(x a o e).lt
theorem HOk.fresh (x:HOk P w H h) (e:h.objs.size≤a):H a=none:=by
 cases q:H a with
 | none=>rfl
 | some u=>exact absurd (cx (x.lt q) e) (hZ _)
theorem HOk.kept (x:HOk P w H h) (k:∀b u,h.get? b=some u→h'.get? b=some u):HOk P w H h':=fun a o e=>
 (x a o e).stay (fun b u _ q=>k b u q) (fun _ q=>q) fun _ _ q=>q
theorem HOk.laid (x:HOk P w H h) (k:∀b u,h.get? b=some u→h'.get? b=some u) (hp:h.objs.size≤a) (new:fJ P w (upd H a o) h' a o):HOk P w (upd H a o) h':=fun b u e=>by
 have hn:=x.fresh hp
 by_cases hb:b=a
 · subst hb;rw[bK] at e;cases e;exact new
 · rw[bu hb] at e
   exact (x b u e).stay (fun c v _ q=>k c v q) (fun c q=>by rw[bu (iT q hn)];exact q) fun c xs q=>by rw[bu (iT q hn)];exact q
end
noncomputable def Rd (H:Hp) (a:Addr) (u:HO):Prop:=H a=some u∨∃o,H a=some (.frz o u)
theorem Rd.ok {P:cw}{w:eI}{H:Hp}{h:Heap}{a:Addr}{u:HO} (r:Rd H a u) (x:HOk P w H h):fJ P w H h a u:=by
 rcases r with r | ⟨o,r⟩
 · exact x a u r
 · obtain ⟨_,q⟩:=x a _ r
   exact q
noncomputable def Mut:Option HO→Prop
 | some (.lst _)=>True
 | some (.dK _)=>True
 | some (.dT _)=>True
 | some (.set _ _)=>True
 | some (.ins _ _ _)=>True
 | some (.ext _)=>True
 | _=>False
section
variable {P:cw}{w:eI}{H:Hp}{h h':Heap}{x e:Addr}{o':HO}
theorem HOk.write (ok:HOk P w H h) (mu:Mut (H x)) (he:e=x∨H e=some (.own x)) (k:∀b u,b≠e→h.get? b=some u→h'.get? b=some u) (heo:∃u,h'.get? e=some u)
 (new:fJ P w (upd H x o') h' x o'):HOk P w (upd H x o') h':=fun b u q=>by
 have YW:∀c y,H c=some (.own y)→c≠x:=fun c y r z=>by subst z;rw[r] at mu;exact mu
 have abV:∀c xs,H c=some (.tup xs)→c≠x:=fun c xs r z=>by subst z;rw[r] at mu;exact mu
 by_cases hb:b=x
 · subst hb;rw[bK] at q;cases q;exact new
 · rw[bu hb] at q
   by_cases hbe:b=e
   · have q':H b=some (.own x):=by
      rcases he with z | z
      · exact absurd (hbe.trans z) hb
      · rw[hbe];exact z
     rw[q] at q';cases q'
     obtain ⟨v,hv⟩:=heo
     exact ⟨v,by rw[hbe];exact hv⟩
   · refine (ok b u q).stay (fun c v hc r=>k c v ?_ r) (fun c r=>by rw[bu (YW c b r)];exact r) fun c xs r=>by rw[bu (abV c xs r)];exact r
     rcases hc with rfl | hc
     · exact hbe
     · rintro rfl
       rcases he with z | z
       · exact YW c b hc z
       · rw[hc] at z;cases z;exact hb rfl
end
structure Un (fs ex:List Addr) (H H':Hp) (h h':Heap):Prop where
 keep:∀b o,h.get? b=some o→H b=none→b∉fs→b∉ex→h'.get? b=some o
 slot:∀b o,h.get? b=some o→H b=none→b∈fs→b∉ex→∃sl,h'.get? b=some { o with slots:=sl }
 free:∀b o,h.get? b=some o→H b=none→b∉ex→H' b=none
 there:∀b o,h.get? b=some o→b∉ex→∃o',h'.get? b=some o'
 tups:∀b xs,H b=some (.tup xs)→H' b=some (.tup xs)
 j8:∀b o u,H b=some (.frz o u)→H' b=some (.frz o u)
 lG:∀b ps,H b=some (.tbl ps)→∃more,H' b=some (.tbl (ps++more))
section
variable {fs fs' ex ex':List Addr}{H H1 H2:Hp}{h h1 h2 h':Heap}{a x e:Addr}{o:HO}
theorem Un.any (u:Un fs ex H H1 h h1) {b:Addr}{ob:Obj} (q:h.get? b=some ob) (n:H b=none) (hx:b∉ex):∃sl,h1.get? b=some { ob with slots:=sl }:=by
 by_cases hb:b∈fs
 · exact u.slot b ob q n hb hx
 · exact ⟨ob.slots,u.keep b ob q n hb hx⟩
theorem Un.kept (k:∀b u,h.get? b=some u→h'.get? b=some u):Un fs ex H H h h':=
 ⟨fun b ob q _ _ _=>k b ob q,fun b ob q _ _ _=>⟨ob.slots,k b ob q⟩,fun _ _ _ n _=>n,fun b ob q _=>⟨ob,k b ob q⟩,fun _ _ q=>q,fun _ _ _ q=>q,fun _ ps q=>⟨#[],by rw[q];simp⟩⟩
theorem Un.refl:Un fs ex H H h h:=Un.kept fun _ _ q=>q
theorem Un.laid (k:∀b u,h.get? b=some u→h'.get? b=some u) (hp:h.objs.size≤a) (hn:H a=none):Un fs ex H (upd H a o) h h' where
 keep:=fun b u q _ _ _=>k b u q
 slot:=fun b u q _ _ _=>⟨u.slots,k b u q⟩
 free:=fun b u q n _=>by rw[bu (eJ (cx (bE q) hp))];exact n
 there:=fun b u q _=>⟨u,k b u q⟩
 tups:=fun b xs q=>by rw[bu (iT q hn)];exact q
 j8:=fun b u xs q=>by rw[bu (iT q hn)];exact q
 lG:=fun b ps q=>⟨#[],by rw[bu (iT q hn),q];simp⟩
theorem Un.write (mu:Mut (H x)) (he:e=x∨H e=some (.own x)) (k:∀b u,b≠e→h.get? b=some u→h'.get? b=some u) (heo:∃u,h'.get? e=some u):Un fs ex H (upd H x o) h h':=by
 have hx:∀b,H b=none→b≠x:=fun b n z=>by subst z;rw[n] at mu;exact mu
 have hb:∀b,H b=none→b≠e:=fun b n z=>by
  subst z
  rcases he with r | r
  · exact hx b n r
  · rw[n] at r;cases r
 have hm:∀b u,H b=some u→¬ Mut (some u)→b≠x:=fun b u q nm z=>by subst z;rw[q] at mu;exact nm mu
 refine ⟨fun b u q n _ _=>k b u (hb b n) q,fun b u q n _ _=>⟨u.slots,k b u (hb b n) q⟩,fun b u q n _=>by rw[bu (hx b n)];exact n,fun b u q _=>?_,
  fun b xs q=>by rw[bu (hm b _ q fun z=>z)];exact q,fun b u xs q=>by rw[bu (hm b _ q fun z=>z)];exact q,fun b ps q=>⟨#[],by rw[bu (hm b _ q fun z=>z),q];simp⟩⟩
 by_cases hbe:b=e
 · subst hbe;exact heo
 · exact ⟨u,k b u hbe q⟩
end
noncomputable def trk (h:Heap) (H:Hp):List Addr:=(cS h.objs.size).filter fun a=>(H a).isSome
noncomputable def tH (h:Heap) (H:Hp):Heap:=PySem.W.hideAll h (trk h H)
theorem Mf (h:Heap) (H:Hp):(tH h H).objs.size=h.objs.size:=PySem.W.hideAll_size _ _
theorem RD {h:Heap}{H:Hp}{b:Addr}{o:Obj} (e:h.get? b=some o) (n:H b=none):(tH h H).get? b=some o:=
 PySem.W.hideAll_get _ e fun hm=>by
  have q:(H b).isSome=true:=(gE.mp hm).2
  rw[n] at q;simp at q
theorem V4 {h:Heap}{H:Hp}{b:Addr}{o:Obj} (e:(tH h H).get? b=some o):h.get? b=some o∧H b=none:=by
 have e':h.get? b=some o:=PySem.W.of_hideAll (trk h H) e
 refine ⟨e',?_⟩
 cases q:H b with
 | none=>rfl
 | some x=>
  have hm:b∈trk h H:=gE.mpr ⟨d5.mpr (bE e'),by simp[q]⟩
  have z:(tH h H).get? b=none:=PySem.W.hideAll_none (trk h H) hm
  rw[z] at e;cases e
structure Mod (K:ag) (mg:Str→Option ai) (base:Heap):Prop where
 kin:K.In base
 glob:base.Ns b6 mg
 blt:∃mb,base.Ns builtinsNs mb∧∀x:Str,x ≠ "__name__" → mb x=bo x
 nolimit:base.NoLimit
structure Cx where
 prog:cw
 w:eI
 K:ag
 mg:Str→Option ai
 base:Heap
 A:eo
 N:List Str
 s₀:ar
 H₀:Hp
 env:Env
 outer:List Env
 stack:List Env
 ex:List Addr
 fn:Str→Bool
 calm:Bool
 pn:List (Addr×Obj)
 xe:ai→ar→Prop
noncomputable def frs (l:List Env):List Addr:=l.filterMap (·.frame)
noncomputable abbrev Cx.fs (X:Cx):List Addr:=frs X.outer
noncomputable def Vis (sc:si) (x:Str):Prop:=sc.names.lookup x=some .local∨sc.names.lookup x=some .cell∨sc.names.lookup x=some .free
noncomputable def Loc (sc:si) (x:Str):Prop:=sc.names.lookup x=some .local∨sc.names.lookup x=some .cell
noncomputable def Look (env:Env) (h:Heap) (m:Str→Option ai) (x:Str) (u:ai):Prop:=
 (env.kindOf x=some .local∧m x=some u)∨((env.kindOf x=some .cell∨env.kindOf x=some .free)∧∃c,env.cells.lookup x=some c∧h.IsCell c (some u))
structure Cx.Ok (X:Cx):Prop where
 mod:Mod X.K X.mg X.base
 kind:X.env.scope.kind = .function
 glob:X.env.globals=b6
 blt:X.env.builtins=builtinsNs
 above:X.s₀.heap.objs.size≤X.env.locals
 inj:∀x y c,X.env.cells.lookup x=some c→X.env.cells.lookup y=some c→x=y
 has:∀x,(X.env.kindOf x=some .cell∨X.env.kindOf x=some .free)→∃c,X.env.cells.lookup x=some c
 cab:∀x c,X.fn x=true→X.env.cells.lookup x=some c→X.s₀.heap.objs.size≤c
 hd:X.calm=true→X.A.handled=none
 frames:X.A.frames=some X.stack
 stk:X.stack=X.outer∨(X.stack=X.env::X.outer∧X.env.frame=some X.env.locals)
 exf:∀b∈X.ex,b≠X.env.locals∧∀x c,X.env.cells.lookup x=some c→c≠b
 bs:∀b o,X.base.get? b=some o→X.s₀.heap.get? b=some o∧X.H₀ b=none
 bsz:X.base.objs.size≤X.s₀.heap.objs.size
 zT:∀b o,X.base.get? b=some o→b∉X.ex
 FJ:∀b∈X.ex,b∉X.fs
 nQ:X.s₀.heap.FunFrames X.base X.outer
 frf:∀b∈X.fs,X.H₀ b=none
structure Inv (X:Cx) (pins:List (Addr×Obj)) (σ:List (Option V)) (H:Hp) (s:ar):Prop where
 ok:X.Ok
 os:s.os=X.s₀.os
 bare:vT s.gens
 base:Un X.fs X.ex X.H₀ H X.s₀.heap s.heap
 loc:∃m,s.heap.Ns X.env.locals m∧∀(i:Nat) (x:Str) (v:V),X.N[i]?=some x→σ[i]?=some (some v)→Vis X.env.scope x→∃u,RelV v u∧Look X.env s.heap m x u
 cell:∀x c,X.env.cells.lookup x=some c→∃v,s.heap.IsCell c v
 free:H X.env.locals=none
 iQ:∀x c,X.env.cells.lookup x=some c→H c=none
 pin:∀p∈X.pn++pins,s.heap.get? p.1=some p.2∧H p.1=none∧p.1≠X.env.locals∧p.1∉X.fs∧∀v,p.2.data ≠ .cell v
 hok:HOk X.prog X.w H s.heap
 len:σ.length=X.N.length
section
variable {X:Cx}{pins:List (Addr×Obj)}{σ:List (Option V)}{H H':Hp}{s:ar}{h':Heap}
theorem Cx.Ok.aaB (ok:X.Ok) {b:Addr}{o:Obj} (e:X.base.get? b=some o):b∉X.fs:=fun hb=>by
 have:=(ok.nQ.mem hb).1
 rw[e] at this;cases this
theorem Inv.bs (I:Inv X pins σ H s):∀b o,X.base.get? b=some o→s.heap.get? b=some o∧H b=none:=fun b o e=>
 ⟨I.base.keep b o (I.ok.bs b o e).1 (I.ok.bs b o e).2 (I.ok.aaB e) (I.ok.zT b o e),I.base.free b o (I.ok.bs b o e).1 (I.ok.bs b o e).2 (I.ok.zT b o e)⟩
theorem Inv.bk (I:Inv X pins σ H s):∀b o,X.base.get? b=some o→s.heap.get? b=some o:=fun b o e=>(I.bs b o e).1
theorem Inv.mod (I:Inv X pins σ H s):Mod X.K X.mg X.base:=I.ok.mod
theorem Inv.kIn (I:Inv X pins σ H s):X.K.In s.heap:=I.ok.mod.kin.keeps I.bk
theorem Inv.lt (I:Inv X pins σ H s):X.env.locals < s.heap.objs.size:=let ⟨_,hn,_⟩:=I.loc;hn.lt
theorem Inv.sz (I:Inv X pins σ H s):X.s₀.heap.objs.size≤s.heap.objs.size:=eK I.ok.above (fF I.lt)
theorem Inv.abo (I:Inv X pins σ H s) {a:Addr} (h:s.heap.objs.size≤a):a∉X.fs:=fun hb=>by
 obtain ⟨_,o,ho,_⟩:=I.ok.nQ.mem hb
 exact absurd (cx (bE ho) (eK I.sz h)) (hZ _)
theorem Inv.cne (I:Inv X pins σ H s):∀x c,X.env.cells.lookup x=some c→c≠X.env.locals:=fun x c e z=>by
 obtain ⟨v,o,ho,hd⟩:=I.cell x c e
 obtain ⟨m,⟨o',es,ep,ho',hd',_⟩,_⟩:=I.loc
 rw[z,ho'] at ho;cases ho;rw[hd'] at hd;cases hd
theorem Inv.nQ (I:Inv X pins σ H s):s.heap.FunFrames X.base X.outer:=by
 have all:∀(l:List Env),(∀b∈frs l,b∈X.fs)→X.s₀.heap.FunFrames X.base l→s.heap.FunFrames X.base l:=by
  intro l
  induction l with
  | nil=>intro _ _;trivial
  | cons env r ih=>
   intro hs hl
   obtain ⟨hk,⟨L,o,hf,hn,ho,hd⟩,hr⟩:=hl
   have hL:L∈X.fs:=hs L (by unfold frs;rw[rh,hf];exact b5)
   obtain ⟨sl,e⟩:=I.base.slot L o ho (I.ok.frf L hL) hL fun z=>I.ok.FJ L z hL
   exact ⟨hk,⟨L,_,hf,hn,e,hd⟩,ih (fun b hb=>hs b (by unfold frs;rw[rh,hf];exact bg _ hb)) hr⟩
 exact all X.outer (fun _ hb=>hb) I.ok.nQ
theorem Inv.stack (I:Inv X pins σ H s):s.heap.FunFrames X.base X.stack:=by
 rcases I.ok.stk with e | ⟨e,hf⟩
 · rw[e];exact I.nQ
 · rw[e]
   obtain ⟨m,hn,_⟩:=I.loc
   refine .cons (by rw[I.ok.kind];decide) hf hn ?_ I.nQ
   exact Heap.get?_none_of_le (eK I.ok.bsz I.ok.above)
theorem Inv.yQ (I:Inv X pins σ H s):∀b∈frs X.stack,b∈X.env.locals::X.fs:=fun b hb=>by
 rcases I.ok.stk with e | ⟨e,hf⟩
 · rw[e] at hb;exact bg _ hb
 · rw[e] at hb
   unfold frs at hb
   rw[rh,hf] at hb
   exact hb
theorem Inv.zB (I:Inv X pins σ H s):∀b∈frs X.stack,H b=none:=fun b hb=>by
 rcases be.mp (I.yQ b hb) with e | hb
 · rw[e];exact I.free
 · obtain ⟨_,o,ho,_⟩:=I.ok.nQ.mem hb
   exact I.base.free b o ho (I.ok.frf b hb) fun z=>I.ok.FJ b z hb
theorem Inv.step {g':Array A6}{t':Nat}{d':Drawn}{ch:List Addr} (I:Inv X pins σ H s)
 (hch:∀b∈ch,(b∈X.ex∨X.s₀.heap.objs.size≤b)∧b≠X.env.locals∧(∀x c,X.env.cells.lookup x=some c→c≠b)∧∀p∈X.pn++pins,p.1≠b)
 (keep:∀b o,b≠X.env.locals→b∉X.fs→b∉ch→s.heap.get? b=some o→H b=none→h'.get? b=some o)
 (slot:∀b o,b≠X.env.locals→b∈X.fs→b∉ch→s.heap.get? b=some o→H b=none→∃sl,h'.get? b=some { o with slots:=sl }) (free:∀b o,b∉ch→s.heap.get? b=some o→H b=none→H' b=none)
 (there:∀b o,b∉ch→s.heap.get? b=some o→∃o',h'.get? b=some o')
 (tups:∀b xs,H b=some (.tup xs)→H' b=some (.tup xs)) (j8:∀b o u,H b=some (.frz o u)→H' b=some (.frz o u)) (lG:∀b ps,H b=some (.tbl ps)→∃more,H' b=some (.tbl (ps++more)))
 (ns:∀m,s.heap.Ns X.env.locals m→h'.Ns X.env.locals m) (hok:HOk X.prog X.w H' h') (hg:vT g') :
 Inv X pins σ H' { s with heap:=h',gens:=g',drawn:=d',toks:=t' }:=by
 have neL:∀b o,X.s₀.heap.get? b=some o→b≠X.env.locals:=fun b o e=>eJ (cx (bE e) I.ok.above)
 have neC:∀b o,X.s₀.heap.get? b=some o→b∉X.ex→b∉ch:=fun b o e hx hb=>by
  rcases (hch b hb).1 with z | z
  · exact hx z
  · exact absurd (cx (bE e) z) (hZ _)
 have cellK:∀x c,X.env.cells.lookup x=some c→∀v,s.heap.IsCell c v→h'.IsCell c v:=fun x c e v aA=>by
  obtain ⟨o,ho,hd⟩:=aA
  have nch:c∉ch:=fun z=>(hch c z).2.2.1 x c e rfl
  by_cases hc:c∈X.fs
  · obtain ⟨sl,q⟩:=slot c o (I.cne x c e) hc nch ho (I.iQ x c e)
    exact ⟨_,q,hd⟩
  · exact ⟨o,keep c o (I.cne x c e) hc nch ho (I.iQ x c e),hd⟩
 refine ⟨I.ok,I.os,hg,⟨fun b o e n hb hx=>?_,fun b o e n hb hx=>?_,fun b o e n hx=>?_,fun b o e hx=>?_,fun b xs e=>tups b xs (I.base.tups b xs e),fun b o xs e=>j8 b o xs (I.base.j8 b o xs e),fun b ps e=>?_⟩,?_,fun x c e=>?_,?_,fun x c e=>?_,fun p hp=>?_,hok,I.len⟩
 · exact keep b o (neL b o e) hb (neC b o e hx) (I.base.keep b o e n hb hx) (I.base.free b o e n hx)
 · obtain ⟨sl,e1⟩:=I.base.slot b o e n hb hx
   obtain ⟨sl',e2⟩:=slot b _ (neL b o e) hb (neC b o e hx) e1 (I.base.free b o e n hx)
   exact ⟨sl',e2⟩
 · obtain ⟨o',e1⟩:=I.base.there b o e hx
   exact free b o' (neC b o e hx) e1 (I.base.free b o e n hx)
 · obtain ⟨o',e1⟩:=I.base.there b o e hx
   exact there b o' (neC b o e hx) e1
 · obtain ⟨m1,e1⟩:=I.base.lG b ps e
   obtain ⟨m2,e2⟩:=lG b _ e1
   exact ⟨m1++m2,by rw[e2,Array.append_assoc]⟩
 · obtain ⟨m,hn,hl⟩:=I.loc
   refine ⟨m,ns m hn,fun i x v e1 e2 e3=>?_⟩
   obtain ⟨u,r,l⟩:=hl i x v e1 e2 e3
   refine ⟨u,r,?_⟩
   rcases l with l | ⟨k,c,e,z⟩
   · exact .inl l
   · exact .inr ⟨k,c,e,cellK x c e _ z⟩
 · obtain ⟨v,z⟩:=I.cell x c e
   exact ⟨v,cellK x c e v z⟩
 · obtain ⟨m,⟨o,_,_,ho,_⟩,_⟩:=I.loc
   exact free _ o (fun z=>(hch _ z).2.1 rfl) ho I.free
 · obtain ⟨v,o,ho,hd⟩:=I.cell x c e
   exact free c o (fun z=>(hch c z).2.2.1 x c e rfl) ho (I.iQ x c e)
 · obtain ⟨e,n,ne,nf,d⟩:=I.pin p hp
   have nch:p.1∉ch:=fun z=>(hch p.1 z).2.2.2 p hp rfl
   exact ⟨keep p.1 p.2 ne nf nch e n,free p.1 p.2 nch e n,ne,nf,d⟩
theorem Inv.un {t':Nat} (I:Inv X pins σ H s) (u:Un X.fs [] H H' s.heap h') (hok:HOk X.prog X.w H' h'):Inv X pins σ H' { s with heap:=h',toks:=t' }:=by
 obtain ⟨m,⟨o,es,ep,ho,r⟩,_⟩:=id I.loc
 obtain ⟨sl,hL⟩:=u.any ho I.free (by simp)
 exact I.step (g':=s.gens) (d':=s.drawn) (ch:=[]) (fun _ z=>nomatch z) (fun b o _ hb _ e n=>u.keep b o e n hb (by simp)) (fun b o _ hb _ e n=>u.slot b o e n hb (by simp)) (fun b o _ e n=>u.free b o e n (by simp)) (fun b o _ e=>u.there b o e (by simp)) u.tups u.j8 u.lG (fun m' hm=>by
  obtain ⟨o',es',ep',ho',r'⟩:=hm
  rw[ho] at ho';cases ho'
  exact ⟨_,es',ep',hL,r'⟩) hok I.bare
theorem Inv.call {g':Array A6}{t':Nat}{d':Drawn}{ch:List Addr} (I:Inv X pins σ H s) (u:Un (frs X.stack) ch H H' s.heap h') (hok:HOk X.prog X.w H' h') (hg:vT g')
 (hch:∀b∈ch,(b∈X.ex∨X.s₀.heap.objs.size≤b)∧b≠X.env.locals∧(∀x c,X.env.cells.lookup x=some c→c≠b)∧∀p∈X.pn++pins,p.1≠b) :
 Inv X pins σ H' { s with heap:=h',gens:=g',drawn:=d',toks:=t' }:=by
 obtain ⟨m,⟨o,es,ep,ho,r⟩,_⟩:=id I.loc
 obtain ⟨sl,hL⟩:=u.any ho I.free fun z=>(hch _ z).2.1 rfl
 exact I.step (ch:=ch) hch (fun b o hL hb hc e n=>u.keep b o e n (fun z=>(be.mp (I.yQ b z)).elim hL hb) hc) (fun b o _ _ hc e n=>u.any e n hc) (fun b o hc e n=>u.free b o e n hc) (fun b o hc e=>u.there b o e hc) u.tups u.j8 u.lG (fun m' hm=>by
  obtain ⟨o',es',ep',ho',r'⟩:=hm
  rw[ho] at ho';cases ho'
  exact ⟨_,es',ep',hL,r'⟩) hok hg
theorem Inv.turned {t':Nat}{it:Addr} (I:Inv X pins σ H s) (k:∀b o,b≠it→s.heap.get? b=some o→h'.get? b=some o) (hn:H it=none) (hL:it≠X.env.locals)
 (h1:it∈X.ex∨X.s₀.heap.objs.size≤it) (h2:∀x c,X.env.cells.lookup x=some c→c≠it) (h3:∀p∈X.pn++pins,p.1≠it):Inv X pins σ H { s with heap:=h',toks:=t' }:=by
 have nit:∀b u,H b=some u→b≠it:=fun b u e z=>by rw[z,hn] at e;cases e
 refine I.step (g':=s.gens) (d':=s.drawn) (ch:=[it]) (fun b hb=>?_) (fun b o _ _ hc e _=>k b o (fun z=>hc (by simp[z])) e) (fun b o _ _ hc e _=>⟨o.slots,k b o (fun z=>hc (by simp[z])) e⟩) (fun _ _ _ _ n=>n)
  (fun b o hc e=>⟨o,k b o (fun z=>hc (by simp[z])) e⟩) (fun _ _ e=>e) (fun _ _ _ e=>e) (fun b ps e=>⟨#[],by rw[e];simp⟩) (fun m hm=>?_) (fun b u e=>?_) I.bare
 · have e:b=it:=by simpa using hb
   subst e
   exact ⟨h1,hL,h2,h3⟩
 · obtain ⟨o,es,ep,ho,r⟩:=hm
   exact ⟨o,es,ep,k _ o (p9 hL) ho,r⟩
 · refine (I.hok b u e).stay (fun c v hc q=>k c v ?_ q) (fun _ q=>q) fun _ _ q=>q
   rcases hc with z | z
   · rw[z];exact nit b u e
   · exact nit c _ z
theorem Inv.tok (I:Inv X pins σ H s) (t:Nat):Inv X pins σ H { s with toks:=t }:=I.un (h':=s.heap) (t':=t) Un.refl I.hok
theorem Inv.kept {t':Nat} (I:Inv X pins σ H s) (k:∀b u,s.heap.get? b=some u→h'.get? b=some u):Inv X pins σ H { s with heap:=h',toks:=t' }:=I.un (Un.kept k) (I.hok.kept k)
theorem Inv.laid {a:Addr}{o:HO}{t':Nat} (I:Inv X pins σ H s) (k:∀b u,s.heap.get? b=some u→h'.get? b=some u) (hp:s.heap.objs.size≤a) (new:fJ X.prog X.w (upd H a o) h' a o) :
 Inv X pins σ (upd H a o) { s with heap:=h',toks:=t' }:=I.un (Un.laid k hp (I.hok.fresh hp)) (I.hok.laid k hp new)
theorem Inv.write {x e:Addr}{o:HO}{t':Nat} (I:Inv X pins σ H s) (mu:Mut (H x)) (he:e=x∨H e=some (.own x)) (k:∀b u,b≠e→s.heap.get? b=some u→h'.get? b=some u) (heo:∃u,h'.get? e=some u)
 (new:fJ X.prog X.w (upd H x o) h' x o):Inv X pins σ (upd H x o) { s with heap:=h',toks:=t' }:=I.un (Un.write mu he k heo) (I.hok.write mu he k heo new)
theorem Inv.Ip {S9:List (Addr×Obj)} (I:Inv X pins σ H s) (h:∀p∈S9,s.heap.get? p.1=some p.2∧H p.1=none∧p.1≠X.env.locals∧p.1∉X.fs∧∀v,p.2.data ≠ .cell v):Inv X S9 σ H s:=
 ⟨I.ok,I.os,I.bare,I.base,I.loc,I.cell,I.free,I.iQ,fun p hp=>(fy.mp hp).elim (fun z=>I.pin p (fA _ z)) (h p),I.hok,I.len⟩
theorem my {N:List Str} (hN:N.Nodup) {i j:Nat}{x:Str} (a:N[i]?=some x) (b:N[j]?=some x):i=j:=by
 obtain ⟨h1,e1⟩:=de.mp a
 obtain ⟨h2,e2⟩:=de.mp b
 exact (List.getElem_inj hN).mp (e1.trans e2.symm)
theorem Bv {M:vw}{A:eo}{E:ai→ar→Prop}{i:Nat}{x:Str}{v:V}{u:ai}{Q:Unit→ar→Prop} (I:Inv X pins σ H s) (hN:X.N.Nodup) (hi:X.N[i]?=some x) (hx:Loc X.env.scope x) (r:RelV v u)
 (h:∀s',Inv X pins (σ.set i (some v)) H s'→(∃a,fT a s.heap s'.heap∧(a=X.env.locals∨X.env.cells.lookup x=some a))→Q () s') (hf:X.fn x=true∨X.env.scope.names.lookup x=some .local:=by first | exact .inl rfl | exact .inr rfl | assumption):bP M A (storeName X.env x u) Q E s:=by
 obtain ⟨m,hn,hl⟩:=id I.loc
 have hcls:(X.env.scope.kind == .class||(X.env.scope.kind == .module&&X.env.locals != X.env.globals))=false:=by rw[I.ok.kind];rfl
 have hiσ:i < σ.length:=by rw[I.len];exact (de.mp hi).1
 have cne:=I.cne
 have tracked:∀{a:Addr}{h':Heap},(∃o,s.heap.get? a=some o∧H a=none)→fT a s.heap h'→HOk X.prog X.w H h':=fun {a h'} ha hs b ob e=>by
  obtain ⟨_,_,hfree⟩:=ha
  refine (I.hok b ob e).stay (fun c w' hc q=>(hs.2 c ?_).trans q) (fun _ q=>q) fun _ _ q=>q
  rintro rfl
  rcases hc with rfl | hc
  · rw[hfree] at e;cases e
  · rw[hfree] at hc;cases hc
 rcases hx with hk | hk
 · refine wpAny_storeName_local hk hn (fun h' hn' hs=>?_) hcls
   obtain ⟨oL,_,_,hoL,_⟩:=id hn
   refine h _ ⟨I.ok,I.os,I.bare,⟨fun b o e n hb hx=>?_,fun b o e n hb hx=>?_,I.base.free,fun b o e hx=>?_,I.base.tups,I.base.j8,I.base.lG⟩,⟨_,hn',fun j y v' e1 e2 e3=>?_⟩,fun y c e=>?_,I.free,I.iQ,fun p hp=>?_,tracked ⟨oL,hoL,I.free⟩ hs,by simpa using I.len⟩ ⟨_,hs,.inl rfl⟩
   · exact (hs.2 b (eJ (cx (bE e) I.ok.above))).trans (I.base.keep b o e n hb hx)
   · obtain ⟨sl,e1⟩:=I.base.slot b o e n hb hx
     exact ⟨sl,(hs.2 b (eJ (cx (bE e) I.ok.above))).trans e1⟩
   · obtain ⟨o',e1⟩:=I.base.there b o e hx
     exact ⟨o',(hs.2 b (eJ (cx (bE e) I.ok.above))).trans e1⟩
   · by_cases hj:j=i
     · subst hj
       rw[hi] at e1;cases e1
       rw[hU hiσ] at e2
       cases e2
       exact ⟨u,r,.inl ⟨hk,by simp⟩⟩
     · rw[nk (p9 hj)] at e2
       obtain ⟨u',r',q⟩:=hl j y v' e1 e2 e3
       refine ⟨u',r',?_⟩
       rcases q with ⟨k,e⟩ | ⟨k,c,e,z⟩
       · refine .inl ⟨k,?_⟩
         have:y≠x:=fun e=>hj (my hN e1 (e ▸ hi))
         simp[this,e]
       · exact .inr ⟨k,c,e,z.sameBut hs (cne y c e)⟩
   · obtain ⟨w',z⟩:=I.cell y c e
     exact ⟨w',z.sameBut hs (cne y c e)⟩
   · obtain ⟨e,n,ne,nf,d⟩:=I.pin p hp
     exact ⟨(hs.2 p.1 ne).trans e,n,ne,nf,d⟩
 · have hfn:X.fn x=true:=by
    rcases hf with z | z
    · exact z
    · rw[z] at hk;cases hk
   obtain ⟨c,hc⟩:=I.ok.has x (.inl hk)
   obtain ⟨w',z⟩:=I.cell x c hc
   refine wpAny_storeName_cell I.ok.kind hk hc z (fun h' hc' hs=>?_)
   obtain ⟨oc,hoc,aah⟩:=id z
   refine h { s with heap:=h' } ⟨I.ok,I.os,I.bare,⟨fun b o e n hb hx=>?_,fun b o e n hb hx=>?_,I.base.free,fun b o e hx=>?_,I.base.tups,I.base.j8,I.base.lG⟩,⟨m,hn.sameBut hs (p9 (cne x c hc)),fun j y v' e1 e2 e3=>?_⟩,fun y c' e=>?_,I.free,I.iQ,fun p hp=>?_,tracked ⟨oc,hoc,I.iQ x c hc⟩ hs,by simpa using I.len⟩ ⟨c,hs,.inr hc⟩
   · exact (hs.2 b (eJ (cx (bE e) (I.ok.cab x c hfn hc)))).trans (I.base.keep b o e n hb hx)
   · obtain ⟨sl,e1⟩:=I.base.slot b o e n hb hx
     exact ⟨sl,(hs.2 b (eJ (cx (bE e) (I.ok.cab x c hfn hc)))).trans e1⟩
   · obtain ⟨o',e1⟩:=I.base.there b o e hx
     exact ⟨o',(hs.2 b (eJ (cx (bE e) (I.ok.cab x c hfn hc)))).trans e1⟩
   · by_cases hj:j=i
     · subst hj
       rw[hi] at e1;cases e1
       rw[hU hiσ] at e2
       cases e2
       exact ⟨u,r,.inr ⟨.inl hk,c,hc,hc'⟩⟩
     · rw[nk (p9 hj)] at e2
       obtain ⟨u',r',q⟩:=hl j y v' e1 e2 e3
       refine ⟨u',r',?_⟩
       rcases q with q | ⟨k,c',e,z'⟩
       · exact .inl q
       · refine .inr ⟨k,c',e,z'.sameBut hs ?_⟩
         rintro rfl
         exact hj (my hN e1 (I.ok.inj _ _ _ e hc ▸ hi))
   · by_cases hcc:c'=c
     · subst hcc;exact ⟨_,hc'⟩
     · obtain ⟨w2,z2⟩:=I.cell y c' e
       exact ⟨w2,z2.sameBut hs hcc⟩
   · obtain ⟨e,n,ne,nf,d⟩:=I.pin p hp
     refine ⟨(hs.2 p.1 ?_).trans e,n,ne,nf,d⟩
     intro q
     rw[q,hoc] at e
     have q':oc=p.2:=Option.some.inj e
     exact d w' (by rw[← q'];exact aah)
theorem tK {M:vw}{A:eo}{E:ai→ar→Prop}{i:Nat}{x:Str}{v:V}{u:ai}{Q:Unit→ar→Prop} (I:Inv X pins σ H s) (hN:X.N.Nodup) (hi:X.N[i]?=some x) (hx:Loc X.env.scope x) (r:RelV v u)
 (h:∀s',Inv X pins (σ.set i (some v)) H s'→Q () s') (hf:X.fn x=true∨X.env.scope.names.lookup x=some .local:=by first | exact .inl rfl | exact .inr rfl | assumption):bP M A (storeName X.env x u) Q E s:=
 Bv I hN hi hx r (fun s' I' _=>h s' I') hf
theorem Inv.call' {s':ar}{ch:List Addr} (I:Inv X pins σ H s) (ho:s'.os=s.os) (u:Un (frs X.stack) ch H H' s.heap s'.heap) (hok:HOk X.prog X.w H' s'.heap) (hg:vT s'.gens)
 (hch:∀b∈ch,(b∈X.ex∨X.s₀.heap.objs.size≤b)∧b≠X.env.locals∧(∀x c,X.env.cells.lookup x=some c→c≠b)∧∀p∈X.pn++pins,p.1≠b):Inv X pins σ H' s':=by
 obtain ⟨h',g',d',t',o'⟩:=s'
 have e:o'=s.os:=ho
 subst e
 exact I.call (g':=g') (t':=t') (d':=d') u hok hg hch
end
noncomputable abbrev XK:=ai→Option Addr→Hp→Prop
noncomputable abbrev St:=List (Option V)
noncomputable abbrev VK:=V→Hp→Prop
noncomputable abbrev TE:=St→Hp→VK→Prop
noncomputable abbrev TT:=St→Hp→(Bool→Hp→Prop)→Prop
noncomputable abbrev TA:=St→Hp→(List V→Hp→Prop)→Prop
structure Ends where
 nx:St→Hp→Prop
 rt:VK
 bk:St→Hp→Prop:=fun _ _=>False
 ct:St→Hp→Prop:=fun _ _=>False
noncomputable abbrev TS:=Ends→St→Hp→Prop
noncomputable def EP (X:Cx) (pins:List (Addr×Obj)) (σ:St) (Q:VK) (u:ai) (s':ar):Prop:=∃v H',Inv X pins σ H' s'∧RelV v u∧Q v H'
noncomputable def TP (X:Cx) (pins:List (Addr×Obj)) (σ:St) (Q:Bool→Hp→Prop) (b:Bool) (s':ar):Prop:=∃H',Inv X pins σ H' s'∧Q b H'
noncomputable def AP (X:Cx) (pins:List (Addr×Obj)) (σ:St) (Q:List V→Hp→Prop) (us:List ai) (s':ar):Prop:=∃vs H',Inv X pins σ H' s'∧Vals vs us∧Q vs H'
noncomputable def SP (X:Cx) (pins:List (Addr×Obj)) (D:Ends) (f:Flow) (s':ar):Prop:=
 match f with
 | .next=>∃σ' H',Inv X pins σ' H' s'∧D.nx σ' H'
 | .brk=>∃σ' H',Inv X pins σ' H' s'∧D.bk σ' H'
 | .cont=>∃σ' H',Inv X pins σ' H' s'∧D.ct σ' H'
 | .ret u=>∃v σ' H',Inv X pins σ' H' s'∧RelV v u∧D.rt v H'
noncomputable def PE (X:Cx) (e:Expr) (t:TE):Prop:=
 ∀(pins:List (Addr×Obj)) (s:ar) (σ:St) (H:Hp) (Q:VK),Inv X pins σ H s→t σ H Q→bP (bt X.prog X.w) X.A (eval e X.env) (EP X pins σ Q) X.xe s
noncomputable def PT (X:Cx) (e:Expr) (t:TT):Prop:=
 ∀(pins:List (Addr×Obj)) (s:ar) (σ:St) (H:Hp) (Q:Bool→Hp→Prop),Inv X pins σ H s→t σ H Q→bP (bt X.prog X.w) X.A (isTrue e X.env (eval e X.env)) (TP X pins σ Q) X.xe s
noncomputable def PW (X:Cx) (e:Expr) (t:TT):Prop:=
 ∀(whole:Sem ai) (pins:List (Addr×Obj)) (s:ar) (σ:St) (H:Hp) (Q:Bool→Hp→Prop),Inv X pins σ H s→t σ H Q→bP (bt X.prog X.w) X.A (isTrue e X.env whole) (TP X pins σ Q) X.xe s
theorem PW.pt {X:Cx}{e:Expr}{t:TT} (h:PW X e t):PT X e t:=h _
noncomputable def PA (X:Cx) (es:List Expr) (t:TA):Prop:=
 ∀(pos:Pos) (pins:List (Addr×Obj)) (s:ar) (σ:St) (H:Hp) (Q:List V→Hp→Prop),Inv X pins σ H s→t σ H Q→bP (bt X.prog X.w) X.A (spliced (oC pos (d4 es X.env))) (AP X pins σ Q) X.xe s
noncomputable def PS (X:Cx) (st:Stmt) (t:TS):Prop:=
 ∀(pins:List (Addr×Obj)) (s:ar) (σ:St) (H:Hp) (D:Ends),Inv X pins σ H s→t D σ H→bP (bt X.prog X.w) X.A (exec st X.env) (SP X pins D) X.xe s
noncomputable def PSs (X:Cx) (st:List Stmt) (t:TS):Prop:=
 ∀(pins:List (Addr×Obj)) (s:ar) (σ:St) (H:Hp) (D:Ends),Inv X pins σ H s→t D σ H→bP (bt X.prog X.w) X.A (execs st X.env) (SP X pins D) X.xe s
theorem thn {α:Type}{t:Sem α}{Q Q':α→ar→Prop}{M:vw}{A:eo}{E:ai→ar→Prop}{s:ar} (h:bP M A t Q E s) (hQ:∀a s,Q a s→Q' a s):bP M A t Q' E s:=gc h hQ fun _ _ x=>x
section
variable {X:Cx}
noncomputable def aaA (i:Nat):TE:=fun σ H Q=>∃v,σ[i]?=some (some v)∧Q v H
noncomputable def tC (v:V):TE:=fun _ H Q=>Q v H
theorem il {i:Nat}{x:Str}{pos:Pos} (hN:X.N[i]?=some x) (hv:Vis X.env.scope x) (hd:(x == ("__debug__" : Str))=false:=by decide) (hcd:(x == ("__classdict__" : Str))=false:=by decide):PE X (.Name x pos) (aaA i):=by
 intro pins s σ H Q I h
 obtain ⟨v,e,h⟩:=h
 obtain ⟨m,hn,hl⟩:=I.loc
 obtain ⟨u,r,l⟩:=hl i x v hN e hv
 have fin:EP X pins σ Q u s:=⟨v,H,I,r,h⟩
 rcases l with ⟨hk,hm⟩ | ⟨hk,c,hc,hcell⟩
 · exact wpAny_Name (wpAny_loadName_local I.ok.kind hk hn hm fin) hd
 · rcases hk with hk | hk
   · exact wpAny_Name (wpAny_loadName_cell I.ok.kind hk hc hcell fin) hd
   · exact wpAny_Name (wpAny_loadName_free I.ok.kind hk hc hcell fin hcd) hd
theorem O4 {i j pos}:PE X (.Constant (.int i) j pos) (tC (.int i)):=fun _ _ _ H _ I h=>wpAny_Constant_int ⟨.int i,H,I.tok _,⟨_,rfl⟩,h⟩
theorem ZV {b j pos}:PE X (.Constant (.bool b) j pos) (tC (.bl b)):=fun _ _ _ H _ I h=>Constant_bool ⟨.bl b,H,I,rfl,h⟩
theorem Nx {j pos}:PE X (.Constant .none j pos) (tC .non):=fun _ _ _ H _ I h=>Constant_none ⟨.non,H,I,rfl,h⟩
theorem MN {x j pos}:PE X (.Constant (.str x) j pos) (tC (.str x)):=fun _ _ _ H _ I h=>Calls.Constant_str ⟨.str x,H,I.tok _,⟨_,rfl⟩,h⟩
noncomputable def Gl (X:Cx) (x:Str):Prop:=X.env.kindOf x=some .globalImplicit
theorem oU {E:ai→ar→Prop}{pins:List (Addr×Obj)}{s:ar}{σ:St}{H:Hp}{x:Str}{u:ai}{pos:Pos}{Q:ai→ar→Prop} (I:Inv X pins σ H s) (hg:Gl X x) (hm:X.mg x=some u) (h:Q u s)
 (hd:(x == ("__debug__" : Str))=false:=by decide):bP (bt X.prog X.w) X.A (eval (.Name x pos) X.env) Q E s:=
 Calls.Name_function_global I.ok.kind hg (Calls.loadGlobal_global (by rw[I.ok.glob];exact I.mod.glob.keeps I.bk) hm h) hd
theorem nA {E:ai→ar→Prop}{pins:List (Addr×Obj)}{s:ar}{σ:St}{H:Hp}{x:Str}{u:ai}{pos:Pos}{Q:ai→ar→Prop} (I:Inv X pins σ H s) (hg:Gl X x) (hm:X.mg x=none) (hv:bo x=some u) (h:Q u s)
 (hn:x ≠ "__name__" := by decide) (hd:(x == ("__debug__" : Str))=false:=by decide):bP (bt X.prog X.w) X.A (eval (.Name x pos) X.env) Q E s:=by
 obtain ⟨mb,h1,h2⟩:=I.mod.blt
 exact Calls.Name_function_global I.ok.kind hg (Calls.loadGlobal_builtin (by rw[I.ok.glob];exact I.mod.glob.keeps I.bk) hm (by rw[I.ok.blt];exact h1.keeps I.bk) ((h2 x hn).trans hv) h) hd
theorem jJ {x:Str}{v:V}{u:ai}{pos:Pos} (hg:Gl X x) (hm:X.mg x=some u) (r:RelV v u) (hd:(x == ("__debug__" : Str))=false:=by decide):PE X (.Name x pos) (tC v):=
 fun _ _ _ H _ I h=>oU I hg hm ⟨v,H,I,r,h⟩ hd
theorem TY {x:Str}{v:V}{u:ai}{pos:Pos} (hg:Gl X x) (hm:X.mg x=none) (hv:bo x=some u) (r:RelV v u) (hn:x ≠ "__name__" := by decide) (hd:(x == ("__debug__" : Str))=false:=by decide):PE X (.Name x pos) (tC v):=
 fun _ _ _ H _ I h=>nA I hg hm hv ⟨v,H,I,r,h⟩ hn hd
variable {a b:Expr}{ta tb:TE}{pos:Pos}
theorem Qd (b:Expr) {op:CmpOp} (h:op ≠ .In) (h2:op ≠ .NotIn):kG op b=false:=by
 have e1:(op == CmpOp.In)=false:=by cases op <;> first | rfl | exact absurd rfl h
 have e2:(op == CmpOp.NotIn)=false:=by cases op <;> first | rfl | exact absurd rfl h2
 cases b <;> simp[kG,e1,e2]
variable {tA tB':TT}{rest:List Expr}
noncomputable def aaI (t u:TT):TT:=fun σ H Q=>t σ H fun c H1=>if c=true then u σ H1 Q else Q false H1
noncomputable def tOr (t u:TT):TT:=fun σ H Q=>t σ H fun c H1=>if c=true then Q true H1 else u σ H1 Q
noncomputable def aau (t:TT):TT:=fun σ H Q=>t σ H fun c H1=>Q (!c) H1
theorem V0 (ha:PT X a tA):PW X (.BoolOp .And [a] pos) tA:=by
 intro wh pins s σ H Q I h
 refine isTrue_and (thn (ha pins s σ H Q I h) fun c s1 e=>?_)
 cases c with
 | true=>exact isTrue_and_nil e
 | false=>exact e
theorem WW (ha:PT X a tA):PW X (.BoolOp .Or [a] pos) tA:=by
 intro wh pins s σ H Q I h
 refine isTrue_or (thn (ha pins s σ H Q I h) fun c s1 e=>?_)
 cases c with
 | false=>exact isTrue_or_nil e
 | true=>exact e
theorem Yw (ha:PT X a tA) (hb:PW X (.BoolOp .And (b::rest) pos) tB'):PW X (.BoolOp .And (a::b::rest) pos) (aaI tA tB'):=by
 intro wh pins s σ H Q I h
 refine isTrue_and (thn (ha pins s σ H _ I h) fun c s1 aA=>?_)
 obtain ⟨H1,I1,q1⟩:=aA
 cases c with
 | true=>exact hb wh pins s1 σ H1 Q I1 q1
 | false=>exact ⟨H1,I1,q1⟩
theorem ZX (ha:PT X a tA) (hb:PW X (.BoolOp .Or (b::rest) pos) tB'):PW X (.BoolOp .Or (a::b::rest) pos) (tOr tA tB'):=by
 intro wh pins s σ H Q I h
 refine isTrue_or (thn (ha pins s σ H _ I h) fun c s1 aA=>?_)
 obtain ⟨H1,I1,q1⟩:=aA
 cases c with
 | true=>exact ⟨H1,I1,q1⟩
 | false=>exact hb wh pins s1 σ H1 Q I1 q1
theorem W4 (ha:PT X a tA):PT X (.UnaryOp .Not a pos) (aau tA):=by
 intro pins s σ H Q I h
 exact isTrue_not (ha pins s σ H (fun c H1=>Q (!c) H1) I h)
noncomputable def ab4 (ta tb:TE):TE:=fun σ H Q=>ta σ H fun x H1=>∃c,x = .bl c∧if c=true then Q (.bl true) H1 else tb σ H1 Q
theorem Xl {op}{t:TE} (h:PE X a t):PE X (.BoolOp op [a] pos) t:=fun pins s σ H Q I hw=>BoolOp_one (h pins s σ H Q I hw)
theorem Z1 (ha:PE X a ta) (hb:PE X (.BoolOp .Or (b::rest) pos) tb):PE X (.BoolOp .Or (a::b::rest) pos) (ab4 ta tb):=by
 intro pins s σ H Q I h
 refine BoolOp_or (thn (ha pins s σ H _ I h) fun v s1 aA=>?_)
 obtain ⟨x,H1,I1,r1,q1⟩:=aA
 obtain ⟨c,rfl,q1⟩:=q1
 cases r1
 refine x5 ?_
 cases c with
 | false=>exact hb pins s1 σ H1 Q I1 q1
 | true=>exact ⟨.bl true,H1,I1,rfl,q1⟩
end
noncomputable def SqL (K:ag) (H:Hp) (a:Addr) (xs:List V):Prop:=
 Rd H a (.lst xs) ∨
  ∃(o:Obj) (its:Array ai) (n:Nat),K.lookup a=some o∧o.cls = .type "list" ∧ o.dict=none∧o.data = .seq its n∧its.size≤bp∧Vals xs its.toList
noncomputable def SqT (K:ag) (H:Hp) (a:Addr) (xs:List V):Prop:=
 Rd H a (.tup xs) ∨
  ∃(o:Obj) (its:Array ai) (n:Nat),K.lookup a=some o∧o.cls = .type "tuple" ∧ o.data = .seq its n∧its.size≤bp∧Vals xs its.toList
noncomputable def abp:ai→Option V
 | .none=>some .non
 | .bool b=>some (.bl b)
 | .int i _=>some (.int i)
 | .str x _=>some (.str x)
 | .bytes b _=>some (.byt b)
 | .float b _=>some (.flt b)
 | .ref a=>some (.ref a)
 | .type n=>some (.ty n)
 | _=>none
theorem RelV.abs {x:V}{u:ai} (r:RelV x u):abp u=some x:=by
 cases x with
 | non=>cases r;rfl
 | bl _=>cases r;rfl
 | int _=>obtain ⟨t,rfl⟩:=r;rfl
 | str _=>obtain ⟨t,rfl⟩:=r;rfl
 | byt _=>obtain ⟨t,rfl⟩:=r;rfl
 | flt _=>obtain ⟨t,rfl⟩:=r;rfl
 | ref _=>cases r;rfl
 | ty _=>cases r;rfl
theorem RelV.inj {x y:V}{u:ai} (r:RelV x u) (q:RelV y u):x=y:=Option.some.inj (r.abs.symm.trans q.abs)
theorem Vals.inj:∀{xs ys:List V}{us:List ai},Vals xs us→Vals ys us→xs=ys
 | _,_,_,.nil,.nil=>rfl
 | _,_,_,.cons r t,.cons r' t'=>by rw[r.inj r',Vals.inj t t']
section
variable {X:Cx}{pins:List (Addr×Obj)}{σ:St}{H:Hp}{s:ar}{a:Addr}{xs ys:List V}
theorem SqL.of {K:ag} (h:H a=some (.lst xs)):SqL K H a xs:=.inl (.inl h)
theorem SqT.of {K:ag} (h:H a=some (.tup xs)):SqT K H a xs:=.inl (.inl h)
theorem Inv.list (I:Inv X pins σ H s) (h:SqL X.K H a xs):∃its:List ai,Vals xs its∧PlainL s.heap a its.toArray∧xs.length≤bp:=by
 rcases h with h | ⟨o,its,n,hk,hc,hd,hs,hz,r⟩
 · obtain ⟨z,its,n,r,e⟩:=h.ok I.hok
   exact ⟨its,r,⟨_,n,e,rfl,rfl,rfl⟩,z⟩
 · refine ⟨its.toList,r,⟨o,n,I.kIn a o hk,hc,hd,by simpa using hs⟩,?_⟩
   have e:=r.length
   simp only[cy] at e
   omega
theorem Inv.tuple (I:Inv X pins σ H s) (h:SqT X.K H a xs):∃its:List ai,Vals xs its∧IsTup s.heap a its.toArray∧xs.length≤bp:=by
 rcases h with h | ⟨o,its,n,hk,hc,hs,hz,r⟩
 · obtain ⟨z,its,r,p⟩:=h.ok I.hok
   exact ⟨its,r,p,z⟩
 · refine ⟨its.toList,r,⟨o,I.kIn a o hk,hc,n,by simpa using hs⟩,?_⟩
   have e:=r.length
   simp only[cy] at e
   omega
theorem Inv.Rh (I:Inv X pins σ H s) (h:SqL X.K H a xs) (h':SqL X.K H a ys):xs=ys:=by
 obtain ⟨its,r,⟨o,n,e,_,_,d⟩,_⟩:=I.list h
 obtain ⟨its',r',⟨o',n',e',_,_,d'⟩,_⟩:=I.list h'
 rw[e] at e';cases e'
 rw[d] at d'
 injection d' with d1 _
 have:its=its':=by simpa using congrArg Array.toList d1
 subst this
 exact r.inj r'
theorem Inv.LQ (I:Inv X pins σ H s) (h:SqT X.K H a xs) (h':SqT X.K H a ys):xs=ys:=by
 obtain ⟨its,r,⟨o,e,_,n,d⟩,_⟩:=I.tuple h
 obtain ⟨its',r',⟨o',e',_,n',d'⟩,_⟩:=I.tuple h'
 rw[e] at e';cases e'
 rw[d] at d'
 injection d' with d1 _
 have:its=its':=by simpa using congrArg Array.toList d1
 subst this
 exact r.inj r'
end
noncomputable abbrev Cx.wish (X:Cx) (E:ai→ar→Prop):Cx:={ X with xe:=E }
noncomputable abbrev Cx.nox (X:Cx):Cx:=X.wish fun _ _=>False
theorem Cx.Ok.wish {X:Cx} (ok:X.Ok) (E:ai→ar→Prop):(X.wish E).Ok:=
 ⟨ok.mod,ok.kind,ok.glob,ok.blt,ok.above,ok.inj,ok.has,ok.cab,ok.hd,ok.frames,ok.stk,ok.exf,ok.bs,ok.bsz,ok.zT,ok.FJ,ok.nQ,ok.frf⟩
theorem Cx.Ok.nM {X:Cx}{E:ai→ar→Prop} (ok:(X.wish E).Ok):X.Ok:=
 ⟨ok.mod,ok.kind,ok.glob,ok.blt,ok.above,ok.inj,ok.has,ok.cab,ok.hd,ok.frames,ok.stk,ok.exf,ok.bs,ok.bsz,ok.zT,ok.FJ,ok.nQ,ok.frf⟩
section
variable {X:Cx}{pins:List (Addr×Obj)}{σ:St}{H:Hp}{s:ar}{E:ai→ar→Prop}
theorem Inv.wish (I:Inv X pins σ H s) (E:ai→ar→Prop):Inv (X.wish E) pins σ H s:=⟨I.ok.wish E,I.os,I.bare,I.base,I.loc,I.cell,I.free,I.iQ,I.pin,I.hok,I.len⟩
theorem Inv.nM (I:Inv (X.wish E) pins σ H s):Inv X pins σ H s:=⟨I.ok.nM,I.os,I.bare,I.base,I.loc,I.cell,I.free,I.iQ,I.pin,I.hok,I.len⟩
theorem SP.nM {D:Ends}{f:Flow}{s':ar} (h:SP (X.wish E) pins D f s'):SP X pins D f s':=by
 cases f with
 | next=>obtain ⟨σ',H',I,q⟩:=h;exact ⟨σ',H',I.nM,q⟩
 | brk=>obtain ⟨σ',H',I,q⟩:=h;exact ⟨σ',H',I.nM,q⟩
 | cont=>obtain ⟨σ',H',I,q⟩:=h;exact ⟨σ',H',I.nM,q⟩
 | ret u=>obtain ⟨v,σ',H',I,r,q⟩:=h;exact ⟨v,σ',H',I.nM,r,q⟩
theorem PSs.nox {st:List Stmt}{t:TS} (h:PSs X.nox st t):PSs X st t:=fun pins s σ H D I hw=>
 gc (h pins s σ H D (I.wish _) hw) (fun _ _ q=>q.nM) fun _ _ z=>oD z
end
section
variable {X:Cx}{st:Stmt}{rest:List Stmt}{t u:TS}{e:Expr}{te:TE}{pos:Pos}
noncomputable def Zz:TS:=fun D σ H=>D.nx σ H
noncomputable def aco (t u:TS):TS:=fun D σ H=>t { D with nx:=u D } σ H
theorem VJ:PSs X [] Zz:=fun _ _ σ H _ I h=>pb ⟨σ,H,I,h⟩
theorem sU (h1:PS X st t) (h2:PSs X rest u):PSs X (st::rest) (aco t u):=by
 intro pins s σ H D I h
 refine t5 (thn (h1 pins s σ H { D with nx:=u D } I h) fun f s1 q=>?_)
 cases f with
 | next=>
  obtain ⟨σ',H',I',q⟩:=q
  exact h2 pins s1 σ' H' D I' q
 | ret v=>exact q
 | brk=>exact q
 | cont=>exact q
theorem Hy (h1:PS X st t):PSs X [st] t:=by
 intro pins s σ H D I h
 refine t5 (thn (h1 pins s σ H D I h) fun f s1 q=>?_)
 cases f with
 | next=>exact pb q
 | ret v=>exact q
 | brk=>exact q
 | cont=>exact q
theorem Inv.quiet {pins:List (Addr×Obj)}{σ:St}{H:Hp}{s:ar} (I:Inv X pins σ H s):interactive X.env=false:=by simp[interactive,I.ok.kind]
noncomputable def Y8 (te:TE):TS:=fun D σ H=>te σ H fun _ H1=>D.nx σ H1
theorem v5 (he:PE X e te) (hs:j3 e none pos.line X.env=pure false:=by rfl):PS X (.Expr e pos) (Y8 te):=by
 intro pins s σ H D I h
 exact wpAny_Expr_any (thn (he pins s σ H _ I h) fun v s1 ⟨x,H1,I1,r1,q1⟩=>⟨σ,H1,I1,q1⟩) I.quiet hs
noncomputable def acb (te:TE):TS:=fun D σ H=>te σ H D.rt
theorem M7 (he:PE X e te):PS X (.Return (some e) pos) (acb te):=by
 intro pins s σ H D I h
 exact wpAny_Return_some (thn (he pins s σ H _ I h) fun v s1 ⟨x,H1,I1,r1,q1⟩=>⟨x,σ,H1,I1,r1,q1⟩)
noncomputable def abb (c:TT) (t u:TS):TS:=fun D σ H=>c σ H fun b H1=>if b=true then t D σ H1 else u D σ H1
theorem Tc {c:Expr}{a b:List Stmt}{tc:TT} (hc:PT X c tc) (ha:PSs X a t) (hb:PSs X b u):PS X (.If c a b pos) (abb tc t u):=by
 intro pins s σ H D I h
 refine wpAny_If (thn (hc pins s σ H _ I h) fun d s1 aA=>?_)
 obtain ⟨H1,I1,q1⟩:=aA
 cases d with
 | true=>exact ha pins s1 σ H1 D I1 q1
 | false=>exact hb pins s1 σ H1 D I1 q1
noncomputable def NK:TS:=fun _ _ _=>False
theorem Gm:PS X st NK:=fun _ _ _ _ _ _ h=>h.elim
theorem Br {sts:List Stmt}:PSs X sts NK:=fun _ _ _ _ _ _ h=>h.elim
end
noncomputable abbrev TG:=V→St→Hp→(St→Hp→Prop)→Prop
noncomputable abbrev TGs:=List V→St→Hp→(St→Hp→Prop)→Prop
noncomputable def PG (X:Cx) (target:Expr) (t:TG):Prop:=
 ∀(pins:List (Addr×Obj)) (s:ar) (σ:St) (H:Hp) (v:V) (u:ai) (Q:St→Hp→Prop),Inv X pins σ H s→RelV v u→t v σ H Q →
  bP (bt X.prog X.w) X.A (AG target X.env u) (fun _ s'=>∃σ' H',Inv X pins σ' H' s'∧Q σ' H') X.xe s
noncomputable def PGs (X:Cx) (ts:List Expr) (t:TGs):Prop:=
 ∀(pins:List (Addr×Obj)) (s:ar) (σ:St) (H:Hp) (vs:List V) (us:List ai) (Q:St→Hp→Prop),Inv X pins σ H s→Vals vs us→t vs σ H Q →
  bP (bt X.prog X.w) X.A (assignInOrder ((nX ts X.env).map (·.2)) us) (fun _ s'=>∃σ' H',Inv X pins σ' H' s'∧Q σ' H') X.xe s
section
variable {X:Cx}{pos:Pos}
noncomputable def yK (i:Nat):TG:=fun v σ H Q=>Q (σ.set i (some v)) H
theorem U9 {i:Nat}{x:Str} (hN:X.N.Nodup) (hi:X.N[i]?=some x) (hx:Loc X.env.scope x) (hf:X.fn x=true∨X.env.scope.names.lookup x=some .local:=by first | exact .inl rfl | exact .inr rfl | assumption):PG X (.Name x pos) (yK i):=by
 intro pins s σ H v u Q I r h
 exact wpAny_assign_Name (tK I hN hi hx r (fun s' I'=>⟨_,H,I',h⟩) hf)
noncomputable def aaS:TGs:=fun vs σ H Q=>vs=[]∧Q σ H
noncomputable def Zv (t:TG) (u:TGs):TGs:=fun vs σ H Q=>∃v r,vs=v::r∧t v σ H fun σ' H'=>u r σ' H' Q
theorem Ug:PGs X [] aaS:=by
 intro pins s σ H vs us Q I r h
 obtain ⟨e,h⟩:=h
 subst e
 cases r
 exact assignInOrder_nil ⟨σ,H,I,h⟩
theorem Ph {e:Expr}{es:List Expr}{t:TG}{u:TGs} (h1:PG X e t) (h2:PGs X es u)
 (hs:(nX (e::es) X.env).map (·.2)=AG e X.env::(nX es X.env).map (·.2):=by rfl):PGs X (e::es) (Zv t u):=by
 intro pins s σ H vs us Q I r h
 obtain ⟨v,vr,e1,h⟩:=h
 subst e1
 cases r with
 | cons r rr=>
  rw[hs]
  refine assignInOrder_cons (thn (h1 pins s σ H _ _ _ I r h) fun _ s1 aA=>?_)
  obtain ⟨σ1,H1,I1,q1⟩:=aA
  exact h2 pins s1 σ1 H1 _ _ Q I1 rr q1
noncomputable def abk (K:ag) (n:Nat) (t:TGs):TG:=fun v σ H Q=>∃a xs,v = .ref a∧SqT K H a xs∧xs.length=n∧t xs σ H Q
theorem Ym {es:List Expr}{k:Nat}{t:TGs}{n:Nat} (hc:X.calm=true) (h:PGs X es t)
 (hn:(nX es X.env).length=n:=by rfl) (hst:(nX es X.env).findIdx? (·.1)=none:=by rfl):PG X (.Tuple es k pos) (abk X.K n t):=by
 intro pins s σ H v u Q I r hw
 obtain ⟨a,xs,e1,hq,hl,hw⟩:=hw
 subst e1
 cases r
 obtain ⟨its,rv,ht,hz⟩:=I.tuple hq
 refine assign_Tuple_tuple (I.ok.hd hc) ht (by simp[hn,← hl,rv.length]) hst fun h' hx=>?_
 have I1:Inv X pins σ H { s with heap:=h' }:=I.kept (t':=s.toks) fun b o e=>hx b o (eJ (bE e)) e
 exact h pins _ σ H xs _ Q I1 (by simpa using rv) hw
noncomputable def Ez (te:TE) (g:TG):TS:=fun D σ H=>te σ H fun x H1=>g x σ H1 D.nx
theorem YH {tg e:Expr}{te:TE}{g:TG} (he:PE X e te) (hg:PG X tg g) (hs:swapsWithSole [tg] e pos.line X.env=pure false:=by rfl) (hw:swappedStores [tg] e X.env=pure none:=by rfl)
 (h1:(nX [tg] X.env).map (·.2)=[AG tg X.env]:=by rfl):PS X (.Assign [tg] e pos) (Ez te g):=by
 intro pins s σ H D I h
 refine wpAny_Assign_stores (thn (he pins s σ H _ I h) fun v s1 aA=>?_) hs hw
 obtain ⟨x,H1,I1,r1,q1⟩:=aA
 rw[h1]
 exact thn (hg pins s1 σ H1 x v _ I1 r1 q1) fun _ s2 q=>q
theorem Ec {i:Nat}{x:Str}{e:Expr}{te:TE}{pos':Pos} (hN:X.N.Nodup) (hi:X.N[i]?=some x) (hx:Loc X.env.scope x) (he:PE X e te) (hs:j3 e (some (.Name x pos')) pos.line X.env=pure false:=by rfl) (hf:X.fn x=true∨X.env.scope.names.lookup x=some .local:=by first | exact .inl rfl | exact .inr rfl | assumption) :
 PS X (.Assign [.Name x pos'] e pos) (Ez te (yK i)):=by
 intro pins s σ H D I h
 refine x6 (thn (he pins s σ H _ I h) fun v s1 aA=>?_) hs
 obtain ⟨y,H1,I1,r1,q1⟩:=aA
 exact tK I1 hN hi hx r1 (fun s2 I2=>⟨_,H1,I2,q1⟩) hf
noncomputable def W0 (c:TT) (tb:TS):TS:=fun D σ H=>∃W:Nat→St→Hp→Prop,(∃m,W m σ H)∧∀m σ H,W m σ H →
 c σ H fun b H1=>if b=true then ∃N:St→Hp→Prop,(∀σ' H',N σ' H'→∃m',m' < m∧W m' σ' H')∧tb { D with nx:=N,ct:=N,bk:=D.nx } σ H1 else D.nx σ H1
theorem Fz {c:Expr}{body:List Stmt}{tc:TT}{tb:TS} (hp:BD (bt X.prog X.w) X.A X.env X.xe) (hc:PT X c tc) (hb:PSs X body tb):PS X (.While c body [] pos) (W0 tc tb):=by
 intro pins s σ H D I h
 obtain ⟨W,⟨m0,w0⟩,turn⟩:=h
 refine wpAny_While (codeAny_whileLoop (fun n s'=>∃σ' H',Inv X pins σ' H' s'∧W n σ' H') ?_ m0 ⟨σ,H,I,w0⟩)
 rintro n s1 ⟨σ1,H1,I1,w1⟩
 refine mT hp (thn (hc pins s1 σ1 H1 _ I1 (turn n σ1 H1 w1)) fun b s2 aA=>?_)
 obtain ⟨H2,I2,q2⟩:=aA
 cases b with
 | true=>
  obtain ⟨N,hN,q2⟩:=q2
  rw[if_pos rfl]
  refine mT hp (thn (hb pins s2 σ1 H2 _ I2 q2) fun f s3 q3=>?_)
  cases f with
  | next=>
   obtain ⟨σ3,H3,I3,n3⟩:=q3
   obtain ⟨m',hm,w3⟩:=hN σ3 H3 n3
   exact ⟨m',hm,σ3,H3,I3,w3⟩
  | cont=>
   obtain ⟨σ3,H3,I3,n3⟩:=q3
   obtain ⟨m',hm,w3⟩:=hN σ3 H3 n3
   exact ⟨m',hm,σ3,H3,I3,w3⟩
  | brk=>exact q3
  | ret v=>exact q3
 | false=>
  rw[if_neg ky]
  exact pb ⟨σ1,H2,I2,q2⟩
end
structure It where
 go:Nat→Hp→Prop
 yld:Nat→Hp→V→Hp→Prop
 stop:Nat→Hp→Prop
noncomputable def pY (X:Cx) (pins:List (Addr×Obj)) (H:Hp) (b:Addr):Prop:=
 H b=none∧b≠X.env.locals∧b∉X.fs∧(b∈X.ex∨X.s₀.heap.objs.size≤b)∧(∀x c,X.env.cells.lookup x=some c→c≠b)∧∀p∈X.pn++pins,p.1≠b
theorem Inv.xZ {X:Cx}{pins:List (Addr×Obj)}{σ:St}{H H':Hp}{s:ar}{b:Addr} (I:Inv X pins σ H s) (hb:s.heap.objs.size≤b) (hn:H' b=none):pY X pins H' b:=by
 refine ⟨hn,qE (cx I.lt hb),I.abo hb,.inr (eK I.sz hb),fun x c e z=>?_,fun p hp z=>?_⟩
 · obtain ⟨v,q⟩:=I.cell x c e
   exact absurd (cx q.lt (by rw[z];exact hb)) (hZ _)
 · exact absurd (cx (bE (I.pin p hp).1) (by rw[z];exact hb)) (hZ _)
structure Turn (P:cw) (w:eI) (K:ag) (tg:Expr) (J:It) (fp:List Addr) (it:Addr) (tn:Nat→Heap→Prop):Prop where
 mem:it∈fp
 obj:∀i h,tn i h→∀b∈fp,∃o,h.get? b=some o∧∀v,o.data ≠ .cell v
 keep:∀i h h',tn i h→(∀b∈fp,∀o,h.get? b=some o→h'.get? b=some o)→tn i h'
 item:∀(X:Cx),X.prog=P→X.w=w→X.K=K→X.calm=true→∀(i:Nat) (pins:List (Addr×Obj)) (s:ar) (σ:St) (H:Hp) (E:ai→ar→Prop),Inv X pins σ H s→(∀b∈fp,pY X pins H b)→tn i s.heap→J.go i H →
  bP (bt P w) X.A (vt (.ref it)) (fun r s1=>∃u,r=some u ∧
   bP (bt P w) X.A (vv tg (.ref it) u) (fun _ s2=>∃x H',Inv X pins σ H' s2∧RelV x u∧J.yld i H x H'∧tn (i+1) s2.heap∧∀b∈fp,H' b=none) E s1) E s
 done:∀(X:Cx),X.prog=P→X.w=w→X.K=K→X.calm=true→∀(i:Nat) (pins:List (Addr×Obj)) (s:ar) (σ:St) (H:Hp) (E:ai→ar→Prop),Inv X pins σ H s→(∀b∈fp,pY X pins H b)→tn i s.heap→J.stop i H →
  bP (bt P w) X.A (vt (.ref it)) (fun r s1=>r=none∧Inv X pins σ H s1) E s
 self:∀(A:eo) (i:Nat) (s:ar) (Q:ai→ar→Prop) (E:ai→ar→Prop),tn i s.heap→Q (.ref it) s→bP (bt P w) A (BO (.ref it)) Q E s
noncomputable abbrev TI:=St→Hp→(It→Hp→Prop)→Prop
noncomputable def PIE (X:Cx) (pins:List (Addr×Obj)) (σ:St) (tg:Expr) (R:It→Hp→Prop) (itv:ai) (s2:ar):Prop:=
 ∃(it:Addr) (fp:List Addr) (tn:Nat→Heap→Prop) (J:It) (H':Hp),itv = .ref it∧Inv X pins σ H' s2∧Turn X.prog X.w X.K tg J fp it tn∧tn 0 s2.heap∧(∀b∈fp,pY X pins H' b)∧R J H'
noncomputable def PI (X:Cx) (tg iter:Expr) (wi:TI):Prop:=
 ∀(pins:List (Addr×Obj)) (s:ar) (σ:St) (H:Hp) (R:It→Hp→Prop),Inv X pins σ H s→wi σ H R →
  bP (bt X.prog X.w) X.A (eval iter X.env) (fun v s1=>bP (bt X.prog X.w) X.A (BO v) (PIE X pins σ tg R) X.xe s1) X.xe s
theorem De {M:vw}{A:eo}{E:ai→ar→Prop}{s:ar}{tg:Expr}{it:Addr}{u:ai}{o:Obj}{n:String}{vs:Array ai}{Q:Unit→ar→Prop} (ho:s.heap.get? it=some o) (hc:o.cls = .type n) (hd:o.data = .fields vs)
 (hn:["enumerate", "zip", "dict_itemiterator", "dict_reverseitemiterator", "odict_iterator", "itertools.zip_longest", "itertools.pairwise"].contains n=false) (hQ:Q () s):bP M A (vv tg (.ref it) u) Q E s:=by
 unfold vv
 cases tg <;> first
  | exact av hQ
  | (cases u <;> first
   | exact av hQ
   | (
    refine af (wpAny_load ho ?_)
    rw[hc,hd]
    show bP M A (if (["enumerate", "zip", "dict_itemiterator", "dict_reverseitemiterator", "odict_iterator", "itertools.zip_longest", "itertools.pairwise"].contains n&&vs[0]? == some (ja _))=true then _ else _) Q E s
    rw[if_neg (by intro h;rw[hn,kK] at h;cases h)]
    exact av hQ))
noncomputable def Itl (K:ag) (a:Addr):It:=
 ⟨fun i H=>∃xs x,SqL K H a xs∧xs[i]?=some x,fun i H x H'=>H'=H∧∀xs,SqL K H a xs→xs[i]?=some x,fun i H=>∃xs,SqL K H a xs∧xs.length≤i⟩
noncomputable def Itt (K:ag) (a:Addr):It:=
 ⟨fun i H=>∃xs x,SqT K H a xs∧xs[i]?=some x,fun i H x H'=>H'=H∧∀xs,SqT K H a xs→xs[i]?=some x,fun i H=>∃xs,SqT K H a xs∧xs.length≤i⟩
noncomputable def Itr (lo:Int) (n:Nat):It:=⟨fun i _=>i < n,fun i H x H'=>H'=H∧x = .int (lo+i),fun i _=>n≤i⟩
theorem Lp {P:cw}{w:eI}{K:ag}{tg:Expr} (a it:Addr):Turn P w K tg (Itl K a) [it] it (fun i h=>h.IsListIter it a i) where
 mem:=by simp
 obj:=fun i h st b hb=>by
  have e:b=it:=by simpa using hb
  subst e
  obtain ⟨o,e,c,d⟩:=st
  exact ⟨o,e,fun v z=>by rw[d] at z;cases z⟩
 keep:=fun i h h' st k=>st.at fun o e=>k it (by simp) o e
 item:=by
  intro X hP hw hK hc i pins s σ H E I hf st hg
  subst hP hw hK
  obtain ⟨xs,x,hq,hx⟩:=hg
  obtain ⟨its,rv,p,hz⟩:=I.list hq
  obtain ⟨u,hu,ru⟩:=rv.get hx
  obtain ⟨f0,f1,f2,f3,f4,f5⟩:=hf it (by simp)
  refine wpAny_pyNext_list_item st p.isList (x:=u) (by simpa using hu) fun h' st' sb=>?_
  have I1:Inv X pins σ H { s with heap:=h' }:=I.turned (t':=s.toks) (fun b o hb e=>(sb.2 b hb).trans e) f0 f1 f3 f4 f5
  obtain ⟨o,e,c,d⟩:=id st'
  exact ⟨u,rfl,De (s:={ s with heap:=h' }) e c d (by decide) ⟨x,H,I1,ru,⟨rfl,fun ys hy=>by rw[I.Rh hy hq];exact hx⟩,st',fun b hb=>(hf b hb).1⟩⟩
 done:=by
  intro X hP hw hK hc i pins s σ H E I hf st hg
  subst hP hw hK
  obtain ⟨xs,hq,hx⟩:=hg
  obtain ⟨its,rv,p,hz⟩:=I.list hq
  obtain ⟨f0,f1,f2,f3,f4,f5⟩:=hf it (by simp)
  have hl:=rv.length
  exact wpAny_pyNext_list_end (I.ok.hd hc) st p.isList (by simp;omega) fun h' eb=>⟨rfl,I.turned (t':=s.toks) (fun b o hb e=>eb b o hb e) f0 f1 f3 f4 f5⟩
 self:=fun _ _ _ _ _ st h=>wpAny_pyIter_listiter st h
theorem Jf {P:cw}{w:eI}{K:ag}{tg:Expr} (a it:Addr):Turn P w K tg (Itt K a) [it] it (fun i h=>h.IsTupleIter it a i) where
 mem:=by simp
 obj:=fun i h st b hb=>by
  have e:b=it:=by simpa using hb
  subst e
  obtain ⟨o,e,c,d⟩:=st
  exact ⟨o,e,fun v z=>by rw[d] at z;cases z⟩
 keep:=fun i h h' st k=>st.at fun o e=>k it (by simp) o e
 item:=by
  intro X hP hw hK hc i pins s σ H E I hf st hg
  subst hP hw hK
  obtain ⟨xs,x,hq,hx⟩:=hg
  obtain ⟨its,rv,p,hz⟩:=I.tuple hq
  obtain ⟨u,hu,ru⟩:=rv.get hx
  obtain ⟨f0,f1,f2,f3,f4,f5⟩:=hf it (by simp)
  refine wpAny_pyNext_tuple_item st (show s.heap.IsTuple a its.toArray from p) (x:=u) (by simpa using hu) fun h' st' sb=>?_
  have I1:Inv X pins σ H { s with heap:=h' }:=I.turned (t':=s.toks) (fun b o hb e=>(sb.2 b hb).trans e) f0 f1 f3 f4 f5
  obtain ⟨o,e,c,d⟩:=id st'
  exact ⟨u,rfl,De (s:={ s with heap:=h' }) e c d (by decide) ⟨x,H,I1,ru,⟨rfl,fun ys hy=>by rw[I.LQ hy hq];exact hx⟩,st',fun b hb=>(hf b hb).1⟩⟩
 done:=by
  intro X hP hw hK hc i pins s σ H E I hf st hg
  subst hP hw hK
  obtain ⟨xs,hq,hx⟩:=hg
  obtain ⟨its,rv,p,hz⟩:=I.tuple hq
  obtain ⟨f0,f1,f2,f3,f4,f5⟩:=hf it (by simp)
  have hl:=rv.length
  exact wpAny_pyNext_tuple_end (I.ok.hd hc) st (show s.heap.IsTuple a its.toArray from p) (by simp;omega) fun h' eb=>⟨rfl,I.turned (t':=s.toks) (fun b o hb e=>eb b o hb e) f0 f1 f3 f4 f5⟩
 self:=fun _ _ _ _ _ st h=>wpAny_pyIter_tupleiter st h
theorem Jb {P:cw}{w:eI}{K:ag}{tg:Expr} (it:Addr) (lo:Int) (n:Nat):Turn P w K tg (Itr lo n) [it] it (fun i h=>A7 h it (lo+(i:Nat)*1) ((n:Int) - (i:Nat)) 1) where
 mem:=by simp
 obj:=fun i h st b hb=>by
  have e:b=it:=by simpa using hb
  subst e
  exact ⟨_,st,fun v z=>by
   have z':Data.fields _=Data.cell v:=z
   cases z'⟩
 keep:=fun i h h' st k=>k it (by simp) _ st
 item:=by
  intro X hP hw hK hc i pins s σ H E I hf st hg
  subst hP hw hK
  obtain ⟨f0,f1,f2,f3,f4,f5⟩:=hf it (by simp)
  have W:=Walks.range (prog:=X.prog) (w:=X.w) (I.ok.hd hc) it lo 1 n
  refine W.item i s _ _ hg st fun v h' tk hv st' kk=>?_
  obtain ⟨t,rfl⟩:=hv
  have I1:Inv X pins σ H { s with heap:=h',toks:=tk }:=I.turned (fun b o hb e=>kk b o (by simpa using hb) e) f0 f1 f3 f4 f5
  refine ⟨_,rfl,De (s:={ s with heap:=h',toks:=tk }) (n := "range_iterator") st' rfl rfl (by decide) ⟨.int (lo+i),H,I1,⟨t,?_⟩,⟨rfl,rfl⟩,st',fun b hb=>(hf b hb).1⟩⟩
  rw[Int.mul_one]
 done:=by
  intro X hP hw hK hc i pins s σ H E I hf st hg
  subst hP hw hK
  obtain ⟨f0,f1,f2,f3,f4,f5⟩:=hf it (by simp)
  exact wpAny_pyNext_range_end (I.ok.hd hc) st (by have:n≤i:=hg;omega) fun h' eb=>⟨rfl,I.turned (t':=s.toks) (fun b o hb e=>eb b o hb e) f0 f1 f3 f4 f5⟩
 self:=fun _ _ _ _ _ st h=>wpAny_pyIter_rangeiter st h
section
variable {X:Cx}{tg:Expr}
theorem Gf {pins:List (Addr×Obj)}{σ:St}{H:Hp}{s:ar}{R:It→Hp→Prop}{E:ai→ar→Prop}{lo hi:Int}{t u v:Tok}{tk:Nat} (I:Inv X pins σ H s) (h1 : -(2^62)≤lo) (h2:lo < 2^62) (h3 : -(2^62)≤hi) (h4:hi < 2^62)
 (q:R (Itr lo (hi - lo).toNat) H):bP (bt X.prog X.w) X.A (BO (.ref s.heap.objs.size)) (PIE X pins σ tg R) E { s with heap:=s.heap.push { cls:=.type "range",data:=.fields #[.int lo t,.int hi u,.int 1 v] },toks:=tk }:=by
 refine wpAny_pyIter_range (IsRange.new ..) (small_one h1 h2 h3 h4) ?_
 have I1:Inv X pins σ H { s with heap:=s.heap.push { cls:=.type "range",data:=.fields #[.int lo t,.int hi u,.int 1 v] },toks:=tk }:=I.kept fun b o e=>aI _ e
 refine ⟨(s.heap.push { cls:=.type "range",data:=.fields #[.int lo t,.int hi u,.int 1 v] }).objs.size,[(s.heap.push { cls:=.type "range",data:=.fields #[.int lo t,.int hi u,.int 1 v] }).objs.size],_,_,H,rfl,
  I1.kept (t':=tk) fun b o e=>aI _ e,Jb _ lo (hi - lo).toNat,?_,fun b hb=>?_,q⟩
 · have e1:lo+((0:Nat):Int)*1=lo:=by simp
   have e2:(((hi - lo).toNat:Nat):Int) - ((0:Nat):Int)=dt lo hi 1:=by rw[rangeSize_one];split <;> omega
   show A7 _ _ (lo+((0:Nat):Int)*1) ((((hi - lo).toNat:Nat):Int) - ((0:Nat):Int)) 1
   rw[e1,e2]
   exact df _ rfl
 · have e:b=(s.heap.push { cls:=.type "range",data:=.fields #[.int lo t,.int hi u,.int 1 v] }).objs.size:=by simpa using hb
   subst e
   exact I1.xZ (aE _) (I1.hok.fresh (aE _))
noncomputable def Ze (ta:TA):TI:=fun σ H R=>ta σ H fun vs H1=>∃j:Int,vs=[.int j] ∧ -(2^62)≤j∧j < 2^62∧R (Itr 0 j.toNat) H1
noncomputable def ZZ (ta:TA):TI:=fun σ H R=>ta σ H fun vs H1=>∃i j:Int,vs=[.int i,.int j]∧(-(2^62)≤i∧i < 2^62 ∧ -(2^62)≤j∧j < 2^62)∧R (Itr i (j - i).toNat) H1
theorem Ak {a:Expr}{ta:TA}{p pos:Pos} (hg:Gl X "range") (hm:X.mg "range" = none) (ha:PA X [a] ta) (hs:d4 [a] X.env=[(false,eval a X.env)]:=by rfl):PI X tg (.Call (.Name "range" p) [a] [] pos) (Ze ta):=by
 intro pins s σ H R I h
 refine Call_ (nA I hg hm boot_range (i9 (thn (ha pos pins s σ H _ I h) fun us s1 aA=>?_) hs rfl))
 obtain ⟨vs,H1,I1,r1,q1⟩:=aA
 obtain ⟨j,e,q1,q2,q⟩:=q1
 subst e
 cases r1 with
 | cons r rr=>
  cases rr
  obtain ⟨t,rfl⟩:=r
  exact call_range_1 (Gf I1 (by omega) (by omega) q1 q2 (by simpa using q))
theorem Lr {a b:Expr}{ta:TA}{p pos:Pos} (hg:Gl X "range") (hm:X.mg "range" = none) (ha:PA X [a,b] ta) (hs:d4 [a,b] X.env=[(false,eval a X.env),(false,eval b X.env)]:=by rfl) (hs2:d4 [b] X.env=[(false,eval b X.env)]:=by rfl) :
 PI X tg (.Call (.Name "range" p) [a,b] [] pos) (ZZ ta):=by
 intro pins s σ H R I h
 refine Call_ (nA I hg hm boot_range (i9 (thn (ha pos pins s σ H _ I h) fun us s1 aA=>?_) (by rw[hs,hs2]) (by rw[hs2];rfl)))
 obtain ⟨vs,H1,I1,r1,q1⟩:=aA
 obtain ⟨i,j,e,⟨q1,q2,q3,q4⟩,q⟩:=q1
 subst e
 cases r1 with
 | cons r rr=>
  cases rr with
  | cons r' rr=>
   cases rr
   obtain ⟨t,rfl⟩:=r
   obtain ⟨t',rfl⟩:=r'
   exact call_range_2 (Gf I1 q1 q2 q3 q4 q)
noncomputable def abU (wi:TI) (g:TG) (tb:TS):TS:=fun D σ H=>wi σ H fun J H1=>∃W:Nat→Nat→St→Hp→Prop,(∃m,W 0 m σ H1)∧∀i m σ H,W i m σ H →
 (J.stop i H∧D.nx σ H)∨(J.go i H∧∃N:St→Hp→Prop,(∀σ' H',N σ' H'→∃m',m' < m∧W (i+1) m' σ' H')∧∀x H',J.yld i H x H'→g x σ H' fun σ2 H2=>tb { D with nx:=N,ct:=N,bk:=D.nx } σ2 H2)
noncomputable def rF (fp:List Addr) (h:Heap):List (Addr×Obj):=fp.filterMap fun b=>(h.get? b).map fun o=>(b,o)
theorem lz {fp:List Addr}{h:Heap}{b:Addr}{o:Obj} (hb:b∈fp) (e:h.get? b=some o):(b,o)∈rF fp h:=fx.mpr ⟨b,hb,by rw[e];rfl⟩
theorem Nh {fp:List Addr}{h:Heap}{p:Addr×Obj} (hp:p∈rF fp h):p.1∈fp∧h.get? p.1=some p.2:=by
 obtain ⟨b,hb,e⟩:=fx.mp hp
 cases q:h.get? b with
 | none=>rw[q] at e;cases e
 | some o=>
  rw[q] at e
  have e':(b,o)=p:=Option.some.inj e
  subst e'
  exact ⟨hb,q⟩
theorem Inv.pinned {pins:List (Addr×Obj)}{σ:St}{H:Hp}{s:ar}{fp:List Addr} (I:Inv X pins σ H s) (hf:∀b∈fp,pY X pins H b) (ho:∀b∈fp,∃o,s.heap.get? b=some o∧∀v,o.data ≠ .cell v):Inv X (pins++rF fp s.heap) σ H s:=
 I.Ip fun p hp=>(fy.mp hp).elim (fun z=>I.pin p (cK _ z)) fun z=>by
  obtain ⟨hb,e⟩:=Nh z
  obtain ⟨f0,f1,f2,_⟩:=hf p.1 hb
  obtain ⟨o,e',d⟩:=ho p.1 hb
  rw[e] at e';cases e'
  exact ⟨e,f0,f1,f2,d⟩
theorem Inv.o9 {pins pl:List (Addr×Obj)}{σ:St}{H:Hp}{s:ar} (I:Inv X (pins++pl) σ H s):Inv X pins σ H s:=I.Ip fun p hp=>I.pin p (cK _ (fA _ hp))
theorem Xn {iter:Expr}{body:List Stmt}{wi:TI}{g:TG}{tb:TS}{pos:Pos} (hp:BD (bt X.prog X.w) X.A X.env X.xe) (hc:X.calm=true) (hi:PI X tg iter wi) (hg:PG X tg g) (hb:PSs X body tb)
 (hs:∀x,nr iter X.env x=pure x:=by intro _;rfl):PS X (.For tg iter body [] pos) (abU wi g tb):=by
 intro pins s σ H D I h
 refine wpAny_For (thn (hi pins s σ H _ I h) fun v s1 h1=>thn h1 fun itv s2 h2=>?_) hs
 obtain ⟨it,fp,tn,J,H2,e,I2,T,st2,f2,W,⟨m0,w0⟩,turn⟩:=h2
 subst e
 have stat:∀{H':Hp},(∀b∈fp,H' b=none)→∀b∈fp,pY X pins H' b:=fun hn b hb=>⟨hn b hb,(f2 b hb).2⟩
 refine codeAny_forLoop_any (fun n s'=>∃i σ' H',Inv X pins σ' H' s'∧tn i s'.heap∧(∀b∈fp,H' b=none)∧W i n σ' H') ?_ m0 ⟨0,σ,H2,I2,st2,fun b hb=>(f2 b hb).1,w0⟩
 rintro n s3 ⟨i,σ3,H3,I3,st3,fr3,w3⟩
 rcases turn i n σ3 H3 w3 with ⟨stop,qn⟩ | ⟨go,N,hN,step⟩
 · refine mT hp (thn (T.done X rfl rfl rfl hc i pins s3 σ3 H3 X.xe I3 (stat fr3) st3 stop) fun r s4 aA=>?_)
   obtain ⟨hr,I4⟩:=aA
   subst hr
   exact pb ⟨σ3,H3,I4,qn⟩
 · refine mT hp (thn (T.item X rfl rfl rfl hc i pins s3 σ3 H3 X.xe I3 (stat fr3) st3 go) fun r s4 aA=>?_)
   obtain ⟨u,hr,h4⟩:=aA
   subst hr
   refine mT hp (thn h4 fun _ s5 aA=>?_)
   obtain ⟨x,H5,I5,r5,y5,st5,fr5⟩:=aA
   have I5':=I5.pinned (stat fr5) (T.obj _ _ st5)
   refine mT hp (thn (hg _ s5 σ3 H5 x u _ I5' r5 (step x H5 y5)) fun _ s6 aA=>?_)
   obtain ⟨σ6,H6,I6,q6⟩:=aA
   refine mT hp (thn (hb _ s6 σ6 H6 _ I6 q6) fun f s7 q7=>?_)
   have again:∀{σ7:St}{H7:Hp},Inv X (pins++rF fp s5.heap) σ7 H7 s7→N σ7 H7→∃m,m < n∧∃i σ' H',Inv X pins σ' H' s7∧tn i s7.heap∧(∀b∈fp,H' b=none)∧W i m σ' H':=fun {σ7 H7} I7 n7=>by
    obtain ⟨m',hm,w7⟩:=hN σ7 H7 n7
    refine ⟨m',hm,i+1,σ7,H7,I7.o9,T.keep _ _ _ st5 fun b hb o e=>(I7.pin (b,o) (cK _ (cK _ (lz hb e)))).1,fun b hb=>?_,w7⟩
    obtain ⟨o,e,d⟩:=T.obj _ _ st5 b hb
    exact (I7.pin (b,o) (cK _ (cK _ (lz hb e)))).2.1
   cases f with
   | next=>obtain ⟨σ7,H7,I7,n7⟩:=q7;exact again I7 n7
   | cont=>obtain ⟨σ7,H7,I7,n7⟩:=q7;exact again I7 n7
   | brk=>obtain ⟨σ7,H7,I7,q7⟩:=q7;exact ⟨σ7,H7,I7.o9,q7⟩
   | ret v=>obtain ⟨x7,σ7,H7,I7,r7,q7⟩:=q7;exact ⟨x7,σ7,H7,I7.o9,r7,q7⟩
end
noncomputable abbrev R2:=V→V→Hp→VK→Prop
noncomputable def OpR (X:Cx) (f:ai→ai→Sem ai) (r:R2):Prop:=
 ∀(pins:List (Addr×Obj)) (s:ar) (σ:St) (H:Hp) (x y:V) (v u:ai) (Q:VK),Inv X pins σ H s→RelV x v→RelV y u→r x y H Q →
  bP (bt X.prog X.w) X.A (f v u) (EP X pins σ Q) X.xe s
noncomputable def UnR (X:Cx) (f:ai→Sem ai) (r:V→Hp→VK→Prop):Prop:=
 ∀(pins:List (Addr×Obj)) (s:ar) (σ:St) (H:Hp) (x:V) (v:ai) (Q:VK),Inv X pins σ H s→RelV x v→r x H Q →
  bP (bt X.prog X.w) X.A (f v) (EP X pins σ Q) X.xe s
noncomputable def fK (X:Cx) (f:ai) (r:List V→Hp→VK→Prop):Prop:=
 ∀(pins:List (Addr×Obj)) (s:ar) (σ:St) (H:Hp) (xs:List V) (us:List ai) (Q:VK),Inv X pins σ H s→Vals xs us→r xs H Q →
  bP (bt X.prog X.w) X.A (call f us) (EP X pins σ Q) X.xe s
noncomputable def aa2 (X:Cx) (r:V→Hp→(Bool→Hp→Prop)→Prop):Prop:=
 ∀(pins:List (Addr×Obj)) (s:ar) (σ:St) (H:Hp) (x:V) (v:ai) (Q:Bool→Hp→Prop),Inv X pins σ H s→RelV x v→r x H Q →
  bP (bt X.prog X.w) X.A (truthy v) (TP X pins σ Q) X.xe s
noncomputable def tOp (r:R2) (ta tb:TE):TE:=fun σ H Q=>ta σ H fun x H1=>tb σ H1 fun y H2=>r x y H2 Q
noncomputable def tUn (r:V→Hp→VK→Prop) (ta:TE):TE:=fun σ H Q=>ta σ H fun x H1=>r x H1 Q
noncomputable def rI (C:Int→Int→Prop) (g:Int→Int→V):R2:=fun x y H Q=>∃i j,x = .int i∧y = .int j∧C i j∧Q (g i j) H
noncomputable def rI0 (g:Int→Int→V):R2:=fun x y H Q=>∃i j,x = .int i∧y = .int j∧Q (g i j) H
noncomputable def rU (g:Int→V):V→Hp→VK→Prop:=fun x H Q=>∃i,x = .int i∧Q (g i) H
section
variable {X:Cx}{a b c:Expr}{ta tb tc:TE}{pos:Pos}
theorem Ss (ha:PE X a ta) (hb:PE X b tb) {pins:List (Addr×Obj)}{s:ar}{σ:St}{H:Hp}{R:V→V→Hp→Prop} (I:Inv X pins σ H s)
 (h:ta σ H fun x H1=>tb σ H1 fun y H2=>R x y H2) {Q:ai→ar→Prop}{f:ai→ai→Sem ai}
 (hf:∀v u s2 x y H2,Inv X pins σ H2 s2→RelV x v→RelV y u→R x y H2→bP (bt X.prog X.w) X.A (f v u) Q X.xe s2) :
 bP (bt X.prog X.w) X.A (eval a X.env) (fun v s₁=>bP (bt X.prog X.w) X.A (eval b X.env) (fun u s₂=>bP (bt X.prog X.w) X.A (f v u) Q X.xe s₂) X.xe s₁) X.xe s:=by
 refine thn (ha pins s σ H _ I h) fun v s1 aA=>?_
 obtain ⟨x,H1,I1,r1,q1⟩:=aA
 refine thn (hb pins s1 σ H1 _ I1 q1) fun u s2 aA=>?_
 obtain ⟨y,H2,I2,r2,q2⟩:=aA
 exact hf v u s2 x y H2 I2 r1 r2 q2
theorem IW {op:Operator}{r:R2} (ho:OpR X (g6 op) r) (ha:PE X a ta) (hb:PE X b tb):PE X (.BinOp a op b pos) (tOp r ta tb):=by
 intro pins s σ H Q I h
 exact wpAny_BinOp (Ss ha hb I h fun v u s2 x y H2 I2 rx ry q=>ho pins s2 σ H2 x y v u Q I2 rx ry q)
theorem ZL {op:UnaryOp}{r:V→Hp→VK→Prop} (ho:UnR X (unaryOp op) r) (ha:PE X a ta):PE X (.UnaryOp op a pos) (tUn r ta):=by
 intro pins s σ H Q I h
 exact UnaryOp_ (thn (ha pins s σ H _ I h) fun v s1 ⟨x,H1,I1,r1,q1⟩=>ho pins s1 σ H1 x v Q I1 r1 q1)
theorem opI {f:ai→ai→Sem ai}{C:Int→Int→Prop}{g:Int→Int→Int}
 (rule:∀(i j:Int) (t u:Tok) (s:ar) (Q:ai→ar→Prop) (E:ai→ar→Prop),C i j→Q (.int (g i j) s.toks) { s with toks:=s.toks+1 }→bP (bt X.prog X.w) X.A (f (.int i t) (.int j u)) Q E s) :
 OpR X f (rI C fun i j=>.int (g i j)):=by
 intro pins s σ H x y v u Q I rx ry h
 obtain ⟨i,j,rfl,rfl,hc,q⟩:=h
 obtain ⟨t,rfl⟩:=rx
 obtain ⟨t',rfl⟩:=ry
 exact rule i j t t' s _ _ hc ⟨.int (g i j),H,I.tok _,⟨_,rfl⟩,q⟩
theorem JL {f:ai→ai→Sem ai}{g:Int→Int→Int}
 (rule:∀(i j:Int) (t u:Tok) (s:ar) (Q:ai→ar→Prop) (E:ai→ar→Prop),Q (.int (g i j) s.toks) { s with toks:=s.toks+1 }→bP (bt X.prog X.w) X.A (f (.int i t) (.int j u)) Q E s) :
 OpR X f (rI0 fun i j=>.int (g i j)):=by
 intro pins s σ H x y v u Q I rx ry h
 obtain ⟨i,j,rfl,rfl,q⟩:=h
 obtain ⟨t,rfl⟩:=rx
 obtain ⟨t',rfl⟩:=ry
 exact rule i j t t' s _ _ ⟨.int (g i j),H,I.tok _,⟨_,rfl⟩,q⟩
theorem Qc {f:ai→ai→Sem ai}{g:Int→Int→Bool}
 (rule:∀(i j:Int) (t u:Tok) (s:ar) (Q:ai→ar→Prop) (E:ai→ar→Prop),Q (.bool (g i j)) s→bP (bt X.prog X.w) X.A (f (.int i t) (.int j u)) Q E s) :
 OpR X f (rI0 fun i j=>.bl (g i j)):=by
 intro pins s σ H x y v u Q I rx ry h
 obtain ⟨i,j,rfl,rfl,q⟩:=h
 obtain ⟨t,rfl⟩:=rx
 obtain ⟨t',rfl⟩:=ry
 exact rule i j t t' s _ _ ⟨.bl (g i j),H,I,rfl,q⟩
noncomputable def z8 (i j:Int):Prop:=0 < j∧j < 1073741824
noncomputable def pW (i j:Int):Prop:=0≤j∧j≤1000000∧i.natAbs < 2^64
noncomputable def qL (i j:Int):Prop:=(-(2^64) < i∧i < 2^64)∨(-(2^64) < j∧j < 2^64)
theorem qL.ok {i j:Int} (h:qL i j):IntMulOk i j:=by
 rcases h with ⟨h1,h2⟩ | ⟨h1,h2⟩
 · exact .of_left (intBits_le_64 h1 h2)
 · exact .of_right (intBits_le_64 h1 h2)
theorem two_pow_nn (k:Nat):(0:Int)≤2^k:=by
 rw[two_pow_cast]
 exact Int.natCast_nonneg _
theorem Xw:OpR X (g6 .Add) (rI0 fun i j=>.int (i+j)):=JL fun _ _ _ _ _ _ _ q=>add_int q
theorem YL:OpR X (g6 .Sub) (rI0 fun i j=>.int (i - j)):=JL fun _ _ _ _ _ _ _ q=>sub_int q
theorem Yi:OpR X (g6 .Mult) (rI qL fun i j=>.int (i*j)):=opI fun _ _ _ _ _ _ _ hc q=>mul_int q hc.ok
theorem Um:OpR X (g6 .FloorDiv) (rI z8 fun i j=>.int (i / j)):=opI fun i j _ _ _ _ _ hc q=>by
 have h1:(0:Int) < j:=hc.1
 have h2:j < 1073741824:=hc.2
 exact floordiv_int (by omega) (by rw[wc i (by omega)];exact q) (.inl (AH (by omega)))
theorem Yl:OpR X (g6 .Mod) (rI (fun _ j=>0 < j) fun i j=>.int (i % j)):=opI fun i j _ _ _ _ _ hc q=>by
 have h1:(0:Int) < j:=hc
 exact mod_int' (by omega) (by rw[Int.fmod_eq_emod_of_nonneg i (by omega)];exact q)
theorem Oz:OpR X (g6 .LShift) (rI pW fun i j=>.int (i*2^j.toNat)):=opI fun _ _ _ _ _ _ _ hc q=>lshift_int_small hc.1 hc.2.1 hc.2.2 q
theorem Yo:OpR X (g6 .RShift) (rI (fun _ j=>0≤j) fun i j=>.int (i / 2^j.toNat)):=opI fun i j _ _ _ _ _ hc q=>
 rshift_int hc (by rw[wc i (two_pow_nn _)];exact q)
theorem Xj:OpR X (g6 .BitAnd) (rI0 fun i j=>.int (iA i j)):=JL fun _ _ _ _ _ _ _ q=>and_int q
theorem ZD:OpR X (g6 .BitOr) (rI0 fun i j=>.int (iP i j)):=JL fun _ _ _ _ _ _ _ q=>or_int q
theorem unI {f:ai→Sem ai}{g:Int→Int}
 (rule:∀(i:Int) (t:Tok) (s:ar) (Q:ai→ar→Prop) (E:ai→ar→Prop),Q (.int (g i) s.toks) { s with toks:=s.toks+1 }→bP (bt X.prog X.w) X.A (f (.int i t)) Q E s) :
 UnR X f (rU fun i=>.int (g i)):=by
 intro pins s σ H x v Q I rx h
 obtain ⟨i,rfl,q⟩:=h
 obtain ⟨t,rfl⟩:=rx
 exact rule i t s _ _ ⟨.int (g i),H,I.tok _,⟨_,rfl⟩,q⟩
theorem Wb:UnR X (unaryOp .Invert) (rU fun i=>.int (g7 i)):=unI fun _ _ _ _ _ q=>invert_int q
theorem Lx:OpR X (g6 .Add) (fun x y H Q=>∃i k,x = .int i∧y = .bl k∧Q (.int (i+b2i k)) H):=by
 intro pins s σ H x y v u Q I rx ry h
 obtain ⟨i,k,rfl,rfl,q⟩:=h
 obtain ⟨t,rfl⟩:=rx
 cases ry
 exact add_int_bool ⟨.int (i+b2i k),H,I.tok _,⟨_,rfl⟩,q⟩
theorem YJ {pins:List (Addr×Obj)}{σ:St}{H:Hp}{s:ar}{Q:VK}{k k':Bool} (I:Inv X pins σ H s) (q:Q (.bl k) H) (e:k=k'):EP X pins σ Q (.bool k') s:=by
 subst e
 exact ⟨.bl k,H,I,rfl,q⟩
theorem Zh:OpR X (h9 .Lt) (rI0 fun i j=>.bl (decide (i < j))):=Qc fun _ _ _ _ _ _ _ q=>lt_int q
theorem ZG:OpR X (h9 .LtE) (rI0 fun i j=>.bl (decide (i≤j))):=Qc fun _ _ _ _ _ _ _ q=>le_int q
theorem Za:OpR X (h9 .Gt) (rI0 fun i j=>.bl (decide (j < i))):=Qc fun _ _ _ _ _ _ _ q=>gt_int q
theorem Ou:OpR X (h9 .Is) (fun x y H Q=>y = .non∧Q (.bl (decide (x = .non))) H):=by
 intro pins s σ H x y v u Q I rx ry h
 obtain ⟨rfl,q⟩:=h
 cases ry
 refine is_none_gen (YJ I q ?_)
 cases x <;> first
  | (cases rx;rfl)
  | (obtain ⟨t,rfl⟩:=rx;rfl)
theorem aZ (b:Expr) {op:CmpOp} (h:op ≠ .In:=by decide) (h2:op ≠ .NotIn:=by decide):kG op b=false:=by
 have e1:(op == CmpOp.In)=false:=by cases op <;> first | rfl | exact absurd rfl h
 have e2:(op == CmpOp.NotIn)=false:=by cases op <;> first | rfl | exact absurd rfl h2
 cases b <;> simp[kG,e1,e2]
theorem Vg {op:CmpOp}{r:R2} (ho:OpR X (h9 op) r) (ha:PE X a ta) (hb:PE X b tb) (hm:kG op b=false):PE X (.Compare a [op] [b] pos) (tOp r ta tb):=by
 intro pins s σ H Q I h
 exact wpAny_Compare1 (Ss ha hb I h fun v u s2 x y H2 I2 rx ry q=>ho pins s2 σ H2 x y v u Q I2 rx ry q) hm
noncomputable def Tf (t:TE):TT:=fun σ H Q=>t σ H fun x H'=>∃k,x = .bl k∧Q k H'
theorem Ht {op:CmpOp}{r:R2} (ho:OpR X (h9 op) r) (ha:PE X a ta) (hb:PE X b tb) (hm:kG op b=false):PT X (.Compare a [op] [b] pos) (Tf (tOp r ta tb)):=by
 intro pins s σ H Q I h
 refine wpAny_isTrue_Compare1 (thn (ha pins s σ H _ I h) fun v s1 ⟨x,H1,I1,r1,q1⟩=>thn (hb pins s1 σ H1 _ I1 q1) fun u s2 ⟨y,H2,I2,r2,q2⟩=>
  thn (ho pins s2 σ H2 x y v u _ I2 r1 r2 q2) fun c s3 ⟨z,H3,I3,r3,k,e,q3⟩=>?_) hm
 subst e
 cases r3
 exact x5 ⟨H3,I3,q3⟩
noncomputable def XJ (K:ag) (x:V) (H:Hp) (k:Bool):Prop:=
 match x with
 | .non=>k=false
 | .bl b=>k=b
 | .int i=>k=(i != 0)
 | .str y=>y.length≤bp∧k=((y.length:Int) != 0)
 | .byt y=>y.size≤bp∧k=((y.size:Int) != 0)
 | .ref p=>(∃xs,SqL K H p xs∧k = !xs.isEmpty)∨(∃xs,SqT K H p xs∧k = !xs.isEmpty)∨∃kvs,H p=some (.dK kvs)∧k = !kvs.isEmpty
 | _=>False
theorem JN {κ:Type}{kvs:List (κ×V)}{vs:List (κ×ai)} (r:KV kvs vs):(!vs.isEmpty) = !kvs.isEmpty:=by
 cases r <;> rfl
theorem yx {xs:List V}{its:List ai} (r:Vals xs its):(!its.toArray.isEmpty) = !xs.isEmpty:=by
 cases r <;> simp
theorem uM:(bp:Nat) < 2^63:=by rw[sizeLine_eq];decide
theorem XH:aa2 X (fun x H Q=>∃k,XJ X.K x H k∧Q k H):=by
 intro pins s σ H x v Q I rx h
 obtain ⟨k,e,q⟩:=h
 have hl:=uM
 have hs:bp=16777216:=sizeLine_eq
 cases x with
 | non=>
  cases rx
  have e':k=false:=e
  subst e'
  exact truthy_none ⟨H,I,q⟩
 | bl b=>
  cases rx
  have e':k=b:=e
  subst e'
  exact x5 ⟨H,I,q⟩
 | int i=>
  obtain ⟨t,rfl⟩:=rx
  have e':k=(i != 0):=e
  subst e'
  exact PySem.P.truthy_int ⟨H,I,q⟩
 | str y=>
  obtain ⟨t,rfl⟩:=rx
  obtain ⟨hy,e'⟩:y.length≤bp∧k=((y.length:Int) != 0):=e
  subst e'
  exact PySem.P.truthy_str (by omega) ⟨H,I.tok _,q⟩
 | byt y=>
  obtain ⟨t,rfl⟩:=rx
  obtain ⟨hy,e'⟩:y.size≤bp∧k=((y.size:Int) != 0):=e
  subst e'
  exact PySem.W.truthy_bytes (by omega) ⟨H,I.tok _,q⟩
 | ref p=>
  cases rx
  have e':(∃xs,SqL X.K H p xs∧k = !xs.isEmpty)∨(∃xs,SqT X.K H p xs∧k = !xs.isEmpty)∨∃kvs,H p=some (.dK kvs)∧k = !kvs.isEmpty:=e
  rcases e' with ⟨xs,hx,e'⟩ | ⟨xs,hx,e'⟩ | ⟨kvs,hx,e'⟩
  · subst e'
    obtain ⟨its,r,pl,hz⟩:=I.list hx
    have hlen:=r.length
    exact wpAny_truthy_list pl.isList (by simp only[ck];omega) ⟨H,I.tok _,by rw[yx r];exact q⟩
  · subst e'
    obtain ⟨its,r,pl,hz⟩:=I.tuple hx
    have hlen:=r.length
    exact truthy_tuple pl (by simp only[ck];omega) ⟨H,I.tok _,by rw[yx r];exact q⟩
  · subst e'
    obtain ⟨hz,hS,vs,r,m⟩:kvs.length≤bp∧(p == nV)=false∧∃vs,KV kvs vs∧s.heap.DictOf (dW X.prog X.w) p vs:=I.hok p _ hx
    have hlen:kvs.length=vs.length:=sL.length r
    exact wpAny_truthy_dict hS m (by omega) ⟨H,I.tok _,by rw[JN r];exact q⟩
 | _=>exact (show False from e).elim
theorem Sx (ha:PE X a ta) (he:∀whole,isTrue a X.env whole=(do let v ← whole;standAt a.pos;holding [v] (truthy v))) :
 PT X a (fun σ H Q=>ta σ H fun x H'=>∃k,XJ X.K x H' k∧Q k H'):=by
 intro pins s σ H Q I h
 exact isTrue_plain (thn (ha pins s σ H _ I h) fun v s1 ⟨x,H1,I1,r1,q1⟩=>XH pins s1 σ H1 x v Q I1 r1 q1) (he _)
theorem Kh:OpR X (g6 .Add) (fun x y H Q=>∃i j,x = .str i∧y = .str j∧i.length+j.length≤bp∧Q (.str (i++j)) H):=by
 intro pins s σ H x y v u Q I rx ry h
 obtain ⟨i,j,rfl,rfl,hz,q⟩:=h
 obtain ⟨t,rfl⟩:=rx
 obtain ⟨t',rfl⟩:=ry
 exact add_str (fun t' tk=>⟨.str (i++j),H,I.tok _,⟨_,rfl⟩,q⟩) hz
theorem vals1 {x:V}{us:List ai} (r:Vals [x] us):∃u,us=[u]∧RelV x u:=by
 cases r with
 | cons r1 r2=>cases r2;exact ⟨_,rfl,r1⟩
theorem vals2 {x y:V}{us:List ai} (r:Vals [x,y] us):∃u w',us=[u,w']∧RelV x u∧RelV y w':=by
 cases r with
 | cons r1 r2=>
  cases r2 with
  | cons r3 r4=>cases r4;exact ⟨_,_,rfl,r1,r3⟩
theorem Od (hc:X.calm=true):fK X (.builtin "min") (fun xs H Q=>∃i j,xs=[.int i,.int j]∧Q (.int (if j < i then j else i)) H):=by
 intro pins s σ H xs us Q I r h
 obtain ⟨i,j,rfl,q⟩:=h
 obtain ⟨u,w',rfl,⟨t,rfl⟩,⟨t',rfl⟩⟩:=vals2 r
 refine min_two_ints (I.ok.hd hc) fun h' tk k=>⟨_,H,I.kept k,?_,q⟩
 by_cases hj:j < i
 · rw[if_pos hj,if_pos hj];exact ⟨_,rfl⟩
 · rw[if_neg hj,if_neg hj];exact ⟨_,rfl⟩
end
section
variable {prog:cw}{w:eI}{A:eo}{E:ai→ar→Prop}{s:ar}{K:ag}{x dx C f:Addr}{mA:Str→Option ai}{name:Str}{v:ai}
end
section
variable {P:cw}{w:eI}{H H':Hp}{h h':Heap}{a C dx:Addr}{fs fs':List (Str×V)}
end
section
variable {X:Cx}{pins:List (Addr×Obj)}{σ:St}{H:Hp}{s:ar}{a C dx:Addr}{fs:List (Str×V)}{f:Str}{v:V}{A:eo}{E:ai→ar→Prop}
end
section
variable {X:Cx}{o e value:Expr}{f:Str}{pos pos' tpos:Pos}{ta tv:TE}
end
section
variable {X:Cx}{pins:List (Addr×Obj)}{σ:St}{H:Hp}{s:ar}{A:eo}{E:ai→ar→Prop}{Q:ai→ar→Prop}{c:ai}{b:Bool}
end
structure dg (k:Nat) (A:eo):Prop where
 hd:A.handled=none
 dp:A.depth+3*k+5 < recursionLimit
 un:A.units+16*k+200 < vx
theorem dg.mono {j k:Nat}{A:eo} (r:dg k A) (h:j≤k):dg j A:=⟨r.hd,by have:=r.dp;omega,by have:=r.un;omega⟩
theorem dg.deeper {k:Nat}{A:eo} (r:dg (k+1) A) (env:Env):dg k (A.deeper env):=
 ⟨r.hd,by have:=r.dp;show A.depth+1+3*k+5 < _;omega,by have:=r.un;show A.units+3+16*k+200 < _;omega⟩
theorem dg.depth {k:Nat}{A:eo} (r:dg k A):A.depth < recursionLimit:=by have:=r.dp;omega
theorem dg.units {k:Nat}{A:eo} (r:dg k A):A.units+64 < vx:=by have:=r.un;omega
noncomputable def abA:TA:=fun _ H Q=>Q [] H
noncomputable def Zy (ta:TE) (tr:TA):TA:=fun σ H Q=>ta σ H fun x H1=>tr σ H1 fun xs H2=>Q (x::xs) H2
section
variable {X:Cx}{e:Expr}{es:List Expr}{te:TE}{t:TA}{pos:Pos}
theorem fX:PA X [] abA:=fun _ _ _ _ H Q I h=>Calls.spliced_nil ⟨[],H,I,.nil,h⟩
theorem cV (ha:PE X e te) (hr:PA X es t) (hs:d4 (e::es) X.env=(false,eval e X.env)::d4 es X.env:=by rfl):PA X (e::es) (Zy te t):=by
 intro pos pins s σ H Q I h
 rw[hs]
 show bP _ _ (spliced ((false,eval e X.env)::oC pos (d4 es X.env))) _ _ s
 refine we (thn (ha pins s σ H _ I h) fun u s1 aA=>?_)
 obtain ⟨x,H1,I1,r1,q1⟩:=aA
 exact thn (hr pos pins s1 σ H1 _ I1 q1) fun us s2 ⟨xs,H2,I2,r2,q2⟩=>⟨x::xs,H2,I2,.cons r1 r2,q2⟩
noncomputable def aa4 (t:TA):TE:=fun σ H Q=>t σ H fun xs H1=>xs.length≤bp∧∀p,H1 p=none→Q (.ref p) (upd H1 p (.tup xs))
noncomputable def acp (t:TA):TE:=fun σ H Q=>t σ H fun xs H1=>xs.length≤bp∧∀p,H1 p=none→Q (.ref p) (upd H1 p (.lst xs))
theorem Xf {x1} (h:PA X es t):PE X (.Tuple es x1 pos) (aa4 t):=by
 intro pins s σ H Q I hq
 refine wpAny_Tuple_spliced (thn (h pos pins s σ H _ I hq) fun us s1 ⟨xs,H1,I1,r,z,q⟩=>⟨by rw[← r.length];exact z,?_⟩)
 have hf:H1 s1.heap.objs.size=none:=I1.hok.fresh (aE _)
 refine ⟨.ref s1.heap.objs.size,upd H1 s1.heap.objs.size (.tup xs),I1.laid (t':=s1.toks) (fun b u e=>aI _ e) (aE _) ?_,rfl,q _ hf⟩
 exact ⟨z,us,r,⟨_,df _ rfl,rfl,_,rfl⟩⟩
theorem Xk (h:PA X es t):PE X (.List es pos) (acp t):=by
 intro pins s σ H Q I hq
 refine wpAny_List_spliced (thn (h pos pins s σ H _ I hq) fun us s1 ⟨xs,H1,I1,r,z,q⟩=>⟨by rw[← r.length];exact z,?_⟩)
 have hf:H1 s1.heap.objs.size=none:=I1.hok.fresh (aE _)
 refine ⟨.ref s1.heap.objs.size,upd H1 s1.heap.objs.size (.lst xs),I1.laid (t':=s1.toks) (fun b u e=>aI _ e) (aE _) ?_,rfl,q _ hf⟩
 exact ⟨z,us,0,r,df _ rfl⟩
end
noncomputable abbrev Sp:=List V→Hp→VK→XK→Prop
noncomputable abbrev CXT:=List Env→Hp→ar→XK→ai→ar→Prop
structure JD (P:cw) (w:eI) (K:ag) (mg:Str→Option ai) (base:Heap) (A:eo) (outer:List Env) (s:ar) (H:Hp):Prop where
 frames:A.frames=some outer
 mod:Mod K mg base
 bs:∀b o,base.get? b=some o→s.heap.get? b=some o∧H b=none
 bsz:base.objs.size≤s.heap.objs.size
 nQ:s.heap.FunFrames base outer
 frf:∀b∈frs outer,H b=none
 hok:HOk P w H s.heap
 bare:vT s.gens
noncomputable def CE (outer:List Env) (P:cw) (w:eI) (H:Hp) (s:ar) (Q:VK) (u:ai) (s':ar):Prop:=
 ∃v H',s'.os=s.os∧vT s'.gens∧Un (frs outer) [] H H' s.heap s'.heap∧HOk P w H' s'.heap∧RelV v u∧Q v H'
noncomputable def CR (CX:CXT) (outer:List Env) (P:cw) (w:eI) (H:Hp) (s:ar) (Q:VK) (E:XK) (r:Result) (s':ar):Prop:=
 match r with
 | .ok (.ret u)=>CE outer P w H s Q u s'
 | .ok _=>False
 | .error e=>CX outer H s E e s'
structure n8 (P:cw) (w:eI) (K:ag) (mg:Str→Option ai) (base:Heap) (CX:CXT) (k:Nat) (f:Addr) (fd:om) (ps:List Str) (sp:Sp):Prop where
 len:∀vs H Q E,sp vs H Q E→vs.length=ps.length
 run:∀(A:eo) (outer:List Env) (s:ar) (H:Hp) (args:Args) (us:List ai) (vs:List V) (Q:VK) (E:XK),dg k A→JD P w K mg base A outer s H→BindsTo s fd args (ps.zip us)→Vals vs us→sp vs H Q E →
  uk (bt P w) A (.call (.ref f) args) (CR CX outer P w H s Q E) s
section
variable {X:Cx}{pins:List (Addr×Obj)}{σ:St}{H:Hp}{s s':ar}
theorem Inv.env0 (I:Inv X pins σ H s):JD X.prog X.w X.K X.mg X.base X.A X.stack s H:=
 ⟨I.ok.frames,I.ok.mod,I.bs,eK I.ok.bsz I.sz,I.stack,I.zB,I.hok,I.bare⟩
theorem Inv.after {Q:VK}{u:ai} (I:Inv X pins σ H s) (h:CE X.stack X.prog X.w H s Q u s'):EP X pins σ Q u s':=by
 obtain ⟨v,H',os,bare,un,hok,r,q⟩:=h
 obtain ⟨hh,g,d,t,os'⟩:=s'
 obtain rfl:os'=s.os:=os
 exact ⟨v,H',I.call (h':=hh) (g':=g) (d':=d) (t':=t) (ch:=[]) un hok bare (fun b z=>absurd z (by simp)),r,q⟩
end
noncomputable def S8 (sp:Sp) (dvs:List V) (E:XK) (t:TA):TE:=fun σ H Q=>t σ H fun vs H1=>sp (vs++dvs) H1 Q E
noncomputable def Binds (K:ag) (fd:om) (ps:List Str) (ds:List ai):Prop:=
 ∀(s:ar) (us:List ai),K.In s.heap→(us++ds).length=ps.length→BindsTo s fd ⟨us,[]⟩ (ps.zip (us++ds))
theorem Binds.all {K:ag}{fd:om}{ps:List Str} (h:∀us:List ai,us.length=ps.length→kL fd ⟨us,[]⟩=pure (ps.zip us)):Binds K fd ps []:=fun s us _ hl=>by
 rw[fq] at hl ⊢
 exact .of_eq (h us hl)
noncomputable def Passes (CX:CXT) (X:Cx) (E:XK):Prop:=∀(pins:List (Addr×Obj)) (σ:St) (H:Hp) (s:ar) (e:ai) (s':ar),Inv X pins σ H s→CX X.stack H s E e s'→X.xe e s'
section
variable {X:Cx}{CX:CXT}{k:Nat}{f C:Addr}{fd:om}{ps:List Str}{sp:Sp}{dvs:List V}{ds:List ai}{E:XK}{x m:Str}{p pos apos:Pos}{e o:Expr}{es:List Expr}{ta:TE}{t:TA}
theorem WD {pins:List (Addr×Obj)}{σ:St}{H:Hp}{s:ar}{Q:VK}{us:List ai}{vs:List V} (F:n8 X.prog X.w X.K X.mg X.base CX k f fd ps sp) (hr:dg k X.A) (hb:Binds X.K fd ps ds) (hd:Vals dvs ds) (hx:Passes CX X E)
 (I:Inv X pins σ H s) (r:Vals vs us) (h:sp (vs++dvs) H Q E):bP (bt X.prog X.w) X.A (call (.ref f) us) (EP X pins σ Q) X.xe s:=by
 have r2:Vals (vs++dvs) (us++ds):=r.append hd
 have hl:(us++ds).length=ps.length:=by rw[← r2.length];exact F.len _ _ _ _ h
 refine wm (qS (F.run X.A X.stack s H ⟨us,[]⟩ (us++ds) (vs++dvs) Q E hr I.env0 (hb s us I.kIn hl) r2 h) fun r s' hq=>?_)
 cases r with
 | error e=>exact hx pins σ H s e s' I hq
 | ok fl=>
  cases fl with
  | ret u=>exact I.after hq
  | next=>exact oD hq
  | brk=>exact oD hq
  | cont=>exact oD hq
theorem Uk (F:n8 X.prog X.w X.K X.mg X.base CX k f fd ps sp) (hr:dg k X.A) (hg:Gl X x) (hm:X.mg x=some (.ref f)) (hk:dS X.K (.ref f)=true) (hb:Binds X.K fd ps ds) (hd:Vals dvs ds) (hx:Passes CX X E)
 (ha:PA X (e::es) t) (hdb:(x == ("__debug__" : Str))=false:=by decide) (he:d4 (e::es) X.env=(false,eval e X.env)::d4 es X.env:=by rfl) (hpl:(oC pos (d4 es X.env)).any (·.1)=false:=by rfl) :
 PE X (.Call (.Name x p) (e::es) [] pos) (S8 sp dvs E t):=by
 intro pins s σ H Q I h
 refine mB (oU I hg hm ?_ hdb)
 refine wo (h₀:=X.base) I.ok.mod.kin hk (thn (ha pos pins s σ H _ I h) fun us s1 ⟨vs,H1,I1,r,q⟩=>⟨I1.kIn,?_⟩) he hpl
 exact WD F hr hb hd hx I1 r q
end
section
variable {X:Cx}{CX:CXT}{k:Nat}{f C:Addr}{fd:om}{ps ks:List Str}{sp:Sp}{E:XK}{x m:Str}{p pos apos acD:Pos}{e o:Expr}{es:List Expr}{kws:List uu}{te ta:TE}{t tk:TA}{nm:Option Str}
variable {g:List ai→List ai→List ai}{gV:List V→List V→List V}
end
structure bL (N P:List Str) (sc:si):Prop where
 kind:sc.kind = .function
 co:sc.isCoroutine=false
 gen:sc.isGenerator=false
 nd:N.Nodup
 pre:N.take P.length=P
 par:∀x∈P,sc.names.lookup x=some .local∨sc.names.lookup x=some .cell
 Wh:∀y∈sc.names,y.2 ≠ .free
theorem Bm {kindOf:Str→Option iS}{x:Str}:∀{binds:List (Str×ai)}{m:Str→Option ai},(∀v,(x,v)∉binds)→bindL kindOf binds m x=m x
 | [],_,_=>rfl
 | (n,v)::r,m,h=>by
  unfold bindL
  rw[Bm fun w hw=>h w (bg _ hw)]
  split
  · have:x≠n:=by rintro rfl;exact h v b5
    simp[this]
  · rfl
theorem BX {kindOf:Str→Option iS}{x:Str}:∀{binds:List (Str×ai)}{m:Str→Option ai},(∀v,(x,v)∉binds)→bindC kindOf binds m x=m x
 | [],_,_=>rfl
 | (n,v)::r,m,h=>by
  unfold bindC
  rw[BX fun w hw=>h w (bg _ hw)]
  split
  · rfl
  · have:x≠n:=by rintro rfl;exact h v b5
    simp[this]
theorem Aw {kindOf:Str→Option iS}{x:Str}{v:ai}:∀{P:List Str}{vs:List ai}{i:Nat}{m:Str→Option ai},P.Nodup→P[i]?=some x→vs[i]?=some v→kindOf x=some .local →
 bindL kindOf (P.zip vs) m x=some v
 | [],_,_,_,_,h,_,_=>by simp at h
 | _::_,[],_,_,_,_,h,_=>by simp at h
 | p::P,w::vs,0,m,nd,h1,h2,hk=>by
  simp at h1 h2;subst h1;subst h2
  show bindL kindOf ((p,w)::P.zip vs) m p=_
  unfold bindL
  rw[Bm fun v hv=>(ki.mp nd).1 (AU hv).1,if_pos hk]
  simp
 | p::P,w::vs,i+1,m,nd,h1,h2,hk=>by
  show bindL kindOf ((p,w)::P.zip vs) m x=_
  unfold bindL
  exact Aw (i:=i) (ki.mp nd).2 (by simpa using h1) (by simpa using h2) hk
theorem Aq {kindOf:Str→Option iS}{x:Str}{v:ai}:∀{P:List Str}{vs:List ai}{i:Nat}{m:Str→Option ai},P.Nodup→P[i]?=some x→vs[i]?=some v→kindOf x≠some .local →
 bindC kindOf (P.zip vs) m x=some v
 | [],_,_,_,_,h,_,_=>by simp at h
 | _::_,[],_,_,_,_,h,_=>by simp at h
 | p::P,w::vs,0,m,nd,h1,h2,hk=>by
  simp at h1 h2;subst h1;subst h2
  show bindC kindOf ((p,w)::P.zip vs) m p=_
  unfold bindC
  rw[BX fun v hv=>(ki.mp nd).1 (AU hv).1,if_neg hk]
  simp
 | p::P,w::vs,i+1,m,nd,h1,h2,hk=>by
  show bindC kindOf ((p,w)::P.zip vs) m x=_
  unfold bindC
  exact Aq (i:=i) (ki.mp nd).2 (by simpa using h1) (by simpa using h2) hk
noncomputable def start (N:List Str) (vs:List V):St:=vs.map some++b9 (N.length - vs.length) none
noncomputable def kh (CX:CXT) (P:cw) (w:eI) (K:ag) (mg:Str→Option ai) (base:Heap) (N:List Str) (qual:Str) (scope:si) (f:Addr) (cd:ai) (A:eo) (outer:List Env) (s:ar) (H:Hp) (E:XK):Cx where
 prog:=P
 w:=w
 K:=K
 mg:=mg
 base:=base
 A:=A.deeper (iX qual scope s.heap.objs.size f cd)
 N:=N
 s₀:=s
 H₀:=H
 env:=iX qual scope s.heap.objs.size f cd
 outer:=outer
 stack:=iX qual scope s.heap.objs.size f cd::outer
 ex:=[]
 calm:=true
 fn:=fun _=>true
 pn:=[]
 xe:=fun e s'=>bP (bt P w) (A.deeper (iX qual scope s.heap.objs.size f cd)) (leaving (iX qual scope s.heap.objs.size f cd) e) (fun _ s''=>CX outer H s E e s'') (fun e' s''=>CX outer H s E e' s'') s'
theorem Gb {sc:si}{n:Nat}{x:Str} (h:sc.names.lookup x=some .cell):∃c,(kz n sc.names []).lookup x=some c:=by
 have q:=oI sc.names n [] (.inl h)
 exact y9.mp q
theorem Mu {CX:CXT}{P:cw}{w:eI}{K:ag}{mg:Str→Option ai}{base:Heap}{N ps:List Str}{qual:Str}{scope:si}{f:Addr}{cd:ai}{A:eo}{outer:List Env}{s s1:ar}{H:Hp}{E:XK}{us:List ai}{vs:List V}
 (S:bL N ps scope) (hd:A.handled=none) (e0:JD P w K mg base A outer s H) (hl:vs.length=ps.length) (r:Vals vs us)
 (x:InCallC s s.heap.objs.size (bindL (iX qual scope s.heap.objs.size f cd).kindOf (ps.zip us) fun _=>none) (kz (s.heap.objs.size+1) scope.names []) (bindC (iX qual scope s.heap.objs.size f cd).kindOf (ps.zip us) fun _=>none) s1) :
 Inv (kh CX P w K mg base N qual scope f cd A outer s H E) [] (start N vs) H s1:=by
 have hpl:ps.length≤N.length:=by have:=congrArg List.length S.pre;rw[eA] at this;omega
 obtain ⟨h1,tk,rfl,hk⟩:=x.done
 have noA:∀b:Addr,b∉(kh CX P w K mg base N qual scope f cd A outer s H E).ex:=fun b z=>absurd (show b∈([]:List Addr) from z) (by simp)
 refine ⟨⟨e0.mod,S.kind,rfl,rfl,aE _,fun y z c h1 h2=>?_,fun y hy=>?_,fun y c _ h=>?_,fun _=>hd,Around.frames_deeper e0.frames,.inr ⟨rfl,rfl⟩,fun b z=>absurd z (noA b),e0.bs,e0.bsz,fun b _ _=>noA b,fun b z=>absurd z (noA b),e0.nQ,e0.frf⟩,
  rfl,e0.bare,Un.kept hk,⟨_,x.toInCall.ns,fun i y v h1 h2 h3=>?_⟩,fun y c h=>⟨_,x.cell y c h⟩,e0.hok.fresh (aE _),fun y c h=>?_,fun p hp=>absurd (show p∈([]:List (Addr×Obj)) from hp) (by simp),e0.hok.kept hk,?_⟩
 · exact name_of_addr x.apart (gI h1) (gI h2)
 · have hy:scope.names.lookup y=some .cell∨scope.names.lookup y=some .free:=hy
   rcases hy with hy | hy
   · exact Gb hy
   · exact absurd rfl (S.Wh _ (gI hy))
 · exact fF (x.above y c (gI h))
 · have hi:i < vs.length:=by
    unfold start at h2
    by_cases hi:i < vs.length
    · exact hi
    · rw[d6 (by simpa using hi)] at h2
      rw[iq] at h2
      split at h2 <;> cases h2
   have ha:vs[i]?=some v:=by
    unfold start at h2
    rw[eP (by simpa using hi),cn] at h2
    cases e:vs[i]? with
    | none=>rw[e] at h2;cases h2
    | some a=>rw[e] at h2;cases h2;rfl
   obtain ⟨u,hu,rv⟩:=r.get ha
   have hp:ps[i]?=some y:=by
    rw[← S.pre,ri (by omega)];exact h1
   have ndP:ps.Nodup:=by rw[← S.pre];exact S.nd.sublist (x8 _ _)
   refine ⟨u,rv,?_⟩
   rcases S.par y (fE hp) with k | k
   · exact .inl ⟨k,Aw ndP hp hu k⟩
   · obtain ⟨c,e⟩:=Gb (n:=s.heap.objs.size+1) k
     refine .inr ⟨.inl k,c,e,?_⟩
     have q:=x.cell y c e
     rw[Aq ndP hp hu (by show scope.names.lookup y≠_;rw[k];decide)] at q
     exact q
 · exact e0.hok.fresh (fF (x.above y c (gI h)))
 · unfold start
   show _=N.length
   rw[ay,aw,cq]
   omega
theorem S7 {CX:CXT}{P:cw}{w:eI}{K:ag}{mg:Str→Option ai}{base:Heap}{k:Nat}{f:Addr}{name qual:Str}{params:Arguments}{body:List Stmt}{scope:si}{dV kV doc pm cdv ct oc:ai}{an od:Option Addr}
 {osl:Array (Option ai)}{N ps:List Str}{sp:Sp} (lk:K.lookup f=some ⟨oc,od,.func (cf name qual params body scope dV kV doc pm an cdv ct),osl⟩) (hcd:eu K cdv qual=true) (S:bL N ps scope)
 (len:∀vs H Q E,sp vs H Q E→vs.length=ps.length)
 (hbody:∀(A:eo) (outer:List Env) (s:ar) (H:Hp) (vs:List V) (Q:VK) (E:XK),dg k (A.deeper (iX qual scope s.heap.objs.size f cdv))→sp vs H Q E →
  ∃t,PSs (kh CX P w K mg base N qual scope f cdv A outer s H E) body t∧t { nx:=fun _ H'=>Q .non H',rt:=Q } (start N vs) H) :
 n8 P w K mg base CX (k+1) f (cf name qual params body scope dV kV doc pm an cdv ct) ps sp:=by
 refine ⟨len,fun A outer s H args us vs Q E hr e0 hb r hsp=>?_⟩
 have hl:=len _ _ _ _ hsp
 have KX:K.In s.heap:=e0.mod.kin.keeps fun b o e=>(e0.bs b o e).1
 have lim:s.heap.NoLimit:=e0.mod.nolimit.keeps fun b o e=>(e0.bs b o e).1
 have hkind:∀y∈ps.zip us,scope.names.lookup y.1=some .local∨(scope.names.lookup y.1=some .cell∧((kz (s.heap.objs.size+1) scope.names []).lookup y.1).isSome=true):=fun ⟨n,v⟩ hy=>by
  rcases S.par n (AU hy).1 with q | q
  · exact .inl q
  · exact .inr ⟨q,oI _ _ _ (.inl q)⟩
 refine codeAny_call_function hr.depth (KX _ _ lk) rfl S.co S.gen rfl (PySem.W.codeRec_of KX hcd) (hb _ _ _ _ ?_)
 refine wpAny_newFunctionEnv_cells S.kind hkind fun env he s1 x=>?_
 subst he
 refine ⟨lim.keeps x.toInCall.keep,codeAny_func ?_⟩
 obtain ⟨t,ht,hq⟩:=hbody A outer s H vs Q E (hr.deeper _) hsp
 have I:Inv (kh CX P w K mg base N qual scope f cdv A outer s H E) [] (start N vs) H s1:=Mu S hr.hd e0 hl r x
 refine gc (ht [] s1 (start N vs) H _ I hq) (fun fl s' hs=>?_) fun e s' hs=>hs
 have fin:∀{σ':St}{H':Hp}{v:V}{u:ai},Inv (kh CX P w K mg base N qual scope f cdv A outer s H E) [] σ' H' s'→RelV v u→Q v H'→CE outer P w H s Q u s':=
  fun {σ' H' v u} J rv q=>⟨v,H',J.os,J.bare,J.base,J.hok,rv,q⟩
 cases fl with
 | ret u=>
  obtain ⟨v,σ',H',J,rv,q⟩:=hs
  exact fin J rv q
 | next=>
  obtain ⟨σ',H',J,q⟩:=hs
  exact fin (v:=V.non) (u:=ai.none) J rfl q
 | brk=>
  obtain ⟨_,_,_,q⟩:=hs
  exact oD q
 | cont=>
  obtain ⟨_,_,_,q⟩:=hs
  exact oD q
section
variable {X:Cx}{x:Str}{p pos:Pos}{e:Expr}{es:List Expr}{t:TA}{id T:String}{r:List V→Hp→VK→Prop}
noncomputable def tCB (r:List V→Hp→VK→Prop) (t:TA):TE:=fun σ H Q=>t σ H fun vs H1=>r vs H1 Q
theorem wR (hc:fK X (.builtin id) r) (hg:Gl X x) (hm:X.mg x=none) (hv:bo x=some (.builtin id)) (ha:PA X (e::es) t) (hn:x ≠ "__name__" := by decide) (hdb:(x == ("__debug__" : Str))=false:=by decide)
 (he:d4 (e::es) X.env=(false,eval e X.env)::d4 es X.env:=by rfl) (hpl:(oC pos (d4 es X.env)).any (·.1)=false:=by rfl):PE X (.Call (.Name x p) (e::es) [] pos) (tCB r t):=by
 intro pins s σ H Q I h
 refine mB (nA I hg hm hv ?_ hn hdb)
 exact t9 (thn (ha pos pins s σ H _ I h) fun us s1 ⟨vs,H1,I1,r1,q1⟩=>hc pins s1 σ H1 vs us Q I1 r1 q1) he hpl
theorem Bu (hc:fK X (.type T) r) (hg:Gl X x) (hm:X.mg x=none) (hv:bo x=some (.type T)) (ha:PA X (e::es) t) (hn:x ≠ "__name__" := by decide) (hdb:(x == ("__debug__" : Str))=false:=by decide)
 (he:d4 (e::es) X.env=(false,eval e X.env)::d4 es X.env:=by rfl) (hpl:(oC pos (d4 es X.env)).any (·.1)=false:=by rfl):PE X (.Call (.Name x p) (e::es) [] pos) (tCB r t):=by
 intro pins s σ H Q I h
 refine mB (nA I hg hm hv ?_ hn hdb)
 exact i9 (thn (ha pos pins s σ H _ I h) fun us s1 ⟨vs,H1,I1,r1,q1⟩=>hc pins s1 σ H1 vs us Q I1 r1 q1) he hpl
end
end L2
namespace HT
open PySem PyProof.Rows
section
open PySem.SeqAt
open PySem.AutoSeq1 (wpAny_loadPart')
open PySem.MeetsSeq PySem.MeetsSeq2 PySem.MeetsSeq3
end
section
variable {prog:cw}{w:eI}{A:eo}{E:ai→ar→Prop}{s:ar}
theorem U0 {t b:Addr}{vs ws:List ai}{Q:ai→ar→Prop} (ht:IsTup s.heap t vs.toArray) (hb:IsTup s.heap b ws.toArray) (hv:vs≠[])
 (h1:ws=[]→Q (.ref t) s) (h2:ws≠[]→Q (.ref s.heap.objs.size) { s with heap:=s.heap.push { cls:=.type "tuple",data:=.seq (vs++ws).toArray } })
 (hsz:vs.length+ws.length≤bp):bP (bt prog w) A (g6 .Add (.ref t) (.ref b)) Q E s:=by
 obtain ⟨⟨cls,dd,data,sl⟩,ho,hc,n,hd⟩:=id ht
 obtain ⟨⟨cls2,dd2,data2,sl2⟩,ho2,hc2,n2,hd2⟩:=id hb
 simp only at hc hd hc2 hd2
 subst hc hd hc2 hd2
 have e:vs.toArray++ws.toArray=(vs++ws).toArray:=by simp
 by_cases hw:ws=[]
 · exact AI ⟨_,ho,rfl⟩ ⟨_,ho2,rfl⟩ zD seq_tuple_add sM sj (rj _ _)
    (tuple_addW1 t b vs.toArray ws.toArray n n2 dd dd2 sl sl2 (by simpa using hv) (by simp[hw])) ⟨ho,ho2,h1 hw⟩
 · refine AI ⟨_,ho,rfl⟩ ⟨_,ho2,rfl⟩ zD seq_tuple_add sM sj (rj _ _)
    (tuple_addW2 t b vs.toArray ws.toArray n n2 dd dd2 sl sl2 (by simpa using hv) (by simpa using hw) (by rw[ck,ck];exact hsz)) ⟨ho,ho2,?_⟩
   rw[e]
   exact h2 hw
noncomputable def sIx (n d:Nat):Option Int→Nat
 | none=>d
 | some v=>if v < 0 then (v+(n:Int)).toNat else min v.toNat n
theorem R3 (n d:Nat):sIx n d none=d:=rfl
theorem UL (n d k:Nat):sIx n d (some (k:Int))=min k n:=by
 show (if (k:Int) < 0 then ((k:Int)+(n:Int)).toNat else min (k:Int).toNat n)=min k n
 rw[if_neg (by omega),eM]
theorem XF (n d:Nat) (hd:d≤n) (o:Option Int):sIx n d o≤n:=by
 cases o with
 | none=>exact hd
 | some v=>
  show (if v < 0 then (v+(n:Int)).toNat else min v.toNat n)≤n
  by_cases hv:v < 0
  · rw[if_pos hv];omega
  · rw[if_neg hv];exact Nat.min_le_right _ _
theorem Hn (v:Int) (n d:Nat):(if v < 0 then max (v+(n:Int)) 0 else min v (n:Int))=((sIx n d (some v):Nat):Int):=by
 show (if v < 0 then max (v+(n:Int)) 0 else min v (n:Int))=(((if v < 0 then (v+(n:Int)).toNat else min v.toNat n):Nat):Int)
 by_cases hv:v < 0
 · simp only[if_pos hv];omega
 · simp only[if_neg hv];omega
theorem Kl (lo hi:Option Int) (n:Nat):ra lo hi 1 (n:Int)=(((sIx n 0 lo:Nat):Int),((sIx n n hi:Nat):Int)):=by
 have h1:¬ ((1:Int) < 0):=by omega
 unfold ra
 simp only[h1,if_false]
 refine Prod.ext ?_ ?_
 · cases lo with
   | none=>rfl
   | some v=>exact Hn v n 0
 · cases hi with
   | none=>rfl
   | some v=>exact Hn v n n
theorem JR (i j:Nat):mS (i:Int) (j:Int) 1=j - i:=by
 unfold mS
 have h1:(1:Int) > 0:=by omega
 simp only[h1,if_true,Int.ediv_one]
 split <;> omega
theorem yw {v:ai}{o:Option Int}{Q:Option Int→ar→Prop} (p:AJ v o) (h:Q o s):bP (bt prog w) A (Builtin.Slice.slicePartIndex v) Q E s:=by
 cases p with
 | none=>exact slicePart_none h
 | int i t=>exact slicePart_int h
theorem pJ {sl:Addr}{vl vu:ai}{lo hi:Option Int}{n:Nat}{Q:Int×Int×Nat→ar→Prop} (hs:s.heap.IsSliceOf sl vl vu .none) (pl:AJ vl lo) (pu:AJ vu hi)
 (h:Q (((sIx n 0 lo:Nat):Int),1,sIx n n hi - sIx n 0 lo) s):bP (bt prog w) A (Builtin.Slice.sliceApplied (.ref sl) (pure (n:Int))) Q E s:=by
 obtain ⟨os,hos,hcs,hds⟩:=id hs
 unfold Builtin.Slice.sliceApplied Builtin.Slice.sliceFields
 refine af (af (wpAny_field hos hds (x:=vl) rfl (af (wpAny_field hos hds (x:=vu) rfl (af (wpAny_field hos hds (x:=.none) rfl (av ?_)))))))
 refine af (slicePart_none ?_)
 show bP _ _ (if ((1:Int) == 0)=true then _ else _) _ _ s
 rw[if_neg (by decide)]
 refine af (yw pl (af (yw pu (af (av ?_)))))
 show bP _ _ (match ra lo hi 1 (n:Int) with | (lo,hi)=>pure (lo,(1:Int),mS lo hi 1)) _ _ s
 rw[Kl lo hi n]
 show bP _ _ (pure (((sIx n 0 lo:Nat):Int),(1:Int),mS ((sIx n 0 lo:Nat):Int) ((sIx n n hi:Nat):Int) 1)) _ _ s
 rw[JR]
 exact av h
theorem Sq (xs:Array ai) (i k:Nat):((cS k).filterMap fun (m:Nat)=>xs[((i:Int)+(m:Int)*1).toNat]?).toArray=((xs.toList.drop i).take k).toArray:=by
 have e:(fun (m:Nat)=>xs[((i:Int)+(m:Int)*1).toNat]?)=fun m=>xs[i+m]?:=by
  funext m
  have:((i:Int)+(m:Int)*1).toNat=i+m:=by omega
  rw[this]
 rw[e]
 have:=pick_run xs i k
 rw[List.filterMap_map] at this
 have e2:((fun x=>xs[x]?)∘fun x=>i+x)=fun m=>xs[i+m]?:=rfl
 rw[e2] at this
 rw[this]
theorem wA {t sl:Addr}{items:Array ai}{vl vu:ai}{lo hi:Option Int}{Q:ai→ar→Prop} (ht:IsTup s.heap t items) (hs:s.heap.IsSliceOf sl vl vu .none) (pl:AJ vl lo) (pu:AJ vu hi)
 (hw:¬ (sIx items.size 0 lo=0∧sIx items.size items.size hi=items.size))
 (h:Q (.ref s.heap.objs.size) { s with heap:=s.heap.push { cls:=.type "tuple",data:=.seq ((items.toList.drop (sIx items.size 0 lo)).take (sIx items.size items.size hi - sIx items.size 0 lo)).toArray } })
 (hsz:items.size≤bp):bP (bt prog w) A (BE (.ref t) (.ref sl)) Q E s:=by
 have CW:sizeOk (.seq ((items.toList.drop (sIx items.size 0 lo)).take (sIx items.size items.size hi - sIx items.size 0 lo)).toArray):=by
  show ((items.toList.drop (sIx items.size 0 lo)).take (sIx items.size items.size hi - sIx items.size 0 lo)).toArray.size≤bp
  rw[ck,eA,mi,cy]
  omega
 have hj:sIx items.size items.size hi≤items.size:=XF _ _ (aE _) hi
 obtain ⟨os,hos,hcs,hds⟩:=id hs
 have hTs:s.TypeIs (.ref sl) "slice" := ⟨os,hos,hcs⟩
 unfold BE
 try with_reducible refine gi ?_
 first | refine af (av ?_) | skip
 refine af (wpAny_sequenceKey ht.typeIs (by decide) ?_)
 refine af (i6 (name:=sN "__getitem__") ht.typeIs gx
  (gp gx ht.typeIs entry_tuple_getitem ?_ (args_tuple_getitem _ _)))
 show bP _ _ (Builtin.Tuple.tupleItemsOf (.ref t) >>= _) _ _ s
 refine af (tupleItemsOf_ ht ?_)
 refine af (sP hTs ?_)
 rw[if_pos (by decide)]
 refine af (pJ hs pl pu ?_)
 have hno:¬ ((((sIx items.size 0 lo:Nat):Int) == 0&&(1:Int) == 1&&(sIx items.size items.size hi - sIx items.size 0 lo) == items.size)=true):=by
  intro q
  rw[cc,cc] at q
  have q1:((sIx items.size 0 lo:Nat):Int)=0:=eq_of_beq q.1.1
  have q2:sIx items.size items.size hi - sIx items.size 0 lo=items.size:=eq_of_beq q.2
  exact hw ⟨by omega,by omega⟩
 show bP _ _ (if (((sIx items.size 0 lo:Nat):Int) == 0&&(1:Int) == 1&&(sIx items.size items.size hi - sIx items.size 0 lo) == items.size)=true then _ else _) _ _ s
 rw[if_neg hno,Sq]
 first
  | exact af (m:=n4 _) (gu (av ⟨_,rfl,av h⟩) CW)
  | exact af (m:=n4 _) (gu (af (av (av ⟨_,rfl,av h⟩))) CW)
  | exact af (af (m:=n4 _) (gu (av (av ⟨_,rfl,av h⟩)) CW))
  | exact af (af (m:=n4 _) (gu (av ⟨_,rfl,av h⟩) CW))
end
end HT
namespace L2
open PySem PySem.Spec PyProof.Rows
noncomputable abbrev TO:=St→Hp→(Option Int→Hp→Prop)→Prop
noncomputable def PO (X:Cx) (e:Option Expr) (t:TO):Prop:=
 ∀(pins:List (Addr×Obj)) (s:ar) (σ:St) (H:Hp) (Q:Option Int→Hp→Prop),Inv X pins σ H s→t σ H Q →
  bP (bt X.prog X.w) X.A (evalPart e X.env) (fun u s'=>∃o H',Inv X pins σ H' s'∧AJ u o∧Q o H') X.xe s
noncomputable def Vk:TO:=fun _ H Q=>Q none H
noncomputable def Zx (t:TE):TO:=fun σ H Q=>t σ H fun x H1=>∃i,x = .int i∧Q (some i) H1
theorem intsAre_of {ns:List Int}:∀{us:List ai},Vals (ns.map V.int) us→lx us ns:=by
 induction ns with
 | nil=>intro us r;rw[jI] at r;cases r;exact .nil
 | cons n ns ih=>
  intro us r
  rw[dk] at r
  cases r with
  | cons r1 r2=>
   obtain ⟨t,e⟩:=r1
   subst e
   exact .cons n t (ih r2)
section
variable {X:Cx}{e:Expr}{te:TE}{lo hi:Option Expr}{tl th:TO}{pos p2:Pos}
theorem Ul:PO X none Vk:=by
 intro pins s σ H Q I h
 rw[evalPart_none]
 exact av ⟨none,H,I,.none,h⟩
theorem Ue (h:PE X e te):PO X (some e) (Zx te):=by
 intro pins s σ H Q I hw
 rw[evalPart_some]
 refine thn (h pins s σ H _ I hw) fun u s1 aA=>?_
 obtain ⟨x,H1,I1,r1,q1⟩:=aA
 obtain ⟨i,rfl,q⟩:=q1
 obtain ⟨t,rfl⟩:=r1
 exact ⟨some i,H1,I1,.int i t,q⟩
noncomputable def SlR (X:Cx) (r:V→Option Int→Option Int→Hp→VK→Prop):Prop:=
 ∀(pins:List (Addr×Obj)) (s:ar) (σ:St) (H:Hp) (x:V) (v vl vu:ai) (lo hi:Option Int) (sl:Addr) (Q:VK),Inv X pins σ H s→RelV x v→s.heap.IsSliceOf sl vl vu .none→AJ vl lo→AJ vu hi→r x lo hi H Q →
  ∃T id,typeLookup (.type T) "__getitem__" = pure (some (.builtin id))∧s.TypeIs v T∧bP (bt X.prog X.w) X.A (BE v (.ref sl)) (EP X pins σ Q) X.xe s
noncomputable def tSl (r:V→Option Int→Option Int→Hp→VK→Prop) (te:TE) (tl th:TO):TE:=fun σ H Q=>te σ H fun x H1=>tl σ H1 fun l H2=>th σ H2 fun u H3=>r x l u H3 Q
theorem Sy {r:V→Option Int→Option Int→Hp→VK→Prop} (hr:SlR X r) (he:PE X e te) (hl:PO X lo tl) (hu:PO X hi th):PE X (.Subscript e (.Slice lo hi none p2) pos) (tSl r te tl th):=by
 intro pins s σ H Q I h
 refine Subscript_ (thn (he pins s σ H _ I h) fun v s1 aA=>?_)
 obtain ⟨x,H1,I1,r1,q1⟩:=aA
 refine wpAny_Slice (thn (hl pins s1 σ H1 _ I1 q1) fun vl s2 ⟨l,H2,I2,pl,q2⟩=>thn (hu pins s2 σ H2 _ I2 q2) fun vu s3 aA=>?_)
 obtain ⟨u,H3,I3,pu,q3⟩:=aA
 rw[evalPart_none]
 refine av ?_
 have I4:Inv X pins σ H3 { s3 with heap:=s3.heap.push { cls:=.type "slice",data:=.fields #[vl,vu,.none] } }:=I3.kept (t':=s3.toks) fun b ob q=>aI _ q
 obtain ⟨T,id,hT,ht,hg⟩:=hr pins { s3 with heap:=s3.heap.push { cls:=.type "slice",data:=.fields #[vl,vu,.none] } } σ H3 x v vl vu l u s3.heap.objs.size Q I4 r1 (Heap.IsSliceOf.new ..) pl pu q3
 show bP (bt X.prog X.w) X.A (subscriptTail e (.Slice lo hi none p2) v (.ref s3.heap.objs.size)) (EP X pins σ Q) X.xe { s3 with heap:=s3.heap.push { cls:=.type "slice",data:=.fields #[vl,vu,.none] } }
 exact tail_any (ops:=[.ref s3.heap.objs.size,v]) ht hT hg (by with_unfolding_all rfl)
noncomputable def qI (xs:List V) (lo hi:Option Int):List V:=(xs.drop (HT.sIx xs.length 0 lo)).take (HT.sIx xs.length xs.length hi - HT.sIx xs.length 0 lo)
theorem wB (xs:List V) (lo hi:Option Int):(qI xs lo hi).length≤xs.length:=by
 unfold qI
 rw[eA,mi]
 omega
noncomputable def Wq (K:ag):V→Option Int→Option Int→Hp→VK→Prop:=fun x lo hi H Q=>∃a xs,x = .ref a∧SqT K H a xs ∧
 ¬ (HT.sIx xs.length 0 lo=0∧HT.sIx xs.length xs.length hi=xs.length)∧∀p,H p=none→Q (.ref p) (upd H p (.tup (qI xs lo hi)))
theorem FP:SlR X (Wq X.K):=by
 intro pins s σ H x v vl vu lo hi sl Q I rx hs pl pu h
 obtain ⟨a,xs,rfl,hx,hw,q⟩:=h
 cases rx
 obtain ⟨its,r,ht,hz⟩:=I.tuple hx
 have hlen:its.toArray.size=xs.length:=by rw[ck];exact r.length.symm
 refine ⟨"tuple",_,gx.lookup,ht.typeIs,?_⟩
 refine HT.wA ht hs pl pu (by rw[hlen];exact hw) ?_ (by rw[hlen];exact hz)
 rw[hlen]
 refine ⟨.ref s.heap.objs.size,_,I.laid (t':=s.toks) (o:=.tup (qI xs lo hi)) (fun b ob q=>aI _ q) (aE _) ?_,rfl,q _ (I.hok.fresh (aE _))⟩
 exact ⟨eK (wB xs lo hi) hz,_,(r.drop (HT.sIx xs.length 0 lo)).take (HT.sIx xs.length xs.length hi - HT.sIx xs.length 0 lo),IsTup.new _ _⟩
noncomputable def Zi (K:ag):R2:=fun x y H Q=>∃a b xs ys,x = .ref a∧y = .ref b∧SqT K H a xs∧SqT K H b ys∧xs≠[]∧xs.length+ys.length≤bp ∧
 (ys=[]→Q (.ref a) H)∧(ys≠[]→∀p,H p=none→Q (.ref p) (upd H p (.tup (xs++ys))))
theorem Vals.zY {xs:List V}{us:List ai} (r:Vals xs us):us=[]↔xs=[]:=by
 cases r with
 | nil=>simp
 | cons _ _=>simp
theorem Vi:OpR X (g6 .Add) (Zi X.K):=by
 intro pins s σ H x y v u Q I rx ry h
 obtain ⟨a,b,xs,ys,rfl,rfl,ha,hb,hx,hz,q1,q2⟩:=h
 cases rx
 cases ry
 obtain ⟨its,r1,p1,_⟩:=I.tuple ha
 obtain ⟨its2,r2,p2,_⟩:=I.tuple hb
 refine HT.U0 p1 p2 (fun z=>hx (r1.zY.mp z)) (fun z=>⟨.ref a,H,I,rfl,q1 (r2.zY.mp z)⟩) (fun z=>?_) (by rw[← r1.length,← r2.length];exact hz)
 refine ⟨.ref s.heap.objs.size,_,I.laid (t':=s.toks) (o:=.tup (xs++ys)) (fun b ob q=>aI _ q) (aE _) ?_,rfl,q2 (fun w=>z (r2.zY.mpr w)) _ (I.hok.fresh (aE _))⟩
 exact ⟨by rw[ay];exact hz,_,r1.append r2,IsTup.new _ _⟩
end
noncomputable def ixN (n:Nat) (i:Int):Option Nat:=if 0≤i then (if i < n then some i.toNat else none) else if -(n:Int)≤i then some (i+n).toNat else none
noncomputable def atI {α:Type} (xs:List α) (i:Int):Option α:=(ixN xs.length i).bind fun j=>xs[j]?
theorem IK {n:Nat}{i:Int}{j:Nat} (h:ixN n i=some j):seqIndex? i n=some j∧j < n ∧ -(n:Int)≤i∧i < n:=by
 unfold ixN at h
 by_cases h0:0≤i
 · rw[if_pos h0] at h
   by_cases h1:i < n
   · rw[if_pos h1] at h
     have e:i.toNat=j:=Option.some.inj h
     exact ⟨by rw[seqIndex_of h0 h1,e],by omega,by omega,h1⟩
   · rw[if_neg h1] at h;cases h
 · rw[if_neg h0] at h
   by_cases h1 : -(n:Int)≤i
   · rw[if_pos h1] at h
     have e:(i+n).toNat=j:=Option.some.inj h
     exact ⟨by rw[seqIndex_neg (by omega) h1,e],by omega,h1,by omega⟩
   · rw[if_neg h1] at h;cases h
theorem HR {α:Type}{xs:List α}{i:Int}{v:α} (h:atI xs i=some v):∃j,seqIndex? i xs.length=some j∧xs[j]?=some v∧j < xs.length ∧ -(xs.length:Int)≤i∧i < xs.length:=by
 unfold atI at h
 cases e:ixN xs.length i with
 | none=>rw[e] at h;cases h
 | some j=>
  rw[e] at h
  obtain ⟨h1,h2,h3,h4⟩:=IK e
  exact ⟨j,h1,h,h2,h3,h4⟩
theorem Ib {α:Type}{xs:List α}{j:Nat}{v:α} (h:xs[j]?=some v):atI xs (j:Int)=some v:=by
 have hj:j < xs.length:=(de.mp h).1
 have e:ixN xs.length (j:Int)=some j:=by
  unfold ixN
  rw[if_pos (by omega),if_pos (by omega)];simp
 unfold atI;rw[e];exact h
noncomputable def Ii (b:Expr):Prop:=∀o i,subscripted b false o i=operate [o,i] (BE o i)
noncomputable def IxR (X:Cx) (r:R2):Prop:=
 ∀(value slice:Expr) (pins:List (Addr×Obj)) (s:ar) (σ:St) (H:Hp) (x y:V) (v u:ai) (Q:VK),Inv X pins σ H s→RelV x v→RelV y u→r x y H Q →
  subscripted slice false v u=operate [v,u] (BE v u)→bP (bt X.prog X.w) X.A (subscriptTail value slice v u) (EP X pins σ Q) X.xe s
noncomputable def MtR (X:Cx) (id:String) (r:V→List V→Hp→VK→Prop):Prop:=
 ∀(pins:List (Addr×Obj)) (s:ar) (σ:St) (H:Hp) (x:V) (xs:List V) (v:ai) (us:List ai) (Q:VK),Inv X pins σ H s→RelV x v→Vals xs us→r x xs H Q →
  bP (bt X.prog X.w) X.A (call (.builtin id) (v::us)) (EP X pins σ Q) X.xe s
section
variable {X:Cx}{a b:Expr}{ta tb:TE}{pos:Pos}
theorem ZM {r:R2} (hr:IxR X r) (ha:PE X a ta) (hb:PE X b tb) (hs:Ii b):PE X (.Subscript a b pos) (tOp r ta tb):=by
 intro pins s σ H Q I h
 exact Subscript_ (Ss ha hb I h fun v u s2 x y H2 I2 rx ry q=>hr a b pins s2 σ H2 x y v u Q I2 rx ry q (hs _ _))
noncomputable def aaO (K:ag):R2:=fun x y H Q=>∃p xs i v,x = .ref p∧y = .int i∧SqL K H p xs∧atI xs i=some v∧Q v H
noncomputable def abI (K:ag):R2:=fun x y H Q=>∃p xs i v,x = .ref p∧y = .int i∧SqT K H p xs∧atI xs i=some v∧Q v H
theorem V1:IxR X (aaO X.K):=by
 intro value slice pins s σ H x y v u Q I rx ry h hs
 obtain ⟨p,xs,i,z,rfl,rfl,hq,he,q⟩:=h
 cases rx
 obtain ⟨t,rfl⟩:=ry
 obtain ⟨its,r,pl,hz⟩:=I.list hq
 obtain ⟨j,h1,h2,h3,h4,h5⟩:=HR he
 obtain ⟨w,ew,rw'⟩:=r.get h2
 have hl:=r.length
 have hn:=uM
 have fin:EP X pins σ Q w s:=⟨z,H,I,rw',q⟩
 by_cases h0:0≤i
 · have hj:i.toNat=j:=by
    rw[seqIndex_of h0 h5] at h1
    exact Option.some.inj h1
   exact item_listR pl.isList h0 (by omega) (by rw[hj];simpa using ew) fin hs
 · have hj:(i+(its.toArray.size:Int)).toNat=j:=by
    rw[seqIndex_neg (by omega) h4] at h1
    rw[ck,← hl]
    exact Option.some.inj h1
   exact subscriptTail_builtinR (x:=w) pl.isList.typeIs slot_list_getitem.lookup
    (wpAny_getItem_list_neg (Q:=fun r s'=>r=w∧EP X pins σ Q r s') pl.isList (by omega) (by rw[ck] <;> omega) (by omega) (by rw[hj];simpa using ew) ⟨rfl,fin⟩) hs
theorem Yh:IxR X (abI X.K):=by
 intro value slice pins s σ H x y v u Q I rx ry h hs
 obtain ⟨p,xs,i,z,rfl,rfl,hq,he,q⟩:=h
 cases rx
 obtain ⟨t,rfl⟩:=ry
 obtain ⟨its,r,pl,hz⟩:=I.tuple hq
 obtain ⟨j,h1,h2,h3,h4,h5⟩:=HR he
 obtain ⟨w,ew,rw'⟩:=r.get h2
 have hl:=r.length
 have hn:=uM
 have fin:EP X pins σ Q w s:=⟨z,H,I,rw',q⟩
 exact subscriptTail_builtinR (x:=w) pl.typeIs gx.lookup
  (getItem_tuple (j:=j) (Q:=fun r s'=>r=w∧EP X pins σ Q r s') pl (by omega) (by omega) (by rw[ck,← hl];exact h1) (by simpa using ew) ⟨rfl,fin⟩) hs
theorem Fg (lo hi:Option Int) (n:Nat):(sm lo hi none n).1=((HT.sIx n 0 lo:Nat):Int)∧(sm lo hi none n).2.1=((HT.sIx n n hi:Nat):Int)∧(sm lo hi none n).2.2=1:=by
 refine ⟨?_,?_,rfl⟩
 · cases lo with
   | none=>simp[sm,HT.sIx]
   | some i=>
    simp only[sm,HT.sIx,Option.getD_none,show (1:Int) > 0 by decide,if_true]
    by_cases h:i < 0
    · simp only[h,if_true] <;> omega
    · simp only[h,if_false] <;> omega
 · cases hi with
   | none=>simp[sm,HT.sIx]
   | some i=>
    simp only[sm,HT.sIx,Option.getD_none,show (1:Int) > 0 by decide,if_true]
    by_cases h:i < 0
    · simp only[h,if_true] <;> omega
    · simp only[h,if_false] <;> omega
theorem Cy (its:List ai) (lo hi:Option Int):slicePick its.toArray lo hi none=((its.drop (HT.sIx its.length 0 lo)).take (HT.sIx its.length its.length hi - HT.sIx its.length 0 lo)).toArray:=by
 obtain ⟨h1,h2,h3⟩:=Fg lo hi its.toArray.size
 unfold slicePick
 rw[h1,h2,h3]
 simp only[sliceRange_one,pick_run,ck] <;> rfl
noncomputable def Wx (K:ag):V→Option Int→Option Int→Hp→VK→Prop:=fun x lo hi H Q=>∃a xs,x = .ref a∧SqL K H a xs∧∀p,H p=none→Q (.ref p) (upd H p (.lst (qI xs lo hi)))
theorem VF:SlR X (Wx X.K):=by
 intro pins s σ H x v vl vu lo hi sl Q I rx hs pl pu h
 obtain ⟨a,xs,rfl,hx,q⟩:=h
 cases rx
 obtain ⟨its,r,ht,hz⟩:=I.list hx
 have hlen:=r.length
 refine ⟨"list",_,slot_list_getitem.lookup,ht.isList.typeIs,?_⟩
 refine wpAny_getItem_list_slice ht.isList hs pl pu .none (by simp) ?_ (by rw[ck] <;> omega)
 rw[Cy,← hlen]
 refine ⟨.ref s.heap.objs.size,_,I.laid (t':=s.toks) (o:=.lst (qI xs lo hi)) (fun b ob q=>aI _ q) (aE _) ?_,rfl,q _ (I.hok.fresh (aE _))⟩
 exact ⟨eK (wB xs lo hi) hz,_,0,(r.drop (HT.sIx xs.length 0 lo)).take (HT.sIx xs.length xs.length hi - HT.sIx xs.length 0 lo),df _ rfl⟩
theorem ug:fK X (.builtin "len") (fun xs H Q=>∃p ys,xs=[.ref p]∧(SqL X.K H p ys∨SqT X.K H p ys)∧Q (.int ys.length) H):=by
 intro pins s σ H xs us Q I r h
 obtain ⟨p,ys,rfl,hq,q⟩:=h
 obtain ⟨u,rfl,rx⟩:=vals1 r
 cases rx
 have hn:=uM
 rcases hq with hq | hq
 · obtain ⟨its,r',pl,hz⟩:=I.list hq
   have hlen:=r'.length
   exact Calls.call_len_list pl.isList (by simp only[ck] <;> omega) ⟨.int ys.length,H,I.tok _,⟨s.toks+1,by rw[ck,hlen]⟩,q⟩
 · obtain ⟨its,r',pl,hz⟩:=I.tuple hq
   have hlen:=r'.length
   exact len_tuple pl (by simp only[ck] <;> omega) ⟨.int ys.length,H,I.tok _,⟨s.toks+1,by rw[ck,hlen]⟩,q⟩
theorem Ek:fK X (.builtin "len") (fun xs H Q=>∃z,xs=[.str z]∧z.length≤bp∧Q (.int z.length) H):=by
 intro pins s σ H xs us Q I r h
 obtain ⟨z,rfl,hz,q⟩:=h
 obtain ⟨u,rfl,t,rfl⟩:=vals1 r
 have hn:=uM
 exact len_str (by omega) ⟨.int z.length,H,I.tok _,⟨_,rfl⟩,q⟩
theorem vg:fK X (.type "list") (fun xs H Q=>∃p ys,xs=[.ref p]∧(SqL X.K H p ys∨SqT X.K H p ys)∧∀l,H l=none→Q (.ref l) (upd H l (.lst ys))):=by
 intro pins s σ H xs us Q I r h
 obtain ⟨p,ys,rfl,hq,q⟩:=h
 obtain ⟨u,rfl,rx⟩:=vals1 r
 cases rx
 have fin:∀(its:List ai),Vals ys its→ys.length≤bp→∀(h':Heap) (c':Nat),(∀b o',s.heap.get? b=some o'→h'.get? b=some o') →
  h'.get? s.heap.objs.size=some { cls:=.type "list",dict:=none,data:=.seq its.toArray c',slots:=#[] }→EP X pins σ Q (.ref s.heap.objs.size) { s with heap:=h' }:=fun its r' hz h' c' kp e=>
  ⟨.ref s.heap.objs.size,_,I.laid (t':=s.toks) kp (aE _) (show fJ X.prog X.w _ h' _ (.lst ys) from ⟨hz,its,c',r',e⟩),rfl,q _ (I.hok.fresh (aE _))⟩
 rcases hq with hq | hq
 · obtain ⟨its,r',pl,hz⟩:=I.list hq
   have hlen:=r'.length
   obtain ⟨o,ho,hc,n,hd⟩:=pl.isList
   exact call_list_seq p (.inl rfl) ho hc hd (fun h' c' kp e=>fin its r' hz h' c' kp e) (by simp only[ck] <;> omega)
 · obtain ⟨its,r',pl,hz⟩:=I.tuple hq
   have hlen:=r'.length
   obtain ⟨o,ho,hc,n,hd⟩:=pl
   exact call_list_seq p (.inr rfl) ho hc hd (fun h' c' kp e=>fin its r' hz h' c' kp e) (by simp only[ck] <;> omega)
theorem tY:fK X (.type "tuple") (fun xs H Q=>∃p ys,xs=[.ref p]∧((SqL X.K H p ys∧∀l,H l=none→Q (.ref l) (upd H l (.tup ys)))∨(SqT X.K H p ys∧Q (.ref p) H))):=by
 intro pins s σ H xs us Q I r h
 obtain ⟨p,ys,rfl,h⟩:=h
 obtain ⟨u,rfl,rx⟩:=vals1 r
 cases rx
 rcases h with ⟨hq,q⟩ | ⟨hq,q⟩
 · obtain ⟨its,r',pl,hz⟩:=I.list hq
   have hlen:=r'.length
   refine call_tuple_list pl.isList (fun h' kp=>?_) (by simp only[ck] <;> omega)
   have I1:Inv X pins σ H { s with heap:=h' }:=I.kept (t':=s.toks) kp
   have I2:Inv X pins σ (upd H h'.objs.size (.tup ys)) { s with heap:=h'.push { cls:=.type "tuple",data:=.seq its.toArray } }:=
    I1.laid (t':=s.toks) (fun b o e=>aI _ e) (aE _) (show fJ X.prog X.w _ _ _ (.tup ys) from ⟨hz,its,r',IsTup.new _ _⟩)
   exact ⟨.ref h'.objs.size,_,I2,rfl,q _ (I1.hok.fresh (aE _))⟩
 · obtain ⟨its,r',pl,hz⟩:=I.tuple hq
   exact call_tuple_same pl ⟨.ref p,H,I,rfl,q⟩
noncomputable def tyV (K:ag) (T:String) (x:V) (H:Hp):Prop:=match x with
 | .str _=>T = "str"
 | .int _=>T = "int"
 | .ref p=>(T = "list" ∧ ∃xs,SqL K H p xs)∨(T = "tuple" ∧ ∃o,K.lookup p=some o∧o.cls = .type "tuple" ∧ o.dict=none) ∨
  (T = "dict" ∧ ((∃kvs,H p=some (.dK kvs))∨∃kvs,H p=some (.dT kvs)))∨(T = "set" ∧ ∃S n,H p=some (.set S n))
 | _=>False
theorem Xc {pins:List (Addr×Obj)}{σ:St}{H:Hp}{s:ar}{T:String}{x:V}{v:ai} (I:Inv X pins σ H s) (r:RelV x v) (ty:tyV X.K T x H) :
 s.TypeIs v T∧∀a,v = .ref a→∃ob,s.heap.get? a=some ob∧ob.dict=none:=by
 cases x with
 | str z=>
  obtain ⟨t,rfl⟩:=r
  cases (show T = "str" from ty)
  exact ⟨typeIs_str s z t,fun _ e=>nomatch e⟩
 | int i=>
  obtain ⟨t,rfl⟩:=r
  cases (show T = "int" from ty)
  exact ⟨typeIs_int s i t,fun _ e=>nomatch e⟩
 | ref p=>
  cases r
  rcases ty with ⟨rfl,xs,hq⟩ | ⟨rfl,o,hk,hc,hd⟩ | ⟨rfl,hk⟩ | ⟨rfl,S,n,hk⟩
  · obtain ⟨its,_,pl,_⟩:=I.list hq
    refine ⟨pl.isList.typeIs,fun a e=>?_⟩
    cases e
    obtain ⟨o,n,e,c,hd,_⟩:=pl
    exact ⟨o,e,hd⟩
  · refine ⟨⟨o,I.kIn p o hk,hc⟩,fun a e=>?_⟩
    cases e
    exact ⟨o,I.kIn _ o hk,hd⟩
  · have z:∃o,s.heap.get? p=some o∧o.ExactDict:=by
     rcases hk with ⟨kvs,hk⟩ | ⟨kvs,hk⟩
     · obtain ⟨_,_,_,_,o,_,_,e,ex,_⟩:=I.hok p _ hk
       exact ⟨o,e,ex⟩
     · obtain ⟨_,_,_,_,o,_,_,e,ex,_⟩:=I.hok p _ hk
       exact ⟨o,e,ex⟩
    obtain ⟨o,e,ex⟩:=z
    refine ⟨⟨o,e,ex.1⟩,fun a e2=>?_⟩
    cases e2
    exact ⟨o,e,ex.2.1⟩
  · obtain ⟨o,_,_,_,e,ex,_⟩:=I.hok p _ hk
    refine ⟨⟨o,e,ex.1⟩,fun a e2=>?_⟩
    cases e2
    exact ⟨o,e,ex.2.1⟩
 | _=>exact oD ty
noncomputable def tBM (K:ag) (T:String) (r:V→List V→Hp→VK→Prop) (to:TE) (t:TA):TE:=fun σ H Q=>to σ H fun x H1=>tyV K T x H1∧t σ H1 fun xs H2=>r x xs H2 Q
variable {o e:Expr}{es:List Expr}{to:TE}{t:TA}{name:Str}{apos cpos:Pos}{T id:String}{r:V→List V→Hp→VK→Prop}
theorem CP (pa:PlainAttrs T) (slot:Slot T name id) (hty:typeOf (.builtin id)=pure (.type "method_descriptor")) (hm:MtR X id r) (ho:PE X o to) (ha:PA X (e::es) t)
 (hbase:uS o name X.env (eval o X.env)=eval o X.env:=by rfl)
 (hfew:((oC cpos (d4 (e::es) X.env)).all (fun x=>!x.1)&&(backToKw cpos (x9 [] X.env)).all (fun x=>x.1.isSome)
  && decide ((e::es).length+([]:List uu).length+(if ([]:List uu).isEmpty then 0 else 1) < 30))=true:=by rfl)
 (hline:(apos.endLine == cpos.line)=true:=by rfl) (hs:d4 (e::es) X.env=(false,eval e X.env)::d4 es X.env:=by rfl) (hplain:(oC cpos (d4 es X.env)).any (·.1)=false:=by rfl) :
 PE X (.Call (.Attribute o name apos) (e::es) [] cpos) (tBM X.K T r to t):=by
 intro pins s σ H Q I h
 refine wpAny_Call_method_late hbase hfew hline rfl (thn (ho pins s σ H _ I h) fun v s1 aA=>?_)
 obtain ⟨x,H1,I1,r1,ty,q1⟩:=aA
 obtain ⟨h1,h2⟩:=Xc I1 r1 ty
 refine ⟨T,id,pa,slot,hty,h1,h2,?_⟩
 have hA:=ha cpos pins s1 σ H1 _ I1 q1
 rw[hs] at hA ⊢
 refine Calls.callWith_builtin (by show (false||(oC cpos (d4 es X.env)).any (·.1))=false;rw[hplain] <;> rfl) (Calls.evalArgs_plain ?_)
 exact thn hA fun us s2 ⟨vs,H2,I2,r2,q2⟩=>hm pins s2 σ H2 x vs v us Q I2 r1 r2 q2
end
noncomputable def MtM (X:Cx) (id:String) (r:V→List V→Hp→VK→Prop):Prop:=
 ∀(pins:List (Addr×Obj)) (s:ar) (σ:St) (H:Hp) (x:V) (xs:List V) (v:ai) (us:List ai) (Q:VK),Inv X pins σ H s→RelV x v→Vals xs us→r x xs H Q →
  bP (bt X.prog X.w) X.A (call (.builtin id) (v::us)) (EP X pins σ Q) X.xe s
theorem Vals.one {x:V}{us:List ai} (h:Vals [x] us):∃u,us=[u]∧RelV x u:=by
 cases h with
 | cons r t=>cases t;exact ⟨_,rfl,r⟩
theorem Vals.two {x y:V}{us:List ai} (h:Vals [x,y] us):∃u v,us=[u,v]∧RelV x u∧RelV y v:=by
 cases h with
 | cons r t=>
  cases t with
  | cons q t=>cases t;exact ⟨_,_,rfl,r,q⟩
theorem Vals.eraseIdx:∀{xs:List V}{us:List ai} (i:Nat),Vals xs us→Vals (xs.eraseIdx i) (us.eraseIdx i)
 | _,_,_,.nil=>.nil
 | _,_,0,.cons _ t=>t
 | _,_,i+1,.cons r t=>.cons r (Vals.eraseIdx i t)
theorem Vals.rep {xs:List V}{us:List ai} (h:Vals xs us):∀k:Nat,Vals (b9 k xs).flatten (b9 k us).flatten
 | 0=>.nil
 | k+1=>by
  rw[gL,gL,kQ,kQ]
  exact Vals.append h (Vals.rep h k)
theorem An {α:Type}:∀(l:List α) (i:Nat),(l.eraseIdx i).length≤l.length
 | [],_=>aE _
 | _::_,0=>ny _
 | _::r,i+1=>zI (An r i)
theorem foldl_rep (its:List ai):∀(k:Nat) (acc:List ai),
 BQ (fun x1 x2=>x1++x2) acc.toArray (b9 k its.toArray)=(acc++(b9 k its).flatten).toArray
 | 0,acc=>by simp
 | k+1,acc=>by
  have e:acc.toArray++its.toArray=(acc++its).toArray:=by simp
  have e2:(acc++its)++(b9 k its).flatten=acc++(b9 (k+1) its).flatten:=by
   rw[gL,kQ,eB]
  rw[← e2,← foldl_rep its k (acc++its),← e,gL,kT]
section
variable {X:Cx}{pins:List (Addr×Obj)}{σ:St}{H:Hp}{s:ar}{l b:Addr}{xs ys zs:List V}
theorem Inv.Sh {its its':List ai}{n:Nat}{f:Array ai→Array ai}{t':Nat} (I:Inv X pins σ H s) (hH:H l=some (.lst xs))
 (e:s.heap.get? l=some { cls:=.type "list",data:=.seq its.toArray n }) (hf:f its.toArray=its'.toArray) (hv:Vals ys its') (hz:ys.length≤bp) :
 Inv X pins σ (upd H l (.lst ys)) { s with heap:=s.heap.update l (kA f),toks:=t' }:=by
 have q:=PySem.IsL.update e f
 rw[hf] at q
 refine I.write (x:=l) (e:=l) (by rw[hH];exact trivial) (.inl rfl) (fun b' u hb hu=>(ly s.heap (kA f) (p9 hb)).trans hu) ⟨_,q⟩ ?_
 exact ⟨hz,its',_,hv,q⟩
theorem Inv.Xz {its:List ai}{t':Nat} (I:Inv X pins σ H s) (hv:Vals ys its) (hz:ys.length≤bp) :
 Inv X pins σ (upd H s.heap.objs.size (.lst ys)) { s with heap:=s.heap.push { cls:=.type "list",data:=.seq its.toArray },toks:=t' }:=
 I.laid (fun _ _ q=>aI _ q) (aE _) ⟨hz,its,0,hv,df _ rfl⟩
theorem Inv.fresh (I:Inv X pins σ H s):H s.heap.objs.size=none:=I.hok.fresh (aE _)
theorem Inv.RP (I:Inv X pins σ H s) (hH:H l=some (.lst xs)):xs.length≤bp∧∃(its:List ai) (n:Nat),Vals xs its∧xs.length=its.length∧s.heap.get? l=some { cls:=.type "list",data:=.seq its.toArray n }:=by
 obtain ⟨z,its,n,r,e⟩:=I.hok l _ hH
 exact ⟨z,its,n,r,r.length,e⟩
theorem RT {n:Nat} (h:n≤bp):i0 n=false:=by
 unfold i0
 exact decide_eq_false (by omega)
end
section
variable {X:Cx}
noncomputable def Vc:V→List V→Hp→VK→Prop:=fun x vs H Q=>∃l xs y,x = .ref l∧vs=[y]∧H l=some (.lst xs)∧xs.length < bp∧Q .non (upd H l (.lst (xs++[y])))
theorem uT:MtM X "list.append" Vc:=by
 intro pins s σ H x vs v us Q I rx rv h
 obtain ⟨l,xs,y,rfl,rfl,hH,hz,q⟩:=h
 cases rx
 obtain ⟨u,rfl,ru⟩:=rv.one
 obtain ⟨z,its,n,r,hl,e⟩:=I.RP hH
 refine call_meets sQ ⟨_,e,rfl⟩ F.entry_list_append (F.args_list_append_2 _ _) (PySem.list_append l its.toArray n u (by rw[ck];omega)) ⟨e,?_⟩
 refine ⟨.non,_,I.Sh (its':=its++[u]) hH e (by simp) (r.append (.cons ru .nil)) ?_,rfl,q⟩
 rw[ay,iN]
 omega
noncomputable def Yd:V→List V→Hp→VK→Prop:=fun x vs H Q=>∃l xs i k y,x = .ref l∧vs=[.int i]∧H l=some (.lst xs) ∧ -(2^63)≤i∧i < 2^63∧seqIndex? i xs.length=some k∧xs[k]?=some y∧Q y (upd H l (.lst (xs.eraseIdx k)))
theorem PN:MtM X "list.pop" Yd:=by
 intro pins s σ H x vs v us Q I rx rv h
 obtain ⟨l,xs,i,k,y,rfl,rfl,hH,h1,h2,hk,hy,q⟩:=h
 cases rx
 obtain ⟨u,rfl,ru⟩:=rv.one
 obtain ⟨t,rfl⟩:=ru
 obtain ⟨z,its,n,r,hl,e⟩:=I.RP hH
 obtain ⟨w,hw,rw'⟩:=r.get hy
 refine call_meets F.slot_list_pop ⟨_,e,rfl⟩ F.entry_list_pop (F.args_list_pop_2 _ _)
  (MeetsSeq.list_pop_at l its.toArray n i t k w (fitsIndex_both h1 h2) (by rw[ck,← hl];exact hk) (by rw[← ft];exact hw) (by rw[ck];omega)) ⟨e,?_⟩
 refine ⟨y,_,I.Sh (its':=its.eraseIdx k) hH e ?_ (r.eraseIdx k) ?_,rw',q⟩
 · show its.toArray.eraseIdxIfInBounds k=(its.eraseIdx k).toArray
   rw[List.eraseIdxIfInBounds_toArray]
 · have:=An xs k
   omega
theorem len_rep {α:Type} (xs:List α) (k:Nat):(b9 k xs).flatten.length=k*xs.length:=by
 induction k with
 | zero=>simp
 | succ k ih=>rw[gL,kQ,ay,ih,AK,BY]
end
section
variable {prog:cw}{w:eI}{A:eo}{E:ai→ar→Prop}{s:ar}
end
section
variable {X:Cx}
end
end L2
namespace Att
open PySem PySem.W PySem.Calls PyProof.Rows
theorem yR {P:Params}{h:Heap}:∀(ns:List Int) (vs:List ai),WellAll P h vs (ns.map WData.int)→lx vs ns:=by
 intro ns
 induction ns with
 | nil=>
  intro vs w
  rw[jI] at w
  cases w
  exact .nil
 | cons n ns ih=>
  intro vs w
  rw[dk] at w
  cases w with
  | cons a b=>
   cases a
   exact .cons _ _ (ih _ b)
theorem Oa {l:ve}{n:Nat} (hn:l.most=some n) {P:Params}{h:Heap}{args:List WData}{vals:List ai}
 (hpre:l.row.toRowW.claim.pre args=true) (hwl:WellAll P h vals args) :
 ∃a vs ns,vals=[dQ a]∧args=[WData.list (ns.map WData.int)]∧h.get? a=some { cls:=.type "list",data:=.seq vs.toArray }∧lx vs ns∧ns.length≤n:=by
 have hsh:WShape.hasAll [] args [.list .int]=true:=(pre_splitW hpre).1
 have hc:l.pre.holds [] { args:=args }=true:=(pre_splitW hpre).2
 obtain ⟨d,r,rfl,h1,h2⟩:=hasAllW_cons hsh
 obtain rfl:=hasAllW_nil h2
 obtain ⟨xs,rfl,h3⟩:=hasW_list h1
 obtain ⟨ns,rfl⟩:=items_int h3
 have hlen:ns.length≤n:=by
  unfold OpenLaw.pre at hc
  have h4:(WTm.not (.lt (.lit (.int (n:Int))) (.len (.arg 0)))).holds [] { args:=[.list (ns.map .int)] }=true:=by
   have h4:=(holds_andW hc).1
   rw[hn] at h4
   exact h4
  have h5:=condW_of h4 (w_not (w_lt w_lit (w_len_list (w_arg rfl))))
  rw[aw] at h5
  refine zS fun q=>?_
  have q':(n:Int) < ((ns.length:Nat):Int):=by omega
  first
   | (rw[decide_eq_true q'] at h5;exact absurd h5 (by decide))
   | (simp at h5;omega)
 cases hwl with
 | cons w1 w2=>
  cases w2
  cases w1 with
  | list ho hall=>exact ⟨_,_,ns,rfl,rfl,ho,yR ns _ hall,hlen⟩
theorem Mh (l:ve) (args:List WData):l.row.toRowW.claim.post args (.bool true) args=true:=
 postW_of (r:=l.row.toRowW) (X:=(true == true))
  (show WShape.has [] (.bool true) .bool=true by first | rfl | decide | simp[WShape.has,WShape.arms,WShape.armsAll])
  (show (WTm.eq .res (.lit (.bool true))).value [] { args:=args,res:=some (.bool true),after:=args }=some (.bool (true == true)) from w_eq_bool (w_res rfl) w_lit) rfl
theorem Hg {l:ve}{n:Nat}{q:cw}{loose:List Str}{XP:(Str→Option ai)→Heap→Prop}{YP:eI→Heap→Prop}{d:DefRec}
 (hn:l.most=some n) (hdf:d.params.defaults=[])
 (call:∀(w:eI) (s₀ s₁:ar) (mg mb:Str→Option ai) (fa:Addr) (o:Obj) (pm cd doc:ai) (a:Addr) (vs:List ai) (ns:List Int),
  Ground q loose [] XP w s₀ mg mb s₁.heap→YP w s₁.heap →
  s₁.heap.get? fa=some o→o.data = .func (docDef d.name d.params d.body d.scope pm cd doc)→s₁.heap.CodeRec cd d.name→mg d.name=some (.ref fa) →
  s₁.heap.get? a=some { cls:=.type "list",data:=.seq vs.toArray }→lx vs ns→ns.length≤n→s₁.gens=#[] →
  uk (bt l.prog w) BF (.call (.ref fa) ⟨[.ref a],[]⟩) (fun r s'=>r = .ok (.ret (.bool true))∧OldK s₁.heap s'.heap∧s'.os=s₁.os∧vT s'.gens) s₁) :
 WalkO q loose XP YP l.row.toRowW d [] (fun f vs=>PySem.call f vs):=by
 intro w s₀ s₁ mg mb G Y fa o pm cd doc dV kV ho hd hcd hD hmg hg args vals as hpre hlay hrd hwl hlo
 obtain rfl:dV = .none:=Dflts.none hD hdf
 obtain rfl:kV = .none:=Dflts.noKw hD
 obtain ⟨a,vs,ns,rfl,rfl,hobj,hints,hlen⟩:=Oa hn hpre hwl
 refine enter_call (qS (call w s₀ s₁ mg mb fa o pm cd doc a vs ns G Y ho (fd_plain hd) hcd hmg hobj hints hlen hg) fun r s' hq=>?_)
 obtain ⟨rfl,h2,h3,h4⟩:=hq
 exact ⟨.inl ⟨.bool true,.bool true,[],rfl,fun _=>rfl,.bool true,Mh l _,fun _=>⟨zd.nil,fun _ hm=>(nomatch hm)⟩⟩,h2,h3,h4⟩
section
variable {prog:cw}{w:eI}{A:eo}{E:ai→ar→Prop}{s:ar}{K:Frag}
end
end Att
namespace L2
open PySem PySem.Spec PyProof.Rows
theorem Bj:∀{vs:List ai}{ns:List Int},lx vs ns→Vals (ns.map V.int) vs
 | _,_,.nil=>.nil
 | _,_,.cons n t h=>.cons ⟨t,rfl⟩ (Bj h)
noncomputable def Only (H:Hp):Prop:=∀b,H b=none∨∃o xs,H b=some (.frz o (.lst xs))
theorem Q0 {P:cw}{w:eI}{K:ag}{mg mb:Str→Option ai}{CX:CXT}{k:Nat}{fa a:Addr}{fd:om}{x:Str}{sp:Sp}{s₁:ar}{vs:List ai}{ns:List Int}
 (KX:K.In s₁.heap) (hns:s₁.heap.Ns b6 mg) (hb:s₁.heap.Ns builtinsNs mb) (hbb:∀x:Str,x ≠ "__name__" → mb x=bo x) (hlim:s₁.heap.NoLimit) (hg:s₁.gens=#[])
 (ha:s₁.heap.get? a=some { cls:=.type "list",data:=.seq vs.toArray }) (hi:lx vs ns) (hl:ns.length≤bp) (hr:dg k BF)
 (F:∀base:Heap,K.In base→base.Ns b6 mg→n8 P w K mg base CX k fa fd [x] sp) (hbind:∀(s:ar) (u:ai),BindsTo s fd ⟨[u],[]⟩ [(x,u)])
 (hsp:∀H:Hp,Only H→SqL K H a (ns.map V.int)→sp [.ref a] H (fun v _=>v = .bl true) fun _ _ _=>False)
 (hCX:∀H e s',CX [] H s₁ (fun _ _ _=>False) e s'→False) :
 uk (bt P w) BF (.call (.ref fa) ⟨[.ref a],[]⟩) (fun r s'=>r = .ok (.ret (.bool true))∧OldK s₁.heap s'.heap∧s'.os=s₁.os∧vT s'.gens) s₁:=by
 have rv:=Bj hi
 have lenV:=hi.length
 have core:∀H:Hp,Only H→SqL K H a (ns.map V.int)→HOk P w H s₁.heap→(∀b,H b≠none→b=a)→(H a≠none→K.lookup a=none) →
  uk (bt P w) BF (.call (.ref fa) ⟨[.ref a],[]⟩) (fun r s'=>r = .ok (.ret (.bool true))∧OldK s₁.heap s'.heap∧s'.os=s₁.os∧vT s'.gens) s₁:=by
  intro H hO hS hok hA hK
  have Hx:∀{b:Addr}{o:Obj},s₁.heap.get? b=some o→H b=none→(tH s₁.heap H).get? b=some o:=fun e n=>RD e n
  have noA:∀{b:Addr}{o:Obj}{es:Array DictEntry}{ep:Nat},s₁.heap.get? b=some o→o.data = .dict es ep→H b=none:=fun {b o es ep} e d=>by
   cases q:H b with
   | none=>rfl
   | some u=>
    have e':b=a:=hA b (by rw[q];simp)
    subst e'
    rw[ha] at e;cases e
    have d':Data.seq vs.toArray _=Data.dict es ep:=d
    cases d'
  have nsK:∀{b:Addr}{m:Str→Option ai},s₁.heap.Ns b m→(tH s₁.heap H).Ns b m:=fun {b m} ⟨o,es,ep,e,d,r⟩=>⟨o,es,ep,Hx e (noA e d),d,r⟩
  have hKb:K.In (tH s₁.heap H):=fun b o e=>Hx (KX b o e) (by
   cases q:H b with
   | none=>rfl
   | some u=>
    have e':b=a:=hA b (by rw[q];simp)
    subst e'
    rw[hK (by rw[q];simp)] at e;cases e)
  have hM:Mod K mg (tH s₁.heap H):=⟨hKb,nsK hns,⟨mb,nsK hb,hbb⟩,let ⟨mc,h1,h2⟩:=hlim;⟨mc,nsK h1,h2⟩⟩
  have e0:JD P w K mg (tH s₁.heap H) BF [] s₁ H:=⟨rfl,hM,fun b o e=>V4 e,Nat.le_of_eq (Mf _ _),trivial,fun b hb=>absurd (show b∈([]:List Addr) from hb) (by simp),hok,.of_eq hg⟩
  refine qS ((F _ hKb (nsK hns)).run BF [] s₁ H ⟨[.ref a],[]⟩ [.ref a] [.ref a] _ _ hr e0 (hbind s₁ (.ref a)) (.cons rfl .nil) (hsp H hO hS)) fun r s' h=>?_
  cases r with
  | error e=>exact (hCX H e s' h).elim
  | ok fl=>
   cases fl with
   | next=>exact oD h
   | brk=>exact oD h
   | cont=>exact oD h
   | ret u=>
    obtain ⟨v,H',os,bare,un,hok',r',q⟩:=h
    have q':v = .bl true:=q
    subst q'
    obtain rfl:u=ai.bool true:=r'
    refine ⟨rfl,OldK.of_keep fun b o e=>?_,os,bare⟩
    cases q:H b with
    | none=>exact un.keep b o e q (by intro z;exact absurd (show b∈([]:List Addr) from z) (by simp)) (by simp)
    | some u=>
     rcases hO b with z | ⟨ob,xs,z⟩
     · rw[q] at z;cases z
     · have z2:=un.j8 b ob _ z
       obtain ⟨e1,_⟩:=hok b _ z
       obtain ⟨e2,_⟩:=hok' b _ z2
       rw[e] at e1;cases e1
       exact e2
 cases hk:K.lookup a with
 | some o=>
  have e:=KX a o hk
  rw[ha] at e
  cases e
  refine core (fun _=>none) (fun _=>.inl rfl) (.inr ⟨_,vs.toArray,_,hk,rfl,rfl,rfl,by rw[ck,lenV];exact hl,by simpa using rv⟩) (fun b u z=>by have z':(none:Option HO)=some u:=z;cases z') (fun b z=>absurd rfl z) fun z=>absurd rfl z
 | none=>
  refine core (fun b=>if b=a then some (.frz { cls:=.type "list",data:=.seq vs.toArray } (.lst (ns.map V.int))) else none) (fun b=>?_) (.inl (.inr ⟨{ cls:=.type "list",data:=.seq vs.toArray },if_pos rfl⟩)) (fun b u z=>?_) (fun b z=>?_) fun _=>hk
  · by_cases hb:b=a
    · exact .inr ⟨_,_,if_pos hb⟩
    · exact .inl (if_neg hb)
  · by_cases hb:b=a
    · have z':=(if_pos hb).symm.trans z
      cases z'
      subst hb
      exact ⟨ha,by rw[aw];exact hl,vs,_,rv,ha⟩
    · have z':=(if_neg hb).symm.trans z
      cases z'
  · by_cases hb:b=a
    · exact hb
    · exact absurd (if_neg hb) z
theorem T3 {l:ve}{n k:Nat}{q:cw}{loose:List Str}{XP:(Str→Option ai)→Heap→Prop}{YP:eI→Heap→Prop}{d:DefRec}{K:Params→ag}{CX:eI→CXT}{sp:eI→Sp}{x:Str}
 (hn:l.most=some n) (hn2:n≤bp) (hdf:d.params.defaults=[]) (hr:dg k BF)
 (hY:∀(w:eI) (h:Heap),YP w h→(K w.params).In h)
 (F:∀(w:eI) (mg:Str→Option ai) (fa:Addr) (h:Heap),(K w.params).In h→h.Ns b6 mg→mg d.name=some (.ref fa) →
  ∃fd:om,(∀(s:ar) (u:ai),BindsTo s fd ⟨[u],[]⟩ [(x,u)]) ∧
   ∀base:Heap,(K w.params).In base→base.Ns b6 mg→n8 l.prog w (K w.params) mg base (CX w) k fa fd [x] (sp w))
 (hsp:∀(w:eI) (H:Hp) (a:Addr) (ns:List Int),ns.length≤n→Only H→SqL (K w.params) H a (ns.map V.int)→sp w [.ref a] H (fun v _=>v = .bl true) fun _ _ _=>False)
 (hCX:∀(w:eI) (H:Hp) (s:ar) (e:ai) (s':ar),CX w [] H s (fun _ _ _=>False) e s'→False) :
 PySem.W.WalkO q loose XP YP l.row.toRowW d [] (fun f vs=>PySem.call f vs):=by
 refine Att.Hg hn hdf fun w s₀ s₁ mg mb fa o pm cd doc a vs ns G Y ho hd hcd hmg hobj hints hlen hg=>?_
 have KX:=hY w _ Y
 obtain ⟨fd,hb,hF⟩:=F w mg fa _ KX G.T.g hmg
 exact Q0 KX G.T.g G.T.b G.T.builtins G.T.nolimit hg hobj hints (eK hlen hn2) hr hF hb (fun H hO hS=>hsp w H a ns hlen hO hS) fun H e s'=>hCX w H s₁ e s'
noncomputable def bc (s:Stmt):Arguments:=match s with
 | .FunctionDef _ a _ _ _ _ _ _ _ _=>a
 | _=>{ posonlyargs:=[],args:=[],vararg:=none,kwonlyargs:=[],kw_defaults:=[],kwarg:=none,defaults:=[] }
noncomputable def aU (s:Stmt):List Stmt:=match s with
 | .FunctionDef _ _ b _ _ _ _ _ _ _=>b
 | _=>[]
noncomputable def aC (s:Stmt):si:=match s with
 | .FunctionDef _ _ _ _ _ _ sc _ _ _=>sc
 | _=>{ kind:=.function,names:=[],isGenerator:=false,isCoroutine:=false }
noncomputable abbrev CX0:CXT:=fun _ _ _ _ _ _=>False
noncomputable abbrev E0:XK:=fun _ _ _=>False
theorem ZP {X:Cx}:Passes CX0 X E0:=fun _ _ _ _ _ _ _ h=>h.elim
structure Fun (K:ag) (x qual:Str) (st:Stmt) (f:Addr) (fd:om):Prop where
 ex:∃(oc:ai) (od:Option Addr) (kV doc pm:ai) (an:Option Addr) (cdv ct:ai) (osl:Array (Option ai)),
  fd=cf x qual (bc st) (aU st) (aC st) .none kV doc pm an cdv ct∧K.lookup f=some ⟨oc,od,.func fd,osl⟩∧eu K cdv qual=true
 kp:dS K (.ref f)=true
section
variable {P:cw}{w:eI}{K:ag}{mg:Str→Option ai}{base:Heap}
theorem Fun.ok {x qual:Str}{st:Stmt}{f:Addr}{fd:om}{N ps:List Str}{k:Nat}{sp:Sp} (F:Fun K x qual st f fd) (S:bL N ps (aC st)) (len:∀vs H Q E,sp vs H Q E→vs.length=ps.length)
 (hbody:∀(cdv:ai) (A:eo) (outer:List Env) (s:ar) (H:Hp) (vs:List V) (Q:VK) (E:XK),dg k (A.deeper (iX qual (aC st) s.heap.objs.size f cdv))→sp vs H Q E →
  ∃t,PSs (kh CX0 P w K mg base N qual (aC st) f cdv A outer s H E).nox (aU st) t∧t { nx:=fun _ H'=>Q .non H',rt:=Q } (start N vs) H):n8 P w K mg base CX0 (k+1) f fd ps sp:=by
 obtain ⟨oc,od,kV,doc,pm,an,cdv,ct,osl,rfl,lk,hcd⟩:=F.ex
 refine S7 lk hcd S len fun A outer s H vs Q E hr hsp=>?_
 obtain ⟨t,h,q⟩:=hbody cdv A outer s H vs Q E hr hsp
 exact ⟨t,h.nox,q⟩
theorem Fun.binds {x qual:Str}{st:Stmt}{f:Addr}{fd:om}{ps:List Str} (F:Fun K x qual st f fd)
 (h:∀(kV doc pm:ai) (an:Option Addr) (cdv ct:ai) (us:List ai),us.length=ps.length→kL (cf x qual (bc st) (aU st) (aC st) .none kV doc pm an cdv ct) ⟨us,[]⟩=pure (ps.zip us)):Binds K fd ps []:=by
 obtain ⟨oc,od,kV,doc,pm,an,cdv,ct,osl,rfl,lk,hcd⟩:=F.ex
 exact .all (h kV doc pm an cdv ct)
theorem Du {x qual:Str}{st:Stmt}{f:Addr}{oc:ai}{od an:Option Addr}{osl:Array (Option ai)}{kV doc pm cdv ct:ai} (l:K.lookup f=some ⟨oc,od,.func (cf x qual (bc st) (aU st) (aC st) .none kV doc pm an cdv ct),osl⟩)
 (c:eu K cdv qual=true) (k:dS K (.ref f)=true):Fun K x qual st f (cf x qual (bc st) (aU st) (aC st) .none kV doc pm an cdv ct):=⟨⟨oc,od,kV,doc,pm,an,cdv,ct,osl,rfl,l,c⟩,k⟩
end
section
variable {X:Cx}
end
theorem wZ {A B:Prop} (h:B):if false=true then A else B:=by
 rw[if_neg ky]
 exact h
theorem uL {A B:Prop} (h:A):if true=true then A else B:=by
 rw[if_pos rfl]
 exact h
noncomputable def aH (H H':Hp):Prop:=∀b o,H b=some o→H' b=some o
theorem aH.refl (H:Hp):aH H H:=fun _ _ h=>h
theorem aH.trans {H H1 H2:Hp} (a:aH H H1) (b:aH H1 H2):aH H H2:=fun c o h=>b c o (a c o h)
theorem aH.free {H H':Hp} (e:aH H H') {l:Addr} (h:H' l=Option.none):H l=Option.none:=by
 cases q:H l with
 | none=>rfl
 | some o=>
  rw[e l o q] at h
  cases h
theorem aH.seq {K:ag}{H H':Hp}{a:Addr}{xs:List V} (e:aH H H') (h:SqL K H a xs):SqL K H' a xs:=by
 rcases h with (h | ⟨o,h⟩) | h
 · exact .inl (.inl (e _ _ h))
 · exact .inl (.inr ⟨o,e _ _ h⟩)
 · exact .inr h
end L2
set_option maxHeartbeats 4000000
namespace L2
open PySem PySem.Spec PyProof.Rows
noncomputable def Cx.comp (X:Cx) (scope:si) (tn:List Str) (ix:List Nat) (cl:List (Str×Addr)) (C:Addr) (s₂:ar) (H₂:Hp) (fp:List Addr):Cx where
 prog:=X.prog
 w:=X.w
 K:=X.K
 mg:=X.mg
 base:=X.base
 A:=X.A
 N:=tn++ix.map fun i=>X.N.getD i Str.empty
 s₀:=s₂
 H₀:=H₂
 env:=compEnvC scope cl C X.env
 outer:=X.stack
 stack:=X.stack
 ex:=fp
 fn:=fun x=>scope.names.lookup x == some .cell
 calm:=X.calm
 pn:=[]
 xe:=fun _ _=>False
noncomputable def qR (tn:List Str) (ix:List Nat) (σ:St):St:=b9 tn.length none++ix.map fun i=>(σ[i]?).join
noncomputable def pX (X:Cx) (ifs:List Expr) (t:TT):Prop:=
 ∀(pins:List (Addr×Obj)) (s:ar) (σ:St) (H:Hp) (Q:Bool→Hp→Prop),Inv X pins σ H s→t σ H Q →
  bP (bt X.prog X.w) X.A (forIn ifs true fun c r=>if r=true then do let ok ← isTrue c X.env (eval c X.env);pure (na ok) else pure (na r)) (TP X pins σ Q) X.xe s
noncomputable def aaK:TT:=fun _ H Q=>Q true H
theorem Qq {X:Cx}:pX X [] aaK:=fun _ _ _ H _ I h=>wpAny_tests_nil ⟨H,I,h⟩
theorem SQ {X:Cx}{c:Expr}{t:TT} (h:PT X c t):pX X [c] t:=fun pins s σ H Q I q=>wpAny_tests_one (h pins s σ H Q I q)
noncomputable def Wf (tn:List Str) (ix:List Nat) (g:TG) (tt:TT) (te:TE) (σ:St) (Q:VK) (J:It) (H1:Hp):Prop:=∀D,H1 D=none →
 ∃W:Nat→Nat→St→List V→Hp→Prop,(∃m,W 0 m (qR tn ix σ) [] (upd H1 D (.lst [])))∧∀i m σb acc H2,W i m σb acc H2→H2 D=some (.lst acc) ∧
  ((
   J.stop i H2∧Q (.ref D) H2)∨(J.go i H2∧acc.length < bp∧∀x H3,J.yld i H2 x H3→g x σb H3 fun σ4 H4=>tt σ4 H4 fun b H5=>
   if b=true then te σ4 H5 fun v H6=>H6 D=some (.lst acc)∧∃m',m' < m∧W (i+1) m' σ4 (acc++[v]) (upd H6 D (.lst (acc++[v]))) else ∃m',m' < m∧W (i+1) m' σ4 acc H5))
noncomputable def Dd (tn:List Str) (ix:List Nat) (wi:TI) (g:TG) (tt:TT) (te:TE):TE:=fun σ H Q=>wi σ H (Wf tn ix g tt te σ Q)
theorem Cr {scope:si}{env:Env} (h:∀x∈scope.names,x.2 = .free→∃c,env.cells.lookup x.1=some c) :
 ∃cl,closureFor scope env=pure cl∧(∀x c,cl.lookup x=some c→env.cells.lookup x=some c)∧∀x∈scope.names,x.2 = .free→∃c,cl.lookup x.1=some c:=by
 have all:∀(l:List (Str×iS)) (acc:List (Str×Addr)),(∀x∈l,x.2 = .free→∃c,env.cells.lookup x.1=some c)→(∀x c,acc.lookup x=some c→env.cells.lookup x=some c) →
  ∃cl,(forIn l acc fun (x:Str×iS) (r:List (Str×Addr))=>(if (x.2 == iS.free)=true then (do let a ← cellOf env x.1;pure (na ((x.1,a)::r))) else pure (na r):Sem (ForInStep (List (Str×Addr)))))=pure cl ∧
   (∀x c,cl.lookup x=some c→env.cells.lookup x=some c)∧(∀x∈l,x.2 = .free→∃c,cl.lookup x.1=some c)∧∀x,(∃c,acc.lookup x=some c)→∃c,cl.lookup x=some c:=by
  intro l
  induction l with
  | nil=>intro acc _ ha;exact ⟨acc,rfl,ha,fun x hx=>absurd hx (by simp),fun x hx=>hx⟩
  | cons y r ih=>
   intro acc hl ha
   obtain ⟨n,k⟩:=y
   by_cases hk:k = .free
   · subst hk
     obtain ⟨c,hc⟩:=hl (n,.free) (by simp) rfl
     have ha':∀x c',List.lookup x ((n,c)::acc)=some c'→env.cells.lookup x=some c':=fun x c' e=>by
      rw[kB] at e
      cases hx:x == n with
      | true=>
       rw[hx] at e
       have e1:x=n:=beq_iff_eq.mp hx
       cases e
       rw[e1]
       exact hc
      | false=>rw[hx] at e;exact ha x c' e
     obtain ⟨cl,e1,e2,e3,e4⟩:=ih ((n,c)::acc) (fun x hx=>hl x (bg _ hx)) ha'
     have ec:cellOf env n=pure c:=by unfold cellOf;rw[hc]
     refine ⟨cl,?_,e2,fun x hx hf=>?_,fun x ⟨c',hc'⟩=>?_⟩
     · rw[rX]
       simp only[ec,beq_self_eq_true,if_true,pure_bind]
       exact e1
     · rcases be.mp hx with rfl | hx
       · exact e4 n ⟨c,by simp⟩
       · exact e3 x hx hf
     · refine e4 x ?_
       rw[kB]
       cases x == n with
       | true=>exact ⟨c,rfl⟩
       | false=>exact ⟨c',hc'⟩
   · have hb:(k == iS.free)=false:=by simpa using hk
     obtain ⟨cl,e1,e2,e3,e4⟩:=ih acc (fun x hx=>hl x (bg _ hx)) ha
     refine ⟨cl,?_,e2,fun x hx hf=>?_,e4⟩
     · rw[rX]
       simp only[hb,aT,if_false,pure_bind]
       exact e1
     · rcases be.mp hx with rfl | hx
       · exact absurd hf hk
       · exact e3 x hx hf
 obtain ⟨cl,e1,e2,e3,_⟩:=all scope.names [] h (fun x c e=>by simp at e)
 refine ⟨cl,?_,e2,e3⟩
 unfold closureFor
 refine Eq.trans (b:=forIn scope.names ([]:List (Str×Addr)) _ >>= pure) rfl ?_
 have e0:=congrArg (· >>= (pure:List (Str×Addr)→Sem (List (Str×Addr)))) e1
 first
  | (simp only[pure_bind] at e0;exact e0)
  | exact e0.trans (pure_bind _ _)
theorem lZ {env:Env}:∀{names:List (Str×iS)}{x:Str},names.lookup x=some .free →
 (names.map fun (n,k)=>if (k == iS.free&&env.scope.kind == .function&&env.kindOf n == some .cell) then (n,jv) else (n,k)).lookup x=some .cell ∨
 (names.map fun (n,k)=>if (k == iS.free&&env.scope.kind == .function&&env.kindOf n == some .cell) then (n,jv) else (n,k)).lookup x=some .free
 | [],_,h=>by simp at h
 | (n,k)::r,x,h=>by
  have ih:=@lZ env r x
  show List.lookup x ((if (k == iS.free&&env.scope.kind == .function&&env.kindOf n == some .cell)=true then (n,jv) else (n,k))::_)=_∨List.lookup x ((if (k == iS.free&&env.scope.kind == .function&&env.kindOf n == some .cell)=true then (n,jv) else (n,k))::_)=_
  cases hx:x == n with
  | true=>
   simp only[kB,hx] at h
   cases h
   by_cases hc:(iS.free == iS.free&&env.scope.kind == .function&&env.kindOf n == some .cell)=true
   · rw[if_pos hc];exact .inl (by simp[kB,hx])
   · rw[if_neg hc];exact .inr (by simp[kB,hx])
  | false=>
   simp only[kB,hx] at h
   by_cases hc:(k == iS.free&&env.scope.kind == .function&&env.kindOf n == some .cell)=true
   · rw[if_pos hc];simp only[kB,hx];exact ih h
   · rw[if_neg hc];simp only[kB,hx];exact ih h
noncomputable def iw (X:Cx) (scope:si) (ix:List Nat):Bool:=
 scope.kind == .function&&scope.names.all (fun y=>scope.names.lookup y.1 == some y.2&&(y.2 != .free||(X.env.scope.names.lookup y.1 == some .cell||X.env.scope.names.lookup y.1 == some .free))&&(y.2 != .local||scope.names.lookup y.1 == some .local)) &&
 ix.all fun i=>match X.N[i]? with
  | some x=>scope.names.lookup x == some .free
  | none=>false
structure Gj (X:Cx) (scope:si) (ix:List Nat):Prop where
 kind:scope.kind = .function
 one:∀y∈scope.names,scope.names.lookup y.1=some y.2
 free:∀y∈scope.names,y.2 = .free→X.env.scope.names.lookup y.1=some .cell∨X.env.scope.names.lookup y.1=some .free
 loc:∀y∈scope.names,y.2 = .local→scope.names.lookup y.1=some .local
 ix:∀i∈ix,∃x,X.N[i]?=some x∧scope.names.lookup x=some .free
theorem iw.of {X:Cx}{scope:si}{ix:List Nat} (h:iw X scope ix=true):Gj X scope ix:=by
 unfold iw at h
 rw[cc,cc] at h
 obtain ⟨⟨h1,h2⟩,h3⟩:=h
 rw[kC] at h2 h3
 have g:∀y∈scope.names,(scope.names.lookup y.1=some y.2∧(y.2 = .free→X.env.scope.names.lookup y.1=some .cell∨X.env.scope.names.lookup y.1=some .free))∧(y.2 = .local→scope.names.lookup y.1=some .local):=fun y hy=>by
  have q:=h2 y hy
  rw[cc,cc,kn,kn,kn] at q
  obtain ⟨⟨q1,q2⟩,q3⟩:=q
  refine ⟨⟨by simpa using q1,fun e=>?_⟩,fun e=>?_⟩
  · rcases q2 with q2 | q2 | q2
    · exact absurd e (by simpa using q2)
    · exact .inl (by simpa using q2)
    · exact .inr (by simpa using q2)
  · rcases q3 with q3 | q3
    · exact absurd e (by simpa using q3)
    · simpa using q3
 refine ⟨by simpa using h1,fun y hy=>(g y hy).1.1,fun y hy=>(g y hy).1.2,fun y hy=>(g y hy).2,fun i hi=>?_⟩
 have q:=h3 i hi
 cases e:X.N[i]? with
 | none=>rw[e] at q;cases q
 | some x=>rw[e] at q;exact ⟨x,rfl,by simpa using q⟩
section
variable {X:Cx}{pins:List (Addr×Obj)}{σ:St}{H:Hp}{s:ar}{scope:si}{tn:List Str}{ix:List Nat}{cl:List (Str×Addr)}{C D:Addr}{fp:List Addr}{h₁:Heap}{tk:Nat}
theorem Inv.block (S:Gj X scope ix) (I:Inv X pins σ H s) (qD:∀x c,cl.lookup x=some c→(X.env.cells.lookup x=some c∧scope.names.lookup x≠some .cell)∨(scope.names.lookup x=some .cell∧s.heap.objs.size≤c∧c≠D∧h₁.IsCell c none))
 (hinj:∀x y c,cl.lookup x=some c→cl.lookup y=some c→scope.names.lookup x=some .cell→scope.names.lookup y=some .cell→x=y) (acj:∀x,scope.names.lookup x=some .cell→∃c,cl.lookup x=some c) (RB:∀x∈scope.names,x.2 = .free→∃c,cl.lookup x.1=some c)
 (hfp:∀b∈fp,pY X pins H b) (hfo:∀b∈fp,∃o,s.heap.get? b=some o) (old:∀b o,s.heap.get? b=some o→h₁.get? b=some o) (hD:s.heap.objs.size≤D) (hC:s.heap.objs.size≤C) (hDC:D≠C)
 (hd:h₁.get? D=some { cls:=.type "list",data:=.seq ([]:List ai).toArray }) (hn:∃m,h₁.Ns C m) :
 Inv (X.comp scope tn ix cl C s H fp) [] (qR tn ix σ) (upd H D (.lst [])) { s with heap:=h₁,toks:=tk }:=by
 have frD:H D=none:=I.hok.fresh hD
 have frC:H C=none:=I.hok.fresh hC
 have Kv:∀x c,X.env.cells.lookup x=some c→c < s.heap.objs.size:=fun x c e=>by
  obtain ⟨v,q⟩:=I.cell x c e
  exact q.lt
 have hcl:∀x c,scope.names.lookup x=some .free→cl.lookup x=some c→X.env.cells.lookup x=some c:=fun x c hx e=>by
  rcases qD x c e with z | z
  · exact z.1
  · rw[hx] at z;cases z.1
 have ok:(X.comp scope tn ix cl C s H fp).Ok:=by
  refine ⟨I.ok.mod,S.kind,I.ok.glob,I.ok.blt,hC,fun x y c h1 h2=>?_,fun x hx=>?_,fun x c h e=>?_,I.ok.hd,I.ok.frames,.inl rfl,fun b hb=>⟨?_,fun x c e=>?_⟩,I.bs,
   eK I.ok.bsz I.sz,fun b o e hb=>?_,fun b hb hf=>?_,I.stack,I.zB⟩
  · rcases qD x c h1 with z1 | z1 <;> rcases qD y c h2 with z2 | z2
    · exact I.ok.inj x y c z1.1 z2.1
    · exact absurd (Kv x c z1.1) (n9.mpr z2.2.1)
    · exact absurd (Kv y c z2.1) (n9.mpr z1.2.1)
    · exact hinj x y c h1 h2 z1.1 z2.1
  · -- a cell or a free name of the block has its cell
    have hx':(scope.names.map fun (n,k)=>if (k == iS.free&&X.env.scope.kind == .function&&X.env.kindOf n == some .cell) then (n,jv) else (n,k)).lookup x=some .cell ∨
     (scope.names.map fun (n,k)=>if (k == iS.free&&X.env.scope.kind == .function&&X.env.kindOf n == some .cell) then (n,jv) else (n,k)).lookup x=some .free:=hx
    have hm:∃k,(x,k)∈(scope.names.map fun (n,k)=>if (k == iS.free&&X.env.scope.kind == .function&&X.env.kindOf n == some .cell) then (n,jv) else (n,k))∧(k = .cell∨k = .free):=by
     rcases hx' with h | h
     · exact ⟨_,gI h,.inl rfl⟩
     · exact ⟨_,gI h,.inr rfl⟩
    obtain ⟨k,hm,hk⟩:=hm
    obtain ⟨⟨n,k'⟩,hy,e⟩:=eh.mp hm
    dsimp only at e
    by_cases hc:(k' == iS.free&&X.env.scope.kind == .function&&X.env.kindOf n == some .cell)=true
    · rw[if_pos hc] at e
      cases e
      rw[cc,cc] at hc
      exact RB _ hy (by simpa using hc.1.1)
    · rw[if_neg hc] at e
      cases e
      rcases hk with hk | hk
      · exact acj _ (by rw[← hk];exact S.one _ hy)
      · exact RB _ hy hk
  · rcases qD x c e with z | z
    · have h:(scope.names.lookup x == some jv)=true:=h
      exact absurd (by simpa using h) z.2
    · exact z.2.1
  · intro z
    obtain ⟨o,e⟩:=hfo b hb
    exact absurd (cx (bE e) (by show s.heap.objs.size≤b;rw[z];exact hC)) (hZ _)
  · rcases qD x c e with z | z
    · exact (hfp b hb).2.2.2.2.1 x c z.1
    · intro y
      obtain ⟨o,e'⟩:=hfo b hb
      have q:=bE e'
      rw[← y] at q
      exact absurd q (n9.mpr z.2.1)
  · rcases (hfp b hb).2.2.2.1 with z | z
    · exact I.ok.zT b o e z
    · exact absurd (cx (bE (I.ok.bs b o e).1) z) (hZ _)
  · rcases be.mp (I.yQ b hf) with z | z
    · exact (hfp b hb).2.1 z
    · exact (hfp b hb).2.2.1 z
 refine ⟨ok,rfl,I.bare,Un.laid old hD frD,?_,fun x c e=>?_,?_,fun x c e=>?_,fun p hp=>absurd (show p∈([]:List (Addr×Obj)) from hp) (by simp),?_,?_⟩
 · obtain ⟨m,hn⟩:=hn
   refine ⟨m,hn,fun i x v e1 e2 e3=>?_⟩
   have hi:tn.length≤i:=by
    rcases lI i tn.length with hi | hi
    · have e2':(b9 tn.length none++ix.map fun i=>(σ[i]?).join)[i]?=some (some v):=e2
      rw[eP (by simpa using hi),iq,if_pos hi] at e2'
      cases e2'
    · exact hi
   have e1':(tn++ix.map fun i=>X.N.getD i Str.empty)[i]?=some x:=e1
   have e2':(b9 tn.length none++ix.map fun i=>(σ[i]?).join)[i]?=some (some v):=e2
   rw[d6 hi,cn] at e1'
   rw[d6 (by simpa using hi),cn,cq] at e2'
   cases ek:ix[i - tn.length]? with
   | none=>rw[ek] at e1';cases e1'
   | some k=>
    rw[ek] at e1' e2'
    have Z8:X.N.getD k Str.empty=x:=Option.some.inj e1'
    have Jt:(σ[k]?).join=some v:=Option.some.inj e2'
    have e2s:σ[k]?=some (some v):=by
     cases q:σ[k]? with
     | none=>rw[q] at Jt;cases Jt
     | some o=>rw[q] at Jt;have:o=some v:=Jt;rw[this]
    obtain ⟨x',hx',hfx⟩:=S.ix k (fE ek)
    have exx:x'=x:=by
     rw[← Z8,ax,hx']
     rfl
    subst exx
    have hfr:=S.free _ (gI hfx) rfl
    obtain ⟨m0,hn0,hl0⟩:=I.loc
    obtain ⟨u,ru,lk⟩:=hl0 k x' v hx' e2s (.inr hfr)
    refine ⟨u,ru,?_⟩
    rcases lk with ⟨kl,_⟩ | ⟨kc,c,ec,ic⟩
    · exfalso
      have kl':X.env.scope.names.lookup x'=some .local:=kl
      rcases hfr with z | z <;> rw[z] at kl' <;> cases kl'
    · obtain ⟨c',ec'⟩:=RB _ (gI hfx) rfl
      have ecc:c'=c:=by
       have q:=hcl x' c' hfx ec'
       rw[ec] at q
       exact (Option.some.inj q).symm
      subst ecc
      refine .inr ⟨lZ hfx,c',ec',?_⟩
      obtain ⟨o,ho,hdat⟩:=ic
      exact ⟨o,old _ _ ho,hdat⟩
 · rcases qD x c e with z | z
   · obtain ⟨v,o,ho,hdat⟩:=I.cell x c z.1
     exact ⟨v,o,old _ _ ho,hdat⟩
   · exact ⟨_,z.2.2.2⟩
 · show upd H D (.lst []) C=none
   rw[bu (p9 hDC)]
   exact frC
 · show upd H D (.lst []) c=none
   rcases qD x c e with z | z
   · rw[bu (eJ (cx (Kv x c z.1) hD))]
     exact I.iQ x c z.1
   · rw[bu z.2.2.1]
     exact I.hok.fresh z.2.1
 · exact I.hok.laid old hD ⟨iE _,[],0,.nil,hd⟩
 · show (qR tn ix σ).length=(tn++ix.map fun i=>X.N.getD i Str.empty).length
   unfold qR
   rw[ay,ay,cq,aw,aw]
end
theorem Ej {prog:cw}{w:eI}{A:eo}{R:Result→ar→Prop}{s:ar}{elt target iter:Expr}{ifs:List Expr}{scope:si}{pos:Pos}{it acc:ai}{env:Env} (I:Nat→ar→Prop)
 (turn:∀n s,I n s→bP (bt prog w) A (vt it) (fun r s₁=>match r with
  | none=>R (.ok .next) s₁
  | some v=>bP (bt prog w) A (vv target it v) (fun _ s₁'=>bP (bt prog w) A (AG target env v) (fun _ s₂=>
   bP (bt prog w) A (forIn ifs true fun c r=>if r=true then do let ok ← isTrue c env (eval c env);pure (na ok) else pure (na r)) (fun ok s₃=>
    if ok=true then bP (bt prog w) A (eval elt env) (fun x s₄=>
     bP (bt prog w) A (call (.builtin "list.append") [acc,x]) (fun _ s₅=>∃m,m < n∧I m s₅) (fun _ _=>False) s₄) (fun _ _=>False) s₃
    else ∃m,m < n∧I m s₃) (fun _ _=>False) s₂) (fun _ _=>False) s₁') (fun _ _=>False) s₁) (fun _ _=>False) s)
 (n:Nat) (h:I n s) :
 uk (bt prog w) A (.compLoop (.ListComp elt [⟨target,iter,ifs,0⟩] scope pos) 0 it acc env) R s:=by
 refine codeAny_loop rfl I (fun n s hI=>?_) n h
 show bP _ A ((compTurn (.ListComp elt [⟨target,iter,ifs,0⟩] scope pos) 0 it acc env).onRaise (fun x=>do noteFrame x env;theTreesLotGoes x)) _ _ s
 refine wpAny_noted ?_
 rw[compTurn_list]
 refine af (wpAny_standAt (af (gc (turn n s hI) (fun r s₁ h₁=>?_) fun _ _ f=>f.elim)))
 cases r with
 | none=>exact av h₁
 | some v=>
  refine af (gc h₁ (fun _ s₁' h₁'=>?_) fun _ _ f=>f.elim)
  refine af (gc h₁' (fun _ s₂ h₂=>af (gc h₂ (fun ok s₃ h₃=>?_) fun _ _ f=>f.elim)) fun _ _ f=>f.elim)
  cases ok with
  | false=>exact av ⟨rfl,h₃⟩
  | true=>
   exact af (af (gc h₃ (fun x s₄ h₄=>af (gc h₄ (fun _ s₅ h₅=>av (av ⟨rfl,h₅⟩)) fun _ _ f=>f.elim)) fun _ _ f=>f.elim))
section
variable {X:Cx}{pins:List (Addr×Obj)}{σ:St}{H:Hp}{s:ar}{scope:si}{tn:List Str}{ix:List Nat}{elt tg iter:Expr}{ifs:List Expr}{pos:Pos}{wi:TI}{g:TG}{tt:TT}{te:TE}{Q:VK}
theorem uc {c0:List (Str×Addr)}:∀{l:List (Str×iS)}{n:Nat}{acc:List (Str×Addr)},kz n l (acc++c0)=kz n l acc++c0
 | [],n,acc=>rfl
 | (y,k)::l,n,acc=>by
  unfold kz
  by_cases hk:(k == .cell)=true
  · rw[if_pos hk,if_pos hk]
    exact uc (l:=l) (n:=n+1) (acc:=(y,n)::acc)
  · rw[if_neg hk,if_neg hk]
    exact uc (l:=l)
theorem uV {x:Str}{c:Addr}:∀{l:List (Str×iS)}{n:Nat}{acc:List (Str×Addr)},(x,c)∈kz n l acc→(x,c)∈acc∨(x,jv)∈l
 | [],n,acc,h=>.inl h
 | (y,k)::l,n,acc,h=>by
  unfold kz at h
  by_cases hk:(k == .cell)=true
  · rw[if_pos hk] at h
    rcases uV (l:=l) h with z | z
    · rcases be.mp z with e | z
      · cases e
        exact .inr (by rw[show k=jv by simpa using hk];exact b5)
      · exact .inl z
    · exact .inr (bg _ z)
  · rw[if_neg hk] at h
    rcases uV (l:=l) h with z | z
    · exact .inl z
    · exact .inr (bg _ z)
theorem BW {x y:Str}{c:Addr}:∀{cs:List (Str×Addr)},cs.Pairwise (fun x y=>x.2≠y.2)→(x,c)∈cs→(y,c)∈cs→x=y
 | [],_,h,_=>nomatch h
 | z::cs,h,h1,h2=>by
  obtain ⟨h3,h4⟩:=i3.mp h
  rcases be.mp h1 with e1 | e1
  · rcases be.mp h2 with e2 | e2
    · rw[← e1] at e2;cases e2;rfl
    · rw[← e1] at h3;exact (h3 (y,c) e2 rfl).elim
  · rcases be.mp h2 with e2 | e2
    · rw[← e2] at h3;exact (h3 (x,c) e1 rfl).elim
    · exact BW h4 e1 e2
theorem Mw {M:vw}{A:eo}{E:ai→ar→Prop}{s:ar}{scope:si}{globals:Addr}{cl:List (Str×Addr)}{qual:Str}{env:Env}{Q:Env→ar→Prop}
 (h:Q (newEnv scope s.heap.objs.size globals (kz (s.heap.objs.size+1) scope.names cl) qual none .none (some env) builtinsNs) { s with heap:=pushCells (s.heap.push { cls:=.type "dict",data:=.dict #[] }) scope.names }) :
 bP M A (newFunctionEnv scope globals cl [] qual none .none (some env)) Q E s:=by
 simp only[newFunctionEnv,Option.isSome_some,if_true]
 refine af (wpAny_alloc (af (wpAny_layCells _ (fun name kind cells=>by cases hkc:kind == jv <;> simp[hkc]) _ _ _ _ ?_)))
 rw[show ({ s with heap:=s.heap.push { cls:=.type "dict",data:=.dict #[] } }:ar).heap.objs.size=s.heap.objs.size+1 from kM ..]
 exact af (av (av h))
theorem Bo (S:Gj X scope ix) (hc:X.calm=true) (hi:PI X tg iter wi)
 (hg:∀cl C s₂ H₂ fp,PG (X.comp scope tn ix cl C s₂ H₂ fp) tg g) (ht:∀cl C s₂ H₂ fp,pX (X.comp scope tn ix cl C s₂ H₂ fp) ifs tt) (he:∀cl C s₂ H₂ fp,PE (X.comp scope tn ix cl C s₂ H₂ fp) elt te)
 {P:ai→Addr→Result→ar→Prop} (I:Inv X pins σ H s) (h:Dd tn ix wi g tt te σ H Q)
 (hP:∀D C s' H',Inv X pins σ H' s'→(∃m,s'.heap.Ns C m)→pY X pins H' C→Q (.ref D) H'→P (.ref D) C (.ok .next) s') :
 ∃cl,closureFor scope X.env=pure cl∧bP (bt X.prog X.w) X.A (eval iter X.env) (fun x s₁=>bP (bt X.prog X.w) X.A (BO x) (fun it s₂=>bP (bt X.prog X.w) X.A (newList []) (fun acc s₃=>
  bP (bt X.prog X.w) X.A (newFunctionEnv scope X.env.globals cl [] X.env.qual none .none (some X.env)) (fun cenv s₄=>
   uk (bt X.prog X.w) X.A (.compStart (.ListComp elt [⟨tg,iter,ifs,0⟩] scope pos) 0 it acc { cenv with scope:=relabel scope X.env }) (P acc cenv.locals) s₄) X.xe s₃) X.xe s₂) X.xe s₁) X.xe s:=by
 obtain ⟨cl,hcl,hc1,hc2⟩:=Cr (scope:=scope) (env:=X.env) fun x hx hf=>I.ok.has x.1 (S.free x hx hf)
 refine ⟨cl,hcl,thn (hi pins s σ H _ I h) fun v s1 h1=>thn h1 fun itv s2 h2=>?_⟩
 obtain ⟨it,fp,tnn,J,H2,e,I2,T,st2,f2,R⟩:=h2
 subst e
 refine gu (Mw ?_)
 dsimp only
 generalize hHH:s2.heap.push { cls:=.type "list",dict:=none,data:=.seq ([]:List ai).toArray }=HH
 have hCs:HH.objs.size=s2.heap.objs.size+1:=by rw[← hHH,kM]
 have hDC:s2.heap.objs.size≠HH.objs.size:=by rw[hCs];exact eJ (mo _)
 have hCle:s2.heap.objs.size≤HH.objs.size:=by rw[hCs];exact ny _
 have Rc:∀b o,HH.get? b=some o→(pushCells (HH.push { cls:=.type "dict",data:=.dict #[] }) scope.names).get? b=some o:=fun b o e=>pushCells_keeps _ _ b o (aI _ e)
 have hns₁:(pushCells (HH.push { cls:=.type "dict",data:=.dict #[] }) scope.names).Ns HH.objs.size (fun _=>none):=(Heap.Ns.new HH (.type "dict")).keeps (pushCells_keeps _ _)
 have okc:=cellsFrom_ok scope.names (HH.push { cls:=.type "dict",data:=.dict #[] }) (HH.objs.size+1) [] ⟨fun _ _ hm=>(nomatch hm),zd.nil⟩ (by rw[kM];exact aE _)
 rw[kM] at okc
 have eCL:kz (HH.objs.size+1) scope.names cl=kz (HH.objs.size+1) scope.names []++cl:=uc (acc:=[])
 have spl:∀x c,(kz (HH.objs.size+1) scope.names cl).lookup x=some c→(scope.names.lookup x=some .cell∧(x,c)∈kz (HH.objs.size+1) scope.names [])∨(cl.lookup x=some c∧scope.names.lookup x≠some .cell):=fun x c e=>by
  rw[eCL,List.lookup_append] at e
  cases q:(kz (HH.objs.size+1) scope.names []).lookup x with
  | none=>
   rw[q] at e
   refine .inr ⟨e,fun z=>?_⟩
   have:=oI scope.names (HH.objs.size+1) [] (.inl z)
   rw[q] at this
   cases this
  | some d=>
   rw[q] at e
   have e:some d=some c:=e
   cases e
   have m:=gI q
   rcases uV m with z | z
   · nomatch z
   · exact .inl ⟨S.one _ z,m⟩
 have has:∀x,scope.names.lookup x=some .cell∨(cl.lookup x).isSome=true→∃c,(kz (HH.objs.size+1) scope.names cl).lookup x=some c:=fun x z=>y9.mp (oI scope.names (HH.objs.size+1) cl z)
 generalize hCL:kz (HH.objs.size+1) scope.names cl=CL at spl has ⊢
 generalize hh1:pushCells (HH.push { cls:=.type "dict",data:=.dict #[] }) scope.names=h₁ at Rc hns₁ okc ⊢
 have old:∀b o,s2.heap.get? b=some o→h₁.get? b=some o:=fun b o e=>Rc b o (hHH ▸ aI _ e)
 have hacc:h₁.get? s2.heap.objs.size=some { cls:=.type "list",data:=.seq ([]:List ai).toArray }:=Rc _ _ (hHH ▸ df _ rfl)
 have hfo:∀b∈fp,∃o,s2.heap.get? b=some o:=fun b hb=>let ⟨o,e,_⟩:=T.obj _ _ st2 b hb;⟨o,e⟩
 obtain ⟨W,⟨m0,w0⟩,turn⟩:=R s2.heap.objs.size (I2.hok.fresh (aE _))
 have qD:∀x c,CL.lookup x=some c→(X.env.cells.lookup x=some c∧scope.names.lookup x≠some .cell)∨(scope.names.lookup x=some .cell∧s2.heap.objs.size≤c∧c≠s2.heap.objs.size∧h₁.IsCell c none):=fun x c e=>by
  rcases spl x c e with ⟨z,m⟩ | ⟨z,m⟩
  · obtain ⟨q1,q2⟩:=okc.empty x c m
    rw[hCs] at q2
    exact .inr ⟨z,by omega,fun y=>by rw[y] at q2;omega,q1⟩
  · exact .inl ⟨hc1 x c z,m⟩
 have J0:Inv (X.comp scope tn ix CL HH.objs.size s2 H2 fp) [] (qR tn ix σ) (upd H2 s2.heap.objs.size (.lst [])) { s2 with heap:=h₁,toks:=s2.toks }:=
  Inv.block S I2 qD (fun x y c e1 e2 k1 k2=>by
   rcases spl x c e1 with ⟨_,m1⟩ | ⟨_,m1⟩
   · rcases spl y c e2 with ⟨_,m2⟩ | ⟨_,m2⟩
     · exact BW okc.apart m1 m2
     · exact absurd k2 m2
   · exact absurd k1 m1) (fun x z=>has x (.inl z)) (fun x hx hf=>by
   obtain ⟨c,e⟩:=hc2 x hx hf
   exact has x.1 (.inr (by rw[e];rfl))) f2 hfo old (aE _) hCle hDC hacc ⟨_,hns₁⟩
 have stat:∀{H':Hp},(∀b∈fp,H' b=none)→∀b∈fp,pY (X.comp scope tn ix CL HH.objs.size s2 H2 fp) [] H' b:=fun hn b hb=>by
  refine ⟨hn b hb,fun z=>?_,fun z=>?_,.inl hb,fun x c e=>?_,fun p hp=>absurd (show p∈([]:List (Addr×Obj)) from hp) (by simp)⟩
  · obtain ⟨o,e⟩:=hfo b hb
    exact absurd (cx (bE e) (by show s2.heap.objs.size≤b;rw[z];exact hCle)) (hZ _)
  · rcases be.mp (I2.yQ b z) with z | z
    · exact (f2 b hb).2.1 z
    · exact (f2 b hb).2.2.1 z
  · rcases qD x c e with z | z
    · exact (f2 b hb).2.2.2.2.1 x c z.1
    · intro y
      obtain ⟨o,e'⟩:=hfo b hb
      have q:=bE e'
      rw[← y] at q
      exact absurd q (n9.mpr z.2.1)
 have fp0:∀b∈fp,upd H2 s2.heap.objs.size (.lst []) b=none:=fun b hb=>by
  obtain ⟨o,e⟩:=hfo b hb
  rw[bu (eJ (bE e))]
  exact (f2 b hb).1
 have st1:tnn 0 h₁:=T.keep _ _ _ st2 fun b hb o e=>old b o e
 have loop:∀s₃:ar,s₃={ s2 with heap:=h₁,toks:=s2.toks } →
  uk (bt X.prog X.w) X.A (.compLoop (.ListComp elt [⟨tg,iter,ifs,0⟩] scope pos) 0 (.ref it) (.ref s2.heap.objs.size) (compEnvC scope CL HH.objs.size X.env)) (P (.ref s2.heap.objs.size) HH.objs.size) s₃:=by
  rintro s₃ rfl
  refine Ej (fun n s'=>∃i σ' acc H',Inv (X.comp scope tn ix CL HH.objs.size s2 H2 fp) [] σ' H' s'∧tnn i s'.heap∧(∀b∈fp,H' b=none)∧W i n σ' acc H') ?_ m0 ⟨0,_,[],_,J0,st1,fp0,w0⟩
  rintro n s3 ⟨i,σ3,acc,H3,I3,st3,fr3,w3⟩
  obtain ⟨hD3,ways⟩:=turn i n σ3 acc H3 w3
  rcases ways with ⟨stop,qn⟩ | ⟨go,hsz,step⟩
  · refine thn (T.done (X.comp scope tn ix CL HH.objs.size s2 H2 fp) rfl rfl rfl hc i [] s3 σ3 H3 _ I3 (stat fr3) st3 stop) fun r s4 aA=>?_
    obtain ⟨hr,I4⟩:=aA
    subst hr
    have I5:Inv X pins σ H3 s4:=I2.call' I4.os I4.base I4.hok I4.bare fun b hb=>⟨(f2 b hb).2.2.2.1,(f2 b hb).2.1,(f2 b hb).2.2.2.2.1,(f2 b hb).2.2.2.2.2⟩
    obtain ⟨m4,hn4,_⟩:=I4.loc
    exact hP _ _ s4 H3 I5 ⟨m4,hn4⟩ (I2.xZ hCle I4.free) qn
  · refine thn (T.item (X.comp scope tn ix CL HH.objs.size s2 H2 fp) rfl rfl rfl hc i [] s3 σ3 H3 _ I3 (stat fr3) st3 go) fun r s4 aA=>?_
    obtain ⟨u,hr,h4⟩:=aA
    subst hr
    refine thn h4 fun _ s5 aA=>?_
    obtain ⟨x,H5,I5,r5,y5,st5,fr5⟩:=aA
    have I5':=I5.pinned (stat fr5) (T.obj _ _ st5)
    have back:∀{σ7:St}{H7:Hp}{s7:ar},Inv (X.comp scope tn ix CL HH.objs.size s2 H2 fp) ([]++rF fp s5.heap) σ7 H7 s7→Inv (X.comp scope tn ix CL HH.objs.size s2 H2 fp) [] σ7 H7 s7∧tnn (i+1) s7.heap∧∀b∈fp,H7 b=none:=fun {σ7 H7 s7} I7=>by
     refine ⟨I7.o9,T.keep _ _ _ st5 fun b hb o e=>(I7.pin (b,o) (cK _ (cK _ (lz hb e)))).1,fun b hb=>?_⟩
     obtain ⟨o,e,d⟩:=T.obj _ _ st5 b hb
     exact (I7.pin (b,o) (cK _ (cK _ (lz hb e)))).2.1
    refine thn (hg CL HH.objs.size s2 H2 fp _ s5 σ3 H5 x u _ I5' r5 (step x H5 y5)) fun _ s6 aA=>?_
    obtain ⟨σ6,H6,I6,q6⟩:=aA
    refine thn (ht CL HH.objs.size s2 H2 fp _ s6 σ6 H6 _ I6 q6) fun ok s7 aA=>?_
    obtain ⟨H7,I7,q7⟩:=aA
    cases ok with
    | false=>
     rw[if_neg ky] at q7 ⊢
     obtain ⟨m',hm,w7⟩:=q7
     obtain ⟨b1,b2,b3⟩:=back I7
     exact ⟨m',hm,i+1,σ6,acc,H7,b1,b2,b3,w7⟩
    | true=>
     rw[if_pos rfl] at q7 ⊢
     refine thn (he CL HH.objs.size s2 H2 fp _ s7 σ6 H7 _ I7 q7) fun xv s8 aA=>?_
     obtain ⟨v8,H8,I8,r8,hD8,m',hm,w8⟩:=aA
     refine thn (uT _ s8 σ6 H8 (.ref s2.heap.objs.size) [v8] (.ref s2.heap.objs.size) [xv] (fun _ H9=>H9=upd H8 s2.heap.objs.size (.lst (acc++[v8]))) I8 rfl (.cons r8 .nil) ⟨_,acc,v8,rfl,rfl,hD8,hsz,rfl⟩) fun _ s9 aA=>?_
     obtain ⟨_,H9,I9,_,e9⟩:=aA
     subst e9
     obtain ⟨b1,b2,b3⟩:=back I9
     exact ⟨m',hm,i+1,σ6,acc++[v8],_,b1,b2,b3,w8⟩
 exact codeAny_compStart_list (loop _ rfl) (T.self X.A 0 _ _ _ st1 (loop _ rfl))
theorem Ud (S:iw X scope ix=true) (hc:X.calm=true) (hi:PI X tg iter wi)
 (hg:∀cl C s₂ H₂ fp,PG (X.comp scope tn ix cl C s₂ H₂ fp) tg g) (ht:∀cl C s₂ H₂ fp,pX (X.comp scope tn ix cl C s₂ H₂ fp) ifs tt) (he:∀cl C s₂ H₂ fp,PE (X.comp scope tn ix cl C s₂ H₂ fp) elt te)
 (hs:∀x,nr iter X.env x=pure x:=by intro _;rfl):PE X (.ListComp elt [⟨tg,iter,ifs,0⟩] scope pos) (Dd tn ix wi g tt te):=by
 intro pins s σ H Q I h
 obtain ⟨cl,hcl,q⟩:=Bo (pos:=pos) (P:=fun acc C=>compPost (bt X.prog X.w) X.A X.xe none (EP X pins σ Q) acc C) (iw.of S) hc hi hg ht he I h fun D C s' H' I' ⟨m,hn⟩ f q=>by
  refine ⟨m,hn,fun h' sb=>⟨.ref D,H',?_,rfl,q⟩⟩
  exact I'.turned (it:=C) (t':=s'.toks) (fun b o hb e=>sb.extBut b o hb e) f.1 f.2.1 f.2.2.2.1 f.2.2.2.2.1 f.2.2.2.2.2
 rw[eval_ListComp]
 exact wpAny_comprehension_free (use:=none) rfl hs hcl (iw.of S).kind (iw.of S).loc q
theorem Uv {i:Nat}{y:Str}{py spos:Pos} (hN:X.N.Nodup) (hiN:X.N[i]?=some y) (hy:Loc X.env.scope y) (S:iw X scope ix=true) (hc:X.calm=true) (hi:PI X tg iter wi)
 (hg:∀cl C s₂ H₂ fp,PG (X.comp scope tn ix cl C s₂ H₂ fp) tg g) (ht:∀cl C s₂ H₂ fp,pX (X.comp scope tn ix cl C s₂ H₂ fp) ifs tt) (he:∀cl C s₂ H₂ fp,PE (X.comp scope tn ix cl C s₂ H₂ fp) elt te)
 (hsw:j3 (.ListComp elt [⟨tg,iter,ifs,0⟩] scope pos) (some (.Name y py)) spos.line X.env=pure true:=by rfl)
 (hf:X.fn y=true∨X.env.scope.names.lookup y=some .local:=by first | exact .inl rfl | exact .inr rfl | assumption)
 (hs:∀x,nr iter X.env x=pure x:=by intro _;rfl):PS X (.Assign [.Name y py] (.ListComp elt [⟨tg,iter,ifs,0⟩] scope pos) spos) (Ez (Dd tn ix wi g tt te) (yK i)):=by
 intro pins s σ H E I h
 rw[exec_Assign_Name_used _ _ _ _ hsw]
 refine af (wpAny_standAt (af ?_))
 show bP _ X.A (do let _ ← comprehension (.ListComp elt [⟨tg,iter,ifs,0⟩] scope pos) scope X.env _ (newList []) false (eval iter X.env) (some (AG (.Name y py) X.env))) _ _ s
 obtain ⟨cl,hcl,q⟩:=Bo (pos:=pos) (P:=fun acc C=>compPost (bt X.prog X.w) X.A X.xe (some (AG (.Name y py) X.env)) (fun _ s'=>SP X pins E .next s') acc C) (iw.of S) hc hi hg ht he I h fun D C s' H' I' ⟨m,hn⟩ f q=>by
  show bP _ X.A (AG (.Name y py) X.env (.ref D)) _ _ _
  refine wpAny_assign_Name (Bv (v:=.ref D) I' hN hiN hy rfl (fun s2 I2 aA=>?_) hf)
  obtain ⟨a,sb,ha⟩:=aA
  have hCa:C≠a:=by
   rcases ha with ha | ha
   · rw[ha];exact f.2.1
   · exact fun z=>f.2.2.2.2.1 y a ha z.symm
  refine ⟨m,hn.sameBut sb hCa,fun h' sb'=>⟨_,H',?_,q⟩⟩
  exact I2.turned (it:=C) (t':=s2.toks) (fun b o hb e=>sb'.extBut b o hb e) f.1 f.2.1 f.2.2.2.1 f.2.2.2.2.1 f.2.2.2.2.2
 refine af (gc (wpAny_comprehension_free (use:=some (AG (.Name y py) X.env)) (Q:=fun _ s'=>SP X pins E .next s') rfl hs hcl (iw.of S).kind (iw.of S).loc q) (fun _ s' hq=>av (av hq)) fun _ _ e=>e)
end
theorem aH.rY {K:ag}{H H':Hp}{a:Addr}{xs:List V} (e:aH H H') (h:SqT K H a xs):SqT K H' a xs:=by
 rcases h with (h | ⟨o,h⟩) | h
 · exact .inl (.inl (e _ _ h))
 · exact .inl (.inr ⟨o,e _ _ h⟩)
 · exact .inr h
theorem aH.new {H:Hp}{p:Addr} (h:H p=none) (o:HO):aH H (upd H p o):=fun b u q=>by rw[bu (iT q h)];exact q
theorem aH.up {H H':Hp}{p:Addr}{o:HO} (s:aH H H') (h:H p=none):aH H (upd H' p o):=fun b u q=>by rw[bu (iT q h)];exact s b u q
mutual
noncomputable def Is (K:ag) (H:Hp):ae→V→Prop
 | .none,v=>v = .non
 | .bool b,v=>v = .bl b
 | .int i,v=>v = .int i
 | .str x,v=>v = .str x
 | .list ds,v=>∃a vs,v = .ref a∧SqL K H a vs∧eG K H ds vs
 | .tuple ds,v=>∃a vs,v = .ref a∧SqT K H a vs∧eG K H ds vs
 | .dict _,_=>False
noncomputable def eG (K:ag) (H:Hp):List ae→List V→Prop
 | [],vs=>vs=[]
 | d::ds,vs=>∃v r,vs=v::r∧Is K H d v∧eG K H ds r
end
mutual
theorem Is.mono {K:ag}{H H':Hp} (e:aH H H'):∀(d:ae) {v:V},Is K H d v→Is K H' d v
 | .none,v,h=>h
 | .bool _,v,h=>h
 | .int _,v,h=>h
 | .str _,v,h=>h
 | .list ds,v,h=>by
  rw[Is] at h ⊢
  obtain ⟨a,vs,h1,h2,h3⟩:=h
  exact ⟨a,vs,h1,e.seq h2,eG.mono e ds h3⟩
 | .tuple ds,v,h=>by
  rw[Is] at h ⊢
  obtain ⟨a,vs,h1,h2,h3⟩:=h
  exact ⟨a,vs,h1,e.rY h2,eG.mono e ds h3⟩
 | .dict _,v,h=>h
theorem eG.mono {K:ag}{H H':Hp} (e:aH H H'):∀(ds:List ae) {vs:List V},eG K H ds vs→eG K H' ds vs
 | [],vs,h=>h
 | d::ds,vs,h=>by
  rw[eG] at h ⊢
  obtain ⟨v,r,h1,h2,h3⟩:=h
  exact ⟨v,r,h1,Is.mono e d h2,eG.mono e ds h3⟩
end
section
variable {X:Cx}{pins:List (Addr×Obj)}{σ:St}{H:Hp}{s:ar}
mutual
theorem Is.reads (I:Inv X pins σ H s):∀(d:ae) {v:V}{u:ai},Is X.K H d v→RelV v u→∃as,Reads s.heap u d as
 | .none,v,u,h,r=>by
  rw[Is] at h;subst h;cases r;exact ⟨_,.none⟩
 | .bool b,v,u,h,r=>by
  rw[Is] at h;subst h;cases r;exact ⟨_,.bool b⟩
 | .int i,v,u,h,r=>by
  rw[Is] at h;subst h;obtain ⟨t,rfl⟩:=r;exact ⟨_,.int i t⟩
 | .str x,v,u,h,r=>by
  rw[Is] at h;subst h;obtain ⟨t,rfl⟩:=r;exact ⟨_,.str x t⟩
 | .list ds,v,u,h,r=>by
  rw[Is] at h
  obtain ⟨a,vs,rfl,h2,h3⟩:=h
  cases r
  obtain ⟨its,rv,⟨o,n,e,c,_,d⟩,_⟩:=I.list h2
  obtain ⟨as,q⟩:=eG.reads I ds h3 rv
  exact ⟨_,.list e c d (by simpa using q)⟩
 | .tuple ds,v,u,h,r=>by
  rw[Is] at h
  obtain ⟨a,vs,rfl,h2,h3⟩:=h
  cases r
  obtain ⟨its,rv,⟨o,e,c,n,d⟩,_⟩:=I.tuple h2
  obtain ⟨as,q⟩:=eG.reads I ds h3 rv
  exact ⟨_,.tuple e c d (by simpa using q)⟩
 | .dict _,v,u,h,r=>by
  rw[Is] at h;exact h.elim
theorem eG.reads (I:Inv X pins σ H s):∀(ds:List ae) {vs:List V}{us:List ai},eG X.K H ds vs→Vals vs us→∃as,ReadsAll s.heap us ds as
 | [],vs,us,h,r=>by
  rw[eG] at h;subst h;cases r;exact ⟨_,.nil⟩
 | d::ds,vs,us,h,r=>by
  rw[eG] at h
  obtain ⟨v,rr,rfl,h2,h3⟩:=h
  cases r with
  | cons r1 r2=>
   obtain ⟨as,q⟩:=Is.reads I d h2 r1
   obtain ⟨bs,q'⟩:=eG.reads I ds h3 r2
   exact ⟨_,.cons q q'⟩
end
end
theorem yG:∀ns:List Int,kU (ns.map ae.int)=0
 | []=>by rw[jI,kU]
 | n::ns=>by rw[dk,kU,ae.depth,yG ns];rfl
section
variable {X:Cx}
noncomputable def ab9 (K:ag):R2:=fun x y H Q=>∃d e,Is K H d x∧Is K H e y∧dE d=true∧dE e=true∧Q (.bl (gz d e)) H
noncomputable def Z2 (K:ag):R2:=fun x y H Q=>∃d e,Is K H d x∧Is K H e y∧dE d=true∧dE e=true∧Q (.bl (!gz d e)) H
theorem Xe (hu:X.A.units+64 < vx):OpR X (h9 .Eq) (ab9 X.K):=by
 intro pins s σ H x y v u Q I rx ry h
 obtain ⟨d,e,h1,h2,h3,h4,q⟩:=h
 obtain ⟨as,r1⟩:=Is.reads I d h1 rx
 obtain ⟨bs,r2⟩:=Is.reads I e h2 ry
 exact eq_dataH r1 r2 h3 h4 hu ⟨.bl (gz d e),H,I,rfl,q⟩
theorem YG (hu:X.A.units+64 < vx):OpR X (h9 .NotEq) (Z2 X.K):=by
 intro pins s σ H x y v u Q I rx ry h
 obtain ⟨d,e,h1,h2,h3,h4,q⟩:=h
 obtain ⟨as,r1⟩:=Is.reads I d h1 rx
 obtain ⟨bs,r2⟩:=Is.reads I e h2 ry
 exact ne_dataH r1 r2 h3 h4 hu ⟨.bl (!gz d e),H,I,rfl,q⟩
end
end L2
namespace L2
theorem Uq {n j:Nat} (h:j < n):ixN n ((j:Nat):Int)=some j:=by
 unfold ixN
 rw[if_pos (Int.natCast_nonneg j),if_pos (by omega),eM]
end L2
namespace L2
open PySem PySem.Spec PyProof.Rows
section
variable {X:Cx}{tg:Expr}
end
section
variable {X:Cx}
end
section
variable {K:ag}{tn:List Str}{ix:List Nat}{te:TE}{σ:St}{H1:Hp}{Q:VK}
end
structure At (K:ag) (mg:Str→Option ai) (x:Str) (st:Stmt) (ps:List Str):Prop where
 ex:∃f fd,Fun K x x st f fd∧Binds K fd ps []∧mg x=some (.ref f)
structure Def (P:cw) (w:eI) (K:ag) (mg:Str→Option ai) (base:Heap) (k:Nat) (x:Str) (ps:List Str) (sp:Sp):Prop where
 ex:∃f fd,n8 P w K mg base CX0 k f fd ps sp∧Binds K fd ps []∧dS K (.ref f)=true∧mg x=some (.ref f)
section
variable {P:cw}{w:eI}{K:ag}{mg:Str→Option ai}{base:Heap}
theorem At.ok {x:Str}{st:Stmt}{N ps:List Str}{k:Nat}{sp:Sp} (F:At K mg x st ps) (S:bL N ps (aC st)) (len:∀vs H Q E,sp vs H Q E→vs.length=ps.length)
 (hbody:∀(f:Addr) (cdv:ai) (A:eo) (outer:List Env) (s:ar) (H:Hp) (vs:List V) (Q:VK) (E:XK),dg k (A.deeper (iX x (aC st) s.heap.objs.size f cdv))→sp vs H Q E →
  ∃t,PSs (kh CX0 P w K mg base N x (aC st) f cdv A outer s H E).nox (aU st) t∧t { nx:=fun _ H'=>Q .non H',rt:=Q } (start N vs) H):Def P w K mg base (k+1) x ps sp:=by
 obtain ⟨f,fd,F,b,m⟩:=F.ex
 exact ⟨f,fd,F.ok S len (hbody f),b,F.kp,m⟩
theorem At.mk' {x:Str}{st:Stmt}{ps:List Str}{f:Addr}{oc:ai}{od an:Option Addr}{osl:Array (Option ai)}{kV doc pm cdv ct:ai} (m:mg x=some (.ref f))
 (l:K.lookup f=some ⟨oc,od,.func (cf x x (bc st) (aU st) (aC st) .none kV doc pm an cdv ct),osl⟩) (c:eu K cdv x=true) (k:dS K (.ref f)=true)
 (h:∀(kV doc pm:ai) (an:Option Addr) (cdv ct:ai) (us:List ai),us.length=ps.length→kL (cf x x (bc st) (aU st) (aC st) .none kV doc pm an cdv ct) ⟨us,[]⟩=pure (ps.zip us)):At K mg x st ps:=
 ⟨f,_,Du l c k,(Du (st:=st) l c k).binds h,m⟩
end
section
variable {X:Cx}{k:Nat}{x:Str}{ps:List Str}{sp:Sp}{p pos:Pos}{e:Expr}{es:List Expr}{t:TA}
theorem Dr (F:Def X.prog X.w X.K X.mg X.base k x ps sp) (hr:dg k X.A) (hg:Gl X x) (ha:PA X (e::es) t) (hdb:(x == ("__debug__" : Str))=false:=by decide)
 (he:d4 (e::es) X.env=(false,eval e X.env)::d4 es X.env:=by rfl) (hpl:(oC pos (d4 es X.env)).any (·.1)=false:=by rfl):PE X (.Call (.Name x p) (e::es) [] pos) (S8 sp [] E0 t):=by
 obtain ⟨f,fd,F,b,kp,m⟩:=F.ex
 exact Uk F hr hg m kp b .nil ZP ha hdb he hpl
end
section
variable {X:Cx}{K:ag}
end
end L2
namespace L2
open PySem PySem.Spec PyProof.Rows
open Builtin Builtin.Str
section
variable {prog:cw}{w:eI}{A:eo}{E:ai→ar→Prop}{s:ar}
end
section
variable {X:Cx}
end
end L2
namespace L2
open PySem PySem.Spec PyProof.Rows
section
variable {κ:Type} [DecidableEq κ]
noncomputable def lu (kvs:List (κ×V)) (k:κ):Option V:=(kvs.find? fun kv=>decide (kv.1=k)).map (·.2)
noncomputable def putK (kvs:List (κ×V)) (k:κ) (v:V):List (κ×V):=
 if (kvs.any fun kv=>decide (kv.1=k))=true then kvs.map (fun kv=>if kv.1=k then (kv.1,v) else kv) else kvs++[(k,v)]
theorem rT {p:κ×V}{r:List (κ×V)}{k:κ} (e:p.1=k):lu (p::r) k=some p.2:=by simp[lu,kX,e]
theorem sO {p:κ×V}{r:List (κ×V)}{k:κ} (e:¬ p.1=k):lu (p::r) k=lu r k:=by simp[lu,kX,e]
theorem Er (k:κ):∀kvs:List (κ×V),(kvs.any fun kv=>decide (kv.1=k))=(lu kvs k).isSome
 | []=>rfl
 | p::r=>by
  rw[kH]
  by_cases e:p.1=k
  · simp only[rT e,decide_eq_true e,Bool.true_or,Option.isSome_some]
  · rw[sO e,decide_eq_false e,BG];exact Er k r
theorem wM (kvs:List (κ×V)) (k:κ) (v:V):(putK kvs k v).length≤kvs.length+1:=by
 unfold putK
 split
 · rw[aw];omega
 · rw[ay,bX,lh];omega
theorem zV.ni {o:Option V}{u:Option ai} (r:zV o u):o.isSome=u.isSome:=by
 cases o with
 | none=>cases u with
  | none=>rfl
  | some _=>exact (show False from r).elim
 | some _=>cases u with
  | none=>exact (show False from r).elim
  | some _=>rfl
theorem KV.val {kvs:List (κ×V)}{vs:List (κ×ai)} (r:KV kvs vs) (k:κ):zV (lu kvs k) (valueAt vs k):=by
 unfold KV at r
 induction r with
 | nil=>exact BS
 | @cons p q ps qs h t ih=>
  obtain ⟨h1,h2⟩:=h
  by_cases e:p.1=k
  · have e':q.1=k:=h1.symm.trans e
    have b:valueAt (q::qs) k=some q.2:=by simp[valueAt,kX,e']
    rw[rT e,b];exact h2
  · have e':¬ q.1=k:=fun z=>e (h1.trans z)
    have b:valueAt (q::qs) k=valueAt qs k:=by simp[valueAt,kX,e']
    rw[sO e,b];exact ih
theorem KV.any {kvs:List (κ×V)}{vs:List (κ×ai)} (r:KV kvs vs) (k:κ):(kvs.any fun kv=>decide (kv.1=k))=vs.any fun kv=>decide (kv.1=k):=by
 unfold KV at r
 induction r with
 | nil=>rfl
 | cons h t ih=>rw[kH,kH,ih,h.1]
theorem KV.repl {kvs:List (κ×V)}{vs:List (κ×ai)} (r:KV kvs vs) (k:κ) {y:V}{u:ai} (ry:RelV y u) :
 KV (kvs.map fun kv=>if kv.1=k then (kv.1,y) else kv) (vs.map fun kv=>if kv.1=k then (kv.1,u) else kv):=by
 unfold KV at r ⊢
 induction r with
 | nil=>exact .nil
 | @cons p q ps qs h t ih=>
  rw[dk,dk]
  refine .cons ?_ ih
  obtain ⟨h1,h2⟩:=h
  by_cases e:p.1=k
  · rw[if_pos e,if_pos (h1.symm.trans e)];exact ⟨h1,ry⟩
  · rw[if_neg e,if_neg (fun z=>e (h1.trans z))];exact ⟨h1,h2⟩
theorem KV.put {kvs:List (κ×V)}{vs:List (κ×ai)} (r:KV kvs vs) (k:κ) {y:V}{u:ai} (ry:RelV y u):KV (putK kvs k y) (stored vs k u):=by
 unfold putK stored
 rw[r.any k]
 by_cases e:(vs.any fun kv=>decide (kv.1=k))=true
 · rw[if_pos e,if_pos e];exact r.repl k ry
 · rw[if_neg e,if_neg e];exact sL.snoc r ⟨rfl,ry⟩
theorem KV.length {kvs:List (κ×V)}{vs:List (κ×ai)} (r:KV kvs vs):kvs.length=vs.length:=sL.length r
end
theorem Dc {P:cw}{w:eI}{k:Key}{u:ai} (r:RelV (kV k) u):(dW P w).is k u=true:=by
 cases k with
 | inl i=>obtain ⟨t,e⟩:=(show ∃t,u=ai.int i t from r);subst e;exact Hd P w i t
 | inr x=>obtain ⟨t,e⟩:=(show ∃t,u=ai.str x t from r);subst e;exact G4 P w x t
theorem Bs {P:cw}{w:eI}:∀{ks:List Key}{us:List ai},Vals (ks.map kV) us→ItemsAre (dW P w) ks us
 | [],_,r=>by rw[jI] at r;cases r;exact .nil
 | k::ks,_,r=>by
  rw[dk] at r
  cases r with
  | cons h t=>exact .cons (Dc h) (Bs t)
noncomputable abbrev KT (H:Hp):List (List Key×V)→List (List Key×Addr×ai)→Prop:=sL fun p q=>p.1=q.1∧H q.2.1=some (.tup (p.1.map kV))∧RelV p.2 q.2.2
theorem KT.val {H:Hp}{kvs:List (List Key×V)}{xs:List (List Key×Addr×ai)} (r:KT H kvs xs) (k:List Key):zV (lu kvs k) ((atKey xs k).map (·.2)):=by
 induction r with
 | nil=>exact BS
 | @cons p q ps qs h t ih=>
  obtain ⟨h1,_,h2⟩:=h
  by_cases e:p.1=k
  · have e':q.1=k:=h1.symm.trans e
    have b:atKey (q::qs) k=some q.2:=by simp[atKey,kX,e']
    rw[rT e,b];exact h2
  · have e':¬ q.1=k:=fun z=>e (h1.trans z)
    have b:atKey (q::qs) k=atKey qs k:=by simp[atKey,kX,e']
    rw[sO e,b];exact ih
theorem KT.repl {H:Hp}{kvs:List (List Key×V)}{xs:List (List Key×Addr×ai)} (r:KT H kvs xs) (k:List Key) {y:V}{u:ai} (ry:RelV y u) :
 KT H (kvs.map fun kv=>if kv.1=k then (kv.1,y) else kv) (xs.map (putAt k u)):=by
 induction r with
 | nil=>exact .nil
 | @cons p q ps qs h t ih=>
  rw[dk,dk]
  refine .cons ?_ ih
  obtain ⟨h1,h2,h3⟩:=h
  unfold putAt
  by_cases e:p.1=k
  · rw[if_pos e,if_pos (h1.symm.trans e)];exact ⟨h1,h2,ry⟩
  · rw[if_neg e,if_neg (fun z=>e (h1.trans z))];exact ⟨h1,h2,h3⟩
theorem KT.put {H:Hp}{kvs:List (List Key×V)}{xs:List (List Key×Addr×ai)} (r:KT H kvs xs) (k:List Key) {b:Addr}{y:V}{u:ai} (hb:H b=some (.tup (k.map kV))) (ry:RelV y u) :
 KT H (putK kvs k y) (storedH xs k b u):=by
 have e:(kvs.any fun kv=>decide (kv.1=k))=(atKey xs k).isSome:=by
  rw[Er,(r.val k).ni,ya]
 unfold putK storedH
 rw[e]
 by_cases q:(atKey xs k).isSome=true
 · rw[if_pos q,if_pos q];exact r.repl k ry
 · rw[if_neg q,if_neg q];exact sL.snoc r ⟨rfl,hb,ry⟩
theorem KT.keeps {H H':Hp}{kvs:List (List Key×V)}{xs:List (List Key×Addr×ai)} (r:KT H kvs xs) (ht:∀b ys,H b=some (.tup ys)→H' b=some (.tup ys)):KT H' kvs xs:=
 Paired.zz r fun _ _ z=>⟨z.1,ht _ _ z.2.1,z.2.2⟩
section
variable {P:cw}{w:eI}{H:Hp}{h:Heap}{a:Addr}
theorem Tu {u:HO} (ok:HOk P w H h) (e:Rd H a u):fJ P w H h a u:=e.ok ok
theorem KC {kvs:List (Key×V)} (ok:HOk P w H h) (e:Rd H a (.dK kvs)):kvs.length≤bp∧(a == nV)=false∧∃vs,KV kvs vs∧h.DictOf (dW P w) a vs:=
 show fJ P w H h a (.dK kvs) from Tu ok e
theorem Tg {kvs:List (Key×V)} (ok:HOk P w H h) (e:H a=some (.dK kvs)):kvs.length≤bp∧(a == nV)=false∧∃vs,KV kvs vs∧h.DictOf (dW P w) a vs:=KC ok (.inl e)
theorem yO {ks:List Key} (ok:HOk P w H h) (e:H a=some (.tup (ks.map kV))):(BC (dW P w)).is h ks a:=by
 obtain ⟨_,its,r,o,h1,h2,n,h3⟩:=(show fJ P w H h a (.tup (ks.map kV)) from ok a _ e)
 exact ⟨o,its.toArray,n,h1,h2,h3,by simpa using Bs r⟩
theorem JM {kvs:List (List Key×V)} (ok:HOk P w H h) (e:Rd H a (.dT kvs)):kvs.length≤bp∧(a == nV)=false ∧
 ∃xs,KT H kvs xs∧h.DictOfH (BC (dW P w)) a xs:=by
 obtain ⟨z,y,xs,r,o,es,ep,h1,h2,h3,h4,h5⟩:=(show fJ P w H h a (.dT kvs) from Tu ok e)
 refine ⟨z,y,xs,r,o,es,ep,h1,h2,h3,h4,fun x hx=>?_,h5⟩
 have all:∀{l:List (List Key×V)}{m:List (List Key×Addr×ai)},KT H l m→∀x∈m,(BC (dW P w)).is h x.1 x.2.1:=by
  intro l m q
  induction q with
  | nil=>intro x hx;exact nomatch hx
  | @cons p q ps qs hq t ih=>
   intro x hx
   rcases be.mp hx with e | hx
   · subst e
     exact yO ok (by rw[← hq.1];exact hq.2.1)
   · exact ih x hx
 exact all r x hx
theorem Zc {kvs:List (List Key×V)} (ok:HOk P w H h) (e:H a=some (.dT kvs)):kvs.length≤bp∧(a == nV)=false ∧
 ∃xs,KT H kvs xs∧h.DictOfH (BC (dW P w)) a xs:=JM ok (.inl e)
end
noncomputable def Ae (H:Hp) (a:Addr) (y:V) (r:Option V):Prop:=
 (∃kvs k,Rd H a (.dK kvs)∧y=kV k∧r=lu kvs k)∨∃kvs k b,Rd H a (.dT kvs)∧y = .ref b∧H b=some (.tup (k.map kV))∧r=lu kvs k
noncomputable def Dw (H:Hp) (a:Addr) (y v:V) (H':Hp):Prop:=
 (∃kvs k,H a=some (.dK kvs)∧y=kV k∧kvs.length < bp∧H'=upd H a (.dK (putK kvs k v))) ∨
 ∃kvs k b,H a=some (.dT kvs)∧y = .ref b∧H b=some (.tup (k.map kV))∧kvs.length < bp∧H'=upd H a (.dT (putK kvs k v))
theorem Ae.k {H:Hp}{a:Addr}{kvs:List (Key×V)}{k:Key} (e:H a=some (.dK kvs)):Ae H a (kV k) (lu kvs k):=.inl ⟨kvs,k,.inl e,rfl,rfl⟩
theorem Dw.k {H:Hp}{a:Addr}{kvs:List (Key×V)}{k:Key}{v:V} (e:H a=some (.dK kvs)) (hl:kvs.length < bp):Dw H a (kV k) v (upd H a (.dK (putK kvs k v))):=.inl ⟨kvs,k,e,rfl,hl,rfl⟩
section
variable {X:Cx}{pins:List (Addr×Obj)}{σ:St}{H:Hp}{s:ar}{a:Addr}{y v:V}{u r:ai}{o:Option V}{A:eo}{E:ai→ar→Prop}
theorem Inv.big (I:Inv X pins σ H s):nV < s.heap.objs.size:=by
 have h:b6 < s.heap.objs.size:=(I.mod.glob.keeps I.bk).lt
 exact oP (by decide) h
theorem abN {Q:ai→ar→Prop} (hu:A.units+1 < vx) (I:Inv X pins σ H s) (g:Ae H a y o) (ry:RelV y u) (h:∀s',Inv X pins σ H s'→Q (.bool o.isSome) s') :
 bP (bt X.prog X.w) A (h9 .In u (.ref a)) Q E s:=by
 rcases g with ⟨kvs,k,e,ey,l⟩ | ⟨kvs,k,b,e,ey,eb,l⟩
 · subst ey
   obtain ⟨z,hd,vs,rel,dd⟩:=KC I.hok e
   refine wpAny_in_of (Dc ry) hd dd.mapOf ?_
   rw[← (rel.val k).ni,← l]
   exact h _ (I.tok _)
 · subst ey
   cases (show u=dQ b from ry)
   obtain ⟨z,hd,xs,rel,dd⟩:=JM I.hok e
   refine wpAny_in_heap (wq hu) (yO I.hok eb) hd dd ?_
   have q:=(rel.val k).ni
   rw[ya] at q
   rw[← q,← l]
   exact h _ (I.tok _)
theorem Uz {Q:ai→ar→Prop} (hu:A.units+1 < vx) (I:Inv X pins σ H s) (g:Ae H a y o) (ry:RelV y u) (h:∀s',Inv X pins σ H s'→Q (.bool (!o.isSome)) s') :
 bP (bt X.prog X.w) A (h9 .NotIn u (.ref a)) Q E s:=by
 rcases g with ⟨kvs,k,e,ey,l⟩ | ⟨kvs,k,b,e,ey,eb,l⟩
 · subst ey
   obtain ⟨z,hd,vs,rel,dd⟩:=KC I.hok e
   refine wpAny_notIn_of (Dc ry) hd dd.mapOf ?_
   rw[← (rel.val k).ni,← l]
   exact h _ (I.tok _)
 · subst ey
   cases (show u=dQ b from ry)
   obtain ⟨z,hd,xs,rel,dd⟩:=JM I.hok e
   refine wpAny_notIn_heap (wq hu) (yO I.hok eb) hd dd ?_
   have q:=(rel.val k).ni
   rw[ya] at q
   rw[← q,← l]
   exact h _ (I.tok _)
theorem Ig {h':Heap}{t':Nat}{ob:HO} (I:Inv X pins σ H s) (mu:Mut (H a)) (hs:fT a s.heap h') (he:∃q,h'.get? a=some q) (new:fJ X.prog X.w (upd H a ob) h' a ob) :
 Inv X pins σ (upd H a ob) { s with heap:=h',toks:=t' }:=
 I.write (x:=a) (e:=a) mu (.inl rfl) (fun b q hb z=>(hs.2 b hb).trans z) he new
theorem X3 {P:cw}{w:eI}{H':Hp}{h':Heap}{kvs:List (Key×V)}{vs:List (Key×ai)} (z:kvs.length≤bp) (hd:(a == nV)=false) (rel:KV kvs vs) (dd:h'.DictOf (dW P w) a vs) :
 fJ P w H' h' a (.dK kvs):=⟨z,hd,vs,rel,dd⟩
theorem My {H':Hp}{Q:Unit→ar→Prop} (hu:A.units+1 < vx) (I:Inv X pins σ H s) (g:Dw H a y v H') (ry:RelV y u) (rv:RelV v r) (h:∀s',Inv X pins σ H' s'→Q () s') :
 bP (bt X.prog X.w) A (setItem (.ref a) u r) Q E s:=by
 rcases g with ⟨kvs,k,e,ey,l,eH⟩ | ⟨kvs,k,b,e,ey,eb,l,eH⟩
 · subst ey eH
   obtain ⟨z,hd,vs,rel,dd⟩:=Tg I.hok e
   have hz:vs.length≤bp:=by rw[← rel.length];exact z
   have hl:(putK kvs k v).length≤bp:=by have:=wM kvs k v;omega
   refine wpAny_setItem_pairs (hsz:=hz) (Dc ry) dd fun h' dd' hs=>h _ ?_
   have he:∃q,h'.get? a=some q:=let ⟨q,_,_,hq,_⟩:=dd';⟨q,hq⟩
   exact Ig I (by rw[e];exact BS) hs he (X3 hl hd (rel.put k rv) dd')
 · subst ey eH
   cases (show u=dQ b from ry)
   obtain ⟨z,hd,xs,rel,dd⟩:=Zc I.hok e
   have hz:xs.length≤bp:=by rw[← sL.length rel];exact z
   have hl:(putK kvs k v).length≤bp:=by have:=wM kvs k v;omega
   refine wpAny_setItem_heap (hsz:=hz) (wq hu) (yO I.hok eb) dd fun h' dd' hs=>h _ ?_
   obtain ⟨q,es,ep,hq,h2,h3,h4,_,h5⟩:=dd'
   refine Ig I (by rw[e];exact BS) hs ⟨q,hq⟩ ⟨hl,hd,_,(rel.put k eb rv).keeps fun c ys ec=>?_,q,es,ep,hq,h2,h3,h4,h5⟩
   rw[bu (Zo ec e (fun z=>nomatch z))]
   exact ec
end
section
variable {X:Cx}{pins:List (Addr×Obj)}{σ:St}{H:Hp}{s:ar}{a:Addr}{kvs:List (Key×V)}{k:Key}{u:ai}{A:eo}{E:ai→ar→Prop}
end
noncomputable def ZS (td ty tv:TE):TS:=fun D σ H=>tv σ H fun v H1=>td σ H1 fun x H2=>ty σ H2 fun y H3=>∃a H4,x = .ref a∧Dw H3 a y v H4∧D.nx σ H4
section
variable {X:Cx}{o i e value:Expr}{pos pos' tpos:Pos}{td ty tv:TE}
theorem Va (hu:X.A.units+1 < vx) (ho:PE X o td) (hi:PE X i ty) (hv:PE X value tv) (hs:j3 value (some (.Subscript o i pos')) pos.line X.env=pure false) :
 PS X (.Assign [.Subscript o i pos'] value pos) (ZS td ty tv):=by
 intro pins s σ H D I h
 refine wpAny_Assign_Subscript (thn (hv pins s σ H _ I h) fun r s1 ⟨v,H1,I1,rv,q1⟩=>thn (ho pins s1 σ H1 _ I1 q1) fun u s2 ⟨x,H2,I2,rx,q2⟩=>thn (hi pins s2 σ H2 _ I2 q2) fun iv s3 aA=>?_) hs
 obtain ⟨y,H3,I3,ry,a,H4,ex,g,q3⟩:=aA
 subst ex
 obtain rfl:u=dQ a:=rx
 exact My hu I3 g ry rv fun s4 I4=>⟨σ,H4,I4,q3⟩
end
theorem QX {P:cw}{w:eI}{H:Hp} (h:Heap) (hb:nV < h.objs.size):fJ P w H (h.push { cls:=.type "dict",data:=.dict #[] }) h.objs.size (.dK []):=
 ⟨iE _,beq_eq_false_iff_ne.mpr (p9 (eJ hb)),[],.nil,Heap.DictOf.new h⟩
noncomputable def YX:TE:=fun _ H Q=>∀p,H p=none→Q (.ref p) (upd H p (.dK []))
section
variable {X:Cx}{pos:Pos}
theorem Qg:PE X (.Dict [] [] pos) YX:=fun pins s σ H Q I h=>
 wpAny_Dict_empty ⟨.ref s.heap.objs.size,_,I.laid (a:=s.heap.objs.size) (o:=.dK []) (t':=s.toks) (fun _ _ q=>aI _ q) (aE _) (QX s.heap I.big),rfl,h _ (I.hok.fresh (aE _))⟩
end
section
variable {X:Cx}{pins:List (Addr×Obj)}{σ:St}{H:Hp}{s:ar}{a:Addr}{y d:V}{u r:ai}{o:Option V}{A:eo}{E:ai→ar→Prop}
end
section
variable {X:Cx}{o e f:Expr}{apos cpos:Pos}{td ty tx:TE}
end
section
variable {X:Cx}{pins:List (Addr×Obj)}{σ:St}{H:Hp}{s:ar}{a:Addr}{kvs:List (Key×V)}{A:eo}{E:ai→ar→Prop}
end
section
variable {X:Cx}{pins:List (Addr×Obj)}{σ:St}{H:Hp}{s:ar}{a:Addr}{y:V}{u:ai}{A:eo}{E:ai→ar→Prop}
end
noncomputable abbrev iU:=List (List Int)
noncomputable def Y9 (ks:iU):Int:=reduceHash (Builtin.Tuple.tupleHashOf (ks.map fun k=>reduceHash (Builtin.Tuple.tupleHashOf (k.map rS))))
noncomputable def Tv (a:Addr) (xs:List (iU×Addr×ai)):HO:=.ext fun h=>
 xs.length≤bp∧(a == nV)=false∧(xs.map (·.1)).Nodup∧∃o es ep,h.get? a=some o∧o.ExactDict∧o.data = .dict es ep∧es.toList=xs.map fun x=>⟨Y9 x.1,.ref x.2.1,x.2.2⟩
noncomputable def JS (K:ag) (H:Hp) (ks:iU) (b:Addr):Prop:=∃cs:List Addr,SqT K H b (cs.map V.ref)∧sL (fun (k:List Int) c=>SqT K H c (k.map V.int)) ks cs
noncomputable abbrev KN (K:ag) (H:Hp):List (iU×V)→List (iU×Addr×ai)→Prop:=sL fun p q=>p.1=q.1∧JS K H p.1 q.2.1∧RelV p.2 q.2.2
theorem JS.keeps {K:ag}{H H':Hp}{ks:iU}{b:Addr} (n:JS K H ks b) (ht:∀b ys,SqT K H b ys→SqT K H' b ys):JS K H' ks b:=by
 obtain ⟨cs,h1,h2⟩:=n
 exact ⟨cs,ht _ _ h1,Paired.zz h2 fun _ _ z=>ht _ _ z⟩
theorem KN.keeps {K:ag}{H H':Hp}{kvs:List (iU×V)}{xs:List (iU×Addr×ai)} (r:KN K H kvs xs) (ht:∀b ys,SqT K H b ys→SqT K H' b ys):KN K H' kvs xs:=
 Paired.zz r fun _ _ z=>⟨z.1,z.2.1.keeps ht,z.2.2⟩
end L2
namespace PySem
open Sem (wp)
section
variable {prog:cw}{w:eI}{K:Type} [DecidableEq K] (knd:KeyKind prog w K)
variable {knd}
variable {A:eo}{E:ai→ar→Prop}{s:ar}
end
end PySem
namespace L2
open PySem PySem.Spec PyProof.Rows
section
variable {X:Cx}{pins:List (Addr×Obj)}{σ:St}{H:Hp}{s:ar}{a b:Addr}{v:V}{u r:ai}{A:eo}{E:ai→ar→Prop}{kvs:List (iU×V)}{xs:List (iU×Addr×ai)}{k:iU}
end
end L2
namespace L3
open PySem PySem.Spec PyProof.Rows L2
structure Exn where
 cls:Str
 arg:Option ae
inductive Res (α:Type) where
 | ok (a:α)
 | err (x:Exn)
 | bad
noncomputable def Res.bind {α β:Type}:Res α→(α→Res β)→Res β
 | .ok a,f=>f a
 | .err x,_=>.err x
 | .bad,_=>.bad
@[simp] theorem Res.bz {α β:Type} (a:α) (f:α→Res β):(Res.ok a).bind f=f a:=rfl
theorem Res.aF {α β:Type}{r:Res α}{f:α→Res β}{b:β} (h:r.bind f = .ok b):∃a,r = .ok a∧f a = .ok b:=by
 cases r with
 | ok a=>exact ⟨a,rfl,h⟩
 | err x=>cases h
 | bad=>cases h
noncomputable def gd {α:Type} (c:Prop) [Decidable c] (r:Res α):Res α:=if c then r else .bad
theorem cN {α:Type}{c:Prop} [Decidable c] {r:Res α}{a:α} (h:gd c r = .ok a):c∧r = .ok a:=by
 unfold gd at h
 by_cases hc:c
 · rw[if_pos hc] at h;exact ⟨hc,h⟩
 · rw[if_neg hc] at h;cases h
theorem cj {α:Type}{c:Prop} [Decidable c] {r:Res α} (h:c):gd c r=r:=if_pos h
noncomputable abbrev Ev:=List (Option ae)
inductive Out where
 | nx (Γ:Ev)
 | rt (d:ae)
 | bk (Γ:Ev)
 | ct (Γ:Ev)
noncomputable abbrev ME:=Ev→Res ae
noncomputable abbrev MS:=Ev→Res Out
noncomputable def dJ:ae→Option Key
 | .int i=>some (.inl i)
 | .str x=>some (.inr x)
 | _=>none
mutual
noncomputable def Rp (K:ag) (A:Hp):ae→V→Prop
 | .none,v=>v = .non
 | .bool b,v=>v = .bl b
 | .int i,v=>v = .int i
 | .str x,v=>v = .str x
 | .list ds,v=>∃a vs,v = .ref a∧SqL K A a vs∧aB K A ds vs
 | .tuple ds,v=>∃a vs,v = .ref a∧SqT K A a vs∧aB K A ds vs
 | .dict kvs,v=>∃a u,v = .ref a∧A a=some (.dK u)∧bw K A kvs u
noncomputable def aB (K:ag) (A:Hp):List ae→List V→Prop
 | [],vs=>vs=[]
 | d::ds,vs=>∃v r,vs=v::r∧Rp K A d v∧aB K A ds r
noncomputable def bw (K:ag) (A:Hp):List (ae×ae)→List (Key×V)→Prop
 | [],u=>u=[]
 | (k,d)::r,u=>∃key v u',u=(key,v)::u'∧dJ k=some key∧Rp K A d v∧bw K A r u'
end
theorem aH.rd {H H':Hp} (e:aH H H') {a:Addr}{u:HO} (h:Rd H a u):Rd H' a u:=by
 rcases h with h | ⟨o,h⟩
 · exact .inl (e _ _ h)
 · exact .inr ⟨o,e _ _ h⟩
mutual
theorem Rp.mono {K:ag}{H H':Hp} (e:aH H H'):∀(d:ae) {v:V},Rp K H d v→Rp K H' d v
 | .none,v,h=>by rw[Rp] at h ⊢;exact h
 | .bool _,v,h=>by rw[Rp] at h ⊢;exact h
 | .int _,v,h=>by rw[Rp] at h ⊢;exact h
 | .str _,v,h=>by rw[Rp] at h ⊢;exact h
 | .list ds,v,h=>by
  rw[Rp] at h ⊢
  obtain ⟨a,vs,h1,h2,h3⟩:=h
  exact ⟨a,vs,h1,e.seq h2,aB.mono e ds h3⟩
 | .tuple ds,v,h=>by
  rw[Rp] at h ⊢
  obtain ⟨a,vs,h1,h2,h3⟩:=h
  exact ⟨a,vs,h1,e.rY h2,aB.mono e ds h3⟩
 | .dict kvs,v,h=>by
  rw[Rp] at h ⊢
  obtain ⟨a,u,h1,h2,h3⟩:=h
  exact ⟨a,u,h1,e _ _ h2,bw.mono e kvs h3⟩
theorem aB.mono {K:ag}{H H':Hp} (e:aH H H'):∀(ds:List ae) {vs:List V},aB K H ds vs→aB K H' ds vs
 | [],vs,h=>by rw[aB] at h ⊢;exact h
 | d::ds,vs,h=>by
  rw[aB] at h ⊢
  obtain ⟨v,r,h1,h2,h3⟩:=h
  exact ⟨v,r,h1,Rp.mono e d h2,aB.mono e ds h3⟩
theorem bw.mono {K:ag}{H H':Hp} (e:aH H H'):∀(kvs:List (ae×ae)) {u:List (Key×V)},bw K H kvs u→bw K H' kvs u
 | [],u,h=>by rw[bw] at h ⊢;exact h
 | (k,d)::r,u,h=>by
  rw[bw] at h ⊢
  obtain ⟨key,v,u',h1,h2,h3,h4⟩:=h
  exact ⟨key,v,u',h1,h2,Rp.mono e d h3,bw.mono e r h4⟩
end
mutual
theorem Rp.is {K:ag}{H:Hp}:∀(d:ae) {v:V},d.canLay0=true→Rp K H d v→Is K H d v
 | .none,v,_,h=>by rw[Rp] at h;rw[Is];exact h
 | .bool _,v,_,h=>by rw[Rp] at h;rw[Is];exact h
 | .int _,v,_,h=>by rw[Rp] at h;rw[Is];exact h
 | .str _,v,_,h=>by rw[Rp] at h;rw[Is];exact h
 | .list ds,v,c,h=>by
  rw[Rp] at h;rw[Is]
  rw[jS] at c
  obtain ⟨a,vs,h1,h2,h3⟩:=h
  exact ⟨a,vs,h1,h2,aB.is ds c h3⟩
 | .tuple ds,v,c,h=>by
  rw[Rp] at h;rw[Is]
  rw[jS] at c
  obtain ⟨a,vs,h1,h2,h3⟩:=h
  exact ⟨a,vs,h1,h2,aB.is ds c h3⟩
 | .dict _,v,c,h=>by rw[jS] at c;cases c
theorem aB.is {K:ag}{H:Hp}:∀(ds:List ae) {vs:List V},ij ds=true→aB K H ds vs→eG K H ds vs
 | [],vs,_,h=>by rw[aB] at h;rw[eG];exact h
 | d::ds,vs,c,h=>by
  rw[aB] at h;rw[eG]
  rw[ij,cc] at c
  obtain ⟨v,r,h1,h2,h3⟩:=h
  exact ⟨v,r,h1,Rp.is d c.1 h2,aB.is ds c.2 h3⟩
end
section
variable {K:ag}{A H:Hp}{v:V}
theorem Rp.int {i:Int}:Rp K A (.int i) v↔v = .int i:=by rw[Rp]
theorem Rp.bool {b:Bool}:Rp K A (.bool b) v↔v = .bl b:=by rw[Rp]
theorem Rp.none:Rp K A .none v↔v = .non:=by rw[Rp]
theorem Rp.str {x:Str}:Rp K A (.str x) v↔v = .str x:=by rw[Rp]
theorem Rp.list {ds:List ae}:Rp K A (.list ds) v↔∃a vs,v = .ref a∧SqL K A a vs∧aB K A ds vs:=by rw[Rp]
theorem Rp.tuple {ds:List ae}:Rp K A (.tuple ds) v↔∃a vs,v = .ref a∧SqT K A a vs∧aB K A ds vs:=by rw[Rp]
theorem aB.nil {vs:List V}:aB K A [] vs↔vs=[]:=by rw[aB]
theorem aB.cons {d:ae}{ds:List ae}{vs:List V}:aB K A (d::ds) vs↔∃v r,vs=v::r∧Rp K A d v∧aB K A ds r:=by rw[aB]
theorem aB.length:∀{ds:List ae}{vs:List V},aB K A ds vs→ds.length=vs.length
 | [],vs,h=>by rw[aB.nil] at h;rw[h];rfl
 | d::ds,vs,h=>by
  rw[aB.cons] at h
  obtain ⟨v,r,rfl,_,h⟩:=h
  rw[bX,bX,aB.length h]
theorem aB.get:∀{ds:List ae}{vs:List V}{i:Nat}{x:V},aB K A ds vs→vs[i]?=some x→∃d,ds[i]?=some d∧Rp K A d x
 | [],vs,i,x,h,e=>by rw[aB.nil] at h;subst h;simp at e
 | d::ds,vs,i,x,h,e=>by
  rw[aB.cons] at h
  obtain ⟨v,r,rfl,h1,h⟩:=h
  match i with
  | 0=>simp at e;subst e;exact ⟨d,rfl,h1⟩
  | i+1=>
   have e':r[i]?=some x:=by simpa using e
   obtain ⟨d',h2,h3⟩:=aB.get h e'
   exact ⟨d',by simpa using h2,h3⟩
theorem aB.get':∀{ds:List ae}{vs:List V}{i:Nat}{d:ae},aB K A ds vs→ds[i]?=some d→∃x,vs[i]?=some x∧Rp K A d x
 | [],vs,i,x,h,e=>by simp at e
 | d::ds,vs,i,x,h,e=>by
  rw[aB.cons] at h
  obtain ⟨v,r,rfl,h1,h⟩:=h
  match i with
  | 0=>simp at e;subst e;exact ⟨v,rfl,h1⟩
  | i+1=>
   have e':ds[i]?=some x:=by simpa using e
   obtain ⟨d',h2,h3⟩:=aB.get' h e'
   exact ⟨d',by simpa using h2,h3⟩
theorem aB.append:∀{ds es:List ae}{vs us:List V},aB K A ds vs→aB K A es us→aB K A (ds++es) (vs++us)
 | [],es,vs,us,h,g=>by rw[aB.nil] at h;subst h;exact g
 | d::ds,es,vs,us,h,g=>by
  rw[aB.cons] at h
  obtain ⟨v,r,rfl,h1,h⟩:=h
  rw[ua,ua,aB.cons]
  exact ⟨v,r++us,rfl,h1,aB.append h g⟩
theorem aB.one {d:ae}{x:V} (h:Rp K A d x):aB K A [d] [x]:=by rw[aB.cons];exact ⟨x,[],rfl,h,aB.nil.mpr rfl⟩
theorem aB.take:∀{ds:List ae}{vs:List V} (n:Nat),aB K A ds vs→aB K A (ds.take n) (vs.take n)
 | _,_,0,_=>by rw[wt,wt];exact aB.nil.mpr rfl
 | [],vs,n+1,h=>by rw[aB.nil] at h;subst h;exact aB.nil.mpr rfl
 | d::ds,vs,n+1,h=>by
  rw[aB.cons] at h
  obtain ⟨v,r,rfl,h1,h⟩:=h
  rw[List.take_succ_cons,List.take_succ_cons,aB.cons]
  exact ⟨v,_,rfl,h1,aB.take n h⟩
theorem aB.drop:∀{ds:List ae}{vs:List V} (n:Nat),aB K A ds vs→aB K A (ds.drop n) (vs.drop n)
 | _,_,0,h=>by rw[wx,wx];exact h
 | [],vs,n+1,h=>by rw[aB.nil] at h;subst h;exact aB.nil.mpr rfl
 | d::ds,vs,n+1,h=>by
  rw[aB.cons] at h
  obtain ⟨v,r,rfl,h1,h⟩:=h
  rw[List.drop_succ_cons,List.drop_succ_cons]
  exact aB.drop n h
theorem aB.ints {ns:List Int}:aB K A (ns.map ae.int) (ns.map V.int):=by
 induction ns with
 | nil=>exact aB.nil.mpr rfl
 | cons n ns ih=>exact aB.cons.mpr ⟨_,_,rfl,Rp.int.mpr rfl,ih⟩
end
inductive Fl where
 | imm | bor | own | fix (p:Addr) | exc (C:Addr) | nst (b:Bool)
 deriving DecidableEq
noncomputable def isO:Fl→Bool
 | .own=>true
 | .fix _=>true
 | _=>false
noncomputable def isX:Fl→Bool
 | .exc _=>true
 | .nst _=>true
 | _=>false
noncomputable def QH (A:Hp) (C:Addr) (v:V):Prop:=∃p ob,v = .ref p∧A p=some (.frz ob (.own 0))∧ob.cls = .ref C
noncomputable def Tr:List ae→Option (List Int)
 | []=>some []
 | .int i::r=>match Tr r with
  | some l=>some (i::l)
  | none=>none
 | _::_=>none
noncomputable def TF:List ae→Option iU
 | []=>some []
 | .tuple ds::r=>match Tr ds,TF r with
  | some a,some b=>some (a::b)
  | _,_=>none
 | _::_=>none
noncomputable def aaW:ae→Option iU
 | .tuple ds=>TF ds
 | _=>none
noncomputable def RpN (K:ag) (A:Hp) (kvs:List (ae×ae)) (xs:List (iU×Addr×ai)):Prop:=∃us:List (iU×V),KN K A us xs∧sL (fun p q=>aaW p.1=some q.1∧Rp K A p.2 q.2) kvs us
noncomputable def aaw (K:ag) (A B H:Hp) (d:ae) (v:V):Prop:=∃p xs kvs,v = .ref p∧d = .dict kvs∧H p=some (Tv p xs)∧A p=none∧B p=none∧RpN K A kvs xs
noncomputable def Pk (K:ag) (A H:Hp) (d:ae) (v:V):Prop:=
 Rp K A d v∨(∃p vs ds,v = .ref p∧d = .list ds∧SqL K H p vs∧aB K A ds vs)∨∃p u kvs,v = .ref p∧d = .dict kvs∧H p=some (.dK u)∧bw K A kvs u
noncomputable def lL (K:ag) (A:Hp) (d:ae) (o:HO):Prop:=(∃ds vs,d = .list ds∧o = .lst vs∧aB K A ds vs)∨∃kvs u,d = .dict kvs∧o = .dK u∧bw K A kvs u
noncomputable def Own (K:ag) (A B H:Hp) (d:ae) (v:V):Prop:=∃p o,v = .ref p∧H p=some o∧A p=none∧B p=none∧lL K A d o
noncomputable def v7 (K:ag) (A B H:Hp):Fl→ae→V→Prop
 | .imm,d,v=>Rp K A d v
 | .bor,d,v=>Pk K A B d v
 | .own,d,v=>Own K A B H d v
 | .fix p,d,v=>v = .ref p∧Own K A B H d v
 | .exc C,_,v=>QH A C v
 | .nst b,d,v=>b=true→aaw K A B H d v
noncomputable def Slot (K:ag) (A B H:Hp) (f:Fl) (d:Option ae) (v:Option V):Prop:=∀d',d=some d'→∃v',v=some v'∧v7 K A B H f d' v'
noncomputable abbrev fl (O:List Fl) (i:Nat):Fl:=O.getD i .imm
noncomputable abbrev gv (Γ:Ev) (i:Nat):Option ae:=Γ.getD i none
noncomputable abbrev sv (σ:L2.St) (i:Nat):Option V:=σ.getD i none
structure aV (K:ag) (A B H:Hp) (O:List Fl) (σ:L2.St) (Γ:Ev):Prop where
 a:aH A H
 b:aH B H
 len:Γ.length=σ.length
 slot:∀i,Slot K A B H (fl O i) (gv Γ i) (sv σ i)
 sep:∀i j,i≠j→isO (fl O i)=true→isO (fl O j)=true→gv Γ i≠none→gv Γ j≠none→sv σ i≠sv σ j
noncomputable def New (A A' B:Hp):Prop:=∀p,A p=none→B p≠none→A' p=none
structure aP (A H A' H':Hp):Prop where
 aa:aH A A'
 hh:aH H H'
 ah:aH A' H'
 nw:New A A' H
theorem aP.refl {A H:Hp} (h:aH A H):aP A H A H:=⟨aH.refl _,aH.refl _,h,fun _ h _=>h⟩
theorem aH.ne {H H':Hp} (e:aH H H') {p:Addr} (h:H p≠none):H' p≠none:=by
 cases q:H p with
 | none=>exact absurd q h
 | some o=>rw[e p o q];simp
theorem aP.trans {A H A1 H1 A2 H2:Hp} (g:aP A H A1 H1) (g':aP A1 H1 A2 H2):aP A H A2 H2:=
 ⟨g.aa.trans g'.aa,g.hh.trans g'.hh,g'.ah,fun p h1 h2=>g'.nw p (g.nw p h1 h2) (aH.ne g.hh h2)⟩
theorem New.mono {A A' B B':Hp} (n:New A A' B') (s:aH B B'):New A A' B:=fun p h1 h2=>n p h1 (aH.ne s h2)
theorem New.trans {A A1 A2 B:Hp} (n:New A A1 B) (m:New A1 A2 B):New A A2 B:=fun p h1 h2=>m p (n p h1 h2) h2
section
variable {K:ag}{A B H A' H':Hp}{O:List Fl}{σ:L2.St}{Γ:Ev}{d:ae}{v:V}
theorem Pk.mono (ha:aH A A') (hh:aH H H') (h:Pk K A H d v):Pk K A' H' d v:=by
 rcases h with h | ⟨p,vs,ds,e1,e2,h1,h2⟩ | ⟨p,u,kvs,e1,e2,h1,h2⟩
 · exact .inl (Rp.mono ha d h)
 · exact .inr (.inl ⟨p,vs,ds,e1,e2,hh.seq h1,aB.mono ha ds h2⟩)
 · exact .inr (.inr ⟨p,u,kvs,e1,e2,hh _ _ h1,bw.mono ha kvs h2⟩)
theorem lL.mono {o:HO} (ha:aH A A') (h:lL K A d o):lL K A' d o:=by
 rcases h with ⟨ds,vs,e1,e2,h⟩ | ⟨kvs,u,e1,e2,h⟩
 · exact .inl ⟨ds,vs,e1,e2,aB.mono ha ds h⟩
 · exact .inr ⟨kvs,u,e1,e2,bw.mono ha kvs h⟩
theorem RpN.mono {kvs:List (ae×ae)}{xs:List (iU×Addr×ai)} (ha:aH A A') (h:RpN K A kvs xs):RpN K A' kvs xs:=by
 obtain ⟨us,h1,h2⟩:=h
 exact ⟨us,h1.keeps fun b ys e=>ha.rY e,Paired.zz h2 fun _ _ z=>⟨z.1,Rp.mono ha _ z.2⟩⟩
theorem lL.nx {o:HO}{p:Addr}{xs:List (iU×Addr×ai)} (h:lL K A d o) (e:some o=some (Tv p xs)):False:=by
 rcases h with ⟨ds,vs,e1,e2,h⟩ | ⟨kvs,u,e1,e2,h⟩ <;> (rw[e2] at e;cases e)
theorem v7.grow (g:aP A H A' H') {f:Fl} (h:v7 K A B H f d v):v7 K A' B H' f d v:=by
 cases f with
 | imm=>exact Rp.mono g.aa d h
 | bor=>exact Pk.mono g.aa (aH.refl _) h
 | own=>
  obtain ⟨p,o,e,h1,h2,h3,h4⟩:=h
  exact ⟨p,o,e,g.hh _ _ h1,g.nw p h2 (by rw[h1];simp),h3,h4.mono g.aa⟩
 | fix p0=>
  obtain ⟨e0,p,o,e,h1,h2,h3,h4⟩:=h
  exact ⟨e0,p,o,e,g.hh _ _ h1,g.nw p h2 (by rw[h1];simp),h3,h4.mono g.aa⟩
 | exc C=>
  obtain ⟨p,ob,e,h1,h2⟩:=h
  exact ⟨p,ob,e,g.aa _ _ h1,h2⟩
 | nst b=>
  intro z
  obtain ⟨p,xs,kvs,w1,w2,w3,w4,w5,w6⟩:=h z
  exact ⟨p,xs,kvs,w1,w2,g.hh _ _ w3,g.nw p w4 (by rw[w3];simp),w5,w6.mono g.aa⟩
theorem Slot.grow (g:aP A H A' H') {f:Fl}{d:Option ae}{v:Option V} (h:Slot K A B H f d v):Slot K A' B H' f d v:=fun d' e=>
 let ⟨v',e',q⟩:=h d' e;⟨v',e',q.grow g⟩
theorem aV.grow (g:aP A H A' H') (r:aV K A B H O σ Γ):aV K A' B H' O σ Γ:=
 ⟨g.ah,r.b.trans g.hh,r.len,fun i=>(r.slot i).grow g,r.sep⟩
theorem lL.share {o:HO}{p:Addr} (h:lL K A d o) (s:aH A (upd A p o)):Rp K (upd A p o) d (.ref p):=by
 rcases h with ⟨ds,vs,e1,e2,h⟩ | ⟨kvs,u,e1,e2,h⟩
 · subst e1;subst e2
   exact Rp.list.mpr ⟨p,vs,rfl,SqL.of bK,aB.mono s ds h⟩
 · subst e1;subst e2
   exact (by rw[Rp];exact ⟨p,u,rfl,bK,bw.mono s kvs h⟩)
theorem Own.pk (h:Own K A B H d v):Pk K A H d v:=by
 obtain ⟨p,o,e,h1,_,_,⟨ds,vs,e2,e3,h4⟩ | ⟨kvs,u,e2,e3,h4⟩⟩:=h
 · subst e3
   exact .inr (.inl ⟨p,vs,ds,e,e2,SqL.of h1,h4⟩)
 · subst e3
   exact .inr (.inr ⟨p,u,kvs,e,e2,h1,h4⟩)
theorem v7.pk (hb:aH B H) {f:Fl} (h:v7 K A B H f d v) (hx:isX f=false):Pk K A H d v:=by
 cases f with
 | imm=>exact .inl h
 | bor=>exact Pk.mono (aH.refl _) hb h
 | own=>exact Own.pk h
 | fix p0=>exact Own.pk h.2
 | exc C=>cases hx
 | nst b=>cases hx
theorem Pk.list (ha:aH A H) {ds:List ae} (h:Pk K A H (.list ds) v):∃p vs,v = .ref p∧SqL K H p vs∧aB K A ds vs:=by
 rcases h with h | ⟨p,vs,ds',e1,e2,h1,h2⟩ | ⟨p,u,kvs,e1,e2,h1,h2⟩
 · obtain ⟨a,vs,e,h1,h2⟩:=Rp.list.mp h
   exact ⟨a,vs,e,ha.seq h1,h2⟩
 · cases e2
   exact ⟨p,vs,e1,h1,h2⟩
 · cases e2
theorem Pk.jW (h:Pk K A H d v) (n:∀ds,d ≠ .list ds) (n2:∀kvs,d ≠ .dict kvs):Rp K A d v:=by
 rcases h with h | ⟨p,vs,ds',e1,e2,h1,h2⟩ | ⟨p,u,kvs,e1,e2,h1,h2⟩
 · exact h
 · exact absurd e2 (n ds')
 · exact absurd e2 (n2 kvs)
theorem Pk.int {i:Int} (h:Pk K A H (.int i) v):v = .int i:=Rp.int.mp (h.jW (fun _ z=>nomatch z) (fun _ z=>nomatch z))
theorem Pk.bool {i:Bool} (h:Pk K A H (.bool i) v):v = .bl i:=Rp.bool.mp (h.jW (fun _ z=>nomatch z) (fun _ z=>nomatch z))
theorem Pk.none (h:Pk K A H .none v):v = .non:=Rp.none.mp (h.jW (fun _ z=>nomatch z) (fun _ z=>nomatch z))
theorem Pk.str {x:Str} (h:Pk K A H (.str x) v):v = .str x:=Rp.str.mp (h.jW (fun _ z=>nomatch z) (fun _ z=>nomatch z))
theorem Pk.tuple (ha:aH A H) {ds:List ae} (h:Pk K A H (.tuple ds) v):∃p vs,v = .ref p∧SqT K H p vs∧aB K A ds vs:=by
 obtain ⟨a,vs,e,h1,h2⟩:=Rp.tuple.mp (h.jW (fun _ z=>nomatch z) (fun _ z=>nomatch z))
 exact ⟨a,vs,e,ha.rY h1,h2⟩
theorem Pk.is (ha:aH A H) (hc:dE d=true) (h:Pk K A H d v):Is K H d v:=by
 have c:=lP hc
 rcases h with h | ⟨p,vs,ds',e1,e2,h1,h2⟩ | ⟨p,u,kvs,e1,e2,h1,h2⟩
 rotate_right
 · subst e2
   rw[jS] at c
   cases c
 · exact Is.mono ha d (Rp.is d c h)
 · subst e2
   rw[Is]
   rw[jS] at c
   exact ⟨p,vs,e1,h1,eG.mono ha ds' (aB.is ds' c h2)⟩
theorem Rp.dict {kvs:List (ae×ae)}:Rp K A (.dict kvs) v↔∃a u,v = .ref a∧A a=some (.dK u)∧bw K A kvs u:=by rw[Rp]
theorem bw.nil {u:List (Key×V)}:bw K A [] u↔u=[]:=by rw[bw]
theorem bw.cons {k d:ae}{r:List (ae×ae)}{u:List (Key×V)}:bw K A ((k,d)::r) u↔∃key v u',u=(key,v)::u'∧dJ k=some key∧Rp K A d v∧bw K A r u':=by rw[bw]
theorem Pk.dict (ha:aH A H) {kvs:List (ae×ae)} (h:Pk K A H (.dict kvs) v):∃a u,v = .ref a∧H a=some (.dK u)∧bw K A kvs u:=by
 rcases h with h | ⟨p,vs,ds',e1,e2,h1,h2⟩ | ⟨p,u,kvs',e1,e2,h1,h2⟩
 · obtain ⟨a,u,e,h1,h2⟩:=Rp.dict.mp h
   exact ⟨a,u,e,ha _ _ h1,h2⟩
 · cases e2
 · cases e2
   exact ⟨p,u,e1,h1,h2⟩
theorem aP.new {p:Addr}{o:HO} (ha:aH A H) (h:H p=none):aP A H (upd A p o) (upd H p o):=
 ⟨aH.new (ha.free h) o,aH.new h o,fun b u q=>by
  by_cases hb:b=p
  · subst hb;rw[bK] at q ⊢;exact q
  · rw[bu hb] at q ⊢;exact ha b u q,fun b h1 h2=>by
  have hb:b≠p:=fun z=>h2 (z ▸ h)
  rw[bu hb];exact h1⟩
theorem aP.lay {p:Addr}{o:HO} (ha:aH A H) (h:H p=none):aP A H A (upd H p o):=
 ⟨aH.refl _,aH.new h o,ha.trans (aH.new h o),fun b h1 _=>h1⟩
end
end L3
namespace L3
open PySem PySem.Spec PyProof.Rows L2
noncomputable def noStar:Expr→Bool
 | .Starred _ _=>false
 | _=>true
noncomputable def eQ:List Expr→Bool
 | []=>true
 | e::es=>noStar e&&eQ es
theorem bO {e:Expr}{es:List Expr}{env:Env} (h:noStar e=true):d4 (e::es) env=(false,eval e env)::d4 es env:=by
 cases e <;> first | rfl | cases h
theorem gA:∀{es:List Expr}{env:Env}{pos:Pos},eQ es=true→(oC pos (d4 es env)).any (·.1)=false
 | [],_,_,_=>rfl
 | e::es,env,pos,h=>by
  rw[eQ,cc] at h
  rw[bO h.1]
  show (false||(oC pos (d4 es env)).any (·.1))=false
  rw[gA h.2]
  rfl
noncomputable def tE (K:ag) (O:List Fl) (m:ME):TE:=fun σ H Q=>∃A B Γ d,aV K A B H O σ Γ∧m Γ = .ok d∧∀v A' H',aP A H A' H'→Rp K A' d v→Q v H'
noncomputable def tP (K:ag) (O:List Fl) (m:ME):TE:=fun σ H Q=>∃A B Γ d,aV K A B H O σ Γ∧m Γ = .ok d∧∀v A' H',aP A H A' H'→Pk K A' H' d v→Q v H'
noncomputable def vf (K:ag) (H A' H':Hp) (d:ae) (v:V):Prop:=∃p o,v = .ref p∧H p=none∧H' p=some o∧A' p=none∧lL K A' d o
noncomputable def tF (K:ag) (O:List Fl) (m:ME):TE:=fun σ H Q=>∃A B Γ d,aV K A B H O σ Γ∧m Γ = .ok d∧∀v A' H',aP A H A' H'→vf K H A' H' d v→Q v H'
noncomputable def tT (K:ag) (O:List Fl) (m:ME):TT:=fun σ H Q=>∃A B Γ b,aV K A B H O σ Γ∧m Γ = .ok (.bool b)∧∀A' H',aP A H A' H'→Q b H'
section
variable {X:Cx}
theorem PE.imp {e:Expr}{t t':TE} (h:PE X e t) (i:∀σ H Q,t' σ H Q→t σ H Q):PE X e t':=fun pins s σ H Q I q=>h pins s σ H Q I (i σ H Q q)
theorem PT.imp {e:Expr}{t t':TT} (h:PT X e t) (i:∀σ H Q,t' σ H Q→t σ H Q):PT X e t':=fun pins s σ H Q I q=>h pins s σ H Q I (i σ H Q q)
theorem PW.imp {e:Expr}{t t':TT} (h:PW X e t) (i:∀σ H Q,t' σ H Q→t σ H Q):PW X e t':=fun w pins s σ H Q I q=>h w pins s σ H Q I (i σ H Q q)
theorem PA.imp {e:List Expr}{t t':TA} (h:PA X e t) (i:∀σ H Q,t' σ H Q→t σ H Q):PA X e t':=fun pos pins s σ H Q I q=>h pos pins s σ H Q I (i σ H Q q)
theorem PS.imp {e:Stmt}{t t':TS} (h:PS X e t) (i:∀D σ H,t' D σ H→t D σ H):PS X e t':=fun pins s σ H D I q=>h pins s σ H D I (i D σ H q)
theorem PSs.imp {e:List Stmt}{t t':TS} (h:PSs X e t) (i:∀D σ H,t' D σ H→t D σ H):PSs X e t':=fun pins s σ H D I q=>h pins s σ H D I (i D σ H q)
theorem PI.imp {tg e:Expr}{t t':TI} (h:PI X tg e t) (i:∀σ H R,t' σ H R→t σ H R):PI X tg e t':=fun pins s σ H R I q=>h pins s σ H R I (i σ H R q)
end
section
variable (X:Cx)
structure QE (e:Expr) (t:TE):Prop where
 h:PE X e t
structure QT (e:Expr) (t:TT):Prop where
 h:PT X e t
structure QW (e:Expr) (t:TT):Prop where
 h:PW X e t
structure QA (e:List Expr) (t:TA):Prop where
 h:PA X e t
structure QS (e:Stmt) (t:TS):Prop where
 h:PS X e t
structure QSs (e:List Stmt) (t:TS):Prop where
 h:PSs X e t
structure QI (tg e:Expr) (t:TI):Prop where
 h:PI X tg e t
structure QO (e:Option Expr) (t:TO):Prop where
 h:PO X e t
structure QG (tg:Expr) (t:TG):Prop where
 h:PG X tg t
structure QGs (tg:List Expr) (t:TGs):Prop where
 h:PGs X tg t
structure xu (e:List Expr) (t:TT):Prop where
 h:pX X e t
end
section
variable {X:Cx}
theorem QE.imp {e:Expr}{t t':TE} (h:PE X e t) (i:∀σ H Q,t' σ H Q→t σ H Q):QE X e t':=⟨PE.imp h i⟩
theorem QT.imp {e:Expr}{t t':TT} (h:PT X e t) (i:∀σ H Q,t' σ H Q→t σ H Q):QT X e t':=⟨PT.imp h i⟩
theorem QW.imp {e:Expr}{t t':TT} (h:PW X e t) (i:∀σ H Q,t' σ H Q→t σ H Q):QW X e t':=⟨PW.imp h i⟩
theorem QA.imp {e:List Expr}{t t':TA} (h:PA X e t) (i:∀σ H Q,t' σ H Q→t σ H Q):QA X e t':=⟨PA.imp h i⟩
theorem QS.imp {e:Stmt}{t t':TS} (h:PS X e t) (i:∀D σ H,t' D σ H→t D σ H):QS X e t':=⟨PS.imp h i⟩
theorem QSs.imp {e:List Stmt}{t t':TS} (h:PSs X e t) (i:∀D σ H,t' D σ H→t D σ H):QSs X e t':=⟨PSs.imp h i⟩
theorem QI.imp {tg e:Expr}{t t':TI} (h:PI X tg e t) (i:∀σ H R,t' σ H R→t σ H R):QI X tg e t':=⟨PI.imp h i⟩
end
section
variable {X:Cx}{K:ag}{O:List Fl}{m m1 m2:ME}{e a b c:Expr}{pos:Pos}
theorem sp (h:QE X e (tE K O m)):QE X e (tP K O m):=QE.imp h.h fun σ H Q aA=>by obtain ⟨A,B,Γ,d,r,em,k⟩:=aA;exact ⟨A,B,Γ,d,r,em,fun v A' H' g p=>k v A' H' g (.inl p)⟩
theorem vf.share {A H A' H':Hp}{d:ae}{v:V} (g:aP A H A' H') (h:vf K H A' H' d v):∃A'',aP A H A'' H'∧Rp K A'' d v:=by
 obtain ⟨p,o,rfl,h1,h2,h3,h4⟩:=h
 have s:aH A' (upd A' p o):=aH.new h3 _
 refine ⟨upd A' p o,⟨g.aa.trans s,g.hh,fun b u q=>?_,fun b n1 n2=>?_⟩,h4.share s⟩
 · by_cases hb:b=p
   · subst hb;rw[bK] at q;rw[h2];exact q
   · rw[bu hb] at q;exact g.ah b u q
 · have hb:b≠p:=fun z=>n2 (z ▸ h1)
   rw[bu hb];exact g.nw b n1 n2
theorem sfe (h:QE X e (tF K O m)):QE X e (tE K O m):=QE.imp h.h fun σ H Q ⟨A,B,Γ,d,r,em,k⟩=>⟨A,B,Γ,d,r,em,fun v A' H' g p=>by
 obtain ⟨A'',g',p'⟩:=p.share g
 exact k v A'' H' g' p'⟩
theorem sfp (h:QE X e (tF K O m)):QE X e (tP K O m):=sp (sfe h)
noncomputable def aj (i:Nat):ME:=fun Γ=>match gv Γ i with
 | some d=>.ok d
 | none=>.bad
noncomputable def eC (d:ae):ME:=fun _=>.ok d
theorem vQ {i:Nat}{Γ:Ev}{d:ae} (h:aj i Γ = .ok d):gv Γ i=some d:=by
 unfold aj at h
 cases q:gv Γ i with
 | none=>rw[q] at h;cases h
 | some d'=>rw[q] at h;cases h;rfl
theorem jc {σ:L2.St}{i:Nat}{v:V} (h:sv σ i=some v):σ[i]?=some (some v):=by
 unfold sv at h
 rw[ax] at h
 cases q:σ[i]? with
 | none=>rw[q] at h;cases h
 | some o=>rw[q] at h;exact congrArg some h
theorem ak (i:Nat) {x:Str} (hN:X.N[i]?=some x:=by rfl) (hv:Vis X.env.scope x:=by first | exact cb rfl | exact g9 (cb rfl) | exact g9 (g9 rfl)) (hd:(x == ("__debug__" : Str))=false:=by decide)
 (hcd:(x == ("__classdict__" : Str))=false:=by decide) (hx:isX (fl O i)=false:=by rfl):QE X (.Name x pos) (tP K O (aj i)):=QE.imp (il hN hv hd hcd) fun σ H Q aA=>by
 obtain ⟨A,B,Γ,d,r,em,k⟩:=aA
 obtain ⟨v,e1,q⟩:=r.slot i d (vQ em)
 exact ⟨v,jc e1,k v A H (aP.refl r.a) (q.pk r.b hx)⟩
theorem aO (i:Nat) {x:Str} (hi:fl O i = .imm:=by rfl) (hN:X.N[i]?=some x:=by rfl) (hv:Vis X.env.scope x:=by first | exact cb rfl | exact g9 (cb rfl) | exact g9 (g9 rfl)) (hd:(x == ("__debug__" : Str))=false:=by decide)
 (hcd:(x == ("__classdict__" : Str))=false:=by decide):QE X (.Name x pos) (tE K O (aj i)):=QE.imp (il hN hv hd hcd) fun σ H Q aA=>by
 obtain ⟨A,B,Γ,d,r,em,k⟩:=aA
 obtain ⟨v,e1,q⟩:=r.slot i d (vQ em)
 rw[hi] at q
 exact ⟨v,jc e1,k v A H (aP.refl r.a) q⟩
theorem Ew {v:V}{d:ae} (h:PE X e (tC v)) (hr:∀A,Rp K A d v):QE X e (tE K O (eC d)):=QE.imp h fun σ H Q aA=>by
 obtain ⟨A,B,Γ,d',r,em,k⟩:=aA
 cases em
 exact k v A H (aP.refl r.a) (hr A)
theorem ao {i:Int}{j pos}:QE X (.Constant (.int i) j pos) (tE K O (eC (.int i))):=Ew O4 fun _=>Rp.int.mpr rfl
theorem fB {i:Bool}{j pos}:QE X (.Constant (.bool i) j pos) (tE K O (eC (.bool i))):=Ew ZV fun _=>Rp.bool.mpr rfl
theorem m6 {j pos}:QE X (.Constant .none j pos) (tE K O (eC .none)):=Ew Nx fun _=>Rp.none.mpr rfl
theorem jr {x:Str}{j pos}:QE X (.Constant (.str x) j pos) (tE K O (eC (.str x))):=Ew MN fun _=>Rp.str.mpr rfl
theorem jM {x:Str}{v:V}{u:ai}{d:ae}{pos:Pos} (hg:Gl X x) (hm:X.mg x=some u) (r:RelV v u) (hr:∀A,Rp K A d v) (hd:(x == ("__debug__" : Str))=false:=by decide):QE X (.Name x pos) (tE K O (eC d)):=
 Ew (jJ hg hm r hd) hr
noncomputable def aq (f:ae→ae→Res ae) (a b:ME):ME:=fun Γ=>(a Γ).bind fun x=>(b Γ).bind fun y=>f x y
noncomputable def rD (K:ag) (f:ae→ae→Res ae):R2:=fun x y H Q=>∃A d1 d2 d,f d1 d2 = .ok d∧aH A H∧Pk K A H d1 x∧Pk K A H d2 y∧∀v A' H',aP A H A' H'→Rp K A' d v→Q v H'
theorem yr {f:ae→ae→Res ae}{σ:L2.St}{H:Hp}{Q:VK} (h:tE K O (aq f m1 m2) σ H Q):tOp (rD K f) (tP K O m1) (tP K O m2) σ H Q:=by
 obtain ⟨A,B,Γ,d,r,em,k⟩:=h
 obtain ⟨d1,e1,em⟩:=Res.aF em
 obtain ⟨d2,e2,em⟩:=Res.aF em
 refine ⟨A,B,Γ,d1,r,e1,fun x A1 H1 g1 p1=>⟨A1,B,Γ,d2,r.grow g1,e2,fun y A2 H2 g2 p2=>⟨A2,d1,d2,d,em,g2.ah,p1.mono g2.aa g2.hh,p2,fun v A' H' g3 p3=>k v A' H' ((g1.trans g2).trans g3) p3⟩⟩⟩
theorem Ys {f:ae→ae→Res ae}{σ:L2.St}{H:Hp}{Q:Bool→Hp→Prop} (h:tT K O (aq f m1 m2) σ H Q):Tf (tOp (rD K f) (tP K O m1) (tP K O m2)) σ H Q:=by
 obtain ⟨A,B,Γ,bb,r,em,k⟩:=h
 exact yr ⟨A,B,Γ,_,r,em,fun v A' H' g p=>⟨bb,Rp.bool.mp p,k A' H' g⟩⟩
theorem aJ {op:Operator}{f:ae→ae→Res ae} (ho:OpR X (g6 op) (rD K f)) (ha:QE X a (tP K O m1)) (hb:QE X b (tP K O m2)):QE X (.BinOp a op b pos) (tE K O (aq f m1 m2)):=QE.imp (IW ho ha.h hb.h) fun _ _ _=>yr
theorem qO {op:CmpOp}{f:ae→ae→Res ae} (ho:OpR X (h9 op) (rD K f)) (ha:QE X a (tP K O m1)) (hb:QE X b (tP K O m2)) (hm:kG op b=false):QE X (.Compare a [op] [b] pos) (tE K O (aq f m1 m2)):=QE.imp (Vg ho ha.h hb.h hm) fun _ _ _=>yr
theorem bh {op:CmpOp}{f:ae→ae→Res ae} (ho:OpR X (h9 op) (rD K f)) (ha:QE X a (tP K O m1)) (hb:QE X b (tP K O m2)) (hm:kG op b=false):QT X (.Compare a [op] [b] pos) (tT K O (aq f m1 m2)):=QT.imp (Ht ho ha.h hb.h hm) fun _ _ _=>Ys
noncomputable def uz (a b:ME):ME:=fun Γ=>(a Γ).bind fun x=>match x with
 | .bool true=>b Γ
 | .bool false=>.ok (.bool false)
 | _=>.bad
noncomputable def eOr (a b:ME):ME:=fun Γ=>(a Γ).bind fun x=>match x with
 | .bool false=>b Γ
 | .bool true=>.ok (.bool true)
 | _=>.bad
noncomputable def Qx (a:ME):ME:=fun Γ=>(a Γ).bind fun x=>match x with
 | .bool t=>.ok (.bool (!t))
 | _=>.bad
theorem Wn {op} (h:QE X a (tE K O m)):QE X (.BoolOp op [a] pos) (tE K O m):=⟨Xl h.h⟩
theorem ZC {rest:List Expr} (ha:QE X a (tE K O m1)) (hb:QE X (.BoolOp .Or (b::rest) pos) (tE K O m2)):QE X (.BoolOp .Or (a::b::rest) pos) (tE K O (eOr m1 m2)):=QE.imp (Z1 ha.h hb.h) fun σ H Q aA=>by
 obtain ⟨A,B,Γ,d,r,em,k⟩:=aA
 obtain ⟨d1,e1,em⟩:=Res.aF em
 refine ⟨A,B,Γ,d1,r,e1,fun v A1 H1 g1 p1=>?_⟩
 cases d1 with
 | bool bb=>
  refine ⟨bb,Rp.bool.mp p1,?_⟩
  cases bb with
  | false=>exact wZ ⟨A1,B,Γ,d,r.grow g1,em,fun v A' H' g p=>k v A' H' (g1.trans g) p⟩
  | true=>cases em;exact uL (k _ A1 H1 g1 (Rp.bool.mpr rfl))
 | _=>cases em
theorem vM (ha:QT X a (tT K O m)):QW X (.BoolOp .And [a] pos) (tT K O m):=⟨V0 ha.h⟩
theorem qM (ha:QT X a (tT K O m)):QW X (.BoolOp .Or [a] pos) (tT K O m):=⟨WW ha.h⟩
theorem yF {rest:List Expr} (ha:QT X a (tT K O m1)) (hb:QW X (.BoolOp .And (b::rest) pos) (tT K O m2)):QW X (.BoolOp .And (a::b::rest) pos) (tT K O (uz m1 m2)):=QW.imp (Yw ha.h hb.h) fun σ H Q aA=>by
 obtain ⟨A,B,Γ,d,r,em,k⟩:=aA
 obtain ⟨d1,e1,em⟩:=Res.aF em
 cases d1 with
 | bool bb=>
  refine ⟨A,B,Γ,bb,r,e1,fun A1 H1 g1=>?_⟩
  cases bb with
  | true=>exact uL ⟨A1,B,Γ,d,r.grow g1,em,fun A' H' g=>k A' H' (g1.trans g)⟩
  | false=>cases em;exact wZ (k A1 H1 g1)
 | _=>cases em
theorem wg {rest:List Expr} (ha:QT X a (tT K O m1)) (hb:QW X (.BoolOp .Or (b::rest) pos) (tT K O m2)):QW X (.BoolOp .Or (a::b::rest) pos) (tT K O (eOr m1 m2)):=QW.imp (ZX ha.h hb.h) fun σ H Q aA=>by
 obtain ⟨A,B,Γ,d,r,em,k⟩:=aA
 obtain ⟨d1,e1,em⟩:=Res.aF em
 cases d1 with
 | bool bb=>
  refine ⟨A,B,Γ,bb,r,e1,fun A1 H1 g1=>?_⟩
  cases bb with
  | false=>exact wZ ⟨A1,B,Γ,d,r.grow g1,em,fun A' H' g=>k A' H' (g1.trans g)⟩
  | true=>cases em;exact uL (k A1 H1 g1)
 | _=>cases em
theorem mR (h:QW X e (tT K O m)):QT X e (tT K O m):=⟨h.h.pt⟩
theorem XN (ha:QT X a (tT K O m1)):QT X (.UnaryOp .Not a pos) (tT K O (Qx m1)):=QT.imp (W4 ha.h) fun σ H Q aA=>by
 obtain ⟨A,B,Γ,d,r,em,k⟩:=aA
 obtain ⟨d1,e1,em⟩:=Res.aF em
 cases d1 with
 | bool bb=>cases em;exact ⟨A,B,Γ,bb,r,e1,fun A1 H1 g1=>k A1 H1 g1⟩
 | _=>cases em
noncomputable def RW:ae→Res ae
 | .none=>.ok (.bool false)
 | .bool b=>.ok (.bool b)
 | .int i=>.ok (.bool (i != 0))
 | .list ds=>.ok (.bool (!ds.isEmpty))
 | .tuple ds=>.ok (.bool (!ds.isEmpty))
 | .str x=>gd (x.length≤bp) (.ok (.bool ((x.length:Int) != 0)))
 | _=>.bad
noncomputable def eUn (f:ae→Res ae) (a:ME):ME:=fun Γ=>(a Γ).bind f
theorem aB.isEmpty {A:Hp}{ds:List ae}{vs:List V} (h:aB K A ds vs):vs.isEmpty=ds.isEmpty:=by
 cases ds with
 | nil=>rw[aB.nil] at h;subst h;rfl
 | cons d ds=>rw[aB.cons] at h;obtain ⟨v,r,rfl,_⟩:=h;rfl
theorem Xo (h:QE X a (tP X.K O m)) (he:∀whole,isTrue a X.env whole=(do let v ← whole;standAt a.pos;holding [v] (truthy v)):=by intro _;rfl):QT X a (tT X.K O (eUn RW m)):=QT.imp (Sx h.h he) fun σ H Q aA=>by
 obtain ⟨A,B,Γ,bb,r,em,k⟩:=aA
 obtain ⟨d1,e1,em⟩:=Res.aF em
 refine ⟨A,B,Γ,d1,r,e1,fun v A1 H1 g1 p1=>⟨bb,?_,k A1 H1 g1⟩⟩
 cases d1 with
 | none=>cases em;rw[p1.none];rfl
 | bool b=>cases em;rw[p1.bool];rfl
 | int i=>cases em;rw[p1.int];rfl
 | str x=>
  obtain ⟨hz,em⟩:=cN em
  cases em;rw[p1.str];exact ⟨hz,rfl⟩
 | list ds=>
  cases em
  obtain ⟨p,vs,rfl,h1,h2⟩:=p1.list g1.ah
  exact .inl ⟨vs,h1,by rw[h2.isEmpty]⟩
 | tuple ds=>
  cases em
  obtain ⟨p,vs,rfl,h1,h2⟩:=p1.tuple g1.ah
  exact .inr (.inl ⟨vs,h1,by rw[h2.isEmpty]⟩)
 | dict _=>cases em
end
noncomputable def nZ (g:Int→Int→Res ae):ae→ae→Res ae
 | .int a,.int b=>g a b
 | _,_=>.bad
theorem iG {g:Int→Int→Res ae}{a b d:ae} (e:nZ g a b = .ok d):∃i j,a = .int i∧b = .int j∧g i j = .ok d:=by
 cases a with
 | int i=>
  cases b with
  | int j=>exact ⟨i,j,rfl,rfl,e⟩
  | _=>cases e
 | _=>cases e
noncomputable def bI:ae→ae→Res ae
 | .int a,.int b=>.ok (.int (a+b))
 | .str a,.str b=>gd (a.length+b.length≤bp) (.ok (.str (a++b)))
 | .list a,.list b=>gd (a.length+b.length≤bp) (.ok (.list (a++b)))
 | .tuple a,.tuple b=>gd (a.length+b.length≤bp) (.ok (.tuple (a++b)))
 | .int a,.bool b=>.ok (.int (a+b2i b))
 | _,_=>.bad
noncomputable def qJ:ae→ae→Res ae:=nZ fun a b=>.ok (.int (a - b))
instance (i j:Int):Decidable (qL i j):=by unfold qL;infer_instance
instance (i j:Int):Decidable (z8 i j):=by unfold z8;infer_instance
instance (i j:Int):Decidable (pW i j):=by unfold pW;infer_instance
noncomputable def mK:ae→ae→Res ae:=nZ fun a b=>gd (qL a b) (.ok (.int (a*b)))
noncomputable def gM:ae→ae→Res ae:=nZ fun a b=>gd (z8 a b) (.ok (.int (a / b)))
noncomputable def fW:ae→ae→Res ae:=nZ fun a b=>gd (0 < b) (.ok (.int (a % b)))
noncomputable def JZ:ae→ae→Res ae:=nZ fun a b=>gd (pW a b) (.ok (.int (a*2^b.toNat)))
noncomputable def Jm:ae→ae→Res ae:=nZ fun a b=>gd (0≤b) (.ok (.int (a / 2^b.toNat)))
noncomputable def zK:ae→ae→Res ae:=nZ fun a b=>.ok (.int (iA a b))
noncomputable def orD:ae→ae→Res ae:=nZ fun a b=>.ok (.int (iP a b))
noncomputable def ltD:ae→ae→Res ae:=nZ fun a b=>.ok (.bool (decide (a < b)))
noncomputable def leD:ae→ae→Res ae:=nZ fun a b=>.ok (.bool (decide (a≤b)))
noncomputable def gtD:ae→ae→Res ae:=nZ fun a b=>.ok (.bool (decide (b < a)))
noncomputable def eqD (a b:ae):Res ae:=gd (dE a=true∧dE b=true) (.ok (.bool (gz a b)))
noncomputable def neD (a b:ae):Res ae:=gd (dE a=true∧dE b=true) (.ok (.bool (!gz a b)))
noncomputable def Yb:ae→Bool
 | .none=>true
 | _=>false
noncomputable def vz:ae→ae→Res ae
 | a,.none=>.ok (.bool (Yb a))
 | _,_=>.bad
noncomputable def ixD:ae→ae→Res ae
 | .list ds,.int i=>match atI ds i with | some d=>.ok d | none=>.bad
 | .tuple ds,.int i=>match atI ds i with | some d=>.ok d | none=>.bad
 | _,_=>.bad
section
variable {X:Cx}
theorem vo {g:ai→ai→Sem ai}{f:ae→ae→Res ae}{C:Int→Int→Prop}{h:Int→Int→Int} (ho:OpR X g (rI C fun i j=>.int (h i j)))
 (hf:∀a b d,f a b = .ok d→∃i j,a = .int i∧b = .int j∧C i j∧d = .int (h i j)):OpR X g (rD X.K f):=by
 intro pins s σ H x y v u Q I rx ry hq
 obtain ⟨A,d1,d2,d,e,ha,p1,p2,k⟩:=hq
 obtain ⟨i,j,rfl,rfl,hc,rfl⟩:=hf _ _ _ e
 exact ho pins s σ H x y v u Q I rx ry ⟨i,j,p1.int,p2.int,hc,k _ A H (aP.refl ha) (Rp.int.mpr rfl)⟩
theorem zH {g:ai→ai→Sem ai}{f:ae→ae→Res ae}{h:Int→Int→Int} (ho:OpR X g (rI0 fun i j=>.int (h i j)))
 (hf:∀a b d,f a b = .ok d→∃i j,a = .int i∧b = .int j∧d = .int (h i j)):OpR X g (rD X.K f):=by
 intro pins s σ H x y v u Q I rx ry hq
 obtain ⟨A,d1,d2,d,e,ha,p1,p2,k⟩:=hq
 obtain ⟨i,j,rfl,rfl,rfl⟩:=hf _ _ _ e
 exact ho pins s σ H x y v u Q I rx ry ⟨i,j,p1.int,p2.int,k _ A H (aP.refl ha) (Rp.int.mpr rfl)⟩
theorem Fb {g:ai→ai→Sem ai}{f:ae→ae→Res ae}{h:Int→Int→Bool} (ho:OpR X g (rI0 fun i j=>.bl (h i j)))
 (hf:∀a b d,f a b = .ok d→∃i j,a = .int i∧b = .int j∧d = .bool (h i j)):OpR X g (rD X.K f):=by
 intro pins s σ H x y v u Q I rx ry hq
 obtain ⟨A,d1,d2,d,e,ha,p1,p2,k⟩:=hq
 obtain ⟨i,j,rfl,rfl,rfl⟩:=hf _ _ _ e
 exact ho pins s σ H x y v u Q I rx ry ⟨i,j,p1.int,p2.int,k _ A H (aP.refl ha) (Rp.bool.mpr rfl)⟩
theorem q8:OpR X (g6 .Sub) (rD X.K qJ):=zH YL fun a b d e=>by
 obtain ⟨i,j,rfl,rfl,e⟩:=iG e;cases e;exact ⟨_,_,rfl,rfl,rfl⟩
theorem jT:OpR X (g6 .FloorDiv) (rD X.K gM):=vo Um fun a b d e=>by
 obtain ⟨i,j,rfl,rfl,e⟩:=iG e;obtain ⟨hc,e⟩:=cN e;cases e;exact ⟨_,_,rfl,rfl,hc,rfl⟩
theorem gQ:OpR X (g6 .Mod) (rD X.K fW):=vo Yl fun a b d e=>by
 obtain ⟨i,j,rfl,rfl,e⟩:=iG e;obtain ⟨hc,e⟩:=cN e;cases e;exact ⟨_,_,rfl,rfl,hc,rfl⟩
theorem Pb:OpR X (g6 .LShift) (rD X.K JZ):=vo Oz fun a b d e=>by
 obtain ⟨i,j,rfl,rfl,e⟩:=iG e;obtain ⟨hc,e⟩:=cN e;cases e;exact ⟨_,_,rfl,rfl,hc,rfl⟩
theorem Ng:OpR X (g6 .RShift) (rD X.K Jm):=vo Yo fun a b d e=>by
 obtain ⟨i,j,rfl,rfl,e⟩:=iG e;obtain ⟨hc,e⟩:=cN e;cases e;exact ⟨_,_,rfl,rfl,hc,rfl⟩
theorem yM:OpR X (g6 .BitAnd) (rD X.K zK):=zH Xj fun a b d e=>by
 obtain ⟨i,j,rfl,rfl,e⟩:=iG e;cases e;exact ⟨_,_,rfl,rfl,rfl⟩
theorem Tn:OpR X (g6 .BitOr) (rD X.K orD):=zH ZD fun a b d e=>by
 obtain ⟨i,j,rfl,rfl,e⟩:=iG e;cases e;exact ⟨_,_,rfl,rfl,rfl⟩
theorem Td:OpR X (h9 .Lt) (rD X.K ltD):=Fb Zh fun a b d e=>by
 obtain ⟨i,j,rfl,rfl,e⟩:=iG e;cases e;exact ⟨_,_,rfl,rfl,rfl⟩
theorem J4:OpR X (h9 .LtE) (rD X.K leD):=Fb ZG fun a b d e=>by
 obtain ⟨i,j,rfl,rfl,e⟩:=iG e;cases e;exact ⟨_,_,rfl,rfl,rfl⟩
theorem gh:OpR X (h9 .Gt) (rD X.K gtD):=Fb Za fun a b d e=>by
 obtain ⟨i,j,rfl,rfl,e⟩:=iG e;cases e;exact ⟨_,_,rfl,rfl,rfl⟩
theorem gb (hu:X.A.units+64 < vx):OpR X (h9 .Eq) (rD X.K eqD):=by
 intro pins s σ H x y v u Q I rx ry hq
 obtain ⟨A,d1,d2,d,e,ha,p1,p2,k⟩:=hq
 obtain ⟨⟨h1,h2⟩,e⟩:=cN e
 cases e
 exact Xe hu pins s σ H x y v u Q I rx ry ⟨d1,d2,p1.is ha h1,p2.is ha h2,h1,h2,k _ A H (aP.refl ha) (Rp.bool.mpr rfl)⟩
theorem tu (hu:X.A.units+64 < vx):OpR X (h9 .NotEq) (rD X.K neD):=by
 intro pins s σ H x y v u Q I rx ry hq
 obtain ⟨A,d1,d2,d,e,ha,p1,p2,k⟩:=hq
 obtain ⟨⟨h1,h2⟩,e⟩:=cN e
 cases e
 exact YG hu pins s σ H x y v u Q I rx ry ⟨d1,d2,p1.is ha h1,p2.is ha h2,h1,h2,k _ A H (aP.refl ha) (Rp.bool.mpr rfl)⟩
theorem Pk.isNone {K:ag}{A H:Hp}{d:ae}{x:V} (ha:aH A H) (p:Pk K A H d x):decide (x=V.non)=Yb d:=by
 cases d with
 | none=>rw[p.none];rfl
 | bool b=>rw[p.bool];rfl
 | int b=>rw[p.int];rfl
 | str b=>rw[p.str];rfl
 | list b=>obtain ⟨q,vs,rfl,_⟩:=p.list ha;rfl
 | tuple b=>obtain ⟨q,vs,rfl,_⟩:=p.tuple ha;rfl
 | dict b=>obtain ⟨q,u,rfl,_⟩:=p.dict ha;rfl
theorem Gn:OpR X (h9 .Is) (rD X.K vz):=by
 intro pins s σ H x y v u Q I rx ry hq
 obtain ⟨A,d1,d2,d,e,ha,p1,p2,k⟩:=hq
 cases d2 with
 | none=>
  have e':=Res.ok.inj e
  subst e'
  exact Ou pins s σ H x y v u Q I rx ry ⟨p2.none,by rw[p1.isNone ha];exact k _ A H (aP.refl ha) (Rp.bool.mpr rfl)⟩
 | _=>cases e
noncomputable def Zm (K:ag):R2:=fun x y H Q=>∃l b xs zs,x = .ref l∧y = .ref b∧SqL K H l xs∧SqL K H b zs∧xs.length+zs.length≤bp∧∀p,H p=none→Q (.ref p) (upd H p (.lst (xs++zs)))
theorem V2:OpR X (g6 .Add) (Zm X.K):=by
 intro pins s σ H x y v u Q I rx ry h
 obtain ⟨l,b,xs,zs,rfl,rfl,hH,hB,hz,q⟩:=h
 cases rx
 cases ry
 obtain ⟨its,r,pl,_⟩:=I.list hH
 obtain ⟨its2,r2,pl2,_⟩:=I.list hB
 have hl:=r.length
 have hl2:=r2.length
 obtain ⟨⟨cls,dd,data,sl⟩,ho,hc,n,hd⟩:=pl.isList
 obtain ⟨⟨cls2,dd2,data2,sl2⟩,ho2,hc2,n2,hd2⟩:=pl2.isList
 simp only at hc hd hc2 hd2
 subst hc hd hc2 hd2
 have ea:its.toArray++its2.toArray=(its++its2).toArray:=by simp
 refine AI ⟨_,ho,rfl⟩ ⟨_,ho2,rfl⟩ noFill_list_add seq_list_add PySem.F.slot_list_add PySem.F.entry_list_add (PySem.F.args_list_add_2 _ _) (list_addW l b its.toArray its2.toArray n n2 dd dd2 sl sl2 (by simp only[ck];omega)) ⟨ho,ho2,?_⟩
 rw[ea]
 exact ⟨.ref _,_,I.Xz (t':=s.toks) (r.append r2) (by rw[ay];omega),rfl,q _ I.fresh⟩
theorem Rf:OpR X (g6 .Add) (fun x y H Q=>∃a b ys,x = .ref a∧y = .ref b∧SqT X.K H a []∧SqT X.K H b ys∧Q (.ref b) H):=by
 intro pins s σ H x y v u Q I rx ry h
 obtain ⟨a,b,ys,rfl,rfl,ha,hb,q⟩:=h
 cases rx
 cases ry
 obtain ⟨its,r1,p1,_⟩:=I.tuple ha
 obtain ⟨its2,r2,p2,_⟩:=I.tuple hb
 cases r1
 obtain ⟨⟨cls,dd,data,sl⟩,ho,hc,n,hd⟩:=id p1
 obtain ⟨⟨cls2,dd2,data2,sl2⟩,ho2,hc2,n2,hd2⟩:=id p2
 simp only at hc hd hc2 hd2
 subst hc hd hc2 hd2
 exact AI ⟨_,ho,rfl⟩ ⟨_,ho2,rfl⟩ zD seq_tuple_add sM sj (rj _ _)
  (tuple_addW0 a b _ its2.toArray n n2 dd dd2 sl sl2 rfl) ⟨ho,ho2,⟨.ref b,H,I,rfl,q⟩⟩
theorem bY:OpR X (g6 .Add) (rD X.K bI):=by
 intro pins s σ H x y v u Q I rx ry hq
 obtain ⟨A,d1,d2,d,e,ha,p1,p2,k⟩:=hq
 cases d1 with
 | int i=>
  cases d2 with
  | int j=>cases e;exact Xw pins s σ H x y v u Q I rx ry ⟨i,j,p1.int,p2.int,k _ A H (aP.refl ha) (Rp.int.mpr rfl)⟩
  | bool j=>cases e;exact Lx pins s σ H x y v u Q I rx ry ⟨i,j,p1.int,p2.bool,k _ A H (aP.refl ha) (Rp.int.mpr rfl)⟩
  | _=>cases e
 | str i=>
  cases d2 with
  | str j=>
   obtain ⟨hc,e⟩:=cN e
   cases e
   exact Kh pins s σ H x y v u Q I rx ry ⟨i,j,p1.str,p2.str,hc,k _ A H (aP.refl ha) (Rp.str.mpr rfl)⟩
  | _=>cases e
 | list i=>
  cases d2 with
  | list j=>
   obtain ⟨hc,e⟩:=cN e
   cases e
   obtain ⟨l1,xs,e1,h1,q1⟩:=p1.list ha
   obtain ⟨l2,ys,e2,h2,q2⟩:=p2.list ha
   refine V2 pins s σ H x y v u Q I rx ry ⟨l1,l2,xs,ys,e1,e2,h1,h2,by rw[← q1.length,← q2.length];exact hc,fun p hp=>?_⟩
   have g:=aP.new (o:=.lst (xs++ys)) ha hp
   exact k _ _ _ g (Rp.list.mpr ⟨p,_,rfl,SqL.of bK,(aB.mono g.aa _ q1).append (aB.mono g.aa _ q2)⟩)
  | _=>cases e
 | tuple i=>
  cases d2 with
  | tuple j=>
   obtain ⟨hc,e⟩:=cN e
   cases e
   obtain ⟨l1,xs,e1,h1,q1⟩:=p1.tuple ha
   obtain ⟨l2,ys,e2,h2,q2⟩:=p2.tuple ha
   by_cases hne:i=[]
   · subst hne
     have ex:xs=[]:=oB q1.length.symm
     subst ex
     refine Rf pins s σ H x y v u Q I rx ry ⟨l1,l2,ys,e1,e2,h1,h2,?_⟩
     rw[pd] at k
     refine k _ A H (aP.refl ha) ?_
     have:=p2.jW (fun _ z=>nomatch z) (fun _ z=>nomatch z)
     rw[e2] at this
     exact this
   refine Vi pins s σ H x y v u Q I rx ry ⟨l1,l2,xs,ys,e1,e2,h1,h2,fun z=>?_,by rw[← q1.length,← q2.length];exact hc,fun z=>?_,fun z p hp=>?_⟩
   · subst z
     have:=q1.length
     exact hne (oB this)
   · subst z
     have e0:j=[]:=oB q2.length
     subst e0
     rw[fq] at k
     refine k _ A H (aP.refl ha) ?_
     have:=p1.jW (fun _ z=>nomatch z) (fun _ z=>nomatch z)
     rw[e1] at this
     exact this
   · have g:=aP.new (o:=.tup (xs++ys)) ha hp
     exact k _ _ _ g (Rp.tuple.mpr ⟨p,_,rfl,SqT.of bK,(aB.mono g.aa _ q1).append (aB.mono g.aa _ q2)⟩)
  | _=>cases e
 | _=>cases e
noncomputable def Zq:R2:=fun x y H Q=>∃l k xs,x = .ref l∧y = .int k∧Rd H l (.lst xs) ∧ -(2^63)≤k∧k < 2^63∧xs.length*k.toNat≤bp ∧
 ∀p,H p=none→Q (.ref p) (upd H p (.lst (b9 k.toNat xs).flatten))
theorem Uh:OpR X (g6 .Mult) Zq:=by
 intro pins s σ H x y v u Q I rx ry h
 obtain ⟨l,k,xs,rfl,rfl,hH,h1,h2,hz,q⟩:=h
 cases rx
 obtain ⟨t,rfl⟩:=ry
 obtain ⟨z,its,n,r,e⟩:=hH.ok I.hok
 have hl:=r.length
 have hlen:its.toArray.size*k.toNat≤bp:=by rw[ck,← hl];exact hz
 have abY:¬ its.toArray.size*k.toNat > (2^63 - 1) / 8:=by
  have:(bp:Nat)≤(2^63 - 1) / 8:=by decide
  omega
 have hfit:¬ (!Builtin.List.listFitsIndex k)=true:=by
  rw[fitsIndex_both h1 h2]
  exact ky
 have Zd:¬ i0 (its.toArray.size*k.toNat)=true:=by
  rw[RT hlen]
  exact ky
 have hnew:BQ (fun x1 x2=>x1++x2) #[] (b9 (if its.toArray.isEmpty=true then 0 else k.toNat) its.toArray)=(b9 k.toNat its).flatten.toArray:=by
  have f0:∀m:Nat,BQ (fun x1 x2=>x1++x2) #[] (b9 m its.toArray)=(b9 m its).flatten.toArray:=fun m=>by
   have:=foldl_rep its m []
   rw[pd] at this
   exact this
  rw[f0]
  cases its with
  | nil=>simp
  | cons a r'=>rw[if_neg (by simp)]
 refine wpAny_binaryOp_repeat_ref (T := "list") (U := "int") (by decide) ⟨_,e,rfl⟩ (fun s'=>typeIs_int s' k t) noFill_list_mul F.fills_int_mul F.slot_int_rmul repeat_list F.slot_int_index.lookup
  (call_meets F.slot_int_rmul (typeIs_int s k t) F.entry_int_rmul (F.args_int_rmul_2 _ _) (int___rmul___int_list k t l its.toArray n)
   ⟨e,rfl,⟨_,e,rfl⟩,call_meets F.slot_list_mul ⟨_,e,rfl⟩ F.entry_list_mul (F.args_list_mul_2 _ _) (AutoListH.list___mul___list_int_3 l its.toArray n k t hfit abY Zd) ⟨e,?_⟩⟩)
 rw[hnew]
 exact ⟨.ref _,_,I.Xz (t':=s.toks) (r.rep k.toNat) (by rw[len_rep,oQ];exact hz),rfl,q _ I.fresh⟩
theorem aB.reps {K:ag}{A:Hp}{ds:List ae}{vs:List V} (h:aB K A ds vs) (k:Nat):aB K A (b9 k ds).flatten (b9 k vs).flatten:=by
 induction k with
 | zero=>exact aB.nil.mpr rfl
 | succ k ih=>rw[gL,gL,kQ,kQ];exact h.append ih
theorem jt:OpR X (g6 .Mult) (rD X.K mK):=vo Yi fun a b d e=>by
 obtain ⟨i,j,rfl,rfl,e⟩:=iG e;obtain ⟨hc,e⟩:=cN e;cases e;exact ⟨_,_,rfl,rfl,hc,rfl⟩
noncomputable def oh:ae→ae→Res ae
 | .list a,.int k=>gd (-(2^63)≤k∧k < 2^63∧a.length*k.toNat≤bp) (.ok (.list (b9 k.toNat a).flatten))
 | _,_=>.bad
theorem vA {O:List Fl}{m1 m2:ME}{a b:Expr}{pos:Pos} (ha:QE X a (tF X.K O m1)) (hb:QE X b (tP X.K O m2)):QE X (.BinOp a .Mult b pos) (tF X.K O (aq oh m1 m2)):=QE.imp (IW Uh ha.h hb.h) fun σ H Q aA=>by
 obtain ⟨A,B,Γ,d,r,em,k⟩:=aA
 obtain ⟨d1,e1,em⟩:=Res.aF em
 obtain ⟨d2,e2,em⟩:=Res.aF em
 refine ⟨A,B,Γ,d1,r,e1,fun x A1 H1 g1 p1=>⟨A1,B,Γ,d2,r.grow g1,e2,fun y A2 H2 g2 p2=>?_⟩⟩
 cases d1 with
 | list i=>
  cases d2 with
  | int j=>
   obtain ⟨hc,em⟩:=cN em
   cases em
   obtain ⟨l1,o,rfl,h0,h1,h2,⟨ds,xs,e3,rfl,q1⟩ | ⟨kvs,u,e3,_⟩⟩:=p1
   rotate_right
   · cases e3
   cases e3
   refine ⟨l1,j,xs,rfl,p2.int,.inl (g2.hh _ _ h1),hc.1,hc.2.1,by rw[← q1.length];exact hc.2.2,fun p hp=>?_⟩
   have gg:=g1.trans g2
   exact k _ _ _ (gg.trans (aP.lay g2.ah hp)) ⟨p,_,rfl,gg.hh.free hp,bK,g2.ah.free hp,.inl ⟨_,_,rfl,rfl,(aB.mono g2.aa _ q1).reps _⟩⟩
  | _=>cases em
 | _=>cases em
theorem aB.atI {K:ag}{A:Hp}{ds:List ae}{vs:List V}{i:Int}{d:ae} (h:aB K A ds vs) (e:L2.atI ds i=some d):∃x,L2.atI vs i=some x∧Rp K A d x:=by
 unfold L2.atI at e ⊢
 rw[← h.length]
 cases q:ixN ds.length i with
 | none=>rw[q] at e;cases e
 | some j=>rw[q] at e;exact h.get' e
theorem Zg:IxR X (rD X.K ixD):=by
 intro value slice pins s σ H x y v u Q I rx ry hq hs
 obtain ⟨A,d1,d2,d,e,ha,p1,p2,k⟩:=hq
 cases d1 with
 | list ds=>
  cases d2 with
  | int i=>
   have e':(match L2.atI ds i with | some d=>Res.ok d | none=>.bad) = .ok d:=e
   cases q:L2.atI ds i with
   | none=>rw[q] at e';cases e'
   | some d0=>
    rw[q] at e'
    cases e'
    obtain ⟨l,vs,e1,h1,q2⟩:=p1.list ha
    obtain ⟨z,hz,rz⟩:=q2.atI q
    exact V1 value slice pins s σ H x y v u Q I rx ry ⟨l,vs,i,z,e1,p2.int,h1,hz,k _ A H (aP.refl ha) rz⟩ hs
  | _=>cases e
 | tuple ds=>
  cases d2 with
  | int i=>
   have e':(match L2.atI ds i with | some d=>Res.ok d | none=>.bad) = .ok d:=e
   cases q:L2.atI ds i with
   | none=>rw[q] at e';cases e'
   | some d0=>
    rw[q] at e'
    cases e'
    obtain ⟨l,vs,e1,h1,q2⟩:=p1.tuple ha
    obtain ⟨z,hz,rz⟩:=q2.atI q
    exact Yh value slice pins s σ H x y v u Q I rx ry ⟨l,vs,i,z,e1,p2.int,h1,hz,k _ A H (aP.refl ha) rz⟩ hs
  | _=>cases e
 | _=>cases e
theorem dw {a b:Expr}{O:List Fl}{m1 m2:ME}{pos:Pos} (ha:QE X a (tP X.K O m1)) (hb:QE X b (tP X.K O m2)) (hs:Ii b):QE X (.Subscript a b pos) (tE X.K O (aq ixD m1 m2)):=QE.imp (ZM Zg ha.h hb.h hs) fun _ _ _=>yr
end
noncomputable def evs:List ME→Ev→Res (List ae)
 | [],_=>.ok []
 | m::ms,Γ=>(m Γ).bind fun d=>(evs ms Γ).bind fun ds=>.ok (d::ds)
theorem oA:∀{ms:List ME}{Γ:Ev}{ds:List ae},evs ms Γ = .ok ds→ds.length=ms.length
 | [],_,_,h=>by cases h;rfl
 | m::ms,Γ,ds,h=>by
  obtain ⟨d,_,h⟩:=Res.aF h
  obtain ⟨r,e,h⟩:=Res.aF h
  cases h
  rw[bX,bX,oA e]
noncomputable def tAi (K:ag) (O:List Fl) (ms:List ME):TA:=fun σ H Q=>∃A B Γ ds,aV K A B H O σ Γ∧evs ms Γ = .ok ds∧∀vs A' H',aP A H A' H'→aB K A' ds vs→Q vs H'
noncomputable def Xh (K:ag) (A H:Hp):Fl→ae→V→Prop
 | .imm,d,v=>Rp K A d v
 | _,d,v=>Pk K A H d v
noncomputable def jB (K:ag) (A H:Hp):List Fl→List ae→List V→Prop
 | [],ds,vs=>ds=[]∧vs=[]
 | f::fs,ds,vs=>∃d r v s,ds=d::r∧vs=v::s∧Xh K A H f d v∧jB K A H fs r s
noncomputable def tAr (K:ag) (O:List Fl) (fs:List Fl) (ms:List ME):TA:=fun σ H Q=>∃A B Γ ds,aV K A B H O σ Γ∧evs ms Γ = .ok ds∧∀vs A' H',aP A H A' H'→jB K A' H' fs ds vs→Q vs H'
section
variable {X:Cx}{K:ag}{O:List Fl}{m:ME}{ms:List ME}{fs:List Fl}{e:Expr}{es:List Expr}{pos:Pos}
theorem aK:QA X [] (tAi K O []):=QA.imp fX fun σ H Q aA=>by
 obtain ⟨A,B,Γ,ds,r,em,k⟩:=aA
 cases em
 exact k [] A H (aP.refl r.a) (aB.nil.mpr rfl)
theorem az (ha:QE X e (tE K O m)) (hr:QA X es (tAi K O ms)) (hs:noStar e=true:=by rfl):QA X (e::es) (tAi K O (m::ms)):=QA.imp (cV ha.h hr.h (bO hs)) fun σ H Q aA=>by
 obtain ⟨A,B,Γ,ds,r,em,k⟩:=aA
 obtain ⟨d,e1,em⟩:=Res.aF em
 obtain ⟨ds',e2,em⟩:=Res.aF em
 cases em
 exact ⟨A,B,Γ,d,r,e1,fun v A1 H1 g1 p1=>⟨A1,B,Γ,ds',r.grow g1,e2,fun vs A2 H2 g2 p2=>k (v::vs) A2 H2 (g1.trans g2) (aB.cons.mpr ⟨v,vs,rfl,Rp.mono g2.aa d p1,p2⟩)⟩⟩
theorem aG:QA X [] (tAr K O [] []):=QA.imp fX fun σ H Q aA=>by
 obtain ⟨A,B,Γ,ds,r,em,k⟩:=aA
 cases em
 exact k [] A H (aP.refl r.a) ⟨rfl,rfl⟩
theorem bH (ha:QE X e (tE K O m)) (hr:QA X es (tAr K O fs ms)) (hs:noStar e=true:=by rfl):QA X (e::es) (tAr K O (.imm::fs) (m::ms)):=QA.imp (cV ha.h hr.h (bO hs)) fun σ H Q aA=>by
 obtain ⟨A,B,Γ,ds,r,em,k⟩:=aA
 obtain ⟨d,e1,em⟩:=Res.aF em
 obtain ⟨ds',e2,em⟩:=Res.aF em
 cases em
 exact ⟨A,B,Γ,d,r,e1,fun v A1 H1 g1 p1=>⟨A1,B,Γ,ds',r.grow g1,e2,fun vs A2 H2 g2 p2=>k (v::vs) A2 H2 (g1.trans g2) ⟨d,ds',v,vs,rfl,rfl,Rp.mono g2.aa d p1,p2⟩⟩⟩
theorem au (ha:QE X e (tP K O m)) (hr:QA X es (tAr K O fs ms)) (hs:noStar e=true:=by rfl):QA X (e::es) (tAr K O (.bor::fs) (m::ms)):=QA.imp (cV ha.h hr.h (bO hs)) fun σ H Q aA=>by
 obtain ⟨A,B,Γ,ds,r,em,k⟩:=aA
 obtain ⟨d,e1,em⟩:=Res.aF em
 obtain ⟨ds',e2,em⟩:=Res.aF em
 cases em
 exact ⟨A,B,Γ,d,r,e1,fun v A1 H1 g1 p1=>⟨A1,B,Γ,ds',r.grow g1,e2,fun vs A2 H2 g2 p2=>k (v::vs) A2 H2 (g1.trans g2) ⟨d,ds',v,vs,rfl,rfl,p1.mono g2.aa g2.hh,p2⟩⟩⟩
noncomputable def cH (ms:List ME):ME:=fun Γ=>(evs ms Γ).bind fun ds=>.ok (.tuple ds)
noncomputable def bV (ms:List ME):ME:=fun Γ=>(evs ms Γ).bind fun ds=>.ok (.list ds)
theorem bN {x1} (h:QA X es (tAi K O ms)) (hl:ms.length≤bp:=by first | decide | exact of_decide_eq_true rfl):QE X (.Tuple es x1 pos) (tE K O (cH ms)):=QE.imp (Xf h.h) fun σ H Q aA=>by
 obtain ⟨A,B,Γ,d,r,em,k⟩:=aA
 obtain ⟨ds,e1,em⟩:=Res.aF em
 cases em
 refine ⟨A,B,Γ,ds,r,e1,fun vs A1 H1 g1 p1=>⟨by rw[← p1.length,oA e1];exact hl,fun p hp=>?_⟩⟩
 have g:=aP.new (o:=.tup vs) g1.ah hp
 exact k _ _ _ (g1.trans g) (Rp.tuple.mpr ⟨p,vs,rfl,SqT.of bK,aB.mono g.aa ds p1⟩)
theorem bF (h:QA X es (tAi K O ms)) (hl:ms.length≤bp:=by first | decide | exact of_decide_eq_true rfl):QE X (.List es pos) (tF K O (bV ms)):=QE.imp (Xk h.h) fun σ H Q aA=>by
 obtain ⟨A,B,Γ,d,r,em,k⟩:=aA
 obtain ⟨ds,e1,em⟩:=Res.aF em
 cases em
 refine ⟨A,B,Γ,ds,r,e1,fun vs A1 H1 g1 p1=>⟨by rw[← p1.length,oA e1];exact hl,fun p hp=>?_⟩⟩
 exact k _ _ _ (g1.trans (aP.lay g1.ah hp)) ⟨p,_,rfl,g1.hh.free hp,bK,g1.ah.free hp,.inl ⟨ds,vs,rfl,rfl,p1⟩⟩
noncomputable def zm:List (Str×ME)→ME
 | []=>fun _=>.ok (.dict [])
 | (x,m)::r=>fun Γ=>(m Γ).bind fun d=>(zm r Γ).bind fun e=>match e with
  | .dict ds=>.ok (.dict ((.str x,d)::ds))
  | _=>.bad
theorem Io:QE X (.Dict [] [] pos) (tF K O (zm [])):=QE.imp Qg fun σ H Q aA=>by
 obtain ⟨A,B,Γ,d,r,em,k⟩:=aA
 cases em
 intro p hp
 exact k _ _ _ (aP.lay r.a hp) ⟨p,_,rfl,hp,bK,r.a.free hp,.inr ⟨_,_,rfl,rfl,bw.nil.mpr rfl⟩⟩
theorem ZR {op:UnaryOp}{f:ae→Res ae}{a:Expr}{r:V→Hp→VK→Prop} (ho:UnR X (unaryOp op) r) (hf:∀A H d1 d x (Q:VK),f d1 = .ok d→aH A H→Pk K A H d1 x→(∀v A' H',aP A H A' H'→Rp K A' d v→Q v H')→r x H Q)
 (ha:QE X a (tP K O m)):QE X (.UnaryOp op a pos) (tE K O (eUn f m)):=QE.imp (ZL ho ha.h) fun σ H Q aA=>by
 obtain ⟨A,B,Γ,d,r,em,k⟩:=aA
 obtain ⟨d1,e1,em⟩:=Res.aF em
 exact ⟨A,B,Γ,d1,r,e1,fun v A1 H1 g1 p1=>hf A1 H1 d1 d v Q em g1.ah p1 fun v A' H' g p=>k v A' H' (g1.trans g) p⟩
noncomputable def eFn (f:List ae→Res ae) (ms:List ME):ME:=fun Γ=>(evs ms Γ).bind f
noncomputable def oE (K:ag) (A H:Hp) (ds:List ae) (vs:List V):Prop:=jB K A H (ds.map fun _=>.bor) ds vs
noncomputable def rC (K:ag) (f:List ae→Res ae):List V→Hp→VK→Prop:=fun vs H Q=>∃A ds d,f ds = .ok d∧aH A H∧oE K A H ds vs∧∀v A' H',aP A H A' H'→Rp K A' d v→Q v H'
noncomputable def rCF (K:ag) (f:List ae→Res ae):List V→Hp→VK→Prop:=fun vs H Q=>∃A ds d,f ds = .ok d∧aH A H∧oE K A H ds vs∧∀v A' H',aP A H A' H'→vf K H A' H' d v→Q v H'
noncomputable def nD (ms:List ME):List Fl:=ms.map fun _=>.bor
theorem Ln {Γ:Ev}{ds:List ae} (h:evs ms Γ = .ok ds):nD ms=ds.map fun _=>.bor:=by
 have e:=oA h
 unfold nD
 rw[List.map_const',List.map_const',e]
theorem Tj {f:List ae→Res ae}{σ:L2.St}{H:Hp}{Q:VK} (h:tE K O (eFn f ms) σ H Q):tCB (rC K f) (tAr K O (nD ms) ms) σ H Q:=by
 obtain ⟨A,B,Γ,d,r,em,k⟩:=h
 obtain ⟨ds,e1,em⟩:=Res.aF em
 refine ⟨A,B,Γ,ds,r,e1,fun vs A1 H1 g1 p1=>⟨A1,ds,d,em,g1.ah,by unfold oE;rw[← Ln e1];exact p1,fun v A' H' g p=>k v A' H' (g1.trans g) p⟩⟩
theorem Tt {f:List ae→Res ae}{σ:L2.St}{H:Hp}{Q:VK} (h:tF K O (eFn f ms) σ H Q):tCB (rCF K f) (tAr K O (nD ms) ms) σ H Q:=by
 obtain ⟨A,B,Γ,d,r,em,k⟩:=h
 obtain ⟨ds,e1,em⟩:=Res.aF em
 refine ⟨A,B,Γ,ds,r,e1,fun vs A1 H1 g1 p1=>⟨A1,ds,d,em,g1.ah,by unfold oE;rw[← Ln e1];exact p1,fun v A' H' g p=>k v A' H' (g1.trans g) ?_⟩⟩
 obtain ⟨q,o,e,h1,h2⟩:=p
 exact ⟨q,o,e,g1.hh.free h1,h2⟩
variable {x:Str}{p:Pos}{id:String}{f:List ae→Res ae}
theorem bB (hc:fK X (.builtin id) (rC K f)) (hg:Gl X x) (hm:X.mg x=none) (hv:bo x=some (.builtin id)) (ha:QA X (e::es) (tAr K O (nD ms) ms)) (hn:x ≠ "__name__" := by decide) (hdb:(x == ("__debug__" : Str))=false:=by decide)
 (hs:noStar e=true:=by rfl) (hpl:eQ es=true:=by rfl):QE X (.Call (.Name x p) (e::es) [] pos) (tE K O (eFn f ms)):=QE.imp (wR hc hg hm hv ha.h hn hdb (bO hs) (gA hpl)) fun _ _ _=>Tj
theorem ye (hc:fK X (.builtin id) (rCF K f)) (hg:Gl X x) (hm:X.mg x=none) (hv:bo x=some (.builtin id)) (ha:QA X (e::es) (tAr K O (nD ms) ms)) (hn:x ≠ "__name__" := by decide) (hdb:(x == ("__debug__" : Str))=false:=by decide)
 (hs:noStar e=true:=by rfl) (hpl:eQ es=true:=by rfl):QE X (.Call (.Name x p) (e::es) [] pos) (tF K O (eFn f ms)):=QE.imp (wR hc hg hm hv ha.h hn hdb (bO hs) (gA hpl)) fun _ _ _=>Tt
theorem qw (hc:fK X (.type id) (rC K f)) (hg:Gl X x) (hm:X.mg x=none) (hv:bo x=some (.type id)) (ha:QA X (e::es) (tAr K O (nD ms) ms)) (hn:x ≠ "__name__" := by decide) (hdb:(x == ("__debug__" : Str))=false:=by decide)
 (hs:noStar e=true:=by rfl) (hpl:eQ es=true:=by rfl):QE X (.Call (.Name x p) (e::es) [] pos) (tE K O (eFn f ms)):=QE.imp (Bu hc hg hm hv ha.h hn hdb (bO hs) (gA hpl)) fun _ _ _=>Tj
theorem ql (hc:fK X (.type id) (rCF K f)) (hg:Gl X x) (hm:X.mg x=none) (hv:bo x=some (.type id)) (ha:QA X (e::es) (tAr K O (nD ms) ms)) (hn:x ≠ "__name__" := by decide) (hdb:(x == ("__debug__" : Str))=false:=by decide)
 (hs:noStar e=true:=by rfl) (hpl:eQ es=true:=by rfl):QE X (.Call (.Name x p) (e::es) [] pos) (tF K O (eFn f ms)):=QE.imp (Bu hc hg hm hv ha.h hn hdb (bO hs) (gA hpl)) fun _ _ _=>Tt
end
theorem oE.nil {K:ag}{A H:Hp}{vs:List V} (h:oE K A H [] vs):vs=[]:=h.2
theorem oE.cons {K:ag}{A H:Hp}{d:ae}{ds:List ae}{vs:List V} (h:oE K A H (d::ds) vs):∃v r,vs=v::r∧Pk K A H d v∧oE K A H ds r:=by
 obtain ⟨d',r',v,s,e1,e2,h1,h2⟩:=h
 cases e1
 exact ⟨v,s,e2,h1,h2⟩
noncomputable def b8:List ae→Res ae
 | [.list ds]=>.ok (.int ds.length)
 | [.tuple ds]=>.ok (.int ds.length)
 | [.str x]=>gd (x.length≤bp) (.ok (.int x.length))
 | _=>.bad
noncomputable def qg:List ae→Res ae
 | [.list ds]=>.ok (.list ds)
 | [.tuple ds]=>.ok (.list ds)
 | _=>.bad
noncomputable def rB:List ae→Res ae
 | [.list ds]=>.ok (.tuple ds)
 | [.tuple ds]=>.ok (.tuple ds)
 | _=>.bad
noncomputable def minD:List ae→Res ae
 | [.int i,.int j]=>.ok (.int (if j < i then j else i))
 | _=>.bad
section
variable {X:Cx}
theorem cD:fK X (.builtin "len") (rC X.K b8):=by
 intro pins s σ H xs us Q I r h
 obtain ⟨A,ds,d,e,ha,p,k⟩:=h
 match ds,e with
 | [.list es],e=>
  cases e
  obtain ⟨v,r',rfl,p1,p2⟩:=p.cons
  obtain rfl:=p2.nil
  obtain ⟨l,vs,rfl,h1,q1⟩:=p1.list ha
  exact ug pins s σ H _ us Q I r ⟨l,vs,rfl,.inl h1,by rw[← q1.length];exact k _ A H (aP.refl ha) (Rp.int.mpr rfl)⟩
 | [.tuple es],e=>
  cases e
  obtain ⟨v,r',rfl,p1,p2⟩:=p.cons
  obtain rfl:=p2.nil
  obtain ⟨l,vs,rfl,h1,q1⟩:=p1.tuple ha
  exact ug pins s σ H _ us Q I r ⟨l,vs,rfl,.inr h1,by rw[← q1.length];exact k _ A H (aP.refl ha) (Rp.int.mpr rfl)⟩
 | [.str x],e=>
  obtain ⟨hc,e⟩:=cN e
  cases e
  obtain ⟨v,r',rfl,p1,p2⟩:=p.cons
  obtain rfl:=p2.nil
  exact Ek pins s σ H _ us Q I r ⟨x,by rw[p1.str],hc,k _ A H (aP.refl ha) (Rp.int.mpr rfl)⟩
theorem vK:fK X (.type "list") (rCF X.K qg):=by
 intro pins s σ H xs us Q I r h
 obtain ⟨A,ds,d,e,ha,p,k⟩:=h
 match ds,e with
 | [.list es],e=>
  cases e
  obtain ⟨v,r',rfl,p1,p2⟩:=p.cons
  obtain rfl:=p2.nil
  obtain ⟨l,vs,rfl,h1,q1⟩:=p1.list ha
  exact vg pins s σ H _ us Q I r ⟨l,vs,rfl,.inl h1,fun q hq=>k _ A _ (aP.lay ha hq) ⟨q,_,rfl,hq,bK,ha.free hq,.inl ⟨_,_,rfl,rfl,q1⟩⟩⟩
 | [.tuple es],e=>
  cases e
  obtain ⟨v,r',rfl,p1,p2⟩:=p.cons
  obtain rfl:=p2.nil
  obtain ⟨l,vs,rfl,h1,q1⟩:=p1.tuple ha
  exact vg pins s σ H _ us Q I r ⟨l,vs,rfl,.inr h1,fun q hq=>k _ A _ (aP.lay ha hq) ⟨q,_,rfl,hq,bK,ha.free hq,.inl ⟨_,_,rfl,rfl,q1⟩⟩⟩
theorem sS:fK X (.type "tuple") (rC X.K rB):=by
 intro pins s σ H xs us Q I r h
 obtain ⟨A,ds,d,e,ha,p,k⟩:=h
 match ds,e with
 | [.list es],e=>
  cases e
  obtain ⟨v,r',rfl,p1,p2⟩:=p.cons
  obtain rfl:=p2.nil
  obtain ⟨l,vs,rfl,h1,q1⟩:=p1.list ha
  exact tY pins s σ H _ us Q I r ⟨l,vs,rfl,.inl ⟨h1,fun q hq=>by
   have g:=aP.new (o:=.tup vs) ha hq
   exact k _ _ _ g (Rp.tuple.mpr ⟨q,vs,rfl,SqT.of bK,aB.mono g.aa _ q1⟩)⟩⟩
 | [.tuple es],e=>
  cases e
  obtain ⟨v,r',rfl,p1,p2⟩:=p.cons
  obtain rfl:=p2.nil
  have p1':=p1.jW (fun _ z=>nomatch z) (fun _ z=>nomatch z)
  obtain ⟨l,vs,rfl,h1,q1⟩:=p1.tuple ha
  exact tY pins s σ H _ us Q I r ⟨l,vs,rfl,.inr ⟨h1,k _ A H (aP.refl ha) p1'⟩⟩
theorem XC (hc:X.calm=true):fK X (.builtin "min") (rC X.K minD):=by
 intro pins s σ H xs us Q I r h
 obtain ⟨A,ds,d,e,ha,p,k⟩:=h
 match ds,e with
 | [.int i,.int j],e=>
  cases e
  obtain ⟨v,r',rfl,p1,p0⟩:=p.cons
  obtain ⟨v2,r',rfl,p2,p3⟩:=p0.cons
  obtain rfl:=p3.nil
  exact Od hc pins s σ H _ us Q I r ⟨i,j,by rw[p1.int,p2.int],k _ A H (aP.refl ha) (Rp.int.mpr rfl)⟩
end
section
variable {K:ag}
end
section
variable {X:Cx}{O:List Fl}{m:ME}{a b:Expr}{p pos:Pos}{T:String}
theorem Zt {x:Str}{T:String}{pos:Pos} (hg:Gl X x) (hm:X.mg x=none) (hv:bo x=some (.type T)) (hn:x ≠ "__name__" := by decide) (hd:(x == ("__debug__" : Str))=false:=by decide):PE X (.Name x pos) (tC (.ty T)):=
 TY (v:=.ty T) hg hm hv rfl hn hd
end
noncomputable def cutD (xs:List ae) (lo hi:Option Int):List ae:=(xs.drop (HT.sIx xs.length 0 lo)).take (HT.sIx xs.length xs.length hi - HT.sIx xs.length 0 lo)
noncomputable def MO:=Ev→Res (Option Int)
noncomputable def vY:MO:=fun _=>.ok none
noncomputable def vP (m:ME):MO:=fun Γ=>(m Γ).bind fun d=>match d with
 | .int i=>.ok (some i)
 | _=>.bad
noncomputable def slD:ae→Option Int→Option Int→Res ae
 | .list ds,lo,hi=>.ok (.list (cutD ds lo hi))
 | .tuple ds,lo,hi=>.ok (.tuple (cutD ds lo hi))
 | _,_,_=>.bad
noncomputable def eSl (a:ME) (lo hi:MO):ME:=fun Γ=>(a Γ).bind fun d=>(lo Γ).bind fun l=>(hi Γ).bind fun h=>slD d l h
noncomputable def tO (K:ag) (O:List Fl) (m:MO):TO:=fun σ H Q=>∃A B Γ o,aV K A B H O σ Γ∧m Γ = .ok o∧∀A' H',aP A H A' H'→Q o H'
theorem PO.imp {X:Cx}{e:Option Expr}{t t':TO} (h:PO X e t) (i:∀σ H Q,t' σ H Q→t σ H Q):PO X e t':=fun pins s σ H Q I q=>h pins s σ H Q I (i σ H Q q)
theorem QO.imp {X:Cx}{e:Option Expr}{t t':TO} (h:PO X e t) (i:∀σ H Q,t' σ H Q→t σ H Q):QO X e t':=⟨PO.imp h i⟩
section
variable {X:Cx}{O:List Fl}{m:ME}{lo hi:Option Expr}{ml mh:MO}{a e:Expr}{p pos p2:Pos}
theorem zN:QO X none (tO X.K O vY):=QO.imp Ul fun σ H Q aA=>by obtain ⟨A,B,Γ,o,r,em,k⟩:=aA;cases em;exact k A H (aP.refl r.a)
theorem Ac (h:QE X e (tP X.K O m)):QO X (some e) (tO X.K O (vP m)):=QO.imp (Ue h.h) fun σ H Q aA=>by
 obtain ⟨A,B,Γ,o,r,em,k⟩:=aA
 obtain ⟨d,e1,em⟩:=Res.aF em
 cases d with
 | int i=>cases em;exact ⟨A,B,Γ,_,r,e1,fun v A1 H1 g1 p1=>⟨i,p1.int,k A1 H1 g1⟩⟩
 | _=>cases em
section
variable {prog:cw}{w:eI}{A:eo}{E:ai→ar→Prop}{s:ar}
open HT in
theorem wz {t sl:Addr}{items:Array ai}{vl vu:ai}{lo hi:Option Int}{Q:ai→ar→Prop} (ht:IsTup s.heap t items) (hs:s.heap.IsSliceOf sl vl vu .none) (pl:AJ vl lo) (pu:AJ vu hi)
 (hw:sIx items.size 0 lo=0∧sIx items.size items.size hi=items.size) (h:Q (.ref t) s):bP (bt prog w) A (BE (.ref t) (.ref sl)) Q E s:=by
 obtain ⟨os,hos,hcs,hds⟩:=id hs
 have hTs:s.TypeIs (.ref sl) "slice" := ⟨os,hos,hcs⟩
 unfold BE
 try with_reducible refine gi ?_
 first | refine af (av ?_) | skip
 refine af (wpAny_sequenceKey ht.typeIs (by decide) ?_)
 refine af (i6 (name:=sN "__getitem__") ht.typeIs gx
  (gp gx ht.typeIs entry_tuple_getitem ?_ (args_tuple_getitem _ _)))
 show bP _ _ (Builtin.Tuple.tupleItemsOf (.ref t) >>= _) _ _ s
 refine af (tupleItemsOf_ ht ?_)
 refine af (sP hTs ?_)
 rw[if_pos (by decide)]
 refine af (pJ hs pl pu ?_)
 show bP _ _ (if (((sIx items.size 0 lo:Nat):Int) == 0&&(1:Int) == 1&&(sIx items.size items.size hi - sIx items.size 0 lo) == items.size)=true then _ else _) _ _ s
 rw[hw.1,hw.2,if_pos (by simp)]
 refine af ?_
 unfold Builtin.Tuple.tupleIsExact
 refine af (sP ht.typeIs (av ?_))
 rw[if_pos (by decide)]
 exact af (i4 (av ⟨_,rfl,av h⟩))
end
noncomputable def WM (K:ag):V→Option Int→Option Int→Hp→VK→Prop:=fun x lo hi H Q=>∃a xs,x = .ref a∧SqT K H a xs ∧
 (HT.sIx xs.length 0 lo=0∧HT.sIx xs.length xs.length hi=xs.length)∧Q (.ref a) H
theorem Vf:SlR X (WM X.K):=by
 intro pins s σ H x v vl vu lo hi sl Q I rx hs pl pu h
 obtain ⟨a,xs,rfl,hx,hw,q⟩:=h
 cases rx
 obtain ⟨its,r,ht,hz⟩:=I.tuple hx
 have hlen:its.toArray.size=xs.length:=by rw[ck];exact r.length.symm
 refine ⟨"tuple",_,gx.lookup,ht.typeIs,?_⟩
 exact wz ht hs pl pu (by rw[hlen];exact hw) ⟨.ref a,H,I,rfl,q⟩
theorem Rw {ds:List ae}{lo hi:Option Int} (h:HT.sIx ds.length 0 lo=0∧HT.sIx ds.length ds.length hi=ds.length):cutD ds lo hi=ds:=by
 unfold cutD
 rw[h.1,h.2,wx,Nat.sub_zero,i7]
noncomputable def aag (K:ag):V→Option Int→Option Int→Hp→VK→Prop:=fun x lo hi H Q=>Wx K x lo hi H Q∨Wq K x lo hi H Q∨WM K x lo hi H Q
theorem acB:SlR X (aag X.K):=by
 intro pins s σ H x v vl vu lo hi sl Q I rx hs pl pu h
 rcases h with h | h | h
 · exact VF pins s σ H x v vl vu lo hi sl Q I rx hs pl pu h
 · exact FP pins s σ H x v vl vu lo hi sl Q I rx hs pl pu h
 · exact Vf pins s σ H x v vl vu lo hi sl Q I rx hs pl pu h
theorem aB.cut {K:ag}{A:Hp}{ds:List ae}{vs:List V} (h:aB K A ds vs) (lo hi:Option Int):aB K A (cutD ds lo hi) (qI vs lo hi):=by
 unfold cutD qI
 rw[← h.length]
 exact (h.drop _).take _
theorem Kg (ha:QE X a (tP X.K O m)) (hl:QO X lo (tO X.K O ml)) (hh:QO X hi (tO X.K O mh)):QE X (.Subscript a (.Slice lo hi none p2) pos) (tE X.K O (eSl m ml mh)):=QE.imp (Sy acB ha.h hl.h hh.h) fun σ H Q aA=>by
 obtain ⟨A,B,Γ,d,r,em,k⟩:=aA
 obtain ⟨d1,e1,em⟩:=Res.aF em
 obtain ⟨l,e2,em⟩:=Res.aF em
 obtain ⟨h,e3,em⟩:=Res.aF em
 refine ⟨A,B,Γ,d1,r,e1,fun v A1 H1 g1 p1=>⟨A1,B,Γ,l,r.grow g1,e2,fun A2 H2 g2=>⟨A2,B,Γ,h,(r.grow g1).grow g2,e3,fun A3 H3 g3=>?_⟩⟩⟩
 have g:aP A H A3 H3:=(g1.trans g2).trans g3
 have p3:=p1.mono (g2.trans g3).aa (g2.trans g3).hh
 cases d1 with
 | list ds=>
  cases em
  obtain ⟨q,vs,rfl,h1,q1⟩:=p3.list g3.ah
  refine .inl ⟨q,vs,rfl,h1,fun t ht=>?_⟩
  have gn:=aP.new (o:=.lst (qI vs l h)) g3.ah ht
  exact k _ _ _ (g.trans gn) (Rp.list.mpr ⟨t,_,rfl,SqL.of bK,aB.mono gn.aa _ (q1.cut l h)⟩)
 | tuple ds=>
  cases em
  have rp:=p3.jW (fun _ z=>nomatch z) (fun _ z=>nomatch z)
  obtain ⟨q,vs,rfl,h1,q1⟩:=p3.tuple g3.ah
  by_cases hc:HT.sIx ds.length 0 l=0∧HT.sIx ds.length ds.length h=ds.length
  · refine .inr (.inr ⟨q,vs,rfl,h1,by rw[← q1.length];exact hc,?_⟩)
    rw[Rw hc] at k
    exact k _ _ _ g rp
  refine .inr (.inl ⟨q,vs,rfl,h1,by rw[← q1.length];exact hc,fun t ht=>?_⟩)
  have gn:=aP.new (o:=.tup (qI vs l h)) g3.ah ht
  exact k _ _ _ (g.trans gn) (Rp.tuple.mpr ⟨t,_,rfl,SqT.of bK,aB.mono gn.aa _ (q1.cut l h)⟩)
 | _=>cases em
end
theorem bU {α:Type}{l:List α}{i:Nat}{x d:α} (h:i < l.length):(l.set i x).getD i d=x:=by
 rw[ax,hU h];rfl
theorem aQ {α:Type}{l:List α}{i j:Nat}{x d:α} (h:i≠j):(l.set i x).getD j d=l.getD j d:=by
 rw[ax,ax,nk h]
section
variable {K:ag}{A B H:Hp}{O:List Fl}{σ:L2.St}{Γ:Ev}{i:Nat}{d:ae}{v:V}
theorem aV.set (r:aV K A B H O σ Γ) (hi:i < Γ.length) (hO:i < O.length) (p:Rp K A d v):aV K A B H (O.set i .imm) (σ.set i (some v)) (Γ.set i (some d)):=by
 have hs:i < σ.length:=by rw[← r.len];exact hi
 refine ⟨r.a,r.b,by rw[fI,fI];exact r.len,fun j=>?_,fun j k hjk h1 h2 h3 h4=>?_⟩
 · by_cases hj:i=j
   · subst hj
     unfold fl gv sv
     rw[bU hO,bU hi,bU hs]
     exact fun d' e=>⟨v,rfl,by cases e;exact p⟩
   · unfold fl gv sv
     rw[aQ hj,aQ hj,aQ hj]
     exact r.slot j
 · have hj:i≠j:=fun z=>by subst z;unfold fl at h1;rw[bU hO] at h1;cases h1
   have hk:i≠k:=fun z=>by subst z;unfold fl at h2;rw[bU hO] at h2;cases h2
   unfold fl at h1 h2
   unfold gv at h3 h4
   rw[aQ hj] at h1 h3
   rw[aQ hk] at h2 h4
   unfold sv
   rw[aQ hj,aQ hk]
   exact r.sep j k hjk h1 h2 h3 h4
theorem aV.aaU {p:Addr}{o:HO} (r:aV K A B H O σ Γ) (hi:i < Γ.length) (hO:i < O.length) (h1:H p=some o) (h2:A p=none) (h3:B p=none) (h4:lL K A d o)
 (hn:∀j,isO (fl O j)=true→gv Γ j≠none→sv σ j≠some (.ref p)):aV K A B H (O.set i .own) (σ.set i (some (.ref p))) (Γ.set i (some d)):=by
 have hs:i < σ.length:=by rw[← r.len];exact hi
 refine ⟨r.a,r.b,by rw[fI,fI];exact r.len,fun j=>?_,fun j k hjk q1 q2 q3 q4=>?_⟩
 · by_cases hj:i=j
   · subst hj
     unfold fl gv sv
     rw[bU hO,bU hi,bU hs]
     exact fun d' e=>⟨_,rfl,by cases e;exact ⟨p,o,rfl,h1,h2,h3,h4⟩⟩
   · unfold fl gv sv
     rw[aQ hj,aQ hj,aQ hj]
     exact r.slot j
 · unfold fl at q1 q2
   unfold gv at q3 q4
   unfold sv
   by_cases hj:i=j
   · subst hj
     have hk:i≠k:=hjk
     rw[aQ hk] at q2 q4
     rw[bU hs,aQ hk]
     exact fun z=>hn k q2 q4 z.symm
   · rw[aQ hj] at q1 q3
     rw[aQ hj]
     by_cases hk:i=k
     · subst hk
       rw[bU hs]
       exact hn j q1 q3
     · rw[aQ hk] at q2 q4
       rw[aQ hk]
       exact r.sep j k hjk q1 q2 q3 q4
theorem aV.uQ (r:aV K A B H O σ Γ) {j:Nat} (h1:isO (fl O j)=true) (h2:gv Γ j≠none):∃d p o,gv Γ j=some d∧sv σ j=some (.ref p)∧H p=some o∧A p=none∧B p=none∧lL K A d o:=by
 cases e:gv Γ j with
 | none=>exact absurd e h2
 | some d=>
  obtain ⟨v,e1,q⟩:=r.slot j d e
  cases hf:fl O j with
  | imm=>rw[hf] at h1;cases h1
  | bor=>rw[hf] at h1;cases h1
  | own=>
   rw[hf] at q
   obtain ⟨p,o,rfl,q⟩:=q
   exact ⟨d,p,o,rfl,e1,q⟩
  | fix p0=>
   rw[hf] at q
   obtain ⟨_,p,o,rfl,q⟩:=q
   exact ⟨d,p,o,rfl,e1,q⟩
  | exc C=>rw[hf] at h1;cases h1
  | nst b=>rw[hf] at h1;cases h1
theorem aV.fresh {A' H':Hp} (r:aV K A B H O σ Γ) (g:aP A H A' H') {p:Addr}{o:HO} (hi:i < Γ.length) (hO:i < O.length) (h0:H p=none) (h1:H' p=some o) (h2:A' p=none) (h4:lL K A' d o) :
 aV K A' B H' (O.set i .own) (σ.set i (some (.ref p))) (Γ.set i (some d)):=by
 refine (r.grow g).aaU hi hO h1 h2 (r.b.free h0) h4 fun j q1 q2 z=>?_
 obtain ⟨d',p',o',e1,e2,e3,_⟩:=r.uQ q1 q2
 rw[e2] at z
 cases z
 rw[h0] at e3
 cases e3
theorem aV.freeze (r:aV K A B H O σ Γ) (hi:fl O i = .own) (hO:i < O.length):∃A',aH A A'∧New A A' B∧aV K A' B H (O.set i .imm) σ Γ:=by
 by_cases hg:gv Γ i=none
 · refine ⟨A,aH.refl _,fun _ h _=>h,r.a,r.b,r.len,fun j=>?_,fun j k hjk h1 h2 h3 h4=>?_⟩
   · by_cases hj:i=j
     · subst hj
       intro d e
       rw[hg] at e
       cases e
     · unfold fl
       rw[aQ hj]
       exact r.slot j
   · have hj:i≠j:=fun z=>by subst z;exact h3 hg
     have hk:i≠k:=fun z=>by subst z;exact h4 hg
     unfold fl at h1 h2
     rw[aQ hj] at h1
     rw[aQ hk] at h2
     exact r.sep j k hjk h1 h2 h3 h4
 · have hiO:isO (fl O i)=true:=by rw[hi];rfl
   obtain ⟨d,p,o,e1,e2,h1,h2,h3,h4⟩:=r.uQ hiO hg
   have s:aH A (upd A p o):=aH.new h2 o
   refine ⟨upd A p o,s,fun q n1 n2=>?_,fun b u q=>?_,r.b,r.len,fun j=>?_,fun j k hjk q1 q2 q3 q4=>?_⟩
   · have hq:q≠p:=fun z=>n2 (z ▸ h3)
     rw[bu hq];exact n1
   · by_cases hb:b=p
     · subst hb;rw[bK] at q;rw[h1];exact q
     · rw[bu hb] at q;exact r.a b u q
   · by_cases hj:i=j
     · subst hj
       unfold fl
       rw[bU hO]
       intro d' e'
       rw[e1] at e'
       cases e'
       refine ⟨_,e2,?_⟩
       exact h4.share s
     · unfold fl
       rw[aQ hj]
       intro d' e'
       obtain ⟨v',e'',q⟩:=r.slot j d' e'
       refine ⟨v',e'',?_⟩
       cases hf:fl O j with
       | imm=>rw[hf] at q;unfold fl at hf;rw[hf];exact Rp.mono s d' q
       | bor=>rw[hf] at q;unfold fl at hf;rw[hf];exact Pk.mono s (aH.refl _) q
       | own=>
        rw[hf] at q
        have hf':=hf
        unfold fl at hf
        rw[hf]
        obtain ⟨p',o',rfl,g1,g2,g3,g4⟩:=q
        refine ⟨p',o',rfl,g1,?_,g3,g4.mono s⟩
        have hne:p'≠p:=fun z=>by
         refine r.sep i j hj hiO (by rw[hf'];rfl) hg (by rw[e'];simp) ?_
         rw[e2,e'',z]
        rw[bu hne];exact g2
       | fix p0=>
        rw[hf] at q
        have hf':=hf
        unfold fl at hf
        rw[hf]
        obtain ⟨q0,p',o',rfl,g1,g2,g3,g4⟩:=q
        refine ⟨q0,p',o',rfl,g1,?_,g3,g4.mono s⟩
        have hne:p'≠p:=fun z=>by
         refine r.sep i j hj hiO (by rw[hf'];rfl) hg (by rw[e'];simp) ?_
         rw[e2,e'',z]
        rw[bu hne];exact g2
       | exc C=>
        rw[hf] at q
        unfold fl at hf
        rw[hf]
        obtain ⟨p',ob,w1,w2,w3⟩:=q
        exact ⟨p',ob,w1,s _ _ w2,w3⟩
       | nst b=>
        rw[hf] at q
        unfold fl at hf
        rw[hf]
        intro z
        obtain ⟨p',xs,kvs,w1,w2,w3,w4,w5,w6⟩:=q z
        refine ⟨p',xs,kvs,w1,w2,w3,?_,w5,w6.mono s⟩
        have hne:p'≠p:=fun z=>by subst z;rw[h1] at w3;exact h4.nx w3
        rw[bu hne];exact w4
   · have hj:i≠j:=fun z=>by subst z;unfold fl at q1;rw[bU hO] at q1;cases q1
     have hk:i≠k:=fun z=>by subst z;unfold fl at q2;rw[bU hO] at q2;cases q2
     unfold fl at q1 q2
     rw[aQ hj] at q1
     rw[aQ hk] at q2
     exact r.sep j k hjk q1 q2 q3 q4
theorem aV.change {p:Addr}{o o':HO}{d':ae} (r:aV K A B H O σ Γ) (hi:isO (fl O i)=true) (hl:i < Γ.length) (he:gv Γ i≠none) (hs:sv σ i=some (.ref p)) (h1:H p=some o) (h4:lL K A d' o') :
 aV K A B (upd H p o') O σ (Γ.set i (some d')):=by
 obtain ⟨d,p',o0,e1,e2,g1,g2,g3,g4⟩:=r.uQ hi he
 rw[hs] at e2
 cases e2
 refine ⟨fun b u q=>?_,fun b u q=>?_,by rw[fI];exact r.len,fun j=>?_,fun j k hjk q1 q2 q3 q4=>?_⟩
 · have hb:b≠p:=fun z=>by rw[z,g2] at q;cases q
   rw[bu hb];exact r.a b u q
 · have hb:b≠p:=fun z=>by rw[z,g3] at q;cases q
   rw[bu hb];exact r.b b u q
 · by_cases hj:i=j
   · subst hj
     unfold gv
     rw[bU hl]
     intro d'' e
     cases e
     refine ⟨_,hs,?_⟩
     cases hf:fl O i with
     | imm=>rw[hf] at hi;cases hi
     | bor=>rw[hf] at hi;cases hi
     | own=>exact ⟨p,o',rfl,bK,g2,g3,h4⟩
     | fix p0=>
      obtain ⟨v',ev,q⟩:=r.slot i d e1
      rw[hf] at q
      rw[hs] at ev
      cases ev
      exact ⟨q.1,p,o',rfl,bK,g2,g3,h4⟩
     | exc C=>rw[hf] at hi;cases hi
     | nst b=>rw[hf] at hi;cases hi
   · unfold gv
     rw[aQ hj]
     intro d'' e''
     obtain ⟨v',ev,q⟩:=r.slot j d'' e''
     refine ⟨v',ev,?_⟩
     cases hf:fl O j with
     | imm=>rw[hf] at q;exact q
     | bor=>rw[hf] at q;exact q
     | own=>
      rw[hf] at q
      obtain ⟨p',o',rfl,u1,u2,u3,u4⟩:=q
      refine ⟨p',o',rfl,?_,u2,u3,u4⟩
      have hne:p'≠p:=fun z=>by
       refine r.sep i j hj hi (by rw[hf];rfl) he (by show gv Γ j≠none;unfold gv;rw[e''];simp) ?_
       rw[hs,ev,z]
      rw[bu hne];exact u1
     | fix p0=>
      rw[hf] at q
      obtain ⟨q0,p',o',rfl,u1,u2,u3,u4⟩:=q
      refine ⟨q0,p',o',rfl,?_,u2,u3,u4⟩
      have hne:p'≠p:=fun z=>by
       refine r.sep i j hj hi (by rw[hf];rfl) he (by show gv Γ j≠none;unfold gv;rw[e''];simp) ?_
       rw[hs,ev,z]
      rw[bu hne];exact u1
     | exc C=>rw[hf] at q;exact q
     | nst b=>
      rw[hf] at q
      intro z
      obtain ⟨p',xs,kvs,w1,w2,w3,w4,w5,w6⟩:=q z
      have hne:p'≠p:=fun z=>by subst z;rw[g1] at w3;exact g4.nx w3
      exact ⟨p',xs,kvs,w1,w2,by rw[bu hne];exact w3,w4,w5,w6⟩
 · have h3:gv Γ j≠none:=by
    by_cases hj:i=j
    · subst hj;exact he
    · unfold gv at q3 ⊢;rw[aQ hj] at q3;exact q3
   have h4':gv Γ k≠none:=by
    by_cases hk:i=k
    · subst hk;exact he
    · unfold gv at q4 ⊢;rw[aQ hk] at q4;exact q4
   exact r.sep j k hjk q1 q2 h3 h4'
theorem aV.weak {Γ':Ev} (r:aV K A B H O σ Γ) (hl:Γ'.length=Γ.length) (h:∀j,gv Γ' j=none∨gv Γ' j=gv Γ j):aV K A B H O σ Γ':=by
 have h':∀j,gv Γ' j≠none→gv Γ j≠none:=fun j n=>by
  rcases h j with z | z
  · exact absurd z n
  · rw[← z];exact n
 refine ⟨r.a,r.b,hl.trans r.len,fun j d e=>?_,fun j k hjk q1 q2 q3 q4=>r.sep j k hjk q1 q2 (h' j q3) (h' k q4)⟩
 rcases h j with z | z
 · rw[z] at e;cases e
 · rw[z] at e;exact r.slot j d e
end
noncomputable def clr (l:List Nat) (Γ:Ev):Ev:=l.foldl (fun Γ i=>Γ.set i none) Γ
theorem zc:∀(l:List Nat) (Γ:Ev),(clr l Γ).length=Γ.length∧∀j,gv (clr l Γ) j=none∨gv (clr l Γ) j=gv Γ j
 | [],Γ=>⟨rfl,fun _=>.inr rfl⟩
 | i::l,Γ=>by
  obtain ⟨h1,h2⟩:=zc l (Γ.set i none)
  refine ⟨h1.trans (fI ..),fun j=>?_⟩
  rcases h2 j with z | z
  · exact .inl z
  · by_cases hj:i=j
    · subst hj
      left
      show gv (clr l (Γ.set i none)) i=none
      rw[z]
      unfold gv
      rw[ax]
      by_cases hi:i < Γ.length
      · rw[hU hi];rfl
      · rw[fv (by rw[fI];omega)];rfl
    · right
      show gv (clr l (Γ.set i none)) j=gv Γ j
      rw[z]
      unfold gv
      exact aQ hj
theorem aV.clr {K:ag}{A B H:Hp}{O:List Fl}{σ:L2.St}{Γ:Ev} (r:aV K A B H O σ Γ) (l:List Nat):aV K A B H O σ (L3.clr l Γ):=r.weak (zc l Γ).1 (zc l Γ).2
inductive Rm where
 | f | t | m (p:Addr)
noncomputable def W8 (K:ag) (rm:Rm) (B A' H':Hp) (d:ae) (v:V):Prop:=match rm with
 | .f=>Rp K A' d v
 | .t=>vf K B A' H' d v
 | .m p=>∃d1 dm o,d = .tuple [d1,dm]∧Rp K A' d1 v∧H' p=some o∧A' p=none∧lL K A' dm o
noncomputable def wy (K:ag) (rm:Rm) (Ol O':List Fl) (A B:Hp) (D:Ends):Out→Prop
 | .nx Γ'=>∀σ' A' H',aV K A' B H' O' σ' Γ'→aH A A'→New A A' B→D.nx σ' H'
 | .bk Γ'=>∀σ' A' H',aV K A' B H' Ol σ' Γ'→aH A A'→New A A' B→D.bk σ' H'
 | .ct Γ'=>∀σ' A' H',aV K A' B H' Ol σ' Γ'→aH A A'→New A A' B→D.ct σ' H'
 | .rt d=>∀v A' H',aH A' H'→aH B H'→aH A A'→New A A' B→W8 K rm B A' H' d v→D.rt v H'
noncomputable def tS (K:ag) (rm:Rm) (Ol O O':List Fl) (m:MS):TS:=fun D σ H=>∃A B Γ o,aV K A B H O σ Γ∧m Γ = .ok o∧wy K rm Ol O' A B D o
section
variable {K:ag}{rm:Rm}{Ol O O':List Fl}{A B A1 H H1:Hp}{D:Ends}{o:Out}
theorem wy.sub (sa:aH A A1) (nw:New A A1 B) (h:wy K rm Ol O' A B D o):wy K rm Ol O' A1 B D o:=by
 cases o with
 | nx Γ=>exact fun σ' A' H' r s n=>h σ' A' H' r (sa.trans s) (nw.trans n)
 | bk Γ=>exact fun σ' A' H' r s n=>h σ' A' H' r (sa.trans s) (nw.trans n)
 | ct Γ=>exact fun σ' A' H' r s n=>h σ' A' H' r (sa.trans s) (nw.trans n)
 | rt d=>exact fun v A' H' s1 s2 s n=>h v A' H' s1 s2 (sa.trans s) (nw.trans n)
theorem aP.nB (g:aP A H A1 H1) (b:aH B H):New A A1 B:=g.nw.mono b
end
noncomputable def cO:MS:=fun Γ=>.ok (.nx Γ)
noncomputable def aN (a b:MS):MS:=fun Γ=>(a Γ).bind fun o=>match o with
 | .nx Γ'=>b Γ'
 | .rt d=>.ok (.rt d)
 | .bk Γ'=>.ok (.bk Γ')
 | .ct Γ'=>.ok (.ct Γ')
noncomputable def aW (i:Nat) (m:ME):MS:=fun Γ=>(m Γ).bind fun d=>gd (i < Γ.length) (.ok (.nx (Γ.set i (some d))))
noncomputable def sIf (c:ME) (a b:MS):MS:=fun Γ=>(c Γ).bind fun x=>match x with
 | .bool true=>a Γ
 | .bool false=>b Γ
 | _=>.bad
noncomputable def cg (m:ME):MS:=fun Γ=>(m Γ).bind fun d=>.ok (.rt d)
noncomputable def sEx (m:ME):MS:=fun Γ=>(m Γ).bind fun _=>.ok (.nx Γ)
noncomputable def lJ:MS:=fun _=>.bad
section
variable {X:Cx}{K:ag}{rm:Rm}{Ol O O1 O2 O':List Fl}{m:ME}{m1 m2:MS}{e c:Expr}{st:Stmt}{rest a b:List Stmt}{pos:Pos}
theorem cz:QSs X [] (tS K rm Ol O O cO):=QSs.imp VJ fun D σ H aA=>by
 obtain ⟨A,B,Γ,o,r,em,k⟩:=aA
 cases em
 exact k σ A H r (aH.refl _) fun _ h _=>h
theorem aD (h1:QS X st (tS K rm Ol O O1 m1)) (h2:QSs X rest (tS K rm Ol O1 O2 m2)):QSs X (st::rest) (tS K rm Ol O O2 (aN m1 m2)):=QSs.imp (sU h1.h h2.h) fun D σ H aA=>by
 obtain ⟨A,B,Γ,o,r,em,k⟩:=aA
 obtain ⟨o1,e1,em⟩:=Res.aF em
 cases o1 with
 | nx Γ1=>exact ⟨A,B,Γ,_,r,e1,fun σ' A' H' r' sa nw=>⟨A',B,Γ1,o,r',em,k.sub sa nw⟩⟩
 | rt d=>cases em;exact ⟨A,B,Γ,_,r,e1,k⟩
 | bk d=>cases em;exact ⟨A,B,Γ,_,r,e1,k⟩
 | ct d=>cases em;exact ⟨A,B,Γ,_,r,e1,k⟩
theorem aL (h1:QS X st (tS K rm Ol O O1 m1)):QSs X [st] (tS K rm Ol O O1 m1):=⟨Hy h1.h⟩
theorem WQ (i:Nat) {O2:List Fl} (h:QS X st (tS K rm Ol O2 O' m1)) (hO:O.set i .imm=O2:=by rfl) (hi:fl O i = .own:=by rfl) (hl:i < O.length:=by exact of_decide_eq_true rfl):QS X st (tS K rm Ol O O' m1):=QS.imp (hO ▸ h.h) fun D σ H aA=>by
 obtain ⟨A,B,Γ,o,r,em,k⟩:=aA
 obtain ⟨A',sa,nw,r'⟩:=r.freeze hi hl
 exact ⟨A',B,Γ,o,r',em,k.sub sa nw⟩
theorem Px {te:TE}{i:Nat} (h:∀σ H Q,tE K O m σ H Q→te σ H Q) (hl:i < O.length) {D:Ends}{σ:L2.St}{H:Hp} (q:tS K rm Ol O (O.set i .imm) (aW i m) D σ H):Ez te (yK i) D σ H:=by
 obtain ⟨A,B,Γ,o,r,em,k⟩:=q
 obtain ⟨d,e1,em⟩:=Res.aF em
 obtain ⟨hi,em⟩:=cN em
 cases em
 refine h σ H _ ⟨A,B,Γ,d,r,e1,fun v A' H' g p=>?_⟩
 exact k _ A' H' ((r.grow g).set hi hl p) g.aa (g.nB r.b)
theorem Ar {te:TE}{i:Nat} (h:∀σ H Q,tF K O m σ H Q→te σ H Q) (hl:i < O.length) {D:Ends}{σ:L2.St}{H:Hp} (q:tS K rm Ol O (O.set i .own) (aW i m) D σ H):Ez te (yK i) D σ H:=by
 obtain ⟨A,B,Γ,o,r,em,k⟩:=q
 obtain ⟨d,e1,em⟩:=Res.aF em
 obtain ⟨hi,em⟩:=cN em
 cases em
 refine h σ H _ ⟨A,B,Γ,d,r,e1,fun v A' H' g p=>?_⟩
 obtain ⟨p,o,rfl,h0,h1,h2,h4⟩:=p
 exact k _ A' H' (r.fresh g hi hl h0 h1 h2 h4) g.aa (g.nB r.b)
theorem aR (i:Nat) {O2:List Fl}{x:Str}{pos':Pos} (hN:X.N.Nodup) (hi:X.N[i]?=some x) (hx:Loc X.env.scope x) (he:QE X e (tE K O m)) (hl:i < O.length:=by exact of_decide_eq_true rfl) (hs:j3 e (some (.Name x pos')) pos.line X.env=pure false:=by rfl)
 (hf:X.fn x=true∨X.env.scope.names.lookup x=some .local:=by first | exact .inl rfl | exact .inr rfl | assumption) (hO:O.set i .imm=O2:=by rfl):QS X (.Assign [.Name x pos'] e pos) (tS K rm Ol O O2 (aW i m)):=
 hO ▸ QS.imp (Ec hN hi hx he.h hs hf) fun D σ H=>Px (fun _ _ _ z=>z) hl
theorem kO (i:Nat) {O2:List Fl}{x:Str}{pos':Pos} (hN:X.N.Nodup) (hi:X.N[i]?=some x) (hx:Loc X.env.scope x) (he:QE X e (tF K O m)) (hl:i < O.length:=by exact of_decide_eq_true rfl) (hs:j3 e (some (.Name x pos')) pos.line X.env=pure false:=by rfl)
 (hf:X.fn x=true∨X.env.scope.names.lookup x=some .local:=by first | exact .inl rfl | exact .inr rfl | assumption) (hO:O.set i .own=O2:=by rfl):QS X (.Assign [.Name x pos'] e pos) (tS K rm Ol O O2 (aW i m)):=
 hO ▸ QS.imp (Ec hN hi hx he.h hs hf) fun D σ H=>Ar (fun _ _ _ z=>z) hl
theorem cP (hc:QT X c (tT K O m)) (ha:QSs X a (tS K rm Ol O O' m1)) (hb:QSs X b (tS K rm Ol O O' m2)):QS X (.If c a b pos) (tS K rm Ol O O' (sIf m m1 m2)):=QS.imp (Tc hc.h ha.h hb.h) fun D σ H aA=>by
 obtain ⟨A,B,Γ,o,r,em,k⟩:=aA
 obtain ⟨d1,e1,em⟩:=Res.aF em
 cases d1 with
 | bool bb=>
  refine ⟨A,B,Γ,bb,r,e1,fun A1 H1 g1=>?_⟩
  cases bb with
  | true=>exact uL ⟨A1,B,Γ,o,r.grow g1,em,k.sub g1.aa (g1.nB r.b)⟩
  | false=>exact wZ ⟨A1,B,Γ,o,r.grow g1,em,k.sub g1.aa (g1.nB r.b)⟩
 | _=>cases em
theorem bW (he:QE X e (tE K O m)):QS X (.Return (some e) pos) (tS K .f Ol O O' (cg m)):=QS.imp (M7 he.h) fun D σ H aA=>by
 obtain ⟨A,B,Γ,o,r,em,k⟩:=aA
 obtain ⟨d1,e1,em⟩:=Res.aF em
 cases em
 exact ⟨A,B,Γ,d1,r,e1,fun v A' H' g p=>k v A' H' g.ah (r.b.trans g.hh) g.aa (g.nB r.b) p⟩
theorem vO (i:Nat) {x:Str}{p:Pos} (hi:fl O i = .own:=by rfl) (hN:X.N[i]?=some x:=by rfl) (hv:Vis X.env.scope x:=by first | exact cb rfl | exact g9 (cb rfl) | exact g9 (g9 rfl)) (hd:(x == ("__debug__" : Str))=false:=by decide)
 (hcd:(x == ("__classdict__" : Str))=false:=by decide):QS X (.Return (some (.Name x p)) pos) (tS K .t Ol O O' (cg (aj i))):=QS.imp (M7 (il hN hv hd hcd)) fun D σ H aA=>by
 obtain ⟨A,B,Γ,o,r,em,k⟩:=aA
 obtain ⟨d1,e1,em⟩:=Res.aF em
 cases em
 obtain ⟨v,e2,q⟩:=r.slot i d1 (vQ e1)
 rw[hi] at q
 refine ⟨v,jc e2,k v A H r.a r.b (aH.refl _) (fun _ h _=>h) ?_⟩
 obtain ⟨p,o,e,h1,h2,h3,h4⟩:=q
 exact ⟨p,o,e,h3,h1,h2,h4⟩
theorem qZ:QS X st (tS K rm Ol O O' lJ):=QS.imp Gm fun D σ H aA=>by obtain ⟨A,B,Γ,o,r,em,k⟩:=aA;cases em
theorem CQ (he:QE X e (tP K O m)) (hs:j3 e none pos.line X.env=pure false:=by rfl):QS X (.Expr e pos) (tS K rm Ol O O (sEx m)):=QS.imp (v5 he.h hs) fun D σ H aA=>by
 obtain ⟨A,B,Γ,o,r,em,k⟩:=aA
 obtain ⟨d1,e1,em⟩:=Res.aF em
 cases em
 exact ⟨A,B,Γ,d1,r,e1,fun v A' H' g p=>k σ A' H' (r.grow g) g.aa (g.nB r.b)⟩
end
noncomputable def spF (K:ag) (fs:List Fl) (rm:Rm) (f:List ae→Res ae):Sp:=fun vs H Q _=>∃A ds d,aH A H∧jB K A H fs ds vs∧f ds = .ok d∧∀v A' H',aP A H A' H'→W8 K rm H A' H' d v→Q v H'
theorem jB.length {K:ag}{A H:Hp}:∀{fs:List Fl}{ds:List ae}{vs:List V},jB K A H fs ds vs→vs.length=fs.length∧ds.length=fs.length
 | [],ds,vs,h=>by obtain ⟨rfl,rfl⟩:=h;exact ⟨rfl,rfl⟩
 | f::fs,ds,vs,h=>by
  obtain ⟨d,r,v,s,rfl,rfl,_,h⟩:=h
  have:=h.length
  exact ⟨by rw[bX,bX,this.1],by rw[bX,bX,this.2]⟩
noncomputable def aX (f:List ae→Res ae) (ms:List ME):ME:=fun Γ=>(evs ms Γ).bind f
section
variable {X:Cx}{k:Nat}{x:Str}{ps:List Str}{fs:List Fl}{f:List ae→Res ae}{O:List Fl}{ms:List ME}{p pos:Pos}{e:Expr}{es:List Expr}
theorem bf (F:Def X.prog X.w X.K X.mg X.base k x ps (spF X.K fs .f f)) (hr:dg k X.A) (hg:Gl X x) (ha:QA X (e::es) (tAr X.K O fs ms)) (hdb:(x == ("__debug__" : Str))=false:=by decide)
 (he:noStar e=true:=by rfl) (hpl:eQ es=true:=by rfl):QE X (.Call (.Name x p) (e::es) [] pos) (tE X.K O (aX f ms)):=
 QE.imp (Dr F hr hg ha.h hdb (bO he) (gA hpl)) fun σ H Q aA=>by
  obtain ⟨A,B,Γ,d,r,em,k⟩:=aA
  obtain ⟨ds,e1,em⟩:=Res.aF em
  refine ⟨A,B,Γ,ds,r,e1,fun vs A1 H1 g1 p1=>?_⟩
  show spF X.K fs .f f (vs++[]) H1 Q E0
  rw[fq]
  exact ⟨A1,ds,d,g1.ah,p1,em,fun v A' H' g p=>k v A' H' (g1.trans g) p⟩
theorem oY (F:Def X.prog X.w X.K X.mg X.base k x ps (spF X.K fs .t f)) (hr:dg k X.A) (hg:Gl X x) (ha:QA X (e::es) (tAr X.K O fs ms)) (hdb:(x == ("__debug__" : Str))=false:=by decide)
 (he:noStar e=true:=by rfl) (hpl:eQ es=true:=by rfl):QE X (.Call (.Name x p) (e::es) [] pos) (tF X.K O (aX f ms)):=
 QE.imp (Dr F hr hg ha.h hdb (bO he) (gA hpl)) fun σ H Q aA=>by
  obtain ⟨A,B,Γ,d,r,em,k⟩:=aA
  obtain ⟨ds,e1,em⟩:=Res.aF em
  refine ⟨A,B,Γ,ds,r,e1,fun vs A1 H1 g1 p1=>?_⟩
  show spF X.K fs .t f (vs++[]) H1 Q E0
  rw[fq]
  refine ⟨A1,ds,d,g1.ah,p1,em,fun v A' H' g p=>k v A' H' (g1.trans g) ?_⟩
  obtain ⟨q,o,e,h1,h2⟩:=p
  exact ⟨q,o,e,g1.hh.free h1,h2⟩
end
noncomputable def fnR (n:Nat) (m:MS) (ds:List ae):Res ae:=(m (ds.map some++b9 (n - ds.length) none)).bind fun o=>match o with
 | .rt d=>.ok d
 | _=>.bad
section
variable {P:cw}{w:eI}{K:ag}{mg:Str→Option ai}{base:Heap}
theorem nq {fs O:List Fl}{N:List Str}{A H:Hp}:∀{ds:List ae}{vs:List V},aH A H→jB K A H fs ds vs→(∀i,i < fs.length→(fl O i = .imm∧fl fs i = .imm)∨fl O i = .bor)→fs.length≤N.length →
 aV K A H H O (L2.start N vs) (ds.map some++b9 (N.length - ds.length) none):=by
 intro ds vs ha h hO hn
 have hl:=h.length
 have one:∀(fs:List Fl) (ds:List ae) (vs:List V),jB K A H fs ds vs→∀i d,ds[i]?=some d→∃v,vs[i]?=some v∧Xh K A H (fl fs i) d v:=by
  intro fs
  induction fs with
  | nil=>intro ds vs h i d e;obtain ⟨rfl,rfl⟩:=h;simp at e
  | cons f fs ih=>
   intro ds vs h i d e
   obtain ⟨d0,r,v,s,rfl,rfl,h1,h⟩:=h
   match i with
   | 0=>simp at e;subst e;exact ⟨v,rfl,h1⟩
   | i+1=>
    obtain ⟨v',h2,h3⟩:=ih r s h i d (by simpa using e)
    exact ⟨v',by simpa using h2,h3⟩
 have gvN:∀i,gv (ds.map some++b9 (N.length - ds.length) none) i=ds[i]?:=fun i=>by
  unfold gv
  rw[ax]
  rcases lI i ds.length with h | h
  · rw[eP (by simpa using h),cn,aS h];rfl
  · rw[d6 (by simpa using h),iq,fv h]
    split <;> rfl
 have svN:∀i v,vs[i]?=some v→sv (L2.start N vs) i=some v:=fun i v e=>by
  unfold sv L2.start
  rw[ax]
  have h:i < vs.length:=(de.mp e).1
  rw[eP (by simpa using h),cn,e];rfl
 refine ⟨ha,aH.refl _,?_,fun i d e=>?_,fun i j hij h1 h2 h3 h4=>?_⟩
 · unfold L2.start
   rw[ay,ay,aw,aw,cq,cq]
   omega
 · rw[gvN] at e
   obtain ⟨v,e1,q⟩:=one fs ds vs h i d e
   refine ⟨v,svN i v e1,?_⟩
   have hi:i < fs.length:=by rw[← hl.2];exact (de.mp e).1
   rcases hO i hi with ⟨z,z'⟩ | z
   · rw[z];rw[z'] at q;exact q
   · rw[z]
     cases hf:fl fs i with
     | imm=>rw[hf] at q;exact .inl q
     | bor=>rw[hf] at q;exact q
     | own=>rw[hf] at q;exact q
     | fix p0=>rw[hf] at q;exact q
     | exc C=>rw[hf] at q;exact q
     | nst b=>rw[hf] at q;exact q
 · rw[gvN] at h3
   have hi:i < fs.length:=by
    rw[← hl.2]
    rcases lI i ds.length with h | h
    · exact h
    · exact absurd (fv h) h3
   rcases hO i hi with ⟨z,_⟩ | z <;> rw[z] at h1 <;> cases h1
theorem Up {x:Str}{st:Stmt}{fa:Addr}{fd:om}{N ps:List Str}{k:Nat}{fs O O' Ol:List Fl}{rm:Rm}{m:MS} (F:Fun K x x st fa fd) (S:bL N ps (aC st)) (hf:fs.length=ps.length) (hn:ps.length≤N.length)
 (hO:∀i,i < fs.length→(fl O i = .imm∧fl fs i = .imm)∨fl O i = .bor)
 (hbody:∀(f:Addr) (cdv:ai) (A:eo) (outer:List Env) (s:ar) (H:Hp) (E:XK),dg k (A.deeper (iX x (aC st) s.heap.objs.size f cdv)) →
  QSs (kh CX0 P w K mg base N x (aC st) f cdv A outer s H E).nox (aU st) (tS K rm Ol O O' m)):n8 P w K mg base CX0 (k+1) fa fd ps (spF K fs rm (fnR N.length m)):=by
 refine F.ok S (fun vs H Q E h=>?_) (fun cdv A outer s H vs Q E hr h=>?_)
 · obtain ⟨A,ds,d,_,h,_⟩:=h
   rw[h.length.1,hf]
 · obtain ⟨A',ds,d,ha,h,em,q⟩:=h
   obtain ⟨o,e1,em⟩:=Res.aF em
   cases o with
   | rt d'=>
    cases em
    refine ⟨_,(hbody fa cdv A outer s H E hr).h,A',H,_,_,nq ha h hO (by omega),e1,fun v A2 H2 s1 s2 sa nw rv=>q v A2 H2 ⟨sa,s2,s1,nw⟩ rv⟩
   | _=>cases em
theorem dX {x:Str}{st:Stmt}{N ps:List Str}{k:Nat}{fs O O' Ol:List Fl}{rm:Rm}{m:MS} (F:At K mg x st ps) (S:bL N ps (aC st)) (hf:fs.length=ps.length) (hn:ps.length≤N.length)
 (hO:∀i,i < fs.length→(fl O i = .imm∧fl fs i = .imm)∨fl O i = .bor)
 (hbody:∀(f:Addr) (cdv:ai) (A:eo) (outer:List Env) (s:ar) (H:Hp) (E:XK),dg k (A.deeper (iX x (aC st) s.heap.objs.size f cdv)) →
  QSs (kh CX0 P w K mg base N x (aC st) f cdv A outer s H E).nox (aU st) (tS K rm Ol O O' m)):Def P w K mg base (k+1) x ps (spF K fs rm (fnR N.length m)):=by
 refine F.ok S (fun vs H Q E h=>?_) (fun f cdv A outer s H vs Q E hr h=>?_)
 · obtain ⟨A,ds,d,_,h,_⟩:=h
   rw[h.length.1,hf]
 · obtain ⟨A',ds,d,ha,h,em,q⟩:=h
   obtain ⟨o,e1,em⟩:=Res.aF em
   cases o with
   | rt d'=>
    cases em
    refine ⟨_,(hbody f cdv A outer s H E hr).h,A',H,_,_,nq ha h hO (by omega),e1,fun v A2 H2 s1 s2 sa nw rv=>q v A2 H2 ⟨sa,s2,s1,nw⟩ rv⟩
   | _=>cases em
end
noncomputable abbrev MI:=Ev→Res (List ae)
structure xX (K:ag) (A B:Hp) (J:It) (xs:List ae):Prop where
 go:∀i H,aH A H→aH B H→i < xs.length→J.go i H
 stop:∀H,aH A H→aH B H→J.stop xs.length H
 yld:∀i A2 H x H',aH A A2→aH A2 H→aH B H→i < xs.length→J.yld i H x H'→∃A' d,xs[i]?=some d∧aP A2 H A' H'∧Rp K A' d x
noncomputable def tI (K:ag) (O:List Fl) (it:MI):TI:=fun σ H R=>∃A B Γ xs,aV K A B H O σ Γ∧it Γ = .ok xs∧∀J A1 H1,aP A H A1 H1→xX K A1 B J xs→R J H1
noncomputable def tIc (K:ag) (O:List Fl) (it:MI):TI:=fun σ H R=>∃A B Γ xs,aV K A B H O σ Γ∧it Γ = .ok xs∧∀J A1 H1,aP A H A1 H1→xX K A1 H1 J xs→R J H1
noncomputable def tQ (K:ag) (O:List Fl) (m:ME):TE:=fun σ H Q=>∃A B Γ d,aV K A B H O σ Γ∧m Γ = .ok d∧∀v A' H',aP A H A' H'→Pk K A' B d v→Q v H'
section
variable {X:Cx}{K:ag}{O:List Fl}{m:ME}{e:Expr}{pos:Pos}
theorem sq (h:QE X e (tE K O m)):QE X e (tQ K O m):=QE.imp h.h fun σ H Q aA=>by obtain ⟨A,B,Γ,d,r,em,k⟩:=aA;exact ⟨A,B,Γ,d,r,em,fun v A' H' g p=>k v A' H' g (.inl p)⟩
theorem pO (i:Nat) {x:Str} (hi:isO (fl O i)=false:=by rfl) (hN:X.N[i]?=some x:=by rfl) (hv:Vis X.env.scope x:=by first | exact cb rfl | exact g9 (cb rfl) | exact g9 (g9 rfl)) (hd:(x == ("__debug__" : Str))=false:=by decide)
 (hcd:(x == ("__classdict__" : Str))=false:=by decide) (hx:isX (fl O i)=false:=by rfl):QE X (.Name x pos) (tQ K O (aj i)):=QE.imp (il hN hv hd hcd) fun σ H Q aA=>by
 obtain ⟨A,B,Γ,d,r,em,k⟩:=aA
 obtain ⟨v,e1,q⟩:=r.slot i d (vQ em)
 refine ⟨v,jc e1,k v A H (aP.refl r.a) ?_⟩
 cases hf:fl O i with
 | imm=>rw[hf] at q;exact .inl q
 | bor=>rw[hf] at q;exact q
 | own=>rw[hf] at hi;cases hi
 | fix p0=>rw[hf] at hi;cases hi
 | exc C=>rw[hf] at hx;cases hx
 | nst b=>rw[hf] at hx;cases hx
end
theorem Pk.aaa {K:ag}{A B H:Hp}{ds:List ae}{v:V} (h:Pk K A B (.list ds) v):∃p vs,v = .ref p∧aB K A ds vs∧∀H,aH A H→aH B H→SqL K H p vs:=by
 rcases h with h | ⟨p,vs,ds',e1,e2,h1,h2⟩ | ⟨_,_,_,_,e2,_⟩
 · obtain ⟨a,vs,e,h1,h2⟩:=Rp.list.mp h
   exact ⟨a,vs,e,h2,fun H s _=>s.seq h1⟩
 · cases e2
   exact ⟨p,vs,e1,h2,fun H _ s=>s.seq h1⟩
 · cases e2
theorem Pk.rY {K:ag}{A B H:Hp}{ds:List ae}{v:V} (h:Pk K A B (.tuple ds) v):∃p vs,v = .ref p∧aB K A ds vs∧∀H,aH A H→SqT K H p vs:=by
 obtain ⟨a,vs,e,h1,h2⟩:=Rp.tuple.mp (h.jW (fun _ z=>nomatch z) (fun _ z=>nomatch z))
 exact ⟨a,vs,e,h2,fun H s=>s.rY h1⟩
section
variable {K:ag}{A B:Hp}{ds:List ae}{vs:List V}{p:Addr}
theorem Uj (hr:aB K A ds vs) (hq:∀H,aH A H→aH B H→SqL K H p vs):xX K A B (Itl K p) ds:=by
 have hl:=hr.length
 refine ⟨fun i H s1 s2 hi=>?_,fun H s1 s2=>⟨vs,hq H s1 s2,by omega⟩,fun i A2 H x H' sa s1 s2 hi y=>?_⟩
 · exact ⟨vs,vs[i]'(by omega),hq H s1 s2,aS _⟩
 · obtain ⟨rfl,y⟩:=y
   have e:=y vs (hq H' (sa.trans s1) s2)
   obtain ⟨d,e1,q⟩:=hr.get e
   exact ⟨A2,d,e1,aP.refl s1,Rp.mono sa d q⟩
theorem Wi (hr:aB K A ds vs) (hq:∀H,aH A H→SqT K H p vs):xX K A B (Itt K p) ds:=by
 have hl:=hr.length
 refine ⟨fun i H s1 s2 hi=>?_,fun H s1 s2=>⟨vs,hq H s1,by omega⟩,fun i A2 H x H' sa s1 s2 hi y=>?_⟩
 · exact ⟨vs,vs[i]'(by omega),hq H s1,aS _⟩
 · obtain ⟨rfl,y⟩:=y
   have e:=y vs (hq H' (sa.trans s1))
   obtain ⟨d,e1,q⟩:=hr.get e
   exact ⟨A2,d,e1,aP.refl s1,Rp.mono sa d q⟩
theorem xT (lo:Int) (n:Nat):xX K A B (Itr lo n) ((cS n).map fun i=>ae.int (lo+(i:Nat))):=by
 have hl:((cS n).map fun i=>ae.int (lo+(i:Nat))).length=n:=by rw[aw,dP]
 refine ⟨fun i H _ _ hi=>(by rw[hl] at hi;exact hi),fun H _ _=>(by rw[hl];exact aE _),fun i A2 H x H' sa s1 s2 hi y=>?_⟩
 obtain ⟨rfl,rfl⟩:=y
 rw[hl] at hi
 exact ⟨A2,.int (lo+(i:Nat)),by rw[cn,ke hi];rfl,aP.refl s1,Rp.int.mpr rfl⟩
end
noncomputable def itL (m:ME):MI:=fun Γ=>(m Γ).bind fun d=>match d with
 | .list ds=>.ok ds
 | .tuple ds=>.ok ds
 | _=>.bad
noncomputable def jl (m:ME):MI:=fun Γ=>(m Γ).bind fun d=>match d with
 | .int j=>gd (-(2^62)≤j∧j < 2^62) (.ok ((cS j.toNat).map fun i=>ae.int (0+(i:Nat))))
 | _=>.bad
noncomputable def K3 (m m':ME):MI:=fun Γ=>(m Γ).bind fun d=>(m' Γ).bind fun d'=>match d,d' with
 | .int i,.int j=>gd (-(2^62)≤i∧i < 2^62 ∧ -(2^62)≤j∧j < 2^62) (.ok ((cS (j - i).toNat).map fun k=>ae.int (i+(k:Nat))))
 | _,_=>.bad
section
variable {X:Cx}{O:List Fl}{m m':ME}{e a b tg:Expr}{pos p:Pos}
noncomputable def ack (K:ag) (tl:TE):TI:=fun σ H R=>tl σ H fun x H1=>∃a,x = .ref a∧(((∃xs,SqL K H1 a xs)∧R (Itl K a) H1)∨((∃xs,SqT K H1 a xs)∧R (Itt K a) H1))
theorem M8 {l:Expr}{tl:TE} (hl:PE X l tl):PI X tg l (ack X.K tl):=by
 intro pins s σ H R I h
 refine thn (hl pins s σ H _ I h) fun v s1 aA=>?_
 obtain ⟨x,H1,I1,r1,q1⟩:=aA
 obtain ⟨a,e,q1⟩:=q1
 subst e
 cases r1
 rcases q1 with ⟨⟨xs,hq⟩,q⟩ | ⟨⟨xs,hq⟩,q⟩
 · obtain ⟨its,rv,p,hz⟩:=I1.list hq
   refine wpAny_pyIter_list p.isList ?_
   refine ⟨s1.heap.objs.size,[s1.heap.objs.size],_,_,H1,rfl,I1.kept (t':=s1.toks) fun b o e=>aI _ e,Lp a _,⟨_,df _ rfl,rfl,rfl⟩,fun b hb=>?_,q⟩
   have e:b=s1.heap.objs.size:=by simpa using hb
   subst e
   exact I1.xZ (aE _) (I1.hok.fresh (aE _))
 · obtain ⟨its,rv,p,hz⟩:=I1.tuple hq
   refine wpAny_pyIter_tuple (show s1.heap.IsTuple a its.toArray from p) ?_
   refine ⟨s1.heap.objs.size,[s1.heap.objs.size],_,_,H1,rfl,I1.kept (t':=s1.toks) fun b o e=>aI _ e,Jf a _,⟨_,df _ rfl,rfl,rfl⟩,fun b hb=>?_,q⟩
   have e:b=s1.heap.objs.size:=by simpa using hb
   subst e
   exact I1.xZ (aE _) (I1.hok.fresh (aE _))
theorem Hu {K:ag}{A B H1:Hp}{d:ae}{v:V}{R:It→Hp→Prop}{xs:List ae} (sa:aH A H1) (sb:aH B H1) (p:Pk K A B d v) (e:(match d with | .list ds=>Res.ok ds | .tuple ds=>.ok ds | _=>.bad) = .ok xs)
 (k:∀J,xX K A B J xs→R J H1):∃a,v = .ref a∧(((∃xs,SqL K H1 a xs)∧R (Itl K a) H1)∨((∃xs,SqT K H1 a xs)∧R (Itt K a) H1)):=by
 cases d with
 | list ds=>
  cases e
  obtain ⟨q,vs,rfl,h2,h1⟩:=p.aaa (H:=H1)
  exact ⟨q,rfl,.inl ⟨⟨vs,h1 H1 sa sb⟩,k _ (Uj h2 h1)⟩⟩
 | tuple ds=>
  cases e
  obtain ⟨q,vs,rfl,h2,h1⟩:=p.rY (H:=H1)
  exact ⟨q,rfl,.inr ⟨⟨vs,h1 H1 sa⟩,k _ (Wi h2 h1)⟩⟩
 | _=>cases e
theorem jX (h:QE X e (tQ X.K O m)):QI X tg e (tI X.K O (itL m)):=QI.imp (M8 h.h) fun σ H R aA=>by
 obtain ⟨A,B,Γ,xs,r,em,k⟩:=aA
 obtain ⟨d,e1,em⟩:=Res.aF em
 refine ⟨A,B,Γ,d,r,e1,fun v A1 H1 g1 p1=>Hu g1.ah (r.b.trans g1.hh) p1 em fun J hj=>k J A1 H1 g1 hj⟩
theorem uv (h:QE X e (tP X.K O m)):QI X tg e (tIc X.K O (itL m)):=QI.imp (M8 h.h) fun σ H R aA=>by
 obtain ⟨A,B,Γ,xs,r,em,k⟩:=aA
 obtain ⟨d,e1,em⟩:=Res.aF em
 refine ⟨A,B,Γ,d,r,e1,fun v A1 H1 g1 p1=>Hu g1.ah (aH.refl _) p1 em fun J hj=>k J A1 H1 g1 hj⟩
theorem jo (hg:Gl X "range") (hm:X.mg "range" = none) (ha:QE X a (tP X.K O m)) (hs:d4 [a] X.env=[(false,eval a X.env)]:=by rfl):QI X tg (.Call (.Name "range" p) [a] [] pos) (tI X.K O (jl m)):=
 QI.imp (Ak hg hm (cV ha.h fX hs) hs) fun σ H R aA=>by
  obtain ⟨A,B,Γ,xs,r,em,k⟩:=aA
  obtain ⟨d,e1,em⟩:=Res.aF em
  cases d with
  | int j=>
   obtain ⟨hc,em⟩:=cN em
   cases em
   exact ⟨A,B,Γ,_,r,e1,fun v A1 H1 g1 p1=>⟨j,by rw[p1.int],hc.1,hc.2,k _ A1 H1 g1 (xT 0 _)⟩⟩
  | _=>cases em
theorem ux (hg:Gl X "range") (hm:X.mg "range" = none) (ha:QE X a (tP X.K O m)) (hs:d4 [a] X.env=[(false,eval a X.env)]:=by rfl):QI X tg (.Call (.Name "range" p) [a] [] pos) (tIc X.K O (jl m)):=
 QI.imp (Ak hg hm (cV ha.h fX hs) hs) fun σ H R aA=>by
  obtain ⟨A,B,Γ,xs,r,em,k⟩:=aA
  obtain ⟨d,e1,em⟩:=Res.aF em
  cases d with
  | int j=>
   obtain ⟨hc,em⟩:=cN em
   cases em
   exact ⟨A,B,Γ,_,r,e1,fun v A1 H1 g1 p1=>⟨j,by rw[p1.int],hc.1,hc.2,k _ A1 H1 g1 (xT 0 _)⟩⟩
  | _=>cases em
theorem Ms (hg:Gl X "range") (hm:X.mg "range" = none) (ha:QE X a (tP X.K O m)) (hb:QE X b (tP X.K O m')) (hs:d4 [a,b] X.env=[(false,eval a X.env),(false,eval b X.env)]:=by rfl) (hs2:d4 [b] X.env=[(false,eval b X.env)]:=by rfl) :
 QI X tg (.Call (.Name "range" p) [a,b] [] pos) (tI X.K O (K3 m m')):=
 QI.imp (Lr hg hm (cV ha.h (cV hb.h fX hs2) (by rw[hs,hs2])) hs hs2) fun σ H R aA=>by
  obtain ⟨A,B,Γ,xs,r,em,k⟩:=aA
  obtain ⟨d,e1,em⟩:=Res.aF em
  obtain ⟨d',e2,em⟩:=Res.aF em
  cases d with
  | int i=>
   cases d' with
   | int j=>
    obtain ⟨hc,em⟩:=cN em
    cases em
    exact ⟨A,B,Γ,_,r,e1,fun v A1 H1 g1 p1=>⟨A1,B,Γ,_,r.grow g1,e2,fun v' A2 H2 g2 p2=>⟨i,j,by rw[p1.int,p2.int],hc,k _ A2 H2 (g1.trans g2) (xT i _)⟩⟩⟩
   | _=>cases em
  | _=>cases em
variable {elts:List Expr}{tpos:Pos}
end
noncomputable abbrev MG:=ae→Ev→Res Ev
noncomputable def gN (i:Nat):MG:=fun d Γ=>gd (i < Γ.length) (.ok (Γ.set i (some d)))
noncomputable def gTs:List MG→List ae→Ev→Res Ev
 | [],[],Γ=>.ok Γ
 | g::gs,d::ds,Γ=>(g d Γ).bind fun Γ'=>gTs gs ds Γ'
 | _,_,_=>.bad
noncomputable def gT (gs:List MG):MG:=fun d Γ=>match d with
 | .tuple ds=>gTs gs ds Γ
 | _=>.bad
noncomputable def oV (is:List Nat) (σ σ':L2.St):Prop:=σ'.length=σ.length∧∀j,j∉is→σ'[j]?=σ[j]?
theorem oV.trans {is js:List Nat}{σ σ' σ'':L2.St} (h:oV is σ σ') (h':oV js σ' σ''):oV (is++js) σ σ'':=
 ⟨h'.1.trans h.1,fun j hj=>(h'.2 j fun z=>hj (cK _ z)).trans (h.2 j fun z=>hj (fA _ z))⟩
noncomputable def tG (K:ag) (O O':List Fl) (is:List Nat) (g:MG):TG:=fun v σ H Q=>∃A B Γ d Γ',aV K A B H O σ Γ∧Rp K A d v∧g d Γ = .ok Γ'∧∀σ',aV K A B H O' σ' Γ'→oV is σ σ'→Q σ' H
noncomputable def tGs (K:ag) (O O':List Fl) (is:List Nat) (gs:List MG):TGs:=fun vs σ H Q=>∃A B Γ ds Γ',aV K A B H O σ Γ∧aB K A ds vs∧gTs gs ds Γ = .ok Γ'∧∀σ',aV K A B H O' σ' Γ'→oV is σ σ'→Q σ' H
theorem PG.imp {X:Cx}{tg:Expr}{t t':TG} (h:PG X tg t) (i:∀v σ H Q,t' v σ H Q→t v σ H Q):PG X tg t':=fun pins s σ H v u Q I r q=>h pins s σ H v u Q I r (i v σ H Q q)
theorem PGs.imp {X:Cx}{tg:List Expr}{t t':TGs} (h:PGs X tg t) (i:∀v σ H Q,t' v σ H Q→t v σ H Q):PGs X tg t':=fun pins s σ H v u Q I r q=>h pins s σ H v u Q I r (i v σ H Q q)
theorem QG.imp {X:Cx}{tg:Expr}{t t':TG} (h:PG X tg t) (i:∀v σ H Q,t' v σ H Q→t v σ H Q):QG X tg t':=⟨PG.imp h i⟩
theorem QGs.imp {X:Cx}{tg:List Expr}{t t':TGs} (h:PGs X tg t) (i:∀v σ H Q,t' v σ H Q→t v σ H Q):QGs X tg t':=⟨PGs.imp h i⟩
theorem yE:∀{gs:List MG}{ds:List ae}{Γ Γ':Ev},gTs gs ds Γ = .ok Γ'→ds.length=gs.length
 | [],[],_,_,_=>rfl
 | g::gs,d::ds,Γ,Γ',h=>by
  obtain ⟨Γ1,_,h⟩:=Res.aF h
  rw[bX,bX,yE h]
section
variable {X:Cx}{O O1 O2 O':List Fl}{is js:List Nat}{g:MG}{gs:List MG}{e:Expr}{es:List Expr}{pos:Pos}
theorem bZ (i:Nat) {O2:List Fl}{x:Str} (hN:X.N.Nodup) (hi:X.N[i]?=some x) (hx:Loc X.env.scope x) (hl:i < O.length:=by exact of_decide_eq_true rfl) (hf:X.fn x=true∨X.env.scope.names.lookup x=some .local:=by first | exact .inl rfl | exact .inr rfl | assumption) (hO:O.set i .imm=O2:=by rfl) :
 QG X (.Name x pos) (tG X.K O O2 [i] (gN i)):=hO ▸ QG.imp (U9 hN hi hx hf) fun v σ H Q aA=>by
 obtain ⟨A,B,Γ,d,Γ',r,p,em,k⟩:=aA
 obtain ⟨hi,em⟩:=cN em
 cases em
 exact k _ (r.set hi hl p) ⟨fI ..,fun j hj=>nk (fun z=>hj (by rw[z];exact b5))⟩
theorem V7:QGs X [] (tGs X.K O O [] []):=QGs.imp Ug fun vs σ H Q aA=>by
 obtain ⟨A,B,Γ,ds,Γ',r,p,em,k⟩:=aA
 cases ds with
 | nil=>cases em;exact ⟨aB.nil.mp p,k σ r ⟨rfl,fun _ _=>rfl⟩⟩
 | cons d ds=>cases em
theorem Fw (h1:QG X e (tG X.K O O1 is g)) (h2:QGs X es (tGs X.K O1 O2 js gs)) (hs:(nX (e::es) X.env).map (·.2)=AG e X.env::(nX es X.env).map (·.2):=by rfl):QGs X (e::es) (tGs X.K O O2 (is++js) (g::gs)):=by
 refine QGs.imp (Ph h1.h h2.h ?_) fun vs σ H Q ⟨A,B,Γ,ds,Γ',r,p,em,k⟩=>?_
 · exact hs
 · cases ds with
   | nil=>cases em
   | cons d ds=>
    obtain ⟨Γ1,e1,em⟩:=Res.aF em
    obtain ⟨v,r',rfl,p1,p2⟩:=aB.cons.mp p
    exact ⟨v,r',rfl,A,B,Γ,d,Γ1,r,p1,e1,fun σ' r2 y=>⟨A,B,Γ1,ds,Γ',r2,p2,em,fun σ2 r3 y2=>k σ2 r3 (y.trans y2)⟩⟩
theorem Wk {k:Nat}{n:Nat} (hc:X.calm=true) (h:QGs X es (tGs X.K O O' is gs)) (hgs:gs.length=n:=by rfl)
 (hn:(nX es X.env).length=n:=by rfl) (hst:(nX es X.env).findIdx? (·.1)=none:=by rfl):QG X (.Tuple es k pos) (tG X.K O O' is (gT gs)):=QG.imp (Ym hc h.h hn hst) fun v σ H Q aA=>by
 obtain ⟨A,B,Γ,d,Γ',r,p,em,k⟩:=aA
 cases d with
 | tuple ds=>
  have p':=Rp.tuple.mp p
  obtain ⟨a,vs,rfl,h1,h2⟩:=p'
  exact ⟨a,vs,rfl,r.a.rY h1,by rw[← h2.length,← hgs];exact yE em,A,B,Γ,ds,Γ',r,h2,em,k⟩
 | _=>cases em
end
noncomputable def RJ (g:MG) (m:ME):MS:=fun Γ=>(m Γ).bind fun d=>(g d Γ).bind fun Γ'=>.ok (.nx Γ')
section
variable {X:Cx}{rm:Rm}{Ol O O':List Fl}{is:List Nat}{g:MG}{m:ME}{tg e:Expr}{pos:Pos}
theorem Wa (he:QE X e (tE X.K O m)) (hg:QG X tg (tG X.K O O' is g)) (hs:swapsWithSole [tg] e pos.line X.env=pure false:=by rfl) (hw:swappedStores [tg] e X.env=pure none:=by rfl) (h1:(nX [tg] X.env).map (·.2)=[AG tg X.env]:=by rfl):QS X (.Assign [tg] e pos) (tS X.K rm Ol O O' (RJ g m)):=by
 refine QS.imp (YH he.h hg.h hs hw h1) fun D σ H aA=>?_
 obtain ⟨A,B,Γ,o,r,em,k⟩:=aA
 obtain ⟨d,e1,em⟩:=Res.aF em
 obtain ⟨Γ',e2,em⟩:=Res.aF em
 cases em
 exact ⟨A,B,Γ,d,r,e1,fun v A' H' g p=>⟨A',B,Γ,d,Γ',r.grow g,p,e2,fun σ' r' _=>k σ' A' H' r' g.aa (g.nB r.b)⟩⟩
end
noncomputable def wj (O Oe:List Fl) (cl:List Nat):Bool:=Oe.length == O.length&&(cS O.length).all fun j=>decide (fl Oe j=fl O j)||cl.contains j
theorem Pr {O Oe:List Fl}{cl:List Nat} (h:wj O Oe cl=true) (j:Nat):fl Oe j=fl O j∨j∈cl:=by
 unfold wj at h
 rw[cc,kC] at h
 rcases lI j O.length with hj | hj
 · have:=h.2 j (d5.mpr hj)
   rw[kn] at this
   rcases this with z | z
   · exact .inl (of_decide_eq_true z)
   · exact .inr (by simpa using z)
 · left
   unfold fl
   rw[ax,ax,fv hj,fv (by rw[show Oe.length=O.length by simpa using h.1];exact hj)]
theorem Eb:∀(l:List Nat) (Γ:Ev) (j:Nat),j∈l→gv (clr l Γ) j=none
 | i::l,Γ,j,h=>by
  by_cases hj:j∈l
  · exact Eb l (Γ.set i none) j hj
  · have e:j=i:=by
     rcases be.mp h with z | z
     · exact z
     · exact absurd z hj
    subst e
    rcases (zc l (Γ.set j none)).2 j with z | z
    · exact z
    · show gv (clr l (Γ.set j none)) j=none
      rw[z]
      unfold gv
      rw[ax]
      by_cases hi:j < Γ.length
      · rw[hU hi];rfl
      · rw[fv (by rw[fI];omega)];rfl
theorem aV.lM {K:ag}{A B H:Hp}{O Oe:List Fl}{σ:L2.St}{Γ:Ev}{cl:List Nat} (hE:wj O Oe cl=true) (r:aV K A B H Oe σ Γ):aV K A B H O σ (L3.clr cl Γ):=by
 have r':=r.clr cl
 have hf:∀j,gv (L3.clr cl Γ) j≠none→fl O j=fl Oe j:=fun j n=>by
  rcases Pr hE j with z | z
  · exact z.symm
  · exact absurd (Eb cl Γ j z) n
 refine ⟨r'.a,r'.b,r'.len,fun j d e=>?_,fun i j hij h1 h2 h3 h4=>r'.sep i j hij (by rw[← hf i h3];exact h1) (by rw[← hf j h4];exact h2) h3 h4⟩
 have:=r'.slot j d e
 rw[hf j (by rw[e];simp)]
 exact this
noncomputable def forR (g:MG) (cl:List Nat) (b:MS):List ae→Ev→Res Out
 | [],Γ=>.ok (.nx Γ)
 | x::xs,Γ=>(g x Γ).bind fun Γ1=>(b Γ1).bind fun o=>match o with
  | .nx Γ2=>forR g cl b xs (clr cl Γ2)
  | .ct Γ2=>forR g cl b xs (clr cl Γ2)
  | .bk Γ2=>.ok (.nx (clr cl Γ2))
  | .rt d=>.ok (.rt d)
noncomputable def gF (it:MI) (g:MG) (cl:List Nat) (b:MS):MS:=fun Γ=>(it Γ).bind fun xs=>forR g cl b xs Γ
section
variable {X:Cx}{rm:Rm}{Ol O:List Fl}{is:List Nat}{g:MG}{it:MI}{cl:List Nat}{mb:MS}{tg iter:Expr}{body:List Stmt}{pos:Pos}
theorem fC (hp:BD (bt X.prog X.w) X.A X.env X.xe) (hc:X.calm=true) (cl:List Nat) {Oe:List Fl} (hi:QI X tg iter (tI X.K O it)) (hg:QG X tg (tG X.K O O is g)) (hb:QSs X body (tS X.K rm Oe O Oe mb)) (hE:wj O Oe cl=true)
 (hs:∀x,nr iter X.env x=pure x:=by intro _;rfl):QS X (.For tg iter body [] pos) (tS X.K rm Ol O O (gF it g cl mb)):=by
 refine QS.imp (Xn hp hc hi.h hg.h hb.h hs) fun D σ H aA=>?_
 obtain ⟨A,B,Γ,o,r,em,k⟩:=aA
 obtain ⟨xs,e1,em⟩:=Res.aF em
 refine ⟨A,B,Γ,xs,r,e1,fun J A1 H1 g1 hj=>?_⟩
 refine ⟨fun i n σ' H'=>n=xs.length - i∧i≤xs.length∧∃A2 Γ2,aV X.K A2 B H' O σ' Γ2∧aH A A2∧New A A2 B∧aH A1 A2∧forR g cl mb (xs.drop i) Γ2 = .ok o,⟨xs.length,rfl,iE _,A1,Γ,r.grow g1,g1.aa,g1.nB r.b,aH.refl _,em⟩,?_⟩
 rintro i n σ' H' ⟨rfl,hi.h,A2,Γ2,r2,sa,nw,s12,e2⟩
 by_cases hlt:i < xs.length
 · refine .inr ⟨hj.go i H' (s12.trans r2.a) r2.b hlt,fun σ'' H''=>i+1≤xs.length∧∃A3 Γ3,aV X.K A3 B H'' O σ'' Γ3∧aH A A3∧New A A3 B∧aH A1 A3∧forR g cl mb (xs.drop (i+1)) Γ3 = .ok o,?_,fun x H3 y=>?_⟩
   · rintro σ'' H'' ⟨h1,A3,Γ3,h2⟩
     exact ⟨xs.length - (i+1),by omega,rfl,h1,A3,Γ3,h2⟩
   · obtain ⟨A3,d,ed,g3,p3⟩:=hj.yld i A2 H' x H3 s12 r2.a r2.b hlt y
     have hd:xs.drop i=d::xs.drop (i+1):=by
      rw[kq hlt]
      rw[aS hlt] at ed
      cases ed
      rfl
     rw[hd] at e2
     obtain ⟨Γ3,e3,e2⟩:=Res.aF e2
     obtain ⟨o3,e4,e2⟩:=Res.aF e2
     have sa3:=sa.trans g3.aa
     have nw3:New A A3 B:=nw.trans (g3.nB r2.b)
     refine ⟨A3,B,Γ2,d,Γ3,r2.grow g3,p3,e3,fun σ4 r4 _=>⟨A3,B,Γ3,o3,r4,e4,?_⟩⟩
     have sb:∀{D':Ends},wy X.K rm Ol O A B D' o→wy X.K rm Ol O A3 B D' o:=fun h=>h.sub sa3 nw3
     cases o3 with
     | nx Γ4=>exact fun σ5 A5 H5 r5 s5 n5=>⟨hlt,A5,clr cl Γ4,r5.lM hE,sa3.trans s5,nw3.trans n5,s12.trans (g3.aa.trans s5),e2⟩
     | ct Γ4=>exact fun σ5 A5 H5 r5 s5 n5=>⟨hlt,A5,clr cl Γ4,r5.lM hE,sa3.trans s5,nw3.trans n5,s12.trans (g3.aa.trans s5),e2⟩
     | bk Γ4=>
      cases e2
      exact fun σ5 A5 H5 r5 s5 n5=>k σ5 A5 H5 (r5.lM hE) (sa3.trans s5) (nw3.trans n5)
     | rt d'=>
      cases e2
      exact fun v A5 H5 q1 q2 s5 n5 rv=>k v A5 H5 q1 q2 (sa3.trans s5) (nw3.trans n5) rv
 · have e:i=xs.length:=by omega
   subst e
   rw[Ap] at e2
   cases e2
   exact .inl ⟨hj.stop H' (s12.trans r2.a) r2.b,k σ' A2 H' r2 sa nw⟩
end
noncomputable def whR (c:ME) (cl:List Nat) (b:MS):Nat→Ev→Res Out
 | 0,_=>.bad
 | n+1,Γ=>(c Γ).bind fun x=>match x with
  | .bool true=>(b Γ).bind fun o=>match o with
   | .nx Γ2=>whR c cl b n (clr cl Γ2)
   | .ct Γ2=>whR c cl b n (clr cl Γ2)
   | .bk Γ2=>.ok (.nx (clr cl Γ2))
   | .rt d=>.ok (.rt d)
  | .bool false=>.ok (.nx Γ)
  | _=>.bad
noncomputable def nj (fuel:Nat) (c:ME) (cl:List Nat) (b:MS):MS:=fun Γ=>whR c cl b fuel Γ
section
variable {X:Cx}{rm:Rm}{Ol O:List Fl}{cl:List Nat}{c:Expr}{mc:ME}{mb:MS}{body:List Stmt}{pos:Pos}
theorem FZ (hp:BD (bt X.prog X.w) X.A X.env X.xe) (fuel:Nat) (cl:List Nat) {Oe:List Fl} (hc:QT X c (tT X.K O mc)) (hb:QSs X body (tS X.K rm Oe O Oe mb)) (hE:wj O Oe cl=true):QS X (.While c body [] pos) (tS X.K rm Ol O O (nj fuel mc cl mb)):=by
 refine QS.imp (Fz hp hc.h hb.h) fun D σ H aA=>?_
 obtain ⟨A,B,Γ,o,r,em,k⟩:=aA
 refine ⟨fun n σ' H'=>∃A2 Γ2,aV X.K A2 B H' O σ' Γ2∧aH A A2∧New A A2 B∧whR mc cl mb n Γ2 = .ok o,⟨fuel,A,Γ,r,aH.refl _,fun _ h _=>h,em⟩,?_⟩
 rintro n σ' H' ⟨A2,Γ2,r2,sa,nw,e2⟩
 cases n with
 | zero=>cases e2
 | succ n=>
  obtain ⟨x,e3,e2⟩:=Res.aF e2
  cases x with
  | bool bb=>
   refine ⟨A2,B,Γ2,bb,r2,e3,fun A3 H3 g3=>?_⟩
   have sa3:=sa.trans g3.aa
   have nw3:New A A3 B:=nw.trans (g3.nB r2.b)
   cases bb with
   | false=>
    cases e2
    exact wZ (k σ' A3 H3 (r2.grow g3) sa3 nw3)
   | true=>
    obtain ⟨o3,e4,e2⟩:=Res.aF e2
    refine uL ⟨fun σ'' H''=>∃A2 Γ2,aV X.K A2 B H'' O σ'' Γ2∧aH A A2∧New A A2 B∧whR mc cl mb n Γ2 = .ok o,fun σ'' H'' h=>⟨n,mo _,h⟩,A3,B,Γ2,o3,r2.grow g3,e4,?_⟩
    cases o3 with
    | nx Γ4=>exact fun σ5 A5 H5 r5 s5 n5=>⟨A5,clr cl Γ4,r5.lM hE,sa3.trans s5,nw3.trans n5,e2⟩
    | ct Γ4=>exact fun σ5 A5 H5 r5 s5 n5=>⟨A5,clr cl Γ4,r5.lM hE,sa3.trans s5,nw3.trans n5,e2⟩
    | bk Γ4=>cases e2;exact fun σ5 A5 H5 r5 s5 n5=>k σ5 A5 H5 (r5.lM hE) (sa3.trans s5) (nw3.trans n5)
    | rt d'=>cases e2;exact fun v A5 H5 q1 q2 s5 n5 rv=>k v A5 H5 q1 q2 (sa3.trans s5) (nw3.trans n5) rv
  | _=>cases e2
end
noncomputable def oK (g:MG) (c:ME) (e:ME) (Γ:Ev):List ae→Res (List ae)
 | []=>.ok []
 | x::xs=>(g x Γ).bind fun Γ1=>(c Γ1).bind fun t=>match t with
  | .bool true=>(e Γ1).bind fun d=>(oK g c e Γ xs).bind fun ds=>.ok (d::ds)
  | .bool false=>oK g c e Γ xs
  | _=>.bad
noncomputable def iZ (nt:Nat) (ix:List Nat) (Γ:Ev):Ev:=b9 nt none++ix.map (gv Γ)
noncomputable def bfl:Fl→Fl
 | .own=>.bor
 | .fix _=>.bor
 | .nst _=>.nst false
 | f=>f
noncomputable def lB (nt:Nat) (ix:List Nat) (O:List Fl):List Fl:=b9 nt .imm++ix.map fun i=>bfl (fl O i)
noncomputable def fY (it:MI) (g:MG) (c e:ME) (nt:Nat) (ix:List Nat):ME:=fun Γ=>(it Γ).bind fun xs=>gd (xs.length < bp) ((oK g c e (iZ nt ix Γ) xs).bind fun ds=>.ok (.list ds))
section
variable {K:ag}{A B H:Hp}{O:List Fl}{σ:L2.St}{Γ:Ev}
theorem VM {σ:L2.St}{i:Nat}:(σ[i]?).join=sv σ i:=by
 unfold sv
 rw[ax]
 cases σ[i]? with
 | none=>rfl
 | some o=>rfl
theorem qy {α:Type}{os:List α}{ix:List Nat}{f:Nat→α}{d:α} (j:Nat):(os++ix.map f).getD j d=if j < os.length then os.getD j d else match ix[j - os.length]? with | some i=>f i | none=>d:=by
 rw[ax]
 split
 · rename_i h
   rw[eP h,ax]
 · rename_i h
   rw[d6 (by omega),cn]
   cases ix[j - os.length]? <;> rfl
theorem aV.block (r:aV K A B H O σ Γ) {os:List (Option V)}{nt:Nat} (ho:os.length=nt) (ix:List Nat):aV K A H H (lB nt ix O) (os++ix.map fun i=>(σ[i]?).join) (iZ nt ix Γ):=by
 have fN:∀j,isO (fl (lB nt ix O) j)=false:=fun j=>by
  unfold fl lB
  rw[qy,cq]
  split
  · rw[ax,iq]
    split <;> rfl
  · cases ix[j - nt]? with
    | none=>rfl
    | some i=>simp only;unfold bfl;cases fl O i <;> rfl
 refine ⟨r.a,aH.refl _,?_,fun j d e=>?_,fun i j _ h1 _ _ _=>absurd (h1.symm.trans (fN i)) Bool.noConfusion⟩
 · unfold iZ
   rw[ay,ay,cq,aw,aw,ho]
 · unfold gv iZ at e
   rw[qy,cq] at e
   split at e
   · rw[ax,iq] at e
     split at e <;> cases e
   · rename_i hj
     cases q:ix[j - nt]? with
     | none=>rw[q] at e;cases e
     | some i=>
      rw[q] at e
      obtain ⟨v,e1,sl⟩:=r.slot i d e
      refine ⟨v,?_,?_⟩
      · unfold sv
        rw[qy,if_neg (by omega),ho,q]
        show (σ[i]?).join=some v
        rw[VM];exact e1
      · have ef:fl (lB nt ix O) j=bfl (fl O i):=by
         unfold fl lB
         rw[qy,cq,if_neg hj,q]
        rw[ef]
        cases hf:fl O i with
        | imm=>rw[hf] at sl;exact sl
        | bor=>rw[hf] at sl;exact Pk.mono (aH.refl _) r.b sl
        | own=>rw[hf] at sl;exact Own.pk sl
        | fix p0=>rw[hf] at sl;exact Own.pk sl.2
        | exc C=>rw[hf] at sl;exact sl
        | nst b=>exact fun z=>nomatch z
end
theorem pX.imp {X:Cx}{ifs:List Expr}{t t':TT} (h:pX X ifs t) (i:∀σ H Q,t' σ H Q→t σ H Q):pX X ifs t':=fun pins s σ H Q I q=>h pins s σ H Q I (i σ H Q q)
theorem xu.imp {X:Cx}{ifs:List Expr}{t t':TT} (h:pX X ifs t) (i:∀σ H Q,t' σ H Q→t σ H Q):xu X ifs t':=⟨pX.imp h i⟩
theorem mF {X:Cx}{O:List Fl}:xu X [] (tT X.K O (eC (.bool true))):=xu.imp Qq fun σ H Q aA=>by
 obtain ⟨A,B,Γ,b,r,em,k⟩:=aA
 cases em;exact k A H (aP.refl r.a)
theorem wV {X:Cx}{O:List Fl}{c:Expr}{m:ME} (h:QT X c (tT X.K O m)):xu X [c] (tT X.K O m):=⟨SQ h.h⟩
section
variable {K:ag}{O Ob:List Fl}{tn:List Str}{ix:List Nat}{it:MI}{g:MG}{mc me:ME}
theorem DK (hOb:Ob=lB tn.length ix O) {nt:Nat} (hnt:nt=tn.length) {O1:List Fl}{is:List Nat} (his:∀j∈is,j < tn.length) {σ:L2.St}{H:Hp}{Q:VK} (h:tF K O (fY it g mc me nt ix) σ H Q):Dd tn ix (tIc K O it) (tG K Ob O1 is g) (tT K O1 mc) (tE K O1 me) σ H Q:=by
 subst hOb hnt
 obtain ⟨A,B,Γ,d,r,em,k⟩:=h
 obtain ⟨xs,e1,em⟩:=Res.aF em
 obtain ⟨hz,em⟩:=cN em
 obtain ⟨ds,e2,em⟩:=Res.aF em
 cases em
 refine ⟨A,B,Γ,xs,r,e1,fun J A1 H1 g1 hj D hD=>?_⟩
 have r1:=r.grow g1
 have hAD:A1 D=none:=g1.ah.free hD
 refine ⟨fun i n σb acc H2=>n=xs.length - i∧i≤xs.length∧acc.length≤i∧(∃os:List (Option V),os.length=tn.length∧σb=os++ix.map fun i=>(σ[i]?).join)∧∃A2,aH A1 A2∧New A1 A2 H1∧aH A2 H2∧aH H1 H2∧A2 D=none∧H2 D=some (.lst acc) ∧
  ∃ds1 ds2,ds=ds1++ds2∧aB K A2 ds1 acc∧oK g mc me (iZ tn.length ix Γ) (xs.drop i) = .ok ds2,⟨xs.length,rfl,iE _,iE _,⟨_,cq,rfl⟩,A1,aH.refl _,fun _ h _=>h,g1.ah.trans (aH.new hD _),aH.new hD _,hAD,bK,[],ds,rfl,aB.nil.mpr rfl,e2⟩,?_⟩
 rintro i n σb acc H2 ⟨rfl,hi,hacc,⟨os,ho,rfl⟩,A2,sa,nw,s2,sh,a2,hD2,ds1,ds2,rfl,rp,e3⟩
 refine ⟨hD2,?_⟩
 by_cases hlt:i < xs.length
 · refine .inr ⟨hj.go i H2 (sa.trans s2) sh hlt,by omega,fun x H3 y=>?_⟩
   obtain ⟨A3,dx,ed,g3,p3⟩:=hj.yld i A2 H2 x H3 sa s2 sh hlt y
   have hd:xs.drop i=dx::xs.drop (i+1):=by
    rw[kq hlt]
    rw[aS hlt] at ed
    cases ed
    rfl
   rw[hd] at e3
   obtain ⟨Γ1,e4,e3⟩:=Res.aF e3
   obtain ⟨t,e5,e3⟩:=Res.aF e3
   have rb:aV K A3 H3 H3 (lB tn.length ix O) (os++ix.map fun i=>(σ[i]?).join) (iZ tn.length ix Γ):=by
    have rr:aV K A3 B H3 O σ Γ:=by
     refine ⟨g3.ah,r1.b.trans (sh.trans g3.hh),r1.len,fun j=>?_,r1.sep⟩
     intro d' e'
     obtain ⟨v',e'',q⟩:=r1.slot j d' e'
     refine ⟨v',e'',?_⟩
     cases hf:fl O j with
     | imm=>rw[hf] at q;exact Rp.mono (sa.trans g3.aa) d' q
     | bor=>rw[hf] at q;exact Pk.mono (sa.trans g3.aa) (aH.refl _) q
     | own=>
      rw[hf] at q
      obtain ⟨p',o',rfl,u1,u2,u3,u4⟩:=q
      have n1:A2 p'=none:=nw p' u2 (by rw[u1];simp)
      exact ⟨p',o',rfl,g3.hh _ _ (sh _ _ u1),g3.nw p' n1 (by rw[sh _ _ u1];simp),u3,u4.mono (sa.trans g3.aa)⟩
     | fix p0=>
      rw[hf] at q
      obtain ⟨q0,p',o',rfl,u1,u2,u3,u4⟩:=q
      have n1:A2 p'=none:=nw p' u2 (by rw[u1];simp)
      exact ⟨q0,p',o',rfl,g3.hh _ _ (sh _ _ u1),g3.nw p' n1 (by rw[sh _ _ u1];simp),u3,u4.mono (sa.trans g3.aa)⟩
     | exc C=>
      rw[hf] at q
      obtain ⟨p',ob,w1,w2,w3⟩:=q
      exact ⟨p',ob,w1,(sa.trans g3.aa) _ _ w2,w3⟩
     | nst b=>
      rw[hf] at q
      intro z
      obtain ⟨p',xs,kvs,w1,w2,w3,w4,w5,w6⟩:=q z
      have n1:A2 p'=none:=nw p' w4 (by rw[w3];simp)
      exact ⟨p',xs,kvs,w1,w2,g3.hh _ _ (sh _ _ w3),g3.nw p' n1 (by rw[sh _ _ w3];simp),w5,w6.mono (sa.trans g3.aa)⟩
    exact rr.block ho ix
   refine ⟨A3,H3,_,dx,Γ1,rb,p3,e4,fun σ4 r4 y4=>?_⟩
   have hos:∃os':List (Option V),os'.length=tn.length∧σ4=os'++ix.map fun i=>(σ[i]?).join:=by
    have hl4:σ4.length=tn.length+ix.length:=by rw[y4.1,ay,aw,ho]
    refine ⟨σ4.take tn.length,by rw[eA];omega,yb fun j=>?_⟩
    rcases lI j tn.length with hj | hj
    · rw[eP (by rw[eA];omega),ri hj]
    · rw[y4.2 j (fun z=>absurd (his j z) (by omega)),d6 (by omega),d6 (by rw[eA];omega),eA,ho]
      congr 1
      omega
   cases t with
   | bool bb=>
    refine ⟨A3,H3,Γ1,bb,r4,e5,fun A4 H4 g4=>?_⟩
    have nw4:New A1 A4 H1:=nw.trans ((g3.trans g4).nw.mono sh)
    have hD4:H4 D=some (.lst acc):=g4.hh _ _ (g3.hh _ _ hD2)
    have a4:A4 D=none:=(g3.trans g4).nw D a2 (by rw[hD2];simp)
    cases bb with
    | false=>
     refine wZ ⟨xs.length - (i+1),by omega,rfl,hlt,by omega,hos,A4,sa.trans (g3.trans g4).aa,nw4,g4.ah,sh.trans (g3.trans g4).hh,a4,hD4,ds1,ds2,rfl,aB.mono (g3.trans g4).aa _ rp,e3⟩
    | true=>
     obtain ⟨dv,e6,e3⟩:=Res.aF e3
     obtain ⟨ds3,e7,e3⟩:=Res.aF e3
     cases e3
     refine uL ⟨A4,H3,Γ1,dv,r4.grow g4,e6,fun v A5 H5 g5 p5=>?_⟩
     have gg:=(g3.trans g4).trans g5
     have hD5:H5 D=some (.lst acc):=g5.hh _ _ hD4
     have a5:A5 D=none:=gg.nw D a2 (by rw[hD2];simp)
     refine ⟨hD5,xs.length - (i+1),by omega,rfl,hlt,by rw[ay,iN];omega,hos,A5,sa.trans gg.aa,nw.trans (gg.nw.mono sh),fun b u q=>?_,?_,a5,bK,ds1++[dv],ds3,by rw[eB];rfl,(aB.mono gg.aa _ rp).append (aB.one p5),e7⟩
     · have hb:b≠D:=fun z=>by rw[z,a5] at q;cases q
       rw[bu hb];exact g5.ah b u q
     · exact (sh.trans gg.hh).up hD
   | _=>cases e3
 · have e:i=xs.length:=by omega
   subst e
   rw[Ap] at e3
   cases e3
   rw[fq] at k
   refine .inl ⟨hj.stop H2 (sa.trans s2) sh,k _ A2 H2 ⟨g1.aa.trans sa,g1.hh.trans sh,s2,fun p n1 n2=>nw p (g1.nw p n1 n2) (aH.ne g1.hh n2)⟩ ⟨D,_,rfl,g1.hh.free hD,hD2,a2,.inl ⟨ds1,acc,rfl,rfl,rp⟩⟩⟩
end
section
variable {X:Cx}{O Ob O1:List Fl}{scope:si}{tn:List Str}{ix is:List Nat}{it:MI}{g:MG}{mc me:ME}{elt tg iter:Expr}{ifs:List Expr}{pos:Pos}{nt:Nat}
theorem qT (tn:List Str) (ix:List Nat) (S:iw X scope ix=true) (hc:X.calm=true) (hOb:Ob=lB tn.length ix O) (hnt:nt=tn.length) (his:∀j∈is,j < tn.length) (hi:QI X tg iter (tIc X.K O it))
 (hg:∀cl C s₂ H₂ fp,QG (X.comp scope tn ix cl C s₂ H₂ fp) tg (tG X.K Ob O1 is g)) (ht:∀cl C s₂ H₂ fp,xu (X.comp scope tn ix cl C s₂ H₂ fp) ifs (tT X.K O1 mc)) (he:∀cl C s₂ H₂ fp,QE (X.comp scope tn ix cl C s₂ H₂ fp) elt (tE X.K O1 me))
 (hs:∀x,nr iter X.env x=pure x:=by intro _;rfl):QE X (.ListComp elt [⟨tg,iter,ifs,0⟩] scope pos) (tF X.K O (fY it g mc me nt ix)):=
 QE.imp (Ud S hc hi.h (fun cl C s₂ H₂ fp=>(hg cl C s₂ H₂ fp).h) (fun cl C s₂ H₂ fp=>(ht cl C s₂ H₂ fp).h) (fun cl C s₂ H₂ fp=>(he cl C s₂ H₂ fp).h) hs) fun σ H Q h=>DK hOb hnt his h
theorem vZ (i:Nat) {O2:List Fl} (tn:List Str) (ix:List Nat) {rm:Rm}{Ol:List Fl}{y:Str}{py spos:Pos} (hN:X.N.Nodup) (hiN:X.N[i]?=some y) (hy:Loc X.env.scope y) (S:iw X scope ix=true) (hc:X.calm=true) (hOb:Ob=lB tn.length ix O) (hnt:nt=tn.length) (his:∀j∈is,j < tn.length) (hi:QI X tg iter (tIc X.K O it))
 (hg:∀cl C s₂ H₂ fp,QG (X.comp scope tn ix cl C s₂ H₂ fp) tg (tG X.K Ob O1 is g)) (ht:∀cl C s₂ H₂ fp,xu (X.comp scope tn ix cl C s₂ H₂ fp) ifs (tT X.K O1 mc)) (he:∀cl C s₂ H₂ fp,QE (X.comp scope tn ix cl C s₂ H₂ fp) elt (tE X.K O1 me))
 (hl:i < O.length:=by exact of_decide_eq_true rfl) (hsw:j3 (.ListComp elt [⟨tg,iter,ifs,0⟩] scope pos) (some (.Name y py)) spos.line X.env=pure true:=by rfl)
 (hf:X.fn y=true∨X.env.scope.names.lookup y=some .local:=by first | exact .inl rfl | exact .inr rfl | assumption)
 (hs:∀x,nr iter X.env x=pure x:=by intro _;rfl) (hO:O.set i .own=O2:=by rfl):QS X (.Assign [.Name y py] (.ListComp elt [⟨tg,iter,ifs,0⟩] scope pos) spos) (tS X.K rm Ol O O2 (aW i (fY it g mc me nt ix))):=
 hO ▸ QS.imp (Uv hN hiN hy S hc hi.h (fun cl C s₂ H₂ fp=>(hg cl C s₂ H₂ fp).h) (fun cl C s₂ H₂ fp=>(ht cl C s₂ H₂ fp).h) (fun cl C s₂ H₂ fp=>(he cl C s₂ H₂ fp).h) hsw hf hs) fun D σ H=>Ar (fun σ H Q h=>DK hOb hnt his h) hl
end
noncomputable def um (i:Nat) (m:ME):MS:=fun Γ=>(m Γ).bind fun d=>match gv Γ i with
 | some (.list ds)=>gd (ds.length < bp∧i < Γ.length) (.ok (.nx (Γ.set i (some (.list (ds++[d]))))))
 | _=>.bad
noncomputable def JT (i:Nat) (m:ME):MS:=fun Γ=>(m Γ).bind fun d=>match gv Γ i,d with
 | some (.list ds),.list es=>gd (ds.length+es.length≤bp∧i < Γ.length) (.ok (.nx (Γ.set i (some (.list (ds++es))))))
 | _,_=>.bad
section
variable {X:Cx}{rm:Rm}{Ol O:List Fl}{m m':ME}{e a b:Expr}{pos p apos cpos:Pos}
theorem sV {K:ag}{A B H:Hp}{σ:L2.St}{Γ:Ev}{i:Nat}{ds:List ae} (r:aV K A B H O σ Γ) (hi:isO (fl O i)=true) (he:gv Γ i=some (.list ds)):∃q vs,sv σ i=some (.ref q)∧H q=some (.lst vs)∧aB K A ds vs:=by
 obtain ⟨d,q,o,e1,e2,h1,h2,h3,⟨ds',vs,rfl,rfl,h4⟩ | ⟨kvs,u,rfl,rfl,h4⟩⟩:=r.uQ hi (by rw[he];simp)
 rotate_right
 · rw[he] at e1;cases e1
 rw[he] at e1
 cases e1
 exact ⟨q,vs,e2,h1,h4⟩
theorem Gq (i:Nat) {x:Str} (he:QE X e (tE X.K O m)) (hi:isO (fl O i)=true:=by rfl) (hN:X.N[i]?=some x:=by rfl) (hv:Vis X.env.scope x:=by first | exact cb rfl | exact g9 (cb rfl) | exact g9 (g9 rfl)) (hd:(x == ("__debug__" : Str))=false:=by decide)
 (hcd:(x == ("__classdict__" : Str))=false:=by decide) (hbase:uS (.Name x p) "append" X.env (eval (.Name x p) X.env)=eval (.Name x p) X.env:=by rfl)
 (hfew:((oC cpos (d4 (e::[]) X.env)).all (fun x=>!x.1)&&(backToKw cpos (x9 [] X.env)).all (fun x=>x.1.isSome)
  && decide ((e::[]).length+([]:List uu).length+(if ([]:List uu).isEmpty then 0 else 1) < 30))=true:=by rfl)
 (hline:(apos.endLine == cpos.line)=true:=by rfl) (hs:d4 (e::[]) X.env=(false,eval e X.env)::d4 [] X.env:=by rfl) (hplain:(oC cpos (d4 [] X.env)).any (·.1)=false:=by rfl)
 (hsw:j3 (.Call (.Attribute (.Name x p) "append" apos) [e] [] cpos) none pos.line X.env=pure false:=by rfl) :
 QS X (.Expr (.Call (.Attribute (.Name x p) "append" apos) [e] [] cpos) pos) (tS X.K rm Ol O O (um i m)):=by
 refine QS.imp (v5 (CP oo sQ ze uT (il hN hv hd hcd) (cV he.h fX hs) hbase hfew hline hs hplain) hsw) fun D σ H aA=>?_
 obtain ⟨A,B,Γ,o,r,em,k⟩:=aA
 obtain ⟨d,e1,em⟩:=Res.aF em
 cases hg:gv Γ i with
 | none=>rw[hg] at em;cases em
 | some dl=>
  rw[hg] at em
  cases dl with
  | list ds=>
   obtain ⟨⟨hc,hlt⟩,em⟩:=cN em
   cases em
   obtain ⟨q,vs,e2,h1,h4⟩:=sV r hi hg
   refine ⟨.ref q,jc e2,.inl ⟨rfl,vs,SqL.of h1⟩,A,B,Γ,d,r,e1,fun v A1 H1 g1 p1=>⟨q,vs,v,rfl,rfl,g1.hh _ _ h1,by rw[← h4.length];exact hc,?_⟩⟩
   exact k σ A1 _ ((r.grow g1).change hi hlt (by rw[hg];simp) e2 (g1.hh _ _ h1) (.inl ⟨_,_,rfl,rfl,(aB.mono g1.aa _ h4).append (aB.one p1)⟩)) g1.aa (g1.nB r.b)
  | _=>cases em
end
noncomputable def intsOf:List ae→Option (List Int)
 | []=>some []
 | .int i::ds=>(intsOf ds).map (i :: ·)
 | _::_=>none
theorem nC:∀{ds:List ae}{ns:List Int},intsOf ds=some ns→ds=ns.map ae.int
 | [],ns,h=>by cases h;rfl
 | .int i::ds,ns,h=>by
  unfold intsOf at h
  cases e:intsOf ds with
  | none=>rw[e] at h;cases h
  | some ms=>rw[e] at h;cases h;rw[nC e];rfl
@[simp] theorem lY (ns:List Int):intsOf (ns.map ae.int)=some ns:=by
 induction ns with
 | nil=>rfl
 | cons n ns ih=>rw[dk,intsOf,ih];rfl
noncomputable def Dt:List ae→Res ae
 | [.list ds]=>match intsOf ds with
  | some ns=>.ok (.int ns.sum)
  | none=>.bad
 | _=>.bad
theorem aB.We {K:ag}{A:Hp}:∀{ns:List Int}{vs:List V},aB K A (ns.map ae.int) vs→vs=ns.map V.int
 | [],vs,h=>by rw[jI,aB.nil] at h;exact h
 | n::ns,vs,h=>by
  rw[dk,aB.cons] at h
  obtain ⟨v,r,rfl,h1,h2⟩:=h
  rw[Rp.int.mp h1,h2.We];rfl
theorem Ay:∀{ns:List Int}{us:List ai},Vals (ns.map V.int) us→lx us ns
 | [],_,.nil=>.nil
 | n::ns,_,.cons r t=>by
  obtain ⟨tk,rfl⟩:=r
  exact .cons n tk (Ay t)
section
variable {X:Cx}
theorem Ow (hc:X.calm=true):fK X (.builtin "sum") (rC X.K Dt):=by
 intro pins s σ H xs us Q I r h
 obtain ⟨A,ds,d,e,ha,p,k⟩:=h
 match ds,e with
 | [.list es],e=>
  have e':(match intsOf es with | some ns=>Res.ok (ae.int ns.sum) | none=>.bad) = .ok d:=e
  cases hn:intsOf es with
  | none=>rw[hn] at e';cases e'
  | some ns=>
   rw[hn] at e'
   cases e'
   obtain rfl:=nC hn
   obtain ⟨v,r',rfl,p1,p2⟩:=p.cons
   obtain rfl:=p2.nil
   obtain ⟨l,vs,rfl,h1,q1⟩:=p1.list ha
   obtain rfl:=q1.We
   obtain ⟨u,rfl,rx⟩:=Vals.one r
   cases rx
   obtain ⟨its,rv,pl,hz⟩:=I.list h1
   have hi:=Ay rv
   have hall:AllInts its.toArray:=hi.allInts
   obtain ⟨ys,ey⟩:=hall.items
   have e2:=nums_intItems ys
   refine sum_intListG (xs:=ys) (I.ok.hd hc) (by rw[← ey];exact pl.isList) fun h' tk t' hk=>?_
   have e3:numsOf (intItems ys).toList=ns:=by
    rw[← ey]
    exact hi.numsOf
   rw[e2] at e3
   rw[preSum_eq,fz (by simp),e3]
   exact ⟨.int ns.sum,H,I.kept (t':=tk) hk,⟨t',rfl⟩,k _ A H (aP.refl ha) (Rp.int.mpr rfl)⟩
end
theorem JW {K:ag}{H:Hp}{a:Addr}{ns:List Int}{f:List ae→Res ae}{fg:Fl}{E:XK} (hm:f [.list (ns.map ae.int)] = .ok (.bool true)) (hS:SqL K H a (ns.map V.int)):spF K [fg] .f f [.ref a] H (fun v _=>v = .bl true) E:=by
 refine ⟨H,[.list (ns.map ae.int)],.bool true,aH.refl _,⟨_,_,_,_,rfl,rfl,?_,rfl,rfl⟩,hm,fun v A' H' g p=>(Rp.bool (K:=K) (A:=A')).mp p⟩
 have q:Rp K H (.list (ns.map ae.int)) (.ref a):=Rp.list.mpr ⟨a,_,rfl,hS,aB.ints⟩
 cases fg with
 | imm=>exact q
 | bor=>exact .inl q
 | own=>exact .inl q
 | fix p0=>exact .inl q
 | exc C=>exact .inl q
 | nst b=>exact .inl q
end L3
namespace L2
open PySem PyProof.Rows
structure Mv (lo hi:Nat) (st st':d3):Prop where
 kind:kindOf st'=kindOf st
 failed:mE st'=mE st
 pend:ff st'=ff st
 perm:(bq st').Perm (bq st)
 out:∀i,i < lo∨hi≤i→K (bq st') i=K (bq st) i
structure Sk (st:d3):Prop where
 kind:kindOf st=rk
 failed:mE st=none
 keys:IntKeys (bq st)
noncomputable def Seg (a:Array fh) (lo hi:Nat):Prop:=∀i j,lo≤i→i≤j→j < hi→K a i≤K a j
noncomputable def Dsc (a:Array fh) (lo hi:Nat):Prop:=∀i j,lo≤i→i≤j→j < hi→K a j≤K a i
theorem Mv.refl (lo hi:Nat) (st:d3):Mv lo hi st st:=⟨rfl,rfl,rfl,.refl _,fun _ _=>rfl⟩
theorem Mv.trans {lo hi:Nat}{a b c:d3} (x:Mv lo hi a b) (y:Mv lo hi b c):Mv lo hi a c:=
 ⟨y.kind.trans x.kind,y.failed.trans x.failed,y.pend.trans x.pend,y.perm.trans x.perm,fun i h=>(y.out i h).trans (x.out i h)⟩
theorem Mv.wide {lo hi lo' hi':Nat}{a b:d3} (x:Mv lo hi a b) (h1:lo'≤lo) (h2:hi≤hi'):Mv lo' hi' a b:=
 ⟨x.kind,x.failed,x.pend,x.perm,fun i h=>x.out i (by omega)⟩
theorem Mv.size {lo hi:Nat}{a b:d3} (x:Mv lo hi a b):(bq b).size=(bq a).size:=x.perm.size_eq
theorem keys_perm {a b:Array fh} (h:a.Perm b) (k:IntKeys b):IntKeys a:=fun p hp=>k p ((w9.mp h).mem_iff.mp hp)
theorem Mv.sk {lo hi:Nat}{a b:d3} (x:Mv lo hi a b) (k:Sk a):Sk b:=⟨x.kind.trans k.kind,x.failed.trans k.failed,keys_perm x.perm k.keys⟩
theorem Mv.arr {lo hi:Nat}{st:d3}{xs:Array fh} (hp:xs.Perm (bq st)) (ho:∀i,i < lo∨hi≤i→K xs i=K (bq st) i):Mv lo hi st (setArr st xs):=⟨rfl,rfl,rfl,hp,ho⟩
theorem W5 {a:Array fh} (h:IntKeys a) {i:Nat} (hi:i < a.size):∃t q,a[i]?=some (.int (K a i) t,q):=by
 obtain ⟨n,t,hn⟩:=h a[i] (by simp)
 refine ⟨t,a[i].2,?_⟩
 rw[getElem?_pos a i hi]
 have e:K a i=n:=by unfold K;rw[getElem?_pos a i hi];simp only[hn];rfl
 rw[e]
 exact congrArg some (Prod.ext hn rfl)
section
variable {prog:cw}{w:eI}{A:eo}{E:ai→ar→Prop}{s:ar}
theorem uP {st:d3}{i j:Nat}{Q:Option Bool→d3→Prop} (k:Sk st) (hi:i < (bq st).size) (hj:j < (bq st).size)
 (h:Q (some (decide (K (bq st) i < K (bq st) j))) st):wpS (bt prog w) A E s (ltAt' i j) Q st:=by
 obtain ⟨t,p,e1⟩:=W5 k.keys hi
 obtain ⟨u,q,e2⟩:=W5 k.keys hj
 exact wpS_ltAt k.kind e1 e2 h
theorem wu {st:d3}{x y:fh}{Q:Option Bool→d3→Prop} (k:kindOf st=rk) (hx:∃n t,x.1 = .int n t) (hy:∃n t,y.1 = .int n t)
 (h:Q (some (decide (i8 x.1 < i8 y.1))) st):wpS (bt prog w) A E s (lt' x y) Q st:=by
 obtain ⟨a,t,e1⟩:=hx
 obtain ⟨b,u,e2⟩:=hy
 rw[lt'_eq]
 refine br (yi ?_)
 rw[k,keyLt'_oneType,e1,e2]
 rw[e1,e2] at h
 exact br (As (pz (oneLt_int ⟨rfl,cp h⟩)))
theorem dH {st:d3}{a:Array fh}{i:Nat}{Q:fh→d3→Prop} (hi:i < a.size) (h:Q a[i] st):wpS (bt prog w) A E s (oq a i) Q st:=by
 rw[elem'_eq,getElem?_pos a i hi]
 exact cp h
theorem Vs {st:d3}{lo n ok:Nat}{Q:Bool→d3→Prop} (k:Sk st) (hn:lo+n≤(bq st).size) (hok:ok≤n) (hs:Seg (bq st) lo (lo+ok))
 (h:∀st',Mv lo (lo+n) st st'→Seg (bq st') lo (lo+n)→Q true st'):wpS (bt prog w) A E s (binarySort' lo n ok) Q st:=by
 rw[binarySort'_eq]
 refine br (ot (hV (I:=fun k c b=>c=(none,())∧Mv lo (lo+n) st b∧Seg (bq b) lo (lo+min k n))
  (Q:=fun c b=>c=(none,())∧Mv lo (lo+n) st b∧Seg (bq b) lo (lo+n)) ?step ?fin ?init) ?post)
 case post=>
  rintro c b ⟨rfl,m,g⟩
  exact cp (h b m g)
 case init=>
  refine ⟨rfl,.refl _ _ _,fun i j hi hij hj=>?_⟩
  by_cases h1:ok=0
  · have:i=j:=by omega
    subst this;exact ma _
  · exact hs i j hi hij (by omega)
 case fin=>
  rintro c b ⟨hc,m,g⟩
  rw[show min (max (max ok 1) n) n=n by omega] at g
  exact ⟨hc,m,g⟩
 case step=>
  rintro x c b hax hxn ⟨rfl,m,g⟩
  rw[show min x n=x by omega] at g
  have kb:=m.sk k
  have sz:=m.size
  refine br (ot (hV (I:=fun y c b'=>b'=b∧∃l r,c=(none,l,r)∧l≤r∧r≤x∧r - l≤x - y ∧
   (∀i,i < l→K (bq b) (lo+i)≤K (bq b) (lo+x))∧(∀i,r≤i→i < x→K (bq b) (lo+x) < K (bq b) (lo+i)))
   (Q:=fun c b'=>b'=b∧∃l r,c=(none,l,r)∧l≤x ∧
    (∀i,i < l→K (bq b) (lo+i)≤K (bq b) (lo+x))∧(∀i,l≤i→i < x→K (bq b) (lo+x) < K (bq b) (lo+i))) ?istep ?ifin ?iinit) ?ipost)
  case iinit=>exact ⟨rfl,0,x,rfl,by omega,by omega,by omega,fun i hi=>by omega,fun i h1 h2=>by omega⟩
  case ifin=>
   rintro c b' ⟨rfl,l,r,rfl,q1,q2,q3,q4,q5⟩
   have:l=r:=by omega
   subst this
   exact ⟨rfl,l,l,rfl,q2,q4,q5⟩
  case istep=>
   rintro y c b' _ hyx ⟨rfl,l,r,rfl,q1,q2,q3,q4,q5⟩
   dsimp only
   by_cases hge:l≥r
   · rw[if_pos hge]
     have:l=r:=by omega
     subst this
     exact cp ⟨rfl,l,l,rfl,q2,q4,q5⟩
   · rw[if_neg hge]
     refine br (uP kb (by omega) (by omega) ?_)
     by_cases hl:K (bq b') (lo+x) < K (bq b') (lo+(l+r) / 2)
     · simp only[hl,decide_true,if_true]
       refine cp ⟨rfl,l,(l+r) / 2,rfl,by omega,by omega,by omega,q4,fun i h1 h2=>?_⟩
       exact Int.lt_of_lt_of_le hl (g _ _ (by omega) (by omega) (by omega))
     · simp only[hl,decide_false,aT,if_false]
       refine cp ⟨rfl,(l+r) / 2+1,r,rfl,by omega,by omega,by omega,fun i h1=>?_,q5⟩
       exact gS (g (lo+i) (lo+(l+r) / 2) (by omega) (by omega) (by omega)) (AL.mp hl)
  case ipost=>
   rintro c b' ⟨rfl,l,r,rfl,q1,q4,q5⟩
   show wpS _ _ _ _ (do moveDown' (lo+x) (lo+l);pure (na (none,()))) _ _
   rw[moveDown'_eq]
   have hks:lo+x < (bq b').size:=by omega
   have KB:∀i,K (bubble (bq b') (lo+x) (lo+x - (lo+l))) i=if i=lo+l then K (bq b') (lo+x) else if lo+l < i∧i≤lo+x then K (bq b') (i - 1) else K (bq b') i:=by
    intro i
    rw[K_bubble hks (by omega),show lo+x - (lo+x - (lo+l))=lo+l by omega]
   refine br (ub (cp ⟨rfl,m.trans (.arr (bubble_perm _ _ _) fun i hi=>?_),?_⟩))
   · rw[KB,if_neg (by omega),if_neg (by omega)]
   rw[show min (x+1) n=x+1 by omega]
   intro i j hi hij hj
   show K (bubble (bq b') (lo+x) (lo+x - (lo+l))) i≤K (bubble (bq b') (lo+x) (lo+x - (lo+l))) j
   rw[KB,KB]
   have q4':∀i,lo≤i→i < lo+l→K (bq b') i≤K (bq b') (lo+x):=fun i h1 h2=>by have:=q4 (i - lo) (by omega);rwa [show lo+(i - lo)=i by omega] at this
   have q5':∀i,lo+l≤i→i < lo+x→K (bq b') (lo+x) < K (bq b') i:=fun i h1 h2=>by have:=q5 (i - lo) (by omega) (by omega);rwa [show lo+(i - lo)=i by omega] at this
   repeat' split
   all_goals first
    | (exfalso;omega)
    | exact ma _
    | exact q4' _ (by omega) (by omega)
    | exact gy (q5' _ (by omega) (by omega))
    | exact g _ _ (by omega) (by omega) (by omega)
theorem yu {st:d3}{i j:Nat}{Q:Unit→d3→Prop} (h:Q () (setArr st (zh (bq st) i j ((j - i) / 2)))) :
 wpS (bt prog w) A E s (u7 i j) Q st:=by
 rw[reverseSlice'_eq];exact ub h
theorem Mv.rev {lo hi i j:Nat}{st:d3} (h1:lo≤i) (h2:j≤hi) (h3:j≤(bq st).size):Mv lo hi st (setArr st (zh (bq st) i j ((j - i) / 2))):=
 .arr (mirror_perm _ _ _ _) fun k hk=>by rw[K_mirror h3,if_neg (by omega)]
noncomputable def upL (lo a n:Nat):StateT d3 Sem (Option (Option Nat)×Nat):=
 forIn [a:n] (none,a) fun _ c=>do
  match ← ltAt' (lo+c.snd) (lo+c.snd - 1) with
  | some b=>if b=true then pure (.done (none,c.snd)) else pure (.yield (none,c.snd+1))
  | _=>pure (.done (some none,c.snd))
noncomputable def upE (lo a n:Nat):StateT d3 Sem (Option Nat):=do
 u7 lo (lo+a)
 let c ← upL lo a n
 match c.fst with
 | some r=>pure r
 | none=>pure (some c.snd)
noncomputable def dnL (lo a n:Nat):StateT d3 Sem (Option (Option Nat)×Nat×Nat):=
 forIn [a:n] (none,a,0) fun _ c=>do
  match ← ltAt' (lo+c.snd.fst) (lo+c.snd.fst - 1) with
  | some b=>
   if b=true then
    if c.snd.snd > 0 then do
     u7 (lo+c.snd.fst - (c.snd.snd+1)) (lo+c.snd.fst)
     pure (.yield (none,c.snd.fst+1,0))
    else pure (.yield (none,c.snd.fst+1,0))
   else do
    match ← ltAt' (lo+c.snd.fst - 1) (lo+c.snd.fst) with
    | some b'=>if b'=true then pure (.done (none,c.snd.fst,c.snd.snd)) else pure (.yield (none,c.snd.fst+1,c.snd.snd+1))
    | _=>pure (.done (some none,c.snd.fst,c.snd.snd))
  | _=>pure (.done (some none,c.snd.fst,c.snd.snd))
noncomputable def dnE (lo a n:Nat):StateT d3 Sem (Option Nat):=do
 liftM (rule "list.sort.descending-run")
 let c ← dnL lo (a+1) n
 match c.fst with
 | some r=>pure r
 | none=>
  if c.snd.snd > 0 then do
   u7 (lo+c.snd.fst - (c.snd.snd+1)) (lo+c.snd.fst)
   upE lo c.snd.fst n
  else upE lo c.snd.fst n
theorem Ir {st:d3}{lo a n:Nat}{Q:Option (Option Nat)×Nat→d3→Prop} (k:Sk st) (hn:lo+n≤(bq st).size) (ha:1≤a) (han:a≤n) (hs:Seg (bq st) lo (lo+a))
 (h:∀m,a≤m→m≤n→Seg (bq st) lo (lo+m)→(m=n∨K (bq st) (lo+m) < K (bq st) (lo+m - 1))→Q (none,m) st):wpS (bt prog w) A E s (upL lo a n) Q st:=by
 unfold upL
 refine hV (I:=fun x c b=>b=st∧c=(none,x)∧Seg (bq st) lo (lo+x)) ?step ?fin ⟨rfl,rfl,hs⟩
 case fin=>
  rintro c b ⟨rfl,rfl,g⟩
  rw[show max a n=n by omega] at g ⊢
  exact h n han (aE _) g (.inl rfl)
 case step=>
  rintro x c b hax hxn ⟨rfl,rfl,g⟩
  dsimp only
  refine br (uP k (by omega) (by omega) ?_)
  by_cases hl:K (bq b) (lo+x) < K (bq b) (lo+x - 1)
  · simp only[hl,decide_true,if_true]
    exact cp (h x hax (by omega) g (.inr hl))
  · simp only[hl,decide_false,aT,if_false]
    refine cp ⟨rfl,rfl,fun i j hi hij hj=>?_⟩
    by_cases hjx:j < lo+x
    · exact g i j hi hij hjx
    · have hj':j=lo+x:=by omega
      subst hj'
      by_cases hi':i=lo+x
      · subst hi';exact ma _
      · exact gS (g i (lo+x - 1) hi (by omega) (by omega)) (AL.mp hl)
theorem Iv {st:d3}{lo a n:Nat}{Q:Option Nat→d3→Prop} (k:Sk st) (hn:lo+n≤(bq st).size) (ha:1≤a) (han:a≤n) (hs:Dsc (bq st) lo (lo+a))
 (h:∀m st',Mv lo (lo+n) st st'→1≤m→m≤n→Seg (bq st') lo (lo+m)→Q (some m) st'):wpS (bt prog w) A E s (upE lo a n) Q st:=by
 unfold upE
 refine br (yu ?_)
 have m1:Mv lo (lo+n) st (setArr st (zh (bq st) lo (lo+a) ((lo+a - lo) / 2))):=.rev (aE _) (by omega) (by omega)
 refine br (Ir (m1.sk k) (by rw[m1.size];exact hn) ha han ?_ fun m q1 q2 q3 _=>cp (h m _ m1 (by omega) q2 q3))
 intro i j hi hij hj
 show K (zh (bq st) lo (lo+a) ((lo+a - lo) / 2)) i≤K (zh (bq st) lo (lo+a) ((lo+a - lo) / 2)) j
 rw[K_mirror (by omega),K_mirror (by omega),if_pos (by omega),if_pos (by omega)]
 exact hs _ _ (by omega) (by omega) (by omega)
theorem Vr {st:d3}{lo a n:Nat}{Q:Option (Option Nat)×Nat×Nat→d3→Prop} (k:Sk st) (hn:lo+n≤(bq st).size) (ha:1≤a) (han:a≤n) (hs:Dsc (bq st) lo (lo+a))
 (h:∀m e st',Mv lo (lo+n) st st'→a≤m→m≤n→Dsc (bq st') lo (lo+m)→e+1≤m→(∀i,lo+m - (e+1)≤i→i < lo+m→K (bq st') i=K (bq st') (lo+m - 1))→Q (none,m,e) st') :
 wpS (bt prog w) A E s (dnL lo a n) Q st:=by
 unfold dnL
 refine hV (I:=fun x c b=>∃e,c=(none,x,e)∧Mv lo (lo+n) st b∧Dsc (bq b) lo (lo+x)∧e+1≤x ∧
  (∀i,lo+x - (e+1)≤i→i < lo+x→K (bq b) i=K (bq b) (lo+x - 1))) ?step ?fin ⟨0,rfl,.refl _ _ _,hs,by omega,fun i h1 h2=>by congr 1;omega⟩
 case fin=>
  rintro c b ⟨e,rfl,m,g,q1,q2⟩
  rw[show max a n=n by omega] at g q1 q2 ⊢
  exact h n e b m han (aE _) g q1 q2
 case step=>
  rintro x c b hax hxn ⟨e,rfl,m,g,q1,q2⟩
  dsimp only
  have sz:=m.size
  refine br (uP (m.sk k) (by omega) (by omega) ?_)
  by_cases hl:K (bq b) (lo+x) < K (bq b) (lo+x - 1)
  · simp only[hl,decide_true,if_true]
    have one:∀xs:Array fh,(∀k,K xs k=K (bq b) k)→Dsc xs lo (lo+(x+1)):=by
     intro xs hk i j hi hij hj
     rw[hk,hk]
     by_cases hjx:j < lo+x
     · exact g i j hi hij hjx
     · have hj':j=lo+x:=by omega
       subst hj'
       by_cases hi':i=lo+x
       · subst hi';exact ma _
       · exact gS (gy hl) (g i (lo+x - 1) hi (by omega) (by omega))
    by_cases he:e > 0
    · rw[if_pos he]
      refine br (yu (cp ⟨0,rfl,m.trans (.rev (by omega) (by omega) (by omega)),one _ (sR (by omega) q2),by omega,fun i h1 h2=>by congr 1;omega⟩))
    · rw[if_neg he]
      exact cp ⟨0,rfl,m,one _ (fun _=>rfl),by omega,fun i h1 h2=>by congr 1;omega⟩
  · simp only[hl,decide_false,aT,if_false]
    refine br (uP (m.sk k) (by omega) (by omega) ?_)
    by_cases hg:K (bq b) (lo+x - 1) < K (bq b) (lo+x)
    · simp only[hg,decide_true,if_true]
      exact cp (h x e b m hax (by omega) g q1 q2)
    · simp only[hg,decide_false,aT,if_false]
      have hx:K (bq b) (lo+x)=K (bq b) (lo+x - 1):=by omega
      refine cp ⟨e+1,rfl,m,fun i j hi hij hj=>?_,by omega,fun i h1 h2=>?_⟩
      · by_cases hjx:j < lo+x
        · exact g i j hi hij hjx
        · have hj':j=lo+x:=by omega
          subst hj'
          by_cases hi':i=lo+x
          · subst hi';exact ma _
          · rw[hx];exact g i (lo+x - 1) hi (by omega) (by omega)
      · rw[show lo+(x+1) - 1=lo+x by omega]
        by_cases hix:i=lo+x
        · subst hix;rfl
        · rw[hx];exact q2 i (by omega) (by omega)
theorem Ia {st:d3}{lo a n:Nat}{Q:Option Nat→d3→Prop} (k:Sk st) (hn:lo+n≤(bq st).size) (han:a+1≤n) (hs:Dsc (bq st) lo (lo+(a+1)))
 (h:∀m st',Mv lo (lo+n) st st'→1≤m→m≤n→Seg (bq st') lo (lo+m)→Q (some m) st'):wpS (bt prog w) A E s (dnE lo a n) Q st:=by
 unfold dnE
 refine br (As (i4 ⟨rfl,?_⟩))
 refine br (Vr k hn (by omega) han hs fun m e b mv q1 q2 g q3 q4=>?_)
 dsimp only
 have sz:=mv.size
 by_cases he:e > 0
 · rw[if_pos he]
   have m2:Mv lo (lo+n) b (setArr b (zh (bq b) (lo+m - (e+1)) (lo+m) ((lo+m - (lo+m - (e+1))) / 2))):=.rev (by omega) (by omega) (by omega)
   refine br (yu (Iv (m2.sk (mv.sk k)) (by rw[m2.size];omega) (by omega) q2 ?_ fun m' b' m3=>h m' b' (mv.trans (m2.trans m3))))
   intro i j hi hij hj
   show K (zh (bq b) _ _ _) j≤K (zh (bq b) _ _ _) i
   rw[sR (by omega) q4,sR (by omega) q4]
   exact g i j hi hij hj
 · rw[if_neg he]
   exact Iv (mv.sk k) (by omega) (by omega) q2 g fun m' b' m3=>h m' b' (mv.trans m3)
local macro_rules | `(tactic| walk_at "up_eq")=>`(tactic| (refine congrArg (_ >>= ·) (funext fun _=>?_);refine congrArg (_ >>= ·) (funext fun c=>?_);obtain ⟨r,m⟩:=c;cases r <;> rfl))
local macro_rules | `(tactic| walk_at "dn_eq")=>`(tactic| (refine congrArg (_ >>= ·) (funext fun c=>?_);obtain ⟨r,m,e⟩:=c;cases r with
 | some r=>rfl
 | none=>(dsimp only;split;(refine congrArg (_ >>= ·) (funext fun _=>?_);walk_at "up_eq");walk_at "up_eq")))
theorem run_eq (lo n:Nat):countRun' lo n=(do
 let c ← upL lo 1 n
 match c.fst with
 | some r=>pure r
 | none=>
  if (c.snd == n)=true then pure (some c.snd)
  else if c.snd > 1 then do
   match ← ltAt' lo (lo+c.snd - 1) with
   | some b=>if b=true then pure (some c.snd) else do
    u7 lo (lo+c.snd)
    dnE lo c.snd n
   | _=>pure none
  else dnE lo c.snd n):=by
 rw[countRun'_eq]
 refine congrArg (_ >>= ·) (funext fun c=>?_)
 obtain ⟨r,m⟩:=c
 cases r with
 | some r=>rfl
 | none=>
  dsimp only
  split
  · rfl
  · split
    · refine congrArg (_ >>= ·) (funext fun x=>?_)
      cases x with
      | none=>rfl
      | some b=>
       dsimp only
       split
       · rfl
       · refine congrArg (_ >>= ·) (funext fun _=>?_)
         refine congrArg (_ >>= ·) (funext fun _=>?_)
         walk_at "dn_eq"
    · refine congrArg (_ >>= ·) (funext fun _=>?_)
      walk_at "dn_eq"
theorem TQ {st:d3}{lo n:Nat}{Q:Option Nat→d3→Prop} (k:Sk st) (hn:lo+n≤(bq st).size) (h1:1≤n)
 (h:∀m st',Mv lo (lo+n) st st'→1≤m→m≤n→Seg (bq st') lo (lo+m)→Q (some m) st') :
 wpS (bt prog w) A E s (countRun' lo n) Q st:=by
 rw[run_eq]
 refine br (Ir k hn (aE 1) h1 (fun i j hi hij hj=>by
  have:i=j:=by omega
  subst this;exact ma _) fun m q1 q2 g q3=>?_)
 dsimp only
 by_cases hm:m=n
 · rw[if_pos (by simpa using hm)]
   exact cp (h m st (.refl _ _ _) q1 q2 g)
 · rw[if_neg (by simpa using hm)]
   have hl:=q3.resolve_left hm
   by_cases hgt:m > 1
   · rw[if_pos hgt]
     refine br (uP k (by omega) (by omega) ?_)
     by_cases hr:K (bq st) lo < K (bq st) (lo+m - 1)
     · simp only[hr,decide_true,if_true]
       exact cp (h m st (.refl _ _ _) q1 q2 g)
     · simp only[hr,decide_false,aT,if_false]
       have all:∀k,lo≤k→k < lo+m→K (bq st) k=K (bq st) (lo+m - 1):=by
        intro k u1 u2
        have a1:=g lo k (by omega) u1 u2
        have a2:=g k (lo+m - 1) u1 (by omega) (by omega)
        omega
       have m1:Mv lo (lo+n) st (setArr st (zh (bq st) lo (lo+m) ((lo+m - lo) / 2))):=.rev (aE _) (by omega) (by omega)
       refine br (yu (Ia (m1.sk k) (by rw[m1.size];exact hn) (by omega) ?_ fun m' b' m3=>h m' b' (m1.trans m3)))
       intro i j hi hij hj
       show K (zh (bq st) _ _ _) j≤K (zh (bq st) _ _ _) i
       rw[sR (by omega) all,sR (by omega) all]
       by_cases hjn:j < lo+m
       · rw[all i (by omega) (by omega),all j (by omega) hjn];exact ma _
       · have hj':j=lo+m:=by omega
         subst hj'
         by_cases hi':i=lo+m
         · subst hi';exact ma _
         · rw[all i (by omega) (by omega)];exact gy hl
   · rw[if_neg hgt]
     have hm1:m=1:=by omega
     subst hm1
     refine Ia k hn (by omega) ?_ h
     intro i j hi hij hj
     by_cases hi':i=j
     · subst hi';exact ma _
     · have hi0:i=lo:=by omega
       have hj1:j=lo+1:=by omega
       subst hi0;subst hj1
       exact gy hl
end
noncomputable def gal:Bool→fh→Array fh→Nat→Nat→Nat→StateT d3 Sem (Option Nat):=sortPriv% PySem.Builtin.gallop
noncomputable def bey (left:Bool) (key:fh) (arr:Array fh) (i:Nat):StateT d3 Sem (Option Bool):=do
 let x ← oq arr i
 if left then lt' x key else return (← lt' key x).map (!·)
theorem Wu (left:Bool) (key:fh) (arr:Array fh) (base n hint:Nat):gal left key arr base n hint=(do
 let mut p:=0
 let mut q:=1
 let mut u:=0
 let mut v:=0
 let some r ← bey left key arr (base+hint) | return none
 if r then
  let top:=n - hint
  for _ in [0:n] do
   if q≥top then break
   let some r ← bey left key arr (base+(hint+q)) | return none
   if !r then break
   p:=q
   q:=2*q+1
  u:=hint+p+1
  v:=hint+min q top
 else
  let top:=hint+1
  for _ in [0:n] do
   if q≥top then break
   let some r ← bey left key arr (base+(hint - q)) | return none
   if r then break
   p:=q
   q:=2*q+1
  u:=hint+1 - min q top
  v:=hint - p
 for _ in [0:n] do
  if u≥v then break
  let m:=u+(v - u) / 2
  let some r ← bey left key arr (base+m) | return none
  if r then u:=m+1 else v:=m
 return some v):=rfl
noncomputable def byd (left:Bool) (x y:Int):Bool:=if left then decide (y < x) else decide (y≤x)
section
variable {prog:cw}{w:eI}{A:eo}{E:ai→ar→Prop}{s:ar}
theorem vB {st:d3}{left:Bool}{key:fh}{arr:Array fh}{i:Nat}{Q:Option Bool→d3→Prop} (k:kindOf st=rk) (hk:∃n t,key.1 = .int n t) (ha:IntKeys arr) (hi:i < arr.size)
 (h:Q (some (byd left (i8 key.1) (K arr i))) st):wpS (bt prog w) A E s (bey left key arr i) Q st:=by
 unfold bey
 refine br (dH hi ?_)
 have e:K arr i=i8 arr[i].1:=by unfold K;rw[getElem?_pos arr i hi]
 rw[e] at h
 have hx:=ha arr[i] (by simp)
 cases left with
 | true=>exact wu k hx hk h
 | false=>
  refine br (wu k hk hx (cp ?_))
  have:(!decide (i8 key.1 < i8 arr[i].1))=byd false (i8 key.1) (i8 arr[i].1):=by
   unfold byd
   rw[if_neg (by simp),← decide_not]
   exact decide_eq_decide.mpr AL
  show Q (some (!decide (i8 key.1 < i8 arr[i].1))) st
  rw[this]
  exact h
set_option hygiene false in
local macro_rules | `(tactic| walk_at "gal_end")=>`(tactic| (
 refine br (ot (hV (I:=fun x c b=>b=st0∧∃u v,c=(none,u,v)∧u≤v∧v≤n∧v - u≤n - x∧(∀i,i < u→byd left (i8 key.1) (K arr (base+i))=true)∧(∀i,v≤i→i < n→byd left (i8 key.1) (K arr (base+i))=false))
  (Q:=fun c b=>b=st0∧∃v,c=(none,v,v)∧v≤n∧(∀i,i < v→byd left (i8 key.1) (K arr (base+i))=true)∧(∀i,v≤i→i < n→byd left (i8 key.1) (K arr (base+i))=false)) ?Y7 ?abD ⟨rfl,_,_,rfl,huv,hvn,by omega,hu,hv⟩) ?ZQ)
 case ZQ=>
  rintro c b ⟨rfl,v,rfl,q1,q2,q3⟩
  exact cp (h v q1 q2 q3)
 case abD=>
  rintro c b ⟨rfl,u,v,rfl,q1,q2,q3,q4,q5⟩
  have:u=v:=by omega
  subst this
  exact ⟨rfl,u,rfl,q2,q4,q5⟩
 case Y7=>
  rintro x c b _ hx ⟨rfl,u,v,rfl,q1,q2,q3,q4,q5⟩
  dsimp only
  by_cases hge:u≥v
  · rw[if_pos hge]
    have:u=v:=by omega
    subst this
    exact cp ⟨rfl,u,rfl,q2,q4,q5⟩
  · rw[if_neg hge]
    refine br (vB k hk ha (by omega) ?_)
    dsimp only
    cases hP:byd left (i8 key.1) (K arr (base+(u+(v - u) / 2))) with
    | true=>
     rw[if_pos rfl]
     exact cp ⟨rfl,u+(v - u) / 2+1,v,rfl,by omega,q2,by omega,fun i hi=>up i (u+(v - u) / 2) (by omega) (by omega) hP,q5⟩
    | false=>
     rw[if_neg (by simp)]
     exact cp ⟨rfl,u,u+(v - u) / 2,rfl,by omega,by omega,by omega,q4,fun i h1 h2=>dn (u+(v - u) / 2) i h1 h2 hP⟩))
theorem oZ {st:d3}{left:Bool}{key:fh}{arr:Array fh}{base n hint:Nat}{Q:Option Nat→d3→Prop} (k:kindOf st=rk) (hk:∃n t,key.1 = .int n t) (ha:IntKeys arr)
 (hb:base+n≤arr.size) (hh:hint < n) (hs:Seg arr base (base+n))
 (h:∀v,v≤n→(∀i,i < v→byd left (i8 key.1) (K arr (base+i))=true)→(∀i,v≤i→i < n→byd left (i8 key.1) (K arr (base+i))=false)→Q (some v) st) :
 wpS (bt prog w) A E s (gal left key arr base n hint) Q st:=by
 have up:∀i j,i≤j→j < n→byd left (i8 key.1) (K arr (base+j))=true→byd left (i8 key.1) (K arr (base+i))=true:=by
  intro i j hij hj hP
  have:=hs (base+i) (base+j) (by omega) (by omega) (by omega)
  unfold byd at hP ⊢
  cases left <;> simp at hP ⊢ <;> omega
 have dn:∀i j,i≤j→j < n→byd left (i8 key.1) (K arr (base+i))=false→byd left (i8 key.1) (K arr (base+j))=false:=by
  intro i j hij hj hP
  cases hq:byd left (i8 key.1) (K arr (base+j)) with
  | false=>rfl
  | true=>rw[up i j hij hj hq] at hP;cases hP
 rw[Wu]
 dsimp only
 refine br (vB k hk ha (by omega) ?_)
 dsimp only
 cases hP:byd left (i8 key.1) (K arr (base+hint)) with
 | true=>
  rw[if_pos rfl]
  refine br (ot (hV (I:=fun x c b=>b=st∧∃p q,c=(none,p,q)∧p < q∧x+1≤q∧p < n - hint∧byd left (i8 key.1) (K arr (base+(hint+p)))=true)
   (Q:=fun c b=>b=st∧∃p q,c=(none,p,q)∧p < q∧p < n - hint∧byd left (i8 key.1) (K arr (base+(hint+p)))=true∧(q < n - hint→byd left (i8 key.1) (K arr (base+(hint+q)))=false)) ?step ?fin ⟨rfl,0,1,rfl,by omega,by omega,by omega,hP⟩) ?post)
  case post=>
   rintro c b ⟨rfl,p,q,rfl,q1,q2,q3,q4⟩
   have huv:hint+p+1≤hint+min q (n - hint):=by omega
   have hvn:hint+min q (n - hint)≤n:=by omega
   have hu:∀i,i < hint+p+1→byd left (i8 key.1) (K arr (base+i))=true:=fun i hi=>up i (hint+p) (by omega) (by omega) q3
   have hv:∀i,hint+min q (n - hint)≤i→i < n→byd left (i8 key.1) (K arr (base+i))=false:=fun i h1 h2=>dn (hint+q) i (by omega) h2 (q4 (by omega))
   clear q1 q2 q3 q4
   dsimp only
   generalize hst:b=st0 at *
   walk_at "gal_end"
  case fin=>
   rintro c b ⟨rfl,p,q,rfl,q1,q2,q3,q4⟩
   exact ⟨rfl,p,q,rfl,q1,q3,q4,fun h=>by omega⟩
  case step=>
   rintro x c b _ hx ⟨rfl,p,q,rfl,q1,q2,q3,q4⟩
   dsimp only
   by_cases hge:q≥n - hint
   · rw[if_pos hge]
     exact cp ⟨rfl,p,q,rfl,q1,q3,q4,fun h=>by omega⟩
   · rw[if_neg hge]
     refine br (vB k hk ha (by omega) ?_)
     dsimp only
     cases hR:byd left (i8 key.1) (K arr (base+(hint+q))) with
     | true=>
      rw[if_neg (by simp)]
      exact cp ⟨rfl,q,2*q+1,rfl,by omega,by omega,by omega,hR⟩
     | false=>
      rw[if_pos (by simp)]
      exact cp ⟨rfl,p,q,rfl,q1,q3,q4,fun _=>hR⟩
 | false=>
  rw[if_neg (by simp)]
  refine br (ot (hV (I:=fun x c b=>b=st∧∃p q,c=(none,p,q)∧p < q∧x+1≤q∧p < hint+1∧byd left (i8 key.1) (K arr (base+(hint - p)))=false)
   (Q:=fun c b=>b=st∧∃p q,c=(none,p,q)∧p < q∧p < hint+1∧byd left (i8 key.1) (K arr (base+(hint - p)))=false∧(q < hint+1→byd left (i8 key.1) (K arr (base+(hint - q)))=true)) ?step ?fin ⟨rfl,0,1,rfl,by omega,by omega,by omega,hP⟩) ?post)
  case post=>
   rintro c b ⟨rfl,p,q,rfl,q1,q2,q3,q4⟩
   have huv:hint+1 - min q (hint+1)≤hint - p:=by omega
   have hvn:hint - p≤n:=by omega
   have hu:∀i,i < hint+1 - min q (hint+1)→byd left (i8 key.1) (K arr (base+i))=true:=fun i hi=>up i (hint - q) (by omega) (by omega) (q4 (by omega))
   have hv:∀i,hint - p≤i→i < n→byd left (i8 key.1) (K arr (base+i))=false:=fun i h1 h2=>dn (hint - p) i (by omega) h2 q3
   clear q1 q2 q3 q4
   dsimp only
   generalize hst:b=st0 at *
   walk_at "gal_end"
  case fin=>
   rintro c b ⟨rfl,p,q,rfl,q1,q2,q3,q4⟩
   exact ⟨rfl,p,q,rfl,q1,q3,q4,fun h=>by omega⟩
  case step=>
   rintro x c b _ hx ⟨rfl,p,q,rfl,q1,q2,q3,q4⟩
   dsimp only
   by_cases hge:q≥hint+1
   · rw[if_pos hge]
     exact cp ⟨rfl,p,q,rfl,q1,q3,q4,fun h=>by omega⟩
   · rw[if_neg hge]
     refine br (vB k hk ha (by omega) ?_)
     dsimp only
     cases hR:byd left (i8 key.1) (K arr (base+(hint - q))) with
     | true=>
      rw[if_pos rfl]
      exact cp ⟨rfl,p,q,rfl,q1,q3,q4,fun _=>hR⟩
     | false=>
      rw[if_neg (by simp)]
      exact cp ⟨rfl,q,2*q+1,rfl,by omega,by omega,by omega,hR⟩
end
section
variable {α:Type}{le:α→α→Prop}
structure Jn (le:α→α→Prop) (A B L:List α) (i j:Nat):Prop where
 perm:L.Perm (A.take i++B.take j)
 srt:L.Pairwise le
 la:∀x∈L,∀y∈A.drop i,le x y
 lb:∀x∈L,∀y∈B.drop j,le x y
theorem Jn.swap {A B L:List α}{i j:Nat} (h:Jn le A B L i j):Jn le B A L j i:=
 ⟨h.perm.trans ku,h.srt,h.lb,h.la⟩
theorem Jn.step {A B L:List α}{i j k:Nat} (h:Jn le A B L i j) (sA:A.Pairwise le) (hk:∀x∈(A.drop i).take k,∀y∈B.drop j,le x y):Jn le A B (L++(A.drop i).take k) (i+k) j:=by
 have e:(A.drop i).take k++A.drop (i+k)=A.drop i:=by rw[← A8,fw]
 have sD:(A.drop i).Pairwise le:=sA.sublist (yk _ _)
 rw[← e] at sD
 obtain ⟨s1,s2,s3⟩:=kN.mp sD
 refine ⟨?_,kN.mpr ⟨h.srt,s1,fun x hx y hy=>h.la x hx y (nz hy)⟩,fun x hx y hy=>?_,fun x hx y hy=>?_⟩
 · rw[List.take_add,eB]
   refine (h.perm.append_right _).trans ?_
   rw[eB]
   exact ku.append_left _
 · rcases fy.mp hx with hx | hx
   · exact h.la x hx y (by rw[← e];exact cK _ hy)
   · exact s3 x hx y hy
 · rcases fy.mp hx with hx | hx
   · exact h.lb x hx y hy
   · exact hk x hx y hy
theorem Jn.fin {A B L:List α}{i j:Nat} (h:Jn le A B L i j) (sA:A.Pairwise le) (sB:B.Pairwise le) (hk:∀x∈A.drop i,∀y∈B.drop j,le x y) :
 (L++A.drop i++B.drop j).Perm (A++B)∧(L++A.drop i++B.drop j).Pairwise le:=by
 constructor
 · have h1:(L++A.drop i++B.drop j).Perm ((A.take i++B.take j)++A.drop i++B.drop j):=(h.perm.append_right _).append_right _
   refine h1.trans ?_
   have h2:(A++B)=(A.take i++A.drop i)++(B.take j++B.drop j):=by rw[fw,fw]
   rw[h2,eB,eB,eB]
   refine List.Perm.append_left _ ?_
   rw[← eB,← eB]
   exact ku.append_right _
 · refine kN.mpr ⟨kN.mpr ⟨h.srt,sA.sublist (yk _ _),h.la⟩,sB.sublist (yk _ _),fun x hx y hy=>?_⟩
   rcases fy.mp hx with hx | hx
   · exact h.lb x hx y hy
   · exact hk x hx y hy
theorem Jn.first {A B:List α}{b:α} (hb:B[0]?=some b) (sB:B.Pairwise le) (hba:∀x∈A,le b x):Jn le A B [b] 0 1:=by
 cases B with
 | nil=>simp at hb
 | cons c B=>
  simp at hb
  subst hb
  refine ⟨by simp,by simp,fun x hx y hy=>?_,fun x hx y hy=>?_⟩
  · simp at hx;subst hx;exact hba y (by simpa using hy)
  · simp at hx;subst hx;exact (i3.mp sB).1 y (by simpa using hy)
end
noncomputable def setG:Nat→StateT d3 Sem Unit:=sortPriv% PySem.Builtin.setMinGallop
noncomputable def mLo:Array fh→Array fh→StateT d3 Sem (Array fh):=sortPriv% PySem.Builtin.mergeLo
noncomputable def mHi:Array fh→Array fh→StateT d3 Sem (Array fh):=sortPriv% PySem.Builtin.mergeHi
theorem YB (a b:Array fh):mLo a b=(do
 rule "list.sort.merge-lo"
 let t:=a.size+b.size
 let e1 (o:Array fh) (i j:Nat):=o++a.extract i a.size++b.extract j b.size
 let e2 (o:Array fh) (i j:Nat):=o++b.extract j b.size++a.extract i a.size
 let mut o:Array fh:=#[← oq b 0]
 let mut i:=0
 let mut j:=1
 if j == b.size then return e1 o i j
 if i+1 == a.size then return e2 o i j
 let mut g:=gallopOf (← get)
 for _ in [0:t] do
  let mut p:=0
  let mut q:=0
  for _ in [0:t] do
   let some r ← lt' (← oq b j) (← oq a i) | return e1 o i j
   if r then
    o:=o.push (← oq b j);j:=j+1;q:=q+1;p:=0
    if j == b.size then return e1 o i j
    if q≥g then break
   else
    o:=o.push (← oq a i);i:=i+1;p:=p+1;q:=0
    if i+1 == a.size then return e2 o i j
    if p≥g then break
  rule "list.sort.gallop"
  g:=g+1
  for _ in [0:t] do
   if g > 1 then g:=g - 1
   setG g
   let some k ← gal false (← oq b j) a i (a.size - i) 0 | return e1 o i j
   p:=k
   if k > 0 then
    o:=o++a.extract i (i+k);i:=i+k
    if i+1 == a.size then return e2 o i j
    if i == a.size then return e1 o i j
   o:=o.push (← oq b j);j:=j+1
   if j == b.size then return e1 o i j
   let some k ← gal true (← oq a i) b j (b.size - j) 0 | return e1 o i j
   q:=k
   if k > 0 then
    o:=o++b.extract j (j+k);j:=j+k
    if j == b.size then return e1 o i j
   o:=o.push (← oq a i);i:=i+1
   if i+1 == a.size then return e2 o i j
   if p < 7&&q < 7 then break
  g:=g+1
  setG g
 yy "internal:list.sort.merge-bound"):=rfl
section
variable {prog:cw}{w:eI}{A:eo}{E:ai→ar→Prop}{s:ar}
theorem rO {st:d3}{g:Nat}{Q:Unit→d3→Prop} (h:Q () (d3.mk' (kindOf st) (bq st) (ff st) g (mE st))):wpS (bt prog w) A E s (setG g) Q st:=by
 show wpS _ _ _ _ (modify fun s=>d3.mk' (kindOf s) (bq s) (ff s) g (mE s)) _ _
 exact ub h
end
noncomputable def leK (p q:fh):Prop:=i8 p.1≤i8 q.1
noncomputable def Rs (a b r:Array fh):Prop:=r.toList.Perm (a.toList++b.toList)∧r.toList.Pairwise leK
noncomputable def Sg (st st':d3):Prop:=kindOf st'=kindOf st∧bq st'=bq st∧ff st'=ff st∧mE st'=mE st
theorem iu {a:Array fh}{i:Nat} (hi:i < a.size):K a i=i8 a[i].1:=by unfold K;rw[getElem?_pos a i hi]
theorem Seg.pw {a:Array fh} (h:Seg a 0 a.size):a.toList.Pairwise leK:=by
 rw[fR]
 intro i j hi hj hij
 have hi':i < a.size:=by simpa using hi
 have hj':j < a.size:=by simpa using hj
 have:=h i j (by omega) (by omega) hj'
 rw[iu hi',iu hj'] at this
 simpa[leK] using this
theorem YT {a:Array fh} (h:a.toList.Pairwise leK):Seg a 0 a.size:=by
 intro i j _ hij hj
 by_cases e:i=j
 · subst e;exact ma _
 · rw[fR] at h
   have:=h i j (by simpa using (by omega:i < a.size)) (by simpa using hj) (by omega)
   rw[iu (by omega),iu hj]
   simpa[leK] using this
theorem qe {a:Array fh}{i:Nat}{y:fh} (h:y∈a.toList.drop i):∃x,i≤x∧x < a.size∧i8 y.1=K a x:=by
 obtain ⟨n,hn,rfl⟩:=eS.mp h
 have hn':i+n < a.size:=by simp at hn;omega
 refine ⟨i+n,by omega,hn',?_⟩
 rw[iu hn']
 simp
theorem p7 {a:Array fh}{i k:Nat}{y:fh} (h:y∈(a.toList.drop i).take k):∃x,i≤x∧x < i+k∧x < a.size∧i8 y.1=K a x:=by
 obtain ⟨n,hn,rfl⟩:=eS.mp h
 have hn':n < k∧i+n < a.size:=by simp at hn;omega
 refine ⟨i+n,by omega,by omega,hn'.2,?_⟩
 rw[iu hn'.2]
 simp
section
variable {a b o:Array fh}{i j k:Nat}
theorem Ft (h:Jn leK a.toList b.toList o.toList i j) (sa:Seg a 0 a.size) (sb:Seg b 0 b.size) (hj:j < b.size) (hk:∀x,i≤x→x < i+k→K a x≤K b j):Jn leK a.toList b.toList (o++a.extract i (i+k)).toList (i+k) j:=by
 have e:(o++a.extract i (i+k)).toList=o.toList++(a.toList.drop i).take k:=by simp[fk]
 rw[e]
 refine h.step sa.pw fun x hx y hy=>?_
 obtain ⟨u,u1,u2,u3,u4⟩:=p7 hx
 obtain ⟨v,v1,v2,v3⟩:=qe hy
 unfold leK
 rw[u4,v3]
 exact gS (hk u u1 u2) (sb j v (iE _) v1 v2)
theorem Wv (h:Jn leK a.toList b.toList o.toList i j) (sa:Seg a 0 a.size) (sb:Seg b 0 b.size) (hi:i < a.size) (hk:∀x,j≤x→x < j+k→K b x≤K a i):Jn leK a.toList b.toList (o++b.extract j (j+k)).toList i (j+k):=
 (Ft h.swap sb sa hi hk).swap
theorem SJ {i:Nat} (hi:i < a.size):o.push a[i]=o++a.extract i (i+1):=by
 apply ui.mp
 simp[fk,kq,hi]
theorem DG (h:Jn leK a.toList b.toList o.toList i j) (sa:Seg a 0 a.size) (sb:Seg b 0 b.size) (hj:j < b.size) (hi:i < a.size) (hk:K a i≤K b j):Jn leK a.toList b.toList (o.push a[i]).toList (i+1) j:=by
 rw[SJ hi]
 exact Ft h sa sb hj fun x h1 h2=>by rw[show x=i by omega];exact hk
theorem Nj (h:Jn leK a.toList b.toList o.toList i j) (sa:Seg a 0 a.size) (sb:Seg b 0 b.size) (hi:i < a.size) (hj:j < b.size) (hk:K b j≤K a i):Jn leK a.toList b.toList (o.push b[j]).toList i (j+1):=
 (DG h.swap sb sa hi hj hk).swap
theorem yp (h:Jn leK a.toList b.toList o.toList i j) (sa:Seg a 0 a.size) (sb:Seg b 0 b.size) (he:i=a.size∨j=b.size):Rs a b (o++a.extract i a.size++b.extract j b.size):=by
 have e:(o++a.extract i a.size++b.extract j b.size).toList=o.toList++a.toList.drop i++b.toList.drop j:=by
  simp[fk,fz]
 unfold Rs
 rw[e]
 refine h.fin sa.pw sb.pw fun x hx y hy=>?_
 rcases he with rfl | rfl
 · rw[AM (by simp)] at hx;cases hx
 · rw[AM (by simp)] at hy;cases hy
theorem Df (h:Jn leK a.toList b.toList o.toList i j) (sa:Seg a 0 a.size) (sb:Seg b 0 b.size) (he:i+1=a.size) (hl:∀x,x < b.size→K b x≤K a (a.size - 1)):Rs a b (o++b.extract j b.size++a.extract i a.size):=by
 have e:(o++b.extract j b.size++a.extract i a.size).toList=o.toList++b.toList.drop j++a.toList.drop i:=by
  simp[fk,fz]
 unfold Rs
 rw[e]
 have f:=h.swap.fin sb.pw sa.pw fun x hx y hy=>by
  obtain ⟨u,u1,u2,u3⟩:=qe hx
  obtain ⟨v,v1,v2,v3⟩:=qe hy
  unfold leK
  rw[u3,v3,show v=a.size - 1 by omega]
  exact hl u u2
 exact ⟨f.1.trans ku,f.2⟩
end
theorem vJ {x y:Int}:byd true x y=true↔y < x:=by simp[byd]
theorem yL {x y:Int}:byd false x y=true↔y≤x:=by simp[byd]
theorem uJ {x y:Int}:byd true x y=false↔x≤y:=by simp[byd]
theorem yU {x y:Int}:byd false x y=false↔x < y:=by simp[byd]
theorem Seg.sub {a:Array fh}{lo hi lo' hi':Nat} (h:Seg a lo hi) (h1:lo≤lo') (h2:hi'≤hi):Seg a lo' hi':=fun i j q1 q2 q3=>h i j (by omega) q2 (by omega)
section
variable {prog:cw}{w:eI}{A:eo}{E:ai→ar→Prop}{s:ar}
theorem Th {β:Type}{c:Prop} [Decidable c] {g1 g2:Nat}{R:Nat→StateT d3 Sem β}{Q:β→d3→Prop}{st:d3} (h:∀g,wpS (bt prog w) A E s (setG g >>= fun _=>R g) Q st) :
 wpS (bt prog w) A E s (if c then setG g1 >>= fun _=>R g1 else setG g2 >>= fun _=>R g2) Q st:=by
 split
 · exact h g1
 · exact h g2
theorem yC {β:Type}{m m':StateT d3 Sem β}{Q:β→d3→Prop}{st:d3} (e:m=m') (h:wpS (bt prog w) A E s m Q st):wpS (bt prog w) A E s m' Q st:=e ▸ h
noncomputable abbrev LoT:=Option (Array fh)×Array fh×Nat×Nat×Nat×Nat×Nat
noncomputable def loC (a b o:Array fh) (i j g p q:Nat):StateT d3 Sem (ForInStep LoT):=do
 let y ← oq a i
 if (i+1+1 == a.size)=true then pure (.done (some (o.push y++b.extract j b.size++a.extract (i+1) a.size),o.push y,i+1,j,g,p,q))
 else if (decide (p < 7)&&decide (q < 7))=true then pure (.done (none,o.push y,i+1,j,g,p,q))
 else pure (.yield (none,o.push y,i+1,j,g,p,q))
noncomputable def loB (a b o:Array fh) (i j g p q:Nat):StateT d3 Sem (ForInStep LoT):=do
 let x ← oq b j
 if (j+1 == b.size)=true then pure (.done (some (o.push x++a.extract i a.size++b.extract (j+1) b.size),o.push x,i,j+1,g,p,q))
 else do
  let y ← oq a i
  let z ← gal true y b (j+1) (b.size - (j+1)) 0
  match z with
  | some k=>
   if k > 0 then
    if (j+1+k == b.size)=true then pure (.done (some (o.push x++b.extract (j+1) (j+1+k)++a.extract i a.size++b.extract (j+1+k) b.size),o.push x++b.extract (j+1) (j+1+k),i,j+1+k,g,p,k))
    else loC a b (o.push x++b.extract (j+1) (j+1+k)) i (j+1+k) g p k
   else loC a b (o.push x) i (j+1) g p k
  | _=>pure (.done (some (o.push x++a.extract i a.size++b.extract (j+1) b.size),o.push x,i,j+1,g,p,q))
theorem Ij {st:d3}{a b o:Array fh}{i j g p q X:Nat}{Q:ForInStep LoT→d3→Prop} (sa:Seg a 0 a.size) (sb:Seg b 0 b.size) (hl:∀x,x < b.size→K b x≤K a (a.size - 1))
 (J:Jn leK a.toList b.toList o.toList i j) (h1:i+1 < a.size) (h2:j < b.size) (h3:X≤i+j) (hk:K a i≤K b j) (hd:∀r o i j g p q,Rs a b r→Q (.done (some r,o,i,j,g,p,q)) st)
 (hx:∀o i j g p q,Jn leK a.toList b.toList o.toList i j→i+1 < a.size→j < b.size→X≤i+j→Q (.done (none,o,i,j,g,p,q)) st∧Q (.yield (none,o,i,j,g,p,q)) st) :
 wpS (bt prog w) A E s (loC a b o i j g p q) Q st:=by
 unfold loC
 refine br (dH (yA h1) ?_)
 have J5:=DG J sa sb h2 (yA h1) hk
 by_cases c5:i+1+1=a.size
 · rw[if_pos (by simpa using c5)]
   exact cp (hd _ _ _ _ _ _ _ (Df J5 sa sb c5 hl))
 · rw[if_neg (by simpa using c5)]
   have z:=hx (o.push a[i]) (i+1) j g p q J5 (Nat.lt_of_le_of_ne h1 c5) h2 (by omega)
   split
   · exact cp z.1
   · exact cp z.2
theorem HF {st:d3}{a b o:Array fh}{i j g p q X:Nat}{Q:ForInStep LoT→d3→Prop} (hkd:kindOf st=rk) (ka:IntKeys a) (kb:IntKeys b) (sa:Seg a 0 a.size) (sb:Seg b 0 b.size) (hl:∀x,x < b.size→K b x≤K a (a.size - 1))
 (J:Jn leK a.toList b.toList o.toList i j) (h1:i+1 < a.size) (h2:j < b.size) (h3:X≤i+j) (hk:K b j≤K a i) (hd:∀r o i j g p q,Rs a b r→Q (.done (some r,o,i,j,g,p,q)) st)
 (hx:∀o i j g p q,Jn leK a.toList b.toList o.toList i j→i+1 < a.size→j < b.size→X≤i+j→Q (.done (none,o,i,j,g,p,q)) st∧Q (.yield (none,o,i,j,g,p,q)) st) :
 wpS (bt prog w) A E s (loB a b o i j g p q) Q st:=by
 unfold loB
 have hi:=yA h1
 refine br (dH h2 ?_)
 have J3:=Nj J sa sb hi h2 hk
 by_cases c3:j+1=b.size
 · rw[if_pos (by simpa using c3)]
   exact cp (hd _ _ _ _ _ _ _ (yp J3 sa sb (.inr c3)))
 · rw[if_neg (by simpa using c3)]
   have h2':j+1 < b.size:=Nat.lt_of_le_of_ne h2 c3
   refine br (dH hi ?_)
   refine br (oZ hkd (ka _ (by simp)) kb (by omega) (by omega) (sb.sub (iE _) (by omega)) fun k' w1 w2 w3=>?_)
   dsimp only
   rw[← iu hi] at w2 w3
   have J4':=Wv (k:=k') J3 sa sb hi (fun x q1 q2=>by have:=vJ.mp (w2 (x - (j+1)) (by omega));rw[show j+1+(x - (j+1))=x by omega] at this;omega)
   split
   · by_cases c6:j+1+k'=b.size
     · rw[if_pos (by simpa using c6)]
       exact cp (hd _ _ _ _ _ _ _ (yp J4' sa sb (.inr c6)))
     · rw[if_neg (by simpa using c6)]
       exact Ij sa sb hl J4' h1 (by omega) (by omega) (uJ.mp (w3 k' (aE _) (by omega))) hd hx
   · exact Ij sa sb hl J3 h1 h2' (by omega) (uJ.mp (w3 0 (by omega) (by omega))) hd hx
theorem Uo {st:d3}{a b:Array fh}{Q:Array fh→d3→Prop} (hk:kindOf st=rk) (ka:IntKeys a) (kb:IntKeys b) (sa:Seg a 0 a.size) (sb:Seg b 0 b.size)
 (ha:1≤a.size) (hb:1≤b.size) (hba:K b 0≤K a 0) (hl:∀x,x < b.size→K b x≤K a (a.size - 1)) (h:∀r st',Sg st st'→Rs a b r→Q r st'):wpS (bt prog w) A E s (mLo a b) Q st:=by
 rw[YB]
 dsimp only
 refine br (As (i4 ⟨rfl,?_⟩))
 refine br (dH (by omega) ?_)
 have J0:Jn leK a.toList b.toList (#[b[0]]:Array fh).toList 0 1:=by
  refine Jn.first (b:=b[0]) ?_ sb.pw fun x hx=>?_
  · simp
  · obtain ⟨u,u1,u2,u3⟩:=qe (i:=0) (by simpa using hx)
    unfold leK
    rw[u3,← iu (by omega)]
    exact gS hba (sa 0 u (by omega) (by omega) u2)
 have S0:Sg st st:=⟨rfl,rfl,rfl,rfl⟩
 by_cases c1:1=b.size
 · rw[if_pos (by simpa using c1)]
   exact cp (h _ _ S0 (yp J0 sa sb (.inr c1)))
 rw[if_neg (by simpa using c1)]
 by_cases c2:0+1=a.size
 · rw[if_pos (by simpa using c2)]
   exact cp (h _ _ S0 (Df J0 sa sb c2 hl))
 rw[if_neg (by simpa using c2)]
 refine br (yi ?_)
 refine br (ot (hV (I:=fun x c b'=>Sg st b'∧∃o i j g,c=(none,o,i,j,g)∧Jn leK a.toList b.toList o.toList i j∧i+1 < a.size∧j < b.size∧x+1≤i+j)
  (Q:=fun c b'=>Sg st b'∧∃r o i j g,c=(some r,o,i,j,g)∧Rs a b r) ?step ?fin ⟨S0,_,_,_,_,rfl,J0,by omega,by omega,by omega⟩) ?post)
 case post=>
  rintro c b' ⟨S1,r,o,i,j,g,rfl,hr⟩
  exact cp (h _ _ S1 hr)
 case fin=>
  rintro c b' ⟨S1,o,i,j,g,rfl,J,q1,q2,q3⟩
  omega
 case step=>
  rintro x c b' _ hx ⟨S1,o,i,j,g,rfl,J,q1,q2,q3⟩
  dsimp only
  refine br (ot (hV (I:=fun y c b'=>Sg st b'∧∃o i j p q,c=(none,o,i,j,p,q)∧Jn leK a.toList b.toList o.toList i j∧i+1 < a.size∧j < b.size∧x+1+y≤i+j)
   (Q:=fun c b'=>Sg st b'∧((∃o i j p q,c=(none,o,i,j,p,q)∧Jn leK a.toList b.toList o.toList i j∧i+1 < a.size∧j < b.size∧x+2≤i+j)∨∃r o i j p q,c=(some r,o,i,j,p,q)∧Rs a b r)) ?step1 ?Qt ⟨S1,_,_,_,_,_,rfl,J,by omega,by omega,by omega⟩) ?JB)
  case Qt=>
   rintro c b' ⟨S2,o,i,j,p,q,rfl,J,q1,q2,q3⟩
   exact ⟨S2,.inl ⟨_,_,_,_,_,rfl,J,q1,q2,by omega⟩⟩
  case step1=>
   rintro y c b' _ hy ⟨S2,o,i,j,p,q,rfl,J,q1,q2,q3⟩
   dsimp only
   refine br (dH (by omega) ?_)
   refine br (dH (by omega) ?_)
   refine br (wu (S2.1.trans hk) (kb _ (by simp)) (ka _ (by simp)) ?_)
   rw[← iu (by omega),← iu (by omega)]
   dsimp only
   by_cases c3:K b j < K a i
   · rw[if_pos (by simpa using c3)]
     refine br (dH (by omega) ?_)
     have J2:=Nj J sa sb (by omega) (by omega) (gy c3)
     by_cases c4:j+1=b.size
     · rw[if_pos (by simpa using c4)]
       exact cp ⟨S2,.inr ⟨_,_,_,_,_,_,rfl,yp J2 sa sb (.inr c4)⟩⟩
     · rw[if_neg (by simpa using c4)]
       split
       · exact cp ⟨S2,.inl ⟨_,_,_,_,_,rfl,J2,by omega,by omega,by omega⟩⟩
       · exact cp ⟨S2,_,_,_,_,_,rfl,J2,by omega,by omega,by omega⟩
   · rw[if_neg (by simpa using c3)]
     refine br (dH (by omega) ?_)
     have J2:=DG J sa sb (by omega) (by omega) (AL.mp c3)
     by_cases c4:i+1+1=a.size
     · rw[if_pos (by simpa using c4)]
       exact cp ⟨S2,.inr ⟨_,_,_,_,_,_,rfl,Df J2 sa sb c4 hl⟩⟩
     · rw[if_neg (by simpa using c4)]
       split
       · exact cp ⟨S2,.inl ⟨_,_,_,_,_,rfl,J2,by omega,by omega,by omega⟩⟩
       · exact cp ⟨S2,_,_,_,_,_,rfl,J2,by omega,by omega,by omega⟩
  case JB=>
   rintro c b' ⟨S2,⟨o,i,j,p,q,rfl,J,q1,q2,q3⟩ | ⟨r,o,i,j,p,q,rfl,hr⟩⟩
   rotate_left
   · exact cp ⟨S2,_,_,_,_,_,rfl,hr⟩
   dsimp only
   refine br (As (i4 ⟨rfl,?_⟩))
   refine br (ot (hV (I:=fun y c b'=>Sg st b'∧∃o i j g p q,c=(none,o,i,j,g,p,q)∧Jn leK a.toList b.toList o.toList i j∧i+1 < a.size∧j < b.size∧x+2≤i+j)
    (Q:=fun c b'=>Sg st b'∧((∃o i j g p q,c=(none,o,i,j,g,p,q)∧Jn leK a.toList b.toList o.toList i j∧i+1 < a.size∧j < b.size∧x+2≤i+j)∨∃r o i j g p q,c=(some r,o,i,j,g,p,q)∧Rs a b r)) ?JH ?fin2 ⟨S2,_,_,_,_,_,_,rfl,J,by omega,by omega,by omega⟩) ?post2)
   case fin2=>
    rintro c b' ⟨S2,o,i,j,g,p,q,rfl,J,q1,q2,q3⟩
    exact ⟨S2,.inl ⟨_,_,_,_,_,_,rfl,J,q1,q2,q3⟩⟩
   case post2=>
    rintro c b' ⟨S2,⟨o,i,j,g,p,q,rfl,J,q1,q2,q3⟩ | ⟨r,o,i,j,g,p,q,rfl,hr⟩⟩
    · exact br (rO (cp ⟨S2,_,_,_,_,rfl,J,by omega,by omega,by omega⟩))
    · exact cp ⟨S2,_,_,_,_,_,rfl,hr⟩
   case JH=>
    rintro y c b' _ hy ⟨S2',o,i,j,g,p,q,rfl,J,q1,q2,q3⟩
    dsimp only
    generalize hg1:g - 1=g1
    apply Th
    intro g'
    refine br (rO ?_)
    have S2:Sg st (d3.mk' (kindOf b') (bq b') (ff b') g' (mE b')):=S2'
    refine br (dH (by omega) ?_)
    refine br (oZ (S2.1.trans hk) (kb _ (by simp)) ka (by omega) (by omega) (sa.sub (by omega) (by omega)) fun k v1 v2 v3=>?_)
    dsimp only
    rw[← iu (by omega)] at v2 v3
    have J2':=Ft (k:=k) J sa sb (by omega) (fun x h1 h2=>by have:=yL.mp (v2 (x - i) (by omega));rw[show i+(x - i)=x by omega] at this;omega)
    by_cases c1:k > 0
    · rw[if_pos c1]
      by_cases c2:i+k+1=a.size
      · rw[if_pos (by simpa using c2)]
        exact cp ⟨S2,.inr ⟨_,_,_,_,_,_,_,rfl,Df J2' sa sb c2 hl⟩⟩
      · rw[if_neg (by simpa using c2)]
        by_cases c7:i+k=a.size
        · rw[if_pos (by simpa using c7)]
          exact cp ⟨S2,.inr ⟨_,_,_,_,_,_,_,rfl,yp J2' sa sb (.inl c7)⟩⟩
        · rw[if_neg (by simpa using c7)]
          refine yC (m:=loB a b (o++a.extract i (i+k)) (i+k) j g' k q) (by kernel_rfl) (HF (X:=x+2) (S2.1.trans hk) ka kb sa sb hl J2' (by omega) q2 (by omega) (gy (yU.mp (v3 k (aE _) (by omega)))) (fun r _ _ _ _ _ _ hr=>⟨S2,.inr ⟨_,_,_,_,_,_,_,rfl,hr⟩⟩) fun o i j g p q z1 z2 z3 z4=>⟨⟨S2,.inl ⟨_,_,_,_,_,_,rfl,z1,z2,z3,z4⟩⟩,S2,_,_,_,_,_,_,rfl,z1,z2,z3,z4⟩)
    · rw[if_neg c1]
      refine yC (m:=loB a b o i j g' k q) (by kernel_rfl) (HF (X:=x+2) (S2.1.trans hk) ka kb sa sb hl J q1 q2 q3 (gy (yU.mp (v3 0 (by omega) (by omega)))) (fun r _ _ _ _ _ _ hr=>⟨S2,.inr ⟨_,_,_,_,_,_,_,rfl,hr⟩⟩) fun o i j g p q z1 z2 z3 z4=>⟨⟨S2,.inl ⟨_,_,_,_,_,_,rfl,z1,z2,z3,z4⟩⟩,S2,_,_,_,_,_,_,rfl,z1,z2,z3,z4⟩)
end
theorem YZ (a b:Array fh):mHi a b=(do
 rule "list.sort.merge-hi"
 let t:=a.size+b.size
 let e1 (o:Array fh) (i j:Nat):=a.extract 0 i++b.extract 0 j++o.reverse
 let e2 (o:Array fh) (i j:Nat):=b.extract 0 j++a.extract 0 i++o.reverse
 let mut i:=a.size - 1
 let mut j:=b.size
 let mut o:Array fh:=#[← oq a i]
 if i == 0 then return e1 o i j
 if j == 1 then return e2 o i j
 let mut g:=gallopOf (← get)
 for _ in [0:t] do
  let mut p:=0
  let mut q:=0
  for _ in [0:t] do
   let some r ← lt' (← oq b (j - 1)) (← oq a (i - 1)) | return e1 o i j
   if r then
    i:=i - 1;o:=o.push (← oq a i);p:=p+1;q:=0
    if i == 0 then return e1 o i j
    if p≥g then break
   else
    j:=j - 1;o:=o.push (← oq b j);q:=q+1;p:=0
    if j == 1 then return e2 o i j
    if q≥g then break
  rule "list.sort.gallop"
  g:=g+1
  for _ in [0:t] do
   if g > 1 then g:=g - 1
   setG g
   let some z ← gal false (← oq b (j - 1)) a 0 i (i - 1) | return e1 o i j
   let k:=i - z
   p:=k
   if k > 0 then
    o:=o++(a.extract z i).reverse;i:=z
    if i == 0 then return e1 o i j
   j:=j - 1;o:=o.push (← oq b j)
   if j == 1 then return e2 o i j
   let some z ← gal true (← oq a (i - 1)) b 0 j (j - 1) | return e1 o i j
   let k:=j - z
   q:=k
   if k > 0 then
    o:=o++(b.extract z j).reverse;j:=z
    if j == 1 then return e2 o i j
    if j == 0 then return e1 o i j
   i:=i - 1;o:=o.push (← oq a i)
   if i == 0 then return e1 o i j
   if p < 7&&q < 7 then break
  g:=g+1
  setG g
 yy "internal:list.sort.merge-bound"):=rfl
noncomputable def geK (p q:fh):Prop:=leK q p
noncomputable def Jh (a b o:Array fh) (i j:Nat):Prop:=Jn geK a.toList.reverse b.toList.reverse o.toList (a.size - i) (b.size - j)
theorem Seg.wp {a:Array fh} (h:Seg a 0 a.size):a.toList.reverse.Pairwise geK:=List.pairwise_reverse.mpr h.pw
theorem mO {a:Array fh}{i:Nat} (hi:i≤a.size):a.toList.reverse.drop (a.size - i)=(a.toList.take i).reverse:=by
 rw[List.drop_reverse]
 congr 2
 simp
 omega
theorem Dk {a:Array fh}{i z:Nat} (hi:i≤a.size) (hz:z≤i):(a.toList.reverse.drop (a.size - i)).take (i - z)=(a.extract z i).reverse.toList:=by
 rw[mO hi,List.take_reverse,Array.toList_reverse,qr]
 congr 1
 have e:(a.toList.take i).length - (i - z)=z:=by simp;omega
 rw[e,fk,List.drop_take]
theorem uR {a:Array fh}{i:Nat}{y:fh} (h:y∈(a.toList.take i).reverse):∃x,x < i∧x < a.size∧i8 y.1=K a x:=by
 obtain ⟨x,_,h1,h2,h3⟩:=p7 (i:=0) (k:=i) (by simpa using h)
 exact ⟨x,by omega,h2,h3⟩
section
variable {a b o:Array fh}{i j z:Nat}
theorem Fi (h:Jh a b o i j) (sa:Seg a 0 a.size) (sb:Seg b 0 b.size) (hi:i≤a.size) (hj:j≤b.size) (hj1:1≤j) (hz:z≤i) (hk:∀x,z≤x→x < i→K b (j - 1)≤K a x):Jh a b (o++(a.extract z i).reverse) z j:=by
 have e:(o++(a.extract z i).reverse).toList=o.toList++(a.toList.reverse.drop (a.size - i)).take (i - z):=by rw[Dk hi hz];simp
 unfold Jh
 rw[e,show a.size - z=a.size - i+(i - z) by omega]
 refine Jn.step h sa.wp fun x hx y hy=>?_
 rw[Dk hi hz] at hx
 rw[mO hj] at hy
 obtain ⟨u,u1,u2,u3,u4⟩:=p7 (a:=a) (i:=z) (k:=i - z) (y:=x) (by simpa[fk] using hx)
 obtain ⟨v,v1,v2,v3⟩:=uR hy
 unfold geK leK
 rw[u4,v3]
 exact gS (sb v (j - 1) (iE _) (by omega) (by omega)) (hk u u1 (by omega))
theorem Jh.swap (h:Jh a b o i j):Jh b a o j i:=Jn.swap h
theorem XD (h:Jh a b o i j) (sa:Seg a 0 a.size) (sb:Seg b 0 b.size) (hi:i≤a.size) (hj:j≤b.size) (hi1:1≤i) (hz:z≤j) (hk:∀x,z≤x→x < j→K a (i - 1)≤K b x):Jh a b (o++(b.extract z j).reverse) i z:=
 (Fi h.swap sb sa hj hi hi1 hz hk).swap
theorem Pj (hi:i < a.size):o.push a[i]=o++(a.extract i (i+1)).reverse:=by
 apply ui.mp
 simp[fk,kq,hi]
theorem yP (h:Jh a b o i j) (sa:Seg a 0 a.size) (sb:Seg b 0 b.size) (hi:i≤a.size) (hj:j≤b.size) (hj1:1≤j) (hi1:1≤i) (hp:i - 1 < a.size) (hk:K b (j - 1)≤K a (i - 1)):Jh a b (o.push a[i - 1]) (i - 1) j:=by
 rw[Pj hp,show i - 1+1=i by omega]
 exact Fi h sa sb hi hj hj1 (by omega) fun x h1 h2=>by rw[show x=i - 1 by omega];exact hk
theorem Lw (h:Jh a b o i j) (sa:Seg a 0 a.size) (sb:Seg b 0 b.size) (hi:i≤a.size) (hj:j≤b.size) (hi1:1≤i) (hj1:1≤j) (hp:j - 1 < b.size) (hk:K a (i - 1)≤K b (j - 1)):Jh a b (o.push b[j - 1]) i (j - 1):=
 (yP h.swap sb sa hj hi hi1 hj1 hp hk).swap
theorem hfin (h:Jh a b o i j) (sa:Seg a 0 a.size) (sb:Seg b 0 b.size) (hi:i≤a.size) (hj:j≤b.size) (hk:∀x y,x < i→y < j→K a x≤K b y):Rs a b (a.extract 0 i++b.extract 0 j++o.reverse):=by
 have f:=Jn.fin h.swap sb.wp sa.wp fun x hx y hy=>by
  rw[mO hj] at hx
  rw[mO hi] at hy
  obtain ⟨u,u1,u2,u3⟩:=uR hx
  obtain ⟨v,v1,v2,v3⟩:=uR hy
  unfold geK leK
  rw[u3,v3]
  exact hk v u v1 u1
 rw[mO hj,mO hi] at f
 have e:(a.extract 0 i++b.extract 0 j++o.reverse).toList=(o.toList++(b.toList.take j).reverse++(a.toList.take i).reverse).reverse:=by
  simp[fk]
 unfold Rs
 rw[e]
 refine ⟨(yB _).trans (f.1.trans ?_),List.pairwise_reverse.mpr f.2⟩
 exact ((yB _).append (yB _)).trans ku
theorem yX (h:Jh a b o i j) (sa:Seg a 0 a.size) (sb:Seg b 0 b.size) (hi:i≤a.size) (hj:j≤b.size) (he:i=0∨j=0):Rs a b (a.extract 0 i++b.extract 0 j++o.reverse):=
 hfin h sa sb hi hj fun x y hx hy=>by omega
theorem Rs.swap {r:Array fh} (h:Rs b a r):Rs a b r:=⟨h.1.trans ku,h.2⟩
theorem CV (h:Jh a b o i j) (sa:Seg a 0 a.size) (sb:Seg b 0 b.size) (hi:i≤a.size) (hj:j≤b.size) (he:j=1) (hba:∀x,x < a.size→K b 0≤K a x):Rs a b (b.extract 0 j++a.extract 0 i++o.reverse):=
 (hfin h.swap sb sa hj hi fun x y hx hy=>by rw[show x=0 by omega];exact hba y (by omega)).swap
end
section
variable {prog:cw}{w:eI}{A:eo}{E:ai→ar→Prop}{s:ar}
noncomputable abbrev HiT:=Option (Array fh)×Nat×Nat×Array fh×Nat×Nat×Nat
noncomputable def hiC (a b o:Array fh) (i j g p q:Nat):StateT d3 Sem (ForInStep HiT):=do
 let y ← oq a (i - 1)
 if (i - 1 == 0)=true then pure (.done (some (a.extract 0 (i - 1)++b.extract 0 j++(o.push y).reverse),i - 1,j,o.push y,g,p,q))
 else if (decide (p < 7)&&decide (q < 7))=true then pure (.done (none,i - 1,j,o.push y,g,p,q))
 else pure (.yield (none,i - 1,j,o.push y,g,p,q))
noncomputable def hiB (a b o:Array fh) (i j g p q:Nat):StateT d3 Sem (ForInStep HiT):=do
 let x ← oq b (j - 1)
 if (j - 1 == 1)=true then pure (.done (some (b.extract 0 (j - 1)++a.extract 0 i++(o.push x).reverse),i,j - 1,o.push x,g,p,q))
 else do
  let y ← oq a (i - 1)
  let z ← gal true y b 0 (j - 1) (j - 1 - 1)
  match z with
  | some z=>
   if j - 1 - z > 0 then
    if (z == 1)=true then pure (.done (some (b.extract 0 z++a.extract 0 i++(o.push x++(b.extract z (j - 1)).reverse).reverse),i,z,o.push x++(b.extract z (j - 1)).reverse,g,p,j - 1 - z))
    else if (z == 0)=true then pure (.done (some (a.extract 0 i++b.extract 0 z++(o.push x++(b.extract z (j - 1)).reverse).reverse),i,z,o.push x++(b.extract z (j - 1)).reverse,g,p,j - 1 - z))
    else hiC a b (o.push x++(b.extract z (j - 1)).reverse) i z g p (j - 1 - z)
   else hiC a b (o.push x) i (j - 1) g p (j - 1 - z)
  | _=>pure (.done (some (a.extract 0 i++b.extract 0 (j - 1)++(o.push x).reverse),i,j - 1,o.push x,g,p,q))
theorem HB {st:d3}{a b o:Array fh}{i j g p q X:Nat}{Q:ForInStep HiT→d3→Prop} (sa:Seg a 0 a.size) (sb:Seg b 0 b.size)
 (J:Jh a b o i j) (h1:1≤i) (h2:i≤a.size) (h3:2≤j) (h4:j≤b.size) (h5:X+i+j≤a.size+b.size) (hk:K b (j - 1)≤K a (i - 1)) (hd:∀r i j o g p q,Rs a b r→Q (.done (some r,i,j,o,g,p,q)) st)
 (hx:∀i j o g p q,Jh a b o i j→1≤i→i≤a.size→2≤j→j≤b.size→X+i+j≤a.size+b.size→Q (.done (none,i,j,o,g,p,q)) st∧Q (.yield (none,i,j,o,g,p,q)) st) :
 wpS (bt prog w) A E s (hiC a b o i j g p q) Q st:=by
 unfold hiC
 have hi:i - 1 < a.size:=by omega
 refine br (dH hi ?_)
 have J5:=yP J sa sb h2 h4 (yT h3) h1 hi hk
 by_cases c5:i - 1=0
 · rw[if_pos (by simpa using c5)]
   exact cp (hd _ _ _ _ _ _ _ (yX J5 sa sb (fF hi) h4 (.inl c5)))
 · rw[if_neg (by simpa using c5)]
   have z:=hx (i - 1) j (o.push a[i - 1]) g p q J5 (xa c5) (fF hi) h3 h4 (by omega)
   split
   · exact cp z.1
   · exact cp z.2
theorem HJ {st:d3}{a b o:Array fh}{i j g p q X:Nat}{Q:ForInStep HiT→d3→Prop} (hkd:kindOf st=rk) (ka:IntKeys a) (kb:IntKeys b) (sa:Seg a 0 a.size) (sb:Seg b 0 b.size) (hba:∀x,x < a.size→K b 0≤K a x)
 (J:Jh a b o i j) (h1:1≤i) (h2:i≤a.size) (h3:2≤j) (h4:j≤b.size) (h5:X+i+j≤a.size+b.size) (hk:K a (i - 1)≤K b (j - 1)) (hd:∀r i j o g p q,Rs a b r→Q (.done (some r,i,j,o,g,p,q)) st)
 (hx:∀i j o g p q,Jh a b o i j→1≤i→i≤a.size→2≤j→j≤b.size→X+i+j≤a.size+b.size→Q (.done (none,i,j,o,g,p,q)) st∧Q (.yield (none,i,j,o,g,p,q)) st) :
 wpS (bt prog w) A E s (hiB a b o i j g p q) Q st:=by
 unfold hiB
 have hi:i - 1 < a.size:=by omega
 have hj:j - 1 < b.size:=by omega
 refine br (dH hj ?_)
 have J3:=Lw J sa sb h2 h4 h1 (yT h3) hj hk
 by_cases c3:j - 1=1
 · rw[if_pos (by simpa using c3)]
   exact cp (hd _ _ _ _ _ _ _ (CV J3 sa sb h2 (fF hj) c3 hba))
 · rw[if_neg (by simpa using c3)]
   refine br (dH hi ?_)
   refine br (oZ hkd (ka _ (by simp)) kb (by omega) (by omega) (sb.sub (aE _) (by omega)) fun z' w1 w2 w3=>?_)
   dsimp only
   rw[← iu hi] at w2 w3
   simp only[qV] at w2 w3
   have J4':=XD (z:=z') J3 sa sb h2 (fF hj) h1 w1 (fun x h1 h2=>uJ.mp (w3 x h1 h2))
   split
   · by_cases c6:z'=1
     · rw[if_pos (by simpa using c6)]
       exact cp (hd _ _ _ _ _ _ _ (CV J4' sa sb h2 (by omega) c6 hba))
     · rw[if_neg (by simpa using c6)]
       by_cases c8:z'=0
       · rw[if_pos (by simpa using c8)]
         exact cp (hd _ _ _ _ _ _ _ (yX J4' sa sb h2 (by omega) (.inr c8)))
       · rw[if_neg (by simpa using c8)]
         exact HB sa sb J4' h1 h2 (by omega) (by omega) (by omega) (gy (vJ.mp (w2 (z' - 1) (by omega)))) hd hx
   · exact HB sa sb J3 h1 h2 (by omega) (by omega) (by omega) (gy (vJ.mp (w2 (j - 1 - 1) (by omega)))) hd hx
theorem Uc {st:d3}{a b:Array fh}{Q:Array fh→d3→Prop} (hk:kindOf st=rk) (ka:IntKeys a) (kb:IntKeys b) (sa:Seg a 0 a.size) (sb:Seg b 0 b.size)
 (ha:1≤a.size) (hb:1≤b.size) (hba:∀x,x < a.size→K b 0≤K a x) (hl:K b (b.size - 1)≤K a (a.size - 1)) (h:∀r st',Sg st st'→Rs a b r→Q r st'):wpS (bt prog w) A E s (mHi a b) Q st:=by
 rw[YZ]
 dsimp only
 refine br (As (i4 ⟨rfl,?_⟩))
 refine br (dH (by omega) ?_)
 have J0:Jh a b #[a[a.size - 1]] (a.size - 1) b.size:=by
  have z:Jh a b #[] a.size b.size:=by
   unfold Jh
   exact ⟨by simp,by simp,fun x hx=>by simp at hx,fun x hx=>by simp at hx⟩
  have:=yP z sa sb (aE _) (aE _) hb ha (by omega) hl
  simpa using this
 have S0:Sg st st:=⟨rfl,rfl,rfl,rfl⟩
 by_cases c1:a.size - 1=0
 · rw[if_pos (by simpa using c1)]
   exact cp (h _ _ S0 (yX J0 sa sb (by omega) (by omega) (.inl c1)))
 rw[if_neg (by simpa using c1)]
 by_cases c2:b.size=1
 · rw[if_pos (by simpa using c2)]
   exact cp (h _ _ S0 (CV J0 sa sb (by omega) (by omega) c2 hba))
 rw[if_neg (by simpa using c2)]
 refine br (yi ?_)
 refine br (ot (hV (I:=fun x c b'=>Sg st b'∧∃i j o g,c=(none,i,j,o,g)∧Jh a b o i j∧1≤i∧i≤a.size∧2≤j∧j≤b.size∧x+1+i+j≤a.size+b.size)
  (Q:=fun c b'=>Sg st b'∧∃r i j o g,c=(some r,i,j,o,g)∧Rs a b r) ?step ?fin ⟨S0,_,_,_,_,rfl,J0,by omega,by omega,by omega,by omega,by omega⟩) ?post)
 case post=>
  rintro c b' ⟨S1,r,i,j,o,g,rfl,hr⟩
  exact cp (h _ _ S1 hr)
 case fin=>
  rintro c b' ⟨S1,i,j,o,g,rfl,J,q1,q2,q3,q4,q5⟩
  omega
 case step=>
  rintro x c b' _ hx ⟨S1,i,j,o,g,rfl,J,q1,q2,q3,q4,q5⟩
  dsimp only
  refine br (ot (hV (I:=fun y c b'=>Sg st b'∧∃i j o p q,c=(none,i,j,o,p,q)∧Jh a b o i j∧1≤i∧i≤a.size∧2≤j∧j≤b.size∧x+1+y+i+j≤a.size+b.size)
   (Q:=fun c b'=>Sg st b'∧((∃i j o p q,c=(none,i,j,o,p,q)∧Jh a b o i j∧1≤i∧i≤a.size∧2≤j∧j≤b.size∧x+2+i+j≤a.size+b.size)∨∃r i j o p q,c=(some r,i,j,o,p,q)∧Rs a b r)) ?step1 ?Qt ⟨S1,_,_,_,_,_,rfl,J,by omega,by omega,by omega,by omega,by omega⟩) ?JB)
  case Qt=>
   rintro c b' ⟨S2,i,j,o,p,q,rfl,J,q1,q2,q3,q4,q5⟩
   exact ⟨S2,.inl ⟨_,_,_,_,_,rfl,J,q1,q2,q3,q4,by omega⟩⟩
  case step1=>
   rintro y c b' _ hy ⟨S2,i,j,o,p,q,rfl,J,q1,q2,q3,q4,q5⟩
   dsimp only
   refine br (dH (by omega) ?_)
   refine br (dH (by omega) ?_)
   refine br (wu (S2.1.trans hk) (kb _ (by simp)) (ka _ (by simp)) ?_)
   rw[← iu (by omega),← iu (by omega)]
   dsimp only
   by_cases c3:K b (j - 1) < K a (i - 1)
   · rw[if_pos (by simpa using c3)]
     refine br (dH (by omega) ?_)
     have J2:=yP J sa sb q2 q4 (by omega) q1 (by omega) (gy c3)
     by_cases c4:i - 1=0
     · rw[if_pos (by simpa using c4)]
       exact cp ⟨S2,.inr ⟨_,_,_,_,_,_,rfl,yX J2 sa sb (by omega) (by omega) (.inl c4)⟩⟩
     · rw[if_neg (by simpa using c4)]
       split
       · exact cp ⟨S2,.inl ⟨_,_,_,_,_,rfl,J2,by omega,by omega,by omega,by omega,by omega⟩⟩
       · exact cp ⟨S2,_,_,_,_,_,rfl,J2,by omega,by omega,by omega,by omega,by omega⟩
   · rw[if_neg (by simpa using c3)]
     refine br (dH (by omega) ?_)
     have J2:=Lw J sa sb q2 q4 q1 (by omega) (by omega) (AL.mp c3)
     by_cases c4:j - 1=1
     · rw[if_pos (by simpa using c4)]
       exact cp ⟨S2,.inr ⟨_,_,_,_,_,_,rfl,CV J2 sa sb (by omega) (by omega) c4 hba⟩⟩
     · rw[if_neg (by simpa using c4)]
       split
       · exact cp ⟨S2,.inl ⟨_,_,_,_,_,rfl,J2,by omega,by omega,by omega,by omega,by omega⟩⟩
       · exact cp ⟨S2,_,_,_,_,_,rfl,J2,by omega,by omega,by omega,by omega,by omega⟩
  case JB=>
   rintro c b' ⟨S2,⟨i,j,o,p,q,rfl,J,q1,q2,q3,q4,q5⟩ | ⟨r,i,j,o,p,q,rfl,hr⟩⟩
   rotate_left
   · exact cp ⟨S2,_,_,_,_,_,rfl,hr⟩
   dsimp only
   refine br (As (i4 ⟨rfl,?_⟩))
   refine br (ot (hV (I:=fun y c b'=>Sg st b'∧∃i j o g p q,c=(none,i,j,o,g,p,q)∧Jh a b o i j∧1≤i∧i≤a.size∧2≤j∧j≤b.size∧x+2+i+j≤a.size+b.size)
    (Q:=fun c b'=>Sg st b'∧((∃i j o g p q,c=(none,i,j,o,g,p,q)∧Jh a b o i j∧1≤i∧i≤a.size∧2≤j∧j≤b.size∧x+2+i+j≤a.size+b.size)∨∃r i j o g p q,c=(some r,i,j,o,g,p,q)∧Rs a b r)) ?JH ?fin2 ⟨S2,_,_,_,_,_,_,rfl,J,by omega,by omega,by omega,by omega,by omega⟩) ?post2)
   case fin2=>
    rintro c b' ⟨S2,i,j,o,g,p,q,rfl,J,q1,q2,q3,q4,q5⟩
    exact ⟨S2,.inl ⟨_,_,_,_,_,_,rfl,J,q1,q2,q3,q4,q5⟩⟩
   case post2=>
    rintro c b' ⟨S2,⟨i,j,o,g,p,q,rfl,J,q1,q2,q3,q4,q5⟩ | ⟨r,i,j,o,g,p,q,rfl,hr⟩⟩
    · exact br (rO (cp ⟨S2,_,_,_,_,rfl,J,by omega,by omega,by omega,by omega,by omega⟩))
    · exact cp ⟨S2,_,_,_,_,_,rfl,hr⟩
   case JH=>
    rintro y c b' _ hy ⟨S2',i,j,o,g,p,q,rfl,J,q1,q2,q3,q4,q5⟩
    dsimp only
    generalize hg1:g - 1=g1
    apply Th
    intro g'
    refine br (rO ?_)
    have S2:Sg st (d3.mk' (kindOf b') (bq b') (ff b') g' (mE b')):=S2'
    refine br (dH (by omega) ?_)
    refine br (oZ (S2.1.trans hk) (kb _ (by simp)) ka (by omega) (by omega) (sa.sub (by omega) (by omega)) fun z v1 v2 v3=>?_)
    dsimp only
    rw[← iu (by omega)] at v2 v3
    simp only[qV] at v2 v3
    have J2':=Fi (z:=z) J sa sb q2 q4 (by omega) v1 (fun x h1 h2=>gy (yU.mp (v3 x h1 h2)))
    by_cases c1:i - z > 0
    · rw[if_pos c1]
      by_cases c2:z=0
      · rw[if_pos (by simpa using c2)]
        exact cp ⟨S2,.inr ⟨_,_,_,_,_,_,_,rfl,yX J2' sa sb (by omega) q4 (.inl c2)⟩⟩
      · rw[if_neg (by simpa using c2)]
        exact yC (m:=hiB a b (o++(a.extract z i).reverse) z j g' (i - z) q) (by kernel_rfl) (HJ (X:=x+2) (S2.1.trans hk) ka kb sa sb hba J2' (by omega) (by omega) q3 q4 (by omega) (yL.mp (v2 (z - 1) (by omega))) (fun r _ _ _ _ _ _ hr=>⟨S2,.inr ⟨_,_,_,_,_,_,_,rfl,hr⟩⟩) fun i j o g p q z1 z2 z3 z4 z5 z6=>⟨⟨S2,.inl ⟨_,_,_,_,_,_,rfl,z1,z2,z3,z4,z5,z6⟩⟩,S2,_,_,_,_,_,_,rfl,z1,z2,z3,z4,z5,z6⟩)
    · rw[if_neg c1]
      exact yC (m:=hiB a b o i j g' (i - z) q) (by kernel_rfl) (HJ (X:=x+2) (S2.1.trans hk) ka kb sa sb hba J q1 q2 q3 q4 q5 (yL.mp (v2 (i - 1) (by omega))) (fun r _ _ _ _ _ _ hr=>⟨S2,.inr ⟨_,_,_,_,_,_,_,rfl,hr⟩⟩) fun i j o g p q z1 z2 z3 z4 z5 z6=>⟨⟨S2,.inl ⟨_,_,_,_,_,_,rfl,z1,z2,z3,z4,z5,z6⟩⟩,S2,_,_,_,_,_,_,rfl,z1,z2,z3,z4,z5,z6⟩)
end
theorem YQ (i:Nat):mergeAt' i=(do
 let z ← get
 let (some (u,m,pw),some (v,n,_)):=((ff z)[i]?,(ff z)[i+1]?) | yy "internal:list.sort.pending"
 set (setPending z (((ff z).setIfInBounds i (u,m+n,pw)).eraseIdxIfInBounds (i+1)))
 let some k ← gal false (← oq (bq z) v) (bq z) u m 0 | return false
 let (u,m):=(u+k,m - k)
 if m == 0 then return true
 let some n ← gal true (← oq (bq z) (u+m - 1)) (bq z) v n (n - 1) | return false
 if n == 0 then return true
 let x:=(bq z).extract u v
 let y:=(bq z).extract v (v+n)
 let r ← if m≤n then mLo x y else mHi x y
 modify fun z=>setArr z (r.toList.zipIdx.foldl (fun a (p,j)=>a.setIfInBounds (u+j) p) (bq z))
 return (mE (← get)).isNone):=rfl
section
variable {prog:cw}{w:eI}{A:eo}{E:ai→ar→Prop}{s:ar}
theorem VD {st st':d3}{Q:PUnit→d3→Prop} (h:Q ⟨⟩ st'):wpS (bt prog w) A E s (set st':StateT d3 Sem PUnit) Q st:=by
 unfold wpS;rw[StateT.run_set];exact av ⟨rfl,h⟩
end
theorem Et {u:Nat}:∀(l:List fh) (n:Nat) (a:Array fh),u+n+l.length≤a.size →
 ((l.zipIdx n).foldl (fun a (x:fh×Nat)=>a.setIfInBounds (u+x.2) x.1) a).toList=a.toList.take (u+n)++l++a.toList.drop (u+n+l.length)
 | [],n,a,h=>by simp
 | p::l,n,a,h=>by
  rw[List.zipIdx_cons,kT]
  have hl:(p::l).length=l.length+1:=rfl
  rw[hl] at h ⊢
  rw[Et l (n+1) _ (by rw[zi];omega),Array.toList_setIfInBounds]
  have hlen:u+n < a.toList.length:=by simp;omega
  have e1:(a.toList.set (u+n) p).take (u+(n+1))=a.toList.take (u+n)++[p]:=by
   rw[show u+(n+1)=u+n+1 by omega,kR,List.take_set_of_le (aE _)]
   simp[List.getElem?_set,hlen]
   omega
  have e2:(a.toList.set (u+n) p).drop (u+(n+1)+l.length)=a.toList.drop (u+n+(l.length+1)):=by
   rw[List.drop_set_of_lt (by omega),show u+(n+1)+l.length=u+n+(l.length+1) by omega]
  rw[e1,e2]
  simp
theorem yW {a:Array fh}{i:Nat}:K a i=(match a.toList[i]? with | some p=>i8 p.1 | none=>0):=by unfold K;rw[ft];cases a[i]? <;> rfl
theorem j6 {a:Array fh}{u v x:Nat} (hx:u+x < v) (hv:v≤a.size):K (a.extract u v) x=K a (u+x):=by
 rw[iu (by simp;omega),iu (by omega)]
 simp
theorem tU {a:Array fh}{u v:Nat} (k:IntKeys a):IntKeys (a.extract u v):=fun p hp=>k p (by
 rw[qr,fk] at hp
 exact List.mem_of_mem_drop (nz hp))
theorem PB {a r a':Array fh}{u v e:Nat} (huv:u≤v) (hve:v≤e) (he:e≤a.size) (hr:Rs (a.extract u v) (a.extract v e) r)
 (ha':a'.toList=a.toList.take u++r.toList++a.toList.drop e) :
 a'.Perm a∧(∀t,t < u∨e≤t→K a' t=K a t)∧Seg a' u e∧(∀t,u≤t→t < e→∃t',u≤t'∧t' < e∧K a' t=K a t'):=by
 have hlr:r.toList.length=e - u:=by rw[hr.1.length_eq];simp;omega
 have exl:(a.extract u v).toList++(a.extract v e).toList=(a.toList.drop u).take (e - u):=by
  rw[qr,qr,fk,fk]
  rw[show e - u=(v - u)+(e - v) by omega,List.take_add,A8,show u+(v - u)=v by omega]
 have hp:r.toList.Perm ((a.toList.drop u).take (e - u)):=by rw[← exl];exact hr.1
 have hlt:(a.toList.take u).length=u:=by simp;omega
 have ea:a.toList=a.toList.take u++(a.toList.drop u).take (e - u)++a.toList.drop e:=by
  have:=fw (e - u) (a.toList.drop u)
  rw[A8,show u+(e - u)=e by omega] at this
  rw[eB,this,fw]
 have abu:∀t,t < u∨e≤t→K a' t=K a t:=by
  intro t ht
  rw[yW,yW,ha']
  congr 1
  rcases ht with ht | ht
  · rw[eB,eP (by omega),ri ht]
  · rw[d6 (by rw[ay];omega),List.getElem?_drop]
    congr 1
    rw[ay];omega
 have Kin:∀t,u≤t→t < e→K a' t=K r (t - u):=by
  intro t h1 h2
  rw[yW,yW,ha']
  congr 1
  rw[eB,d6 (by omega),hlt,eP (by omega)]
 have sr:=YT hr.2
 have hrs:r.size=e - u:=by rw[← hlr];simp
 refine ⟨w9.mpr ?_,abu,fun i j hi hij hj=>?_,fun t h1 h2=>?_⟩
 · rw[ha']
   conv=>rhs;rw[ea]
   exact (hp.append_left _).append_right _
 · rw[Kin i hi (by omega),Kin j (by omega) hj]
   exact sr _ _ (iE _) (by omega) (by omega)
 · rw[Kin t h1 h2]
   have hm:r[t - u]'(by omega)∈(a.toList.drop u).take (e - u):=hp.mem_iff.mp (by simp)
   obtain ⟨x,x1,x2,x3,x4⟩:=p7 hm
   exact ⟨x,x1,by omega,by rw[iu (by omega),x4]⟩
theorem Rk {a a':Array fh}{u y v e f:Nat} (huy:y≤v) (hz:e≤f) (low:∀t,u≤t→t < y→K a t≤K a v) (top:∀t,y≤t→t < v+e→K a v≤K a t∧K a t≤K a (v - 1)) (high:∀t,v+e≤t→t < v+f→K a (v - 1)≤K a t)
 (hvm:K a v≤K a (v - 1)) (s1:Seg a u v) (s2:Seg a v (v+f)) (p2:∀t,t < y∨v+e≤t→K a' t=K a t) (p3:Seg a' y (v+e)) (p4:∀t,y≤t→t < v+e→∃t',y≤t'∧t' < v+e∧K a' t=K a t'):Seg a' u (v+f):=by
 intro i j hi hij hj
 by_cases i1:i < y
 · rw[p2 i (.inl i1)]
   by_cases j1:j < y
   · rw[p2 j (.inl j1)];exact s1 i j hi hij (cx j1 huy)
   · by_cases j2:j < v+e
     · obtain ⟨t,t1,t2,t3⟩:=p4 j (n9.mp j1) j2
       rw[t3]
       exact gS (low i hi i1) (top t t1 t2).1
     · rw[p2 j (.inr (n9.mp j2))]
       exact gS (low i hi i1) (gS hvm (high j (n9.mp j2) hj))
 · have i1:=n9.mp i1
   by_cases j2:j < v+e
   · exact p3 i j i1 hij j2
   · have j2:=n9.mp j2
     rw[p2 j (.inr j2)]
     by_cases i2:i < v+e
     · obtain ⟨t,t1,t2,t3⟩:=p4 i i1 i2
       rw[t3]
       exact gS (top t t1 t2).2 (high j j2 hj)
     · rw[p2 i (.inr (n9.mp i2))]
       exact s2 i j (eK (Nat.le_add_right _ _) (n9.mp i2)) hij hj
theorem Qv {l1 l2:List (Nat×Nat×Nat)}{x y z:Nat×Nat×Nat}:(((l1++x::y::l2).toArray.setIfInBounds l1.length z).eraseIdxIfInBounds (l1.length+1))=(l1++z::l2).toArray:=by
 apply ui.mp
 rw[List.setIfInBounds_toArray]
 have:(l1++x::y::l2).set l1.length z=l1++z::y::l2:=by simp
 rw[this]
 rw[Array.eraseIdxIfInBounds,dif_pos (by simp)]
 simp[List.eraseIdx_append_of_length_le]
section
variable {prog:cw}{w:eI}{A:eo}{E:ai→ar→Prop}{s:ar}
theorem Uu {st:d3}{l1 l2:List (Nat×Nat×Nat)}{u m pw v n q:Nat}{Q:Bool→d3→Prop} (k:Sk st) (hp:ff st=(l1++(u,m,pw)::(v,n,q)::l2).toArray)
 (hv:v=u+m) (hm:1≤m) (hn:1≤n) (hs:v+n≤(bq st).size) (s1:Seg (bq st) u (u+m)) (s2:Seg (bq st) v (v+n))
 (h:∀st',Sk st'→ff st'=(l1++(u,m+n,pw)::l2).toArray→(bq st').Perm (bq st)→(∀t,t < u∨v+n≤t→K (bq st') t=K (bq st) t)→Seg (bq st') u (u+(m+n))→Q true st') :
 wpS (bt prog w) A E s (mergeAt' l1.length) Q st:=by
 rw[YQ]
 refine br (yi ?_)
 have g1:(ff st)[l1.length]?=some (u,m,pw):=by rw[hp];simp
 have g2:(ff st)[l1.length+1]?=some (v,n,q):=by rw[hp];simp
 rw[g1,g2]
 dsimp only
 refine br (VD ?_)
 rw[hp,Qv]
 generalize Jd:setPending st (l1++(u,m+n,pw)::l2).toArray=b
 have b1:kindOf b=rk:=by rw[← Jd];exact k.kind
 have b2:bq b=bq st:=by rw[← Jd]
 have b3:mE b=none:=by rw[← Jd];exact k.failed
 have b4:ff b=(l1++(u,m+n,pw)::l2).toArray:=by rw[← Jd]
 have kb:Sk b:=⟨b1,b3,by rw[b2];exact k.keys⟩
 refine br (dH (by omega) ?_)
 refine br (oZ b1 (k.keys _ (by simp)) k.keys (by omega) (by omega) s1 fun z w1 w2 w3=>?_)
 dsimp only
 rw[← iu (by omega)] at w2 w3
 by_cases c1:m - z=0
 · rw[if_pos (by simpa using c1)]
   refine cp (h b kb b4 (by rw[b2]) (fun t _=>by rw[b2]) ?_)
   rw[b2]
   intro i j hi hij hj
   by_cases hjv:j < v
   · exact s1 i j hi hij (by omega)
   · by_cases hiv:i < v
     · have:=yL.mp (w2 (i - u) (by omega))
       rw[show u+(i - u)=i by omega] at this
       exact gS this (s2 v j (by omega) (by omega) (by omega))
     · exact s2 i j (by omega) hij (by omega)
 · rw[if_neg (by simpa using c1)]
   refine br (dH (by omega) ?_)
   refine br (oZ b1 (k.keys _ (by simp)) k.keys (by omega) (by omega) s2 fun z' x1 x2 x3=>?_)
   dsimp only
   rw[← iu (by omega),show u+z+(m - z) - 1=v - 1 by omega] at x2 x3
   by_cases c2:z'=0
   · rw[if_pos (by simpa using c2)]
     refine cp (h b kb b4 (by rw[b2]) (fun t _=>by rw[b2]) ?_)
     rw[b2]
     intro i j hi hij hj
     by_cases hjv:j < v
     · exact s1 i j hi hij (by omega)
     · by_cases hiv:i < v
       · have h0:=uJ.mp (x3 0 (by omega) (by omega))
         exact gS (s1 i (v - 1) hi (by omega) (by omega)) (gS h0 (s2 (v+0) j (by omega) (by omega) (by omega)))
       · exact s2 i j (by omega) hij (by omega)
   · rw[if_neg (by simpa using c2)]
     have hz:z < m:=by omega
     have Jr:K (bq st) v < K (bq st) (u+z):=yU.mp (w3 z (aE _) hz)
     have y1:((bq st).extract (u+z) v).size=m - z:=by simp;omega
     have y2:((bq st).extract v (v+z')).size=z':=by simp;omega
     have sx:Seg ((bq st).extract (u+z) v) 0 ((bq st).extract (u+z) v).size:=by
      intro i j _ hij hj
      rw[j6 (by omega) (by omega),j6 (by omega) (by omega)]
      exact s1 _ _ (by omega) (by omega) (by omega)
     have sy:Seg ((bq st).extract v (v+z')) 0 ((bq st).extract v (v+z')).size:=by
      intro i j _ hij hj
      rw[j6 (by omega) (by omega),j6 (by omega) (by omega)]
      exact s2 _ _ (by omega) (by omega) (by omega)
     have fin:∀r st',Sg b st'→Rs ((bq st).extract (u+z) v) ((bq st).extract v (v+z')) r →
      wpS (bt prog w) A E s (do
       modify fun z0=>setArr z0 (r.toList.zipIdx.foldl (fun a (p:fh×Nat)=>a.setIfInBounds (u+z+p.2) p.1) (bq z0))
       let x ← get
       pure (mE x).isNone) Q st':=by
      intro r st' S hr
      refine br (ub (br (yi ?_)))
      obtain ⟨S1,S2,S3,S4⟩:=S
      have ef:mE st'=none:=S4.trans b3
      have hr':r.toList.length=(m - z)+z':=by rw[hr.1.length_eq];simp;omega
      have fp:=Et (u:=u+z) r.toList 0 (bq st') (by rw[S2,b2,hr'];omega)
      rw[S2,b2,hr',show u+z+0=u+z by omega,show u+z+(m - z+z')=v+z' by omega] at fp
      obtain ⟨p1,p2,p3,p4⟩:=PB (by omega) (by omega) (by omega) hr fp
      rw[S2,b2]
      refine cp ?_
      show Q (mE st').isNone _
      rw[ef]
      refine h _ ⟨S1.trans b1,ef,keys_perm p1 k.keys⟩ (S3.trans b4) p1 (fun t ht=>p2 t (by omega)) ?_
      have top:∀t,u+z≤t→t < v+z'→K (bq st) v≤K (bq st) t∧K (bq st) t≤K (bq st) (v - 1):=by
       intro t h1 h2
       by_cases htv:t < v
       · exact ⟨gS (gy Jr) (s1 (u+z) t (by omega) h1 (by omega)),s1 t (v - 1) (by omega) (by omega) (by omega)⟩
       · have:=vJ.mp (x2 (t - v) (by omega))
         rw[show v+(t - v)=t by omega] at this
         exact ⟨s2 v t (by omega) (by omega) (by omega),gy this⟩
      have low:∀t,u≤t→t < u+z→K (bq st) t≤K (bq st) v:=by
       intro t h1 h2
       have:=yL.mp (w2 (t - u) (by omega))
       rwa [show u+(t - u)=t by omega] at this
      have high:∀t,v+z'≤t→t < v+n→K (bq st) (v - 1)≤K (bq st) t:=by
       intro t h1 h2
       have:=uJ.mp (x3 (t - v) (by omega) (by omega))
       rwa [show v+(t - v)=t by omega] at this
      have hvm:K (bq st) v≤K (bq st) (v - 1):=gS (gy Jr) (s1 (u+z) (v - 1) (by omega) (by omega) (by omega))
      generalize (BQ (fun a (p:fh×Nat)=>a.setIfInBounds (u+z+p.2) p.1) (bq st) r.toList.zipIdx)=a' at p1 p2 p3 p4 ⊢
      rw[show u+(m+n)=v+n by omega]
      exact Rk (show u+z≤v by omega) x1 low top high hvm (by rw[hv];exact s1) s2 p2 p3 p4
     split
     · refine br (Uo b1 (tU k.keys) (tU k.keys) sx sy (by omega) (by omega) ?_ ?_ fin)
       · rw[j6 (by omega) (by omega),j6 (by omega) (by omega)]
         exact gy Jr
       · intro x hx
         rw[j6 (by omega) (by omega),j6 (by omega) (by omega),show u+z+(((bq st).extract (u+z) v).size - 1)=v - 1 by omega]
         exact gy (vJ.mp (x2 x (by omega)))
     · refine br (Uc b1 (tU k.keys) (tU k.keys) sx sy (by omega) (by omega) ?_ ?_ fin)
       · intro x hx
         rw[j6 (by omega) (by omega),j6 (by omega) (by omega)]
         exact gS (gy Jr) (s1 (u+z) (u+z+x) (by omega) (by omega) (by omega))
       · rw[j6 (by omega) (by omega),j6 (by omega) (by omega),show u+z+(((bq st).extract (u+z) v).size - 1)=v - 1 by omega]
         exact gy (vJ.mp (x2 _ (by omega)))
end
noncomputable def Rn (a:Array fh):Nat→List (Nat×Nat×Nat)→Nat→Prop
 | lo,[],hi=>lo=hi
 | lo,(u,n,_)::r,hi=>u=lo∧1≤n∧Seg a u (u+n)∧Rn a (u+n) r hi
theorem Rn.le {a:Array fh}:∀{p:List (Nat×Nat×Nat)}{lo hi:Nat},Rn a lo p hi→lo+p.length≤hi
 | [],lo,hi,h=>by have:lo=hi:=h;simp;omega
 | (u,n,q)::r,lo,hi,⟨h1,h2,h3,h4⟩=>by have:=Rn.le h4;simp;omega
theorem Rn.same {a a':Array fh}:∀{p:List (Nat×Nat×Nat)}{lo hi:Nat},Rn a lo p hi→(∀t,lo≤t→t < hi→K a' t=K a t)→Rn a' lo p hi
 | [],lo,hi,h,_=>h
 | (u,n,q)::r,lo,hi,⟨h1,h2,h3,h4⟩,hk=>by
  have:=Rn.le h4
  refine ⟨h1,h2,fun i j hi hij hj=>?_,Rn.same h4 fun t t1 t2=>hk t (by omega) t2⟩
  rw[hk i (by omega) (by omega),hk j (by omega) (by omega)]
  exact h3 i j hi hij hj
theorem Rn.append {a:Array fh}:∀{p r:List (Nat×Nat×Nat)}{lo hi:Nat},Rn a lo (p++r) hi↔∃m,Rn a lo p m∧Rn a m r hi
 | [],r,lo,hi=>⟨fun h=>⟨lo,rfl,h⟩,fun aA=>by obtain ⟨m,h1,h2⟩:=aA;have:lo=m:=h1;subst this;exact h2⟩
 | (u,n,q)::p,r,lo,hi=>by
  constructor
  · rintro ⟨h1,h2,h3,h4⟩
    obtain ⟨m,h5,h6⟩:=Rn.append.mp h4
    exact ⟨m,⟨h1,h2,h3,h5⟩,h6⟩
  · rintro ⟨m,⟨h1,h2,h3,h5⟩,h6⟩
    exact ⟨h1,h2,h3,Rn.append.mpr ⟨m,h5,h6⟩⟩
section
variable {prog:cw}{w:eI}{A:eo}{E:ai→ar→Prop}{s:ar}
theorem HD {st:d3}{p:List (Nat×Nat×Nat)}{i hi:Nat}{Q:Bool→d3→Prop} (k:Sk st) (hp:ff st=p.toArray) (hR:Rn (bq st) 0 p hi) (hh:hi≤(bq st).size) (hi1:i+1 < p.length)
 (h:∀st' p',Sk st'→ff st'=p'.toArray→(bq st').Perm (bq st)→Rn (bq st') 0 p' hi→p'.length+1=p.length→(∀t,hi≤t→K (bq st') t=K (bq st) t)→Q true st') :
 wpS (bt prog w) A E s (mergeAt' i) Q st:=by
 obtain ⟨l1,x,y,l2,e,el⟩:∃l1 x y l2,p=l1++x::y::l2∧l1.length=i:=by
  refine ⟨p.take i,p[i],p[i+1],p.drop (i+2),?_,by simp;omega⟩
  rw[ti,ti,fw]
 obtain ⟨u,m,pw⟩:=x
 obtain ⟨v,n,q⟩:=y
 subst e
 subst el
 obtain ⟨c,r1,⟨h1,h2,h3,h4,h5,h6,r2⟩⟩:=Rn.append.mp hR
 have l2e:=r2.le
 have l1e:=r1.le
 refine Uu k hp h4 h2 h5 (by omega) h3 h6 fun st' k' hp' pm out sg=>h st' _ k' hp' pm ?_ (by simp only[ay,bX];omega) fun t ht=>out t (by omega)
 refine Rn.append.mpr ⟨c,r1.same fun t _ ht=>out t (by omega),h1,by omega,sg,?_⟩
 rw[show u+(m+n)=v+n by omega]
 exact r2.same fun t ht _=>out t (by omega)
structure Gd (st:d3) (lo:Nat) (b:d3):Prop where
 sk:Sk b
 perm:(bq b).Perm (bq st)
 runs:∃p,ff b=p.toArray∧Rn (bq b) 0 p lo
theorem Rn.modify {a:Array fh}{f:Nat×Nat×Nat→Nat×Nat×Nat} (hf:∀x,(f x).1=x.1∧(f x).2.1=x.2.1):∀{p:List (Nat×Nat×Nat)}{i lo hi:Nat},Rn a lo p hi→Rn a lo (p.modify i f) hi
 | [],i,lo,hi,h=>by cases i <;> exact h
 | (u,n,q)::r,0,lo,hi,⟨h1,h2,h3,h4⟩=>by
  obtain ⟨e1,e2⟩:=hf (u,n,q)
  rw[List.modify_zero_cons]
  generalize f (u,n,q)=y at e1 e2
  obtain ⟨u',n',q'⟩:=y
  dsimp only at e1 e2
  subst e1
  subst e2
  exact ⟨h1,h2,h3,h4⟩
 | (u,n,q)::r,i+1,lo,hi,⟨h1,h2,h3,h4⟩=>by
  rw[List.modify_succ_cons]
  exact ⟨h1,h2,h3,Rn.modify hf h4⟩
theorem Gd.modify {st b:d3}{lo i:Nat}{f:Nat×Nat×Nat→Nat×Nat×Nat} (g:Gd st lo b) (hf:∀x,(f x).1=x.1∧(f x).2.1=x.2.1):Gd st lo (setPending b ((ff b).modify i f)):=by
 obtain ⟨p,e,r⟩:=g.runs
 refine ⟨⟨g.sk.kind,g.sk.failed,g.sk.keys⟩,g.perm,p.modify i f,?_,r.modify hf⟩
 show (ff b).modify i f=_
 rw[e]
 apply ui.mp
 simp
theorem Gd.push {st b:d3}{lo n:Nat} (g:Gd st lo b) (hs:Seg (bq b) lo (lo+n)) (hn:1≤n):Gd st (lo+n) (setPending b ((ff b).push (lo,n,0))):=by
 obtain ⟨p,e,r⟩:=g.runs
 refine ⟨⟨g.sk.kind,g.sk.failed,g.sk.keys⟩,g.perm,p++[(lo,n,0)],?_,Rn.append.mpr ⟨lo,r,rfl,hn,hs,rfl⟩⟩
 show (ff b).push _=_
 rw[e]
 simp
set_option hygiene false in
local macro_rules | `(tactic| walk_at "runs_end")=>`(tactic| (
 refine br (yi ?_)
 cases hbk:(ff b2).back? with
 | none=>
  refine br (ub (cp ⟨lo+n,rfl,by omega,by omega,g2.push sg2 (by omega)⟩))
 | some t=>
  obtain ⟨s1,n1,q0⟩:=t
  dsimp only
  refine br (ot (hV (I:=fun y c b3=>c=(none,())∧Gd st lo b3∧Seg (bq b3) lo (lo+n)) (Q:=fun c b3=>c=(none,())∧Gd st lo b3∧Seg (bq b3) lo (lo+n)) ?istep (fun _ _ hh=>hh) ⟨rfl,g2,sg2⟩) ?ipost)
  case ipost=>
   rintro c b3 ⟨rfl,g3,sg3⟩
   have g4:=g3.modify (i:=(ff b3).size - 1) (f:=fun x=>(x.1,x.2.1,power' (bq st).size (2*s1+n1) (2*s1+n1+n1+n) (bq st).size)) (fun x=>⟨rfl,rfl⟩)
   exact br (ub (br (ub (cp ⟨lo+n,rfl,by omega,by omega,g4.push sg3 (by omega)⟩))))
  case istep=>
   rintro y c b3 _ hy ⟨rfl,g3,sg3⟩
   refine br (yi ?_)
   obtain ⟨p,ep,rp⟩:=g3.runs
   by_cases hz:(ff b3).size > 1
   · rw[if_pos hz]
     have hz2:(ff b3).size - 2 < (ff b3).size:=by omega
     rw[getElem?_pos (ff b3) _ hz2]
     generalize (ff b3)[(ff b3).size - 2]=t3
     obtain ⟨t1,t2,older⟩:=t3
     dsimp only
     split
     · exact cp ⟨rfl,g3,sg3⟩
     · have hpl:(ff b3).size=p.length:=by rw[ep];simp
       have sz3:(bq b3).size=(bq st).size:=g3.perm.size_eq
       refine br (HD g3.sk ep rp (by omega) (by omega) fun b4 p' k4 e4 pm4 r4 _ out=>?_)
       rw[if_neg (by simp)]
       refine cp ⟨rfl,⟨k4,pm4.trans g3.perm,p',e4,r4⟩,fun i j hi hij hj=>?_⟩
       rw[out i (by omega),out j (by omega)]
       exact sg3 i j hi hij hj
   · rw[if_neg hz]
     exact cp ⟨rfl,g3,sg3⟩))
theorem Vl {st:d3}{Q:Unit→d3→Prop} (k:Sk st) (hp:ff st=#[]) (h2:2≤(bq st).size)
 (h:∀st',(bq st').Perm (bq st)→mE st'=none→SortedTo (bq st') (bq st).size→Q () st'):wpS (bt prog w) A E s sortRuns' Q st:=by
 rw[sortRuns'_eq]
 refine br (yi ?_)
 dsimp only
 generalize hmr:minRun' (bq st).size (bq st).size 0=mr
 refine br (ot (hV (I:=fun x c b=>∃lo,c=(none,lo)∧x≤lo∧lo≤(bq st).size∧Gd st lo b)
  (Q:=fun c b=>c=(none,(bq st).size)∧Gd st (bq st).size b) ?step ?fin ⟨0,rfl,by omega,by omega,k,.refl _,[],hp,rfl⟩) ?post)
 case fin=>
  rintro c b ⟨lo,rfl,q1,q2,g⟩
  have:lo=(bq st).size:=by omega
  subst this
  exact ⟨rfl,g⟩
 case step=>
  rintro x c b _ hx ⟨lo,rfl,q1,q2,g⟩
  dsimp only
  by_cases c1:lo≥(bq st).size
  · rw[if_pos c1]
    have:lo=(bq st).size:=by omega
    subst this
    exact cp ⟨rfl,g⟩
  · rw[if_neg c1]
    have sz:(bq b).size=(bq st).size:=g.perm.size_eq
    refine br (TQ g.sk (by omega) (by omega) fun m b1 mv m1 m2 sg=>?_)
    dsimp only
    have keep:∀{b2:d3},Mv lo (bq st).size b b2→Gd st lo b2:=fun {b2} mv=>by
     obtain ⟨p,ep,rp⟩:=g.runs
     exact ⟨mv.sk g.sk,mv.perm.trans g.perm,p,mv.pend.trans ep,rp.same fun t _ ht=>mv.out t (by omega)⟩
    have mv':Mv lo (bq st).size b b1:=mv.wide (by omega) (by omega)
    by_cases c2:m < mr
    · rw[if_pos c2]
      refine br (As (i4 ⟨rfl,?_⟩))
      refine br (Vs (mv.sk g.sk) (by rw[mv.size];omega) (by omega) sg fun b2 mv2 sg2=>?_)
      rw[if_neg (by simp)]
      have g2:=keep (mv'.trans (mv2.wide (aE _) (by omega)))
      have hn1:1≤min ((bq st).size - lo) mr:=by omega
      have hn2:lo+min ((bq st).size - lo) mr≤(bq st).size:=by omega
      generalize min ((bq st).size - lo) mr=n at *
      walk_at "runs_end"
    · rw[if_neg c2]
      have g2:=keep mv'
      generalize b1=b2 at *
      have sg2:=sg
      have hn1:1≤m:=by omega
      have hn2:lo+m≤(bq st).size:=by omega
      generalize m=n at *
      walk_at "runs_end"
 case post=>
  rintro c b ⟨rfl,g⟩
  dsimp only
  have sz:(bq b).size=(bq st).size:=g.perm.size_eq
  refine br (ot (hV (I:=fun x c b=>c=(none,())∧Sk b∧(bq b).Perm (bq st)∧∃p,ff b=p.toArray∧Rn (bq b) 0 p (bq st).size∧p.length≤max 1 ((bq st).size - x))
   (Q:=fun c b=>c=(none,())∧Sk b∧(bq b).Perm (bq st)∧∃p,ff b=p.toArray∧Rn (bq b) 0 p (bq st).size∧p.length≤1) ?ZJ ?aaY ?Zw) ?Zr)
  case Zw=>
   obtain ⟨p,ep,rp⟩:=g.runs
   have:=rp.le
   exact ⟨rfl,g.sk,g.perm,p,ep,rp,by omega⟩
  case aaY=>
   rintro c b ⟨hc,k',pm,p,ep,rp,hl⟩
   exact ⟨hc,k',pm,p,ep,rp,by omega⟩
  case Zr=>
   rintro c b ⟨rfl,k',pm,p,ep,rp,hl⟩
   refine cp (h b pm k'.failed fun i j hij hj=>?_)
   match p,rp,hl with
   | [],rp,_=>have:0=(bq st).size:=rp;omega
   | [(u,n,q)],⟨h1,h3,h4,h5⟩,_=>
    have h6:u+n=(bq st).size:=h5
    exact h4 i j (by omega) hij (by omega)
  case ZJ=>
   rintro x c b _ hx ⟨rfl,k',pm,p,ep,rp,hl⟩
   refine br (yi ?_)
   have hpl:(ff b).size=p.length:=by rw[ep];simp
   by_cases c3:(ff b).size≤1
   · rw[if_pos c3]
     exact cp ⟨rfl,k',pm,p,ep,rp,by omega⟩
   · rw[if_neg c3]
     refine br (HD k' ep rp (by rw[pm.size_eq];exact aE _) ?hidx fun b4 p' k4 e4 pm4 r4 hl4 out=>?ZK)
     case ZK=>
      rw[if_neg (by simp)]
      exact cp ⟨rfl,k4,pm4.trans pm,p',e4,r4,by omega⟩
     case hidx=>
      repeat' split
      all_goals omega
end
section
variable {prog:cw}{w:eI}{A:eo}{E:ai→ar→Prop}{s:ar}
theorem vm {a:Addr}{vs:List ai}{ns:List Int}{n:Nat}{P:Fin→ar→Prop} (ho:s.heap.get? a=some (mI "list" vs.toArray n))
 (hI:lx vs ns) (hz:vs.length≤bp)
 (h:∀(out:Array ai) (ns':List Int),lx out.toList ns'→ns'.Perm ns→ns'.Pairwise (· ≤ ·)→P (.done (.ret .none)) { s with heap:=sortedHeap s.heap a vs out }) :
 bP (bt prog w) A (Builtin.«list.sort» ⟨[.ref a],[]⟩) P E s:=by
 by_cases h2:vs.length < 2
 · exact list_sort_tree ho hI (by omega) h
 rw[list_sort_plain]
 have ha:=bE ho
 refine af (listItems_at ho rfl ?_)
 refine af (listUpdate_at ho rfl ?_ (by simpa using hz) (by simp))
 obtain ⟨e1,g1⟩:∃e1,(s.heap.update a (kA fun _=>#[])).get? a=some (mI "list" #[] e1):=⟨_,get?_update_seq ho (fun _=>#[])⟩
 refine af (seqEpoch_at g1 rfl (af (wpAny_newTuple (af (zk (gi ?_))))))
 have g2:(((s.heap.update a (kA fun _=>#[])).push (mI "tuple" vs.toArray 0)).push (mI "list" #[] 0)).get? a=some (mI "list" #[] e1):=
  aI _ (aI _ g1)
 show bP (bt prog w) A _ P E { s with heap:=((s.heap.update a (kA fun _=>#[])).push (mI "tuple" vs.toArray 0)).push (mI "list" #[] 0) }
 dsimp only
 have hs:¬ vs.toArray.size < 2:=by simpa using h2
 rw[if_neg hs,if_neg hs]
 have hkk:keyKind' vs.toArray=pure rk:=by
  match vs,h2,hI with
  | [],h2,_=>simp at h2
  | [_],h2,_=>simp at h2
  | v₁::v₂::rest,_,hI=>exact keyKind_ints hI
 rw[hkk]
 refine af (av ?_)
 have all:=Vl (prog:=prog) (w:=w) (A:=A) (E:=E) (s:={ s with heap:=((s.heap.update a (kA fun _=>#[])).push (mI "tuple" vs.toArray 0)).push (mI "list" #[] 0) })
  (st:=d3.mk' rk (vs.toArray.zip vs.toArray) #[] 7 none)
  (Q:=fun _ st'=>(bq st').Perm (pairsOf vs)∧mE st'=none∧SortedTo (bq st') (pairsOf vs).size)
  ⟨rfl,rfl,hI.intKeys⟩ rfl (by show 2≤(pairsOf vs).size;rw[pairsOf_size];omega) (fun st' q1 q2 q3=>⟨q1,q2,q3⟩)
 refine af (gc all ?_ fun _ _ e=>e)
 rintro ⟨⟨⟩,st'⟩ s' ⟨rfl,hp,hf,hsr⟩
 dsimp only
 refine af (seqEpoch_at g2 rfl (af (listUpdate_at g2 rfl ?_ (by simp) (by rw[xb,hp.size_eq,pairsOf_size];omega))))
 rw[hf]
 simp only[bne_self_eq_false,aT,if_false]
 obtain ⟨ns',r1,r2,r3⟩:=sorted_out hI hp hsr
 exact av (h _ ns' r1 r2 r3)
theorem GZ {l:Addr}{vs:List ai}{ns:List Int}{Q:ai→ar→Prop} (hl:s.heap.IsList l vs.toArray) (hI:lx vs ns) (hz:vs.length≤bp)
 (h:∀(out:Array ai) (ns':List Int),lx out.toList ns'→ns'.Perm ns→ns'.Pairwise (· ≤ ·)→Q (.ref (s.heap.objs.size+1)) { s with heap:=sortedAll s.heap vs out }) :
 bP (bt prog w) A (call (.builtin "sorted") [.ref l]) Q E s:=by
 refine rg kind_sorted plain_sorted entry_sorted (args_sorted1 _) ?_
 unfold Builtin.«sorted»
 refine af (m:=checkCount "sorted" 1 1 _) (av (af (collect_list hl ?_ hz)))
 refine af (zk ?_ hz)
 have e1:((s.heap.push (mI "list" #[] 0)).update s.heap.objs.size (kA (· ++ vs.toArray))).objs.size=s.heap.objs.size+1:=by rw[Au,size_push']
 have e2:(((s.heap.push (mI "list" #[] 0)).update s.heap.objs.size (kA (· ++ vs.toArray))).push (mI "list" vs.toArray 0)).get? (s.heap.objs.size+1)=some (mI "list" vs.toArray 0):=by
  rw[← e1];exact df _ rfl
 show bP _ _ _ _ _ { s with heap:=((s.heap.push (mI "list" #[] 0)).update s.heap.objs.size (kA (· ++ vs.toArray))).push (mI "list" vs.toArray 0) }
 rw[e1]
 exact af (gi (gp slot_list_sort ⟨_,e2,rfl⟩ entry_list_sort (vm e2 hI hz fun out ns' a1 a2 a3=>⟨_,rfl,av ⟨_,rfl,h out ns' a1 a2 a3⟩⟩) (args_list_sort _)))
end
end L2
namespace L3
open PySem PySem.Spec PyProof.Rows L2
noncomputable def insI (x:Int):List Int→List Int
 | []=>[x]
 | y::ys=>if x≤y then x::y::ys else y::insI x ys
noncomputable def srt:List Int→List Int
 | []=>[]
 | x::xs=>insI x (srt xs)
theorem insI_perm (x:Int):∀ys:List Int,(insI x ys).Perm (x::ys)
 | []=>.refl _
 | y::ys=>by
  unfold insI
  by_cases h:x≤y
  · rw[if_pos h]
  · rw[if_neg h]
    exact ((insI_perm x ys).cons y).trans (.swap ..)
theorem cB:∀xs:List Int,(srt xs).Perm xs
 | []=>.refl _
 | x::xs=>(insI_perm x (srt xs)).trans ((cB xs).cons x)
theorem wJ (x:Int):∀{ys:List Int},ys.Pairwise (· ≤ ·)→(insI x ys).Pairwise (· ≤ ·)
 | [],_=>List.pairwise_singleton _ _
 | y::ys,h=>by
  unfold insI
  have hy:=(i3.mp h)
  by_cases hxy:x≤y
  · rw[if_pos hxy]
    refine i3.mpr ⟨fun z hz=>?_,h⟩
    rcases be.mp hz with rfl | hz
    · exact hxy
    · exact gS hxy (hy.1 z hz)
  · rw[if_neg hxy]
    refine i3.mpr ⟨fun z hz=>?_,wJ x hy.2⟩
    rcases be.mp ((insI_perm x ys).mem_iff.mp hz) with rfl | hz
    · omega
    · exact hy.1 z hz
theorem fL:∀xs:List Int,(srt xs).Pairwise (· ≤ ·)
 | []=>.nil
 | x::xs=>wJ x (fL xs)
theorem gR:∀{xs ys:List Int},xs.Perm ys→xs.Pairwise (· ≤ ·)→ys.Pairwise (· ≤ ·)→xs=ys
 | [],ys,p,_,_=>(List.nil_perm.mp p).symm ▸ rfl
 | x::xs,[],p,_,_=>absurd p.length_eq (by simp)
 | x::xs,y::ys,p,hx,hy=>by
  have hx':=i3.mp hx
  have hy':=i3.mp hy
  have h1:y≤x:=by
   rcases be.mp (p.mem_iff.mp b5) with e | e
   · omega
   · exact hy'.1 x e
  have h2:x≤y:=by
   rcases be.mp (p.mem_iff.mpr b5) with e | e
   · omega
   · exact hx'.1 y e
  have e:x=y:=by omega
  subst e
  rw[gR (p.cons_inv) hx'.2 hy'.2]
noncomputable def q9:List ae→Res ae
 | [.list ds]=>match intsOf ds with
  | some ns=>gd (ns.length < 3000) (.ok (.list ((srt ns).map ae.int)))
  | none=>.bad
 | _=>.bad
theorem lR:∀{us:List ai}{ns:List Int},lx us ns→Vals (ns.map V.int) us
 | _,_,.nil=>.nil
 | _,_,.cons n t h=>.cons ⟨t,rfl⟩ (lR h)
section
variable {X:Cx}
theorem Di:fK X (.builtin "sorted") (fun xs H Q=>∃p ns,xs=[.ref p]∧SqL X.K H p (ns.map V.int)∧ns.length < 3000∧∀l,H l=none→Q (.ref l) (upd H l (.lst ((srt ns).map V.int)))):=by
 intro pins s σ H xs us Q I r h
 obtain ⟨p,ns,rfl,hq,h64,q⟩:=h
 obtain ⟨u,rfl,rx⟩:=vals1 r
 cases rx
 obtain ⟨its,r',pl,hz⟩:=I.list hq
 have hlen:its.length=ns.length:=by have:=r'.length;rw[aw] at this;omega
 refine GZ pl.isList (intsAre_of r') (fF (cx (show _ < 3000 by omega) (by decide))) fun out ns' hi hp hs=>?_
 have e:ns'=srt ns:=gR (hp.trans (cB ns).symm) hs (fL ns)
 subst e
 obtain ⟨c,hc⟩:=sortedAll_at s.heap its out
 refine ⟨.ref (s.heap.objs.size+1),_,I.laid (a:=s.heap.objs.size+1) (o:=.lst ((srt ns).map V.int)) (h':=sortedAll s.heap its out) (t':=s.toks) (fun b o e=>sortedAll_old e) (ny _) ?_,rfl,q _ (I.hok.fresh (ny _))⟩
 refine ⟨?_,out.toList,c,lR hi,by simpa[mI] using hc⟩
 rw[aw,(cB ns).length_eq]
 exact fF (oP h64 (by decide))
theorem aB.CT {K:ag}{A:Hp}:∀{ns:List Int}{vs:List V},aB K A (ns.map ae.int) vs→vs=ns.map V.int
 | [],vs,h=>aB.nil.mp h
 | n::ns,vs,h=>by
  obtain ⟨v,r,rfl,h1,h2⟩:=aB.cons.mp h
  rw[Rp.int.mp h1,aB.CT h2];rfl
theorem Av:fK X (.builtin "sorted") (rCF X.K q9):=by
 intro pins s σ H xs us Q I r h
 obtain ⟨A,ds,d,e,ha,p,k⟩:=h
 match ds,e with
 | [.list es],e=>
  have e:(match intsOf es with | some ns=>gd (ns.length < 3000) (.ok (.list ((srt ns).map ae.int))) | none=>.bad)=Res.ok d:=e
  cases hn:intsOf es with
  | none=>rw[hn] at e;cases e
  | some ns=>
   rw[hn] at e
   obtain ⟨hz,e⟩:=cN e
   cases e
   have:=nC hn
   subst this
   obtain ⟨v,r',rfl,p1,p2⟩:=p.cons
   obtain rfl:=p2.nil
   obtain ⟨l,vs,rfl,h1,q1⟩:=p1.list ha
   have ev:=q1.CT
   subst ev
   exact Di pins s σ H _ us Q I r ⟨l,ns,rfl,h1,hz,fun q hq=>k _ A _ (aP.lay ha hq) ⟨q,_,rfl,hq,bK,ha.free hq,.inl ⟨_,_,rfl,rfl,aB.ints⟩⟩⟩
end
open Classical in
noncomputable def eqR (h:Heap) (x:ae) (y:ai):Bool:=if q:∃d as,Reads h y d as∧d.canLay0=true then gz (Classical.choose q) x else false
theorem Mp {h:Heap}{x d:ae}{y:ai}{as:List Addr} (r:Reads h y d as) (hd:d.canLay0=true):eqR h x y=gz d x:=by
 unfold eqR
 have q:∃d as,Reads h y d as∧d.canLay0=true:=⟨d,as,r,hd⟩
 rw[dif_pos q]
 obtain ⟨as',r',c'⟩:=Classical.choose_spec q
 rw[(PySem.Reads.unique r' d as r).1]
theorem anyR {h:Heap}{x:ae}:∀{us:List ai}{ds:List ae}{as:List Addr},ReadsAll h us ds as→ij ds=true→us.any (eqR h x)=ds.any fun d=>gz d x
 | _,_,_,.nil,_=>rfl
 | _,_,_,.cons r rs,c=>by
  rw[ij,cc] at c
  rw[kH,kH,Mp r c.1,anyR rs c.2]
theorem Xi {h:Heap}:∀{us:List ai}{ds:List ae}{as:List Addr}{u:ai},ReadsAll h us ds as→u∈us→∃d as,d∈ds∧Reads h u d as
 | _,_,_,u,.nil,m=>nomatch m
 | _,_,_,u,.cons (d:=d) r rs,m=>by
  rcases be.mp m with rfl | m
  · exact ⟨_,_,b5,r⟩
  · obtain ⟨d',as,h1,h2⟩:=Xi rs m
    exact ⟨d',as,bg _ h1,h2⟩
noncomputable def inB (a:ae) (ds:List ae):Bool:=ds.any fun y=>gz y a
noncomputable def inX:ae→ae→Res ae
 | a,.list ds=>gd (dE a=true∧ds.all dE=true) (.ok (.bool (inB a ds)))
 | a,.tuple ds=>gd (dE a=true∧ds.all dE=true) (.ok (.bool (inB a ds)))
 | _,_=>.bad
noncomputable def Mq:ae→ae→Res ae
 | a,.list ds=>gd (dE a=true∧ds.all dE=true) (.ok (.bool (!inB a ds)))
 | a,.tuple ds=>gd (dE a=true∧ds.all dE=true) (.ok (.bool (!inB a ds)))
 | _,_=>.bad
theorem Ah:∀{ds:List ae},ds.all dE=true→ij ds=true
 | [],_=>by rw[ij]
 | d::ds,h=>by
  rw[List.all_cons,cc] at h
  rw[ij,lP h.1,Ah h.2];rfl
theorem Ef {d:ae} (h:dE d=true):d.depth≤64:=by
 unfold dE at h
 rw[cc] at h
 exact of_decide_eq_true h.2
section
variable {X:Cx}
theorem yZ {pins:List (Addr×Obj)}{s:ar}{σ:L2.St}{H A:Hp}{d1:ae}{ds:List ae}{x:V}{v:ai}{vs:List V}{its:List ai} (hu:X.A.units+66 < vx) (I:Inv X pins σ H s) (rx:RelV x v) (ha:aH A H)
 (p1:Pk X.K A H d1 x) (f1:dE d1=true) (f2:ds.all dE=true) (q2:aB X.K A ds vs) (r:Vals vs its) :
 (∀y,y∈its.toArray→SeqAt.EqAt X.A.in1 s y v (eqR s.heap d1 y))∧its.toArray.any (eqR s.heap d1)=inB d1 ds:=by
 obtain ⟨as,r1⟩:=Is.reads I d1 (p1.is ha f1) rx
 obtain ⟨bs,r2⟩:=eG.reads I ds (eG.mono ha ds (aB.is ds (Ah f2) q2)) r
 refine ⟨fun y hy=>?_,by rw[List.any_toArray,anyR r2 (Ah f2)];rfl⟩
 obtain ⟨d,cs,hd,ry⟩:=Xi r2 (by simpa using hy)
 have hs:dE d=true:=kC.mp f2 d hd
 rw[Mp ry (lP hs)]
 refine SeqAt.eqAt_reads d d1 X.A.in1 s y v cs as ry r1 (lP hs) (lP f1) ?_
 have:=Ef hs
 have e:X.A.in1.units=X.A.units+1:=rfl
 have:=Nat.min_le_left d.depth d1.depth
 omega
theorem N8 (hu:X.A.units+66 < vx):OpR X (h9 .In) (rD X.K inX):=by
 intro pins s σ H x y v u Q I rx ry hq
 obtain ⟨A,d1,d2,d,e,ha,p1,p2,k⟩:=hq
 cases d2 with
 | list ds=>
  obtain ⟨⟨f1,f2⟩,e⟩:=cN e
  have e':=Res.ok.inj e
  subst e'
  obtain ⟨l,vs,rfl,h1,q2⟩:=p2.list ha
  cases ry
  obtain ⟨its,r,pl,hz⟩:=I.list h1
  obtain ⟨w1,w2⟩:=yZ hu I rx ha p1 f1 f2 q2 r
  refine SeqAt.in_listAt (eqR s.heap d1) pl.isList w1 ?_
  rw[w2]
  exact ⟨.bl _,H,I,rfl,k _ A H (aP.refl ha) (Rp.bool.mpr rfl)⟩
 | tuple ds=>
  obtain ⟨⟨f1,f2⟩,e⟩:=cN e
  have e':=Res.ok.inj e
  subst e'
  obtain ⟨l,vs,rfl,h1,q2⟩:=p2.tuple ha
  cases ry
  obtain ⟨its,r,pl,hz⟩:=I.tuple h1
  obtain ⟨w1,w2⟩:=yZ hu I rx ha p1 f1 f2 q2 r
  refine SeqAt.in_tupleAt (eqR s.heap d1) (show s.heap.IsTuple l its.toArray from pl) w1 ?_
  rw[w2]
  exact ⟨.bl _,H,I,rfl,k _ A H (aP.refl ha) (Rp.bool.mpr rfl)⟩
 | _=>cases e
theorem Al (hu:X.A.units+66 < vx):OpR X (h9 .NotIn) (rD X.K Mq):=by
 intro pins s σ H x y v u Q I rx ry hq
 obtain ⟨A,d1,d2,d,e,ha,p1,p2,k⟩:=hq
 cases d2 with
 | list ds=>
  obtain ⟨⟨f1,f2⟩,e⟩:=cN e
  have e':=Res.ok.inj e
  subst e'
  obtain ⟨l,vs,rfl,h1,q2⟩:=p2.list ha
  cases ry
  obtain ⟨its,r,pl,hz⟩:=I.list h1
  obtain ⟨w1,w2⟩:=yZ hu I rx ha p1 f1 f2 q2 r
  refine SeqAt.notIn_listAt (eqR s.heap d1) pl.isList w1 ?_
  rw[w2]
  exact ⟨.bl _,H,I,rfl,k _ A H (aP.refl ha) (Rp.bool.mpr rfl)⟩
 | tuple ds=>
  obtain ⟨⟨f1,f2⟩,e⟩:=cN e
  have e':=Res.ok.inj e
  subst e'
  obtain ⟨l,vs,rfl,h1,q2⟩:=p2.tuple ha
  cases ry
  obtain ⟨its,r,pl,hz⟩:=I.tuple h1
  obtain ⟨w1,w2⟩:=yZ hu I rx ha p1 f1 f2 q2 r
  refine SeqAt.notIn_tupleAt (eqR s.heap d1) (show s.heap.IsTuple l its.toArray from pl) w1 ?_
  rw[w2]
  exact ⟨.bl _,H,I,rfl,k _ A H (aP.refl ha) (Rp.bool.mpr rfl)⟩
 | _=>cases e
end
theorem _root_.L2.dg.nJ {k:Nat}{A:eo} (r:dg k A):A.units+66 < vx:=by have:=r.un;omega
noncomputable def jH (key:Key):List (ae×ae)→Option ae
 | []=>none
 | (k,d)::r=>if dJ k=some key then some d else jH key r
noncomputable def wY (key:Key):List (ae×ae)→Bool
 | []=>false
 | (k,_)::r=>if dJ k=some key then true else wY key r
noncomputable def zy (key:Key) (x:ae):List (ae×ae)→List (ae×ae)
 | []=>[]
 | (k,d)::r=>(if dJ k=some key then (k,x) else (k,d))::zy key x r
noncomputable def qx (kd:ae) (key:Key) (x:ae) (kvs:List (ae×ae)):List (ae×ae):=if wY key kvs=true then zy key x kvs else kvs++[(kd,x)]
theorem oO {k:ae}{key key':Key} (h:dJ k=some key'):dJ k=some key↔key'=key:=by rw[h];simp
section
variable {K:ag}{A:Hp}{key:Key}
theorem bw.look:∀{kvs:List (ae×ae)}{u:List (Key×V)},bw K A kvs u→(∀d,jH key kvs=some d→∃v,lu u key=some v∧Rp K A d v)∧(jH key kvs=none→lu u key=none)
 | [],u,h=>by
  rw[bw.nil] at h;subst h
  exact ⟨fun d e=>(nomatch e),fun _=>rfl⟩
 | (k,d)::r,u,h=>by
  obtain ⟨key',v,u',rfl,hk,hd,hr⟩:=bw.cons.mp h
  unfold jH
  by_cases e:dJ k=some key
  · have e':=(oO hk).mp e
    rw[if_pos e]
    exact ⟨fun d' z=>by cases z;exact ⟨v,rT (p:=(key',v)) e',hd⟩,fun z=>(nomatch z)⟩
  · have e':¬ key'=key:=fun z=>e ((oO hk).mpr z)
    rw[if_neg e,sO (p:=(key',v)) e']
    exact bw.look hr
theorem bw.has:∀{kvs:List (ae×ae)}{u:List (Key×V)},bw K A kvs u→(u.any fun kv=>decide (kv.1=key))=wY key kvs
 | [],u,h=>by rw[bw.nil] at h;subst h;rfl
 | (k,d)::r,u,h=>by
  obtain ⟨key',v,u',rfl,hk,hd,hr⟩:=bw.cons.mp h
  unfold wY
  rw[kH,bw.has hr]
  by_cases e:dJ k=some key
  · rw[if_pos e,decide_eq_true ((oO hk).mp e)];rfl
  · rw[if_neg e,decide_eq_false fun z=>e ((oO hk).mpr z)];rfl
theorem bw.set {x:ae}{w:V} (hx:Rp K A x w):∀{kvs:List (ae×ae)}{u:List (Key×V)},bw K A kvs u→bw K A (zy key x kvs) (u.map fun kv=>if kv.1=key then (kv.1,w) else kv)
 | [],u,h=>by rw[bw.nil] at h;subst h;exact bw.nil.mpr rfl
 | (k,d)::r,u,h=>by
  obtain ⟨key',v,u',rfl,hk,hd,hr⟩:=bw.cons.mp h
  unfold zy
  rw[dk]
  by_cases e:dJ k=some key
  · rw[if_pos e,if_pos ((oO hk).mp e)]
    exact bw.cons.mpr ⟨key',w,_,rfl,hk,hx,bw.set hx hr⟩
  · rw[if_neg e,if_neg fun z=>e ((oO hk).mpr z)]
    exact bw.cons.mpr ⟨key',v,_,rfl,hk,hd,bw.set hx hr⟩
theorem bw.snoc {kd x:ae}{w:V} (hk:dJ kd=some key) (hx:Rp K A x w):∀{kvs:List (ae×ae)}{u:List (Key×V)},bw K A kvs u→bw K A (kvs++[(kd,x)]) (u++[(key,w)])
 | [],u,h=>by rw[bw.nil] at h;subst h;exact bw.cons.mpr ⟨key,w,[],rfl,hk,hx,bw.nil.mpr rfl⟩
 | (k,d)::r,u,h=>by
  obtain ⟨key',v,u',rfl,hk',hd,hr⟩:=bw.cons.mp h
  exact bw.cons.mpr ⟨key',v,_,rfl,hk',hd,bw.snoc hk hx hr⟩
theorem bw.put {kd x:ae}{w:V}{kvs:List (ae×ae)}{u:List (Key×V)} (hk:dJ kd=some key) (hx:Rp K A x w) (h:bw K A kvs u):bw K A (qx kd key x kvs) (putK u key w):=by
 unfold qx putK
 rw[h.has]
 by_cases e:wY key kvs=true
 · rw[if_pos e,if_pos e];exact h.set hx
 · rw[if_neg e,if_neg e];exact h.snoc hk hx
theorem bw.length:∀{kvs:List (ae×ae)}{u:List (Key×V)},bw K A kvs u→kvs.length=u.length
 | [],u,h=>by rw[bw.nil] at h;subst h;rfl
 | (k,d)::r,u,h=>by
  obtain ⟨key',v,u',rfl,_,_,hr⟩:=bw.cons.mp h
  rw[bX,bX,bw.length hr]
end
noncomputable def inY:ae→ae→Res ae
 | a,.dict kvs=>match dJ a with
  | some key=>.ok (.bool (jH key kvs).isSome)
  | none=>.bad
 | a,b=>inX a b
noncomputable def qQ:ae→ae→Res ae
 | a,.dict kvs=>match dJ a with
  | some key=>.ok (.bool (!(jH key kvs).isSome))
  | none=>.bad
 | a,b=>Mq a b
section
variable {X:Cx}
theorem Pk.key {K:ag}{A H:Hp}{d:ae}{v:V}{key:Key} (p:Pk K A H d v) (h:dJ d=some key):v=kV key:=by
 cases d with
 | int i=>cases h;exact p.int
 | str x=>cases h;exact p.str
 | _=>cases h
theorem bw.some {K:ag}{A:Hp}{kvs:List (ae×ae)}{u:List (Key×V)}{key:Key} (h:bw K A kvs u):(lu u key).isSome=(jH key kvs).isSome:=by
 have:=h.look (key:=key)
 cases e:jH key kvs with
 | none=>rw[this.2 e];rfl
 | some d=>obtain ⟨v,e1,_⟩:=this.1 d e;rw[e1];rfl
theorem Yt (hu:X.A.units+66 < vx):OpR X (h9 .In) (rD X.K inY):=by
 intro pins s σ H x y v u Q I rx ry hq
 obtain ⟨A,d1,d2,d,e,ha,p1,p2,k⟩:=hq
 cases d2 with
 | dict kvs=>
  have e:(match dJ d1 with | some key=>Res.ok (ae.bool (jH key kvs).isSome) | none=>.bad) = .ok d:=e
  cases hk:dJ d1 with
  | none=>rw[hk] at e;cases e
  | some key=>
   rw[hk] at e
   cases e
   obtain ⟨l,w,rfl,h1,h2⟩:=p2.dict ha
   cases ry
   rw[p1.key hk] at rx
   exact abN (by omega) I (Ae.k (k:=key) h1) rx fun s' I'=>⟨.bl _,H,I',rfl,k _ A H (aP.refl ha) (Rp.bool.mpr (by rw[h2.some]))⟩
 | list ds=>exact N8 hu pins s σ H x y v u Q I rx ry ⟨A,d1,.list ds,d,e,ha,p1,p2,k⟩
 | tuple ds=>exact N8 hu pins s σ H x y v u Q I rx ry ⟨A,d1,.tuple ds,d,e,ha,p1,p2,k⟩
 | _=>cases e
theorem Ca (hu:X.A.units+66 < vx):OpR X (h9 .NotIn) (rD X.K qQ):=by
 intro pins s σ H x y v u Q I rx ry hq
 obtain ⟨A,d1,d2,d,e,ha,p1,p2,k⟩:=hq
 cases d2 with
 | dict kvs=>
  have e:(match dJ d1 with | some key=>Res.ok (ae.bool (!(jH key kvs).isSome)) | none=>.bad) = .ok d:=e
  cases hk:dJ d1 with
  | none=>rw[hk] at e;cases e
  | some key=>
   rw[hk] at e
   cases e
   obtain ⟨l,w,rfl,h1,h2⟩:=p2.dict ha
   cases ry
   rw[p1.key hk] at rx
   exact Uz (by omega) I (Ae.k (k:=key) h1) rx fun s' I'=>⟨.bl _,H,I',rfl,k _ A H (aP.refl ha) (Rp.bool.mpr (by rw[h2.some]))⟩
 | list ds=>exact Al hu pins s σ H x y v u Q I rx ry ⟨A,d1,.list ds,d,e,ha,p1,p2,k⟩
 | tuple ds=>exact Al hu pins s σ H x y v u Q I rx ry ⟨A,d1,.tuple ds,d,e,ha,p1,p2,k⟩
 | _=>cases e
end
noncomputable def lQ (i:Nat) (mk mv:ME):MS:=fun Γ=>(mv Γ).bind fun x=>(mk Γ).bind fun kd=>match gv Γ i with
 | some (.dict kvs)=>match dJ kd with
  | some key=>gd (kvs.length < bp∧i < Γ.length) (.ok (.nx (Γ.set i (some (.dict (qx kd key x kvs))))))
  | none=>.bad
 | _=>.bad
section
variable {X:Cx}{rm:Rm}{Ol O:List Fl}{m m':ME}{e a b:Expr}{pos p apos cpos:Pos}
theorem Qz {K:ag}{A B H:Hp}{σ:L2.St}{Γ:Ev}{i:Nat}{kvs:List (ae×ae)} (r:aV K A B H O σ Γ) (hi:isO (fl O i)=true) (he:gv Γ i=some (.dict kvs)):∃q u,sv σ i=some (.ref q)∧H q=some (.dK u)∧bw K A kvs u:=by
 obtain ⟨d,q,o,e1,e2,h1,h2,h3,⟨ds',vs,rfl,rfl,h4⟩ | ⟨kvs,u,rfl,rfl,h4⟩⟩:=r.uQ hi (by rw[he];simp)
 · rw[he] at e1;cases e1
 · rw[he] at e1
   cases e1
   exact ⟨q,u,e2,h1,h4⟩
theorem Rp.key {K:ag}{A:Hp}{d:ae}{v:V}{key:Key} (p:Rp K A d v) (h:dJ d=some key):v=kV key:=Pk.key (H:=A) (.inl p) h
theorem rA (i:Nat) {x:Str}{xp tpos:Pos} (hu:X.A.units+66 < vx) (ha:QE X a (tE X.K O m)) (he:QE X e (tE X.K O m')) (hi:isO (fl O i)=true:=by rfl) (hN:X.N[i]?=some x:=by rfl) (hv:Vis X.env.scope x:=by first | exact cb rfl | exact g9 (cb rfl) | exact g9 (g9 rfl)) (hd:(x == ("__debug__" : Str))=false:=by decide)
 (hcd:(x == ("__classdict__" : Str))=false:=by decide) (hs:j3 e (some (.Subscript (.Name x xp) a tpos)) pos.line X.env=pure false:=by rfl) :
 QS X (.Assign [.Subscript (.Name x xp) a tpos] e pos) (tS X.K rm Ol O O (lQ i m m')):=by
 refine QS.imp (Va (by omega) (il hN hv hd hcd) ha.h he.h hs) fun D σ H aA=>?_
 obtain ⟨A,B,Γ,o,r,em,k⟩:=aA
 obtain ⟨d,e1,em⟩:=Res.aF em
 obtain ⟨kd,e2,em⟩:=Res.aF em
 cases hg:gv Γ i with
 | none=>rw[hg] at em;cases em
 | some dl=>
  rw[hg] at em
  cases dl with
  | dict kvs=>
   have em':(match dJ kd with | some key=>gd (kvs.length < bp∧i < Γ.length) (Res.ok (Out.nx (Γ.set i (some (.dict (qx kd key d kvs)))))) | none=>.bad) = .ok o:=em
   cases hk:dJ kd with
   | none=>rw[hk] at em';cases em'
   | some key=>
    rw[hk] at em'
    obtain ⟨⟨hz,hlt⟩,em'⟩:=cN em'
    cases em'
    obtain ⟨q,u,e3,h2,h4⟩:=Qz r hi hg
    refine ⟨A,B,Γ,d,r,e1,fun v A1 H1 g1 p1=>⟨.ref q,jc e3,A1,B,Γ,_,r.grow g1,e2,fun w A2 H2 g2 p2=>?_⟩⟩
    have gg:=g1.trans g2
    refine ⟨q,_,rfl,by rw[Rp.key p2 hk];exact Dw.k (gg.hh _ _ h2) (by rw[← h4.length];exact hz),?_⟩
    exact k σ A2 _ ((r.grow gg).change hi hlt (by rw[hg];simp) e3 (gg.hh _ _ h2) (.inr ⟨_,_,rfl,rfl,bw.put hk (Rp.mono g2.aa _ p1) (bw.mono gg.aa _ h4)⟩)) gg.aa (gg.nB r.b)
  | _=>cases em
end
section
variable {X:Cx}
end
noncomputable def mW:List (ae×ae)→Option (List Int)
 | []=>some []
 | (.int k,_)::r=>(mW r).map (k :: ·)
 | _=>none
theorem Ei {K:ag}{A:Hp}:∀{kvs:List (ae×ae)}{ns:List Int}{u:List (Key×V)},mW kvs=some ns→bw K A kvs u→u.map (·.1)=ns.map rV
 | [],ns,u,h,r=>by cases h;rw[bw.nil.mp r];rfl
 | (.int k,d)::rest,ns,u,h,r=>by
  have h:(mW rest).map (k :: ·)=some ns:=h
  cases e:mW rest with
  | none=>rw[e] at h;cases h
  | some ms=>
   rw[e] at h;cases h
   obtain ⟨key,v,u',rfl,hk,_,r'⟩:=bw.cons.mp r
   cases hk
   rw[dk,dk,Ei e r']
 | (.none,d)::rest,ns,u,h,r=>by cases h
 | (.bool _,d)::rest,ns,u,h,r=>by cases h
 | (.str _,d)::rest,ns,u,h,r=>by cases h
 | (.list _,d)::rest,ns,u,h,r=>by cases h
 | (.tuple _,d)::rest,ns,u,h,r=>by cases h
 | (.dict _,d)::rest,ns,u,h,r=>by cases h
theorem V5 {u:List (Key×V)}{vs:List (Key×ai)} (r:KV u vs):vs.map (·.1)=u.map (·.1):=by
 unfold KV at r
 induction r with
 | nil=>rfl
 | cons h t ih=>rw[dk,dk,ih,h.1]
theorem Ux {P:cw}{w:eI}{i:Int}{v:ai} (h:(dW P w).is (.inl i) v=true):∃t,v = .int i t:=by
 rw[K4] at h
 cases v <;> simp_all [qz,Value.isInt]
theorem qY:∀{vs:List ai}{ns:List Int},vs.length=ns.length→(∀(j:Nat) (v:ai),vs[j]?=some v→∃n t,ns[j]?=some n∧v = .int n t)→lx vs ns
 | [],[],_,_=>.nil
 | [],_::_,h,_=>by simp at h
 | _::_,[],h,_=>by simp at h
 | v::vs,n::ns,h,g=>by
  obtain ⟨n',t,e,rfl⟩:=g 0 v rfl
  obtain rfl:n=n':=Option.some.inj e
  exact .cons n t (qY (by simpa using h) fun j v hv=>g (j+1) v (by simpa using hv))
section
variable {X:Cx}
theorem Fj (hc:X.calm=true):fK X (.builtin "sorted") (fun xs H Q=>∃p u ns,xs=[.ref p]∧H p=some (.dK u)∧u.map (·.1)=ns.map rV∧ns.length < 3000∧∀l,H l=none→Q (.ref l) (upd H l (.lst ((srt ns).map V.int)))):=by
 intro pins s σ H xs us Q I r h
 obtain ⟨p,u,ns,rfl,he,hk,h64,q⟩:=h
 obtain ⟨z,rfl,rx⟩:=vals1 r
 cases rx
 obtain ⟨hz,hsys,vs,kv,dd⟩:=Tg I.hok he
 obtain ⟨ep,hat⟩:=dd.dictAt
 have hks:=(V5 kv).trans hk
 have hln:vs.length=ns.length:=by have:=congrArg List.length hks;rw[aw,aw] at this;exact this
 have small:vs.length≤bp:=by rw[hln];exact fF (oP h64 (by decide))
 refine (rg kind_sorted plain_sorted entry_sorted (args_sorted1 _) ?_);unfold Builtin.«sorted»
 refine af (m:=checkCount "sorted" 1 1 _) (av (af (PySem.W.kdu_collect (A:=X.A.in1) (PySem.W.kdl_dict (knd:=dW X.prog X.w) (kvs:=vs) (ep:=ep) hsys) (I.ok.hd hc) hat small fun h' tk acc hkeep hacc=>?_)))
 have hl:acc.toList.length=ns.length:=by rw[cy,hacc.1,hln]
 have hI:lx acc.toList ns:=qY hl fun j v hv=>by
  obtain ⟨k,x,e1,e2⟩:=hacc.2 j v (by rw[← ft];exact hv)
  have e3:(ns.map rV)[j]?=some k:=by rw[← hks,cn,e1];rfl
  rw[cn] at e3
  cases e4:ns[j]? with
  | none=>rw[e4] at e3;cases e3
  | some n=>
   rw[e4] at e3;cases e3
   obtain ⟨t,rfl⟩:=Ux e2
   exact ⟨n,t,rfl,rfl⟩
 have hoL:(h'.push (mI "list" acc.toList.toArray 0)).get? h'.objs.size=some (mI "list" acc.toList.toArray 0):=df _ rfl
 have I1:L2.Inv X pins σ H { s with heap:=h',toks:=tk }:=I.kept hkeep
 refine af (zk (af (gi (gp slot_list_sort ⟨_,hoL,rfl⟩ entry_list_sort (vm hoL hI (fF (cx (show _ < 3000 by omega) (by decide))) fun out ns' a1 a2 a3=>⟨_,rfl,av ⟨_,rfl,?_⟩⟩) (args_list_sort _)))) (by rw[hl];exact fF (oP h64 (by decide))))
 have e:ns'=srt ns:=gR (a2.trans (cB ns).symm) a3 (fL ns)
 subst e
 obtain ⟨c,hc'⟩:=sortedHeap_at (out:=out) hoL
 refine ⟨.ref h'.objs.size,_,I1.laid (a:=h'.objs.size) (o:=.lst ((srt ns).map V.int)) (h':=sortedHeap (h'.push (mI "list" acc.toList.toArray 0)) h'.objs.size acc.toList out) (t':=tk) (fun b o e=>?_) (aE _) ?_,rfl,q _ (I1.hok.fresh (aE _))⟩
 · have hb:b < h'.objs.size:=bE e
   rw[sortedHeap_old (eJ hb) (by rw[size_push'];exact qa hb)]
   exact aI _ e
 · refine ⟨?_,out.toList,c,lR a1,by simpa[mI] using hc'⟩
   rw[aw,(cB ns).length_eq]
   exact fF (oP h64 (by decide))
noncomputable def zG:List ae→Res ae
 | [.dict kvs]=>match mW kvs with
  | some ns=>gd (ns.length < 3000) (.ok (.list ((srt ns).map ae.int)))
  | none=>.bad
 | _=>.bad
theorem Ke (hc:X.calm=true):fK X (.builtin "sorted") (rCF X.K zG):=by
 intro pins s σ H xs us Q I r h
 obtain ⟨A,ds,d,e,ha,p,k⟩:=h
 match ds,e with
 | [.dict kvs],e=>
  have e:(match mW kvs with | some ns=>gd (ns.length < 3000) (.ok (.list ((srt ns).map ae.int))) | none=>.bad)=Res.ok d:=e
  cases hn:mW kvs with
  | none=>rw[hn] at e;cases e
  | some ns=>
   rw[hn] at e
   obtain ⟨hz,e⟩:=cN e
   cases e
   obtain ⟨v,r',rfl,p1,p2⟩:=p.cons
   obtain rfl:=p2.nil
   obtain ⟨l,u,rfl,h1,q1⟩:=p1.dict ha
   exact Fj hc pins s σ H _ us Q I r ⟨l,u,ns,rfl,h1,Ei hn q1,hz,fun q hq=>k _ A _ (aP.lay ha hq) ⟨q,_,rfl,hq,bK,ha.free hq,.inl ⟨_,_,rfl,rfl,aB.ints⟩⟩⟩
end
section
variable {K:ag}{A B H A' H':Hp}{O:List Fl}{σ:L2.St}{Γ:Ev}{i:Nat}
end
section
variable {K:ag}{A B H H0 A' H':Hp}{σ:L2.St}{Γ:Ev}
end
section
variable {X:Cx}{K:ag}{O:List Fl}{m:ME}{ms:List ME}{as:List MA}{e:Expr}{es:List Expr}{pos:Pos}
end
section
variable {X:Cx}{k:Nat}{x:Str}{ps:List Str}{fs:List Fl}{j:Nat}{f:List ae→Res ae}{O:List Fl}{as:List MA}{ms:List ME}{p pos:Pos}{e:Expr}{es:List Expr}
end
section
variable {X:Cx}{K:ag}{rm:Rm}{Ol O O':List Fl}{f:List ae→Res ae}{ms:List ME}{m:ME}{e:Expr}{pos:Pos}
end
section
variable {P:cw}{w:eI}{K:ag}{mg:Str→Option ai}{base:Heap}
end
section
variable {K:ag}{A B H:Hp}{O:List Fl}{σ:L2.St}{Γ:Ev}
end
section
variable {K:ag}{O Ob O1:List Fl}{tn:List Str}{ix is:List Nat}{it:MI}{g:MG}{f:List ae→Res ae}{ms:List ME}
end
section
variable {X:Cx}{O Ob O1 Ol O':List Fl}{scope:si}{is:List Nat}{it:MI}{g:MG}{m1:ME}{f:List ae→Res ae}{ms:List ME}{e1 elt tg iter:Expr}{nt:Nat}
end
abbrev Ld:List ai:=[.type "ValueError",.type "Exception",.type "BaseException",.type "object"]
noncomputable abbrev ue (K:ag) (C:Addr):Prop:=BH K C Ld "ValueError.__new__" = true
theorem Uw {K:ag}{h:Heap}{C:Addr} (X:K.In h) (q:ue K C):∃bm N nm qn bs hdct sn sub ab col dd k0 k1 k2 k3 k5 mN,
 h.get? C=some (excClassObj nm qn C N bs bm hdct sn sub ab col dd k0 k1 k2 k3 k5 "ValueError.__new__")∧h.Ns N mN∧mN "__init__" = none∧OwnTail h Ld bm:=by
 have q:BH K C Ld "ValueError.__new__" = true:=q
 unfold BH at q
 cases e:K.lookup C with
 | none=>rw[e] at q;cases q
 | some ob=>
  rw[e] at q
  split at q
  · rename_i heq
    cases heq
    rename_i dd cd sl
    split at q
    · rename_i C' bm k0 k1 k2 k3 n k5 hm hs
      simp only[cc,beq_iff_eq,Bool.not_eq_true'] at q
      obtain ⟨⟨⟨⟨⟨q1,q2⟩,q3⟩,q4⟩,q5⟩,q6⟩:=q
      subst q1 q2
      obtain ⟨nm,bs,mro,nsA,qn,hd,sn,sub,ab,col,del⟩:=cd
      have hm:mro = .ref C'::bm:=hm
      have q3:del=false:=q3
      subst hm q3
      obtain ⟨l⟩:=sl
      have hs:l=[k0,k1,k2,k3,some (.builtin "ValueError.__new__"),k5]:=hs
      subst hs
      exact ⟨bm,nsA,nm,qn,bs,hd,sn,sub,ab,col,dd,k0,k1,k2,k3,k5,_,X _ _ e,.of_isNs (PySem.W.isNs_of_in X q5),PySem.W.nsMap_none_of_in X q5 q6,PySem.W.tail_of_in X q4⟩
    · cases q
  · cases q
noncomputable def Ad (X:Cx) (C:Addr) (XE:Hp→Prop):Prop:=∀(pins:List (Addr×Obj)) (σ:L2.St) (H:Hp) (s:ar) (h':Heap) (e:Addr) (vs:List ai),L2.Inv X pins σ H s→Heap.MadeExcOf s.heap h' e (.ref C) vs→XE H→X.xe (.ref e) { s with heap:=h' }
section
variable {X:Cx}
theorem Pu {x:Str}{C:Addr}{e:Expr}{te:TE}{np cpos pos:Pos}{XE:Hp→Prop} (hc:X.calm=true) (hg:Gl X x) (hm:X.mg x=some (.ref C)) (hC:ue X.K C) (he:PE X e te) (hx:Ad X C XE)
 (hs:d4 (e::[]) X.env=(false,eval e X.env)::d4 [] X.env) (hd:(x == ("__debug__" : Str))=false:=by decide) :
 PS X (.Raise (some (.Call (.Name x np) [e] [] cpos)) none pos) (fun D σ H=>te σ H fun v H1=>XE H1∧[v].length=1):=by
 intro pins s σ H D I h
 obtain ⟨bm,N,nm,qn,bs,hdct,sn,sub,ab,col,dd,k0,k1,k2,k3,k5,mN,h1,h2,h3,h4⟩:=Uw I.ok.mod.kin hC
 refine wpAny_Raise_call_subT (C:=C) (nm:=nm) (q:=qn) (N:=N) (bs:=bs) (bm:=bm) (hdct:=hdct) (sn:=sn) (sub:=sub) (ab:=ab) (col:=col) (dd:=dd) (k0:=k0) (k1:=k1) (k2:=k2) (k3:=k3) (k5:=k5) PySem.F.excBase_ValueError (mN:=mN) (h4.hasType (by decide +kernel)) (I.ok.hd hc) (by rw[hs];rfl) h3 (oU I hg hm ⟨rfl,?_⟩ hd)
 have hp:=cV he fX hs cpos pins s σ H (fun vs H2=>XE H2∧vs.length=1) I h
 rw[hs] at hp ⊢
 refine Calls.evalArgs_plain (thn hp fun us s2 z=>?_)
 obtain ⟨vs,H2,I2,r,q,hl⟩:=z
 refine ⟨rfl,by rw[← r.length,hl];decide,I2.bk _ _ h1,h2.keeps I2.bk,h4.keeps I2.bk,fun h' ea hm'=>hx pins σ H2 s2 h' ea us I2 hm' q⟩
end
noncomputable def CXE (P:cw) (w:eI):CXT:=fun outer H s E e s'=>∃(ea t C:Addr) (B:Heap) (H':Hp),e = .ref ea∧s'.os=s.os∧vT s'.gens∧Heap.FlyingW B outer ea (.ref C) (.ref t) s'.heap ∧
 (∀b o,s.heap.get? b=some o→b∉frs outer→H b=none→B.get? b=some o)∧HOk P w H' B∧Un (frs outer) [] H H' s.heap s'.heap∧E (.ref C) none H'
theorem dY {base h:Heap}{l:List Env} (F:h.FunFrames base l) {b:Addr} (hb:b∈frs l):∃o,h.get? b=some o∧∀vs,o.data ≠ .fields vs:=(F.mem hb).2
theorem yN {P:cw}{w:eI}{K:ag}{mg:Str→Option ai}{base:Heap}{N:List Str}{qual:Str}{scope:si}{f:Addr}{cd:ai}{A:eo}{outer:List Env}{s:ar}{H:Hp}{E:XK}{C:Addr} :
 Ad (kh (CXE P w) P w K mg base N qual scope f cd A outer s H E) C (fun H1=>E (.ref C) none H1):=by
 intro pins σ H1 s2 h' e vs I hm hE
 have Sw:s2.heap.FunFrames base (iX qual scope s.heap.objs.size f cd::outer):=I.stack
 have hfree:∀b∈frs (iX qual scope s.heap.objs.size f cd::outer),H1 b=none:=I.zB
 have hbase:Un (frs outer) [] H H1 s.heap s2.heap:=I.base
 have hloc:s.heap.objs.size≤(iX qual scope s.heap.objs.size f cd).locals:=I.ok.above
 have hin:∀b,b∈frs (iX qual scope s.heap.objs.size f cd::outer)→b=s.heap.objs.size∨b∈frs outer:=fun b hb=>by
  have hb:b∈(iX qual scope s.heap.objs.size f cd::outer).filterMap (·.frame):=hb
  obtain ⟨en,he,hf⟩:=fx.mp hb
  rcases be.mp he with rfl | he
  · left;exact (Option.some.inj hf).symm
  · right;exact fx.mpr ⟨en,he,hf⟩
 let B:=PySem.W.hideAll s2.heap (frs (iX qual scope s.heap.objs.size f cd::outer))
 have hB:∀b o,s2.heap.get? b=some o→b∉frs (iX qual scope s.heap.objs.size f cd::outer)→B.get? b=some o:=fun b o e n=>PySem.W.hideAll_get _ e n
 have old:∀b o,s.heap.get? b=some o→b∉frs outer→b∉frs (iX qual scope s.heap.objs.size f cd::outer):=fun b o e n z=>by
  rcases hin b z with q | q
  · subst q;exact absurd (bE e) (hZ _)
  · exact n q
 show bP (bt P w) _ (leaving (iX qual scope s.heap.objs.size f cd) (.ref e)) _ _ _
 refine wpAny_leaves_madeW (base:=B) (h:=s2.heap) (L:=s.heap.objs.size) (cls:=.ref C) I.ok.frames rfl (fun b o q=>PySem.W.of_hideAll _ q) (PySem.W.funFrames_hide Sw fun en he a ha=>fx.mpr ⟨en,he,ha⟩) hm fun h'' t x1 x2 x3 x4=>?_
 have toB:HOk P w H1 B:=fun a o ea=>((I.hok a o ea).stay (H':=H1) (h':=B) (fun b u hb hu=>hB b u hu fun z=>by
  have:=hfree b z
  rcases hb with rfl | hb
  · rw[ea] at this;cases this
  · rw[hb] at this;cases this) (fun _ q=>q) fun _ _ q=>q)
 refine ⟨e,t,C,B,H1,rfl,I.os,I.bare,x1,fun b o eb n hn=>hB b o (hbase.keep b o eb hn n (by simp)) (old b o eb n),toB,⟨fun b o eb hn n _=>x1.1 _ _ (hB b o (hbase.keep b o eb hn n (by simp)) (old b o eb n)),fun b o eb hn hb _=>?_,fun b o eb hn _=>hbase.free b o eb hn (by simp),fun b o eb _=>?_,hbase.tups,hbase.j8,hbase.lG⟩,hE⟩
 · obtain ⟨sl,q⟩:=hbase.slot b o eb hn hb (by simp)
   have hbs:b∈frs (iX qual scope s.heap.objs.size f cd::outer):=by
    obtain ⟨en,he,hf⟩:=fx.mp (show b∈outer.filterMap (·.frame) from hb)
    exact fx.mpr ⟨en,bg _ he,hf⟩
   obtain ⟨o',ho',hd⟩:=dY Sw hbs
   rw[q] at ho'
   cases ho'
   obtain ⟨sl',q'⟩:=x4 b _ (hm.keeps b _ q) hd
   exact ⟨sl',q'⟩
 · obtain ⟨o',q⟩:=hbase.there b o eb (by simp)
   by_cases hb:b∈frs (iX qual scope s.heap.objs.size f cd::outer)
   · obtain ⟨o2,ho2,hd⟩:=dY Sw hb
     obtain ⟨sl',q'⟩:=x4 b _ (hm.keeps b _ ho2) hd
     exact ⟨_,q'⟩
   · exact ⟨o',x1.1 _ _ (hB b o' q hb)⟩
noncomputable abbrev MZ:=Ev→Res Str
noncomputable def zNo:MZ:=fun _=>.bad
noncomputable def u0 (c:Str):MZ:=fun _=>.ok c
noncomputable def fG (m1:MS) (z1 z2:MZ):MZ:=fun Γ=>match m1 Γ with
 | .ok (.nx Γ')=>z2 Γ'
 | _=>z1 Γ
noncomputable def zIf (c:ME) (z1 z2:MZ):MZ:=fun Γ=>(c Γ).bind fun x=>match x with
 | .bool true=>z1 Γ
 | .bool false=>z2 Γ
 | _=>.bad
noncomputable def tZ (K:ag) (O:List Fl) (XE:Str→Hp→Prop) (z:MZ):TS:=fun D σ H=>∃A B Γ c,aV K A B H O σ Γ∧z Γ = .ok c∧∀A' H',aH A' H'→aH B H'→aH A A'→New A A' B→XE c H'
section
variable {X:Cx}{K:ag}{rm:Rm}{Ol O O1 O2:List Fl}{XE:Str→Hp→Prop}{m1:MS}{m:ME}{z z1 z2:MZ}{c:Expr}{st:Stmt}{rest a b:List Stmt}{pos:Pos}
theorem vX:QS X st (tZ K O XE zNo):=QS.imp Gm fun D σ H aA=>by obtain ⟨A,B,Γ,c,r,em,k⟩:=aA;cases em
theorem lK:QSs X rest (tZ K O XE zNo):=QSs.imp Br fun D σ H aA=>by obtain ⟨A,B,Γ,c,r,em,k⟩:=aA;cases em
theorem El {x msg:Str}{j}{C:Addr}{np p2 cpos pos:Pos} (hc:X.calm=true) (hg:Gl X x) (hm:X.mg x=some (.ref C)) (hC:ue X.K C) (hx:Ad X C (XE x)) (hd:(x == ("__debug__" : Str))=false:=by decide) :
 QS X (.Raise (some (.Call (.Name x np) [.Constant (.str msg) j p2] [] cpos)) none pos) (tZ K O XE (u0 x)):=QS.imp (Pu hc hg hm hC MN hx rfl hd) fun D σ H aA=>by
 obtain ⟨A,B,Γ,c,r,em,k⟩:=aA
 cases em
 exact ⟨k A H r.a r.b (aH.refl _) fun _ h _=>h,rfl⟩
theorem gm (h1:QS X st (tS K rm Ol O O1 m1)) (h1z:QS X st (tZ K O XE z1)) (h2z:QSs X rest (tZ K O1 XE z2)):QSs X (st::rest) (tZ K O XE (fG m1 z1 z2)):=by
 refine ⟨fun pins s σ H D I h=>?_⟩
 obtain ⟨A,B,Γ,c,r,em,k⟩:=h
 have em:(match m1 Γ with | .ok (.nx Γ')=>z2 Γ' | _=>z1 Γ) = .ok c:=em
 by_cases hq:∃Γ',m1 Γ = .ok (.nx Γ')
 · obtain ⟨Γ',hq⟩:=hq
   rw[hq] at em
   exact sU h1.h h2z.h pins s σ H D I ⟨A,B,Γ,_,r,hq,fun σ' A' H' r' sa nw=>⟨A',B,Γ',c,r',em,fun A2 H2 q1 q2 q3 q4=>k A2 H2 q1 q2 (sa.trans q3) (nw.trans q4)⟩⟩
 · have em:z1 Γ = .ok c:=by
    revert em
    split
    · rename_i Γ' e;exact absurd ⟨Γ',e⟩ hq
    · exact id
   exact sU h1z.h (Br (X:=X)) pins s σ H D I ⟨A,B,Γ,c,r,em,k⟩
theorem Tq (hc:QT X c (tT K O m)) (ha:QSs X a (tZ K O XE z1)) (hb:QSs X b (tZ K O XE z2)):QS X (.If c a b pos) (tZ K O XE (zIf m z1 z2)):=QS.imp (Tc hc.h ha.h hb.h) fun D σ H aA=>by
 obtain ⟨A,B,Γ,c,r,em,k⟩:=aA
 obtain ⟨d1,e1,em⟩:=Res.aF em
 cases d1 with
 | bool bb=>
  refine ⟨A,B,Γ,bb,r,e1,fun A1 H1 g1=>?_⟩
  cases bb with
  | true=>exact uL ⟨A1,B,Γ,c,r.grow g1,em,fun A2 H2 q1 q2 q3 q4=>k A2 H2 q1 q2 (g1.aa.trans q3) ((g1.nB r.b).trans q4)⟩
  | false=>exact wZ ⟨A1,B,Γ,c,r.grow g1,em,fun A2 H2 q1 q2 q3 q4=>k A2 H2 q1 q2 (g1.aa.trans q3) ((g1.nB r.b).trans q4)⟩
 | _=>cases em
end
noncomputable def spZ (K:ag) (fs:List Fl) (cl:Str→Addr) (zf:List ae→Res Str):Sp:=fun vs H _ E=>∃A ds c,aH A H∧jB K A H fs ds vs∧zf ds = .ok c∧∀A' H',aP A H A' H'→E (.ref (cl c)) none H'
noncomputable def fnZ (n:Nat) (z:MZ) (ds:List ae):Res Str:=z (ds.map some++b9 (n - ds.length) none)
structure DefX (P:cw) (w:eI) (K:ag) (mg:Str→Option ai) (base:Heap) (k:Nat) (x:Str) (ps:List Str) (sp:Sp):Prop where
 ex:∃f fd,n8 P w K mg base (CXE P w) k f fd ps sp∧Binds K fd ps []∧dS K (.ref f)=true∧mg x=some (.ref f)
section
variable {P:cw}{w:eI}{K:ag}{mg:Str→Option ai}{base:Heap}
theorem vU {x:Str}{st:Stmt}{N ps:List Str}{k:Nat}{fs O:List Fl}{cl:Str→Addr}{z:MZ} (F:At K mg x st ps) (S:bL N ps (aC st)) (hf:fs.length=ps.length) (hn:ps.length≤N.length)
 (hO:∀i,i < fs.length→(fl O i = .imm∧fl fs i = .imm)∨fl O i = .bor)
 (hbody:∀(f:Addr) (cdv:ai) (A:eo) (outer:List Env) (s:ar) (H:Hp) (E:XK),dg k (A.deeper (iX x (aC st) s.heap.objs.size f cdv)) →
  QSs (kh (CXE P w) P w K mg base N x (aC st) f cdv A outer s H E) (aU st) (tZ K O (fun c H1=>E (.ref (cl c)) none H1) z)):DefX P w K mg base (k+1) x ps (spZ K fs cl (fnZ N.length z)):=by
 obtain ⟨f,fd,F,b,m⟩:=F.ex
 obtain ⟨oc,od,kV,doc,pm,an,cdv,ct,osl,rfl,lk,hcd⟩:=F.ex
 refine ⟨f,_,S7 lk hcd S (fun vs H Q E h=>?_) (fun A outer s H vs Q E hr h=>?_),b,F.kp,m⟩
 · obtain ⟨A,ds,c,_,h,_⟩:=h
   rw[h.length.1,hf]
 · obtain ⟨A',ds,c,ha,h,em,q⟩:=h
   exact ⟨_,(hbody f cdv A outer s H E hr).h,A',H,_,c,nq ha h hO (by omega),em,fun A2 H2 q1 q2 q3 q4=>q A2 H2 ⟨q3,q2,q1,q4⟩⟩
end
theorem vy {P:cw}{w:eI}{H:Hp}{h:Heap}{a:Addr}{o:HO} (ok:HOk P w H h) (e:H a=some o):∃u,h.get? a=some u:=by
 have x:=ok a o e
 cases o with
 | lst xs=>obtain ⟨_,_,_,_,e⟩:=x;exact ⟨_,e⟩
 | tup xs=>obtain ⟨_,_,_,p⟩:=x;obtain ⟨o,e,_⟩:=p;exact ⟨_,e⟩
 | dK kvs=>obtain ⟨_,_,_,_,o,_,_,e,_⟩:=x;exact ⟨_,e⟩
 | dT kvs=>obtain ⟨_,_,_,_,o,_,_,e,_⟩:=x;exact ⟨_,e⟩
 | set S n=>obtain ⟨o,_,_,_,e,_⟩:=x;exact ⟨_,e⟩
 | ins C dx fs=>obtain ⟨_,_,_,e,_⟩:=x;exact ⟨_,e⟩
 | own y=>obtain ⟨_,e⟩:=x;exact ⟨_,e⟩
 | xd fs=>obtain ⟨_,⟨_,_,_,e,_⟩,_⟩:=x;exact ⟨_,e⟩
 | rng lo hi=>obtain ⟨_,_,_,e⟩:=x;exact ⟨_,e⟩
 | frz ob u=>obtain ⟨e,_⟩:=x;exact ⟨_,e⟩
 | tbl ps=>exact ⟨_,(show h.get? a=some _ from x)⟩
 | met f y=>exact ⟨_,(show h.get? a=some _ from x)⟩
 | ext φ=>obtain ⟨_,⟨_,e⟩,_⟩:=x;exact ⟨_,e⟩
section
variable {X:Cx}{pins:List (Addr×Obj)}{σ:L2.St}{H:Hp}{s:ar}{O:List Fl}{Γ:Ev}{A B:Hp}
theorem Ti {k:Nat}{f:Str}{ps:List Str}{fs:List Fl}{cl:Str→Addr}{zf:List ae→Res Str}{ms:List ME}{p pos:Pos}{e:Expr}{es:List Expr}{ds:List ae}{c:Str}{Ex:ai→ar→Prop}
 (I:L2.Inv X pins σ H s) (F:DefX X.prog X.w X.K X.mg X.base k f ps (spZ X.K fs cl zf)) (hr:dg k X.A) (hg:Gl X f) (ha:QA X (e::es) (tAr X.K O fs ms)) (hnx:∀er s',¬ X.xe er s') (r:aV X.K A B H O σ Γ) (e1:evs ms Γ = .ok ds) (ez:zf ds = .ok c)
 (k:∀er s' s1 H1 A1,L2.Inv X pins σ H1 s1→aP A H A1 H1→CXE X.prog X.w X.stack H1 s1 (fun cv _ H'=>cv = .ref (cl c)∧∃A',aP A1 H1 A' H') er s'→Ex er s')
 (hdb:(f == ("__debug__" : Str))=false:=by decide) (he:noStar e=true:=by rfl) (hpl:eQ es=true:=by rfl) :
 bP (bt X.prog X.w) X.A (eval (.Call (.Name f p) (e::es) [] pos) X.env) (fun _ _=>False) Ex s:=by
 obtain ⟨fa,fd,F,hb,kp,hm⟩:=F.ex
 refine mB (oU I hg hm ?_ hdb)
 refine wo (h₀:=X.base) I.ok.mod.kin kp (gc (ha.h pos pins s σ H (fun vs H1=>∃A1,aP A H A1 H1∧jB X.K A1 H1 fs ds vs) I ⟨A,B,Γ,ds,r,e1,fun vs A1 H1 g p=>⟨A1,g,p⟩⟩) (fun us s1 z=>?_) fun er s' z=>absurd z (hnx er s')) (bO he) (gA hpl)
 obtain ⟨vs,H1,I1,rv,A1,g1,p1⟩:=z
 refine ⟨I1.kIn,?_⟩
 have hl:us.length=ps.length:=by
  rw[← rv.length]
  exact F.len vs H1 (fun _ _=>False) (fun _ _ _=>True) ⟨A1,ds,c,g1.ah,p1,ez,fun _ _ _=>trivial⟩
 refine wm (qS (F.run X.A X.stack s1 H1 ⟨us,[]⟩ us vs (fun _ _=>False) (fun cv _ H'=>cv = .ref (cl c)∧∃A',aP A1 H1 A' H') hr I1.env0 (by have:=hb s1 us I1.kIn (by rw[fq];exact hl);rw[fq] at this;exact this) rv ⟨A1,ds,c,g1.ah,p1,ez,fun A' H' g=>⟨rfl,A',g⟩⟩) fun rr s' hq=>?_)
 cases rr with
 | error er=>exact k er s' s1 H1 A1 I1 g1 hq
 | ok fl=>
  cases fl with
  | ret u=>obtain ⟨v,H',_,_,_,_,_,q⟩:=hq;exact q.elim
  | next=>exact hq.elim
  | brk=>exact hq.elim
  | cont=>exact hq.elim
end
section
variable {M:vw}{A:eo}{E:ai→ar→Prop}{K:ag}
theorem uq {h:Heap}{Ci:Addr} (X:K.In h) (e:(pE K Ci).isSome=true):md M h (isType (.ref Ci)) true:=by
 unfold pE at e
 split at e
 · rename_i c' d' cd' sl' ho
   intro A' Q' E' s' k q
   unfold isType loadHead
   exact af (wpAny_loadPart (k _ _ (X _ _ ho)) (av q))
 · cases e
theorem d7 {h:Heap}{ea C:Addr}{ob:Obj} (he:h.get? ea=some ob) (hcl:ob.cls = .ref C):md M h (typeOf (dQ ea)) (.ref C):=by
 intro A' Q' E' s' k q
 unfold typeOf
 exact af (wpAny_loadPart (k _ _ he) (av (by rw[hcl];exact q)))
theorem VV {prog:cw}{w:eI}{s:ar}{ea C:Addr}{ob:Obj}{c:ai}{Q:ai→ar→Prop} (X:K.In s.heap) (he:s.heap.get? ea=some ob) (hcl:ob.cls = .ref C) (hk:eL K (.ref C) c=some true) (hne:(dQ C == c)=false) (h:∀tk,Q (.bool true) { s with toks:=tk }) :
 bP (bt prog w) A (call (.builtin "isinstance") [.ref ea,c]) Q E s:=by
 refine AV (S:=fun _ R s=>(K.In s.heap∧s.heap.get? ea=some ob)∧∀tk,R (.ok (.ret (.bool true))) { s with toks:=tk }) (fun prog w A R s hs=>AA ?_ (by intro z;cases z)) ⟨⟨X,he⟩,h⟩
 obtain ⟨h0,g,d,tt,os⟩:=s
 obtain ⟨⟨X',he'⟩,hq⟩:=hs
 unfold Builtin.«isinstance.nested»
 refine af ((d7 he' hcl).at ?_)
 rw[if_neg (by rw[hne];decide)]
 obtain ⟨hty,his,hsub⟩:=PySem.W.kit_cls (M:=bt prog w) X' hk
 have li:md (bt prog w) h0 (AN (.ref ea) c) true:=(d7 he' hcl).andThen hsub
 refine af (hty.at ?_)
 rw[if_pos (by decide)]
 open PySem.W in (k_delta "plainIsInstance")
 refine af (af (his.at ?_));simp only[ia,aT,if_false]
 refine af (li.at ?_);simp only[if_true]
 first
  | exact av (av (hq tt))
  | exact av (hq tt)
  | exact af (av (av (hq tt)))
end
section
variable {X:Cx}{pins:List (Addr×Obj)}{σ:L2.St}{H:Hp}{s:ar}{ea:Addr}{ob:Obj}
end
section
variable {X:Cx}{pins:List (Addr×Obj)}{σ:L2.St}{H:Hp}{s:ar}
theorem U3 {M:vw}{A:eo}{E:ai→ar→Prop}{i:Nat}{x:Str}{v:V}{Q:Unit→ar→Prop} (I:L2.Inv X pins σ H s) (hN:X.N.Nodup) (hi:X.N[i]?=some x) (hk:X.env.scope.names.lookup x=some .local) (hv:σ[i]?=some (some v))
 (h:∀s',L2.Inv X pins (σ.set i none) H s'→Q () s'):bP M A (unbindName X.env x) Q E s:=by
 obtain ⟨m,hn,hl⟩:=id I.loc
 have cne:=I.cne
 have hcls:(X.env.scope.kind == .class||(X.env.scope.kind == .module&&X.env.locals != X.env.globals))=false:=by rw[I.ok.kind];rfl
 obtain ⟨u,_,lk⟩:=hl i x v hi hv (.inl hk)
 have hm:m x=some u:=by
  rcases lk with ⟨_,q⟩ | ⟨q,_⟩
  · exact q
  · have:X.env.scope.names.lookup x=some .cell∨X.env.scope.names.lookup x=some .free:=q
    rw[hk] at this
    rcases this with z | z <;> cases z
 obtain ⟨oL,_,_,hoL,_⟩:=id hn
 refine wpAny_unbindName_local hk hn hm hcls fun h' u' hn' hs=>?_
 have far:∀b o,X.s₀.heap.get? b=some o→b≠X.env.locals:=fun b o e=>eJ (cx (bE e) I.ok.above)
 have tr:HOk X.prog X.w H h':=fun b ob e=>(I.hok b ob e).stay (fun c w' hc q=>(hs.2 c (by
  rintro rfl
  rcases hc with rfl | hc
  · rw[I.free] at e;cases e
  · rw[I.free] at hc;cases hc)).trans q) (fun _ q=>q) fun _ _ q=>q
 refine h _ ⟨I.ok,I.os,I.bare,⟨fun b o e n hb hx=>(hs.2 b (far b o e)).trans (I.base.keep b o e n hb hx),fun b o e n hb hx=>?_,I.base.free,fun b o e hx=>?_,I.base.tups,I.base.j8,I.base.lG⟩,⟨_,hn',fun j y v' e1 e2 e3=>?_⟩,fun y c e=>?_,I.free,I.iQ,fun p hp=>?_,tr,by rw[fI];exact I.len⟩
 · obtain ⟨sl,e1⟩:=I.base.slot b o e n hb hx
   exact ⟨sl,(hs.2 b (far b o e)).trans e1⟩
 · obtain ⟨o',e1⟩:=I.base.there b o e hx
   exact ⟨o',(hs.2 b (far b o e)).trans e1⟩
 · by_cases hj:j=i
   · subst hj
     rw[hU (de.mp hv).1] at e2
     cases e2
   · rw[nk (p9 hj)] at e2
     obtain ⟨u2,r',q⟩:=hl j y v' e1 e2 e3
     refine ⟨u2,r',?_⟩
     rcases q with ⟨k,e⟩ | ⟨k,c,e,z⟩
     · refine .inl ⟨k,?_⟩
       have:y≠x:=fun e=>hj (my hN e1 (e ▸ hi))
       simp[this,e]
     · exact .inr ⟨k,c,e,z.sameBut hs (cne y c e)⟩
 · obtain ⟨w',z⟩:=I.cell y c e
   exact ⟨w',z.sameBut hs (cne y c e)⟩
 · obtain ⟨e,n,ne,nf,d⟩:=I.pin p hp
   exact ⟨(hs.2 p.1 ne).trans e,n,ne,nf,d⟩
end
section
variable {X:Cx}{ea C:Addr}{ob:Obj}
end
theorem aV.forget {K:ag}{A B H:Hp}{O:List Fl}{σ:L2.St}{Γ:Ev}{i:Nat} (r:aV K A B H O σ Γ) (h:gv Γ i=none):aV K A B H O (σ.set i none) Γ:=by
 refine ⟨r.a,r.b,by rw[fI];exact r.len,fun j d e=>?_,fun j l hjl h1 h2 h3 h4=>?_⟩
 · have hj:i≠j:=fun z=>by rw[z,e] at h;cases h
   obtain ⟨v,ev,q⟩:=r.slot j d e
   refine ⟨v,?_,q⟩
   unfold sv at ev ⊢
   rw[aQ hj];exact ev
 · have hj:i≠j:=fun z=>h3 (z ▸ h)
   have hl:i≠l:=fun z=>h4 (z ▸ h)
   unfold sv
   rw[aQ hj,aQ hl]
   exact r.sep j l hjl h1 h2 h3 h4
section
variable {X:Cx}{k:Nat}{fn:Str}{ps:List Str}{fs:List Fl}{f:List ae→Res ae}{zf:List ae→Res Str}{O Ol:List Fl}{rm:Rm}{ms:List ME}{pf pc pos px pa:Pos}{e:Expr}{es:List Expr}
end
theorem iY {K:ag}{t:ai}{C:Addr}{b:Bool} (h1:(pE K C).isSome=true) (h2:xc K (.ref C)=some (.type "type")) (h3:mf K t (.ref C)=some b):eL K t (.ref C)=some b:=by
 unfold eL
 show (if ((pE K C).isSome&&xc K (.ref C) == some (.type "type"))=true then mf K t (.ref C) else none)=some b
 rw[if_pos (by rw[h1,h2];exact beq_self_eq_true _),h3]
theorem Mm {K:ag}{t:ai}{T:String}{b:Bool} (hm:AW T=true) (h3:mf K t (.type T)=some b):eL K t (.type T)=some b:=by
 unfold eL
 show (if AW T=true then mf K t (.type T) else none)=some b
 rw[if_pos hm,h3]
theorem Jo:AW "ValueError" = true:=by decide +kernel
end L3
namespace L2
open PySem PySem.Spec PyProof.Rows
open Builtin Builtin.Str
section
variable {prog:cw}{w:eI}{A:eo}{E:ai→ar→Prop}{s:ar}
end
section
variable {X:Cx}{tg:Expr}
end
end L2
namespace L3
open PySem PySem.Spec PyProof.Rows L2
section
variable {X:Cx}{O:List Fl}{m m':ME}{e a b tg:Expr}{pos p:Pos}
end
section
variable {X:Cx}{rm:Rm}{Ol O O':List Fl}{is:List Nat}{g:MG}{tg:Expr}{p apos cpos pos:Pos}
end
end L3
namespace L2
open PySem PySem.Spec PyProof.Rows
end L2
namespace L3
open PySem PySem.Spec PyProof.Rows L2
section
variable {X:Cx}{k:Nat}{x:Str}{ps:List Str}{fs:List Fl}{f:List ae→Res ae}{O:List Fl}{ms:List ME}{p pos:Pos}{e:Expr}{es:List Expr}
end
section
variable {X:Cx}{K:ag}{rm:Rm}{Ol O O':List Fl}{m1 m2:MS}{sts:List Stmt}
end
end L3
namespace L2
open PySem PySem.Spec PyProof.Rows
noncomputable def JF (lo c:Int) (n:Nat):It:=⟨fun i _=>i < n,fun i H x H'=>H'=H∧x = .int (lo+i*c),fun i _=>n≤i⟩
theorem Hf {P:cw}{w:eI}{K:ag}{tg:Expr} (it:Addr) (lo c:Int) (n:Nat):Turn P w K tg (JF lo c n) [it] it (fun i h=>A7 h it (lo+(i:Nat)*c) ((n:Int) - (i:Nat)) c) where
 mem:=by simp
 obj:=fun i h st b hb=>by
  have e:b=it:=by simpa using hb
  subst e
  exact ⟨_,st,fun v z=>by
   have z':Data.fields _=Data.cell v:=z
   cases z'⟩
 keep:=fun i h h' st k=>k it (by simp) _ st
 item:=by
  intro X hP hw hK hc i pins s σ H E I hf st hg
  subst hP hw hK
  obtain ⟨f0,f1,f2,f3,f4,f5⟩:=hf it (by simp)
  have W:=Walks.range (prog:=X.prog) (w:=X.w) (I.ok.hd hc) it lo c n
  refine W.item i s _ _ hg st fun v h' tk hv st' kk=>?_
  obtain ⟨t,rfl⟩:=hv
  have I1:Inv X pins σ H { s with heap:=h',toks:=tk }:=I.turned (fun b o hb e=>kk b o (by simpa using hb) e) f0 f1 f3 f4 f5
  refine ⟨_,rfl,De (s:={ s with heap:=h',toks:=tk }) (n := "range_iterator") st' rfl rfl (by decide) ⟨.int (lo+i*c),H,I1,⟨t,rfl⟩,⟨rfl,rfl⟩,st',fun b hb=>(hf b hb).1⟩⟩
 done:=by
  intro X hP hw hK hc i pins s σ H E I hf st hg
  subst hP hw hK
  obtain ⟨f0,f1,f2,f3,f4,f5⟩:=hf it (by simp)
  exact wpAny_pyNext_range_end (I.ok.hd hc) st (by have:n≤i:=hg;omega) fun h' eb=>⟨rfl,I.turned (t':=s.toks) (fun b o hb e=>eb b o hb e) f0 f1 f3 f4 f5⟩
 self:=fun _ _ _ _ _ st h=>wpAny_pyIter_rangeiter st h
section
variable {X:Cx}{tg:Expr}
theorem LR {pins:List (Addr×Obj)}{σ:St}{H:Hp}{s:ar}{R:It→Hp→Prop}{E:ai→ar→Prop}{lo hi c:Int}{t u v:Tok}{tk:Nat} (I:Inv X pins σ H s) (hs:iL lo hi c=true) (h0:0≤dt lo hi c)
 (q:R (JF lo c (dt lo hi c).toNat) H):bP (bt X.prog X.w) X.A (BO (.ref s.heap.objs.size)) (PIE X pins σ tg R) E { s with heap:=s.heap.push { cls:=.type "range",data:=.fields #[.int lo t,.int hi u,.int c v] },toks:=tk }:=by
 refine wpAny_pyIter_range (IsRange.new ..) hs ?_
 have I1:Inv X pins σ H { s with heap:=s.heap.push { cls:=.type "range",data:=.fields #[.int lo t,.int hi u,.int c v] },toks:=tk }:=I.kept fun b o e=>aI _ e
 refine ⟨(s.heap.push { cls:=.type "range",data:=.fields #[.int lo t,.int hi u,.int c v] }).objs.size,[(s.heap.push { cls:=.type "range",data:=.fields #[.int lo t,.int hi u,.int c v] }).objs.size],_,_,H,rfl,
  I1.kept (t':=tk) fun b o e=>aI _ e,Hf _ lo c (dt lo hi c).toNat,?_,fun b hb=>?_,q⟩
 · have e1:lo+((0:Nat):Int)*c=lo:=by simp
   have e2:(((dt lo hi c).toNat:Nat):Int) - ((0:Nat):Int)=dt lo hi c:=by omega
   show A7 _ _ (lo+((0:Nat):Int)*c) ((((dt lo hi c).toNat:Nat):Int) - ((0:Nat):Int)) c
   rw[e1,e2]
   exact df _ rfl
 · have e:b=(s.heap.push { cls:=.type "range",data:=.fields #[.int lo t,.int hi u,.int c v] }).objs.size:=by simpa using hb
   subst e
   exact I1.xZ (aE _) (I1.hok.fresh (aE _))
noncomputable def Zb (ta:TA):TI:=fun σ H R=>ta σ H fun vs H1=>∃i j c:Int,vs=[.int i,.int j,.int c]∧(c≠0∧c.natAbs < 1073741824∧iL i j c=true∧0≤dt i j c)∧R (JF i c (dt i j c).toNat) H1
theorem M5 {a b c:Expr}{ta:TA}{p pos:Pos} (hg:Gl X "range") (hm:X.mg "range" = none) (ha:PA X [a,b,c] ta) (hs:d4 [a,b,c] X.env=[(false,eval a X.env),(false,eval b X.env),(false,eval c X.env)]:=by rfl) (hs2:d4 [b,c] X.env=[(false,eval b X.env),(false,eval c X.env)]:=by rfl) :
 PI X tg (.Call (.Name "range" p) [a,b,c] [] pos) (Zb ta):=by
 intro pins s σ H R I h
 refine Call_ (nA I hg hm boot_range (i9 (thn (ha pos pins s σ H _ I h) fun us s1 aA=>?_) (by rw[hs,hs2]) (by rw[hs2];rfl)))
 obtain ⟨vs,H1,I1,r1,q1⟩:=aA
 obtain ⟨i,j,k,e,⟨q0,q1,q2,q3⟩,q⟩:=q1
 subst e
 cases r1 with
 | cons r rr=>
  cases rr with
  | cons r' rr=>
   cases rr with
   | cons r'' rr=>
    cases rr
    obtain ⟨t,rfl⟩:=r
    obtain ⟨t',rfl⟩:=r'
    obtain ⟨t'',rfl⟩:=r''
    exact call_range_3 q0 (LR I1 q2 q3 q) (.inl (AH q1))
end
end L2
namespace L3
open PySem PySem.Spec PyProof.Rows L2
section
variable {X:Cx}{O:List Fl}{m m' m'':ME}{e a b c tg:Expr}{pos p:Pos}{K:ag}{A B:Hp}
theorem Oo (lo c:Int) (n:Nat):xX K A B (JF lo c n) ((cS n).map fun i=>ae.int (lo+(i:Nat)*c)):=by
 have hl:((cS n).map fun i=>ae.int (lo+(i:Nat)*c)).length=n:=by rw[aw,dP]
 refine ⟨fun i H _ _ hi=>(by rw[hl] at hi;exact hi),fun H _ _=>(by rw[hl];exact aE _),fun i A2 H x H' sa s1 s2 hi y=>?_⟩
 obtain ⟨rfl,rfl⟩:=y
 rw[hl] at hi
 exact ⟨A2,.int (lo+(i:Nat)*c),by rw[cn,ke hi];rfl,aP.refl s1,Rp.int.mpr rfl⟩
noncomputable def Eo (d d' d'':ae):Res (List ae):=match d,d',d'' with
 | .int i,.int j,.int c=>gd (c≠0∧c.natAbs < 1073741824∧iL i j c=true∧0≤dt i j c) (.ok ((cS (dt i j c).toNat).map fun k=>ae.int (i+(k:Nat)*c)))
 | _,_,_=>.bad
noncomputable def R0 (m m' m'':ME):MI:=fun Γ=>(m Γ).bind fun d=>(m' Γ).bind fun d'=>(m'' Γ).bind fun d''=>Eo d d' d''
theorem Ur {d d' d'':ae}{xs:List ae} (h:Eo d d' d'' = .ok xs):∃i j c:Int,d = .int i∧d' = .int j∧d'' = .int c∧(c≠0∧c.natAbs < 1073741824∧iL i j c=true∧0≤dt i j c)∧xs=(cS (dt i j c).toNat).map fun k=>ae.int (i+(k:Nat)*c):=by
 unfold Eo at h
 split at h
 · obtain ⟨hc,em⟩:=cN h
   cases em
   exact ⟨_,_,_,rfl,rfl,rfl,hc,rfl⟩
 · cases h
theorem N5 (hg:Gl X "range") (hm:X.mg "range" = none) (ha:QE X a (tP X.K O m)) (hb:QE X b (tP X.K O m')) (hc:QE X c (tP X.K O m'')) (hs:d4 [a,b,c] X.env=[(false,eval a X.env),(false,eval b X.env),(false,eval c X.env)]:=by rfl) (hs2:d4 [b,c] X.env=[(false,eval b X.env),(false,eval c X.env)]:=by rfl) (hs3:d4 [c] X.env=[(false,eval c X.env)]:=by rfl) :
 QI X tg (.Call (.Name "range" p) [a,b,c] [] pos) (tIc X.K O (R0 m m' m'')):=
 QI.imp (M5 hg hm (cV ha.h (cV hb.h (cV hc.h fX hs3) (by rw[hs2,hs3])) (by rw[hs,hs2])) hs hs2) fun σ H R aA=>by
  obtain ⟨A,B,Γ,xs,r,em,k⟩:=aA
  obtain ⟨d,e1,em⟩:=Res.aF em
  obtain ⟨d',e2,em⟩:=Res.aF em
  obtain ⟨d'',e3,em⟩:=Res.aF em
  obtain ⟨i,j,s,rfl,rfl,rfl,hc,rfl⟩:=Ur em
  exact ⟨A,B,Γ,_,r,e1,fun v A1 H1 g1 p1=>⟨A1,B,Γ,_,r.grow g1,e2,fun v' A2 H2 g2 p2=>⟨A2,B,Γ,_,(r.grow g1).grow g2,e3,fun v'' A3 H3 g3 p3=>⟨i,j,s,by rw[p1.int,p2.int,p3.int],hc,k _ A3 H3 ((g1.trans g2).trans g3) (Oo i s _)⟩⟩⟩⟩
noncomputable def W2:ae→Res ae
 | .int a=>.ok (.int (g7 a))
 | _=>.bad
theorem Yr {a:Expr} (ha:QE X a (tP K O m)):QE X (.UnaryOp .Invert a pos) (tE K O (eUn W2 m)):=ZR Wb (fun A H d1 d x Q e hA p k=>by
 cases d1 with
 | int i=>cases e;exact ⟨i,p.int,k _ A H (aP.refl hA) (Rp.int.mpr rfl)⟩
 | _=>cases e) ha
end
end L3
namespace L2
open PySem
noncomputable def gq (xs:Array Nat):Prop:=xs.toList.Pairwise (· < ·)
theorem Gw (xs:Array Nat) (i d:Nat):xs.getD i d=xs.toList.getD i d:=by
 rw[ax,ft,fm]
theorem xR {xs:Array Nat}{j:Nat} (hr:gq xs):∀fuel lo hi,hi - lo≤fuel→lo≤hi→hi≤xs.size →
 (∀a∈xs.toList.take lo,a < j)→(∀b∈xs.toList.drop hi,j≤b) →
 qc xs j fuel lo hi≤xs.size∧(∀a∈xs.toList.take (qc xs j fuel lo hi),a < j)∧(∀b∈xs.toList.drop (qc xs j fuel lo hi),j≤b)
 | 0,lo,hi,h1,h2,h3,h4,h5=>by
  have e:lo=hi:=by omega
  subst e
  unfold qc
  exact ⟨h3,h4,h5⟩
 | fuel+1,lo,hi,h1,h2,h3,h4,h5=>by
  unfold qc
  by_cases hlt:lo < hi
  · rw[if_pos hlt]
    dsimp only
    have hm:(lo+hi) / 2 < xs.toList.length:=by rw[cy];omega
    have hg:xs.getD ((lo+hi) / 2) j=xs.toList[(lo+hi) / 2]:=by
     rw[Gw,ax,aS hm];rfl
    rw[hg]
    by_cases hc:xs.toList[(lo+hi) / 2] < j
    · rw[if_pos hc]
      refine xR hr fuel _ hi (by omega) (by omega) h3 (fun a ha=>?_) h5
      obtain ⟨k,hk,rfl⟩:=eS.mp ha
      rw[qf]
      rw[eA] at hk
      have hk2:k < xs.toList.length:=by omega
      rcases lI k ((lo+hi) / 2) with hq | hq
      · exact oP (fR.mp hr k ((lo+hi) / 2) hk2 hm hq) hc
      · have:k=(lo+hi) / 2:=by omega
        subst this;exact hc
    · rw[if_neg hc]
      refine xR hr fuel lo _ (by omega) (by omega) (by omega) h4 fun b hb=>?_
      obtain ⟨k,hk,rfl⟩:=eS.mp hb
      rw[yY]
      rw[mi] at hk
      have hk2:(lo+hi) / 2+k < xs.toList.length:=by omega
      rcases Nat.eq_zero_or_pos k with rfl | hq
      · simp only[B0];omega
      · have:=fR.mp hr ((lo+hi) / 2) ((lo+hi) / 2+k) hm hk2 (by omega)
        omega
  · rw[if_neg hlt]
    have e:lo=hi:=by omega
    subst e
    exact ⟨h3,h4,h5⟩
theorem rM {xs:Array Nat} (hr:gq xs) (j:Nat):eD xs j≤xs.size∧(∀a∈xs.toList.take (eD xs j),a < j)∧(∀b∈xs.toList.drop (eD xs j),j≤b):=
 xR hr xs.size 0 xs.size (by omega) (by omega) (aE _) (fun a ha=>by simp at ha) (fun b hb=>by rw[← cy,Ap] at hb;cases hb)
theorem below_at {xs:Array Nat} (hr:gq xs) {j:Nat} (h:j∈xs.toList):xs[eD xs j]?=some j:=by
 obtain ⟨h1,h2,h3⟩:=rM hr j
 obtain ⟨k,hk,e⟩:=eS.mp h
 have hkp:eD xs j≤k:=by
  rcases lI k (eD xs j) with hq | hq
  · have hm:xs.toList[k]∈xs.toList.take (eD xs j):=eS.mpr ⟨k,by rw[eA];omega,qf⟩
    have:=h2 _ hm
    omega
  · exact hq
 have hp:eD xs j < xs.toList.length:=by omega
 have hb:=h3 (xs.toList[eD xs j]) (eS.mpr ⟨0,by rw[mi];omega,by rw[yY];rfl⟩)
 rcases lI (eD xs j) k with hq | hq
 · have:=fR.mp hr _ _ hp hk hq
   omega
 · have:eD xs j=k:=by omega
   rw[← ft,aS hp]
   simp only[this,e]
theorem Js {xs:Array Nat} (hr:gq xs) {i:Nat} (hi:i < xs.size):eD xs (xs[i]+1)=i+1:=by
 obtain ⟨h1,h2,h3⟩:=rM hr (xs[i]+1)
 have hi':i < xs.toList.length:=by simpa using hi
 have e:xs.toList[i]=xs[i]:=by simp
 rcases y0 (eD xs (xs[i]+1)) (i+1) with hq | hq | hq
 · have:=h3 (xs.toList[i]) (eS.mpr ⟨i - eD xs (xs[i]+1),by rw[mi];omega,by rw[yY];congr 1;omega⟩)
   omega
 · exact hq
 · have hj:i+1 < xs.toList.length:=by rw[cy];omega
   have a1:=h2 (xs.toList[i+1]) (eS.mpr ⟨i+1,by rw[eA];omega,qf⟩)
   have a2:=fR.mp hr i (i+1) hi' hj (by omega)
   omega
theorem GX {xs:Array Nat} (hr:gq xs):eD xs 0=0:=by
 obtain ⟨h1,h2,h3⟩:=rM hr 0
 rcases Nat.eq_zero_or_pos (eD xs 0) with h | h
 · exact h
 · have hj:0 < xs.toList.length:=by rw[cy];omega
   have a1:=h2 (xs.toList[0]) (eS.mpr ⟨0,by rw[eA];omega,qf⟩)
   omega
theorem Cp {xs:Array Nat} (hr:gq xs) {j:Nat} (h:xs[eD xs j]?≠some j):gq (qh xs (eD xs j) j):=by
 obtain ⟨h1,h2,h3⟩:=rM hr j
 have hn:j∉xs.toList:=fun q=>h (below_at hr q)
 unfold gq
 rw[SetTable.toList_insertAt]
 have hr':xs.toList.Pairwise (· < ·):=hr
 rw[← fw (eD xs j) xs.toList] at hr'
 obtain ⟨p1,p2,p3⟩:=kN.mp hr'
 have h3':∀b∈xs.toList.drop (eD xs j),j < b:=fun b hb=>by
  have:=h3 b hb
  have:b≠j:=fun e=>hn (e ▸ List.mem_of_mem_drop hb)
  omega
 refine kN.mpr ⟨p1,i3.mpr ⟨h3',p2⟩,fun a ha b hb=>?_⟩
 have:=h2 a ha
 rcases be.mp hb with rfl | hb
 · exact this
 · have:=h3' b hb;omega
theorem Fv {xs:Array Nat} (hr:gq xs) (i:Nat):gq (kD xs i):=by
 unfold gq kD
 have e:(xs.extract 0 i++xs.extract (i+1) xs.size).toList=xs.toList.take i++xs.toList.drop (i+1):=by
  simp[xD,fz]
 rw[e]
 refine List.Pairwise.sublist ?_ hr
 have:xs.toList.take i++xs.toList.drop i=xs.toList:=fw i _
 exact (tj.append (tj.refl _) (wa xs.toList (ny i))).trans (by rw[this];exact tj.refl _)
theorem Dv (n:Nat):gq (Array.range n):=by
 unfold gq
 rw[Array.toList_range]
 exact lS
theorem wX {t:dc}{at_:Nat→Int}{h:Int}{j:Nat}{dm:Option Nat}:∀fuel p,(∀d,p.dummy=some d→t.slot d = .dummy)→y3 t at_ h fuel p=some (.empty j dm)→t.slot j = .empty∧∀d,dm=some d→t.slot d = .dummy
 | 0,p,hp,e=>by unfold y3 at e;cases e
 | fuel+1,p,hp,e=>by
  unfold y3 at e
  have adv:∀q:SetTable.Probe,(t.advance q).dummy=q.dummy:=fun q=>by
   unfold SetTable.advance;split <;> rfl
  cases hs:t.slot p.j with
  | empty=>
   rw[hs] at e
   simp only[qk,SetTable.Met.empty.injEq] at e
   obtain ⟨rfl,rfl⟩:=e
   exact ⟨hs,hp⟩
  | dummy=>
   rw[hs] at e
   refine wX fuel _ (fun d hd=>?_) e
   rw[adv] at hd
   cases hd
   exact hs
  | live i=>
   rw[hs] at e
   dsimp only at e
   split at e
   · cases e
   · refine wX fuel _ (fun d hd=>?_) e
     rw[adv] at hd
     exact hp d hd
theorem G9 {t:dc}{h:Int}{j:Nat}{b:Bool} (e:t.freeSlot h=some (j,b)):∀i,t.slot j ≠ .live i:=by
 unfold SetTable.freeSlot at e
 split at e
 · rename_i j' dm hp
   simp only[qk,Prod.mk.injEq] at e
   obtain ⟨rfl,_⟩:=e
   obtain ⟨h1,h2⟩:=wX _ _ (fun d hd=>by cases hd) hp
   cases dm with
   | none=>intro i q;rw[show (none:Option Nat).getD j'=j' from rfl,h1] at q;cases q
   | some d=>intro i q;rw[show (some d).getD j'=d from rfl,h2 d rfl] at q;cases q
 · cases e
theorem SX {t:dc}{j:Nat} (h:∀i,t.slot j ≠ .live i):t.place[eD t.place j]?≠some j:=fun e=>by
 have:=h (eD t.place j)
 unfold SetTable.slot at this
 dsimp only at this
 rw[e] at this
 simp at this
structure TabOk (led:Bool) (t:dc):Prop where
 up:gq t.place
 led:t.led=led
theorem TabOk.standIn {led:Bool}{t:dc} (h:TabOk led t) (n:Nat):TabOk led (t.standIn n):=⟨Dv n,h.led⟩
theorem TabOk.orStandIn {led:Bool}{t:dc} (h:TabOk led t) (n:Nat):TabOk led (t.orStandIn n):=by
 unfold dc.orStandIn;split
 · exact h
 · exact h.standIn n
theorem TabOk.layNew {led:Bool}{t:dc} (h:TabOk led t) (es:Array (Int×ai)) (hs:Int) (x:ai):TabOk led (layNew t es hs x).2.1:=by
 unfold PySem.layNew
 split
 · rename_i j wd e
   have hl:=SX (G9 e)
   refine TabOk.orStandIn (t:=(t.put j).1) ⟨?_,h.led⟩ _
   exact Cp h.up hl
 · exact h.standIn _
theorem Hj (owner:Array (Option Nat)) (n:Nat):(((cS n).filterMap fun j=>(owner.getD j none).map (j,·)).map (·.1)).Pairwise (· < ·):=by
 rw[tm]
 refine AB _ (fun a a' hlt b hb b' hb'=>?_) lS
 cases h1:owner.getD a none with
 | none=>rw[h1] at hb;cases hb
 | some x=>
  cases h2:owner.getD a' none with
  | none=>rw[h2] at hb';cases hb'
  | some y=>
   rw[h1] at hb;rw[h2] at hb'
   simp only[Option.map_some,qk] at hb hb'
   subst hb;subst hb'
   exact hlt
theorem Hw {mask finger moves:Nat}{led plain:Bool}{hs:Array Int}{t:dc}{o:Array Nat} (e:dc.laid mask finger moves led plain hs=some (t,o)):TabOk led t:=by
 unfold dc.laid at e
 cases hl:hJ mask hs with
 | none=>rw[hl] at e;cases e
 | some ow=>
  rw[hl] at e
  simp only[bind,Option.bind,pure,qk,Prod.mk.injEq] at e
  obtain ⟨rfl,_⟩:=e
  refine ⟨?_,rfl⟩
  show (List.toArray _).toList.Pairwise _
  exact Hj ow _
theorem TabOk.relayAll {led:Bool}{t:dc} (h:TabOk led t) (es:Array (Int×ai)) (n:Nat):TabOk led (relayAll t es n).2.1:=by
 unfold PySem.relayAll
 split
 · rename_i t' o e
   dsimp only
   split
   · unfold SetTable.relaid at e
     have:=Hw e
     rw[h.led] at this
     exact this
   · exact h.standIn _
 · exact h.standIn _
theorem jF {α:Type}:∀{l:List α}{i:Nat} (h:i < l.length),(l[i]::l.eraseIdx i).Perm l
 | a::l,0,_=>.refl _
 | a::l,i+1,h=>by
  simp only[bX] at h
  rw[so]
  exact (B3.swap a _ _).trans ((jF (l:=l) (by omega)).cons a)
theorem Hl {α:Type} (next:Nat→Nat):∀(fuel k:Nat) (left:List α) (out:Array α),left.length=fuel→(pickOrder.go next fuel k left out).toList.Perm (out.toList++left)
 | 0,k,left,out,h=>by
  have:left=[]:=kS.mp h
  subst this
  unfold pickOrder.go
  rw[fq]
 | fuel+1,k,left,out,h=>by
  unfold pickOrder.go
  have hlt:next k % left.length < left.length:=BU _ (by omega)
  rw[aS hlt]
  dsimp only
  refine (Hl next fuel (k+1) (left.eraseIdx (next k % left.length)) _ (by rw[xh hlt];omega)).trans ?_
  rw[Array.toList_push,eB]
  refine List.Perm.append_left _ ?_
  exact jF hlt
theorem uh {α:Type} (next:Nat→Nat) (xs:Array α):(pickOrder next xs).toList.Perm xs.toList:=by
 have:=Hl next xs.size 0 xs.toList #[] (by simp)
 rw[pd] at this
 exact this
theorem vh {α:Type} [DecidableEq α]:∀{l r:List α},l.Nodup→(∀x∈l,x∈r)→l.length≤r.length
 | [],_,_,_=>iE _
 | a::l,r,hn,hs=>by
  obtain ⟨h1,h2⟩:=ki.mp hn
  have ha:=hs a b5
  have:=vh (r:=r.erase a) h2 fun x hx=>by
   have hne:x≠a:=fun e=>h1 (e ▸ hx)
   exact (vi hne).mpr (hs x (bg _ hx))
  rw[zl ha] at this
  have:0 < r.length:=tq ha
  rw[bX];omega
theorem Pa {l:List Nat}{M j:Nat} (hn:l.Nodup) (hb:∀x∈l,x < M) (hl:M≤l.length) (hj:j < M):j∈l:=by
 by_cases h:j∈l
 · exact h
 · have:=vh (l:=j::l) (r:=cS M) (ki.mpr ⟨h,hn⟩) fun x hx=>by
    rcases be.mp hx with rfl | hx
    · exact d5.mpr hj
    · exact d5.mpr (hb x hx)
   rw[bX,dP] at this
   omega
noncomputable def fu:Nat→Nat
 | 0=>0
 | n+1=>5*fu n+1
theorem KJ:∀n,5^n=4*fu n+1
 | 0=>rfl
 | n+1=>by rw[iF,KJ n];show _=4*(5*fu n+1)+1;omega
theorem xg (a:Nat):∀b,fu (a+b)=5^b*fu a+fu b
 | 0=>by show fu a=1*fu a+0;omega
 | b+1=>by
  show 5*fu (a+b)+1=_
  rw[xg a b,iF]
  show _=_+(5*fu b+1)
  rw[vj,← pS,oQ 5 (5^b)]
  omega
theorem Ff (m:Nat):fu (m+m)=2*(fu m*(2*fu m+1)):=by
 rw[xg,KJ]
 rw[Nat.add_mul,vj,vj,y6 (fu m) 2,pS]
 omega
theorem SN (m:Nat):fu (m+m+1) % 2=1:=by
 show (5*fu (m+m)+1) % 2=1
 rw[Ff];omega
theorem zX (k x:Nat):Nat.Coprime (2^k) (2*x+1):=by
 refine Nat.Coprime.pow_left k ?_
 show Nat.gcd 2 (2*x+1)=1
 rw[Nat.gcd_rec]
 have:(2*x+1) % 2=1:=by omega
 rw[this];rfl
theorem DW:∀(k d:Nat),2^k ∣ fu d→2^k ∣ d
 | 0,d,_=>Nat.one_dvd d
 | k+1,d,h=>by
  have h2:2 ∣ fu d:=Nat.dvd_trans ⟨2^k,by rw[iF,oQ]⟩ h
  rcases Nat.mod_two_eq_zero_or_one d with e | e
  · obtain ⟨m,rfl⟩:∃m,d=m+m:=⟨d / 2,by omega⟩
    rw[Ff,iF,oQ (2^k) 2] at h
    have h3:=Nat.dvd_of_mul_dvd_mul_left (by decide) h
    have h4:=DW k m (tw (zX k (fu m)) h3)
    obtain ⟨c,hc⟩:=h4
    exact ⟨c,by rw[iF,Nat.mul_right_comm,← hc];omega⟩
  · obtain ⟨m,rfl⟩:∃m,d=m+m+1:=⟨d / 2,by omega⟩
    have:=SN m
    omega
noncomputable def w5 (M:Nat):Nat→Nat→Nat
 | 0,x=>x
 | n+1,x=>(5*w5 M n x+1) % M
theorem Jk (M x:Nat) (hx:x < M):∀n,w5 M n x=(5^n*x+fu n) % M
 | 0=>by show x=(1*x+0) % M;rw[Nat.one_mul,B0,Nat.mod_eq_of_lt hx]
 | n+1=>by
  show (5*w5 M n x+1) % M=(5^(n+1)*x+(5*fu n+1)) % M
  rw[Jk M x hx n,Nat.add_mod,Nat.mul_mod,Nat.mod_mod,← Nat.mul_mod,← Nat.add_mod]
  congr 1
  rw[iF,vj,← pS,oQ 5 (5^n)]
  omega
theorem Zn {M x:Nat} (hx:x < M):∀n,w5 M n x < M
 | 0=>hx
 | n+1=>BU _ (by omega)
theorem V9 {k x a d:Nat} (hx:x < 2^k) (hd:0 < d) (hd2:d < 2^k):w5 (2^k) a x≠w5 (2^k) (a+d) x:=fun e=>by
 rw[Jk _ _ hx,Jk _ _ hx] at e
 have e5:5^(a+d)*x+fu (a+d)=(5^a*x+fu a)+5^a*(fu d*(2*(2*x)+1)):=by
  rw[BY a d,xg d a,Nat.pow_add,KJ d]
  generalize 5^a=p
  generalize fu d=s
  rw[vj s,Nat.add_mul,Nat.add_mul,Nat.mul_one,vj p,Nat.one_mul]
  have:p*(s*(2*(2*x)))=4*s*p*x:=by
   rw[show 2*(2*x)=4*x by omega]
   rw[y6 s 4 x,y6 p 4,← pS p s x,oQ p s,pS 4 s p,pS 4 (s*p) x]
  rw[this]
  omega
 rw[e5] at e
 have hdv:2^k ∣ 5^a*(fu d*(2*(2*x)+1)):=by
  refine (Nat.dvd_iff_mod_eq_zero).mpr ?_
  have:=Nat.sub_mod_eq_zero_of_mod_eq e.symm
  rwa [Nat.add_sub_cancel_left] at this
 have c5:Nat.Coprime (2^k) (5^a):=by
  have:=zX k (2*fu a)
  rwa [show 2*(2*fu a)+1=5^a by rw[KJ];omega] at this
 have h1:=Nat.Coprime.dvd_of_dvd_mul_left c5 hdv
 have h2:=tw (zX k (2*x)) h1
 have h3:=DW k d h2
 have:=Nat.le_of_dvd hd h3
 omega
theorem Xx {k x j:Nat} (hx:x < 2^k) (hj:j < 2^k):∃n,n < 2^k∧w5 (2^k) n x=j:=by
 have hn:((cS (2^k)).map fun n=>w5 (2^k) n x).Nodup:=by
  refine tm.mpr ?_
  refine zo ?_ lS
  intro a b ha hb hlt
  have hb:=d5.mp hb
  have:=V9 (a:=a) (d:=b - a) hx (by omega) (by omega)
  rwa [show a+(b - a)=b by omega] at this
 have:=Pa (j:=j) hn (fun y hy=>by obtain ⟨n,_,rfl⟩:=eh.mp hy;exact Zn hx n) (by rw[aw,dP];exact aE _) hj
 obtain ⟨n,h1,h2⟩:=eh.mp this
 exact ⟨n,d5.mp h1,h2⟩
noncomputable def lpN (mask:Nat):Nat→Nat×Nat→Nat×Nat
 | 0,q=>q
 | n+1,q=>SetTable.leap mask (lpN mask n q).1 (lpN mask n q).2
theorem HN (mask:Nat) (q:Nat×Nat):∀n,(lpN mask n q).2=q.2 / 32^n
 | 0=>by show q.2=q.2 / 1;rw[Nat.div_one]
 | n+1=>by
  show (lpN mask n q).2 / 32=_
  rw[HN mask q n,Nat.div_div_eq_div_mul,iF]
theorem Iu {mask:Nat}{q:Nat×Nat} (hp:q.2 < 2^64):∀n,(lpN mask (13+n) q).1=w5 (mask+1) n (lpN mask 13 q).1
 | 0=>rfl
 | n+1=>by
  show ((lpN mask (13+n) q).1*5+1+(lpN mask (13+n) q).2 / 32) % (mask+1)=(5*w5 (mask+1) n (lpN mask 13 q).1+1) % (mask+1)
  have e0:(lpN mask (13+n) q).2=0:=by
   rw[HN]
   refine Nat.div_eq_of_lt (cx hp ?_)
   rw[Nat.pow_add]
   have:0 < 32^n:=A9 (by decide)
   calc 2^64≤32^13*1:=by decide
    _≤32^13*32^n:=Nat.mul_le_mul_left _ this
  rw[Iu hp n,e0]
  congr 1
  omega
theorem RN {mask k j:Nat}{q:Nat×Nat} (hM:mask+1=2^k) (hp:q.2 < 2^64) (hj:j≤mask):∃R,1≤R∧R≤13+mask∧(lpN mask R q).1=j:=by
 have hx:(lpN mask 13 q).1 < mask+1:=BU _ (Nat.succ_pos _)
 obtain ⟨n,h1,h2⟩:=Xx (k:=k) (x:=(lpN mask 13 q).1) (j:=j) (by rw[← hM];exact hx) (by rw[← hM];omega)
 rw[← hM] at h1 h2
 exact ⟨13+n,by omega,by omega,by rw[Iu hp];exact h2⟩
theorem BK (mask:Nat) (q:Nat×Nat):∀R,lpN mask (R+1) q=lpN mask R (SetTable.leap mask q.1 q.2)
 | 0=>rfl
 | R+1=>by
  show SetTable.leap mask (lpN mask (R+1) q).1 (lpN mask (R+1) q).2=_
  rw[BK mask q R];rfl
theorem Bb {mask:Nat}{owner:Array (Option Nat)}:∀(fuel i p:Nat),hJ.free mask owner fuel i p=none→∀R,R < fuel→owner.getD (lpN mask R (i,p)).1 (some 0)≠none
 | 0,i,p,_,R,h=>by omega
 | fuel+1,i,p,e,R,h=>by
  unfold hJ.free at e
  split at e
  · cases e
  · rename_i hf
    cases R with
    | zero=>
     have:=xi.mp hf 0 (d5.mpr (by unfold SetTable.runEnd;split <;> omega))
     intro q
     rw[B0] at this
     rw[show (lpN mask 0 (i,p)).1=i from rfl] at q
     rw[q] at this
     exact this rfl
    | succ R=>
     rw[BK]
     exact Bb fuel _ _ e R (by omega)
theorem BJ {mask:Nat}{owner:Array (Option Nat)}{j:Nat}:∀(fuel i p:Nat),hJ.free mask owner fuel i p=some j→owner.getD j (some 0)=none
 | 0,i,p,e=>by cases e
 | fuel+1,i,p,e=>by
  unfold hJ.free at e
  split at e
  · rename_i k hf
    cases e
    have:=List.find?_some hf
    simpa using this
  · exact BJ fuel _ _ e
structure oH (owner:Array (Option Nat)) (k M:Nat):Prop where
 size:owner.size=M
 has:∀v:Nat,v < k↔∃j:Nat,owner[j]?=some (some v)
 one:∀j j' v:Nat,owner[j]?=some (some v)→owner[j']?=some (some v)→j=j'
theorem oH.gap {owner:Array (Option Nat)}{k M:Nat} (h:oH owner k M) (hk:k < M):∃j:Nat,j < M∧owner[j]?=some none:=by
 by_cases q:∃j:Nat,j < M∧owner[j]?=some none
 · exact q
 · have all:∀j,j < M→∃v,owner[j]?=some (some v):=fun j hj=>by
    have hj':j < owner.size:=by rw[h.size];exact hj
    have e:owner[j]?=some owner[j]:=fS hj'
    cases ho:owner[j] with
    | none=>exact absurd ⟨j,hj,by rw[e,ho]⟩ q
    | some v=>exact ⟨v,by rw[e,ho]⟩
   let f:Nat→Nat:=fun j=>((owner[j]?).getD none).getD 0
   have hf:∀j,j < M→owner[j]?=some (some (f j)):=fun j hj=>by
    obtain ⟨v,e⟩:=all j hj
    show _=some (some (((owner[j]?).getD none).getD 0))
    rw[e];rfl
   have:=vh (l:=(cS M).map f) (r:=cS k) (by
    refine tm.mpr (zo ?_ lS)
    intro a b ha hb hlt e
    have ha:=hf a (d5.mp ha)
    have hb:=hf b (d5.mp hb)
    rw[← e] at hb
    have:=h.one _ _ _ ha hb
    omega) fun x hx=>by
     obtain ⟨j,hj,rfl⟩:=eh.mp hx
     exact d5.mpr ((h.has _).mpr ⟨j,hf j (d5.mp hj)⟩)
   rw[aw,dP,dP] at this
   omega
theorem oH.put {owner:Array (Option Nat)}{k M j:Nat} (h:oH owner k M) (hj:owner[j]?=some none):oH (owner.setIfInBounds j (some k)) (k+1) M:=by
 have hlt:j < owner.size:=(qv.mp hj).1
 have at_:∀i,(owner.setIfInBounds j (some k))[i]?=if j=i then some (some k) else owner[i]?:=fun i=>by
  rw[Array.getElem?_setIfInBounds]
  split
  · first | rfl | (rw[if_pos (by omega)])
  · rfl
 refine ⟨by rw[zi];exact h.size,fun v=>⟨fun hv=>?_,fun hv=>?_⟩,fun a b v ha hb=>?_⟩
 · by_cases e:v=k
   · subst e
     exact ⟨j,by rw[at_,if_pos rfl]⟩
   · obtain ⟨i,hi⟩:=(h.has v).mp (by omega)
     refine ⟨i,?_⟩
     rw[at_,if_neg (fun z=>by rw[← z,hj] at hi;cases hi)]
     exact hi
 · obtain ⟨i,hi⟩:=hv
   rw[at_] at hi
   split at hi
   · cases hi;omega
   · have:=(h.has v).mpr ⟨i,hi⟩;omega
 · rw[at_] at ha hb
   split at ha
   · rename_i e1
     split at hb
     · rename_i e2;omega
     · cases ha
       have:=(h.has k).mpr ⟨b,hb⟩;omega
   · split at hb
     · cases hb
       have:=(h.has k).mpr ⟨a,ha⟩;omega
     · exact h.one _ _ _ ha hb
theorem Vp (h:Int):dc.bits h < 2^64:=by
 unfold dc.bits
 have:=mM h (show (0:Int) < 2^64 by decide)
 have:=pj h (show ((2:Int)^64)≠0 by decide)
 omega
theorem Bq {mask p2:Nat} (hM:mask+1=2^p2):∀(hs:List Int) (owner:Array (Option Nat)) (k:Nat),oH owner k (mask+1)→k+hs.length≤mask+1 →
 ∃ow,hs.foldl (fun acc h=>do
  let (owner,k) ← acc
  let j ← hJ.free mask owner (xk mask) (dc.bits h % (mask+1)) (dc.bits h)
  pure (owner.setIfInBounds j (some k),k+1)) (some (owner,k))=some (ow,k+hs.length)∧oH ow (k+hs.length) (mask+1)
 | [],owner,k,h,_=>⟨owner,rfl,h⟩
 | x::hs,owner,k,h,hl=>by
  rw[bX] at hl
  obtain ⟨j,hj,ej⟩:=h.gap (by omega)
  cases hf:hJ.free mask owner (xk mask) (dc.bits x % (mask+1)) (dc.bits x) with
  | none=>
   obtain ⟨R,r1,r2,r3⟩:=RN (q:=(dc.bits x % (mask+1),dc.bits x)) hM (Vp x) (j:=j) (by omega)
   have:=Bb _ _ _ hf R (by unfold xk;omega)
   rw[r3,fm,ej] at this
   exact absurd rfl this
  | some i=>
   have hi:=BJ _ _ _ hf
   have ei:owner[i]?=some none:=by
    rw[fm] at hi
    cases e:owner[i]? with
    | none=>rw[e] at hi;cases hi
    | some v=>rw[e] at hi;rw[show v=none from hi]
   obtain ⟨ow,e1,e2⟩:=Bq hM hs _ _ (h.put ei) (by omega)
   refine ⟨ow,?_,by rw[bX,show k+(hs.length+1)=k+1+hs.length by omega];exact e2⟩
   rw[kT,bX,show k+(hs.length+1)=k+1+hs.length by omega,← e1]
   congr 1
   show (hJ.free mask owner (xk mask) (dc.bits x % (mask+1)) (dc.bits x) >>= fun j=>pure (owner.setIfInBounds j (some k),k+1))=_
   rw[hf];rfl
theorem N7 {mask p2:Nat} (hM:mask+1=2^p2) {hs:Array Int} (hl:hs.size≤mask+1):∃ow,hJ mask hs=some ow∧oH ow hs.size (mask+1):=by
 have h0:oH (AX (mask+1) none) 0 (mask+1):=⟨Array.size_replicate,fun v=>⟨fun h=>by omega,fun aA=>by
  obtain ⟨j,h⟩:=aA
  rw[rl] at h
  split at h <;> cases h⟩,fun j j' v h _=>by
  rw[rl] at h
  split at h <;> cases h⟩
 obtain ⟨ow,e1,e2⟩:=Bq hM hs.toList _ 0 h0 (by rw[cy];omega)
 rw[qV,cy] at e1 e2
 refine ⟨ow,?_,e2⟩
 unfold hJ
 rw[← Array.foldl_toList,e1]
 rfl
theorem wH:∀{l r:List Nat},l.Nodup→r.Nodup→(∀x,x∈l↔x∈r)→l.Perm r
 | [],r,_,_,h=>by
  cases r with
  | nil=>exact .refl _
  | cons a r=>exact absurd ((h a).mpr b5) (by simp)
 | a::l,r,hl,hr,h=>by
  obtain ⟨h1,h2⟩:=ki.mp hl
  have ha:=(h a).mp b5
  have p:=List.perm_cons_erase ha
  refine (B3.cons a ?_).trans p.symm
  refine wH h2 (hr.erase a) fun x=>?_
  constructor
  · intro hx
    have hne:x≠a:=fun e=>h1 (e ▸ hx)
    exact (vi hne).mpr ((h x).mp (bg _ hx))
  · intro hx
    have hx':=(h x).mpr (List.mem_of_mem_erase hx)
    rcases be.mp hx' with e | hx'
    · subst e
      exact absurd hx (List.Nodup.not_mem_erase hr)
    · exact hx'
theorem range_all {α:Type}:∀l:List α,(cS l.length).filterMap (fun i=>l[i]?)=l
 | []=>rfl
 | a::l=>by
  rw[bX,AO,rh]
  show a::_=_
  congr 1
  rw[List.filterMap_map]
  exact range_all l
structure Yk (mask:Nat) (led:Bool) (n:Nat) (t:dc) (o:Array Nat):Prop where
 mask:t.mask=mask
 nd:t.dummies=#[]
 size:t.place.size=n
 ord:o.toList.Perm (cS n)
theorem Q5 {mask p2 finger moves:Nat}{led plain:Bool} (hM:mask+1=2^p2) {hs:Array Int} (hl:hs.size≤mask+1) :
 ∃t o,dc.laid mask finger moves led plain hs=some (t,o)∧Yk mask led hs.size t o∧TabOk led t:=by
 obtain ⟨ow,e1,e2⟩:=N7 hM hl
 have e:dc.laid mask finger moves led plain hs=some (({ mask,place:=(((cS (mask+1)).filterMap fun j=>(ow.getD j none).map (j,·)).map (·.1)).toArray,dummies:=#[],finger,led,moves,plain }:dc),(((cS (mask+1)).filterMap fun j=>(ow.getD j none).map (j,·)).map (·.2)).toArray):=by
  unfold dc.laid
  rw[e1];rfl
 have gd_:∀j v,ow.getD j none=some v→ow[j]?=some (some v):=fun j v h=>by
  rw[fm] at h
  cases q:ow[j]? with
  | none=>rw[q] at h;cases h
  | some w=>rw[q] at h;rw[show w=some v from h]
 have pm:((((cS (mask+1)).filterMap fun j=>(ow.getD j none).map (j,·)).map (·.2))).Perm (cS hs.size):=by
  refine wH ?_ AC fun v=>?_
  · refine tm.mpr (AB _ (fun a a' hlt b hb b' hb'=>?_) lS)
    cases h1:ow.getD a none with
    | none=>rw[h1] at hb;cases hb
    | some x=>
     cases h2:ow.getD a' none with
     | none=>rw[h2] at hb';cases hb'
     | some y=>
      rw[h1] at hb;rw[h2] at hb'
      simp only[Option.map_some,qk] at hb hb'
      subst hb;subst hb'
      intro (q:x=y)
      subst q
      have:=e2.one _ _ _ (gd_ _ _ h1) (gd_ _ _ h2)
      omega
  · rw[d5,e2.has]
    constructor
    · intro h
      obtain ⟨⟨j,w⟩,h1,rfl⟩:=eh.mp h
      obtain ⟨j',_,h2⟩:=fx.mp h1
      obtain ⟨w',h3,h4⟩:=Option.map_eq_some_iff.mp h2
      cases h4
      exact ⟨j,gd_ _ _ h3⟩
    · rintro ⟨j,hj⟩
      have hlt:=(qv.mp hj).1
      rw[e2.size] at hlt
      refine eh.mpr ⟨(j,v),fx.mpr ⟨j,d5.mpr hlt,?_⟩,rfl⟩
      rw[fm,hj];rfl
 refine ⟨_,_,e,⟨rfl,rfl,?_,pm⟩,Hw e⟩
 have:=pm.length_eq
 rw[dP,aw] at this
 show (List.toArray _).size=_
 rw[ck,aw]
 exact this
theorem Pg {α:Type}{es:Array α}{o:Array Nat} (h:o.toList.Perm (cS es.size)):(o.filterMap (es[·]?)).toList.Perm es.toList:=by
 rw[Array.toList_filterMap]
 refine (h.filterMap _).trans ?_
 have:=range_all es.toList
 rw[cy] at this
 simp only[ft] at this
 rw[this]
end L2
namespace L2
open PySem PySem.Spec PyProof.Rows
noncomputable def fV:ai→Int
 | .int k _=>k
 | _=>0
noncomputable def cQ (w:eI):Bool:=!(w.params.followText "set-order")
noncomputable def aY (es:Array (Int×ai)) (ep:Nat) (t:dc):Obj:={ cls:=.type "set",dict:=none,data:=.set es ep t,slots:=#[] }
structure dO (P:cw) (w:eI) (es:Array (Int×ai)) (t:dc) (ks:List Int):Prop where
 el:ElemsOf (og P w) es.toList
 tab:TabOk (cQ w) t
 fit:t.fits es.size=true
 pm:(es.toList.map fun e=>fV e.2).Perm ks
noncomputable def bM (P:cw) (w:eI) (h:Heap) (a:Addr) (ks:List Int):Prop:=∃es ep t,h.get? a=some (aY es ep t)∧dO P w es t ks
section
variable {P:cw}{w:eI}{A:eo}{E:ai→ar→Prop}{s:ar}
theorem bM.at {h h':Heap}{a:Addr}{ks:List Int} (x:bM P w h a ks) (e:∀o,h.get? a=some o→h'.get? a=some o):bM P w h' a ks:=by
 obtain ⟨es,ep,t,g,r⟩:=x
 exact ⟨es,ep,t,e _ g,r⟩
theorem bM.typeIs {a:Addr}{ks:List Int} (x:bM P w s.heap a ks):s.TypeIs (.ref a) "set" := by
 obtain ⟨es,ep,t,g,r⟩:=x
 exact ⟨_,g,rfl⟩
theorem dO.size {es:Array (Int×ai)}{t:dc}{ks:List Int} (r:dO P w es t ks):es.size=ks.length:=by
 have:=r.pm.length_eq
 rw[aw,cy] at this
 exact this
theorem dO.shape {es:Array (Int×ai)}{t:dc}{ks:List Int} (r:dO P w es t ks) {e:Int×ai} (he:e∈es.toList):∃k tk,e=(rS k,.int k tk):=by
 obtain ⟨⟨k,h1,h2⟩,_⟩:=r.el e he
 obtain ⟨tk,h3⟩:=Value.isInt_shape h1
 exact ⟨k,tk,by rw[← h3];exact Prod.ext h2 rfl⟩
theorem dO.mem {es:Array (Int×ai)}{t:dc}{ks:List Int} (r:dO P w es t ks) {k:Int}:k∈ks↔∃e∈es.toList,(og P w).is k e.2=true:=by
 rw[← r.pm.mem_iff,eh]
 constructor
 · rintro ⟨e,he,rfl⟩
   obtain ⟨k',tk,rfl⟩:=r.shape he
   exact ⟨_,he,xl _ _ _ _⟩
 · rintro ⟨e,he,h⟩
   obtain ⟨k',tk,rfl⟩:=r.shape he
   refine ⟨_,he,?_⟩
   exact ((og P w).inj _ k k' h (xl _ _ _ _)).symm
theorem dO.found {es:Array (Int×ai)}{t:dc}{ks:List Int} (r:dO P w es t ks) (k:Int):(es.toList.findIdx? fun e=>(og P w).is k e.2).isSome=decide (k∈ks):=by
 cases hq:es.toList.findIdx? fun e=>(og P w).is k e.2 with
 | none=>
  refine (decide_eq_false fun hk=>?_).symm
  obtain ⟨e,he,h⟩:=r.mem.mp hk
  have:=List.findIdx?_eq_none_iff.mp hq e he
  rw[h] at this;cases this
 | some j=>
  obtain ⟨hj,hp,_⟩:=sF.mp hq
  exact (decide_eq_true (r.mem.mpr ⟨_,e8 hj,hp⟩)).symm
theorem o5 {a:Addr}{es es':Array (Int×ai)}{ep:Nat}{t t':dc}{h:Heap} (g:h.get? a=some (aY es ep t)):(h.update a (r9 es' t')).get? a=some (aY es' (ep+1) t'):=by
 have:=kx (r9 es' t') g (by rw[putSet_of es' t' (show (aY es ep t).data=_ from rfl)];rfl)
 rw[putSet_of es' t' (show (aY es ep t).data=_ from rfl)] at this
 exact this
theorem kW {n:Nat} (h:n < 4000):n≤bp:=eK (fF h) (by decide)
theorem dO.perm {es es':Array (Int×ai)}{t t':dc}{ks:List Int} (r:dO P w es t ks) (hp:es'.toList.Perm es.toList) (ht:TabOk (cQ w) t') (hf:t'.fits es'.size=true):dO P w es' t' ks:=
 ⟨r.el.perm hp,ht,hf,(hp.map _).trans r.pm⟩
theorem add_int {a:Addr}{ks:List Int}{k:Int}{tk:Tok}{Q:Bool→ar→Prop} (x:bM P w s.heap a ks) (hb:ks.length+1 < 4000)
 (h:∀h',fT a s.heap h'→bM P w h' a (if k∈ks then ks else ks++[k])→Q (!decide (k∈ks)) { s with heap:=h' }):bP (bt P w) A (setAddHashed a (.int k tk) (rS k)) Q E s:=by
 obtain ⟨es,ep,t,g,r⟩:=x
 have sz:=r.size
 have fd:=r.found k
 have key:(og P w).is k (.int k tk)=true:=xl _ _ _ _
 have hsc:Value.scannable (.int k tk)=true:=rfl
 have bs:byScan (.int k tk) es=true:=byScan_of (knd:=og P w) hsc (by unfold scanBound;omega) r.el
 unfold setAddHashed
 refine gi ?_
 unfold setAddHashedIn
 refine af (fi g rfl r.fit ?_)
 dsimp only
 rw[bs]
 simp only[↓reduceIte]
 refine af ?_
 unfold setAddByScan
 refine af (i4 (af (wpAny_setScan_of (knd:=og P w) key g rfl r.fit r.el ?_)))
 cases hq:es.toList.findIdx? fun e=>(og P w).is k e.2 with
 | some j=>
  rw[hq] at fd
  have hk:k∈ks:=of_decide_eq_true fd.symm
  dsimp only
  refine av (av ?_)
  have:=h s.heap (fT.refl a s.heap) (by rw[if_pos hk];exact ⟨es,ep,t,g,r⟩)
  rw[decide_eq_true hk] at this
  exact this
 | none=>
  rw[hq] at fd
  have hk:k∉ks:=of_decide_eq_false fd.symm
  rw[if_neg hk,decide_eq_false hk] at h
  dsimp only
  have gw:∀(b:Bool) {s₁:ar}{R:Unit→ar→Prop},R () s₁→bP (bt P w) A (match b with | true=>rule "set.scan.the-table-gave-way" | false=>pure ()) R E s₁:=
   fun b s₁ R q=>by cases b <;> first | exact av q | exact i4 q
  have pn:=layNew_perm t es (rS k) (.int k tk)
  have fn:=layNew_fits t es (rS k) (.int k tk)
  have tn:=r.tab.layNew es (rS k) (.int k tk)
  show bP _ _ (have __do_lift:=layNew t es (rS k) (.int k tk);_) _ _ _
  generalize hL:layNew t es (rS k) (.int k tk)=L at pn fn tn ⊢
  obtain ⟨es1,t1,wd,gv⟩:=L
  dsimp only at pn fn tn ⊢
  rw[Array.toList_push] at pn
  have r1:dO P w es1 t1 (ks++[k]):=⟨(r.el.push key hsc).perm pn,tn,fn,((pn.map _).trans (by rw[fe];exact List.Perm.append_right _ r.pm))⟩
  have sz1:=r1.size
  rw[ay] at sz1
  simp only[bX,lh] at sz1
  refine af (gw _ ?_)
  have go:bP (bt P w) A (storeSet a es1 t1 >>= fun _=>if (!wd&&t1.tooFull)=true then
   (match (relayAll t1 es1 (dc.grown es1.size)).2.2 with | true=>rule "set.scan.the-table-gave-way" | false=>pure ()) >>= fun _=>storeSet a (relayAll t1 es1 (dc.grown es1.size)).1 (relayAll t1 es1 (dc.grown es1.size)).2.1 >>= fun _=>pure (some true)
   else pure (some true)) (fun r s'=>r=some true∧∃h',s'={ s with heap:=h' }∧fT a s.heap h'∧bM P w h' a (ks++[k])) E s:=by
   refine af (nE g rfl ?_ (kW (by omega)))
   have g1:=o5 (es':=es1) (t':=t1) g
   have b1:=gX s.heap a (r9 es1 t1)
   split
   · refine af (gw _ ?_)
     have pr:=relayAll_perm t1 es1 (dc.grown es1.size)
     have fr:=relayAll_fits t1 es1 (dc.grown es1.size)
     have tr:=r1.tab.relayAll es1 (dc.grown es1.size)
     have r2:=r1.perm pr tr fr
     refine af (nE g1 rfl ?_ (kW (by rw[r2.size,ay];simp only[bX,lh];omega)))
     exact av ⟨rfl,_,rfl,b1.trans (gX _ a _),_,_,_,o5 g1,r2⟩
   · exact av ⟨rfl,_,rfl,b1,_,_,_,g1,r1⟩
  have fin:∀{m:Sem (Option Bool)},bP (bt P w) A m (fun r s'=>r=some true∧∃h',s'={ s with heap:=h' }∧fT a s.heap h'∧bM P w h' a (ks++[k])) E s →
   bP (bt P w) A m (fun r s'=>bP (bt P w) A (match r with | some added=>pure added | none=>setAddHashedIn a (.int k tk) (rS k) 99999) Q E s') E s:=fun hm=>
   gc hm (fun r s' aA=>by obtain ⟨e1,h',e2,b,q⟩:=aA;subst e1 e2;exact av (h h' b q)) fun _ _ z=>z
  refine fin ?_
  by_cases hp:t1.plain=true
  · rw[if_pos hp,hashByValue_scannable 8 hsc]
    refine af (av ?_)
    exact go
  · rw[if_neg hp]
    refine af (av ?_)
    exact go
end
noncomputable def iV (σ:List Int) (v:Int):List Int:=if v∈σ then σ else σ++[v]
noncomputable def ddl (ns:List Int):List Int:=ns.foldl iV []
theorem Qe (σ:List Int) (v:Int):σ.length≤(iV σ v).length:=by
 unfold iV;split
 · exact aE _
 · rw[ay];exact Nat.le_add_right _ _
theorem Qk (ns:List Int):∀σ:List Int,σ.length≤(ns.foldl iV σ).length:=by
 induction ns with
 | nil=>exact fun σ=>aE _
 | cons n r ih=>exact fun σ=>eK (Qe σ n) (ih _)
theorem RK (ns:List Int) (v:Int):ddl (ns++[v])=iV (ddl ns) v:=by unfold ddl;rw[nI];rfl
theorem JK (ns ms:List Int):(ddl ns).length≤(ddl (ns++ms)).length:=by unfold ddl;rw[nI];exact Qk ms _
theorem MP {k:Int} (ns:List Int):∀σ:List Int,k∈ns.foldl iV σ↔k∈σ∨k∈ns:=by
 induction ns with
 | nil=>intro σ;simp
 | cons n r ih=>
  intro σ
  rw[kT,ih]
  unfold iV
  split
  · rename_i h
    constructor
    · rintro (q | q)
      · exact .inl q
      · exact .inr (bg _ q)
    · rintro (q | q)
      · exact .inl q
      · rcases be.mp q with rfl | q
        · exact .inl h
        · exact .inr q
  · rw[fy,ba,be,or_assoc]
theorem vD {k:Int}{ns:List Int}:k∈ddl ns↔k∈ns:=by unfold ddl;rw[MP];simp
theorem Gu (ns:List Int):∀σ:List Int,σ.Nodup→(ns.foldl iV σ).Nodup:=by
 induction ns with
 | nil=>exact fun σ h=>h
 | cons n r ih=>
  intro σ h
  refine ih _ ?_
  unfold iV
  split
  · exact h
  · rename_i hn
    refine ip.mpr ⟨h,by simp,fun a ha b hb e=>?_⟩
    rw[ba] at hb
    exact hn (by rw[← hb,← e];exact ha)
theorem qb (ns:List Int):(ddl ns).Nodup:=Gu ns [] Bi
theorem CJ (ns:List Int):(ddl ns).length≤ns.length:=by
 have key:∀(ns σ:List Int),(ns.foldl iV σ).length≤σ.length+ns.length:=fun ns=>by
  induction ns with
  | nil=>exact fun σ=>aE _
  | cons n r ih=>
   intro σ
   have h1:=ih (iV σ n)
   have h2:(iV σ n).length≤σ.length+1:=by
    unfold iV;split
    · omega
    · rw[ay];exact aE _
   rw[kT,bX];omega
 have:=key ns []
 rw[lh,qV] at this
 exact this
theorem Hr:entryFor table "set.update.loop" = some Builtin.«set.update.loop» := entryFor_of_tree (by kernel_rfl)
theorem Gg:plainId "set.update.loop" = true:=by decide +kernel
section
variable {P:cw}{w:eI}{A:eo}{R:Result→ar→Prop}{I:Addr}{fp wr:List Addr}{G:Array A6→Array A6→Prop}{n:Nat}{Pv:Nat→ai→Prop}{St:Nat→ar→Prop}
theorem R4 (W:WalksS P w A.in1 I fp wr G n Pv St) (S:Addr) (hS:S∉fp) (ns:List Int) (hn:ns.length=n) (hv:∀i v,i < n→Pv i v→∃t,v = .int (ns.getD i 0) t) (hb:(ddl ns).length+1 < 4000) :
 ∀(k i:Nat) (s:ar),n - i=k→i≤n→St i s→bM P w s.heap S (ddl (ns.take i)) →
  (∀s',Moved (S::wr) G s s'→bM P w s'.heap S (ddl ns)→R (.ok (.ret .none)) s') →
  uk (bt P w) A (.builtin "set.update.loop" ⟨[.ref S,.ref I],[]⟩) R s:=by
 have up:∀b∈wr,b∈S::wr:=fun b h=>bg _ h
 have sw:S∉wr:=fun h=>hS (W.sub _ h)
 intro k
 induction k with
 | zero=>
  intro i s hk hi st x hR
  obtain rfl:i=n:=by omega
  rw[fz (by omega)] at x
  refine nc Hr ?_
  rw[nK Gg _]
  show bP _ A.in1 (vt (.ref I) >>= _) _ _ s
  exact af (W.done s _ _ st fun s' hm=>av (hR s' (hm.mono up) (x.at fun o e=>hm.heap S o sw e)))
 | succ k ih=>
  intro i s hk hi st x hR
  have hlt:i < n:=by omega
  refine nc Hr ?_
  rw[nK Gg _]
  show bP _ A.in1 (vt (.ref I) >>= _) _ _ s
  refine af (W.item i s _ _ hlt st fun v s' pv st' hm=>?_)
  obtain ⟨t,rfl⟩:=hv i v hlt pv
  have x':=x.at (h':=s'.heap) fun o e=>hm.heap S o sw e
  have et:ns.take (i+1)=ns.take i++[ns.getD i 0]:=by
   rw[kR,ax,aS (by omega)];rfl
  have le1:(ddl (ns.take i)).length≤(ddl ns).length:=by
   have:=JK (ns.take i) (ns.drop i)
   rwa [fw] at this
  show bP _ A.in1 (holding [ai.int (ns.getD i 0) t] (setAdd S (.int (ns.getD i 0) t)) >>= _) _ _ s'
  refine af (gi ?_)
  unfold setAdd
  refine gi (af (wpAny_pyHash_int ?_))
  refine add_int (s:={ s' with toks:=s'.toks+1 }) x' (by omega) fun h' sb x2=>?_
  have x3:bM P w h' S (ddl (ns.take (i+1))):=by rw[et,RK];exact x2
  refine av ⟨va Gg _,ih (i+1) _ (by omega) hlt (W.frame _ s' _ _ st' (ny _) fun b hb' o e=>?_) x3 fun s2 hm2 x4=>?_⟩
  · rw[sb.2 b (fun z:b=S=>hS (by rw[← z];exact hb'))];exact e
  · refine hR s2 (Moved.trans W.gtrans ((hm.mono up).then_heap (ny _) fun b o hb' e=>?_) hm2) x4
    rw[sb.2 b (fun z:b=S=>hb' (by rw[z];exact b5))];exact e
end
section
variable {P:cw}{w:eI}{A:eo}{E:ai→ar→Prop}{s:ar}
theorem Bk:dO P w #[] (.fresh 0 0 (cQ w)) []:=⟨(fun e h=>nomatch h),⟨zd.nil,rfl⟩,rfl,B3.nil⟩
theorem Hc (a:ai):ov "set.__new__" ⟨[.type "set",a],[]⟩=pure ():=by kernel_rfl
theorem Ea (a:ai):checkTypeCall "set" ⟨[a],[]⟩=pure ():=by kernel_rfl
theorem Qy (a:ai) {Q:ai→ar→Prop} (h:Q (.ref s.heap.objs.size) { s with heap:=s.heap.push (aY #[] 0 (.fresh 0 0 (cQ w))) }) :
 uk (bt P w) A (.call (.builtin "set.__new__") ⟨[.type "set",a],[]⟩) (wants Q E) s:=by
 refine codeAny_of_tree ?_
 show bP _ A.in1 (ov "set.__new__" ⟨[.type "set",a],[]⟩ >>= fun _=>again (.builtin "set.__new__" ⟨[.type "set",a],[]⟩)) _ _ s
 refine af (ib (Hc a) (av ⟨va F.plain_set_new _,nc F.entry_set_new ?_⟩))
 rw[nK F.plain_set_new _]
 unfold Builtin.«set.__new__»
 unfold Builtin.Frozenset.newClass
 have hsb:=wb
 obtain ⟨hp,g,d,tk,os⟩:=s
 dsimp only
 wp_walk
 refine uj (av ?_)
 dsimp only
 simp only[newObj]
 exact af (wpAny_alloc (av (av h)))
theorem DR {M:vw}{self a:ai}{Q:Unit→ar→Prop} (hT:s.TypeIs self "set") (hQ:Q () s):bP M A (ov "set.__init__" ⟨[self,a],[]⟩) Q E s:=by
 simp only[ov,kind_set_init,split_set_init,sig_set_init]
 refine af (ox hT wb ?_)
 simp only[ia,aT,if_false]
 unfold Bind.checkArgs
 dsimp only
 refine af (m:=Bind.printed "set" true _ _) (printed_name (by decide) (af (m:=Bind.printed "*" false _ _) (printed_star (self:=self) rfl hT fun short=>?_)))
 have e0:(Manifest.Receiver.self == Manifest.Receiver.none)=false:=by decide
 rw[show (if (Manifest.Receiver.self == Manifest.Receiver.none)=true then [self,a].length else [self,a].length - 1)=1 by simp[e0]]
 simp only[jI]
 have e1:(mP == mP)=true:=by decide
 have e2:(mP == Manifest.ParamKind.posOrKw)=false:=by decide
 have e3:(mP == Manifest.ParamKind.varPos)=false:=by decide
 rw[show Bind.check ⟨.positional, "set", "*",.self,[⟨"iterable",.posOnly,false⟩]⟩ "set" short 1 []=pure () by simp[Bind.check,Bind.checkCount,Bind.isPositional,e1,e2,e3]]
 exact av hQ
theorem intAt:∀{vs:List ai}{ns:List Int},lx vs ns→∀{i:Nat}{v:ai},vs[i]?=some v→∃t,v = .int (ns.getD i 0) t
 | _,_,.nil,i,v,h=>by simp at h
 | _,_,.cons n t r,0,v,h=>⟨t,by rw[← Option.some.inj h];rfl⟩
 | _,_,.cons n t r,i+1,v,h=>intAt r (by simpa using h)
theorem vI:∀{vs:List ai}{ns:List Int},lx vs ns→vs.length=ns.length
 | _,_,.nil=>rfl
 | _,_,.cons n t r=>by rw[bX,bX,vI r]
structure pC (P:cw) (w:eI) (A:eo) (s:ar) (l:Addr) (T:String) (ns:List Int):Prop where
 ty:s.TypeIs (.ref l) T
 n1:isSubtype (.type T) (.type "set")=pure false
 n2:isSubtype (.type T) (.type "frozenset")=pure false
 n3:(nS T == nS "dict")=false
 it:∀(s':ar) (Q:ai→ar→Prop) (E:ai→ar→Prop) (A':eo),A'.handled=none→(∀b o,s.heap.get? b=some o→s'.heap.get? b=some o) →
  (∀(h':Heap) (fp wr:List Addr) (Pv:Nat→ai→Prop) (St:Nat→ar→Prop),(∀b o,s'.heap.get? b=some o→h'.get? b=some o)→(∀b∈fp,b=s'.heap.objs.size∨b < s.heap.objs.size)→(∀b∈wr,s'.heap.objs.size≤b) →
   (∀A2:eo,A2.handled=none→WalksS P w A2 s'.heap.objs.size fp wr (fun a b=>b=a) ns.length Pv St)→(∀i v,i < ns.length→Pv i v→∃t,v = .int (ns.getD i 0) t)→St 0 { s' with heap:=h' }→Q (.ref s'.heap.objs.size) { s' with heap:=h' }) →
  bP (bt P w) A' (BO (.ref l)) Q E s'
theorem FN {l:Addr}{T:String}{ns:List Int}{Q:ai→ar→Prop} (hh:A.handled=none) (x:pC P w A s l T ns) (hb:(ddl ns).length+1 < 4000)
 (h:∀(h':Heap) (tk:Nat),bM P w h' s.heap.objs.size (ddl ns)→(∀b o,s.heap.get? b=some o→h'.get? b=some o)→Q (.ref s.heap.objs.size) { s with heap:=h',toks:=tk }) :
 bP (bt P w) A (call (.type "set") [.ref l]) Q E s:=by
 obtain ⟨c,tl,hmro⟩:=oS.mro
 have q1:=oS.made
 have q2:=oS.sub
 refine wm (codeAny_of_tree ?_)
 show bP _ _ (callAny (.type "set") _) _ _ _
 refine av ⟨Code.quiet_builtin _ (by decide +kernel),nc F.entry_type_call ?_⟩
 rw[Around.under_plain (weight_type_call_type "set" [.ref l] []) rfl]
 have q3:=oS.notType
 have q4:=oS.canCreate
 have q5:=Ea (.ref l)
 repeat any_goals first | wp_step | assumption
 refine qS (Qy (.ref l) (E:=E) (Q:=fun obj s₁=>obj = .ref s.heap.objs.size∧s₁={ s with heap:=s.heap.push (aY #[] 0 (.fresh 0 0 (cQ w))) }) ⟨rfl,rfl⟩) fun r s₁ hr=>?_
 cases r with
 | error e=>exact hr
 | ok fl=>
  cases fl with
  | ret obj=>
   obtain ⟨rfl,rfl⟩:=hr
   have g0:(s.heap.push (aY #[] 0 (.fresh 0 0 (cQ w)))).get? s.heap.objs.size=some (aY #[] 0 (.fresh 0 0 (cQ w))):=df _ rfl
   have hT:Shared.TypeIs { s with heap:=s.heap.push (aY #[] 0 (.fresh 0 0 (cQ w))) } (.ref s.heap.objs.size) "set" := ⟨_,g0,rfl⟩
   have q6:=oS.init.lookup
   have q7:=oS.init.bind (.ref s.heap.objs.size)
   repeat any_goals first | wp_step | assumption
   refine qS (vk (R:=wants (fun r s₂=>r = .none∧∃h' tk,s₂={ s with heap:=h',toks:=tk }∧bM P w h' s.heap.objs.size (ddl ns)∧(∀b o,s.heap.get? b=some o→h'.get? b=some o)) E) oS.init.plain F.entry_set_init (DR hT ?_)) fun r₂ s₂ hr₂=>?_
   · have hTl:Shared.TypeIs { s with heap:=s.heap.push (aY #[] 0 (.fresh 0 0 (cQ w))) } (.ref l) T:=by
      obtain ⟨o,ho,hc⟩:=x.ty
      exact ⟨o,aI _ ho,hc⟩
     have n1:=x.n1
     have n2:=x.n2
     have n3:=x.n3
     unfold Builtin.«set.__init__» noKeywords
     unfold Builtin.Frozenset.updateFrom
     generalize hq:BO=PI
     wp_walk
     subst hq
     have hs3:A.in1.in1.in1.handled=none:=by simp[hh]
     refine x.it _ _ _ _ (by simp[hh]) (fun b o e=>aI _ e) fun h' fp wr Pv St hk hfp hwr W hv st=>?_
     have hsz:(s.heap.push (aY #[] 0 (.fresh 0 0 (cQ w)))).objs.size=s.heap.objs.size+1:=kM ..
     refine af (wpAny_runValue (R4 (W _ (by simp[hh])) s.heap.objs.size (fun hm=>?_) ns rfl hv hb ns.length 0 _ (by omega) (iE _) st ⟨_,_,_,hk _ _ g0,Bk⟩ fun s' hm x'=>?_))
     · rcases hfp _ hm with z | z
       · rw[hsz] at z;exact absurd z (eJ (mo _))
       · exact absurd z (hZ _)
     · obtain ⟨h2,g',d',tk',os'⟩:=s'
       obtain rfl:g'=s.gens:=hm.gens
       obtain rfl:d'=s.drawn:=hm.drawn
       obtain rfl:os'=s.os:=hm.os
       refine av (av ⟨rfl,h2,tk',rfl,x',fun b o e=>?_⟩)
       have hlt:=bE e
       refine hm.heap b o (fun z=>?_) (hk _ _ (aI _ e))
       rcases be.mp z with z | z
       · exact absurd z (eJ hlt)
       · have:=hwr b z;rw[hsz] at this;exact absurd (cx (qa hlt) this) (hZ _)
   · cases r₂ with
     | error e=>exact hr₂
     | ok fl₂=>
      cases fl₂ with
      | ret r=>
       obtain ⟨rfl,h',tk,rfl,x',k'⟩:=hr₂
       repeat any_goals first | wp_step | assumption
       exact h _ _ x' k'
      | _=>exact hr₂.elim
  | _=>exact hr.elim
theorem pC.list {l:Addr}{items:Array ai}{ns:List Int} (hl:s.heap.IsList l items) (hi:lx items.toList ns):pC P w A s l "list" ns where
 ty:=hl.typeIs
 n1:=by rw[oy];kernel_rfl
 n2:=by rw[oy];kernel_rfl
 n3:=by decide
 it:=fun s' Q E A' hh hk hQ=>by
  have hl':s'.heap.IsList l items:=by
   obtain ⟨o,ho,r⟩:=hl
   exact ⟨o,hk _ _ ho,r⟩
  have hlt:l < s'.heap.objs.size:=by obtain ⟨o,ho,r⟩:=hl';exact bE ho
  have hls:l < s.heap.objs.size:=by obtain ⟨o,ho,r⟩:=hl;exact bE ho
  have en:ns.length=items.size:=by rw[← vI hi,cy]
  refine wpAny_pyIter_list hl' (hQ _ [s'.heap.objs.size,l] [s'.heap.objs.size] (fun i v=>items[i]?=some v) (fun i s2=>s2.heap.IsListIter s'.heap.objs.size l i∧s2.heap.IsList l items) (fun b o e=>aI _ e) (fun b hb=>?_) (fun b hb=>?_) (fun A2 h2=>?_) (fun i v _ hv=>?_) ⟨⟨_,df _ rfl,rfl,rfl⟩,hl'.push _⟩)
  · rcases be.mp hb with z | z
    · exact .inl z
    · exact .inr (by rw[ba.mp z];exact hls)
  · rw[ba.mp hb];exact aE _
  · rw[en];exact (Walks.list h2 _ l (eJ hlt) items).toS
  · exact intAt hi (by rw[ft];exact hv)
theorem pC.tuple {l:Addr}{items:Array ai}{ns:List Int} (hl:s.heap.IsTuple l items) (hi:lx items.toList ns):pC P w A s l "tuple" ns where
 ty:=hl.typeIs
 n1:=by rw[oy];kernel_rfl
 n2:=by rw[oy];kernel_rfl
 n3:=by decide
 it:=fun s' Q E A' hh hk hQ=>by
  have hl':s'.heap.IsTuple l items:=by
   obtain ⟨o,ho,r⟩:=hl
   exact ⟨o,hk _ _ ho,r⟩
  have hlt:l < s'.heap.objs.size:=by obtain ⟨o,ho,r⟩:=hl';exact bE ho
  have hls:l < s.heap.objs.size:=by obtain ⟨o,ho,r⟩:=hl;exact bE ho
  have en:ns.length=items.size:=by rw[← vI hi,cy]
  refine wpAny_pyIter_tuple hl' (hQ _ [s'.heap.objs.size,l] [s'.heap.objs.size] (fun i v=>items[i]?=some v) (fun i s2=>s2.heap.IsTupleIter s'.heap.objs.size l i∧s2.heap.IsTuple l items) (fun b o e=>aI _ e) (fun b hb=>?_) (fun b hb=>?_) (fun A2 h2=>?_) (fun i v _ hv=>?_) ⟨⟨_,df _ rfl,rfl,rfl⟩,hl'.push _⟩)
  · rcases be.mp hb with z | z
    · exact .inl z
    · exact .inr (by rw[ba.mp z];exact hls)
  · rw[ba.mp hb];exact aE _
  · rw[en];exact (Walks.tuple h2 _ l (eJ hlt) items).toS
  · exact intAt hi (by rw[ft];exact hv)
end
theorem wF:Slot "set" "__iter__" "set.__iter__" :=
 .of (owner := "set") (n := "__iter__") (by rw[AY,tN];kernel_rfl) (by decide +kernel) (by decide +kernel) (by decide +kernel)
  (by first | exact .inl (by decide +kernel) | exact .inr (by decide +kernel)) (by rw[oy];kernel_rfl)
theorem Ky:entryFor table "set.__iter__" = some Builtin.«frozenset.__iter__» :=
 entryFor_alias (id' := "frozenset.__iter__") (by kernel_rfl) (by first | rfl | decide +kernel) (by decide +kernel) (by kernel_rfl)
theorem K1 (a:ai):argsOk "set.__iter__" ⟨[a],[]⟩:=by
 unfold argsOk;rw[signature?_of (id := "set.__iter__") (n:=['_','_','r','e','t','i','_','_']) (o:=['t','e','s']) (by kernel_rfl) F.owner_set];kernel_rfl
theorem Ge:Manifest.owners.lookup (String.ofList ['r','o','t','a','r','e','t','i','_','t','e','s'].reverse)=some Manifest.sig_set_iterator:=by kernel_rfl
theorem cR:Slot "set_iterator" "__next__" "set_iterator.__next__" :=
 .of (owner := "set_iterator") (n := "__next__") (by rw[AY,tN];kernel_rfl) (by decide +kernel) (by decide +kernel) (by decide +kernel)
  (by first | exact .inl (by decide +kernel) | exact .inr (by decide +kernel)) (by rw[oy];kernel_rfl)
theorem mV:entryFor table "set_iterator.__next__" = some Builtin.«set_iterator.__next__» := entryFor_of_tree (by kernel_rfl)
theorem mU (a:ai):argsOk "set_iterator.__next__" ⟨[a],[]⟩:=by
 unfold argsOk;rw[signature?_of (id := "set_iterator.__next__") (n:=['_','_','t','x','e','n','_','_']) (o:=['r','o','t','a','r','e','t','i','_','t','e','s']) (by kernel_rfl) Ge];kernel_rfl
theorem lX:Slot "set_iterator" "__iter__" "set_iterator.__iter__" :=
 .of (owner := "set_iterator") (n := "__iter__") (by rw[AY,tN];kernel_rfl) (by decide +kernel) (by decide +kernel) (by decide +kernel)
  (by first | exact .inl (by decide +kernel) | exact .inr (by decide +kernel)) (by rw[oy];kernel_rfl)
theorem wG:entryFor table "set_iterator.__iter__" = some Builtin.«dict_keyiterator.__iter__» :=
 entryFor_alias (id' := "dict_keyiterator.__iter__") (by kernel_rfl) (by first | rfl | decide +kernel | (unfold String.splitOn;simp +decide [String.splitOnAux])) (by decide +kernel) (by kernel_rfl)
theorem wC (a:ai):argsOk "set_iterator.__iter__" ⟨[a],[]⟩:=by
 unfold argsOk;rw[signature?_of (id := "set_iterator.__iter__") (n:=['_','_','r','e','t','i','_','_']) (o:=['r','o','t','a','r','e','t','i','_','t','e','s']) (by kernel_rfl) Ge];kernel_rfl
noncomputable def gj (first:ai) (i S n ep:Nat):Obj:={ cls:=.type "set_iterator",dict:=none,data:=.fields #[first,ja (i:Nat),.ref S,ja (n:Nat),ja (ep:Nat)],slots:=#[] }
structure oG (s s':ar):Prop where
 heap:∀b o,s.heap.get? b=some o→s'.heap.get? b=some o
 gens:s'.gens=s.gens
 os:s'.os=s.os
section
variable {P:cw}{w:eI}{A:eo}{E:ai→ar→Prop}{s:ar}
theorem KD {src:Source}{n:Nat}{Q:Nat→ar→Prop}{M:vw} (hn:n≠0) (h:∀i,i < n→Q i { s with drawn:=s.drawn.bump src }):bP M A (choose src n) Q E s:=fun Γ p _=>by
 show Sem.wp M Γ (.choose src n .pure) _ _ p s
 rw[Sem.wp_choose]
 exact ⟨hn,h _ (BU _ (xa hn))⟩
theorem xY {M:vw}{α:Type}:∀(n:Nat) (xs:List α) (s:ar) {Q:List α→ar→Prop},xs.length=n→(∀ys s',ys.Perm xs→s'.heap=s.heap→s'.gens=s.gens→s'.os=s.os→s'.toks=s.toks→Q ys s')→bP M A (drawOrder n xs) Q E s
 | 0,xs,s,Q,hl,h=>by
  have:xs=[]:=kS.mp hl
  subst this
  unfold drawOrder
  exact av (h [] s (.refl _) rfl rfl rfl rfl)
 | n+1,[],s,Q,hl,h=>by cases hl
 | n+1,x::xs,s,Q,hl,h=>by
  unfold drawOrder
  refine af (KD (by rw[hl];exact Nat.succ_ne_zero _) fun i hi=>?_)
  rw[aS hi]
  dsimp only
  refine af (xY n _ _ (by rw[xh hi,hl];rfl) fun ys s' hp h1 h2 h3 h4=>av ?_)
  exact h _ s' ((hp.cons _).trans (jF hi)) h1 h2 h3 h4
theorem texts_any {M:vw}{Q:Bool→ar→Prop} (h:Q (M.w.params.followText "set-order") s):bP M A setsByText Q E s:=by
 unfold setsByText
 exact af (uj (av h))
noncomputable def placeAt (t:dc) (i:Nat):Nat:=match i with
 | 0=>0
 | i+1=>t.place.getD i 0+1
theorem G6 {t:dc} (h:gq t.place):∀{i:Nat},i≤t.place.size→eD t.place (placeAt t i)=i
 | 0,_=>GX h
 | i+1,hi=>by
  have e:placeAt t (i+1)=t.place[i]'hi+1:=by
   show t.place.getD i 0+1=_
   rw[fm,fS (by omega)];rfl
  rw[e]
  exact Js h (by omega)
structure Asks (P:cw) (w:eI) (S:Addr) (es:Array (Int×ai)) (ep:Nat) (t:dc) (sl:Nat→Nat) (W:List ai):Prop where
 len:W.length=es.size
 item:∀(A:eo) (E:ai→ar→Prop) (s:ar) (i:Nat) (v:ai) (Q:Option (ai×Nat)→ar→Prop),s.heap.get? S=some (aY es ep t)→W[i]?=some v→Q (some (v,sl (i+1))) s→bP (bt P w) A (setNext S (sl i) i ep) Q E s
 done:∀(A:eo) (E:ai→ar→Prop) (s:ar) (Q:Option (ai×Nat)→ar→Prop),s.heap.get? S=some (aY es ep t)→Q none s→bP (bt P w) A (setNext S (sl es.size) es.size ep) Q E s
theorem NB {S:Addr}{es:Array (Int×ai)}{ep:Nat}{t:dc} (hf:t.fits es.size=true) (hw:w.params.followText "set-order" = true) :
 Asks P w S es ep t (fun _=>0) ((pickOrder (w.params.setOrder S ep) es).toList.map (·.2)):=by
 have hl:((pickOrder (w.params.setOrder S ep) es).toList.map (·.2)).length=es.size:=by
  rw[aw,(uh _ es).length_eq,cy]
 have key:∀(A:eo) (E:ai→ar→Prop) (s:ar) (i:Nat) (Q:Option (ai×Nat)→ar→Prop),s.heap.get? S=some (aY es ep t) →
  Q ((((pickOrder (w.params.setOrder S ep) es).toList.map (·.2))[i]?).map fun v=>(v,0)) s→bP (bt P w) A (setNext S 0 i ep) Q E s:=fun A E s i Q g h=>by
  unfold setNext
  refine af (fi g rfl hf ?_)
  dsimp only
  refine af (texts_any ?_)
  rw[show (bt P w).w.params.followText "set-order" = true from hw]
  simp only[if_true,bne_self_eq_false,aT,if_false]
  refine af ?_
  unfold setWalk
  refine af (fi g rfl hf ?_)
  dsimp only
  refine af (texts_any ?_)
  rw[show (bt P w).w.params.followText "set-order" = true from hw]
  simp only[if_true]
  refine af (uj (av (av ?_)))
  rw[cn,ft,Option.map_map] at h
  exact h
 refine ⟨hl,fun A E s i v Q g hv h=>key A E s i Q g (by rw[hv];exact h),fun A E s Q g h=>key A E s _ Q g ?_⟩
 rw[fv (by rw[hl];exact aE _)]
 exact h
theorem J9 {S:Addr}{es:Array (Int×ai)}{ep:Nat}{t:dc} (hf:t.fits es.size=true) (hw:w.params.followText "set-order" = false) (ht:TabOk (cQ w) t) (hd:(!t.plain&&decide (es.size > 1))=false) :
 Asks P w S es ep t (placeAt t) (es.toList.map (·.2)):=by
 have hps:t.place.size=es.size:=by
  simp only[ro,cc,beq_iff_eq] at hf
  exact hf.1
 have Sv:t.led=true:=by rw[ht.led];unfold cQ;rw[hw];rfl
 have key:∀(A:eo) (E:ai→ar→Prop) (s:ar) (i:Nat) (Q:Option (ai×Nat)→ar→Prop),s.heap.get? S=some (aY es ep t)→i≤es.size →
  Q (match es[i]?,t.place[i]? with | some (_,x),some j=>some (x,j+1) | _,_=>none) s→bP (bt P w) A (setNext S (placeAt t i) i ep) Q E s:=fun A E s i Q g hi h=>by
  unfold setNext
  refine af (fi g rfl hf ?_)
  dsimp only
  refine af (texts_any ?_)
  rw[show (bt P w).w.params.followText "set-order" = false from hw]
  simp only[aT,if_false]
  show bP _ _ (if (!t.plain&&decide (es.size > 1))=true then _ else _) _ _ _
  rw[hd]
  simp only[aT,if_false]
  refine af ?_
  show bP _ _ (if (!t.led && !es.isEmpty)=true then _ else _) _ _ _
  rw[Sv]
  simp only[ia,kK,aT,if_false]
  refine av ?_
  rw[G6 ht.up (by omega)]
  exact av h
 refine ⟨by rw[aw,cy],fun A E s i v Q g hv h=>?_,fun A E s Q g h=>key A E s _ Q g (aE _) ?_⟩
 · rw[cn,ft] at hv
   cases he:es[i]? with
   | none=>rw[he] at hv;cases hv
   | some e=>
    rw[he] at hv
    cases hv
    have hi:i < es.size:=(qv.mp he).1
    refine key A E s i Q g (by omega) ?_
    rw[he,fS (by omega)]
    have e2:placeAt t (i+1)=t.place[i]'(by omega)+1:=by
     show t.place.getD i 0+1=_
     rw[fm,fS (by omega)];rfl
    rw[e2] at h
    exact h
 · rw[AQ (aE _)]
   exact h
theorem fP {I S i n ep:Nat}{f:ai} (g:s.heap.get? I=some (gj f i S n ep)):s.TypeIs (.ref I) "set_iterator" := ⟨_,g,rfl⟩
theorem Bh {a:Addr}{f:ai}{i S n ep:Nat}{k:Nat}{x:ai}{h:Heap} (g:h.get? a=some (gj f i S n ep)):(h.update a (Obj.mapFields (·.setIfInBounds k x))).get? a=some { gj f i S n ep with data:=.fields (#[f,ja (i:Nat),.ref S,ja (n:Nat),ja (ep:Nat)].setIfInBounds k x) }:=
 kx _ g rfl
theorem next_item {I S i ep:Nat}{es:Array (Int×ai)}{t:dc}{sl:Nat→Nat}{W:List ai}{v:ai}{Q:Option ai→ar→Prop} (g:s.heap.get? I=some (gj (ja (sl i:Nat)) i S es.size ep)) (gs:s.heap.get? S=some (aY es ep t)) (hf:t.fits es.size=true)
 (K:Asks P w S es ep t sl W) (hv:W[i]?=some v) (hQ:∀h',h'.get? I=some (gj (ja (sl (i+1):Nat)) (i+1) S es.size ep)→fT I s.heap h'→Q (some v) { s with heap:=h' }):bP (bt P w) A (vt (.ref I)) Q E s:=by
 unfold vt
 refine af (pz (i6 (name:=sN "__next__") (fP g) cR (gp cR (fP g) mV ?_ (mU _))))
 unfold Builtin.«set_iterator.__next__»
 refine af (ib (a:=(dQ I,[])) rfl (af (xt g rfl ?_)))
 dsimp only[gj,ja]
 refine af (kg gs rfl hf ?_)
 simp only[bne_self_eq_false,aT,if_false,eM]
 refine af (K.item _ _ _ i v _ gs hv ?_)
 dsimp only
 have g1:=Bh (k:=0) (x:=ja (sl (i+1):Nat)) g
 refine af (qA g rfl (by simp) ?_)
 refine af (qA (s:={ s with heap:=_ }) g1 rfl (by simp) ?_)
 refine av ⟨v,rfl,av (hQ _ ?_ ((gX ..).trans (gX ..)))⟩
 have g2:=kx (Obj.mapFields (·.setIfInBounds 1 (ja ((i:Int)+1)))) g1 rfl
 refine g2.trans ?_
 rfl
theorem O5 {I S ep:Nat}{es:Array (Int×ai)}{t:dc}{sl:Nat→Nat}{W:List ai}{Q:Option ai→ar→Prop} (hh:A.handled=none) (g:s.heap.get? I=some (gj (ja (sl es.size:Nat)) es.size S es.size ep)) (gs:s.heap.get? S=some (aY es ep t)) (hf:t.fits es.size=true)
 (K:Asks P w S es ep t sl W) (hQ:∀h',Heap.ExtBut I s.heap h'→Q none { s with heap:=h' }):bP (bt P w) A (vt (.ref I)) Q E s:=by
 unfold vt
 refine af (pz (i6 (name:=sN "__next__") (fP g) cR (gp cR (fP g) mV ?_ (mU _))))
 unfold Builtin.«set_iterator.__next__»
 refine af (ib (a:=(dQ I,[])) rfl (af (xt g rfl ?_)))
 dsimp only[gj,ja]
 refine af (kg gs rfl hf ?_)
 simp only[bne_self_eq_false,aT,if_false,eM]
 refine af (K.done _ _ _ _ gs ?_)
 dsimp only
 refine af (qA g rfl (by simp) ?_)
 refine af ?_
 simp only[newExc,newTuple]
 refine af (gu ?_ (by size_fits))
 refine af (m:=xw _ _) (ib (a:=ai.none) (by first | rfl | (simp only[xw];rfl)) ?_)
 refine gu ?_ (by size_fits)
 simp only[raiseNew]
 refine af (wpAny_handled ?_)
 first | rw[show A.in1.handled=none from hh] | rw[hh]
 refine af (av (wpAny_throw ?_))
 refine af (ox (T := "StopIteration") (b:=true) ⟨_,df _ rfl,rfl⟩ isSubtype_stop ?_)
 exact av (hQ _ (((gX ..).extBut.push _).push _))
theorem Jq {I S ep:Nat}{es:Array (Int×ai)}{t:dc}{sl:Nat→Nat}{W:List ai} (hh:A.handled=none) (hne:S≠I) (hf:t.fits es.size=true) (K:Asks P w S es ep t sl W) :
 WalksS P w A I [I,S] [I] (fun a b=>b=a) es.size (fun i v=>W[i]?=some v) (fun i s=>s.heap.get? I=some (gj (ja (sl i:Nat)) i S es.size ep)∧s.heap.get? S=some (aY es ep t)) where
 sub:=fun b hb=>by rw[ba.mp hb];exact b5
 grefl:=fun _=>rfl
 gtrans:=fun _ _ _ h1 h2=>h2.trans h1
 frame:=fun i s h' tk st _ hk=>⟨hk I b5 _ st.1,hk S (by simp) _ st.2⟩
 item:=fun i s Q E hi st hQ=>by
  have hv:W[i]?=some (W[i]'(by rw[K.len];exact hi)):=aS _
  refine next_item st.1 st.2 hf K hv fun h' g' sb=>hQ _ _ hv ⟨g',(sb.2 S hne).trans st.2⟩ ⟨fun b o hb e=>(sb.2 b (fun z=>hb (by simp[z]))).trans e,rfl,rfl,rfl,aE _⟩
 done:=fun s Q E st hQ=>O5 hh st.1 st.2 hf K fun h' eb=>hQ _ ⟨fun b o hb e=>eb b o (fun z=>hb (by simp[z])) e,rfl,rfl,rfl,aE _⟩
 self:=fun i s Q E st hQ=>y7 (fP st.1) lX (gp lX (fP st.1) wG (by
  show bP _ _ (ret (.ref I)) _ _ s
  exact av ⟨_,rfl, "set_iterator",_,fP st.1,cR.lookup,hQ⟩) (wC _))
noncomputable def eZ (os:List Nat):Obj:={ cls:=.type "tuple",dict:=none,data:=.seq (os.map fun (i:Nat)=>ja (i:Nat)).toArray,slots:=#[] }
theorem Kc {I S T i ep:Nat}{es:Array (Int×ai)}{t:dc}{os:List Nat}{e:Int×ai}{p:Nat}{Q:Option ai→ar→Prop} (g:s.heap.get? I=some (gj (.ref T) i S es.size ep)) (gs:s.heap.get? S=some (aY es ep t)) (gt:s.heap.get? T=some (eZ os)) (hf:t.fits es.size=true)
 (hp:os[i]?=some p) (he:es[p]?=some e) (hQ:∀h',h'.get? I=some (gj (.ref T) (i+1) S es.size ep)→fT I s.heap h'→Q (some e.2) { s with heap:=h' }):bP (bt P w) A (vt (.ref I)) Q E s:=by
 unfold vt
 refine af (pz (i6 (name:=sN "__next__") (fP g) cR (gp cR (fP g) mV ?_ (mU _))))
 unfold Builtin.«set_iterator.__next__»
 refine af (ib (a:=(dQ I,[])) rfl (af (xt g rfl ?_)))
 dsimp only[gj,ja]
 refine af (kg gs rfl hf ?_)
 simp only[bne_self_eq_false,aT,if_false,eM]
 refine af (xy gt rfl ?_)
 have hx:((os.map fun (i:Nat)=>ja (i:Nat)).toArray)[i]?=some (ja (p:Nat)):=by
  rw[List.getElem?_toArray,cn,hp];rfl
 dsimp only
 rw[hx]
 dsimp only[ja]
 refine af ?_
 unfold setNextDrawn
 refine af (fi gs rfl hf ?_)
 dsimp only
 simp only[bne_self_eq_false,aT,if_false,eM]
 rw[he]
 refine av (af (qA g rfl (by simp) ?_))
 refine av ⟨e.2,rfl,av (hQ _ ?_ (gX ..))⟩
 have g2:=kx (Obj.mapFields (·.setIfInBounds 1 (ja ((i:Int)+1)))) g rfl
 exact g2.trans rfl
theorem Jj {I S T ep:Nat}{es:Array (Int×ai)}{t:dc}{os:List Nat}{Q:Option ai→ar→Prop} (hh:A.handled=none) (g:s.heap.get? I=some (gj (.ref T) es.size S es.size ep)) (gs:s.heap.get? S=some (aY es ep t)) (gt:s.heap.get? T=some (eZ os)) (hf:t.fits es.size=true)
 (hp:os.length=es.size) (hQ:∀h',Heap.ExtBut I s.heap h'→Q none { s with heap:=h' }):bP (bt P w) A (vt (.ref I)) Q E s:=by
 unfold vt
 refine af (pz (i6 (name:=sN "__next__") (fP g) cR (gp cR (fP g) mV ?_ (mU _))))
 unfold Builtin.«set_iterator.__next__»
 refine af (ib (a:=(dQ I,[])) rfl (af (xt g rfl ?_)))
 dsimp only[gj,ja]
 refine af (kg gs rfl hf ?_)
 simp only[bne_self_eq_false,aT,if_false,eM]
 refine af (xy gt rfl ?_)
 have hx:((os.map fun (i:Nat)=>ja (i:Nat)).toArray)[es.size]?=none:=by
  rw[List.getElem?_toArray,cn,fv (by omega)];rfl
 dsimp only
 rw[hx]
 dsimp only
 have g1:=Bh (k:=0) (x:=ja 0) g
 refine af (qA g rfl (by simp) ?_)
 refine af (qA (s:={ s with heap:=_ }) g1 rfl (by simp) ?_)
 refine af ?_
 simp only[newExc,newTuple]
 refine af (gu ?_ (by size_fits))
 refine af (m:=xw _ _) (ib (a:=ai.none) (by first | rfl | (simp only[xw];rfl)) ?_)
 refine gu ?_ (by size_fits)
 simp only[raiseNew]
 refine af (wpAny_handled ?_)
 first | rw[show A.in1.handled=none from hh] | rw[hh]
 refine af (av (wpAny_throw ?_))
 refine af (ox (T := "StopIteration") (b:=true) ⟨_,df _ rfl,rfl⟩ isSubtype_stop ?_)
 exact av (hQ _ ((((gX ..).trans (gX ..)).extBut.push _).push _))
theorem G3 {I S T ep:Nat}{es:Array (Int×ai)}{t:dc}{os:List Nat} (hh:A.handled=none) (h1:S≠I) (h2:T≠I) (hf:t.fits es.size=true) (hp:os.Perm (cS es.size)) :
 WalksS P w A I [I,S,T] [I] (fun a b=>b=a) es.size (fun i v=>(os.map fun p=>(es.getD p (0,.none)).2)[i]?=some v) (fun i s=>s.heap.get? I=some (gj (.ref T) i S es.size ep)∧s.heap.get? S=some (aY es ep t)∧s.heap.get? T=some (eZ os)) where
 sub:=fun b hb=>by rw[ba.mp hb];exact b5
 grefl:=fun _=>rfl
 gtrans:=fun _ _ _ h1 h2=>h2.trans h1
 frame:=fun i s h' tk st _ hk=>⟨hk I b5 _ st.1,hk S (by simp) _ st.2.1,hk T (by simp) _ st.2.2⟩
 item:=fun i s Q E hi st hQ=>by
  have hl:os.length=es.size:=by rw[hp.length_eq,dP]
  have hv:os[i]?=some (os[i]'(by omega)):=aS _
  have hlt:os[i]'(by omega) < es.size:=d5.mp (hp.mem_iff.mp (e8 _))
  have he:es[os[i]'(by omega)]?=some (es[os[i]'(by omega)]'hlt):=fS hlt
  refine Kc st.1 st.2.1 st.2.2 hf hv he fun h' g' sb=>hQ _ _ ?_ ⟨g',(sb.2 S h1).trans st.2.1,(sb.2 T h2).trans st.2.2⟩ ⟨fun b o hb e=>(sb.2 b (fun z=>hb (by simp[z]))).trans e,rfl,rfl,rfl,aE _⟩
  rw[cn,hv]
  show some (es.getD _ _).2=_
  rw[fm,he];rfl
 done:=fun s Q E st hQ=>Jj hh st.1 st.2.1 st.2.2 hf (by rw[hp.length_eq,dP]) fun h' eb=>hQ _ ⟨fun b o hb e=>eb b o (fun z=>hb (by simp[z])) e,rfl,rfl,rfl,aE _⟩
 self:=fun i s Q E st hQ=>y7 (fP st.1) lX (gp lX (fP st.1) wG (by
  show bP _ _ (ret (.ref I)) _ _ s
  exact av ⟨_,rfl, "set_iterator",_,fP st.1,cR.lookup,hQ⟩) (wC _))
theorem Jc {es:Array (Int×ai)}{os:List Nat} (hp:os.Perm (cS es.size)):(os.map fun p=>(es.getD p (0,.none)).2).Perm (es.toList.map (·.2)):=by
 refine (hp.map _).trans ?_
 refine List.Perm.of_eq (yb fun i=>?_)
 rw[cn,cn,ft (xs:=es)]
 by_cases h:i < es.size
 · rw[ke h,fS h]
   show some (es.getD i _).2=_
   rw[fm,fS h];rfl
 · rw[fv (by rw[dP];omega),AQ (by omega)];rfl
structure Xv (P:cw) (w:eI) (s:ar) (S:Addr) (I:Addr) (es:Array (Int×ai)) (s':ar):Prop where
 grown:oG s s'
 new:s.heap.objs.size≤I
 walk:∃(fp:List Addr) (W:List ai) (St:Nat→ar→Prop),W.Perm (es.toList.map (·.2))∧I∈fp∧(∀b∈fp,b=S∨s.heap.objs.size≤b)∧(∀A2:eo,A2.handled=none→WalksS P w A2 I fp [I] (fun a b=>b=a) es.size (fun i v=>W[i]?=some v) St)∧St 0 s'
theorem R9 {S:Addr}{es:Array (Int×ai)}{ep:Nat}{t:dc}{ks:List Int}{Q:ai→ar→Prop} (gs:s.heap.get? S=some (aY es ep t)) (r:dO P w es t ks) (hz:es.size≤bp)
 (hQ:∀I s',Xv P w s S I es s'→Q (.ref I) s'):bP (bt P w) A (BO (.ref S)) Q E s:=by
 have hlt:S < s.heap.objs.size:=bE gs
 have hT:s.TypeIs (.ref S) "set" := ⟨_,gs,rfl⟩
 refine y7 hT wF (gp wF hT Ky ?_ (K1 _))
 unfold Builtin.«frozenset.__iter__»
 refine af (ib (a:=S) rfl ?_)
 refine af ?_
 unfold rq
 refine af (kg gs rfl r.fit (av ?_))
 refine af ?_
 unfold setDrawn
 refine af (fi gs rfl r.fit ?_)
 dsimp only
 refine af (texts_any (av ?_))
 have Ga:∀(sl:Nat→Nat) (W:List ai),sl 0=0→Asks P w S es ep t sl W→W.Perm (es.toList.map (·.2)) →
  bP (bt P w) A.in1 (pure (ja 0) >>= fun first=>setEpoch S >>= fun e=>newFields "set_iterator" [first,ja 0,.ref S,ja (es.size:Nat),ja (e:Nat)] >>= fun v=>ret v) (fun fin s'=>∃v,fin = .done (.ret v)∧∃T' r,s'.TypeIs v T'∧typeLookup (.type T') "__next__" = pure (some r)∧Q v s') E s:=fun sl W e0 K hp=>by
  refine af (av (af (nL gs rfl r.fit (af ?_))))
  unfold newFields
  refine gu (av ?_) (by size_fits)
  have g1:(s.heap.push (gj (ja (sl 0:Nat)) 0 S es.size ep)).get? s.heap.objs.size=some (gj (ja (sl 0:Nat)) 0 S es.size ep):=df _ rfl
  rw[e0] at g1
  refine ⟨_,rfl, "set_iterator",_,⟨_,g1,rfl⟩,cR.lookup,hQ _ _ ⟨⟨fun b o e=>aI _ e,rfl,rfl⟩,aE _,[s.heap.objs.size,S],W,_,hp,by simp,fun b hb=>?_,fun A2 h2=>Jq h2 (eJ hlt) r.fit K,?_,aI _ gs⟩⟩
  · rcases be.mp hb with z | z
    · exact .inr (by rw[z];exact aE _)
    · exact .inl (ba.mp z)
  · rw[e0];exact g1
 have bnd:∀{α β γ:Type}{m:Sem α}{f:α→Sem β}{k:β→Sem γ}{R:γ→ar→Prop}{s1:ar},bP (bt P w) A.in1 (m >>= fun a=>f a >>= k) R E s1→bP (bt P w) A.in1 ((m >>= f) >>= k) R E s1:=fun h=>by rw[bind_assoc];exact h
 by_cases hw:w.params.followText "set-order" = true
 · rw[show (bt P w).w.params.followText "set-order" = true from hw]
   simp only[ia,kK,aT,if_false]
   have:=Ga (fun _=>0) _ rfl (NB r.fit hw) ((uh _ es).map _)
   simpa only[pure_bind,bind_assoc] using this
 · have hw':w.params.followText "set-order" = false:=by simpa using hw
   rw[show (bt P w).w.params.followText "set-order" = false from hw']
   simp only[Bn,BI]
   show bP _ _ (if (!t.plain&&decide (es.size > 1))=true then _ else _) _ _ _
   by_cases hd:(!t.plain&&decide (es.size > 1))=true
   · rw[hd]
     simp only[if_true]
     refine af (xY es.size _ _ (dP ..) fun os s1 hp h1 h2 h3 h4=>af ?_)
     have hl:os.length=es.size:=by rw[hp.length_eq,dP]
     unfold newTuple
     refine gu ?_ ?_
     · have gs1:s1.heap.get? S=some (aY es ep t):=by rw[h1];exact gs
       have gs2:(s1.heap.push (eZ os)).get? S=some (aY es ep t):=aI _ gs1
       have gt2:(s1.heap.push (eZ os)).get? s1.heap.objs.size=some (eZ os):=df _ rfl
       refine af (nL (s:={ s1 with heap:=s1.heap.push (eZ os) }) gs2 rfl r.fit (af ?_))
       unfold newFields
       refine gu (av ?_) (by size_fits)
       have g1:((s1.heap.push (eZ os)).push (gj (.ref s1.heap.objs.size) 0 S es.size ep)).get? (s1.heap.push (eZ os)).objs.size=some (gj (.ref s1.heap.objs.size) 0 S es.size ep):=df _ rfl
       have hs1:(s1.heap.push (eZ os)).objs.size=s.heap.objs.size+1:=by rw[kM,h1]
       refine ⟨_,rfl, "set_iterator",_,⟨_,g1,rfl⟩,cR.lookup,hQ _ _ ⟨⟨fun b o e=>?_,h2,h3⟩,?_,[(s1.heap.push (eZ os)).objs.size,S,s1.heap.objs.size],_,_,Jc hp,by simp,fun b hb=>?_,fun A2 hh2=>G3 hh2 ?_ ?_ r.fit hp,g1,aI _ gs2,aI _ gt2⟩⟩
       · refine aI _ (aI _ ?_)
         show s1.heap.get? b=some o
         rw[h1];exact e
       · show s.heap.objs.size≤(s1.heap.push (eZ os)).objs.size
         rw[hs1];exact ny _
       · rcases be.mp hb with z | z
         · exact .inr (by rw[z,hs1];exact ny _)
         · rcases be.mp z with z | z
           · exact .inl z
           · exact .inr (by rw[ba.mp z,h1];exact aE _)
       · rw[hs1];exact eJ (qa hlt)
       · rw[hs1,h1];exact eJ (mo _)
     · show ((os.map fun (i:Nat)=>ja (i:Nat)).toArray).size≤bp
       rw[ck,aw,hl]
       exact hz
   · have hd':(!t.plain&&decide (es.size > 1))=false:=by simpa using hd
     rw[hd']
     simp only[aT,if_false]
     have:=Ga (placeAt t) _ rfl (J9 r.fit hw' r.tab hd') (.refl _)
     simpa only[pure_bind,bind_assoc] using this
theorem R7 {S:Addr}{Q:Bool→ar→Prop} (hT:s.TypeIs (.ref S) "set") (h:Q false s):bP (bt P w) A (Builtin.List.listLengthHint (.ref S)) Q E s:=by
 unfold Builtin.List.listLengthHint
 refine af (wpAny_specialOf hT F.slot_set_len.lookup ?_)
 generalize hq:("set.__len__" : String)=id0
 wp_delta
 rw[show splitId id0=some ("set", "__len__") by subst hq;decide +kernel]
 subst hq
 refine af (ox (T := "set") (b:=true) hT wb ?_)
 refine ng (fun z=>absurd z (by decide)) (fun _=>ng (fun _=>?_) (fun z=>absurd (by decide +kernel) z))
 exact af (sP hT (av h))
theorem Ds {W:List ai}{es:Array (Int×ai)}{t:dc}{ks:List Int} (r:dO P w es t ks) (hp:W.Perm (es.toList.map (·.2))):lx W (W.map fV)∧(W.map fV).Perm ks:=by
 refine ⟨?_,(hp.map fV).trans (by rw[lT];exact r.pm)⟩
 have:∀v∈W,∃k tk,v = .int k tk:=fun v hv=>by
  obtain ⟨e,he,rfl⟩:=eh.mp (hp.mem_iff.mp hv)
  obtain ⟨k,tk,rfl⟩:=r.shape he
  exact ⟨k,tk,rfl⟩
 clear hp
 induction W with
 | nil=>exact .nil
 | cons v W ih=>
  obtain ⟨k,tk,rfl⟩:=this v b5
  exact .cons k tk (ih fun v hv=>this v (bg _ hv))
theorem Hi {S:Addr}{ks:List Int}{Q:List ai→ar→Prop} (hh:A.handled=none) (x:bM P w s.heap S ks) (hz:ks.length < 4000)
 (hQ:∀vs ns s',oG s s'→lx vs ns→ns.Perm ks→Q vs s'):bP (bt P w) A (collect (.ref S)) Q E s:=by
 obtain ⟨es,ep,t,gs,r⟩:=x
 have hn:es.size≤bp:=kW (by rw[r.size];exact hz)
 have hlt:S < s.heap.objs.size:=bE gs
 unfold collect
 refine af (wpAny_runValue (nc F.entry_proto_collect ?_))
 rw[nK F.plain_proto_collect _]
 show bP _ A.in1 (newList [] >>= fun l=>again (.builtin "list.__iadd__" ⟨[l,.ref S],[]⟩)) _ _ s
 refine af (gu (av ⟨va F.plain_list_iadd _,nc F.entry_list_iadd ?_⟩))
 rw[nK F.plain_list_iadd _]
 show bP _ A.in1 (qo (.ref s.heap.objs.size) (.ref S) (.ref s.heap.objs.size)) _ _ _
 have gs1:(s.heap.push { cls:=.type "list",data:=.seq ([]:List ai).toArray }).get? S=some (aY es ep t):=aI _ gs
 unfold qo
 refine af (sP (T := "set") ⟨_,gs1,rfl⟩ ?_)
 have c1:rL (.ref s.heap.objs.size) (.ref S)=false:=by simp[rL];exact qE hlt
 have c2:(nS "set" == nS "list")=false:=by decide
 have c3:(nS "set" == nS "tuple")=false:=by decide
 simp only[c1,c2,c3,vb,aT,if_false]
 refine af (R9 gs1 r hn fun I s2 it=>?_)
 obtain ⟨gw,hI,fp,W,St,hp,hIf,hfp,walk,st⟩:=it
 have gs2:s2.heap.get? S=some (aY es ep t):=gw.heap _ _ gs1
 refine af (gi (R7 ⟨_,gs2,rfl⟩ ?_))
 have o1:s2.heap.get? s.heap.objs.size=some { cls:=.type "list",data:=.seq ([]:List ai).toArray }:=gw.heap _ _ (df _ rfl)
 have hoff:s.heap.objs.size∉fp:=fun z=>by
  rcases hfp _ z with e | e
  · exact absurd e (qE hlt)
  · rw[kM] at e;exact absurd e (Nat.not_succ_le_self _)
 have hld:A.in1.handled=none:=by simp[hh]
 have go:∀(s3:ar) (c:Nat),St 0 s3→oG s s3→s3.heap.get? s.heap.objs.size=some { cls:=.type "list",dict:=none,data:=.seq #[] c,slots:=#[] } →
  uk (bt P w) A (.builtin "list.extend.loop" ⟨[.ref s.heap.objs.size,.ref I,.ref s.heap.objs.size],[]⟩) (fun r s'=>match r with | .ok (.ret v)=>bP (bt P w) A (match v with | .ref a=>load a >>= fun o=>(match o.data with | .seq items _=>pure items.toList | _=>yy "internal:collect") | _=>yy "internal:collect") Q E s' | .ok _=>False | .error e=>E e s') s3:=fun s3 c st3 gw3 o3=>by
  refine codeAny_extend_loopS (walk _ hld) hn s.heap.objs.size hoff _ es.size 0 _ #[] c (by omega) (iE _) st3 o3 (ItemsOf.nil _) fun s' acc c' hm o' hacc=>?_
  refine af (wpAny_load o' (av ?_))
  have eW:acc.toList=W:=yb fun i=>by
   have hWl:W.length=es.size:=by rw[hp.length_eq,aw,cy]
   by_cases hi:i < es.size
   · have ha:acc[i]?=some (acc[i]'(by rw[hacc.1];exact hi)):=fS _
     rw[ft,ha,hacc.2 i _ ha]
   · rw[fv (by rw[cy,hacc.1];omega),fv (by omega)]
  obtain ⟨i1,i2⟩:=Ds r hp
  refine hQ _ _ s' ⟨fun b o e=>hm.heap b o (fun z=>?_) (gw3.heap b o e),hm.gens.trans gw3.gens,hm.os.trans gw3.os⟩ (by rw[eW];exact i1) i2
  have hb:=bE e
  rcases be.mp z with z | z
  · exact absurd z (eJ hb)
  · rw[ba.mp z] at hb
    rw[kM] at hI
    exact absurd (cx hb (yT hI)) (hZ _)
 have gw0:oG s s2:=⟨fun b o e=>gw.heap b o (aI _ e),gw.gens,gw.os⟩
 refine ng (fun _=>?_) (fun _=>av ⟨va F.plain_extend_loop _,go _ 0 st gw0 o1⟩)
 refine af (i4 (af ?_))
 show bP _ _ (updateSeq s.heap.objs.size (·.push .none) >>= fun _=>updateSeq s.heap.objs.size (·.pop)) _ _ _
 refine af (AZ o1 rfl ?_)
 have o2:=kx (kA (·.push ai.none)) o1 rfl
 refine AZ (s:={ s2 with heap:=_ }) o2 rfl ?_
 have o3:=kx (kA (·.pop)) o2 rfl
 have oth:∀b o,b≠s.heap.objs.size→s2.heap.get? b=some o→((s2.heap.update s.heap.objs.size (kA (·.push ai.none))).update s.heap.objs.size (kA (·.pop))).get? b=some o:=
  fun b o hb e=>(ly _ _ (p9 hb)).trans ((ly _ _ (p9 hb)).trans e)
 refine av ⟨va F.plain_extend_loop _,go _ _ ((walk A hh).frame 0 s2 _ s2.toks st (aE _) fun b hb o e=>oth b o (fun z=>hoff (z ▸ hb)) e) ⟨fun b o e=>oth b o (eJ (bE e)) (gw0.heap b o e),gw0.gens,gw0.os⟩ o3⟩
end
section
variable {X:Cx}{pins:List (Addr×Obj)}{σ:St}{H:Hp}{s s':ar}
theorem Inv.grown (I:Inv X pins σ H s) (g:oG s s'):Inv X pins σ H s':=by
 have J:Inv X pins σ H { s with heap:=s'.heap,toks:=s'.toks }:=I.kept g.heap
 exact ⟨J.ok,g.os.trans J.os,by rw[g.gens];exact J.bare,J.base,J.loc,J.cell,J.free,J.iQ,J.pin,J.hok,J.len⟩
noncomputable def PSt (X:Cx) (e:Expr) (t:St→Hp→(List Int→Hp→Prop)→Prop):Prop:=
 ∀(pins:List (Addr×Obj)) (s:ar) (σ:St) (H:Hp) (Q:List Int→Hp→Prop),Inv X pins σ H s→t σ H Q →
  bP (bt X.prog X.w) X.A (eval e X.env) (fun v s1=>∃S ks H1,v = .ref S∧bM X.prog X.w s1.heap S ks∧pY X pins H1 S∧Inv X pins σ H1 s1∧Q ks H1) X.xe s
variable {e:Expr}{ta:TA}{p pos:Pos}
noncomputable def acg (K:ag) (ta:TA):St→Hp→(List Int→Hp→Prop)→Prop:=fun σ H Q=>ta σ H fun vs H1=>∃q ns,vs=[.ref q]∧(SqL K H1 q (ns.map V.int)∨SqT K H1 q (ns.map V.int))∧(ddl ns).length+1 < 4000∧Q (ddl ns) H1
theorem boot_set:bo "set" = some (.type "set"):=by decide +kernel
theorem zE (hc:X.calm=true) (hg:Gl X "set") (hm:X.mg "set" = none) (ha:PA X [e] ta) (hs:d4 [e] X.env=[(false,eval e X.env)]:=by rfl):PSt X (.Call (.Name "set" p) [e] [] pos) (acg X.K ta):=by
 intro pins s σ H Q I h
 refine Call_ (nA I hg hm boot_set (i9 (thn (ha pos pins s σ H _ I h) fun us s1 aA=>?_) hs rfl))
 obtain ⟨vs,H1,I1,r1,q1⟩:=aA
 obtain ⟨l,ns,rfl,hq,hb,q⟩:=q1
 obtain ⟨u,rfl,rx⟩:=vals1 r1
 cases rx
 have fin:∀(h':Heap) (tk:Nat),bM X.prog X.w h' s1.heap.objs.size (ddl ns)→(∀b o,s1.heap.get? b=some o→h'.get? b=some o)→∃S ks H2,dQ s1.heap.objs.size = .ref S∧bM X.prog X.w h' S ks∧pY X pins H2 S∧Inv X pins σ H2 { s1 with heap:=h',toks:=tk }∧Q ks H2:=fun h' tk x k=>
  ⟨_,_,H1,rfl,x,I1.xZ (aE _) (I1.hok.fresh (aE _)),I1.kept k,q⟩
 rcases hq with hq | hq
 · obtain ⟨its,r',pl,hz⟩:=I1.list hq
   exact FN (I1.ok.hd hc) (pC.list pl.isList (by simpa using intsAre_of r')) hb fun h' tk x k=>fin h' tk x k
 · obtain ⟨its,r',pl,hz⟩:=I1.tuple hq
   exact FN (I1.ok.hd hc) (pC.tuple (show s1.heap.IsTuple l its.toArray from pl) (by simpa using intsAre_of r')) hb fun h' tk x k=>fin h' tk x k
noncomputable def Z4 (t:St→Hp→(List Int→Hp→Prop)→Prop):TE:=fun σ H Q=>t σ H fun ks H1=>ks.length < 3000∧∀l,H1 l=none→Q (.ref l) (upd H1 l (.lst ((L3.srt ks).map V.int)))
theorem boot_sorted:bo "sorted" = some (.builtin "sorted"):=by decide +kernel
theorem Vz {S:Addr}{ks:List Int}{Q:VK} (hc:X.calm=true) (I:Inv X pins σ H s) (x:bM X.prog X.w s.heap S ks) (h64:ks.length < 3000) (q:∀l,H l=none→Q (.ref l) (upd H l (.lst ((L3.srt ks).map V.int)))) :
 bP (bt X.prog X.w) X.A (call (.builtin "sorted") [.ref S]) (fun v s1=>∃y H1,Inv X pins σ H1 s1∧RelV y v∧Q y H1) X.xe s:=by
 refine (rg kind_sorted plain_sorted entry_sorted (args_sorted1 _) ?_);unfold Builtin.«sorted»
 refine af (m:=checkCount "sorted" 1 1 _) (av (af (Hi (A:=X.A.in1) (by simp[I.ok.hd hc]) x (by omega) fun vs ns s2 gw hI hp=>?_)))
 have hl:vs.length=ks.length:=by rw[vI hI,hp.length_eq]
 have I1:=I.grown gw
 have hoL:(s2.heap.push (mI "list" vs.toArray 0)).get? s2.heap.objs.size=some (mI "list" vs.toArray 0):=df _ rfl
 refine af (zk (af (gi (gp slot_list_sort ⟨_,hoL,rfl⟩ entry_list_sort (vm hoL hI (fF (cx (show _ < 3000 by omega) (by decide))) fun out ns' a1 a2 a3=>⟨_,rfl,av ⟨_,rfl,?_⟩⟩) (args_list_sort _)))) (by rw[hl];exact fF (oP h64 (by decide))))
 have e:ns'=L3.srt ks:=L3.gR ((a2.trans hp).trans (L3.cB ks).symm) a3 (L3.fL ks)
 subst e
 obtain ⟨c,hc'⟩:=sortedHeap_at (out:=out) hoL
 refine ⟨.ref s2.heap.objs.size,_,I1.laid (a:=s2.heap.objs.size) (o:=.lst ((L3.srt ks).map V.int)) (h':=sortedHeap (s2.heap.push (mI "list" vs.toArray 0)) s2.heap.objs.size vs out) (t':=s2.toks) (fun b o e=>?_) (aE _) ?_,rfl,q _ (I1.hok.fresh (aE _))⟩
 · have hb:b < s2.heap.objs.size:=bE e
   rw[sortedHeap_old (eJ hb) (by rw[size_push'];exact qa hb)]
   exact aI _ e
 · refine ⟨?_,out.toList,c,L3.lR a1,by simpa[mI] using hc'⟩
   rw[aw,(L3.cB ks).length_eq]
   exact fF (oP h64 (by decide))
theorem Nu {t:St→Hp→(List Int→Hp→Prop)→Prop} (hc:X.calm=true) (hg:Gl X "sorted") (hm:X.mg "sorted" = none) (hst:PSt X e t) (hs:d4 [e] X.env=[(false,eval e X.env)]:=by rfl):PE X (.Call (.Name "sorted" p) [e] [] pos) (Z4 t):=by
 intro pins s σ H Q I h
 refine mB (nA I hg hm boot_sorted ?_)
 refine t9 ?_ hs rfl
 rw[hs]
 show bP _ _ (spliced ((false,eval e X.env)::oC pos [])) _ _ s
 refine we (thn (hst pins s σ H _ I h) fun v s1 ⟨S,ks,H1,e1,x,_,I1,h64,q⟩=>Calls.spliced_nil ?_)
 subst e1
 exact Vz hc I1 x h64 q
end
end L2
namespace L3
open PySem PySem.Spec PyProof.Rows L2
noncomputable def jf:ae→Option (List Int)
 | .list es=>intsOf es
 | .tuple es=>intsOf es
 | _=>none
noncomputable def jG:List ae→Res ae
 | [d]=>match jf d with
  | some ns=>gd ((ddl ns).length < 3000) (.ok (.list ((srt (ddl ns)).map ae.int)))
  | none=>.bad
 | _=>.bad
section
variable {X:Cx}{O:List Fl}{m:ME}{e:Expr}{p p2 pos pos2:Pos}
theorem sW {K:ag}{A H:Hp}{d:ae}{v:V}{ns:List Int} (h:jf d=some ns) (ha:aH A H) (p1:Pk K A H d v):∃q,v = .ref q∧(SqL K H q (ns.map V.int)∨SqT K H q (ns.map V.int)):=by
 cases d with
 | list es=>
  have hn:intsOf es=some ns:=h
  have:=nC hn
  subst this
  obtain ⟨l,vs,rfl,h1,q1⟩:=p1.list ha
  have ev:=q1.CT
  subst ev
  exact ⟨l,rfl,.inl h1⟩
 | tuple es=>
  have hn:intsOf es=some ns:=h
  have:=nC hn
  subst this
  obtain ⟨l,vs,rfl,h2,h1⟩:=p1.rY (H:=H)
  have ev:=h2.CT
  subst ev
  exact ⟨l,rfl,.inr (h1 H ha)⟩
 | _=>cases h
theorem u6 (hc:X.calm=true) (hg:Gl X "sorted") (hm:X.mg "sorted" = none) (hg2:Gl X "set") (hm2:X.mg "set" = none) (ha:QE X e (tP X.K O m)) (hs:noStar e=true:=by rfl) :
 QE X (.Call (.Name "sorted" p) [.Call (.Name "set" p2) [e] [] pos2] [] pos) (tF X.K O (eFn jG [m])):=
 QE.imp (Nu hc hg hm (zE hc hg2 hm2 (cV ha.h fX (bO hs)) (bO hs))) fun σ H Q aA=>by
  obtain ⟨A,B,Γ,d,r,em,k⟩:=aA
  obtain ⟨ds,e1,em⟩:=Res.aF em
  obtain ⟨d1,e2,e1⟩:=Res.aF e1
  obtain ⟨_,e3,e1⟩:=Res.aF e1
  cases e3
  cases e1
  have em:(match jf d1 with | some ns=>gd ((ddl ns).length < 3000) (.ok (.list ((srt (ddl ns)).map ae.int))) | none=>.bad)=Res.ok d:=em
  cases hn:jf d1 with
  | none=>rw[hn] at em;cases em
  | some ns=>
   rw[hn] at em
   obtain ⟨hz,em⟩:=cN em
   cases em
   refine ⟨A,B,Γ,d1,r,e2,fun v A1 H1 g1 p1=>?_⟩
   obtain ⟨q,rfl,hq⟩:=sW hn g1.ah p1
   refine ⟨q,ns,rfl,hq,by omega,hz,fun l hl=>k _ A1 _ (g1.trans (aP.lay g1.ah hl)) ⟨l,_,rfl,g1.hh.free hl,bK,g1.ah.free hl,.inl ⟨_,_,rfl,rfl,aB.ints⟩⟩⟩
end
end L3
namespace L2
open PySem PySem.Spec PyProof.Rows
section
variable {P:cw}{w:eI}{A:eo}{E:ai→ar→Prop}{s:ar}
theorem bM.setOf {h:Heap}{a:Addr}{ks:List Int} (x:bM P w h a ks) (hb:ks.length < 4000):h.SetOf (og P w) a (fun k=>decide (k∈ks)) ks.length:=by
 obtain ⟨es,ep,t,g,r⟩:=x
 exact ⟨_,es,ep,t,g,⟨rfl,rfl,rfl⟩,rfl,r.el,fun k=>by rw[decide_eq_true_iff];exact r.mem,by unfold scanBound;rw[r.size];omega,r.fit,r.size⟩
theorem ym {Q:ai→ar→Prop} (h:Q (.ref s.heap.objs.size) { s with heap:=s.heap.push (aY #[] 0 (.fresh 0 0 (cQ w))) }):bP (bt P w) A (newSet (.type "set")) Q E s:=by
 unfold newSet
 refine af (texts_any ?_)
 simp only[newObj]
 exact af (wpAny_alloc (av h))
theorem Fp {a:Addr}{es:Array (Int×ai)}{ep:Nat}{t:dc}{ks:List Int}{Q:Array (Int×ai)→ar→Prop} (g:s.heap.get? a=some (aY es ep t)) (r:dO P w es t ks)
 (hQ:∀W s',W.toList.Perm es.toList→s'.heap=s.heap→s'.gens=s.gens→s'.os=s.os→s'.toks=s.toks→Q W s'):bP (bt P w) A (setWalk a) Q E s:=by
 unfold setWalk
 refine af (fi g rfl r.fit ?_)
 dsimp only
 refine af (texts_any ?_)
 by_cases hw:w.params.followText "set-order" = true
 · rw[show (bt P w).w.params.followText "set-order" = true from hw]
   simp only[if_true]
   exact af (uj (av (hQ _ s (uh _ es) rfl rfl rfl rfl)))
 · have hw':w.params.followText "set-order" = false:=by simpa using hw
   have Sv:t.led=true:=by rw[r.tab.led];unfold cQ;rw[hw'];rfl
   rw[show (bt P w).w.params.followText "set-order" = false from hw']
   simp only[aT,if_false]
   show bP _ _ (if (!t.plain&&decide (es.size > 1))=true then _ else _) _ _ _
   refine ng (fun _=>?_) (fun _=>?_)
   · exact af (xY es.size _ _ (by rw[cy]) fun ys s' hp h1 h2 h3 h4=>av (hQ _ s' hp h1 h2 h3 h4))
   · refine af ?_
     show bP _ _ (if (!t.led&&decide (es.size > 1))=true then _ else _) _ _ _
     rw[Sv]
     simp only[ia,kK,aT,if_false]
     exact av (av (hQ _ s (.refl _) rfl rfl rfl rfl))
theorem rE {α β:Type}{M:vw}{f:α→β→Sem (ForInStep β)}{Q:β→ar→Prop}:∀(l:List α) (I:Nat→β→ar→Prop) (b:β) (s:ar),I 0 b s →
 (∀(i:Nat) (x:α) (b:β) (s:ar),l[i]?=some x→I i b s→bP M A (f x b) (fun r s'=>∃b',r = .yield b'∧I (i+1) b' s') E s)→(∀b s,I l.length b s→Q b s)→bP M A (forIn l b f) Q E s
 | [],I,b,s,h0,_,hQ=>by
  rw[List.forIn_nil]
  exact av (hQ b s h0)
 | x::l,I,b,s,h0,hs,hQ=>by
  rw[rX]
  refine af (gc (hs 0 x b s rfl h0) (fun r s' aA=>?_) fun _ _ z=>z)
  obtain ⟨b',e,h1⟩:=aA
  subst e
  exact rE l (fun i=>I (i+1)) b' s' h1 (fun i y b s hy hi=>hs (i+1) y b s (by simpa using hy) hi) fun b s h=>hQ b s (by rw[bX];exact h)
theorem Bd {as:List Addr}{Q:Bool→ar→Prop} (h:∀a∈as,∃ks,bM P w s.heap a ks) (hQ:Q true s):bP (bt P w) A (setsQuiet as) Q E s:=by
 unfold setsQuiet
 refine af (rE as (fun _ b s'=>b=(none,())∧s'=s) _ _ ⟨rfl,rfl⟩ (fun i a b s' ha hi=>?_) fun b s' ⟨e1,e2⟩=>?_)
 · obtain ⟨rfl,rfl⟩:=hi
   obtain ⟨ks,es,ep,t,g,r⟩:=h a (fE ha)
   refine af (kg g rfl r.fit (af ?_))
   rw[← xA]
   refine rE es.toList (fun _ b s2=>b=(none,())∧s2=s') _ _ ⟨rfl,rfl⟩ (fun j x b s2 hx hj=>?_) fun b s2 ⟨e1,e2⟩=>?_
   · obtain ⟨rfl,rfl⟩:=hj
     obtain ⟨k,tk,rfl⟩:=r.shape (fE hx)
     exact av ⟨_,rfl,rfl,rfl⟩
   · subst e1 e2
     exact av ⟨_,rfl,rfl,rfl⟩
 · subst e1 e2
   exact av hQ
theorem JQ {a f:Addr}{es:Array (Int×ai)}{ep:Nat}{t:dc}{ks kf:List Int}{others:List Addr}{filled:Option Addr}{Q:Array (Int×ai)→ar→Prop} (g:s.heap.get? a=some (aY es ep t)) (r:dO P w es t ks) (ho:∀b∈others,∃ks,bM P w s.heap b ks)
 (hf:filled=some f∨filled=none) (xf:bM P w s.heap f kf) (zf:kf.length < 4000)
 (hQ:∀W s',W.toList.Perm es.toList→fT f s.heap s'.heap→bM P w s'.heap f kf→s'.gens=s.gens→s'.os=s.os→s'.toks=s.toks→Q W s'):bP (bt P w) A (zt a others filled) Q E s:=by
 have by_:∀{Q':Array (Int×ai)→ar→Prop},(∀W s',W.toList.Perm es.toList→fT f s.heap s'.heap→bM P w s'.heap f kf→s'.gens=s.gens→s'.os=s.os→s'.toks=s.toks→Q' W s')→bP (bt P w) A (setWalk a) Q' E s:=fun hq=>Fp g r fun W s' hp h1 h2 h3 h4=>hq W s' hp (by rw[h1];exact fT.refl _ _) (by rw[h1];exact xf) h2 h3 h4
 unfold zt
 refine af (fi g rfl r.fit ?_)
 dsimp only
 refine af (texts_any ?_)
 refine ng (fun _=>by_ hQ) (fun _=>?_)
 refine af (Bd (fun b hb=>?_) ?_)
 · rcases be.mp hb with z | z
   · exact ⟨ks,by rw[z];exact ⟨es,ep,t,g,r⟩⟩
   · exact ho b z
 simp only[ia,aT,if_false]
 refine af (i4 ?_)
 rcases hf with rfl | rfl
 · dsimp only
   obtain ⟨ef,pf,tf,gf,rf⟩:=xf
   refine af (fi gf rfl rf.fit ?_)
   dsimp only
   refine ng (fun _=>?_) (fun _=>av (hQ _ s (.refl _) (fT.refl _ _) ⟨ef,pf,tf,gf,rf⟩ rfl rfl rfl))
   refine af (nE gf rfl ?_ (kW (by rw[rf.size];exact zf)))
   refine av (hQ _ _ (.refl _) (gX ..) ⟨_,_,_,o5 gf,rf.el,⟨rf.tab.up,?_⟩,rf.fit,rf.pm⟩ rfl rfl rfl)
   show (tf.led&&t.led)=_
   rw[rf.tab.led,r.tab.led,BM]
 · exact av (hQ _ s (.refl _) (fT.refl _ _) xf rfl rfl rfl)
theorem qU {S:Addr}{Q:Bool→ar→Prop}{M:vw} (hT:s.TypeIs (.ref S) "set") (h:Q true s):bP M A (Builtin.Frozenset.isAnySet (.ref S)) Q E s:=by
 unfold Builtin.Frozenset.isAnySet
 refine af (ox hT wb ?_)
 simp only[toBool,if_true]
 exact av h
theorem Eh {S:Addr}{Q:ai→ar→Prop}{M:vw} (hT:s.TypeIs (.ref S) "set") (h:Q (.type "set") s):bP M A (Builtin.Frozenset.baseOf S) Q E s:=by
 unfold Builtin.Frozenset.baseOf
 exact af (ox hT wb (av h))
theorem mJ {S:Addr}{ks:List Int}{Q:Nat→ar→Prop} (x:bM P w s.heap S ks) (h:Q ks.length s):bP (bt P w) A (rq S) Q E s:=by
 obtain ⟨es,ep,t,g,r⟩:=x
 unfold rq
 exact af (kg g rfl r.fit (av (by rw[r.size];exact h)))
noncomputable def bQ (ks ko:List Int):List Int:=ks.filter fun k=>!decide (k∈ko)
theorem Qf {S O:Addr}{ks ko:List Int}{nm:String}{Q:ai→ar→Prop} (x:bM P w s.heap S ks) (xo:bM P w s.heap O ko) (hn:ks.Nodup) (hb:ks.length < 3000) (hbo:ko.length < 3000) (hne:S≠O) (Ko:ks.length / 4≤ko.length)
 (hQ:∀s' kr,oG s s'→bM P w s'.heap s.heap.objs.size kr→kr.Perm (bQ ks ko)→Q (.ref s.heap.objs.size) s'):bP (bt P w) A (lj nm S (.ref O)) Q E s:=by
 unfold lj
 dsimp only
 refine af (qU xo.typeIs ?_)
 simp only[ia,aT,if_false,kK,if_true]
 refine af (ib (a:=O) rfl (af (mJ xo (af (mJ x ?_)))))
 rw[if_neg (by omega)]
 refine af (Eh x.typeIs (af (ym ?_)))
 refine af (ib (a:=s.heap.objs.size) rfl ?_)
 obtain ⟨es,ep,t,g,r⟩:=id x
 have hS:S < s.heap.objs.size:=bE g
 have hO:O < s.heap.objs.size:=by obtain ⟨_,_,_,go,_⟩:=id xo;exact bE go
 have g1:(s.heap.push (aY #[] 0 (.fresh 0 0 (cQ w)))).get? S=some (aY es ep t):=aI _ g
 have xo1:bM P w (s.heap.push (aY #[] 0 (.fresh 0 0 (cQ w)))) O ko:=xo.at fun o e=>aI _ e
 have xr1:bM P w (s.heap.push (aY #[] 0 (.fresh 0 0 (cQ w)))) s.heap.objs.size []:=⟨_,_,_,df _ rfl,Bk⟩
 refine af (nL (s:={ s with heap:=_ }) g1 rfl r.fit ?_)
 refine af (gi (af (JQ (s:={ s with heap:=_ }) g1 r (fun b hb=>?_) (.inl rfl) xr1 (by simp) fun W s1 hp sb xr h2 h3 h4=>?_)))
 · rcases be.mp hb with z | z
   · exact ⟨ko,by rw[z];exact xo1⟩
   · exact ⟨[],by rw[ba.mp z];exact xr1⟩
 have hW:∀e∈W.toList,∃k tk,e=(rS k,.int k tk):=fun e he=>r.shape (hp.mem_iff.mp he)
 have hWp:(W.toList.map fun e=>fV e.2).Perm ks:=(hp.map _).trans r.pm
 have hWn:(W.toList.map fun e=>fV e.2).Nodup:=hWp.nodup_iff.mpr hn
 have hWl:W.toList.length=ks.length:=by have:=hWp.length_eq;rw[aw] at this;exact this
 refine af ?_
 rw[← xA]
 refine rE W.toList (fun i _ s2=>fT s.heap.objs.size (s.heap.push (aY #[] 0 (.fresh 0 0 (cQ w)))) s2.heap∧bM P w s2.heap s.heap.objs.size (bQ ((W.toList.map fun e=>fV e.2).take i) ko)∧s2.gens=s.gens∧s2.os=s.os) _ _ ⟨sb,xr,h2,h3⟩ (fun i e b s2 he hi=>?_) fun b s2 ⟨sb2,xr2,q2,q3⟩=>?_
 · obtain ⟨sb2,xr2,q2,q3⟩:=hi
   obtain ⟨k,tk,rfl⟩:=hW e (fE he)
   have xo2:bM P w s2.heap O ko:=xo1.at fun o e=>(sb2.2 O (eJ hO)).trans e
   have g2:s2.heap.get? S=some (aY es ep t):=(sb2.2 S (eJ hS)).trans g1
   have hil:i < W.toList.length:=(de.mp he).1
   have et:bQ ((W.toList.map fun e=>fV e.2).take (i+1)) ko=bQ ((W.toList.map fun e=>fV e.2).take i) ko++(if k∈ko then [] else [k]):=by
    unfold bQ
    rw[kR,cn,he,sd]
    congr 1
    show List.filter _ [k]=_
    by_cases hk:k∈ko
    · rw[if_pos hk,oz (by simp[hk])];rfl
    · rw[if_neg hk,sC (by simp[hk])];rfl
   have WL:∀(s3:ar) {R:ForInStep PUnit→ar→Prop},s3.heap.get? S=some (aY es ep t)→R (.yield PUnit.unit) s3→bP (bt P w) A (qq nm S ep >>= fun _=>pure (.yield PUnit.unit)) R E s3:=fun s3 R g3 hR=>by
    unfold qq
    refine af (af (nL g3 rfl r.fit ?_))
    simp only[bne_self_eq_false,aT,if_false]
    exact av (av hR)
   refine af (gi (af (wpAny_setFind_of (knd:=og P w) (k:=k) (xl ..) rfl (xo2.setOf (by omega)) fun rr hrr=>?_)))
   refine af (av ?_)
   by_cases hk:k∈ko
   · have:rr.isSome=true:=by rw[hrr];exact decide_eq_true hk
     rw[this]
     simp only[ia,aT,if_false]
     refine av (WL s2 g2 ⟨_,rfl,sb2,?_,q2,q3⟩)
     rw[et,if_pos hk,fq];exact xr2
   · have:rr.isSome=false:=by rw[hrr];exact decide_eq_false hk
     rw[this]
     simp only[Bn,if_true]
     have hnew:k∉bQ ((W.toList.map fun e=>fV e.2).take i) ko:=fun hm=>by
      have hm:=(gE.mp hm).1
      obtain ⟨j,hj,ej⟩:=eS.mp hm
      rw[eA,aw] at hj
      have e1:(W.toList.map fun e=>fV e.2)[i]'(by rw[aw];exact hil)=k:=by
       have:=cn (f:=fun e:Int×ai=>fV e.2) (l:=W.toList) (i:=i)
       rw[he,aS (by rw[aw];exact hil)] at this
       exact Option.some.inj this
      rw[qf] at ej
      have:=(fR.mp hWn) j i (by rw[aw];omega) (by rw[aw];exact hil) (by omega)
      rw[ej,e1] at this
      exact this rfl
     have hle:(bQ ((W.toList.map fun e=>fV e.2).take i) ko).length≤ks.length:=by
      refine eK (t4 _ _) ?_
      rw[eA,aw,hWl];omega
     refine af (add_int xr2 (by omega) fun h' sb3 x3=>av ?_)
     rw[if_neg hnew] at x3
     refine WL _ ((sb3.2 S (eJ hS)).trans g2) ⟨_,rfl,sb2.trans sb3,?_,q2,q3⟩
     rw[et,if_neg hk];exact x3
 · refine av (av (hQ s2 _ ⟨fun b o e=>(sb2.2 b (eJ (bE e))).trans (aI _ e),q2,q3⟩ xr2 ?_))
   rw[fz (by rw[aw];exact aE _)]
   exact hWp.filter _
end
theorem Fq {n:Nat}:∀fuel size,n < size*2^fuel→n < iO n fuel size∧iO n fuel size≤max size (2*n)
 | 0,size,h=>by unfold iO;omega
 | fuel+1,size,h=>by
  unfold iO
  by_cases hc:size≤n
  · rw[if_pos hc]
    have:=Fq fuel (size*2) (by rw[iF] at h;rw[pS,oQ 2];exact h)
    omega
  · rw[if_neg hc];omega
theorem Qn {n:Nat} (h:n < 100000):n < i5 n∧i5 n≤max 8 (2*n):=Fq 64 8 (by omega)
theorem yH {n:Nat}:∀fuel k,∃k',iO n fuel (2^k)=2^k'
 | 0,k=>⟨k,by unfold iO;rfl⟩
 | fuel+1,k=>by
  unfold iO
  by_cases hc:2^k≤n
  · rw[if_pos hc,← iF];exact yH fuel (k+1)
  · rw[if_neg hc];exact ⟨k,rfl⟩
theorem Nq (n:Nat):∃k,i5 n=2^k:=yH 64 3
section
variable {P:cw}{w:eI}{A:eo}{E:ai→ar→Prop}{s:ar}
structure HS (P:cw) (w:eI) (es:Array (Int×ai)) (t:dc) (ks:List Int) (d m:Nat):Prop where
 rec_:dO P w es t ks
 few:t.dummies.size≤d
 room:m≤t.mask
noncomputable def pQ (P:cw) (w:eI) (h:Heap) (a:Addr) (ks:List Int) (d m:Nat):Prop:=∃es ep t,h.get? a=some (aY es ep t)∧HS P w es t ks d m
theorem pQ.setAt {h:Heap}{a:Addr}{ks:List Int}{d m:Nat} (x:pQ P w h a ks d m):bM P w h a ks:=by
 obtain ⟨es,ep,t,g,r⟩:=x
 exact ⟨es,ep,t,g,r.rec_⟩
theorem Oc (mask finger moves:Nat) (led plain:Bool):dc.laid mask finger moves led plain #[]=some ({ mask,place:=#[],dummies:=#[],finger,led,moves,plain },#[]):=by
 have h1:hJ mask #[]=some (AX (mask+1) none):=rfl
 have hz:((cS (mask+1)).filterMap fun j=>((AX (mask+1) (none:Option Nat)).getD j none).map (j,·))=[]:=by
  rw[List.filterMap_eq_nil_iff]
  intro j hj
  rw[fm,rl,if_pos (d5.mp hj)];rfl
 unfold dc.laid
 rw[h1]
 show some (_,_)=_
 rw[hz]
 rfl
theorem PQ {S:Addr}{ks:List Int}{Q:ai→ar→Prop} (x:bM P w s.heap S ks) (hn:ks.Nodup) (h5:5≤ks.length) (hb:ks.length < 3000)
 (hQ:∀s',oG s s'→pQ P w s'.heap s.heap.objs.size ks 0 (2*ks.length)→s'.heap.objs.size=s.heap.objs.size+1→Q (.ref s.heap.objs.size) s'):bP (bt P w) A (Builtin.Frozenset.copyOf S) Q E s:=by
 have hT:=x.typeIs
 obtain ⟨es,ep,t,g,r⟩:=x
 have hS:S < s.heap.objs.size:=bE g
 have sz:=r.size
 unfold Builtin.Frozenset.copyOf
 refine af (Eh hT (af (ym ?_)))
 refine af (ib (a:=s.heap.objs.size) rfl (af ?_))
 have g1:(s.heap.push (aY #[] 0 (.fresh 0 0 (cQ w)))).get? S=some (aY es ep t):=aI _ g
 have gr:(s.heap.push (aY #[] 0 (.fresh 0 0 (cQ w)))).get? s.heap.objs.size=some (aY #[] 0 (.fresh 0 0 (cQ w))):=df _ rfl
 unfold setMerge
 rw[show (s.heap.objs.size == S)=false from beq_false_of_ne (qE hS)]
 simp only[aT,if_false]
 refine af (fi (s:={ s with heap:=_ }) g1 rfl r.fit ?_)
 dsimp only
 rw[show es.isEmpty=false from by rw[Array.isEmpty_eq_false_iff];intro z;rw[z] at sz;simp at sz;omega]
 simp only[aT,if_false]
 have hab:=Qn (n:=es.size*2) (by omega)
 refine af ?_
 unfold setRoomFor
 refine af (fi (s:={ s with heap:=_ }) gr rfl rfl ?_)
 dsimp only
 rw[show (dc.fresh 0 0 (cQ w)).roomFor es.size=some (es.size*2) from by
  unfold SetTable.roomFor pT dc.fresh
  simp only[ck,lh,qV]
  rw[if_pos (by omega)]]
 dsimp only
 unfold setRelay
 refine af (fi (s:={ s with heap:=_ }) gr rfl rfl ?_)
 dsimp only
 rw[if_neg (by
  have:bp=bp:=rfl
  have h1:12000≤bp:=by decide
  omega)]
 refine af ?_
 rw[show (dc.fresh 0 0 (cQ w)).relaid (Array.map (fun x=>x.fst) (#[]:Array (Int×ai))) (es.size*2)=some ({ mask:=i5 (es.size*2) - 1,place:=#[],dummies:=#[],finger:=0,led:=cQ w,moves:=(dc.fresh 0 0 (cQ w)).movedTo (i5 (es.size*2) - 1),plain:=true },#[]) from by unfold SetTable.relaid dc.fresh;rw[Array.map_empty];exact Oc ..]
 generalize hm0:(dc.fresh 0 0 (cQ w)).movedTo (i5 (es.size*2) - 1)=mv
 refine av (nE (s:={ s with heap:=_ }) (es':=#[]) (t':={ mask:=i5 (es.size*2) - 1,place:=#[],dummies:=#[],finger:=0,led:=cQ w,moves:=mv,plain:=true }) gr rfl ?_ (iE _))
 generalize hN:i5 (es.size*2) - 1=mask
 have g2:=o5 (es':=#[]) (t':={ mask,place:=#[],dummies:=#[],finger:=0,led:=cQ w,moves:=mv,plain:=true }) gr
 have aa3:ro { mask,place:=#[],dummies:=#[],finger:=0,led:=cQ w,moves:=mv,plain:=true } 0=true:=by simp[ro,pT]
 refine af (fi (s:={ s with heap:=_ }) g2 rfl aa3 ?_)
 dsimp only
 have oth:∀(es2:Array (Int×ai)) (t2:dc) (b:Addr) (o:Obj),s.heap.get? b=some o→(((s.heap.push (aY #[] 0 (.fresh 0 0 (cQ w)))).update s.heap.objs.size (r9 #[] { mask,place:=#[],dummies:=#[],finger:=0,led:=cQ w,moves:=mv,plain:=true })).update s.heap.objs.size (r9 es2 t2)).get? b=some o:=fun es2 t2 b o e=>
  (ly _ _ (qE (bE e))).trans ((ly _ _ (qE (bE e))).trans (aI _ e))
 have hz2:∀(es2:Array (Int×ai)) (t2:dc),(((s.heap.push (aY #[] 0 (.fresh 0 0 (cQ w)))).update s.heap.objs.size (r9 #[] { mask,place:=#[],dummies:=#[],finger:=0,led:=cQ w,moves:=mv,plain:=true })).update s.heap.objs.size (r9 es2 t2)).objs.size=s.heap.objs.size+1:=fun es2 t2=>by
  rw[Au,Au,kM]
 have fin:∀(es2:Array (Int×ai)) (t2:dc),HS P w es2 t2 ks 0 (2*ks.length)→bP (bt P w) A (storeSet s.heap.objs.size es2 t2) (fun a s'=>bP (bt P w) A (pure (dQ s.heap.objs.size)) Q E s') E { s with heap:=(s.heap.push (aY #[] 0 (.fresh 0 0 (cQ w)))).update s.heap.objs.size (r9 #[] { mask,place:=#[],dummies:=#[],finger:=0,led:=cQ w,moves:=mv,plain:=true }) }:=fun es2 t2 rr=>
  nE (s:={ s with heap:=_ }) g2 rfl (av (hQ _ ⟨fun b o e=>oth es2 t2 b o e,rfl,rfl⟩ ⟨_,_,_,o5 g2,rr⟩ (hz2 es2 t2))) (kW (by rw[rr.rec_.size];omega))
 by_cases hroad:(mask == t.mask&&t.dummies.isEmpty)=true
 · rw[show zv { mask,place:=#[],dummies:=#[],finger:=0,led:=cQ w,moves:=mv,plain:=true } t = .slotForSlot from by
    unfold zv
    rw[if_neg (by simp[pT]),if_pos hroad]]
   dsimp only
   simp only[cc,beq_iff_eq] at hroad
   refine fin es _ ⟨⟨r.el,⟨r.tab.up,?_⟩,r.fit,r.pm⟩,?_,?_⟩
   · show (cQ w&&t.led)=_
     rw[r.tab.led,BM]
   · have:t.dummies=#[]:=by simpa using hroad.2
     show t.dummies.size≤0
     rw[this];exact aE _
   · show 2*ks.length≤t.mask
     omega
 · rw[show zv { mask,place:=#[],dummies:=#[],finger:=0,led:=cQ w,moves:=mv,plain:=true } t = .clean from by
    unfold zv
    rw[if_neg (by simp[pT]),if_neg hroad]]
   dsimp only
   obtain ⟨p2,hpw⟩:=Nq (es.size*2)
   obtain ⟨t2,o,hl,lk,tok⟩:=Q5 (mask:=mask) (p2:=p2) (finger:=0) (moves:=mv) (led:=cQ w&&t.led) (plain:=true&&t.plain) (by rw[← hpw];omega) (hs:=es.map (·.1)) (by rw[xb];omega)
   have hm2:=lk.mask
   have hd2:=lk.nd
   have hp2:t2.place.size=es.size:=by rw[lk.size,xb]
   have pp:(o.filterMap (es[·]?)).toList.Perm es.toList:=Pg (by have:=lk.ord;rw[xb] at this;exact this)
   refine af ?_
   rw[hl]
   have psz:(o.filterMap (es[·]?)).size=es.size:=by rw[← cy,pp.length_eq,cy]
   show bP _ _ (if ((o.filterMap (es[·]?)).size != es.size)=true then _ else _) _ _ _
   rw[psz]
   simp only[bne_self_eq_false,aT,if_false]
   refine av (fin _ _ ⟨r.perm pp ?_ ?_,by rw[hd2];exact aE _,by rw[hm2];omega⟩)
   · rw[r.tab.led,BM] at tok;exact tok
   · rw[psz]
     simp only[ro,pT,hp2,hd2,hm2,cc,beq_iff_eq,decide_eq_true_eq,true_and,ck,lh]
     omega
end
section
variable {P:cw}{w:eI}{A:eo}{E:ai→ar→Prop}{s:ar}
theorem toList_erase {α:Type} (xs:Array α) (i:Nat):(kD xs i).toList=xs.toList.take i++xs.toList.drop (i+1):=by
 unfold kD
 simp[xD,fz]
theorem zg {α:Type}{xs:Array α}{i:Nat} (h:i < xs.size):(kD xs i).size+1=xs.size:=by
 rw[← cy,toList_erase,ay,eA,mi,cy]
 omega
theorem Gs {α:Type} (xs:Array α) (p:Nat) (x:α):(qh xs p x).size=xs.size+1:=by
 have:=(SetTable.insertAt_perm xs p x).length_eq
 rw[cy,cy,Array.size_push] at this
 exact this
theorem Hk {a:Addr}{ks:List Int}{d m:Nat}{k:Int}{tk:Tok}{Q:Bool→ar→Prop} (x:pQ P w s.heap a ks d m) (hn:ks.Nodup) (hb:ks.length < 3000)
 (h:∀h',fT a s.heap h'→pQ P w h' a (bQ ks [k]) (d+1) m→∀b,Q b { s with heap:=h' }):bP (bt P w) A (setDiscardHashed a (.int k tk) (rS k)) Q E s:=by
 obtain ⟨es,ep,t,g,rr⟩:=x
 have r:=rr.rec_
 have sz:=r.size
 have fd:=r.found k
 have key:(og P w).is k (.int k tk)=true:=xl _ _ _ _
 have bs:byScan (.int k tk) es=true:=byScan_of (knd:=og P w) rfl (by unfold scanBound;omega) r.el
 unfold setDiscardHashed
 refine af ?_
 unfold setFind
 unfold setFindIn
 refine af (fi g rfl r.fit ?_)
 dsimp only
 rw[bs]
 simp only[↓reduceIte]
 refine af (i4 (af (wpAny_setScan_of (knd:=og P w) key g rfl r.fit r.el ?_)))
 cases hq:es.toList.findIdx? fun e=>(og P w).is k e.2 with
 | none=>
  rw[hq] at fd
  have hk:k∉ks:=of_decide_eq_false fd.symm
  dsimp only
  refine av (av (h s.heap (fT.refl _ _) ?_ _))
  have e:bQ ks [k]=ks:=oi.mpr fun y hy=>by
   have:y≠k:=fun z=>hk (z ▸ hy)
   simp[this]
  rw[e]
  exact ⟨es,ep,t,g,r,Nat.le_succ_of_le rr.few,rr.room⟩
 | some j=>
  obtain ⟨hj,hp,_⟩:=sF.mp hq
  have hj':j < es.size:=by simpa using hj
  dsimp only
  refine av ?_
  rw[qV]
  refine af (fi g rfl r.fit ?_)
  dsimp only
  have es1:=zg hj'
  refine af (nE g rfl ?_ (kW (by omega)))
  refine af (wpAny_point (av (h _ (gX ..) ⟨_,_,_,o5 g,?_⟩ _)))
  have hps:t.place.size=es.size∧t.fill≤t.mask:=by
   have:=r.fit
   simp only[ro,cc,beq_iff_eq,decide_eq_true_eq] at this
   exact this
  have hpj:t.place[j]?=some (t.place[j]'(by omega)):=fS _
  have ed:t.drop j={ t with place:=kD t.place j,dummies:=qh t.dummies (eD t.dummies (t.place[j]'(by omega))) (t.place[j]'(by omega)) }:=by
   unfold dc.drop
   rw[hpj]
  have pe:=zg (xs:=t.place) (i:=j) (by omega)
  have di:=Gs t.dummies (eD t.dummies (t.place[j]'(by omega))) (t.place[j]'(by omega))
  have hsub:(kD es j).toList.Sublist es.toList:=by
   rw[toList_erase]
   have e0:es.toList.take j++es.toList.drop j=es.toList:=fw j _
   exact (tj.append (tj.refl _) (wa es.toList (ny j))).trans (by rw[e0];exact tj.refl _)
  have hval:fV (es.toList[j]).2=k:=by
   obtain ⟨k',tk',e⟩:=r.shape (e8 hj)
   rw[e] at hp ⊢
   exact ((og P w).inj _ k k' hp (xl _ _ _ _)).symm
  rw[ed]
  refine ⟨⟨fun e he=>r.el e (hsub.subset he),⟨Fv r.tab.up j,r.tab.led⟩,?_,?_⟩,?_,rr.room⟩
  · unfold pT at hps
    simp only[ro,pT,cc,beq_iff_eq,decide_eq_true_eq]
    have e9:es.toList.length=es.size:=cy
    refine ⟨?_,?_⟩
    · omega
    · have h1:=hps.2
      have h2:=hps.1
      exact decide_eq_true (show (kD t.place j).size+(qh t.dummies (eD t.dummies (t.place[j]'(by omega))) (t.place[j]'(by omega))).size≤t.mask by omega)
  · have sp:es.toList.map (fun e=>fV e.2)=(es.toList.take j).map (fun e=>fV e.2)++k::(es.toList.drop (j+1)).map (fun e=>fV e.2):=by
     rw[← hval,← dk (f:=fun e:Int×ai=>fV e.2),← fe,← kq hj,fw]
    have hnd:(es.toList.map fun e=>fV e.2).Nodup:=r.pm.nodup_iff.mpr hn
    have hf:(bQ ks [k]).Perm (bQ (es.toList.map fun e=>fV e.2) [k]):=(r.pm.symm.filter _)
    refine B3.trans ?_ hf.symm
    rw[toList_erase,fe,sp]
    unfold bQ
    rw[sp] at hnd
    have hnd':=ip.mp hnd
    have hc:=ki.mp hnd'.2.1
    rw[sd,oz (by simp),oi.mpr fun y hy=>?_,oi.mpr fun y hy=>?_]
    · have:y≠k:=fun z=>hc.1 (z ▸ hy)
      simp[this]
    · have:y≠k:=fun z=>hnd'.2.2 y hy k b5 z
      simp[this]
  · show (qh t.dummies _ _).size≤d+1
    rw[di]
    exact zI rr.few
theorem Hb {a:Addr}{es:Array (Int×ai)}{ep:Nat}{t:dc}{ks:List Int}{others:List Addr}{Q:Array (Int×ai)→ar→Prop} (g:s.heap.get? a=some (aY es ep t)) (r:dO P w es t ks) (ho:∀b∈others,∃ks,bM P w s.heap b ks)
 (hQ:∀W s',W.toList.Perm es.toList→s'.heap=s.heap→s'.gens=s.gens→s'.os=s.os→s'.toks=s.toks→Q W s'):bP (bt P w) A (zt a others none) Q E s:=by
 unfold zt
 refine af (fi g rfl r.fit ?_)
 dsimp only
 refine af (texts_any (ng (fun _=>Fp g r hQ) (fun _=>?_)))
 refine af (Bd (fun b hb=>?_) ?_)
 · rcases be.mp hb with z | z
   · exact ⟨ks,by rw[z];exact ⟨es,ep,t,g,r⟩⟩
   · exact ho b z
 simp only[ia,aT,if_false]
 exact af (i4 (av (hQ _ s (.refl _) rfl rfl rfl rfl)))
theorem Cz (ks a b:List Int):bQ (bQ ks a) b=bQ ks (a++b):=by
 unfold bQ
 rw[List.filter_filter]
 refine List.filter_congr fun k _=>?_
 by_cases h1:k∈a <;> by_cases h2:k∈b <;> simp[h1,h2]
theorem yz (ks a:List Int):(bQ ks a).length≤ks.length:=t4 _ _
theorem J8 {R O:Addr}{ks ko:List Int}{nm:String}{m:Nat}{Q:Unit→ar→Prop} (x:pQ P w s.heap R ks 0 m) (xo:bM P w s.heap O ko) (hn:ks.Nodup) (hb:ks.length < 3000) (hbo:ko.length < 3000) (hne:R≠O) (h8:ko.length / 8≤ks.length) (hm:4*ko.length≤m)
 (hQ:∀s' ,fT R s.heap s'.heap→bM P w s'.heap R (bQ ks ko)→s'.gens=s.gens→s'.os=s.os→Q () s'):bP (bt P w) A (se nm R (.ref O)) Q E s:=by
 unfold se
 rw[show ((dQ O) == (dQ R))=false from by
  rw[beq_eq_false_iff_ne]
  intro z
  cases z
  exact hne rfl]
 simp only[aT,if_false]
 refine af (qU xo.typeIs ?_)
 simp only[if_true]
 refine af (ib (a:=O) rfl (af (mJ xo (af (mJ x.setAt ?_)))))
 rw[if_neg (by omega)]
 obtain ⟨es,ep,t,g,r⟩:=id xo
 refine af (nL g rfl r.fit (af (gi (af (Hb g r (fun b hb=>⟨ks,by rw[ba.mp hb];exact x.setAt⟩) fun W s1 hp h1 h2 h3 h4=>?_)))))
 have hW:∀e∈W.toList,∃k tk,e=(rS k,.int k tk):=fun e he=>r.shape (hp.mem_iff.mp he)
 have hWp:(W.toList.map fun e=>fV e.2).Perm ko:=(hp.map _).trans r.pm
 have hWl:W.toList.length=ko.length:=by have:=hWp.length_eq;rw[aw] at this;exact this
 refine af ?_
 rw[← xA]
 refine rE W.toList (fun i _ s2=>fT R s.heap s2.heap∧pQ P w s2.heap R (bQ ks ((W.toList.map fun e=>fV e.2).take i)) i m∧s2.gens=s.gens∧s2.os=s.os) _ _ ⟨by rw[h1];exact fT.refl _ _,?_,h2,h3⟩ (fun i e b s2 he hi=>?_) fun b s2 ⟨sb2,xr2,q2,q3⟩=>?_
 · rw[h1]
   have e0:bQ ks ((W.toList.map fun e=>fV e.2).take 0)=ks:=oi.mpr fun y _=>by simp
   rw[e0];exact x
 · obtain ⟨sb2,xr2,q2,q3⟩:=hi
   obtain ⟨k,tk,rfl⟩:=hW e (fE he)
   have g2:s2.heap.get? O=some (aY es ep t):=(sb2.2 O (p9 hne)).trans g
   refine af (gi (Hk xr2 (hn.filter _) (kF (yz _ _) hb) fun h' sb3 x3 bb=>?_))
   have g3:h'.get? O=some (aY es ep t):=(sb3.2 O (p9 hne)).trans g2
   unfold qq
   refine af (af (nL (s:={ s2 with heap:=h' }) g3 rfl r.fit ?_))
   simp only[bne_self_eq_false,aT,if_false]
   refine av (av ⟨_,rfl,sb2.trans sb3,?_,q2,q3⟩)
   rw[kR,cn,he,← Cz]
   exact x3
 · refine av ?_
   rw[fz (by rw[aw];exact aE _)] at xr2
   obtain ⟨e2,p2,t2,gg,rr⟩:=id xr2
   unfold setTidy
   refine af (fi gg rfl rr.rec_.fit ?_)
   dsimp only
   have few:=rr.few
   have room:=rr.room
   rw[show t2.tooManyDummies=false from by
    unfold SetTable.tooManyDummies
    exact decide_eq_false (by omega)]
   simp only[aT,if_false]
   refine av (hQ s2 sb2 ?_ q2 q3)
   have e1:bQ ks (W.toList.map fun e=>fV e.2)=bQ ks ko:=List.filter_congr fun y _=>by
    rw[show decide (y∈W.toList.map fun e=>fV e.2)=decide (y∈ko) from decide_eq_decide.mpr hWp.mem_iff]
   rw[← e1]
   exact xr2.setAt
theorem Pq {S O:Addr}{ks ko:List Int}{nm:String}{Q:ai→ar→Prop} (x:bM P w s.heap S ks) (xo:bM P w s.heap O ko) (hn:ks.Nodup) (hb:ks.length < 3000) (hbo:ko.length < 3000) (Ko:ko.length < ks.length / 4) (h5:5≤ks.length)
 (hQ:∀s',oG s s'→bM P w s'.heap s.heap.objs.size (bQ ks ko)→Q (.ref s.heap.objs.size) s'):bP (bt P w) A (lj nm S (.ref O)) Q E s:=by
 have hO:O < s.heap.objs.size:=by obtain ⟨_,_,_,go,_⟩:=id xo;exact bE go
 unfold lj
 dsimp only
 refine af (qU xo.typeIs ?_)
 simp only[ia,aT,if_false,kK,if_true]
 refine af (ib (a:=O) rfl (af (mJ xo (af (mJ x ?_)))))
 rw[if_pos (by omega)]
 refine af (i4 (af (PQ x hn h5 hb fun s1 gw xr hz=>?_)))
 refine af (ib (a:=s.heap.objs.size) rfl (af (gi ?_)))
 refine J8 xr (xo.at fun o e=>gw.heap _ _ e) hn hb hbo (qE hO) (by omega) (by omega) fun s2 sb x2 q2 q3=>?_
 refine av (hQ s2 ⟨fun b o e=>(sb.2 b (eJ (bE e))).trans (gw.heap b o e),q2.trans gw.gens,q3.trans gw.os⟩ x2)
end
theorem Gy:entryFor table "set.__sub__" = some Builtin.«frozenset.__sub__» :=
 entryFor_alias (id' := "frozenset.__sub__") (by kernel_rfl) (by first | rfl | decide +kernel) (by decide +kernel) (by kernel_rfl)
section
variable {P:cw}{w:eI}{A:eo}{E:ai→ar→Prop}{s:ar}
theorem TJ {S O:Addr}{ks ko:List Int}{Q:ai→ar→Prop} (x:bM P w s.heap S ks) (xo:bM P w s.heap O ko) (hn:ks.Nodup) (hb:ks.length < 3000) (hbo:ko.length < 3000) (hne:S≠O) (Ko:ks.length / 4≤ko.length∨5≤ks.length)
 (hQ:∀s' kr,oG s s'→bM P w s'.heap s.heap.objs.size kr→kr.Perm (bQ ks ko)→Q (.ref s.heap.objs.size) s'):bP (bt P w) A (g6 .Sub (.ref S) (.ref O)) Q E s:=by
 refine wpAny_binaryOp_same (op:=.Sub) (T := "set") x.typeIs xo.typeIs F.fills_set_sub F.slot_set_sub ?_
 refine gp F.slot_set_sub x.typeIs Gy ?_ (F.args_set_sub_2 _ _)
 unfold Builtin.«frozenset.__sub__»
 show bP _ _ (Builtin.Frozenset.slot1 "__sub__" ⟨[.ref S,.ref O],[]⟩ >>= _) _ _ _
 refine af (ib (a:=(dQ S,dQ O)) rfl ?_)
 dsimp only
 simp only[aT,if_false]
 refine af (af (qU x.typeIs ?_))
 simp only[toBool,if_true]
 refine qU xo.typeIs ?_
 simp only[ia,aT,if_false]
 refine af (ib (a:=S) rfl (af ?_))
 by_cases h:ks.length / 4≤ko.length
 · exact Qf x xo hn hb hbo hne h fun s' kr gw xr hp=>av ⟨_,rfl,(by intro z;cases z),hQ s' kr gw xr hp⟩
 · rcases Ko with h' | h5
   · exact absurd h' h
   · exact Pq x xo hn hb hbo (by omega) h5 fun s' gw xr=>av ⟨_,rfl,(by intro z;cases z),hQ s' _ gw xr (.refl _)⟩
end
section
variable {X:Cx}{a b:Expr}{pos:Pos}
noncomputable def ZF (ta tb:St→Hp→(List Int→Hp→Prop)→Prop):St→Hp→(List Int→Hp→Prop)→Prop:=fun σ H Q=>ta σ H fun ks H1=>tb σ H1 fun ko H2=>(ks.Nodup∧ks.length < 3000∧ko.length < 3000∧(ks.length / 4≤ko.length∨5≤ks.length))∧∀kr,kr.Perm (bQ ks ko)→Q kr H2
theorem Ve {ta tb:St→Hp→(List Int→Hp→Prop)→Prop} (ha:PSt X a ta) (hb:PSt X b tb):PSt X (.BinOp a .Sub b pos) (ZF ta tb):=by
 intro pins s σ H Q I h
 refine wpAny_BinOp (thn (ha pins s σ H _ I h) fun v s1 aA=>?_)
 obtain ⟨S,ks,H1,e1,x,f1,I1,q1⟩:=aA
 subst e1
 obtain ⟨es,ep,t,g,r⟩:=x
 have I1':=I1.pinned (fp:=[S]) (fun b hb=>by rw[ba.mp hb];exact f1) (fun b hb=>⟨aY es ep t,by rw[ba.mp hb];exact g,fun v z=>by cases z⟩)
 have hp:(S,aY es ep t)∈rF [S] s1.heap:=lz (by simp) g
 refine thn (hb _ s1 σ H1 _ I1' q1) fun u s2 ⟨O,ko,H2,e2,xo,f2,I2,⟨c1,c2,c3,c4⟩,q2⟩=>?_
 subst e2
 have g2:s2.heap.get? S=some (aY es ep t):=(I2.pin (S,aY es ep t) (cK _ (cK _ hp))).1
 have hne:S≠O:=f2.2.2.2.2.2 (S,aY es ep t) (cK _ (cK _ hp))
 have I3:=I2.o9
 exact TJ ⟨es,ep,t,g2,r⟩ xo c1 c2 c3 hne c4 fun s3 kr gw xr hpm=>⟨_,kr,H2,rfl,xr,I3.xZ (aE _) (I3.hok.fresh (aE _)),I3.grown gw,q2 kr hpm⟩
end
end L2
namespace L3
open PySem PySem.Spec PyProof.Rows L2
noncomputable def jg:List ae→Res ae
 | [d,d']=>match jf d,jf d' with
  | some ns,some ms=>gd ((ddl ns).length < 3000∧(ddl ms).length < 3000∧((ddl ns).length / 4≤(ddl ms).length∨5≤(ddl ns).length)∧(bQ (ddl ns) (ddl ms)).length < 3000) (.ok (.list ((srt (bQ (ddl ns) (ddl ms))).map ae.int)))
  | _,_=>.bad
 | _=>.bad
section
variable {X:Cx}{O:List Fl}{m m':ME}{e e':Expr}{p p2 p3 pos pos2 abC aaG:Pos}
theorem rK (hc:X.calm=true) (hg:Gl X "sorted") (hm:X.mg "sorted" = none) (hg2:Gl X "set") (hm2:X.mg "set" = none) (ha:QE X e (tP X.K O m)) (hb:QE X e' (tP X.K O m')) (hs:noStar e=true:=by rfl) (hs':noStar e'=true:=by rfl) :
 QE X (.Call (.Name "sorted" p) [.BinOp (.Call (.Name "set" p2) [e] [] pos2) .Sub (.Call (.Name "set" p3) [e'] [] abC) aaG] [] pos) (tF X.K O (eFn jg [m,m'])):=
 QE.imp (Nu hc hg hm (Ve (zE hc hg2 hm2 (cV ha.h fX (bO hs)) (bO hs)) (zE hc hg2 hm2 (cV hb.h fX (bO hs')) (bO hs')))) fun σ H Q aA=>by
  obtain ⟨A,B,Γ,d,r,em,k⟩:=aA
  obtain ⟨ds,e1,em⟩:=Res.aF em
  obtain ⟨d1,e2,e1⟩:=Res.aF e1
  obtain ⟨ds2,e3,e1⟩:=Res.aF e1
  obtain ⟨d2,e4,e3⟩:=Res.aF e3
  obtain ⟨_,e5,e3⟩:=Res.aF e3
  cases e5
  cases e3
  cases e1
  have em:(match jf d1,jf d2 with
   | some ns,some ms=>gd ((ddl ns).length < 3000∧(ddl ms).length < 3000∧((ddl ns).length / 4≤(ddl ms).length∨5≤(ddl ns).length)∧(bQ (ddl ns) (ddl ms)).length < 3000) (.ok (.list ((srt (bQ (ddl ns) (ddl ms))).map ae.int)))
   | _,_=>.bad)=Res.ok d:=em
  cases hn:jf d1 with
  | none=>rw[hn] at em;cases em
  | some ns=>
   cases hn':jf d2 with
   | none=>rw[hn,hn'] at em;cases em
   | some ms=>
    rw[hn,hn'] at em
    obtain ⟨⟨z1,z2,z3,z4⟩,em⟩:=cN em
    cases em
    refine ⟨A,B,Γ,d1,r,e2,fun v A1 H1 g1 p1=>?_⟩
    obtain ⟨q,rfl,hq⟩:=sW hn g1.ah p1
    refine ⟨q,ns,rfl,hq,by omega,A1,B,Γ,d2,r.grow g1,e4,fun v' A2 H2 g2 p2=>?_⟩
    obtain ⟨q',rfl,hq'⟩:=sW hn' g2.ah p2
    have gg:=g1.trans g2
    refine ⟨q',ms,rfl,hq',by omega,⟨qb ns,z1,z2,z3⟩,fun kr hp=>⟨by rw[hp.length_eq];exact z4,fun l hl=>?_⟩⟩
    have es:srt kr=srt (bQ (ddl ns) (ddl ms)):=gR ((cB kr).trans (hp.trans (cB _).symm)) (fL _) (fL _)
    rw[es]
    exact k _ A2 _ (gg.trans (aP.lay g2.ah hl)) ⟨l,_,rfl,gg.hh.free hl,bK,g2.ah.free hl,.inl ⟨_,_,rfl,rfl,aB.ints⟩⟩
end
end L3
namespace L2
open PySem PySem.Spec PyProof.Rows
section
variable {P:cw}{w:eI}{A:eo}{E:ai→ar→Prop}{s:ar}
theorem QL {l b:Addr}{xs ys:Array ai}{n n2:Nat}{o:Obj}{Q:ai→ar→Prop} (e:s.heap.get? l=some { cls:=.type "list",dict:=none,data:=.seq xs n,slots:=#[] }) (e2:s.heap.get? b=some o) (hc:o.cls = .type "list") (hd:o.data = .seq ys n2) (hz:xs.size+ys.size≤bp)
 (h:Q .none { s with heap:=s.heap.update l (kA (· ++ ys)) }):bP (bt P w) A (call (.builtin "list.extend") [.ref l,.ref b]) Q E s:=by
 refine gp F.slot_list_extend ⟨_,e,rfl⟩ F.entry_list_extend ?_ (F.args_list_extend_2 _ _)
 unfold Builtin.«list.extend»
 refine af (ib (a:=(dQ l,dQ b)) rfl ?_)
 dsimp only
 unfold qo
 refine af (sP (T := "list") ⟨_,e2,hc⟩ ?_)
 rw[show (rL (.ref l) (.ref b)||nS "list" == nS "list" || nS "list" == nS "tuple")=true by simp]
 simp only[if_true]
 unfold Builtin.List.listItems
 refine af (af (xy e2 hd (av (af (af (xy e rfl (av ?_)))))))
 rw[show (!xs.isEmpty&&i0 (xs.size+ys.size))=false by
  rw[show i0 (xs.size+ys.size)=false from by unfold i0;exact decide_eq_false (by omega)]
  exact Bz _]
 simp only[aT,if_false]
 refine af ?_
 show bP _ _ (updateSeq l (· ++ ys)) _ _ _
 refine AZ e rfl (av ⟨_,rfl,h⟩) (by omega) (by show (xs++ys).size≤_;rw[Array.size_append];omega)
end
end L2
namespace L3
open PySem PySem.Spec PyProof.Rows L2
section
variable {X:Cx}{rm:Rm}{Ol O:List Fl}{m m':ME}{e a b:Expr}{pos p apos cpos:Pos}
noncomputable def Q4 (K:ag):V→List V→Hp→VK→Prop:=fun x vs H Q=>∃l b xs zs,x = .ref l∧vs=[.ref b]∧H l=some (.lst xs)∧SqL K H b zs∧xs.length+zs.length≤bp∧Q .non (upd H l (.lst (xs++zs)))
theorem Ku:MtM X "list.extend" (Q4 X.K):=by
 intro pins s σ H x vs v us Q I rx rv h
 obtain ⟨l,b,xs,zs,rfl,rfl,hH,hB,hz,q⟩:=h
 cases rx
 obtain ⟨u,rfl,ru⟩:=rv.one
 cases ru
 obtain ⟨z,its,n,r,hl,e⟩:=I.RP hH
 obtain ⟨its2,r2,⟨o2,n2,e2,hc2,_,hd2⟩,z2⟩:=I.list hB
 have hl2:=r2.length
 refine QL e e2 hc2 hd2 (by rw[ck,ck];omega) ?_
 refine ⟨.non,_,I.Sh (its':=its++its2) (t':=s.toks) hH e (by simp) (r.append r2) ?_,rfl,q⟩
 rw[ay]
 omega
theorem V3 (i:Nat) {x:Str} (he:QE X e (tE X.K O m)) (hi:isO (fl O i)=true:=by rfl) (hN:X.N[i]?=some x:=by rfl) (hv:Vis X.env.scope x:=by first | exact cb rfl | exact g9 (cb rfl) | exact g9 (g9 rfl)) (hd:(x == ("__debug__" : Str))=false:=by decide)
 (hcd:(x == ("__classdict__" : Str))=false:=by decide) (hbase:uS (.Name x p) "extend" X.env (eval (.Name x p) X.env)=eval (.Name x p) X.env:=by rfl)
 (hfew:((oC cpos (d4 (e::[]) X.env)).all (fun x=>!x.1)&&(backToKw cpos (x9 [] X.env)).all (fun x=>x.1.isSome)
  && decide ((e::[]).length+([]:List uu).length+(if ([]:List uu).isEmpty then 0 else 1) < 30))=true:=by rfl)
 (hline:(apos.endLine == cpos.line)=true:=by rfl) (hs:d4 (e::[]) X.env=(false,eval e X.env)::d4 [] X.env:=by rfl) (hplain:(oC cpos (d4 [] X.env)).any (·.1)=false:=by rfl)
 (hsw:j3 (.Call (.Attribute (.Name x p) "extend" apos) [e] [] cpos) none pos.line X.env=pure false:=by rfl) :
 QS X (.Expr (.Call (.Attribute (.Name x p) "extend" apos) [e] [] cpos) pos) (tS X.K rm Ol O O (JT i m)):=by
 refine QS.imp (v5 (CP oo PySem.F.slot_list_extend PySem.F.type_list_extend Ku (il hN hv hd hcd) (cV he.h fX hs) hbase hfew hline hs hplain) hsw) fun D σ H aA=>?_
 obtain ⟨A,B,Γ,o,r,em,k⟩:=aA
 obtain ⟨d,e1,em⟩:=Res.aF em
 cases hg:gv Γ i with
 | none=>rw[hg] at em;cases em
 | some dl=>
  rw[hg] at em
  cases dl with
  | list ds=>
   cases d with
   | list es=>
    obtain ⟨⟨hc,hlt⟩,em⟩:=cN em
    cases em
    obtain ⟨q,vs,e2,h1,h4⟩:=sV r hi hg
    refine ⟨.ref q,jc e2,.inl ⟨rfl,vs,SqL.of h1⟩,A,B,Γ,_,r,e1,fun v A1 H1 g1 p1=>?_⟩
    obtain ⟨q2,us,rfl,h5,h6⟩:=Rp.list.mp p1
    refine ⟨q,q2,vs,us,rfl,rfl,g1.hh _ _ h1,h5.elim (fun z=>.inl (aH.rd g1.ah z)) .inr,by rw[← h4.length,← h6.length];exact hc,?_⟩
    exact k σ A1 _ ((r.grow g1).change hi hlt (by rw[hg];simp) e2 (g1.hh _ _ h1) (.inl ⟨_,_,rfl,rfl,(aB.mono g1.aa _ h4).append h6⟩)) g1.aa (g1.nB r.b)
   | _=>cases em
  | _=>cases em
end
noncomputable def fnN (n:Nat) (m:MS) (ds:List ae):Res ae:=(m (ds.map some++b9 (n - ds.length) none)).bind fun o=>match o with
 | .rt d=>.ok d
 | .nx _=>.ok .none
 | _=>.bad
section
variable {P:cw}{w:eI}{K:ag}{mg:Str→Option ai}{base:Heap}
theorem Uy {x:Str}{st:Stmt}{N ps:List Str}{k:Nat}{fs O O' Ol:List Fl}{rm:Rm}{m:MS} (F:At K mg x st ps) (S:bL N ps (aC st)) (hf:fs.length=ps.length) (hn:ps.length≤N.length)
 (hO:∀i,i < fs.length→(fl O i = .imm∧fl fs i = .imm)∨fl O i = .bor)
 (hbody:∀(f:Addr) (cdv:ai) (A:eo) (outer:List Env) (s:ar) (H:Hp) (E:XK),dg k (A.deeper (iX x (aC st) s.heap.objs.size f cdv)) →
  QSs (kh CX0 P w K mg base N x (aC st) f cdv A outer s H E).nox (aU st) (tS K .f Ol O O' m)) (hrm:rm = .f):Def P w K mg base (k+1) x ps (spF K fs rm (fnN N.length m)):=by
 subst hrm
 refine F.ok S (fun vs H Q E h=>?_) (fun f cdv A outer s H vs Q E hr h=>?_)
 · obtain ⟨A,ds,d,_,h,_⟩:=h
   rw[h.length.1,hf]
 · obtain ⟨A',ds,d,ha,h,em,q⟩:=h
   obtain ⟨o,e1,em⟩:=Res.aF em
   cases o with
   | rt d'=>
    cases em
    refine ⟨_,(hbody f cdv A outer s H E hr).h,A',H,_,_,nq ha h hO (by omega),e1,fun v A2 H2 s1 s2 sa nw rv=>q v A2 H2 ⟨sa,s2,s1,nw⟩ rv⟩
   | nx Γ'=>
    cases em
    refine ⟨_,(hbody f cdv A outer s H E hr).h,A',H,_,_,nq ha h hO (by omega),e1,fun σ2 A2 H2 r2 sa nw=>q .non A2 H2 ⟨sa,r2.b,r2.a,nw⟩ (show Rp K A2 .none .non from Rp.none.mpr rfl)⟩
   | _=>cases em
end
section
variable {X:Cx}{D:List (Str×ae)}
end
section
variable {X:Cx}{D:List (Str×ae)}{O:List Fl}
end
section
variable {X:Cx}{O:List Fl}{ks:List (Option Expr)}{vs:List Expr}{R:List (Str×ME)}
end
section
variable {X:Cx}{O Ol:List Fl}{rm:Rm}{a e:Expr}{m m':ME}{pos:Pos}
end
section
variable {K:ag}{A:Hp}{key:iU}{kvs:List (ae×ae)}{us:List (iU×V)}
end
section
variable {K:ag}{A B H:Hp}{O:List Fl}{σ:L2.St}{Γ:Ev}{i:Nat}
end
section
variable {X:Cx}{rm:Rm}{Ol O:List Fl}{m m':ME}{e a b:Expr}{pos:Pos}{i:Nat}{x:Str}{xp tpos:Pos}
end
end L3
namespace L2
open PySem PySem.Spec PyProof.Rows
section
variable {prog:cw}{w:eI}{A:eo}{E:ai→ar→Prop}{s:ar}
end
section
variable {X:Cx}{pos:Pos}
end
end L2
namespace L3
open PySem PySem.Spec PyProof.Rows L2
section
variable {X:Cx}{O O':List Fl}{is:List Nat}{gs:List MG}{es:List Expr}{pos:Pos}
end
end L3
namespace L2
open PySem PySem.Spec PyProof.Rows
open Builtin Builtin.Str
section
variable {X:Cx}
end
end L2
namespace L3
open PySem PySem.Spec PyProof.Rows L2
section
variable {X:Cx}{O:List Fl}{m m':ME}{a b:Expr}{pos p:Pos}{K:ag}{A B:Hp}{ds es:List ae}{vs ws:List V}{q q':Addr}
variable {elts:List Expr}{tpos:Pos}
end
end L3
namespace L2
open PySem PySem.Spec PyProof.Rows PySem.Calls
section
variable {prog:cw}{w:eI}{A:eo}{E:ai→ar→Prop}{s:ar}
end
end L2
namespace L2
open PySem PySem.Spec PyProof.Rows
section
variable {X:Cx}{pins:List (Addr×Obj)}{σ:St}{H:Hp}{s s':ar}{e:Expr}{ta:TA}{p pos:Pos}
end
end L2
namespace L3
open PySem PySem.Spec PyProof.Rows L2
section
variable {X:Cx}{O:List Fl}{m:ME}{e:Expr}{p p2 pos pos2:Pos}
end
end L3
namespace L2
open PySem PySem.Spec PyProof.Rows
open AutoSeq1 (wpAny_loadPart')
section
variable {prog:cw}{w:eI}{A:eo}{E:ai→ar→Prop}{s:ar}
end
end L2
namespace L3
open PySem PySem.Spec PyProof.Rows L2
section
variable {X:Cx}
end
theorem len0 {α:Type}{P:List α→Prop} (h:P []) (us:List α) (e:us.length=0):P us:=by
 rw[kS.mp e];exact h
theorem V8 {α:Type}{P:List α→Prop} (h:∀a0,P [a0]) (us:List α) (e:us.length=1):P us:=by
 cases us with
 | nil=>cases e
 | cons a r=>exact len0 (P:=fun r=>P (a::r)) (h a) r (B1.inj e)
theorem Yy {α:Type}{P:List α→Prop} (h:∀a0 a1,P [a0,a1]) (us:List α) (e:us.length=2):P us:=by
 cases us with
 | nil=>cases e
 | cons a r=>exact V8 (P:=fun r=>P (a::r)) (fun b0=>h a b0) r (B1.inj e)
theorem Xy {α:Type}{P:List α→Prop} (h:∀a0 a1 a2,P [a0,a1,a2]) (us:List α) (e:us.length=3):P us:=by
 cases us with
 | nil=>cases e
 | cons a r=>exact Yy (P:=fun r=>P (a::r)) (fun b0 b1=>h a b0 b1) r (B1.inj e)
theorem YF {α:Type}{P:List α→Prop} (h:∀a0 a1 a2 a3,P [a0,a1,a2,a3]) (us:List α) (e:us.length=4):P us:=by
 cases us with
 | nil=>cases e
 | cons a r=>exact Xy (P:=fun r=>P (a::r)) (fun b0 b1 b2=>h a b0 b1 b2) r (B1.inj e)
theorem abe {α:Type}{P:List α→Prop} (h:∀a0 a1 a2 a3 a4,P [a0,a1,a2,a3,a4]) (us:List α) (e:us.length=5):P us:=by
 cases us with
 | nil=>cases e
 | cons a r=>exact YF (P:=fun r=>P (a::r)) (fun b0 b1 b2 b3=>h a b0 b1 b2 b3) r (B1.inj e)
theorem Ed {x:Str}{st:Stmt}{ps:List Str} (h:∀(kV doc pm:ai) (an:Option Addr) (cdv ct:ai) (a0:ai),kL (cf x x (bc st) (aU st) (aC st) .none kV doc pm an cdv ct) ⟨[a0],[]⟩=pure (ps.zip [a0])) (hp:ps.length=1) :
 ∀(kV doc pm:ai) (an:Option Addr) (cdv ct:ai) (us:List ai),us.length=ps.length→kL (cf x x (bc st) (aU st) (aC st) .none kV doc pm an cdv ct) ⟨us,[]⟩=pure (ps.zip us):=fun kV doc pm an cdv ct us hl=>
 V8 (P:=fun us=>kL (cf x x (bc st) (aU st) (aC st) .none kV doc pm an cdv ct) ⟨us,[]⟩=pure (ps.zip us)) (h kV doc pm an cdv ct) us (hl.trans hp)
theorem pK {x:Str}{st:Stmt}{ps:List Str} (h:∀(kV doc pm:ai) (an:Option Addr) (cdv ct:ai) (a0 a1:ai),kL (cf x x (bc st) (aU st) (aC st) .none kV doc pm an cdv ct) ⟨[a0,a1],[]⟩=pure (ps.zip [a0,a1])) (hp:ps.length=2) :
 ∀(kV doc pm:ai) (an:Option Addr) (cdv ct:ai) (us:List ai),us.length=ps.length→kL (cf x x (bc st) (aU st) (aC st) .none kV doc pm an cdv ct) ⟨us,[]⟩=pure (ps.zip us):=fun kV doc pm an cdv ct us hl=>
 Yy (P:=fun us=>kL (cf x x (bc st) (aU st) (aC st) .none kV doc pm an cdv ct) ⟨us,[]⟩=pure (ps.zip us)) (h kV doc pm an cdv ct) us (hl.trans hp)
theorem Kz {x:Str}{st:Stmt}{ps:List Str} (h:∀(kV doc pm:ai) (an:Option Addr) (cdv ct:ai) (a0 a1 a2:ai),kL (cf x x (bc st) (aU st) (aC st) .none kV doc pm an cdv ct) ⟨[a0,a1,a2],[]⟩=pure (ps.zip [a0,a1,a2])) (hp:ps.length=3) :
 ∀(kV doc pm:ai) (an:Option Addr) (cdv ct:ai) (us:List ai),us.length=ps.length→kL (cf x x (bc st) (aU st) (aC st) .none kV doc pm an cdv ct) ⟨us,[]⟩=pure (ps.zip us):=fun kV doc pm an cdv ct us hl=>
 Xy (P:=fun us=>kL (cf x x (bc st) (aU st) (aC st) .none kV doc pm an cdv ct) ⟨us,[]⟩=pure (ps.zip us)) (h kV doc pm an cdv ct) us (hl.trans hp)
theorem abq {x:Str}{st:Stmt}{ps:List Str} (h:∀(kV doc pm:ai) (an:Option Addr) (cdv ct:ai) (a0 a1 a2 a3:ai),kL (cf x x (bc st) (aU st) (aC st) .none kV doc pm an cdv ct) ⟨[a0,a1,a2,a3],[]⟩=pure (ps.zip [a0,a1,a2,a3])) (hp:ps.length=4) :
 ∀(kV doc pm:ai) (an:Option Addr) (cdv ct:ai) (us:List ai),us.length=ps.length→kL (cf x x (bc st) (aU st) (aC st) .none kV doc pm an cdv ct) ⟨us,[]⟩=pure (ps.zip us):=fun kV doc pm an cdv ct us hl=>
 YF (P:=fun us=>kL (cf x x (bc st) (aU st) (aC st) .none kV doc pm an cdv ct) ⟨us,[]⟩=pure (ps.zip us)) (h kV doc pm an cdv ct) us (hl.trans hp)
theorem aa8 {x:Str}{st:Stmt}{ps:List Str} (h:∀(kV doc pm:ai) (an:Option Addr) (cdv ct:ai) (a0 a1 a2 a3 a4:ai),kL (cf x x (bc st) (aU st) (aC st) .none kV doc pm an cdv ct) ⟨[a0,a1,a2,a3,a4],[]⟩=pure (ps.zip [a0,a1,a2,a3,a4])) (hp:ps.length=5) :
 ∀(kV doc pm:ai) (an:Option Addr) (cdv ct:ai) (us:List ai),us.length=ps.length→kL (cf x x (bc st) (aU st) (aC st) .none kV doc pm an cdv ct) ⟨us,[]⟩=pure (ps.zip us):=fun kV doc pm an cdv ct us hl=>
 abe (P:=fun us=>kL (cf x x (bc st) (aU st) (aC st) .none kV doc pm an cdv ct) ⟨us,[]⟩=pure (ps.zip us)) (h kV doc pm an cdv ct) us (hl.trans hp)
section
variable {X:Cx}{O:List Fl}{m mk:ME}{a st:Expr}{p2 pos:Pos}{te ts:TE}
end
section
variable {X:Cx}{pins:List (Addr×Obj)}{σ:L2.St}{H:Hp}{s:ar}{ea:Addr}{ob:Obj}
theorem X4 (I:L2.Inv X pins σ H s) (h1:s.heap.get? ea=some ob) (h2:H ea=none) (h3:ea≠X.env.locals) (h5:∀v,ob.data ≠ .cell v) (h6:∀p∈X.pn++pins,p.1≠ea) (h7:X.s₀.heap.get? ea=none):L2.Inv X pins σ (upd H ea (.frz ob (.own 0))) s:=by
 have ne:∀b o,H b=some o→b≠ea:=fun b o e z=>by rw[z,h2] at e;cases e
 refine ⟨I.ok,I.os,I.bare,⟨I.base.keep,I.base.slot,fun b o e n hx=>?_,I.base.there,fun b xs e=>?_,fun b o u e=>?_,fun b ps e=>?_⟩,I.loc,I.cell,?_,fun x c e=>?_,fun p hp=>?_,fun b o e=>?_,I.len⟩
 · rw[bu (fun z=>by rw[z,h7] at e;cases e)]
   exact I.base.free b o e n hx
 · have:=I.base.tups b xs e
   rw[bu (ne b _ this)]
   exact this
 · have:=I.base.j8 b o u e
   rw[bu (ne b _ this)]
   exact this
 · obtain ⟨more,this⟩:=I.base.lG b ps e
   exact ⟨more,by rw[bu (ne b _ this)];exact this⟩
 · rw[bu (p9 h3)]
   exact I.free
 · have hc:c≠ea:=fun z=>by
    obtain ⟨v,o,q1,q2⟩:=I.cell x c e
    rw[z,h1] at q1
    cases q1
    exact h5 _ q2
   rw[bu hc]
   exact I.iQ x c e
 · obtain ⟨q1,q2,q3⟩:=I.pin p hp
   exact ⟨q1,by rw[bu (h6 p hp)];exact q2,q3⟩
 · by_cases hb:b=ea
   · subst hb
     rw[bK] at e
     cases e
     exact ⟨h1,_,h1⟩
   · rw[bu hb] at e
     exact (I.hok b o e).stay (fun c u _ q=>q) (fun c q=>by rw[bu (ne c _ q)];exact q) fun c xs q=>by rw[bu (ne c _ q)];exact q
end
noncomputable abbrev Cx.inM (X:Cx) (ea:Addr):Cx:={ X with A:=X.A.mark (some (.ref ea)),calm:=false,xe:=fun _ _=>False }
section
variable {X:Cx}{pins:List (Addr×Obj)}{σ:L2.St}{H:Hp}{s:ar}{ea:Addr}
theorem Nf (I:L2.Inv X pins σ H s):L2.Inv (Cx.inM X ea) pins σ H s:=
 ⟨⟨I.ok.mod,I.ok.kind,I.ok.glob,I.ok.blt,I.ok.above,I.ok.inj,I.ok.has,I.ok.cab,(fun z=>nomatch z),I.ok.frames,I.ok.stk,I.ok.exf,I.ok.bs,I.ok.bsz,I.ok.zT,I.ok.FJ,I.ok.nQ,I.ok.frf⟩,I.os,I.bare,I.base,I.loc,I.cell,I.free,I.iQ,I.pin,I.hok,I.len⟩
theorem Vm (ok:X.Ok) (I:L2.Inv (Cx.inM X ea) pins σ H s):L2.Inv X pins σ H s:=
 ⟨ok,I.os,I.bare,I.base,I.loc,I.cell,I.free,I.iQ,I.pin,I.hok,I.len⟩
end
section
variable {M:vw}{A:eo}{E:ai→ar→Prop}{K:ag}
structure su (K:ag) (C T:Addr):Prop where
 cls:(pE K T).isSome=true
 typ:xc K (.ref T)=some (.type "type")
 base:mf K (.ref T) (.type "BaseException")=some true
 yes:mf K (.ref C) (.ref T)=some true
theorem Lq {s:ar}{ea C T:Addr}{ob:Obj}{Q:Bool→ar→Prop} (X:K.In s.heap) (he:s.heap.get? ea=some ob) (hcl:ob.cls = .ref C) (h:su K C T) (q:Q true s) :
 bP M A (excMatches (.ref ea) (.ref T)) Q E s:=by
 have nt:md M s.heap (AN (.ref T) (.type "tuple")) false:=(PySem.W.looks_typeIn X h.typ).andThen (vE X (show mf [] (.type "type") (.type "tuple")=some false by decide +kernel))
 unfold excMatches
 refine af (nt.at ?_)
 dsimp only;rw[if_neg (by decide)]
 refine af (av ?_)
 rw[rX]
 refine af (af (af ?_))
 unfold isExcClass
 refine af ((uq X h.cls).at ?_)
 rw[if_pos rfl]
 refine (vE X h.base).at ?_
 show bP _ _ (if (!true)=true then _ else _) _ _ _
 rw[if_neg (by decide)]
 refine av ?_
 refine av ?_
 refine af ((d7 he hcl).at ?_)
 rw[rX]
 refine af (af (af ((vE X h.yes).at ?_)))
 rw[if_pos rfl]
 exact av (av (av q))
end
section
variable {X:Cx}{pins:List (Addr×Obj)}{σ:L2.St}{H:Hp}{s:ar}
theorem Vx {C TA:Addr}{A1:Hp}{er:ai}{s':ar}{D:Ends}{T en yn:Str}{ie iy:Nat}{np pos2 px pe pa:Pos} (hst:X.stack=X.env::X.outer) (hfm:X.env.frame=some X.env.locals) (hex:X.ex=[]) (I:L2.Inv X pins σ H s)
 (h:CXE X.prog X.w X.stack H s (fun cv _ H'=>cv = .ref C∧∃A',aP A1 H A' H') er s') (hN:X.N.Nodup) (hie:X.N[ie]?=some en) (hle:X.env.scope.names.lookup en=some .local) (R5:X.N[iy]?=some yn) (hly:Loc X.env.scope yn)
 (hC:su X.K C TA) (hg:Gl X T) (hm:X.mg T=some (.ref TA)) (hd:(T == ("__debug__" : Str))=false) (hde:(en == ("__debug__" : Str))=false) (hdc:(en == ("__classdict__" : Str))=false) (hiy:ie≠iy)
 (hs:j3 (.Name en pe) (some (.Name yn px)) pa.line X.env=pure false) (hf:X.fn yn=true∨X.env.scope.names.lookup yn=some .local)
 (k:∀ea ob H' A',aP A1 H A' H'→H' ea=none→ob.cls = .ref C→D.nx ((σ.set iy (some (.ref ea))).set ie none) (upd H' ea (.frz ob (.own 0)))) :
 bP (bt X.prog X.w) X.A (noteFrame er X.env) (fun _ s₂=>bP (bt X.prog X.w) X.A (setFlight er none) (fun _ s₃=>bP (bt X.prog X.w) X.A (handleBy er X.env [.ExceptHandler (some (.Name T np)) (some en) [.Assign [.Name yn px] (.Name en pe) pa] pos2]) (SP X pins D) X.xe s₃) X.xe s₂) X.xe s':=by
 obtain ⟨ea,t,C',B,H',rfl,os,bare,fly,inB,DX,un,hC',A',gr⟩:=h
 cases hC'
 rw[hst] at fly
 have hfr:∀b∈frs X.stack,∃o,s'.heap.get? b=some o∧∀vs,o.data ≠ .fields vs:=fun b hb=>dY fly.2.2.1 (by rw[hst] at hb;exact hb)
 have inv:∀(h:Heap) (tk:Nat),Heap.FlyingW B (X.env::X.outer) ea (.ref C) (.ref t) h→s'.heap.UpToSlots h→L2.Inv X pins σ H' { s' with heap:=h,toks:=tk }:=fun h5 tk rH up=>by
  have Wj:HOk X.prog X.w H' h5:=DX.kept fun b u e=>rH.1 b u e
  refine I.call' (s':={ s' with heap:=h5,toks:=tk }) os ⟨fun b o e hn hb _=>rH.1 _ _ (inB b o e hb hn),fun b o e hn hb _=>?_,un.free,fun b o e hb=>?_,un.tups,un.j8,un.lG⟩ Wj bare fun b z=>absurd z (by simp)
  · obtain ⟨sl,q⟩:=un.slot b o e hn hb (by simp)
    obtain ⟨o',ho',hd⟩:=hfr b hb
    rw[q] at ho'
    cases ho'
    obtain ⟨sl',q'⟩:=up b _ q hd
    exact ⟨sl',q'⟩
  · by_cases hf:b∈frs X.stack
    · obtain ⟨o',ho',hd⟩:=hfr b hf
      obtain ⟨sl',q'⟩:=up b _ ho' hd
      exact ⟨_,q'⟩
    · cases hH:H b with
      | none=>exact ⟨o,rH.1 _ _ (inB b o e hf hH)⟩
      | some u=>exact vy Wj (gr.hh b u hH)
 have hea:H' ea=none:=by
  cases q:H' ea with
  | none=>rfl
  | some u=>
   obtain ⟨o,z⟩:=vy DX q
   rw[fly.2.1] at z;cases z
 have abO:H ea=none:=by
  cases q:H ea with
  | none=>rfl
  | some u=>rw[gr.hh ea u q] at hea;cases hea
 have exc:∀h,Heap.FlyingW B (X.env::X.outer) ea (.ref C) (.ref t) h→∃ob,h.get? ea=some ob∧ob.cls = .ref C∧(∃vs,ob.data = .fields vs)∧∀b∈frs X.stack,ea≠b:=fun h5 rH=>by
  obtain ⟨f1,f2,f3,oe,vs,T,oT,ts,e1,e2,e3,_⟩:=rH
  refine ⟨oe,e1,e2.1,⟨vs,e3⟩,fun b hb z=>?_⟩
  subst z
  obtain ⟨o,ho,hd⟩:=dY f3 (by rw[hst] at hb;exact hb)
  rw[e1] at ho
  cases ho
  exact hd vs e3
 have nfr:∀b∈frs X.stack,ea≠b:=by
  obtain ⟨_,_,_,_,q⟩:=exc _ fly
  exact q
 have old:s.heap.get? ea=none:=by
  cases q:s.heap.get? ea with
  | none=>rfl
  | some o=>
   have:=inB ea o q (fun z=>nfr ea z rfl) abO
   rw[fly.2.1] at this;cases this
 have acn:X.s₀.heap.get? ea=none:=by
  cases q:X.s₀.heap.get? ea with
  | none=>rfl
  | some o=>
   obtain ⟨o',z⟩:=I.base.there ea o q (by rw[hex];simp)
   rw[old] at z;cases z
 have hloc:ea≠X.env.locals:=nfr _ (by rw[hst];exact fx.mpr ⟨_,b5,hfm⟩)
 have hpin:∀p∈X.pn++pins,p.1≠ea:=fun p hp z=>by
  have:=(I.pin p hp).1
  rw[z,old] at this;cases this
 refine wpAny_looks_onW (by rw[I.ok.frames,hst]) hfm fly fun h4 Z0 up4=>?_
 refine wpAny_landsW Z0 fun h5 rH up5=>?_
 have up:=up4.trans up5
 obtain ⟨ob,eob,cob,dob,nfo⟩:=exc h5 rH
 have Im:L2.Inv (Cx.inM X ea) pins σ H' { s' with heap:=h5,toks:=s'.toks }:=Nf (inv h5 s'.toks rH up)
 refine wpAny_handleBy_cons (codeAny_handlers_test (oU (X:=Cx.inM X ea) Im hg hm ?_ hd)) (by intro z;cases z)
 refine Lq (K:=X.K) Im.kIn eob cob hC (codeAny_handlers_suite_as (lands_againW rH fun h7 WN up7=>?_))
 obtain ⟨ob7,abt,acw,⟨vs7,abd⟩,_⟩:=exc h7 WN
 have Im7:L2.Inv (Cx.inM X ea) pins σ (upd H' ea (.frz ob7 (.own 0))) { s' with heap:=h7,toks:=s'.toks }:=Nf (X4 (inv h7 s'.toks WN (up.trans up7)) abt hea hloc (fun v z=>by rw[abd] at z;cases z) hpin acn)
 refine tK (X:=Cx.inM X ea) (v:=.ref ea) Im7 hN hie (.inl hle) rfl (fun s8 I8=>?_) (.inr hle)
 have hlen:ie < σ.length:=by rw[I.len];exact (de.mp hie).1
 have hb:=Hy (Ec (X:=Cx.inM X ea) hN R5 hly (il (i:=ie) hie (.inl hle) hde hdc) hs hf) pins s8 _ (upd H' ea (.frz ob7 (.own 0))) { nx:=fun σ9 H9=>σ9=(σ.set ie (some (.ref ea))).set iy (some (.ref ea))∧H9=upd H' ea (.frz ob7 (.own 0)),rt:=fun _ _=>False } I8 ⟨.ref ea,by rw[hU hlen],rfl,rfl⟩
 refine gc hb (fun f s9 z=>?_) fun _ _ z=>z.elim
 cases f with
 | next=>
  obtain ⟨σ9,H9,I9,e9,e10⟩:=z
  rw[e9,e10] at I9
  have I9':=Vm I.ok I9
  show bP (bt X.prog X.w) X.A (do bindName X.env en .none;unbindBehindTheSuite X.env en pos2) _ _ _
  refine af (bindName_ (tK (v:=.non) I9' hN hie (.inl hle) rfl (fun s10 I10=>?_) (.inr hle)))
  unfold unbindBehindTheSuite
  refine wpAny_onRaise (U3 (v:=.non) I10 hN hie hle (by rw[hU (by rw[fI,fI];exact hlen)]) fun s11 I11=>⟨_,_,I11,?_⟩)
  have e:((((σ.set ie (some (V.ref ea))).set iy (some (V.ref ea))).set ie (some V.non)).set ie none)=(σ.set iy (some (.ref ea))).set ie none:=by
   rw[List.set_set,List.set_comm _ _ hiy,List.set_set]
  rw[e]
  exact k ea ob7 H' A' gr hea acw
 | ret u=>obtain ⟨_,_,_,_,_,q⟩:=z;exact q.elim
 | brk=>obtain ⟨_,_,_,q⟩:=z;exact q.elim
 | cont=>obtain ⟨_,_,_,q⟩:=z;exact q.elim
end
end L3
namespace L3
open PySem PySem.Spec PySem.Calls PyProof.Rows L2 Builtin Builtin.ObjectAttr Builtin.Getset_descriptor
structure jU (K:ag) (C:Addr):Prop where
 ga:BA K (.ref C) "__getattribute__" = some (some (.builtin "BaseException.__getattribute__"))
 hk:BA K (.ref C) "__getattr__" = some none
 cl:BA K (.ref C) "__class__" = some (some (.builtin "object.__class__"))
 gt:PySem.W.specialIn K (.builtin "object.__class__") "__get__" = some (some (.builtin "getset_descriptor.__get__"))
 tk:PySem.W.takesIn K (.builtin "object.__class__")=some true
 ob:PySem.W.mroIn K C (.type "object")=some true
 bx:PySem.W.mroIn K C (.type "BaseException")=some true
 cs:(pE K C).isSome=true
section
variable {prog:cw}{w:eI}{A:eo}{E:ai→ar→Prop}{s:ar}{K:ag}{x C:Addr}{ob:Obj}
theorem Rt {tp:ai}{R:Result→ar→Prop} (X:K.In s.heap) (he:s.heap.get? x=some ob) (hcl:ob.cls = .ref C) (h:jU K C) (q:R (.ok (.ret (.ref C))) s) :
 uk (bt prog w) A (.call (.builtin "getset_descriptor.__get__") ⟨[.builtin "object.__class__",.ref x,tp],[]⟩) R s:=by
 obtain ⟨hp,gs,dr,tt,os⟩:=s
 have ty:=d7 (M:=bt prog w) he hcl
 have mr:=PySem.W.looks_mroIn (M:=bt prog w) X h.ob
 refine vk PySem.W.KF.slot_gs.plain PySem.W.KF.entry_gs (PySem.W.KF.slot_gs.check _ _ _ _ _ _ _ _ PySem.W.KF.type_class (PySem.W.KF.args_gs _ _ _) ?_)
 unfold Builtin.«getset_descriptor.__get__»;unfold descrGet;rw[PySem.W.dga_obj];refine af (av ?_)
 unfold descrGetter;unfold descrCheckInstance;unfold descrNameAndClass AN;simp only[PySem.W.KF.owner_class];repeat lk
 refine ⟨Code.quiet_builtin _ (by decide +kernel),nc PySem.W.KF.entry_class ?_⟩
 unfold Builtin.«object.__class__»;unfold shownTypeOf;repeat lk
 exact q
theorem O9 {M:vw} (X:K.In s.heap) (h:jU K C):md M s.heap (find (.ref x) (.ref C) "__class__") (.bind (.builtin "getset_descriptor.__get__") (.builtin "object.__class__")):=by
 have a1:=vn (M:=M) X h.cl
 have a2:md M s.heap (getOf (some (.builtin "object.__class__"))) (some (.builtin "getset_descriptor.__get__")):=PySem.W.looks_specialIn X h.gt
 have a3:=PySem.W.looks_takesIn (M:=M) X h.tk
 have a4:md M s.heap (dataDescriptor? (some (.builtin "object.__class__")) (some (.builtin "getset_descriptor.__get__"))) (some (.builtin "getset_descriptor.__get__",.builtin "object.__class__")):=a3.andThen PySem.W.Looks.now
 exact a1.andThen (a2.andThen (a4.andThen (PySem.W.Looks.tag PySem.W.Looks.now)))
theorem T8 {tk:Tok}{Q:Fin→ar→Prop} (X:K.In s.heap) (he:s.heap.get? x=some ob) (hcl:ob.cls = .ref C) (h:jU K C) (q:Q (.done (.ret (.ref C))) s) :
 bP (bt prog w) A (Builtin.«object.__getattribute__» ⟨[.ref x,.str "__class__" tk],[]⟩) Q E s:=by
 obtain ⟨hp,gs,dr,tt,os⟩:=s
 have ty:=d7 (M:=bt prog w) he hcl
 have fd:=O9 (M:=bt prog w) (x:=x) (s:=⟨hp,gs,dr,tt,os⟩) X h
 unfold Builtin.«object.__getattribute__»
 refine af (av ?_)
 refine af (av ?_)
 refine af (ty.at (af (fd.at ?_)))
 show bP _ _ (bindTo _ _ _ _) _ _ _
 unfold bindTo
 refine af (gi (wm (Rt X he hcl h ?_)))
 exact av q
theorem JX {M:vw}{nv:ai}{Q:Unit→ar→Prop} (X:K.In s.heap) (he:s.heap.get? x=some ob) (hcl:ob.cls = .ref C) (h:jU K C) (q:Q () s) :
 bP M A (ov "BaseException.__getattribute__" ⟨[.ref x,nv],[]⟩) Q E s:=by
 have isb:md M s.heap (AN (.ref x) (.type "BaseException")) true:=(d7 (M:=M) he hcl).andThen (PySem.W.looks_mroIn X h.bx)
 have k1:builtinKind "BaseException.__getattribute__" = some .slot:=by decide +kernel
 have k2:splitId "BaseException.__getattribute__" = some ("BaseException", "__getattribute__"):=by decide +kernel
 have k3:=F.args_bexc_ga (.ref x) nv
 simp only[ov,k1,k2]
 refine af (isb.at ?_)
 repeat (first | assumption | wp_step)
theorem Q6 {Q:Option ai→ar→Prop} (X:K.In s.heap) (he:s.heap.get? x=some ob) (hcl:ob.cls = .ref C) (h:jU K C) (q:Q (some (.ref C)) { s with toks:=s.toks+1 }) :
 bP (bt prog w) A (getAttr? (.ref x) "__class__") Q E s:=by
 obtain ⟨hp,gs,dr,tt,os⟩:=s
 have ty:=d7 (M:=bt prog w) he hcl
 have l1:=vn (M:=bt prog w) X h.ga
 have l2:=vn (M:=bt prog w) X h.hk
 unfold getAttr? getAttrBy? getAttrBy
 refine af (wpAny_mkText (af (pz (gi (af (ty.at (af (l1.at ?_))))))))
 show bP _ _ (getAttrByItsOwn _ _ _ _ _ _) _ _ _
 unfold getAttrByItsOwn hookBefore
 refine af ?_
 show bP _ _ (typeLookup (.ref C) "__getattr__") _ _ _
 refine l2.at (af (pz (gi ?_)))
 show bP _ _ (boundAndCalled _ _ _) _ _ _
 unfold boundAndCalled
 rw[F.excAttr_ValueError.ga.bind (.ref x)]
 refine af (av (wm (vk F.excAttr_ValueError.ga.plain F.entry_bexc_ga (JX X he hcl h (T8 X he hcl h ?_)))))
 exact av (av q)
end
end L3
namespace L3
open PySem PySem.Spec PySem.Calls PyProof.Rows L2 Builtin Builtin.ObjectAttr
section
variable {prog:cw}{w:eI}{A:eo}{E:ai→ar→Prop}{s:ar}{K:ag}{x C:Addr}{ob:Obj}{c:ai}{Q:ai→ar→Prop}
theorem Vd (X:K.In s.heap) (he:s.heap.get? x=some ob) (hcl:ob.cls = .ref C) (t:jU K C) (hk:eL K (.ref C) c=some false) (hne:(dQ C == c)=false) (h:∀tk,Q (.bool false) { s with toks:=tk }) :
 bP (bt prog w) A (call (.builtin "isinstance") [.ref x,c]) Q E s:=by
 refine AV (S:=fun _ R s=>(K.In s.heap∧s.heap.get? x=some ob)∧∀tk,R (.ok (.ret (.bool false))) { s with toks:=tk }) (fun prog w A R s hs=>AA ?_ (by intro z;cases z)) ⟨⟨X,he⟩,h⟩
 obtain ⟨h0,g,d,tt,os⟩:=s
 obtain ⟨⟨X',he'⟩,hq⟩:=hs
 unfold Builtin.«isinstance.nested»
 refine af ((d7 he' hcl).at ?_)
 rw[if_neg (by rw[hne];decide)]
 obtain ⟨hty,his,hsub⟩:=PySem.W.kit_cls (M:=bt prog w) X' hk
 have li:md (bt prog w) h0 (AN (.ref x) c) false:=(d7 he' hcl).andThen hsub
 refine af (hty.at ?_)
 rw[if_pos (by decide)]
 open PySem.W in (k_delta "plainIsInstance")
 refine af (af (his.at ?_));simp only[ia,aT,if_false]
 refine af (li.at ?_);simp only[aT,if_false]
 refine af (Q6 X' he' hcl t (af ((uq X' t.cs).at ?_)))
 simp only[ia,aT,if_false]
 refine af (i4 (hsub.at ?_))
 first
  | exact av (hq _)
  | exact av (av (hq _))
  | exact af (av (av (hq _)))
theorem Q8 (he:s.heap.get? x=some ob) (hcl:ob.cls = .ref C) (h:∀tk,Q (.bool true) { s with toks:=tk }) :
 bP (bt prog w) A (call (.builtin "isinstance") [.ref x,.ref C]) Q E s:=by
 refine AV (S:=fun _ R s=>s.heap.get? x=some ob∧∀tk,R (.ok (.ret (.bool true))) { s with toks:=tk }) (fun prog w A R s hs=>AA ?_ (by intro z;cases z)) ⟨he,h⟩
 obtain ⟨h0,g,d,tt,os⟩:=s
 obtain ⟨he',hq⟩:=hs
 unfold Builtin.«isinstance.nested»
 refine af ((d7 he' hcl).at ?_)
 rw[if_pos (by simp)]
 exact af (i4 (av (hq tt)))
end
inductive IsB (K:ag) (C:Addr):ai→Bool→Prop where
 | self:IsB K C (.ref C) true
 | yes {c:ai} (hk:eL K (.ref C) c=some true) (hne:(dQ C == c)=false):IsB K C c true
 | no {c:ai} (t:jU K C) (hk:eL K (.ref C) c=some false) (hne:(dQ C == c)=false):IsB K C c false
noncomputable def eX (i:Nat) (d:ae):ME:=fun Γ=>match gv Γ i with
 | some _=>.ok d
 | none=>.bad
section
variable {X:Cx}{C:Addr}{O:List Fl}{K:ag}
theorem S6 {i:Nat}{d e:ae}{Γ:Ev} (h:eX i d Γ = .ok e):e=d∧∃m,gv Γ i=some m:=by
 unfold eX at h
 cases q:gv Γ i with
 | none=>rw[q] at h;cases h
 | some m=>rw[q] at h;cases h;exact ⟨rfl,m,rfl⟩
theorem MK {cv:V}{c:ai}{b:Bool} (hb:IsB X.K C c b) (hr:∀u,RelV cv u→u=c):fK X (.builtin "isinstance") (fun xs H Q=>∃p ob,xs=[.ref p,cv]∧H p=some (.frz ob (.own 0))∧ob.cls = .ref C∧Q (.bl b) H):=by
 intro pins s σ H xs us Q I r h
 obtain ⟨p,ob,rfl,hp,hcl,q⟩:=h
 obtain ⟨u1,u2,rfl,r1,r2⟩:=r.two
 cases r1
 cases hr _ r2
 have he:s.heap.get? p=some ob:=(I.hok p _ hp).1
 cases hb with
 | self=>exact Q8 he hcl fun tk=>⟨.bl true,H,I.tok _,rfl,q⟩
 | yes hk hne=>exact VV (K:=X.K) I.kIn he hcl hk hne fun tk=>⟨.bl true,H,I.tok _,rfl,q⟩
 | no t hk hne=>exact Vd (K:=X.K) I.kIn he hcl t hk hne fun tk=>⟨.bl false,H,I.tok _,rfl,q⟩
theorem lH (i:Nat) {b:Expr}{cv:V}{c:ai}{bb:Bool}{x:Str}{p1 p2 pos:Pos} (hi:fl O i = .exc C) (hb:IsB X.K C c bb) (hr:∀u,RelV cv u→u=c) (hgi:Gl X "isinstance") (hmi:X.mg "isinstance" = none) (hc:PE X b (tC cv)) (hN:X.N[i]?=some x:=by rfl)
 (hv:Vis X.env.scope x:=by first | exact cb rfl | exact g9 (cb rfl) | exact g9 (g9 rfl)) (hd:(x == ("__debug__" : Str))=false:=by decide) (hcd:(x == ("__classdict__" : Str))=false:=by decide) (h2:noStar b=true:=by rfl) :
 QE X (.Call (.Name "isinstance" p1) [.Name x p2,b] [] pos) (tE X.K O (eX i (.bool bb))):=
 QE.imp (wR (MK hb hr) hgi hmi (show bo "isinstance" = some (.builtin "isinstance") by decide +kernel) (cV (il (i:=i) hN hv hd hcd) (cV hc fX (bO h2)) (bO rfl)) (by decide) (by decide) (bO rfl) (gA (by simp[eQ,h2]))) fun σ H Q h=>by
  obtain ⟨A,B,Γ,d,r,em,k⟩:=h
  obtain ⟨rfl,m,hm⟩:=S6 em
  obtain ⟨v,ev,q⟩:=r.slot i m hm
  rw[hi] at q
  obtain ⟨p,ob,rfl,hA,hcl⟩:=q
  exact ⟨.ref p,jc ev,p,ob,rfl,r.a _ _ hA,hcl,k _ A H (aP.refl r.a) (Rp.bool.mpr rfl)⟩
theorem Xm (i:Nat) {x:Str}{p1 p2 pos:Pos}{jj} (hi:fl O i = .exc C) (hN:X.N[i]?=some x:=by rfl)
 (hv:Vis X.env.scope x:=by first | exact cb rfl | exact g9 (cb rfl) | exact g9 (g9 rfl)) (hd:(x == ("__debug__" : Str))=false:=by decide) (hcd:(x == ("__classdict__" : Str))=false:=by decide) (hm:kG .Is (.Constant .none jj p2)=false:=by rfl) :
 QT X (.Compare (.Name x p1) [.Is] [.Constant .none jj p2] pos) (tT X.K O (eX i (.bool false))):=
 QT.imp (Ht Ou (il (i:=i) hN hv hd hcd) Nx hm) fun σ H Q h=>by
  obtain ⟨A,B,Γ,d,r,em,k⟩:=h
  obtain ⟨e,m,hm⟩:=S6 em
  cases e
  obtain ⟨v,ev,q⟩:=r.slot i m hm
  rw[hi] at q
  obtain ⟨p,ob,rfl,hA,hcl⟩:=q
  exact ⟨.ref p,jc ev,rfl,false,rfl,k A H (aP.refl r.a)⟩
end
noncomputable def spE (K:ag) (C:Addr) (f:List ae→Res ae):Sp:=fun vs H Q _=>∃A v d,aH A H∧vs=[v]∧QH A C v∧f [.str "exc"] = .ok d∧∀v' A' H',aP A H A' H'→Rp K A' d v'→Q v' H'
section
variable {P:cw}{w:eI}{K:ag}{mg:Str→Option ai}{base:Heap}
theorem Vo {x:Str}{st:Stmt}{N ps:List Str}{k:Nat}{C:Addr}{O O' Ol:List Fl}{m:MS} (F:At K mg x st ps) (S:bL N ps (aC st)) (hf:ps.length=1) (hn:1≤N.length) (hO:fl O 0 = .exc C)
 (hbody:∀(f:Addr) (cdv:ai) (A:eo) (outer:List Env) (s:ar) (H:Hp) (E:XK),dg k (A.deeper (iX x (aC st) s.heap.objs.size f cdv)) →
  QSs (kh CX0 P w K mg base N x (aC st) f cdv A outer s H E).nox (aU st) (tS K .f Ol O O' m)):Def P w K mg base (k+1) x ps (spE K C (fnR N.length m)):=by
 refine F.ok S (fun vs H Q E h=>?_) (fun f cdv A outer s H vs Q E hr h=>?_)
 · obtain ⟨A,v,d,_,rfl,_⟩:=h
   rw[hf];rfl
 · obtain ⟨A',v,d,ha,rfl,hx,em,q⟩:=h
   obtain ⟨o,e1,em⟩:=Res.aF em
   cases o with
   | rt d'=>
    cases em
    refine ⟨_,(hbody f cdv A outer s H E hr).h,A',H,_,_,⟨ha,aH.refl _,?_,fun i e he=>?_,fun i j hij h1 h2 h3 h4=>?_⟩,e1,fun v A2 H2 s1 s2 sa nw rv=>q v A2 H2 ⟨sa,s2,s1,nw⟩ rv⟩
    · unfold L2.start
      simp
    · cases i with
      | zero=>
       rw[hO]
       exact ⟨v,rfl,hx⟩
      | succ i=>
       exfalso
       unfold gv at he
       rw[ax,dk,jI,List.singleton_append,AD,iq] at he
       split at he <;> cases he
    · have z:∀i,gv (([.str "exc"]:List ae).map some++b9 (N.length - ([.str "exc"]:List ae).length) none) i≠none→i=0:=fun i hi=>by
       cases i with
       | zero=>rfl
       | succ i=>
        exfalso
        apply hi
        unfold gv
        rw[ax,dk,jI,List.singleton_append,AD,iq]
        split <;> rfl
      rw[z i h3,z j h4] at hij
      exact absurd rfl hij
   | _=>cases em
end
section
variable {X:Cx}{C:Addr}{O:List Fl}{k:Nat}{fn:Str}{ps:List Str}{f:List ae→Res ae}
noncomputable def vq (i:Nat) (f:List ae→Res ae):ME:=fun Γ=>match gv Γ i with
 | some _=>f [.str "exc"]
 | none=>.bad
theorem SM (i:Nat) {x:Str}{p p2 pos:Pos} (hi:fl O i = .exc C) (F:Def X.prog X.w X.K X.mg X.base k fn ps (spE X.K C f)) (hr:dg k X.A) (hg:Gl X fn) (hdb:(fn == ("__debug__" : Str))=false:=by decide) (hN:X.N[i]?=some x:=by rfl)
 (hv:Vis X.env.scope x:=by first | exact cb rfl | exact g9 (cb rfl) | exact g9 (g9 rfl)) (hd:(x == ("__debug__" : Str))=false:=by decide) (hcd:(x == ("__classdict__" : Str))=false:=by decide) :
 QE X (.Call (.Name fn p) [.Name x p2] [] pos) (tE X.K O (vq i f)):=
 QE.imp (Dr F hr hg (cV (il (i:=i) hN hv hd hcd) fX (bO rfl)) hdb (bO rfl) (gA rfl)) fun σ H Q h=>by
  obtain ⟨A,B,Γ,d,r,em,k⟩:=h
  unfold vq at em
  cases hm:gv Γ i with
  | none=>rw[hm] at em;cases em
  | some m=>
   rw[hm] at em
   obtain ⟨v,ev,q⟩:=r.slot i m hm
   rw[hi] at q
   refine ⟨v,jc ev,?_⟩
   show spE X.K C f ([v]++[]) H Q E0
   exact ⟨A,v,d,r.a,rfl,q,em,k⟩
end
end L3
namespace L3
open PySem PySem.Spec PyProof.Rows L2
theorem aV.aae {K:ag}{A B H:Hp}{O:List Fl}{σ:L2.St}{Γ:Ev}{i:Nat}{C:Addr}{d:ae}{v:V} (r:aV K A B H O σ Γ) (hi:i < Γ.length) (hO:i < O.length) (p:QH A C v):aV K A B H (O.set i (.exc C)) (σ.set i (some v)) (Γ.set i (some d)):=by
 have hs:i < σ.length:=by rw[← r.len];exact hi
 refine ⟨r.a,r.b,by rw[fI,fI];exact r.len,fun j=>?_,fun j k hjk h1 h2 h3 h4=>?_⟩
 · by_cases hj:i=j
   · subst hj
     unfold fl gv sv
     rw[bU hO,bU hi,bU hs]
     exact fun d' e=>⟨v,rfl,p⟩
   · unfold fl gv sv
     rw[aQ hj,aQ hj,aQ hj]
     exact r.slot j
 · have hj:i≠j:=fun z=>by subst z;unfold fl at h1;rw[bU hO] at h1;cases h1
   have hk:i≠k:=fun z=>by subst z;unfold fl at h2;rw[bU hO] at h2;cases h2
   unfold fl at h1 h2
   unfold gv at h3 h4
   rw[aQ hj] at h1 h3
   rw[aQ hk] at h2 h4
   unfold sv
   rw[aQ hj,aQ hk]
   exact r.sep j k hjk h1 h2 h3 h4
structure XS (X:Cx) (O:List Fl) (C:Addr) (st:Stmt) (z:MZ):Prop where
 h:∀(pins:List (Addr×Obj)) (s:ar) (σ:L2.St) (H A B:Hp) (Γ:Ev) (c:Str) (Ex:ai→ar→Prop),L2.Inv X pins σ H s→aV X.K A B H O σ Γ→z Γ = .ok c →
  (∀er s' s1 H1 A1,L2.Inv X pins σ H1 s1→aP A H A1 H1→CXE X.prog X.w X.stack H1 s1 (fun cv _ H'=>cv = .ref C∧∃A',aP A1 H1 A' H') er s'→Ex er s') →
  bP (bt X.prog X.w) X.A (exec st X.env) (fun _ _=>False) Ex s
noncomputable def j5 (zf:List ae→Res Str) (ms:List ME):MZ:=fun Γ=>(evs ms Γ).bind zf
section
variable {X:Cx}{k:Nat}{fn:Str}{ps:List Str}{fs:List Fl}{zf:List ae→Res Str}{O Ol:List Fl}{rm:Rm}{ms:List ME}{pf pc pos px pa:Pos}{e:Expr}{es:List Expr}{C:Addr}
theorem Mg {xn:Str} (hnx:∀er s',¬ X.xe er s') (F:DefX X.prog X.w X.K X.mg X.base k fn ps (spZ X.K fs (fun _=>C) zf)) (hr:dg k X.A) (hg:Gl X fn) (ha:QA X (e::es) (tAr X.K O fs ms))
 (hdb:(fn == ("__debug__" : Str))=false:=by decide) (he:noStar e=true:=by rfl) (hpl:eQ es=true:=by rfl) (hs:j3 (.Call (.Name fn pf) (e::es) [] pc) (some (.Name xn px)) pa.line X.env=pure false:=by rfl) :
 XS X O C (.Assign [.Name xn px] (.Call (.Name fn pf) (e::es) [] pc) pa) (j5 zf ms):=⟨fun pins s σ H A B Γ c Ex I r ez k=>by
 obtain ⟨ds,e1,ez⟩:=Res.aF ez
 exact x6 (gc (Ti I F hr hg ha hnx r e1 ez k hdb he hpl) (fun v s1 z=>z.elim) fun er s1 z=>z) hs⟩
end
noncomputable def vR (ie iy:Nat) (m1:MS) (z:MZ) (mn mx:MS):MS:=fun Γ=>match m1 Γ with
 | .ok (.nx Γ')=>mn Γ'
 | _=>(z Γ).bind fun _=>gd (iy < Γ.length∧gv Γ ie=none) (mx (Γ.set iy (some (.str "exc"))))
section
variable {X:Cx}{O O1 O' Ol:List Fl}{rm:Rm}{C TA:Addr}{st:Stmt}{rest:List Stmt}{m1 mn mx:MS}{z:MZ}{T en yn:Str}{np pos2 px pe pa pos:Pos}
end
noncomputable def Wt:ME:=fun _=>.bad
theorem Yn {X:Cx}{K:ag}{O:List Fl}{e:Expr}:QE X e (tE K O Wt):=⟨fun pins s σ H Q I h=>by
 obtain ⟨A,B,Γ,d,r,em,k⟩:=h
 cases em⟩
section
variable {X:Cx}{pins:List (Addr×Obj)}{σ:L2.St}{H:Hp}{s:ar}
end
section
variable {X:Cx}{O O1 Ol:List Fl}{rm:Rm}{C TA:Addr}{st:Stmt}{m1:MS}{z:MZ}{T yn:Str}{kj}{np pos2 px pe pa pos:Pos}
end
noncomputable def vL (X:Cx) (cl:Str→Addr) (XE:Str→Hp→Prop):Prop:=∀(pins:List (Addr×Obj)) (σ:L2.St) (H1 A1:Hp) (s1:ar) (er:ai) (s':ar) (c:Str),L2.Inv X pins σ H1 s1 →
 CXE X.prog X.w X.stack H1 s1 (fun cv _ H'=>cv = .ref (cl c)∧∃A',aP A1 H1 A' H') er s'→(∀A' H',aP A1 H1 A' H'→XE c H')→X.xe er s'
theorem zj {P:cw}{w:eI}{K:ag}{mg:Str→Option ai}{base:Heap}{N:List Str}{qual:Str}{scope:si}{f:Addr}{cd:ai}{A:eo}{outer:List Env}{s:ar}{H:Hp}{E:XK}{cl:Str→Addr} :
 vL (kh (CXE P w) P w K mg base N qual scope f cd A outer s H E) cl (fun c H1=>E (.ref (cl c)) none H1):=by
 intro pins σ H1 A1 s1 er s' c I hx hE
 obtain ⟨ea,t,C,B,H',rfl,hos,hbare,fly,hB,DX,un,hC,A',gr⟩:=hx
 cases hC
 have hbase:Un (frs outer) [] H H1 s.heap s1.heap:=I.base
 have hin:∀b,b∈frs (iX qual scope s.heap.objs.size f cd::outer)→b=s.heap.objs.size∨b∈frs outer:=fun b hb=>by
  have hb:b∈(iX qual scope s.heap.objs.size f cd::outer).filterMap (·.frame):=hb
  obtain ⟨en,he,hf⟩:=fx.mp hb
  rcases be.mp he with rfl | he
  · left;exact (Option.some.inj hf).symm
  · right;exact fx.mpr ⟨en,he,hf⟩
 have old:∀b o,s.heap.get? b=some o→b∉frs outer→b∉frs (iX qual scope s.heap.objs.size f cd::outer):=fun b o e n z=>by
  rcases hin b z with q | q
  · subst q;exact absurd (bE e) (hZ _)
  · exact n q
 have inB:∀b o,s.heap.get? b=some o→b∉frs outer→H b=none→B.get? b=some o:=fun b o eb n hn=>hB b o (hbase.keep b o eb hn n (by simp)) (old b o eb n) (hbase.free b o eb hn (by simp))
 have hst:frs (kh (CXE P w) P w K mg base N qual scope f cd A outer s H E).stack=frs (iX qual scope s.heap.objs.size f cd::outer):=rfl
 show bP (bt P w) _ (leaving (iX qual scope s.heap.objs.size f cd) (.ref ea)) _ _ _
 refine wpAny_leaves_onW (base:=B) (L:=s.heap.objs.size) (cls:=.ref (cl c)) (a0:=.ref t) I.ok.frames rfl fly fun h'' JG up=>?_
 have hok':HOk P w H' h'':=DX.kept fun b u e=>JG.1 b u e
 refine ⟨ea,t,cl c,B,H',rfl,hos.trans I.os,hbare,JG,inB,DX,⟨fun b o eb hn n _=>JG.1 _ _ (inB b o eb n hn),fun b o eb hn hb _=>?_,fun b o eb hn _=>?_,fun b o eb _=>?_,fun b xs e=>un.tups b xs (hbase.tups b xs e),fun b o u e=>un.j8 b o u (hbase.j8 b o u e),fun b ps e=>?_⟩,hE A' H' gr⟩
 · obtain ⟨sl,q⟩:=hbase.slot b o eb hn hb (by simp)
   have hbs:b∈frs (iX qual scope s.heap.objs.size f cd::outer):=by
    obtain ⟨en,he,hf⟩:=fx.mp (show b∈outer.filterMap (·.frame) from hb)
    exact fx.mpr ⟨en,bg _ he,hf⟩
   obtain ⟨sl2,q2⟩:=un.slot b _ q (hbase.free b o eb hn (by simp)) hbs (by simp)
   obtain ⟨o',ho',hd⟩:=dY fly.2.2.1 hbs
   rw[q2] at ho'
   cases ho'
   obtain ⟨sl',q'⟩:=up b _ q2 hd
   exact ⟨sl',q'⟩
 · obtain ⟨o',q⟩:=hbase.there b o eb (by simp)
   exact un.free b o' q (hbase.free b o eb hn (by simp)) (by simp)
 · by_cases hf:b∈frs (iX qual scope s.heap.objs.size f cd::outer)
   · obtain ⟨o',ho',hd⟩:=dY fly.2.2.1 hf
     obtain ⟨sl',q'⟩:=up b _ ho' hd
     exact ⟨_,q'⟩
   · obtain ⟨o',q⟩:=hbase.there b o eb (by simp)
     cases hH:H1 b with
     | none=>exact ⟨o',JG.1 _ _ (hB b o' q hf hH)⟩
     | some u=>exact vy hok' (gr.hh b u hH)
 · obtain ⟨m1,e1⟩:=hbase.lG b ps e
   obtain ⟨m2,e2⟩:=un.lG b _ e1
   exact ⟨m1++m2,by rw[← Array.append_assoc];exact e2⟩
section
variable {X:Cx}{pins:List (Addr×Obj)}{σ:L2.St}{H A B:Hp}{s:ar}{Γ:Ev}{O:List Fl}
theorem Tz {k:Nat}{f:Str}{ps:List Str}{fs:List Fl}{cl:Str→Addr}{zf:List ae→Res Str}{ms:List ME}{p pos:Pos}{e:Expr}{es:List Expr}{ds:List ae}{c:Str}{XE:Str→Hp→Prop}
 (I:L2.Inv X pins σ H s) (F:DefX X.prog X.w X.K X.mg X.base k f ps (spZ X.K fs cl zf)) (hr:dg k X.A) (hg:Gl X f) (ha:QA X (e::es) (tAr X.K O fs ms)) (hl:vL X cl XE) (r:aV X.K A B H O σ Γ) (e1:evs ms Γ = .ok ds) (ez:zf ds = .ok c)
 (hE:∀A' H',aH A' H'→aH B H'→aH A A'→New A A' B→XE c H')
 (hdb:(f == ("__debug__" : Str))=false:=by decide) (he:noStar e=true:=by rfl) (hpl:eQ es=true:=by rfl) :
 bP (bt X.prog X.w) X.A (eval (.Call (.Name f p) (e::es) [] pos) X.env) (fun _ _=>False) X.xe s:=by
 obtain ⟨fa,fd,F,hb,kp,hm⟩:=F.ex
 refine mB (oU I hg hm ?_ hdb)
 refine wo (h₀:=X.base) I.ok.mod.kin kp (gc (ha.h pos pins s σ H (fun vs H1=>∃A1,aP A H A1 H1∧jB X.K A1 H1 fs ds vs) I ⟨A,B,Γ,ds,r,e1,fun vs A1 H1 g p=>⟨A1,g,p⟩⟩) (fun us s1 z=>?_) fun er s' z=>z) (bO he) (gA hpl)
 obtain ⟨vs,H1,I1,rv,A1,g1,p1⟩:=z
 refine ⟨I1.kIn,?_⟩
 have hl2:us.length=ps.length:=by
  rw[← rv.length]
  exact F.len vs H1 (fun _ _=>False) (fun _ _ _=>True) ⟨A1,ds,c,g1.ah,p1,ez,fun _ _ _=>trivial⟩
 refine wm (qS (F.run X.A X.stack s1 H1 ⟨us,[]⟩ us vs (fun _ _=>False) (fun cv _ H'=>cv = .ref (cl c)∧∃A',aP A1 H1 A' H') hr I1.env0 (by have:=hb s1 us I1.kIn (by rw[fq];exact hl2);rw[fq] at this;exact this) rv ⟨A1,ds,c,g1.ah,p1,ez,fun A' H' g=>⟨rfl,A',g⟩⟩) fun rr s' hq=>?_)
 cases rr with
 | error er=>
  refine hl pins σ H1 A1 s1 er s' c I1 hq fun A' H' g=>?_
  have gg:=g1.trans g
  exact hE A' H' gg.ah (r.b.trans gg.hh) gg.aa (gg.nB r.b)
 | ok fl=>
  cases fl with
  | ret u=>obtain ⟨v,H',_,_,_,_,_,q⟩:=hq;exact q.elim
  | next=>exact hq.elim
  | brk=>exact hq.elim
  | cont=>exact hq.elim
end
section
variable {X:Cx}{k:Nat}{fn:Str}{ps:List Str}{fs:List Fl}{cl:Str→Addr}{zf:List ae→Res Str}{O Ol:List Fl}{rm:Rm}{ms:List ME}{pf pc pos px pa:Pos}{e tg:Expr}{es:List Expr}{XE:Str→Hp→Prop}{body:List Stmt}
theorem ZW (F:DefX X.prog X.w X.K X.mg X.base k fn ps (spZ X.K fs cl zf)) (hr:dg k X.A) (hg:Gl X fn) (ha:QA X (e::es) (tAr X.K O fs ms)) (hl:vL X cl XE)
 (hdb:(fn == ("__debug__" : Str))=false:=by decide) (he:noStar e=true:=by rfl) (hpl:eQ es=true:=by rfl) (hs:j3 (.Call (.Name fn pf) (e::es) [] pc) none pa.line X.env=pure false:=by rfl) :
 QS X (.Expr (.Call (.Name fn pf) (e::es) [] pc) pa) (tZ X.K O XE (j5 zf ms)):=⟨fun pins s σ H D I h=>by
 obtain ⟨A,B,Γ,c,r,em,k⟩:=h
 obtain ⟨ds,e1,ez⟩:=Res.aF em
 exact wpAny_Expr_any (gc (Tz I F hr hg ha hl r e1 ez k hdb he hpl) (fun v s1 z=>z.elim) fun er s1 z=>z) I.quiet hs⟩
end
section
variable {X:Cx}{rm:Rm}{O:List Fl}{is:List Nat}{g:MG}{it:MI}{cl:List Nat}{mb:MS}{zb:MZ}{tg iter:Expr}{body:List Stmt}{pos:Pos}{XE:Str→Hp→Prop}
end
section
variable {X:Cx}{O:List Fl}{m:ME}{e:Expr}{p p2 pos pos2:Pos}
end
end L3
namespace PySem
open Sem (wp)
section
variable {prog:cw}{w:eI}{A:eo}{E:ai→ar→Prop}{s:ar}
end
end PySem
namespace L2
open PySem PySem.Spec PyProof.Rows
section
variable {P:cw}{w:eI}{A:eo}{E:ai→ar→Prop}{s:ar}
end
section
variable {P:cw}{w:eI}{A:eo}{R:Result→ar→Prop}{I:Addr}{fp wr:List Addr}{G:Array A6→Array A6→Prop}{n:Nat}{Pv:Nat→ai→Prop}{St:Nat→ar→Prop}
end
section
variable {P:cw}{w:eI}{A:eo}{E:ai→ar→Prop}{s:ar}
end
end L2
namespace L3
open PySem PySem.Spec PyProof.Rows L2
section
variable {X:Cx}{O:List Fl}{m:ME}{e:Expr}{ta:TA}{p p2 pos pos2:Pos}
end
section
variable {K:ag}{A B H:Hp}{O:List Fl}{σ:L2.St}{Γ:Ev}{q:Nat}{p:Addr}
end
section
variable {X:Cx}{rm:Rm}{Ol O:List Fl}{is:List Nat}{g:MG}{cl:List Nat}{mb:MS}{tg:Expr}{body:List Stmt}{pos py:Pos}{y:Str}
end
noncomputable def mj (c:ME) (cl:List Nat) (b:MS) (zb:MZ):Nat→MZ
 | 0,_=>.bad
 | n+1,Γ=>(c Γ).bind fun x=>match x with
  | .bool true=>(match b Γ with
   | .ok (.nx Γ2)=>mj c cl b zb n (clr cl Γ2)
   | _=>zb Γ)
  | _=>.bad
noncomputable def yV (fuel:Nat) (c:ME) (cl:List Nat) (b:MS) (zb:MZ):MZ:=fun Γ=>mj c cl b zb fuel Γ
section
variable {X:Cx}{rm:Rm}{O:List Fl}{cl:List Nat}{mb:MS}{mc:ME}{zb:MZ}{c:Expr}{body:List Stmt}{pos:Pos}{XE:Str→Hp→Prop}
theorem Rr (hp:BD (bt X.prog X.w) X.A X.env X.xe) (fuel:Nat) (cl:List Nat) {Oe:List Fl} (hc:QT X c (tT X.K O mc)) (hb:QSs X body (tS X.K rm Oe O Oe mb)) (hz:QSs X body (tZ X.K O XE zb)) (hE:wj O Oe cl=true):QS X (.While c body [] pos) (tZ X.K O XE (yV fuel mc cl mb zb)):=by
 have hbz:PSs X body (fun D σ H=>tS X.K rm Oe O Oe mb D σ H∨tZ X.K O XE zb D σ H):=fun pins s σ H D I h=>by
  rcases h with h | h
  · exact hb.h pins s σ H D I h
  · exact hz.h pins s σ H D I h
 refine QS.imp (Fz hp hc.h hbz) fun D σ H aA=>?_
 obtain ⟨A,B,Γ,o,r,em,k⟩:=aA
 refine ⟨fun n σ' H'=>∃A2 Γ2,aV X.K A2 B H' O σ' Γ2∧aH A A2∧New A A2 B∧mj mc cl mb zb n Γ2 = .ok o,⟨fuel,A,Γ,r,aH.refl _,fun _ h _=>h,em⟩,?_⟩
 rintro n σ' H' ⟨A2,Γ2,r2,sa,nw,e2⟩
 cases n with
 | zero=>cases e2
 | succ n=>
  obtain ⟨x,e3,e2⟩:=Res.aF e2
  cases x with
  | bool bb=>
   refine ⟨A2,B,Γ2,bb,r2,e3,fun A3 H3 g3=>?_⟩
   have sa3:=sa.trans g3.aa
   have nw3:New A A3 B:=nw.trans (g3.nB r2.b)
   cases bb with
   | false=>cases e2
   | true=>
    refine uL ⟨fun σ'' H''=>∃A2 Γ2,aV X.K A2 B H'' O σ'' Γ2∧aH A A2∧New A A2 B∧mj mc cl mb zb n Γ2 = .ok o,fun σ'' H'' h=>⟨n,mo _,h⟩,?_⟩
    have e2:(match mb Γ2 with
     | .ok (.nx Γ2)=>mj mc cl mb zb n (clr cl Γ2)
     | _=>zb Γ2)=Res.ok o:=e2
    by_cases hq:∃Γ4,mb Γ2 = .ok (.nx Γ4)
    · obtain ⟨Γ4,hq⟩:=hq
      rw[hq] at e2
      exact .inl ⟨A3,B,Γ2,_,r2.grow g3,hq,fun σ5 A5 H5 r5 s5 n5=>⟨A5,clr cl Γ4,r5.lM hE,sa3.trans s5,nw3.trans n5,e2⟩⟩
    · have e2:zb Γ2 = .ok o:=by
       revert e2
       split
       · rename_i Γ' e;exact absurd ⟨Γ',e⟩ hq
       · exact id
      exact .inr ⟨A3,B,Γ2,o,r2.grow g3,e2,fun A5 H5 q1 q2 q3 q4=>k A5 H5 q1 q2 (sa3.trans q3) (nw3.trans q4)⟩
  | _=>cases e2
end
section
variable {X:Cx}{k:Nat}{fn:Str}{ps:List Str}{fs:List Fl}{cl:Str→Addr}{zf:List ae→Res Str}{O:List Fl}{ms:List ME}{pf pc pa px:Pos}{e ix:Expr}{es:List Expr}{XE:Str→Hp→Prop}
end
section
variable {X:Cx}{k:Nat}{fn:Str}{ps:List Str}{fs:List Fl}{f:List ae→Res ae}{zf:List ae→Res Str}{O Ol:List Fl}{rm:Rm}{ms:List ME}{pf pc pos px pa:Pos}{e:Expr}{es:List Expr}
end
structure XSs (X:Cx) (O:List Fl) (C:Addr) (sts:List Stmt) (z:MZ):Prop where
 h:∀(pins:List (Addr×Obj)) (s:ar) (σ:L2.St) (H A B:Hp) (Γ:Ev) (c:Str) (Ex:ai→ar→Prop),L2.Inv X pins σ H s→aV X.K A B H O σ Γ→z Γ = .ok c →
  (∀er s' s1 H1 A1,L2.Inv X pins σ H1 s1→aP A H A1 H1→CXE X.prog X.w X.stack H1 s1 (fun cv _ H'=>cv = .ref C∧∃A',aP A1 H1 A' H') er s'→Ex er s') →
  bP (bt X.prog X.w) X.A (execs sts X.env) (fun _ _=>False) Ex s
section
variable {X:Cx}{O:List Fl}{C:Addr}{ce:Expr}{a:Stmt}{rest:List Stmt}{m:ME}{z z1 z2:MZ}{pos:Pos}
theorem U5:XSs X O C rest zNo:=⟨fun pins s σ H A B Γ c Ex I r ez k=>nomatch ez⟩
theorem TX (h:XS X O C a z):XSs X O C [a] z:=⟨fun pins s σ H A B Γ c Ex I r ez k=>t5 (gc (h.h pins s σ H A B Γ c Ex I r ez k) (fun _ _ z=>z.elim) fun _ _ z=>z)⟩
theorem Gi (hnx:∀er s',¬ X.xe er s') (hc:QT X ce (tT X.K O m)) (ha:XS X O C a z1) (hb:XSs X O C rest z2):XSs X O C (.If ce [a] [] pos::rest) (zIf m z1 z2):=⟨fun pins s σ H A B Γ c Ex I r ez k=>by
 obtain ⟨d1,e1,ez⟩:=Res.aF ez
 cases d1 with
 | bool bb=>
  refine t5 (wpAny_If (gc (hc.h pins s σ H (fun b' H1=>b'=bb∧∃A1,aP A H A1 H1) I ⟨A,B,Γ,bb,r,e1,fun A1 H1 g1=>⟨rfl,A1,g1⟩⟩) (fun d s1 z=>?_) fun er s1 z=>absurd z (hnx er s1)))
  obtain ⟨H1,I1,rfl,A1,g1⟩:=z
  cases d with
  | true=>exact gc ((TX ha).h pins s1 σ H1 A1 B Γ c Ex I1 (r.grow g1) ez fun er s' s2 H2 A2 I2 g2 hx=>k er s' s2 H2 A2 I2 (g1.trans g2) hx) (fun _ _ z=>z.elim) fun _ _ z=>z
  | false=>exact pb (hb.h pins s1 σ H1 A1 B Γ c Ex I1 (r.grow g1) ez fun er s' s2 H2 A2 I2 g2 hx=>k er s' s2 H2 A2 I2 (g1.trans g2) hx)
 | _=>cases ez⟩
end
section
variable {X:Cx}{rm:Rm}{Ol O O1 O':List Fl}{C TA:Addr}{sts rest:List Stmt}{m1 mn mx:MS}{z:MZ}{T en yn:Str}{np pe px pa pos pos2:Pos}
theorem QF (ie iy:Nat) (hnx:∀er s',¬ X.xe er s') (hst:X.stack=X.env::X.outer) (hfm:X.env.frame=some X.env.locals) (hex:X.ex=[]) (hN:X.N.Nodup)
 (hn:QSs X sts (tS X.K rm Ol O O1 m1)) (hz:XSs X O C sts z) (hrn:QSs X rest (tS X.K rm Ol O1 O' mn)) (hrx:QSs X rest (tS X.K rm Ol (O.set iy (.exc C)) O' mx))
 (hie:X.N[ie]?=some en) (hle:X.env.scope.names.lookup en=some .local) (R5:X.N[iy]?=some yn) (hly:Loc X.env.scope yn) (hC:su X.K C TA) (hg:Gl X T) (hm:X.mg T=some (.ref TA)) (hiy:ie≠iy) (hy:iy < O.length)
 (hd:(T == ("__debug__" : Str))=false:=by decide) (hde:(en == ("__debug__" : Str))=false:=by decide) (hdc:(en == ("__classdict__" : Str))=false:=by decide)
 (hs:j3 (.Name en pe) (some (.Name yn px)) pa.line X.env=pure false:=by rfl) (hf:X.fn yn=true∨X.env.scope.names.lookup yn=some .local:=by first | exact .inr rfl | exact .inl rfl) :
 QSs X (.Try sts [.ExceptHandler (some (.Name T np)) (some en) [.Assign [.Name yn px] (.Name en pe) pa] pos2] [] [] pos::rest) (tS X.K rm Ol O O' (vR ie iy m1 z mn mx)):=by
 refine ⟨fun pins s σ H D I h=>?_⟩
 obtain ⟨A,B,Γ,o,r,em,k⟩:=h
 have em:(match m1 Γ with | .ok (.nx Γ')=>mn Γ' | _=>(z Γ).bind fun _=>gd (iy < Γ.length∧gv Γ ie=none) (mx (Γ.set iy (some (.str "exc"))))) = .ok o:=em
 have hp:PS X (.Try sts [.ExceptHandler (some (.Name T np)) (some en) [.Assign [.Name yn px] (.Name en pe) pa] pos2] [] [] pos) (fun D' σ' H'=>σ'=σ∧H'=H∧∀σ2 H2,(tS X.K rm Ol O1 O' mn D σ2 H2∨tS X.K rm Ol (O.set iy (.exc C)) O' mx D σ2 H2)→D'.nx σ2 H2):=by
  intro Tw s0 σ' H' D' I0 h'
  obtain ⟨rfl,rfl,k'⟩:=h'
  by_cases hq:∃Γ',m1 Γ = .ok (.nx Γ')
  · obtain ⟨Γ',hq⟩:=hq
    rw[hq] at em
    refine wpAny_Try_except (gc (hn.h Tw s0 σ' H' D' I0 ⟨A,B,Γ,_,r,hq,fun σ2 A2 H2 r2 sa nw=>k' σ2 H2 (.inl ⟨A2,B,Γ',o,r2,em,k.sub sa nw⟩)⟩) (fun fl s1 z=>?_) fun er s1 z=>absurd z (hnx er s1))
    cases fl with
    | next=>exact pb z
    | ret v=>exact z
    | brk=>exact z
    | cont=>exact z
  · have em:(z Γ).bind (fun _=>gd (iy < Γ.length∧gv Γ ie=none) (mx (Γ.set iy (some (.str "exc"))))) = .ok o:=by
     revert em
     split
     · rename_i Γ' e;exact absurd ⟨Γ',e⟩ hq
     · exact id
    obtain ⟨c,ez,em⟩:=Res.aF em
    obtain ⟨⟨hyl,hge⟩,em⟩:=cN em
    refine wpAny_Try_except (gc (hz.h Tw s0 σ' H' A B Γ c _ I0 r ez fun er s' s1 H1 A1 I1 g1 hx=>Vx (D:=D') hst hfm hex I1 hx hN hie hle R5 hly hC hg hm hd hde hdc hiy hs hf fun ea ob H2 A2 g2 hea hcl=>?_) (fun _ _ z=>z.elim) fun _ _ z=>z)
    have gg:=(g1.trans g2).trans (aP.new (o:=.frz ob (.own 0)) (g1.trans g2).ah hea)
    have r2:=(r.grow gg).aae (C:=C) (d:=.str "exc") (v:=.ref ea) hyl hy ⟨ea,ob,rfl,bK,hcl⟩
    refine k' _ _ (.inr ⟨_,B,_,o,r2.forget ?_,em,k.sub gg.aa (gg.nB r.b)⟩)
    unfold gv at hge ⊢
    rw[aQ (p9 hiy)];exact hge
 refine sU (t:=_) (u:=fun D σ2 H2=>tS X.K rm Ol O1 O' mn D σ2 H2∨tS X.K rm Ol (O.set iy (.exc C)) O' mx D σ2 H2) hp ?_ pins s σ H D I ⟨rfl,rfl,fun σ2 H2 h=>h⟩
 intro pins s σ H D I h
 rcases h with h | h
 · exact hrn.h pins s σ H D I h
 · exact hrx.h pins s σ H D I h
end
noncomputable def oN (i j:Nat) (c:Int) (m:ME):MS:=fun Γ=>(m Γ).bind fun d=>match d,gv Γ i,gv Γ j with
 | .int n,some (.list ds),some (.list es)=>(match es[n.toNat]? with
  | some (.int y)=>gd (0≤n∧n < 1000000∧pW c y∧ds.length < bp∧i < Γ.length∧j < Γ.length) (.ok (.nx ((Γ.set j (some (.list (es.eraseIdx n.toNat)))).set i (some (.list (ds++[.int (c*2^y.toNat)]))))))
  | _=>.bad)
 | _,_,_=>.bad
theorem aB.eraseIdx {K:ag}{A:Hp}:∀{ds:List ae}{vs:List V} (k:Nat),aB K A ds vs→aB K A (ds.eraseIdx k) (vs.eraseIdx k)
 | [],vs,k,h=>by rw[aB.nil] at h;subst h;simpa using aB.nil.mpr rfl
 | d::ds,vs,k,h=>by
  rw[aB.cons] at h
  obtain ⟨v,r,rfl,h1,h⟩:=h
  cases k with
  | zero=>simpa using h
  | succ k=>
   rw[so,so,aB.cons]
   exact ⟨v,_,rfl,h1,aB.eraseIdx k h⟩
section
variable {X:Cx}{rm:Rm}{Ol O:List Fl}{m:ME}{e:Expr}{p q p1 pos apos cpos zU rN mX:Pos}{j1}
theorem Lz (i j:Nat) {c:Int}{x y:Str} (he:QE X e (tE X.K O m)) (hij:i≠j:=by decide) (hi:isO (fl O i)=true:=by rfl) (hj:isO (fl O j)=true:=by rfl) (hN:X.N[i]?=some x:=by rfl) (hN2:X.N[j]?=some y:=by rfl)
 (hv:Vis X.env.scope x:=by first | exact cb rfl | exact g9 (cb rfl) | exact g9 (g9 rfl)) (hv2:Vis X.env.scope y:=by first | exact cb rfl | exact g9 (cb rfl) | exact g9 (g9 rfl))
 (hd:(x == ("__debug__" : Str))=false:=by decide) (hcd:(x == ("__classdict__" : Str))=false:=by decide) (hd2:(y == ("__debug__" : Str))=false:=by decide) (abx:(y == ("__classdict__" : Str))=false:=by decide)
 (hbase:uS (.Name x p) "append" X.env (eval (.Name x p) X.env)=eval (.Name x p) X.env:=by rfl) (Xq:uS (.Name y q) "pop" X.env (eval (.Name y q) X.env)=eval (.Name y q) X.env:=by rfl)
 (hfew:((oC cpos (d4 [.BinOp (.Constant (.int c) j1 p1) .LShift (.Call (.Attribute (.Name y q) "pop" rN) [e] [] mX) zU] X.env)).all (fun x=>!x.1)&&(backToKw cpos (x9 [] X.env)).all (fun x=>x.1.isSome)
  && decide (([.BinOp (.Constant (.int c) j1 p1) .LShift (.Call (.Attribute (.Name y q) "pop" rN) [e] [] mX) zU]:List Expr).length+([]:List uu).length+(if ([]:List uu).isEmpty then 0 else 1) < 30))=true:=by rfl)
 (Y6:((oC mX (d4 (e::[]) X.env)).all (fun x=>!x.1)&&(backToKw mX (x9 [] X.env)).all (fun x=>x.1.isSome)
  && decide ((e::[]).length+([]:List uu).length+(if ([]:List uu).isEmpty then 0 else 1) < 30))=true:=by rfl)
 (hline:(apos.endLine == cpos.line)=true:=by rfl) (Y0:(rN.endLine == mX.line)=true:=by rfl) (hs2:d4 (e::[]) X.env=(false,eval e X.env)::d4 [] X.env:=by rfl) (hplain:(oC cpos (d4 [] X.env)).any (·.1)=false:=by rfl) (Vw:(oC mX (d4 [] X.env)).any (·.1)=false:=by rfl)
 (hs:d4 [.BinOp (.Constant (.int c) j1 p1) .LShift (.Call (.Attribute (.Name y q) "pop" rN) [e] [] mX) zU] X.env=(false,eval (.BinOp (.Constant (.int c) j1 p1) .LShift (.Call (.Attribute (.Name y q) "pop" rN) [e] [] mX) zU) X.env)::d4 [] X.env:=by rfl)
 (hsw:j3 (.Call (.Attribute (.Name x p) "append" apos) [.BinOp (.Constant (.int c) j1 p1) .LShift (.Call (.Attribute (.Name y q) "pop" rN) [e] [] mX) zU] [] cpos) none pos.line X.env=pure false:=by rfl) :
 QS X (.Expr (.Call (.Attribute (.Name x p) "append" apos) [.BinOp (.Constant (.int c) j1 p1) .LShift (.Call (.Attribute (.Name y q) "pop" rN) [e] [] mX) zU] [] cpos) pos) (tS X.K rm Ol O O (oN i j c m)):=by
 refine QS.imp (v5 (CP oo sQ ze uT (il hN hv hd hcd) (cV (IW Oz O4 (CP oo PySem.F.slot_list_pop PySem.F.type_list_pop PN (il hN2 hv2 hd2 abx) (cV he.h fX hs2) Xq Y6 Y0 hs2 Vw)) fX hs) hbase hfew hline hs hplain) hsw) fun D σ H aA=>?_
 obtain ⟨A,B,Γ,o,r,em,k⟩:=aA
 obtain ⟨d,e1,em⟩:=Res.aF em
 cases d with
 | int n=>
  cases hg:gv Γ i with
  | none=>rw[hg] at em;cases em
  | some dl=>
   cases hg2:gv Γ j with
   | none=>rw[hg,hg2] at em;cases dl <;> cases em
   | some dl2=>
    rw[hg,hg2] at em
    cases dl with
    | list ds=>
     cases dl2 with
     | list es=>
      have em:(match es[n.toNat]? with
       | some (.int y)=>gd (0≤n∧n < 1000000∧pW c y∧ds.length < bp∧i < Γ.length∧j < Γ.length) (.ok (Out.nx ((Γ.set j (some (.list (es.eraseIdx n.toNat)))).set i (some (.list (ds++[.int (c*2^y.toNat)]))))))
       | _=>.bad)=Res.ok o:=em
      cases hy:es[n.toNat]? with
      | none=>rw[hy] at em;cases em
      | some dy=>
       rw[hy] at em
       cases dy with
       | int w=>
        obtain ⟨⟨c1,c2,c3,c4,c5,c6⟩,em⟩:=cN em
        cases em
        obtain ⟨a,vs,e2,h1,h4⟩:=sV r hi hg
        obtain ⟨b,us,e3,h5,h6⟩:=sV r hj hg2
        refine ⟨.ref a,jc e2,.inl ⟨rfl,vs,SqL.of h1⟩,.ref b,jc e3,.inl ⟨rfl,us,SqL.of h5⟩,A,B,Γ,.int n,r,e1,fun v A1 H1 g1 p1=>?_⟩
        obtain ⟨u,hu,ru⟩:=h6.get' hy
        cases Rp.int.mp ru
        cases Rp.int.mp p1
        have hlt:n.toNat < us.length:=(de.mp hu).1
        have hab:a≠b:=fun z=>by
         have:=r.sep i j hij hi hj (by rw[hg];simp) (by rw[hg2];simp)
         rw[e2,e3,z] at this
         exact this rfl
        refine ⟨b,us,n,n.toNat,.int w,rfl,rfl,g1.hh _ _ h5,by omega,by omega,?_,hu,c,w,rfl,rfl,c3,a,vs,.int (c*2^w.toNat),rfl,rfl,?_,by rw[← h4.length];exact c4,?_⟩
        · have:=(IK (Uq hlt)).1
          rw[show ((n.toNat:Nat):Int)=n by omega] at this
          exact this
        · rw[bu hab];exact g1.hh _ _ h1
        · have r1:=(r.grow g1).change hj c6 (by rw[hg2];simp) e3 (g1.hh _ _ h5) (.inl ⟨_,_,rfl,rfl,aB.eraseIdx n.toNat (aB.mono g1.aa _ h6)⟩)
          have hgi:gv (Γ.set j (some (.list (es.eraseIdx n.toNat)))) i=some (.list ds):=by
           unfold gv at hg ⊢
           rw[aQ (p9 hij)];exact hg
          have r2:=r1.change (d':=.list (ds++[.int (c*2^w.toNat)])) (o':=.lst (vs++[.int (c*2^w.toNat)])) hi (by rw[fI];exact c5) (by rw[hgi];simp) e2 (by rw[bu hab];exact g1.hh _ _ h1) (.inl ⟨_,_,rfl,rfl,(aB.mono g1.aa _ h4).append (aB.one (Rp.int.mpr rfl))⟩)
          exact k σ A1 _ r2 g1.aa (g1.nB r.b)
       | _=>cases em
     | _=>cases em
    | _=>cases em
 | _=>cases em
end
section
variable {X:Cx}{k:Nat}{fn:Str}{ps:List Str}{fs:List Fl}{cl:Str→Addr}{zf:List ae→Res Str}{O:List Fl}{ms:List ME}{pf pc pa px pl:Pos}{e b:Expr}{es:List Expr}{XE:Str→Hp→Prop}{C:Addr}
theorem Qo (F:DefX X.prog X.w X.K X.mg X.base k fn ps (spZ X.K fs cl zf)) (hr:dg k X.A) (hg:Gl X fn) (ha:QA X (e::es) (tAr X.K O fs ms)) (hl:vL X cl XE)
 (hdb:(fn == ("__debug__" : Str))=false:=by decide) (he:noStar e=true:=by rfl) (hpl:eQ es=true:=by rfl) (h1:kG .Is b=false:=by first | exact Qd _ (by decide) (by decide) | rfl) :
 QS X (.Return (some (.Compare (.Call (.Name fn pf) (e::es) [] pc) [.Is] [b] px)) pa) (tZ X.K O XE (j5 zf ms)):=⟨fun pins s σ H D I h=>by
 obtain ⟨A,B,Γ,c,r,em,k⟩:=h
 obtain ⟨ds,e1,ez⟩:=Res.aF em
 exact wpAny_Return_some (wpAny_Compare1 (gc (Tz I F hr hg ha hl r e1 ez k hdb he hpl) (fun v s1 z=>z.elim) fun er s1 z=>z) h1)⟩
theorem Ui {xn:Str} (hnx:∀er s',¬ X.xe er s') (F:DefX X.prog X.w X.K X.mg X.base k fn ps (spZ X.K fs (fun _=>C) zf)) (hr:dg k X.A) (hg:Gl X fn) (ha:QA X (e::es) (tAr X.K O fs ms))
 (hdb:(fn == ("__debug__" : Str))=false:=by decide) (he:noStar e=true:=by rfl) (hpl:eQ es=true:=by rfl) (hs:j3 (.List [.Call (.Name fn pf) (e::es) [] pc] pl) (some (.Name xn px)) pa.line X.env=pure false:=by rfl) :
 XS X O C (.Assign [.Name xn px] (.List [.Call (.Name fn pf) (e::es) [] pc] pl) pa) (j5 zf ms):=⟨fun pins s σ H A B Γ c Ex I r ez k=>by
 obtain ⟨ds,e1,ez⟩:=Res.aF ez
 refine x6 (wpAny_List_spliced ?_) hs
 rw[bO (e:=.Call (.Name fn pf) (e::es) [] pc) (es:=[]) rfl]
 exact we (gc (Ti I F hr hg ha hnx r e1 ez k hdb he hpl) (fun v s1 z=>z.elim) fun er s1 z=>z)⟩
end
end L3
namespace Gk
noncomputable def dI (xs:List Int):Int:=xs.foldr (fun f n=>2*n+f) 0
theorem iJ (x:Int) (xs:List Int):dI (x::xs)=2*dI xs+x:=rfl
theorem jZ:∀{xs:List Int},(∀x∈xs,0≤x)→0≤dI xs
 | [],_=>ma 0
 | x::xs,h=>by
  have h1:=h x (by simp)
  have h2:=jZ fun y hy=>h y (bg _ hy)
  rw[iJ];omega
theorem two_pos (n:Nat):(0:Int) < 2^n:=Int.pow_pos (by decide)
theorem Nv (xs:List Int) (y:Int):dI (xs++[y])=dI xs+2^xs.length*y:=by
 induction xs with
 | nil=>simp[dI]
 | cons x xs ih=>
  rw[ua,iJ,ih,iJ,bX,tz]
  have:(2:Int)^xs.length*2*y=2*(2^xs.length*y):=by rw[B2 ((2:Int)^xs.length) 2,zw]
  rw[this];omega
noncomputable def bj (b p:Int):Int:=b / 2^p.toNat % 2
theorem kY (b p:Int):bj b p=0∨bj b p=1:=by unfold bj;omega
theorem GR (b p:Int):0≤bj b p:=by unfold bj;omega
theorem Vq (b p:Int):bj b p≤1:=by unfold bj;omega
noncomputable def qX (k r:Nat):List Int:=(cS k).map fun j=>((r / 2^j % 2:Nat):Int)
theorem Cw (k r:Nat):(qX k r).length=k:=by simp[qX]
noncomputable def gather (b:Int):Nat→Int
 | 0=>0
 | n+1=>gather b n+2^n*bj b n
theorem Jp (b:Int) (n:Nat):gather b n=b % 2^n:=by
 induction n with
 | zero=>simp[gather,Int.emod_one]
 | succ n ih=>
  have hp:=two_pos n
  rw[gather,ih,bj,eM,tz]
  have h1:=Int.emod_add_mul_ediv b (2^n)
  have h2:=Int.emod_add_mul_ediv (b / 2^n) 2
  have h3:b=(b % 2^n+2^n*(b / 2^n % 2))+2^n*2*(b / 2^n / 2):=by
   have e:2^n*(b / 2^n)=2^n*(b / 2^n % 2)+2^n*2*(b / 2^n / 2):=by
    rw[zw,← Int.mul_add,h2]
   omega
  have h4:=pj b (Int.ne_of_gt hp)
  have h5:=mM b hp
  have h6:(b / 2^n % 2=0)∨(b / 2^n % 2=1):=by omega
  have h7:(b % 2^n+2^n*(b / 2^n % 2)) % (2^n*2)=b % (2^n*2):=by
   have e:=congrArg (· % ((2:Int)^n*2)) h3
   simp only[Int.add_mul_emod_self_left] at e
   exact e.symm
  rw[← h7]
  refine (Int.emod_eq_of_lt ?_ ?_).symm
  · rcases h6 with h | h <;> rw[h] <;> omega
  · rcases h6 with h | h <;> rw[h] <;> omega
theorem K5 {b:Int}{n:Nat} (h0:0≤b) (h1:b < 2^n):gather b n=b:=by
 rw[Jp,Int.emod_eq_of_lt h0 h1]
noncomputable def fZ (xs:List Int):Prop:=∀x∈xs,x=0∨x=1
theorem fZ.nn {xs:List Int} (h:fZ xs):∀x∈xs,0≤x:=fun x hx=>by rcases h x hx with z | z <;> omega
theorem fZ.tail {x:Int}{xs:List Int} (h:fZ (x::xs)):fZ xs:=fun y hy=>h y (bg _ hy)
theorem fZ.map {α:Type}{l:List α}{f:α→Int} (h:∀a∈l,f a=0∨f a=1):fZ (l.map f):=fun x hx=>by
 obtain ⟨a,ha,rfl⟩:=eh.mp hx
 exact h a ha
theorem fZ.bits {α:Type}{l:List α}{f g:α→Int}:fZ (l.map fun a=>bj (f a) (g a)):=fZ.map fun a _=>kY _ _
theorem vG:∀{xs:List Int},fZ xs→dI xs < 2^xs.length
 | [],_=>by decide
 | x::xs,h=>by
  have h1:=vG h.tail
  have h2:=h x (by simp)
  rw[iJ,bX,tz]
  omega
theorem Bl (b:Int):bj b 0=b % 2:=by unfold bj;simp
theorem By (b:Int) (n:Nat):bj b ((n+1:Nat):Int)=bj (b / 2) (n:Nat):=by
 unfold bj
 rw[eM,eM,BY,Int.pow_add,Int.QQ ,← Int.ediv_ediv_of_nonneg (by decide)]
where
 Int.QQ:(2:Int)^1=2:=by decide
theorem pB:∀{xs:List Int}{r:Nat}{x:Int},fZ xs→xs[r]?=some x→bj (dI xs) (r:Nat)=x
 | [],r,x,_,h=>by simp at h
 | y::xs,0,x,h,e=>by
  have h2:=h y (by simp)
  have e':y=x:=by simpa using e
  rw[iJ]
  show bj (2*dI xs+y) 0=x
  rw[Bl]
  omega
 | y::xs,r+1,x,h,e=>by
  have h2:=h y (by simp)
  rw[iJ,By]
  have e2:(2*dI xs+y) / 2=dI xs:=by omega
  rw[e2]
  exact pB h.tail (by simpa using e)
theorem Bx {b:Int}{m:Nat} (h0:0≤b) (h1:b < 2^m):dI ((cS m).map fun r=>bj b ((r:Nat):Int))=b:=by
 have key:∀m:Nat,dI ((cS m).map fun r=>bj b ((r:Nat):Int))=gather b m:=by
  intro m
  induction m with
  | zero=>rfl
  | succ m ih=>
   rw[ll,fe,List.map_singleton,Nv,ih,aw,dP]
   rfl
 rw[key,K5 h0 h1]
theorem Qw {b c:Int}{m:Nat} (h0:0≤b) (h1:b < 2^m) (k0:0≤c) (k1:c < 2^m) (h:∀r:Nat,r < m→bj b (r:Nat)=bj c (r:Nat)):b=c:=by
 rw[← Bx h0 h1,← Bx k0 k1]
 congr 1
 exact lp fun r hr=>h r (d5.mp hr)
noncomputable def tab (m:Nat) (f:Nat→Int):Int:=dI ((cS m).map f)
theorem Dz {m:Nat}{f:Nat→Int} (h:∀r,f r=0∨f r=1):fZ ((cS m).map f):=fZ.map fun a _=>h a
theorem rZ {m:Nat}{f:Nat→Int} (h:∀r,f r=0∨f r=1):0≤tab m f:=jZ (Dz h).nn
theorem Dq {m:Nat}{f:Nat→Int} (h:∀r,f r=0∨f r=1):tab m f < 2^m:=by
 have:=vG (Dz (m:=m) h)
 rw[aw,dP] at this
 exact this
theorem zx {m:Nat}{f:Nat→Int} (h:∀r,f r=0∨f r=1) {r:Nat} (hr:r < m):bj (tab m f) (r:Nat)=f r:=
 pB (Dz h) (by rw[cn,ke hr];rfl)
theorem Lg {m:Nat}{f:Nat→Int}{b:Int} (h:∀r,f r=0∨f r=1) (h0:0≤b) (h1:b < 2^m) (e:∀r,r < m→f r=bj b (r:Nat)):tab m f=b:=
 Qw (rZ h) (Dq h) h0 h1 fun r hr=>by rw[zx h hr,e r hr]
theorem iI {m:Nat}{f g:Nat→Int} (e:∀r,r < m→f r=g r):tab m f=tab m g:=by
 unfold tab;congr 1;exact lp fun r hr=>e r (d5.mp hr)
noncomputable def v9 (n j:Nat):Int:=tab (2^n) fun r=>bj (r:Nat) (j:Nat)
theorem Ox {n j r:Nat} (h:r < 2^n):bj (v9 n j) (r:Nat)=bj (r:Nat) (j:Nat):=zx (fun _=>kY _ _) h
theorem xK (r j:Nat):bj (r:Nat) (j:Nat)=((r / 2^j % 2:Nat):Int):=by
 unfold bj
 rw[eM]
 simp
theorem Gz {xs:List Int} (h:fZ xs):qX xs.length (dI xs).toNat=xs:=by
 refine List.ext_getElem (Cw _ _) fun j h1 h2=>?_
 have hb:=pB h (aS h2)
 have hnn:=jZ h.nn
 have e:(qX xs.length (dI xs).toNat)[j]=bj (((dI xs).toNat:Nat):Int) (j:Nat):=by
  simp only[qX,List.getElem_map,xB,xK]
 rw[e,vF hnn]
 exact hb
theorem W3 {xs:List Int} (h:fZ xs):∃r:Nat,r < 2^xs.length∧dI xs=(r:Nat)∧qX xs.length r=xs:=by
 have hnn:=jZ h.nn
 have hlt:=vG h
 refine ⟨(dI xs).toNat,?_,(vF hnn).symm,Gz h⟩
 have e:((2:Int)^xs.length)=(((2^xs.length:Nat)):Int):=by simp
 omega
end Gk
namespace Prog
open PySem L3
noncomputable def gY:List ae→Res ae:=fnR 3 (aN (aW 1 (eC (.int 1)))
 (aN (gF (jl (aj 0)) (gN 2) [2] (aW 1 (aq mK (eC (.int 2)) (aj 1))))
 (cg (aj 1))))
noncomputable def za:List ae→Res ae:=fnR 2 (cg (aq zK (aq Jm (aj 0) (aj 1)) (eC (.int 1))))
noncomputable def nH:List ae→Res ae:=fnR 5 (aN (aW 3 (fY (jl (aX gY [(aq ixD (aj 0) (eC (.int 0)))])) (gN 0) (eC (.bool true)) (aq mK (aj 1) (aX za [(aq ixD (aj 2) (eC (.int 1))),(aj 0)])) 1 [2,0]))
 (aN (gF (itL (aj 1)) (gN 4) [4] (aW 3 (fY (R0 (eC (.int 0)) (eFn b8 [(aj 3)]) (eC (.int 2))) (gN 0) (eC (.bool true)) (aq orD (aq zK (aq ixD (aj 1) (aj 0)) (eUn W2 (aj 2))) (aq zK (aq ixD (aj 1) (aq bI (aj 0) (eC (.int 1)))) (aj 2))) 1 [3,4])))
 (cg (aq ixD (aj 3) (eC (.int 0))))))
noncomputable def iR:List ae→Res ae:=fnR 2 (cg (cH [(aj 0),(eFn rB [(eFn jG [(aj 1)])])]))
noncomputable def mL:List ae→Res ae:=fnR 3 (aN (aW 1 (zm []))
 (aN (gF (itL (aj 0)) (gN 2) [2] (lQ 1 (aj 2) (eC (.bool true))))
 (cg (aj 1))))
noncomputable def du:List ae→Res ae:=fnR 3 (cg (aX nH [(aj 0),(aj 1),(aq qJ (aX gY [(aj 2)]) (eC (.int 1)))]))
noncomputable def qN:List ae→Res ae:=fnR 4 (aN (aW 2 (eC (.int 1)))
 (aN (gF (jl (aj 1)) (gN 3) [3] (aW 2 (aq mK (aj 0) (aj 2))))
 (cg (aj 2))))
noncomputable def cu:List ae→Res ae:=fnR 2 (cg (eFn Dt [(fY (itL (aj 1)) (gN 0) (eC (.bool true)) (aX qN [(aj 1),(aq ixD (aj 0) (eC (.int 0)))]) 1 [0])]))
noncomputable def gK:List ae→Res ae:=fnR 6 (aN (aW 1 (bV [(bV [])]))
 (aN (gF (itL (aj 0)) (gN 2) [2,3,4,5] (aN (aW 3 (bV []))
 (aN (gF (itL (aj 1)) (gN 4) [4,5] (gF (itL (aj 2)) (gN 5) [5] (um 3 (aq bI (aj 4) (bV [(aj 5)])))))
 (aW 1 (aj 3)))))
 (cg (aj 1))))
noncomputable def d8:List ae→Res ae:=fnR 6 (aN (aW 2 (aq ixD (aj 1) (eC (.int 0))))
 (aN (aW 3 (aq ixD (aj 1) (eC (.int 1))))
 (aN (sIf (aq gtD (aX cu [(eFn b8 [(aj 3)]),(bV [(aj 0)])]) (eC (.int 20000))) lJ cO)
 (aN (aW 4 (aX mL [(aj 3)]))
 (aN (gF (itL (aX gK [(aq oh (bV [(aj 3)]) (aq ixD (aj 0) (eC (.int 0))))])) (gN 5) [5] (sIf (aq qQ (aX du [(aj 0),(aj 5),(aj 2)]) (aj 4)) (cg (aj 5)) cO))
 (cg (eC .none)))))))
noncomputable def jR:List ae→Res ae:=fnR 2 (cg (aq vz (aX d8 [(aj 0),(aj 1)]) (eC .none)))
noncomputable def jb:List ae→Res ae:=fnR 5 (aN (aW 3 (bV []))
 (aN (gF (jl (aj 2)) (gN 4) [4] (JT 3 (aX gK [(aq bI (aq bI (aq oh (bV [(aj 0)]) (aj 4)) (bV [(aj 1)])) (aq oh (bV [(aq bI (aj 0) (aj 1))]) (aq qJ (aq qJ (aj 2) (aj 4)) (eC (.int 1)))))])))
 (cg (aj 3))))
noncomputable def eO:List ae→Res ae:=fnR 7 (aN (aW 4 (bV []))
 (aN (gF (itL (aj 0)) (gN 5) [5,6] (gF (itL (aX jb [(aj 1),(aj 2),(aq ixD (aj 5) (eC (.int 0)))])) (gN 6) [6] (um 4 (aX du [(aj 5),(aj 6),(aj 3)]))))
 (cg (aj 4))))
noncomputable def bR:List ae→Res ae:=fnN 2 (sIf (eOr (aq gtD (aj 0) (eC (.int 128))) (aq gtD (aX cu [(aj 0),(aj 1)]) (eC (.int 20000)))) lJ cO)
noncomputable def gB:List ae→Res ae:=fnR 7 (aN (aW 2 (aq ixD (aj 0) (eC (.int 0))))
 (aN (aW 3 (fY (itL (aj 1)) (gN 0) (aq eqD (aq ixD (aj 0) (eC (.int 0))) (eC (.int 0))) (aX du [(aj 0),(bV []),(aj 1)]) 1 [2]))
 (aN (aW 4 (bV []))
 (aN (aW 5 (eFn jG [(aq bI (eFn qg [(aq ixD (aj 0) (eC (.int 1)))]) (aj 3))]))
 (aN (nj 1000000 (aq gtD (eFn b8 [(aj 5)]) (eC (.int 0))) [6] (aN (sEx (aX bR [(aq bI (eFn b8 [(aj 4)]) (eFn b8 [(aj 5)])),(aj 1)]))
 (aN (aW 6 (aX eO [(aj 1),(aj 4),(aj 5),(aj 2)]))
 (aN (aW 4 (aq bI (aj 4) (aj 5)))
 (aW 5 (eFn jg [(aj 6),(aj 4)]))))))
 (cg (aX iR [(aj 2),(aj 4)])))))))
end Prog
theorem L2.sizeLine_eq:bp=16777216:=by decide
namespace L3
open PySem L2
theorem VB {o:Option ae}{Γ:Ev}:gv (o::Γ) 0=o:=rfl
theorem T9 {o:Option ae}{Γ:Ev}{i:Nat}:gv (o::Γ) (i+1)=gv Γ i:=rfl
theorem MJ {d:ae}{Γ:Ev}:aj 0 (some d::Γ) = .ok d:=rfl
theorem O7 {o:Option ae}{Γ:Ev}{i:Nat}:aj (i+1) (o::Γ)=aj i Γ:=rfl
theorem Oq {d:ae}{Γ:Ev}:eC d Γ = .ok d:=rfl
theorem Gp {f:ae→ae→Res ae}{a b:ME}{Γ:Ev}:aq f a b Γ=(a Γ).bind fun x=>(b Γ).bind fun y=>f x y:=rfl
theorem Vy {f:ae→Res ae}{a:ME}{Γ:Ev}:eUn f a Γ=(a Γ).bind f:=rfl
theorem vC {f:List ae→Res ae}{ms:List ME}{Γ:Ev}:eFn f ms Γ=(evs ms Γ).bind f:=rfl
theorem nF {f:List ae→Res ae}{ms:List ME}{Γ:Ev}:aX f ms Γ=(evs ms Γ).bind f:=rfl
theorem HQ {Γ:Ev}:evs [] Γ = .ok []:=rfl
theorem sH {m:ME}{ms:List ME}{Γ:Ev}:evs (m::ms) Γ=(m Γ).bind fun d=>(evs ms Γ).bind fun ds=>.ok (d::ds):=rfl
theorem RG {ms:List ME}{Γ:Ev}:cH ms Γ=(evs ms Γ).bind fun ds=>.ok (.tuple ds):=rfl
theorem Rv {ms:List ME}{Γ:Ev}:bV ms Γ=(evs ms Γ).bind fun ds=>.ok (.list ds):=rfl
noncomputable def bT (x:ae) (a b:Res ae):Res ae:=match x with
 | .bool true=>a
 | .bool false=>b
 | _=>.bad
noncomputable def bS (x:ae) (a b:Res Out):Res Out:=match x with
 | .bool true=>a
 | .bool false=>b
 | _=>.bad
theorem T7 {a b:Res ae}:bT (.bool true) a b=a:=rfl
theorem Qu {a b:Res ae}:bT (.bool false) a b=b:=rfl
theorem Ub {a b:Res Out}:bS (.bool true) a b=a:=rfl
theorem Sd {a b:Res Out}:bS (.bool false) a b=b:=rfl
theorem O6 {c:Bool}{a b:Res Out}:bS (.bool c) a b=if c=true then a else b:=by cases c <;> rfl
theorem Rg {a b:ME}{Γ:Ev}:uz a b Γ=(a Γ).bind fun x=>bT x (b Γ) (.ok (.bool false)):=by
 unfold uz bT;rfl
theorem Us {a b:ME}{Γ:Ev}:eOr a b Γ=(a Γ).bind fun x=>bT x (.ok (.bool true)) (b Γ):=by
 unfold eOr;congr 1;funext x;cases x <;> first | rfl | (rename_i b;cases b <;> rfl)
noncomputable def Wy:ae→Res ae
 | .bool t=>.ok (.bool (!t))
 | _=>.bad
theorem PL {t:Bool}:Wy (.bool t) = .ok (.bool (!t)):=rfl
theorem Ql {a:ME}{Γ:Ev}:Qx a Γ=(a Γ).bind Wy:=rfl
theorem Vv {a:ME}{lo hi:MO}{Γ:Ev}:eSl a lo hi Γ=(a Γ).bind fun d=>(lo Γ).bind fun l=>(hi Γ).bind fun h=>slD d l h:=rfl
theorem Ml {Γ:Ev}:vY Γ = .ok none:=rfl
noncomputable def Wg:ae→Res (Option Int)
 | .int i=>.ok (some i)
 | _=>.bad
theorem QM {i:Int}:Wg (.int i) = .ok (some i):=rfl
theorem Nm {m:ME}{Γ:Ev}:vP m Γ=(m Γ).bind Wg:=rfl
noncomputable def KQ (b:MS):Out→Res Out
 | .nx Γ'=>b Γ'
 | .rt d=>.ok (.rt d)
 | .bk Γ'=>.ok (.bk Γ')
 | .ct Γ'=>.ok (.ct Γ')
theorem rn {b:MS}{Γ:Ev}:KQ b (.nx Γ)=b Γ:=rfl
theorem Vj {b:MS}{d:ae}:KQ b (.rt d) = .ok (.rt d):=rfl
theorem fU {a b:MS}{Γ:Ev}:aN a b Γ=(a Γ).bind (KQ b):=by
 unfold aN KQ;rfl
theorem Ua {α:Type}{r:Res α}:gd True r=r:=rfl
theorem o8 {i:Nat}{m:ME}{Γ:Ev}:aW i m Γ=(m Γ).bind fun d=>gd (i < Γ.length) (.ok (.nx (Γ.set i (some d)))):=rfl
theorem vW {c:ME}{a b:MS}{Γ:Ev}:sIf c a b Γ=(c Γ).bind fun x=>bS x (a Γ) (b Γ):=by
 unfold sIf bS;rfl
theorem EY {m:ME}{Γ:Ev}:cg m Γ=(m Γ).bind fun d=>.ok (.rt d):=rfl
theorem Q9 {Γ:Ev}:cO Γ = .ok (.nx Γ):=rfl
theorem Pn {g:MG}{m:ME}{Γ:Ev}:RJ g m Γ=(m Γ).bind fun d=>(g d Γ).bind fun Γ'=>.ok (.nx Γ'):=rfl
theorem rR {it:MI}{g:MG}{cl:List Nat}{b:MS}{Γ:Ev}:gF it g cl b Γ=(it Γ).bind fun xs=>forR g cl b xs Γ:=rfl
noncomputable def fin:Out→Res ae
 | .rt d=>.ok d
 | _=>.bad
theorem XM {d:ae}:fin (.rt d) = .ok d:=rfl
theorem o4 {n:Nat}{m:MS}{ds:List ae}:fnR n m ds=(m (ds.map some++b9 (n - ds.length) none)).bind fin:=by
 unfold fnR;rfl
noncomputable def W6:Out→Res ae
 | .rt d=>.ok d
 | .nx _=>.ok .none
 | _=>.bad
theorem Ut {Γ:Ev}:W6 (.nx Γ) = .ok .none:=rfl
theorem U4 {n:Nat}{m:MS}{ds:List ae}:fnN n m ds=(m (ds.map some++b9 (n - ds.length) none)).bind W6:=by
 unfold fnN;rfl
noncomputable def R1 (Γ:Ev) (i:Nat) (d:ae):Option ae→Res Out
 | some (.list ds)=>gd (ds.length < bp∧i < Γ.length) (.ok (.nx (Γ.set i (some (.list (ds++[d]))))))
 | _=>.bad
theorem RX {Γ:Ev}{i:Nat}{d:ae}{ds:List ae}:R1 Γ i d (some (.list ds))=gd (ds.length < bp∧i < Γ.length) (.ok (.nx (Γ.set i (some (.list (ds++[d])))))):=rfl
theorem Qm {i:Nat}{m:ME}{Γ:Ev}:um i m Γ=(m Γ).bind fun d=>R1 Γ i d (gv Γ i):=by
 unfold um R1;rfl
theorem yo {i:Nat}{d:ae}{Γ:Ev}:gN i d Γ=gd (i < Γ.length) (.ok (Γ.set i (some d))):=rfl
noncomputable def Aa:ae→Res (List ae)
 | .list ds=>.ok ds
 | .tuple ds=>.ok ds
 | _=>.bad
theorem Ma {ds:List ae}:Aa (.list ds) = .ok ds:=rfl
theorem U6 {m:ME}{Γ:Ev}:itL m Γ=(m Γ).bind Aa:=by
 unfold itL Aa;rfl
noncomputable def upN (n:Nat):List ae:=(cS n).map fun i=>ae.int (i:Nat)
noncomputable def Jz:ae→Res (List ae)
 | .int j=>gd (-(2^62)≤j∧j < 2^62) (.ok (upN j.toNat))
 | _=>.bad
theorem Qj {j:Int}:Jz (.int j)=gd (-(2^62)≤j∧j < 2^62) (.ok (upN j.toNat)):=rfl
theorem gU {n:Nat} (h:n < 2^62):Jz (.int (n:Nat)) = .ok (upN n):=by
 rw[Qj,cj (by omega),eM]
theorem Qh {m:ME}{Γ:Ev}:jl m Γ=(m Γ).bind Jz:=by
 unfold jl;congr 1;funext d
 cases d with
 | int j=>show gd _ _=gd _ _;congr 2;unfold upN;simp only[Int.zero_add]
 | _=>rfl
noncomputable def PK:ae→ae→Res (List ae)
 | .int i,.int j=>gd (-(2^62)≤i∧i < 2^62 ∧ -(2^62)≤j∧j < 2^62) (.ok ((cS (j - i).toNat).map fun k=>ae.int (i+(k:Nat))))
 | _,_=>.bad
theorem QD {m m':ME}{Γ:Ev}:K3 m m' Γ=(m Γ).bind fun d=>(m' Γ).bind fun d'=>PK d d':=by
 unfold K3 PK;rfl
theorem VR {Γ:Ev}:clr [] Γ=Γ:=rfl
theorem Rj {i:Nat}{l:List Nat}{Γ:Ev}:clr (i::l) Γ=clr l (Γ.set i none):=rfl
theorem R6 {a b:Int}:bI (.int a) (.int b) = .ok (.int (a+b)):=rfl
theorem QZ {a b:Int}:qJ (.int a) (.int b) = .ok (.int (a - b)):=rfl
theorem Q7 {a b:Int}:mK (.int a) (.int b)=gd (qL a b) (.ok (.int (a*b))):=rfl
theorem LK {a b:Int}:gM (.int a) (.int b)=gd (z8 a b) (.ok (.int (a / b))):=rfl
theorem RZ {a b:Int}:fW (.int a) (.int b)=gd (0 < b) (.ok (.int (a % b))):=rfl
theorem Ra {a b:Int}:JZ (.int a) (.int b)=gd (pW a b) (.ok (.int (a*2^b.toNat))):=rfl
theorem QC {a b:Int}:Jm (.int a) (.int b)=gd (0≤b) (.ok (.int (a / 2^b.toNat))):=rfl
theorem Rb {a b:Int}:zK (.int a) (.int b) = .ok (.int (iA a b)):=rfl
theorem VN {a b:Int}:orD (.int a) (.int b) = .ok (.int (iP a b)):=rfl
theorem T6 {a b:Int}:ltD (.int a) (.int b) = .ok (.bool (decide (a < b))):=rfl
theorem Vu {a b:Int}:leD (.int a) (.int b) = .ok (.bool (decide (a≤b))):=rfl
theorem UJ {a b:Int}:gtD (.int a) (.int b) = .ok (.bool (decide (b < a))):=rfl
theorem yq {a:Int}:dE (.int a)=true:=by unfold dE;rw[jS,ae.depth];rfl
theorem VL {a b:Int}:eqD (.int a) (.int b) = .ok (.bool (decide (a=b))):=by
 unfold eqD;rw[cj ⟨yq,yq⟩,gz];congr 2
mutual
noncomputable def plain:ae→Bool
 | .int _=>true
 | .none=>true
 | .list ds=>gO ds
 | .tuple ds=>gO ds
 | .bool _=>false
 | .str _=>false
 | .dict _=>false
noncomputable def gO:List ae→Bool
 | []=>true
 | d::ds=>plain d&&gO ds
end
mutual
theorem Bg:∀(d:ae),plain d=true→d.canLay0=true
 | .int _,_=>by rw[jS]
 | .none,_=>by rw[jS]
 | .list ds,h=>by rw[jS];exact tV ds (by rw[plain] at h;exact h)
 | .tuple ds,h=>by rw[jS];exact tV ds (by rw[plain] at h;exact h)
 | .bool _,h=>by rw[plain] at h;cases h
 | .str _,h=>by rw[plain] at h;cases h
 | .dict _,h=>by rw[plain] at h;cases h
theorem tV:∀(ds:List ae),gO ds=true→ij ds=true
 | [],_=>by rw[ij]
 | d::ds,h=>by
  rw[gO,cc] at h
  rw[ij,Bg d h.1,tV ds h.2];rfl
end
mutual
theorem uW:∀(d e:ae),plain d=true→plain e=true→(gz d e=true↔d=e)
 | .int a,.int b,_,_=>by rw[gz];simp
 | .none,.none,_,_=>by rw[gz];simp
 | .list ds,.list es,h,g=>by
  rw[plain] at h g
  rw[gz,sI ds es h g]
  exact ⟨fun z=>by rw[z],fun z=>by cases z;rfl⟩
 | .tuple ds,.tuple es,h,g=>by
  rw[plain] at h g
  rw[gz,sI ds es h g]
  exact ⟨fun z=>by rw[z],fun z=>by cases z;rfl⟩
 | .int _,.none,_,_ | .int _,.list _,_,_ | .int _,.tuple _,_,_ | .none,.int _,_,_ | .none,.list _,_,_ | .none,.tuple _,_,_
 | .list _,.int _,_,_ | .list _,.none,_,_ | .list _,.tuple _,_,_ | .tuple _,.int _,_,_ | .tuple _,.none,_,_ | .tuple _,.list _,_,_=>by
  rw[gz];exact ⟨(fun z=>nomatch z),(fun z=>nomatch z)⟩
 | .bool _,_,h,_=>by rw[plain] at h;cases h
 | .str _,_,h,_=>by rw[plain] at h;cases h
 | .dict _,_,h,_=>by rw[plain] at h;cases h
 | _,.bool _,_,h=>by rw[plain] at h;cases h
 | _,.str _,_,h=>by rw[plain] at h;cases h
 | _,.dict _,_,h=>by rw[plain] at h;cases h
theorem sI:∀(ds es:List ae),gO ds=true→gO es=true→(vc ds es=true↔ds=es)
 | [],[],_,_=>by rw[vc];simp
 | [],_::_,_,_=>by rw[vc];simp
 | _::_,[],_,_=>by rw[vc];simp
 | d::ds,e::es,h,g=>by
  rw[gO,cc] at h g
  rw[vc,cc,uW d e h.1 g.1,sI ds es h.2 g.2]
  simp
end
theorem mZ {d:ae} (h:plain d=true) (hd:d.depth≤64):dE d=true:=by
 unfold dE;rw[Bg d h,decide_eq_true hd];rfl
theorem uI {a b:ae} (ha:plain a=true) (hb:plain b=true) (da:a.depth≤64) (db:b.depth≤64):(eqD a b = .ok (.bool true)↔a=b)∧(eqD a b = .ok (.bool false)↔a≠b)∧(neD a b = .ok (.bool true)↔a≠b)∧(neD a b = .ok (.bool false)↔a=b):=by
 unfold eqD neD
 rw[cj ⟨mZ ha da,mZ hb db⟩,cj ⟨mZ ha da,mZ hb db⟩]
 have h:=uW a b ha hb
 cases q:gz a b with
 | true=>have e:=h.mp q;simp[e]
 | false=>
  have e:a≠b:=fun z=>by rw[h.mpr z] at q;cases q
  simp[e]
theorem Eg {a:ae} (ha:plain a=true) (da:a.depth≤64):eqD a a = .ok (.bool true):=(uI ha ha da da).1.mpr rfl
theorem Qs {a:ae} (ha:plain a=true) (da:a.depth≤64):neD a a = .ok (.bool false):=(uI ha ha da da).2.2.2.mpr rfl
theorem wI:∀ns:List Int,gO (ns.map ae.int)=true
 | []=>by rw[jI,gO]
 | n::ns=>by rw[dk,gO,plain,wI ns];rfl
theorem wL (ns:List Int):plain (.tuple (ns.map ae.int))=true:=by rw[plain];exact wI ns
theorem yd (ns:List Int):(ae.tuple (ns.map ae.int)).depth≤64:=by rw[ae.depth,yG];decide
noncomputable def lM (cl:List Nat):Out→Res Out
 | .nx Γ=>.ok (.nx (clr cl Γ))
 | .ct Γ=>.ok (.nx (clr cl Γ))
 | .bk Γ=>.ok (.bk (clr cl Γ))
 | .rt d=>.ok (.rt d)
theorem VP {cl:List Nat}{Γ:Ev}:lM cl (.nx Γ) = .ok (.nx (clr cl Γ)):=rfl
noncomputable def Goes (r:Res Out) (P:Ev→Prop):Prop:=∃Γ,r = .ok (.nx Γ)∧P Γ
theorem HX {g:MG}{cl:List Nat}{b:MS}{x:ae}{xs:List ae}{Γ Γ':Ev} (h:((g x Γ).bind b).bind (lM cl) = .ok (.nx Γ')):forR g cl b (x::xs) Γ=forR g cl b xs Γ':=by
 obtain ⟨o,h1,h2⟩:=Res.aF h
 obtain ⟨Γ1,h3,h4⟩:=Res.aF h1
 rw[forR,h3,Res.bz,h4,Res.bz]
 cases o <;> cases h2 <;> rfl
theorem xx {g:MG}{cl:List Nat}{b:MS} (I:Nat→Ev→Prop):∀{xs:List ae}{Γ:Ev},I 0 Γ →
 (∀i x Γ,xs[i]?=some x→I i Γ→Goes (((g x Γ).bind b).bind (lM cl)) (I (i+1)))→∃Γ',forR g cl b xs Γ = .ok (.nx Γ')∧I xs.length Γ':=by
 intro xs
 induction xs generalizing I with
 | nil=>intro Γ h0 _;exact ⟨Γ,rfl,h0⟩
 | cons x xs ih=>
  intro Γ h0 hs
  obtain ⟨Γ2,e,h2⟩:=hs 0 x Γ rfl h0
  obtain ⟨Γ',e3,h3⟩:=ih (fun i=>I (i+1)) h2 fun i y Γ hy h=>hs (i+1) y Γ (by simpa using hy) h
  refine ⟨Γ',?_,h3⟩
  rw[HX e]
  exact e3
theorem Iw {g:MG}{cl:List Nat}{b:MS}{xs:List ae}{Γ:Ev} (S:Nat→Ev) (h0:Γ=S 0)
 (h:∀i x,xs[i]?=some x→((g x (S i)).bind b).bind (lM cl) = .ok (.nx (S (i+1)))):forR g cl b xs Γ = .ok (.nx (S xs.length)):=by
 obtain ⟨Γ',e,h'⟩:=xx (g:=g) (cl:=cl) (b:=b) (fun i Γ=>Γ=S i) (xs:=xs) (Γ:=Γ) h0 fun i x Γ hx hI=>by
  subst hI
  exact ⟨_,h i x hx,rfl⟩
 rw[e,h']
theorem dF {α:Type}{g:MG}{cl:List Nat}{b:MS}{xs:List ae}{Γ:Ev}{f:Out→Res α}{r:Res α} (S:Nat→Ev) (h0:Γ=S 0)
 (h:∀i x,xs[i]?=some x→((g x (S i)).bind b).bind (lM cl) = .ok (.nx (S (i+1)))) (k:f (.nx (S xs.length))=r):(forR g cl b xs Γ).bind f=r:=by
 rw[Iw S h0 h];exact k
theorem Res.bind_assoc {α β γ:Type}{r:Res α}{f:α→Res β}{g:β→Res γ}:(r.bind f).bind g=r.bind fun a=>(f a).bind g:=by cases r <;> rfl
theorem BR {g:MG}{e:ME}{Γ:Ev} (F:ae→ae):∀{xs:List ae},(∀x∈xs,(g x Γ).bind e = .ok (F x))→oK g (eC (.bool true)) e Γ xs = .ok (xs.map F)
 | [],_=>rfl
 | x::xs,h=>by
  obtain ⟨Γ1,e1,e2⟩:=Res.aF (h x b5)
  rw[oK,e1,Res.bz,Oq,Res.bz]
  show (e Γ1).bind _=_
  rw[e2,Res.bz,BR F fun y hy=>h y (bg _ hy)]
  rfl
theorem Nz {it:MI}{g:MG}{e:ME}{nt:Nat}{ix:List Nat}{Γ:Ev}{xs:List ae} (F:ae→ae) (hi:it Γ = .ok xs) (hz:xs.length < bp) (h:∀x∈xs,(g x (iZ nt ix Γ)).bind e = .ok (F x)) :
 fY it g (eC (.bool true)) e nt ix Γ = .ok (.list (xs.map F)):=by
 unfold fY
 rw[hi,Res.bz,cj hz,BR F h]
 rfl
theorem uB {it:MI}{g:MG}{e:ME}{nt:Nat}{ix:List Nat}{Γ:Ev}{n:Nat} (F:Nat→ae) (hi:it Γ = .ok (upN n)) (hz:n < bp) (h:∀i,i < n→(g (.int (i:Nat)) (iZ nt ix Γ)).bind e = .ok (F i)) :
 fY it g (eC (.bool true)) e nt ix Γ = .ok (.list ((cS n).map F)):=by
 have e1:(upN n).map (fun d=>match d with | .int i=>F i.toNat | _=>.none)=(cS n).map F:=by
  unfold upN
  rw[lT]
  refine lp fun i _=>?_
  show F ((i:Nat):Int).toNat=F i
  rw[eM]
 rw[← e1]
 refine Nz _ hi (by unfold upN;rw[aw,dP];exact hz) fun x hx=>?_
 obtain ⟨i,hi,rfl⟩:=eh.mp hx
 show _=Res.ok (F ((i:Nat):Int).toNat)
 rw[eM]
 exact h i (d5.mp hi)
theorem mH {n i:Nat}{x:ae} (h:(upN n)[i]?=some x):i < n∧x = .int (i:Nat):=by
 unfold upN at h
 rw[cn] at h
 rcases lI i n with hi | hi
 · rw[ke hi] at h;exact ⟨hi,(Option.some.inj h).symm⟩
 · rw[fv (by rw[dP];exact hi)] at h;cases h
theorem iM (n:Nat):(upN n).length=n:=by unfold upN;rw[aw,dP]
theorem ints_get {ns:List Int}{i:Nat}{x:ae} (h:(ns.map ae.int)[i]?=some x):∃v,x = .int v∧ns[i]?=some v:=by
 rw[cn] at h
 cases e:ns[i]? with
 | none=>rw[e] at h;cases h
 | some v=>rw[e] at h;exact ⟨v,(Option.some.inj h).symm,rfl⟩
theorem Jg {nt:Nat}{ix:List Nat}{Γ:Ev}:iZ nt ix Γ=b9 nt none++ix.map (gv Γ):=rfl
theorem pR {ds:List ae}{i:Nat}{d:ae} (h:ds[i]?=some d):ixD (.list ds) (.int (i:Nat)) = .ok d:=by
 show (match L2.atI ds (i:Nat) with | some d=>Res.ok d | none=>.bad)=_
 rw[L2.Ib h]
theorem Cd {ds:List ae}{i:Nat}{d:ae} (h:ds[i]?=some d):ixD (.tuple ds) (.int (i:Nat)) = .ok d:=by
 show (match L2.atI ds (i:Nat) with | some d=>Res.ok d | none=>.bad)=_
 rw[L2.Ib h]
theorem Ba {ds:List ae}:b8 [.list ds] = .ok (.int ds.length):=rfl
theorem lq {ds:List ae}:b8 [.tuple ds] = .ok (.int ds.length):=rfl
theorem K7 {ds:List ae}:qg [.list ds] = .ok (.list ds):=rfl
theorem G5 {ds:List ae}:rB [.list ds] = .ok (.tuple ds):=rfl
theorem Mr {b:Bool}:RW (.bool b) = .ok (.bool b):=rfl
theorem V6 (xs:List ae) (j:Nat):cutD xs none (some ((j:Nat):Int))=xs.take j:=by
 unfold cutD
 rw[HT.R3,HT.UL,wx,Nat.sub_zero]
 rcases Nat.le_total j xs.length with h | h
 · rw[Nat.min_eq_left h]
 · rw[Nat.min_eq_right h,fz (aE _),fz h]
theorem yJ {ds:List ae}{j:Nat}:slD (.list ds) none (some ((j:Nat):Int)) = .ok (.list (ds.take j)):=by
 show Res.ok (ae.list (cutD ds none (some ((j:Nat):Int))))=_
 rw[V6]
theorem BV {a b:List ae} (h:a.length+b.length≤bp):bI (.list a) (.list b) = .ok (.list (a++b)):=cj h
theorem Am {α:Type}{g:MG}{c e:ME}{Γ:Ev} (enc:α→ae) (p:α→Bool) (F:α→ae):∀{xs:List α},(∀a∈xs,(g (enc a) Γ).bind c = .ok (.bool (p a)))→(∀a∈xs,p a=true→(g (enc a) Γ).bind e = .ok (F a))→oK g c e Γ (xs.map enc) = .ok ((xs.filter p).map F)
 | [],_,_=>rfl
 | x::xs,h,h'=>by
  obtain ⟨Γ1,e1,e2⟩:=Res.aF (h x b5)
  rw[dk,oK,e1,Res.bz,e2,Res.bz]
  have ih:=Am enc p F (fun y hy=>h y (bg _ hy)) (fun y hy=>h' y (bg _ hy))
  cases hp:p x with
  | true=>
   have e3:=h' x b5 hp
   rw[e1,Res.bz] at e3
   show (e Γ1).bind _=_
   rw[e3,Res.bz,ih,sC hp]
   rfl
  | false=>
   show oK g c e Γ (xs.map enc)=_
   rw[ih,oz (by rw[hp];exact ky)]
theorem rP {α:Type}{it:MI}{g:MG}{c e:ME}{nt:Nat}{ix:List Nat}{Γ:Ev}{xs:List α} (enc:α→ae) (p:α→Bool) (F:α→ae) (hi:it Γ = .ok (xs.map enc)) (hz:xs.length < bp)
 (h:∀a∈xs,(g (enc a) (iZ nt ix Γ)).bind c = .ok (.bool (p a))) (h':∀a∈xs,p a=true→(g (enc a) (iZ nt ix Γ)).bind e = .ok (F a)):fY it g c e nt ix Γ = .ok (.list ((xs.filter p).map F)):=by
 unfold fY
 rw[hi,Res.bz,cj (by rw[aw];exact hz),Am enc p F h h']
 rfl
theorem uC {α:Type}{it:MI}{g:MG}{e:ME}{nt:Nat}{ix:List Nat}{Γ:Ev}{xs:List α} (enc:α→ae) (F:α→ae) (hi:it Γ = .ok (xs.map enc)) (hz:xs.length < bp)
 (h:∀a∈xs,(g (enc a) (iZ nt ix Γ)).bind e = .ok (F a)):fY it g (eC (.bool true)) e nt ix Γ = .ok (.list (xs.map F)):=by
 rw[rP enc (fun _=>true) F hi hz (fun a ha=>?_) fun a ha _=>h a ha,oi.mpr fun _ _=>rfl]
 obtain ⟨Γ1,e1,e2⟩:=Res.aF (h a ha)
 rw[e1];rfl
theorem jD {α:Type}{enc:α→ae}{xs:List α}{i:Nat}{x:ae} (h:(xs.map enc)[i]?=some x):∃a,xs[i]?=some a∧x=enc a:=by
 rw[cn] at h
 cases e:xs[i]? with
 | none=>rw[e] at h;cases h
 | some v=>rw[e] at h;exact ⟨v,rfl,(Option.some.inj h).symm⟩
theorem WY {a:ae}{ds:List ae}:ixD (.tuple (a::ds)) (.int 0) = .ok a:=Cd (i:=0) rfl
theorem Y4 {a b:ae}{ds:List ae}:ixD (.tuple (a::b::ds)) (.int 1) = .ok b:=Cd (i:=1) rfl
noncomputable def dG (n:Nat) (b:Int):ae:=.tuple [.int (n:Nat),.int b]
noncomputable def dL (ns:List Int):ae:=.list (ns.map ae.int)
theorem ix0 {n:Nat}{b:Int}:ixD (dG n b) (.int 0) = .ok (.int (n:Nat)):=rfl
theorem ix1 {n:Nat}{b:Int}:ixD (dG n b) (.int 1) = .ok (.int b):=rfl
theorem T4 {ns:List Int}:b8 [dL ns] = .ok (.int ns.length):=by unfold dL;rw[Ba,aw]
theorem VH {ns:List Int}:Aa (dL ns) = .ok (ns.map ae.int):=rfl
theorem tD {n:Nat}{b:Int}:plain (dG n b)=true:=wL [(n:Nat),b]
theorem Ri {n:Nat}{b:Int}:(dG n b).depth≤64:=yd [(n:Nat),b]
end L3
namespace L3
open PySem L2
end L3
set_option hygiene false in
local macro_rules | `(tactic| walk_at "ev")=>`(tactic| simp (config:={ decide:=true,implicitDefEqProofs:=false }) only[L3.o4,L3.U4,L3.fU,L3.rn,L3.Vj,L3.Ua,L3.o8,L3.vW,L3.EY,L3.Q9,L3.Pn,L3.rR,L3.Qm,L3.RX,L3.VB,L3.T9,L3.MJ,L3.O7,L3.Oq,L3.Gp,L3.Vy,L3.vC,L3.nF,L3.HQ,L3.sH,L3.RG,L3.Rv,L3.Rg,L3.Us,L3.Ql,L3.yJ,L3.PL,L3.Vv,L3.Ml,L3.Nm,L3.QM,L3.U6,L3.Qh,L3.QD,L3.Ma,L3.yo,L3.VR,L3.VP,L3.Rj,L3.Jg,L3.Res.bz,L3.Res.bind_assoc,L3.XM,L3.Ut,L3.T7,L3.Qu,L3.Ub,L3.Sd,L3.R6,L3.QZ,L3.Q7,L3.LK,L3.RZ,L3.Ra,L3.QC,L3.Rb,L3.VN,L3.T6,L3.Vu,L3.UJ,L3.VL,L3.WY,L3.Y4,L3.ix0,L3.ix1,L3.T4,L3.VH,L3.Ba,L3.lq,L3.K7,L3.G5,L3.Mr,decide_false,decide_true,if_true,if_false,ia,Bn,and_true,true_and,dk,jI,bX,lh,aw,dP,gL,List.replicate_zero,ua,pd,List.set_cons_zero,List.set_cons_succ,Nat.reduceSub,Nat.reduceAdd,qV])
set_option hygiene false in
local macro_rules | `(tactic| walk_at "gd")=>`(tactic| (rw[L3.cj (by first | omega (config:={}) | (unfold L2.qL;omega (config:={})) | (unfold L2.z8;omega (config:={})) | (unfold L2.pW;omega (config:={})) | (simp (config:={ decide:=true }) only[L2.sizeLine_eq,ay,aw,dP,eA,mi,bX,lh];omega (config:={})))]))
set_option hygiene false in
local macro_rules | `(tactic| walk_at "go")=>`(tactic| (repeat (first | walk_at "ev" | walk_at "gd")))
namespace Prog
open PySem L2 L3 Gk
theorem Zk {a p:Int} (hp:0≤p):za [.int a,.int p] = .ok (.int (bj a p)):=by
 unfold za
 walk_at "ev"
 rw[cj hp]
 walk_at "ev"
 rw[AR]
 rfl
theorem wO {n:Nat} (hn:n≤100):gY [.int (n:Nat)] = .ok (.int (2^n)):=by
 unfold gY
 walk_at "ev"
 rw[gU (by omega)]
 walk_at "ev"
 refine dF (fun i=>[some (.int (n:Nat)),some (.int (2^i)),none]) rfl (fun i x hx=>?_) ?_
 · obtain ⟨_,rfl⟩:=mH hx
   walk_at "ev"
   rw[cj (.inl ⟨by decide,by decide⟩)]
   walk_at "ev"
   rw[show (2:Int)*2^i=2^(i+1) by rw[tz,B2]]
 · rw[iM]
   walk_at "ev"
theorem vp {n:Nat} (h:n≤4):2^n≤16:=by
 have:n=0∨n=1∨n=2∨n=3∨n=4:=by omega
 rcases this with rfl | rfl | rfl | rfl | rfl <;> decide
theorem QV {n:Nat} (h:n≤4):Jz (.int (2^n)) = .ok (upN (2^n)):=by
 have e:((2:Int)^n)=(((2^n:Nat)):Int):=by simp
 have:=vp h
 rw[e,gU (by omega)]
theorem Qp {n:Nat} (h:n≤4):2^n < bp:=by
 have:=vp h
 exact kF this (by decide)
theorem size_le {n:Nat} (h:n≤100000):n < bp:=kF h (by decide)
theorem Ik {n:Nat}{f:Nat→Int}:(cS n).map (fun i=>ae.int (f i))=((cS n).map f).map ae.int:=by rw[lT];rfl
theorem qH (x y:Int):iA x y / 2=iA (x / 2) (y / 2)∧iA x y % 2=(x % 2)*(y % 2):=by
 have h:=PySem.W.kbt_halves x y
 have hx:x % 2=0∨x % 2=1:=by omega
 have hy:y % 2=0∨y % 2=1:=by omega
 rcases hx with hx | hx <;> rcases hy with hy | hy <;> simp only[hx,hy] at h ⊢ <;> (try simp at h) <;> omega
theorem mY (x:Int):g7 x / 2=g7 (x / 2)∧g7 x % 2=1 - x % 2:=by
 unfold g7;omega
theorem yj (x y:Int):iP x y / 2=iP (x / 2) (y / 2)∧iP x y % 2=1 - (1 - x % 2)*(1 - y % 2):=by
 unfold iP
 obtain ⟨a1,a2⟩:=mY (iA (g7 x) (g7 y))
 obtain ⟨b1,b2⟩:=qH (g7 x) (g7 y)
 obtain ⟨c1,c2⟩:=mY x
 obtain ⟨d1,d2⟩:=mY y
 rw[a1,a2,b1,b2,c1,c2,d1,d2]
 exact ⟨rfl,rfl⟩
noncomputable def uK (x y t:Int):Int:=iP (iA x (g7 t)) (iA y t)
theorem Ji (x y t:Int):uK x y t / 2=uK (x / 2) (y / 2) (t / 2)∧uK x y t % 2=if t % 2=1 then y % 2 else x % 2:=by
 unfold uK
 obtain ⟨a1,a2⟩:=yj (iA x (g7 t)) (iA y t)
 obtain ⟨b1,b2⟩:=qH x (g7 t)
 obtain ⟨c1,c2⟩:=qH y t
 obtain ⟨d1,d2⟩:=mY t
 rw[a1,a2,b1,b2,c1,c2,d1,d2]
 refine ⟨rfl,?_⟩
 have ht:t % 2=0∨t % 2=1:=by omega
 rcases ht with ht | ht <;> rw[ht] <;> simp <;> omega
theorem BZ (x:Int):iA 0 x=0:=by
 have:=PySem.W.kbt_mask' x 0
 simpa using this
theorem j7 {W:Nat}{f:Nat→Int}:tab (W+1) f=2*tab W (fun r=>f (r+1))+f 0:=by
 unfold tab
 rw[AO,dk,iJ,lT]
 rfl
theorem Ih {f g:Nat→Int} (t:Int) (hf:∀r,f r=0∨f r=1) (hg:∀r,g r=0∨g r=1):∀W:Nat,uK (tab W f) (tab W g) t=tab W fun r=>if bj t (r:Nat)=1 then g r else f r
 | 0=>by
  show uK 0 0 t=0
  unfold uK
  rw[BZ,BZ]
  rfl
 | W+1=>by
  have ih:=Ih (f:=fun r=>f (r+1)) (g:=fun r=>g (r+1)) (t / 2) (fun r=>hf (r+1)) (fun r=>hg (r+1)) W
  rw[j7,j7,j7]
  have f0:=hf 0
  have g0:=hg 0
  obtain ⟨h1,h2⟩:=Ji (2*tab W (fun r=>f (r+1))+f 0) (2*tab W (fun r=>g (r+1))+g 0) t
  rw[show (2*tab W (fun r=>f (r+1))+f 0) / 2=tab W (fun r=>f (r+1)) by omega,show (2*tab W (fun r=>g (r+1))+g 0) / 2=tab W (fun r=>g (r+1)) by omega,ih] at h1
  rw[show (2*tab W (fun r=>f (r+1))+f 0) % 2=f 0 by omega,show (2*tab W (fun r=>g (r+1))+g 0) % 2=g 0 by omega] at h2
  have e:(fun r:Nat=>if bj t ((r+1:Nat):Int)=1 then g (r+1) else f (r+1))=fun r:Nat=>if bj (t / 2) (r:Nat)=1 then g (r+1) else f (r+1):=by
   funext r;rw[By]
  rw[e,show bj t ((0:Nat):Int)=t % 2 from Bl t]
  omega
theorem m5 (c:Int):∀W:Nat,tab W (fun _=>c)=(2^W - 1)*c
 | 0=>by simp[tab,dI]
 | W+1=>by
  rw[j7,m5 c W,tz]
  have:(2^W*2 - 1)*c=2*((2^W - 1)*c)+c:=by
   rw[Int.sub_mul,Int.sub_mul,Int.mul_sub,zw,Int.mul_left_comm (2^W) 2 c];omega
  rw[this]
theorem lE {x:Int} (h0:0≤x) (h1:x < 4000):Builtin.Range.rangeFitsLong x=true:=by
 unfold Builtin.Range.rangeFitsLong
 rw[decide_eq_true (show -(2^63)≤x by omega),decide_eq_true (show x < 2^63 by omega)]
 rfl
theorem Qa {n:Nat} (h:n < 1000):Eo (.int 0) (.int ((2*n:Nat):Int)) (.int 2) = .ok ((cS n).map fun (k:Nat)=>ae.int (((2*k:Nat)):Int)):=by
 have e:dt 0 ((2*n:Nat):Int) 2=(n:Nat):=by
  unfold dt
  rw[if_pos (by decide)]
  split <;> omega
 have hs:iL 0 ((2*n:Nat):Int) 2=true:=by
  unfold iL
  rw[e,lE (by decide) (by decide),lE (by omega) (by omega),lE (by decide) (by decide),lE (by omega) (by omega),if_pos (by decide),lE (by omega) (by omega),Bool.or_true]
  rfl
 have e2:Eo (.int 0) (.int ((2*n:Nat):Int)) (.int 2)=gd ((2:Int)≠0∧(2:Int).natAbs < 1073741824∧iL 0 ((2*n:Nat):Int) 2=true∧0≤dt 0 ((2*n:Nat):Int) 2) (.ok ((cS (dt 0 ((2*n:Nat):Int) 2).toNat).map fun k=>ae.int (0+(k:Nat)*2))):=rfl
 have c3:(2:Int)≠0∧(2:Int).natAbs < 1073741824∧iL 0 ((2*n:Nat):Int) 2=true∧0≤dt 0 ((2*n:Nat):Int) 2:=⟨by omega,by omega,hs,by rw[e];omega⟩
 refine e2.trans ((cj c3).trans ?_)
 rw[e,eM]
 refine congrArg Res.ok (lp fun k _=>congrArg ae.int ?_)
 omega
noncomputable def Dl (W N:Nat) (F:Int→Nat→Int):List Int:=(cS N).map fun p=>tab W (F (p:Nat))
theorem zp {W N:Nat}{F:Int→Nat→Int}{p:Nat} (h:p < N):((Dl W N F).map ae.int)[p]?=some (.int (tab W (F (p:Nat)))):=by
 unfold Dl
 rw[lT,cn,ke h]
 rfl
noncomputable def yD (t:Int) (F:Int→Nat→Int):Int→Nat→Int:=fun p r=>F (2*p+bj t (r:Nat)) r
noncomputable def jE:List Int→(Int→Nat→Int)→Int→Nat→Int
 | [],F=>F
 | t::ts,F=>jE ts (yD t F)
theorem Dn:∀{ts:List Int}{F:Int→Nat→Int},(∀p r,F p r=0∨F p r=1)→∀p r,jE ts F p r=0∨jE ts F p r=1
 | [],F,h=>h
 | t::ts,F,h=>Dn (ts:=ts) fun p r=>h _ r
theorem yI:∀{ts:List Int}{t:Int}{F:Int→Nat→Int},jE (ts++[t]) F=yD t (jE ts F)
 | [],t,F=>rfl
 | u::ts,t,F=>yI (ts:=ts)
theorem Dg:∀{ts:List Int}{F:Int→Nat→Int}{p:Int}{r:Nat},jE ts F p r=F (2^ts.length*p+dI (ts.map fun t=>bj t (r:Nat))) r
 | [],F,p,r=>by show F p r=F (2^0*p+0) r;simp
 | t::ts,F,p,r=>by
  show jE ts (yD t F) p r=_
  rw[Dg]
  unfold yD
  rw[dk,iJ,bX,tz]
  congr 1
  rw[B2 (2^ts.length) 2,zw]
  omega
theorem Mj {m W:Nat}{b:Int}{ts:List Int} (hl:ts.length=m) (hm:m≤4):nH [dG m b,dL ts,.int (2^W - 1)] = .ok (.int (tab W fun r=>bj b (dI (ts.map fun t=>bj t (r:Nat))))):=by
 have hp:∀i,2^(m - i)≤16:=fun i=>by have:=vp (n:=m - i) (by omega);omega
 unfold nH
 walk_at "ev"
 rw[uB (n:=2^m) (fun p=>.int (tab W fun _=>bj b (p:Nat))) ?_ (Qp hm) fun i _=>?_]
 rotate_left
 · walk_at "ev"
   rw[wO (by omega)]
   walk_at "ev"
   exact QV hm
 · walk_at "ev"
   rw[Zk (by omega)]
   walk_at "ev"
   have cm:qL (2^W - 1) (bj b (i:Nat)):=.inr ⟨by have:=GR b (i:Nat);omega,by have:=Vq b (i:Nat);omega⟩
   rw[cj cm,m5]
 walk_at "ev"
 rw[Ik]
 refine dF (fun i=>[some (dG m b),some (dL ts),some (.int (2^W - 1)),some (dL (Dl W (2^(m - i)) (jE (ts.take i) fun p r=>bj b p))),none]) rfl (fun i x hx=>?_) ?_
 rotate_left
 · rw[aw,hl,AS,← hl,i7]
   unfold dL
   walk_at "ev"
   rw[show (ae.int 0) = .int ((0:Nat):Int) from rfl,pR (zp (by decide))]
   walk_at "ev"
   congr 2
   refine iI fun r hr=>?_
   rw[Dg]
   congr 1
   simp
 · obtain ⟨t,rfl,ht⟩:=ints_get hx
   have hi:i < ts.length:=(de.mp ht).1
   have e2:2^(m - i)=2*2^(m - (i+1)):=by rw[show m - i=(m - (i+1))+1 by omega,iF];omega
   have p16:=hp (i+1)
   have F01:∀p r,jE (ts.take i) (fun p r=>bj b p) p r=0∨jE (ts.take i) (fun p r=>bj b p) p r=1:=Dn fun p r=>kY b p
   walk_at "ev"
   rw[uC (α:=Nat) (xs:=cS (2^(m - (i+1)))) (fun k=>.int ((2*k:Nat):Int)) (fun k=>.int (tab W (jE (ts.take (i+1)) (fun p r=>bj b p) (k:Nat)))) ?_ (size_le (by rw[dP];omega)) fun k hk=>?_]
   · walk_at "ev"
     rw[Ik]
     rfl
   · unfold R0
     walk_at "ev"
     rw[show (Dl W (2^(m - i)) (jE (ts.take i) fun p r=>bj b p)).length=2*2^(m - (i+1)) by unfold Dl;rw[aw,dP,e2]]
     exact Qa (by omega)
   · have hk':=d5.mp hk
     unfold dL
     walk_at "ev"
     rw[pR (zp (by omega)),show ((2*k:Nat):Int)+1=((2*k+1:Nat):Int) by omega,pR (zp (by omega))]
     walk_at "ev"
     show Res.ok (ae.int (uK (tab W _) (tab W _) t))=_
     rw[Ih t (F01 _) (F01 _)]
     congr 2
     refine iI fun r hr=>?_
     rw[kR,ht]
     show _=jE (ts.take i++[t]) _ _ _
     rw[yI]
     unfold yD
     rcases kY t (r:Nat) with h | h <;> rw[h]
     · rw[if_neg (by decide)];congr 1 <;> omega
     · rw[if_pos rfl];congr 1 <;> omega
noncomputable def dN (ks:List Nat):List ae:=ks.map fun k=>ae.int (k:Nat)
theorem snoc_ind {α:Type}{P:List α→Prop} (h0:P []) (h:∀l a,P l→P (l++[a])) (l:List α):P l:=by
 have:∀k:Nat,∀l:List α,l.length=k→P l:=by
  intro k
  induction k with
  | zero=>intro l hl;rw[kS.mp hl];exact h0
  | succ k ih=>
   intro l hl
   have hne:l≠[]:=fun z=>by rw[z] at hl;cases hl
   rw[← List.dropLast_concat_getLast hne]
   exact h _ _ (ih _ (by rw[List.length_dropLast,hl];rfl))
 exact this _ l rfl
theorem HY {ts:List Int}{k:Nat} (h:k < ts.length):ixD (dL ts) (.int (k:Nat)) = .ok (.int (ts.getD k 0)):=by
 unfold dL
 refine pR (i:=k) ?_
 rw[cn,ax,aS h];rfl
theorem Cg {xs:List Int}:Dt [.list (xs.map ae.int)] = .ok (.int xs.sum):=by
 show (match intsOf (xs.map ae.int) with | some ns=>Res.ok (ae.int ns.sum) | none=>.bad)=_
 rw[lY]
theorem wK {k:Nat}:∀{ds:List ae},(∀d∈ds,d.depth≤k)→kU ds≤k
 | [],_=>by rw[kU];exact iE _
 | d::ds,h=>by
  rw[kU]
  exact Nat.max_le.mpr ⟨h d b5,wK fun e he=>h e (bg _ he)⟩
theorem qt {k:Nat}{ds:List ae} (h:∀d∈ds,d.depth≤k):(ae.tuple ds).depth≤k+1:=by
 rw[ae.depth]
 have:=wK h
 omega
theorem Ao {ds:List ae} (h:∀d∈ds,plain d=true):gO ds=true:=by
 induction ds with
 | nil=>rw[gO]
 | cons d ds ih=>rw[gO,h d b5,ih fun e he=>h e (bg _ he)];rfl
theorem Ot {ds:List ae} (h:∀d∈ds,plain d=true):plain (.tuple ds)=true:=by rw[L3.plain];exact Ao h
theorem VG {i:Int}:plain (.int i)=true:=by rw[L3.plain]
theorem vH {i:Int}:(ae.int i).depth≤0:=by rw[ae.depth];exact aE _
theorem Om {n:Nat}{b:Int}:(dG n b).depth≤1:=qt (k:=0) fun d hd=>by
 rcases be.mp hd with rfl | hd
 · exact vH
 · rw[ba.mp hd];exact vH
noncomputable def cF (b:Int) (ts:List Int) (w:Nat):Int:=tab w fun c=>bj b (dI (ts.map fun t=>bj t (c:Nat)))
theorem qF {b:Int}{ts:List Int}{w:Nat}:0≤cF b ts w:=rZ fun _=>kY _ _
theorem Ab {b:Int}{ts:List Int}{w:Nat}:cF b ts w < 2^w:=Dq fun _=>kY _ _
theorem rW {m:Nat}{b:Int}{ts:List Int}{w:Nat} (hl:ts.length=m) (hm:m≤4) (hw:w≤100):du [dG m b,dL ts,.int (w:Nat)] = .ok (.int (cF b ts w)):=by
 unfold du
 walk_at "ev"
 rw[wO hw]
 walk_at "ev"
 rw[Mj hl hm]
 rfl
theorem take_snoc {α:Type}{l:List α}{i:Nat}{x:α} (h:l[i]?=some x):l.take (i+1)=l.take i++[x]:=by
 rw[List.take_succ,h];rfl
noncomputable def mk (ks:List Int):List (ae×ae):=ks.map fun k=>(ae.int k,ae.bool true)
noncomputable def fj (x:Int) (ks:List Int):List Int:=if x∈ks then ks else ks++[x]
theorem Nt {x:Int}:∀ks:List Int,wY (.inl x) (mk ks)=decide (x∈ks)
 | []=>rfl
 | k::ks=>by
  show (if dJ (ae.int k)=some (.inl x) then true else wY (.inl x) (mk ks))=_
  rw[Nt ks]
  by_cases h:k=x
  · subst h
    rw[if_pos (show dJ (ae.int k)=some (.inl k) from rfl),decide_eq_true b5]
  · rw[if_neg (show ¬ (dJ (ae.int k)=some (.inl x)) from fun z=>h (rV.inj (Option.some.inj z)))]
    have:(x∈k::ks)↔x∈ks:=⟨fun z=>(be.mp z).resolve_left (fun e=>h e.symm),bg _⟩
    exact decide_eq_decide.mpr this.symm
theorem Hq {x:Int}:∀ks:List Int,(jH (.inl x) (mk ks)).isSome=decide (x∈ks)
 | []=>rfl
 | k::ks=>by
  show (if dJ (ae.int k)=some (.inl x) then some (ae.bool true) else jH (.inl x) (mk ks)).isSome=_
  by_cases h:k=x
  · subst h
    rw[if_pos (show dJ (ae.int k)=some (.inl k) from rfl),decide_eq_true b5];rfl
  · rw[if_neg (show ¬ (dJ (ae.int k)=some (.inl x)) from fun z=>h (rV.inj (Option.some.inj z))),Hq ks]
    have:(x∈k::ks)↔x∈ks:=⟨fun z=>(be.mp z).resolve_left (fun e=>h e.symm),bg _⟩
    exact decide_eq_decide.mpr this.symm
theorem MF {x:Int}:∀ks:List Int,zy (.inl x) (.bool true) (mk ks)=mk ks
 | []=>rfl
 | k::ks=>by
  show (if dJ (ae.int k)=some (.inl x) then (ae.int k,ae.bool true) else (ae.int k,ae.bool true))::zy (.inl x) (.bool true) (mk ks)=(ae.int k,ae.bool true)::mk ks
  rw[MF ks,ite_self]
theorem WK {x:Int}{ks:List Int}:qx (.int x) (.inl x) (.bool true) (mk ks)=mk (fj x ks):=by
 unfold qx fj
 rw[Nt]
 by_cases h:x∈ks
 · rw[if_pos (decide_eq_true h),if_pos h,MF]
 · rw[if_neg (by rw[decide_eq_true_eq];exact h),if_neg h]
   unfold mk
   rw[fe]
   rfl
theorem xm {x:Int}{ks:List Int}:(fj x ks).length≤ks.length+1:=by
 unfold fj
 split
 · omega
 · rw[ay];exact aE _
theorem pq {x y:Int}{ks:List Int}:y∈fj x ks↔y=x∨y∈ks:=by
 unfold fj
 split
 · rename_i h
   exact ⟨.inr,fun z=>z.elim (fun e=>e ▸ h) id⟩
 · rw[fy,ba]
   exact Or.comm
theorem Xb {ks:List Int}:(mk ks).length=ks.length:=by unfold mk;rw[aw]
theorem mG {i:Nat}{m1 m2:ME}{Γ:Ev}{x:Int}{ks:List Int} (h2:m2 Γ = .ok (.bool true)) (h1:m1 Γ = .ok (.int x)) (hg:gv Γ i=some (.dict (mk ks))) (hl:ks.length≤100000) (hi:i < Γ.length):lQ i m1 m2 Γ = .ok (.nx (Γ.set i (some (.dict (mk (fj x ks)))))):=by
 unfold lQ
 rw[h2,h1]
 show (match gv Γ i with
  | some (.dict kvs)=>(match dJ (.int x) with
   | some key=>gd (kvs.length < bp∧i < Γ.length) (.ok (Out.nx (Γ.set i (some (.dict (qx (.int x) key (.bool true) kvs))))))
   | none=>.bad)
  | _=>Res.bad)=_
 rw[hg]
 show gd ((mk ks).length < bp∧i < Γ.length) (.ok (Out.nx (Γ.set i (some (.dict (qx (.int x) (.inl x) (.bool true) (mk ks)))))))=_
 rw[cj ⟨size_le (by rw[Xb];exact hl),hi⟩,WK]
theorem FW:∀ks:List Int,mW (mk ks)=some ks
 | []=>rfl
 | k::ks=>by
  show (mW (mk ks)).map (k :: ·)=_
  rw[FW ks];rfl
theorem K6 {ks:List Int} (h:ks.length < 3000):zG [.dict (mk ks)] = .ok (.list ((srt ks).map ae.int)):=by
 show (match mW (mk ks) with
  | some ns=>gd (ns.length < 3000) (Res.ok (ae.list ((srt ns).map ae.int)))
  | none=>.bad)=_
 rw[FW]
 exact cj h
theorem u9 {ks:List Int} (h:ks.length < 3000):q9 [.list (ks.map ae.int)] = .ok (.list ((srt ks).map ae.int)):=by
 show (match intsOf (ks.map ae.int) with
  | some ns=>gd (ns.length < 3000) (Res.ok (ae.list ((srt ns).map ae.int)))
  | none=>.bad)=_
 rw[lY]
 exact cj h
noncomputable def dR (rs:List Int):ae:=.tuple (rs.map ae.int)
theorem Py {x:Int}{ks:List Int}:qQ (.int x) (.dict (mk ks)) = .ok (.bool (!decide (x∈ks))):=by
 show Res.ok (ae.bool (!(jH (.inl x) (mk ks)).isSome))=_
 rw[Hq]
noncomputable def jn (rs:List Int) (ls:List (List Int)):List (List Int):=ls.flatMap fun c=>rs.map fun r=>c++[r]
noncomputable def nP (rs:List Int):Nat→List (List Int)
 | 0=>[[]]
 | m+1=>jn rs (nP rs m)
theorem qu {rs:List Int}:∀ls:List (List Int),(jn rs ls).length=ls.length*rs.length
 | []=>by show 0=0*_;omega
 | c::ls=>by
  show ((rs.map fun r=>c++[r])++jn rs ls).length=_
  rw[ay,aw,qu ls,bX,AK];omega
theorem FT {rs:List Int}:∀m,(nP rs m).length=rs.length^m
 | 0=>rfl
 | m+1=>by show (jn rs (nP rs m)).length=_;rw[qu,FT m,iF]
theorem BL {rs:List Int}:∀m,∀c∈nP rs m,c.length=m
 | 0,c,h=>by rw[ba.mp h];rfl
 | m+1,c,h=>by
  obtain ⟨c',h1,h2⟩:=mw.mp h
  obtain ⟨r,_,rfl⟩:=eh.mp h2
  rw[ay,BL m c' h1];rfl
theorem K9 {rs:List Int}{ls:List (List Int)}{c:List Int}:jn rs (ls++[c])=jn rs ls++rs.map fun r=>c++[r]:=by
 unfold jn
 rw[oj]
 show _++((rs.map fun r=>c++[r])++[])=_
 rw[fq]
theorem abF {c:List Int}{r:Int} (h:c.length≤100):bI (dL c) (.list [.int r]) = .ok (dL (c++[r])):=by
 unfold dL
 rw[BV (fF (size_le (by rw[aw,iN];omega))),fe]
 rfl
theorem yl {α:Type}{g:MG}{cl:List Nat}{b:MS}{Γ:Ev} (enc D:α→ae) (p:α→Bool):∀{xs:List α},(∀a∈xs,((g (enc a) Γ).bind b).bind (lM cl)=if p a=true then .ok (.rt (D a)) else .ok (.nx Γ)) →
 forR g cl b (xs.map enc) Γ=match xs.find? p with | some a=>.ok (.rt (D a)) | none=>.ok (.nx Γ)
 | [],_=>rfl
 | x::xs,h=>by
  have h1:=h x b5
  have ih:=yl enc D p (xs:=xs) fun a ha=>h a (bg _ ha)
  rw[dk]
  cases hp:p x with
  | true=>
   rw[if_pos hp] at h1
   obtain ⟨o,h2,h3⟩:=Res.aF h1
   obtain ⟨Γ1,h4,h5⟩:=Res.aF h2
   rw[kX,hp,forR,h4,Res.bz,h5,Res.bz]
   cases o <;> cases h3
   rfl
  | false=>
   rw[if_neg (by rw[hp];exact ky)] at h1
   rw[HX h1,ih,kX,hp]
theorem Vn {a:List ae}{k:Int} (h : -(2^63)≤k∧k < 2^63∧a.length*k.toNat≤bp):oh (.list a) (.int k) = .ok (.list (b9 k.toNat a).flatten):=cj h
theorem rep1 {n:Nat}{x:ae} (hn:n≤100):oh (.list [x]) (.int (n:Nat)) = .ok (.list (b9 n x)):=by
 rw[Vn ⟨by omega,by omega,by rw[eM,iN,Nat.one_mul];exact fF (size_le (by omega))⟩,eM]
 congr 2
 clear hn
 induction n with
 | zero=>rfl
 | succ n ih=>rw[gL,kQ,ih,gL];rfl
noncomputable def markL (rs:List Int):List Int:=rs.foldl (fun ks r=>fj r ks) []
theorem sJ {rs:List Int}{r:Int}:markL (rs++[r])=fj r (markL rs):=by unfold markL;rw[nI];rfl
theorem Ov {x:Int} (rs:List Int):x∈markL rs↔x∈rs:=by
 induction rs using snoc_ind with
 | h0=>exact Iff.rfl
 | h rs r ih=>rw[sJ,pq,ih,fy,ba];exact Or.comm
theorem Og (rs:List Int):(markL rs).length≤rs.length:=by
 induction rs using snoc_ind with
 | h0=>exact aE _
 | h rs r ih=>rw[sJ,ay];exact eK xm (zI ih)
theorem Q3 {rs:List Int} (hr:rs.length≤1000):mL [dR rs] = .ok (.dict (mk (markL rs))):=by
 unfold mL
 walk_at "ev"
 rw[show Aa (dR rs) = .ok (rs.map ae.int) from rfl,show zm [] [some (dR rs),none,none] = .ok (.dict []) from rfl]
 walk_at "ev"
 refine dF (fun i=>[some (dR rs),some (.dict (mk (markL (rs.take i)))),none]) rfl (fun i x hx=>?_) ?_
 · obtain ⟨r,er,rfl⟩:=jD hx
   walk_at "ev"
   rw[mG (x:=r) (ks:=markL (rs.take i)) rfl rfl rfl (eK (Og _) (by rw[eA];omega)) (of_decide_eq_true rfl)]
   walk_at "ev"
   rw[take_snoc er,sJ]
 · rw[aw,i7]
   walk_at "ev"
noncomputable def cY (cs:List (List Int)):List (List Int):=cs.foldl (fun ls rs=>jn rs ls) [[]]
theorem oM (cs:List (List Int)) (rs:List Int):cY (cs++[rs])=jn rs (cY cs):=by unfold cY;rw[nI];rfl
theorem Nr {rs:List Int}{ls:List (List Int)}{c:List Int}:c∈jn rs ls↔∃d∈ls,∃r∈rs,c=d++[r]:=by
 unfold jn
 rw[mw]
 constructor
 · rintro ⟨d,hd,h⟩
   obtain ⟨r,hr,rfl⟩:=eh.mp h
   exact ⟨d,hd,r,hr,rfl⟩
 · rintro ⟨d,hd,r,hr,rfl⟩
   exact ⟨d,hd,eh.mpr ⟨r,hr,rfl⟩⟩
theorem qi {c:List Int}{cs:List (List Int)}:c∈cY cs↔c.length=cs.length∧∀i,i < cs.length→c.getD i 0∈cs.getD i []:=by
 induction cs using snoc_ind generalizing c with
 | h0=>
  constructor
  · intro h;rw[ba.mp h];exact ⟨rfl,fun i hi=>absurd hi (A0 _)⟩
  · rintro ⟨h,_⟩;rw[kS.mp h];exact ba.mpr rfl
 | h cs rs ih=>
  rw[oM,Nr]
  constructor
  · rintro ⟨d,hd,r,hr,rfl⟩
    obtain ⟨h1,h2⟩:=ih.mp hd
    refine ⟨by rw[ay,ay,h1];rfl,fun i hi=>?_⟩
    rw[ay] at hi
    have hi:i < cs.length+1:=hi
    rcases lI i cs.length with q | q
    · have:=h2 i q
      rw[ax,ax] at this ⊢
      rw[eP (l₁:=d) (by omega),eP (l₁:=cs) q]
      exact this
    · have e:i=cs.length:=by omega
      subst e
      rw[ax,ax,d6 (l₁:=d) (by omega),d6 (l₁:=cs) (aE _),h1,AS]
      exact hr
  · rintro ⟨h1,h2⟩
    rw[ay] at h1
    have h1:c.length=cs.length+1:=h1
    have hl:cs.length < c.length:=by omega
    refine ⟨c.take cs.length,ih.mpr ⟨by rw[eA];omega,fun i hi=>?_⟩,c.getD cs.length 0,?_,?_⟩
    · have:=h2 i (by rw[ay];exact qa hi)
      rw[ax,ax] at this ⊢
      rw[eP hi] at this
      rw[List.getElem?_take,if_pos hi]
      exact this
    · have:=h2 cs.length (by rw[ay];exact mo _)
      rw[ax (l:=cs++[rs]),d6 (aE _),AS] at this
      exact this
    · rw[ax,aS hl]
      show c=c.take cs.length++[c[cs.length]]
      have e1:c.take (cs.length+1)=c.take cs.length++[c[cs.length]]:=by rw[kR,aS hl];rfl
      rw[← e1,fz (by omega)]
theorem Kq {c:List Int}{cs:List (List Int)} (h:c∈cY cs):c.length=cs.length:=(qi.mp h).1
theorem BP {B:Nat}:∀{cs:List (List Int)},(∀rs∈cs,rs.length≤B)→(cY cs).length≤B^cs.length:=fun {cs}=>by
 induction cs using snoc_ind with
 | h0=>exact fun _=>aE _
 | h cs rs ih=>
  intro hb
  rw[oM,qu,ay]
  show _≤B^(cs.length+1)
  rw[iF]
  exact BB (ih fun r hr=>hb r (fA _ hr)) (hb rs (by simp))
theorem qd (rs:List Int):∀m,nP rs m=cY (b9 m rs)
 | 0=>rfl
 | m+1=>by
  rw[List.replicate_succ',oM,← qd rs m]
  rfl
theorem xW {rs c:List Int}{m:Nat}:c∈nP rs m↔c.length=m∧∀x∈c,x∈rs:=by
 rw[qd,qi,cq]
 constructor
 · rintro ⟨h1,h2⟩
   refine ⟨h1,fun x hx=>?_⟩
   obtain ⟨i,hi,rfl⟩:=eS.mp hx
   have:=h2 i (by omega)
   rw[ax,ax,aS hi,kP (by omega)] at this
   exact this
 · rintro ⟨h1,h2⟩
   refine ⟨h1,fun i hi=>?_⟩
   rw[ax,ax,aS (l:=c) (by omega),kP hi]
   exact h2 _ (e8 _)
theorem UT {n m:Nat} (hn:n≤100000) (hm:m≤4):qN [.int (n:Nat),.int (m:Nat)] = .ok (.int ((n^m:Nat):Int)):=by
 unfold qN
 walk_at "ev"
 rw[gU (by omega)]
 walk_at "ev"
 refine dF (fun i=>[some (.int (n:Nat)),some (.int (m:Nat)),some (.int ((n^i:Nat):Int)),none]) rfl (fun i x hx=>?_) ?_
 · obtain ⟨hi,rfl⟩:=mH hx
   have e:((n^(i+1):Nat):Int)=(n:Nat)*((n^i:Nat):Int):=by rw[iF,oQ,Int.natCast_mul]
   rw[e]
   generalize n^i=q
   walk_at "go"
 · rw[iM]
   walk_at "ev"
noncomputable abbrev dGp (g:Nat×Int):ae:=dG g.1 g.2
theorem TV {i:Nat}{m:ME}{Γ:Ev}{ds es:List ae} (hm:m Γ = .ok (.list es)) (hg:gv Γ i=some (.list ds)) (hl:ds.length+es.length≤bp) (hi:i < Γ.length):JT i m Γ = .ok (.nx (Γ.set i (some (.list (ds++es))))):=by
 unfold JT
 rw[hm]
 show (match gv Γ i,ae.list es with
  | some (.list ds),.list es=>gd (ds.length+es.length≤bp∧i < Γ.length) (.ok (Out.nx (Γ.set i (some (.list (ds++es))))))
  | _,_=>Res.bad)=_
 rw[hg]
 exact cj ⟨hl,hi⟩
noncomputable def d9 (old fresh:List Int) (n p:Nat):List (List Int):=b9 p old++[fresh]++b9 (n - p - 1) (old++fresh)
noncomputable def nG (old fresh:List Int) (n:Nat):List (List Int):=(cS n).flatMap fun p=>cY (d9 old fresh n p)
theorem iW {old fresh:List Int}{n p:Nat} (h:p < n):(d9 old fresh n p).length=n:=by
 unfold d9
 rw[ay,ay,cq,cq,iN];omega
theorem Bf {old fresh:List Int}{n p i:Nat} (h:p < n) (hi:i < n):(d9 old fresh n p).getD i []=if i < p then old else if i=p then fresh else old++fresh:=by
 unfold d9
 rw[ax]
 rcases y0 i p with q | q | q
 · rw[if_pos q,eB,eP (by rw[cq];exact q),kP q];rfl
 · subst q
   rw[if_neg (hZ _),if_pos rfl,eB,d6 (by rw[cq];exact aE _),cq,AS];rfl
 · rw[if_neg (by omega),if_neg (by omega),d6 (by rw[ay,cq,iN];omega),ay,cq,iN,kP (by omega)];rfl
theorem pH {old fresh c:List Int}{n:Nat} (h:c∈nG old fresh n):c.length=n∧∀x∈c,x∈old++fresh:=by
 obtain ⟨p,hp,h⟩:=mw.mp h
 have hp:=d5.mp hp
 obtain ⟨h1,h2⟩:=qi.mp h
 rw[iW hp] at h1 h2
 refine ⟨h1,fun x hx=>?_⟩
 obtain ⟨i,hi,rfl⟩:=eS.mp hx
 have:=h2 i (by omega)
 rw[Bf hp (by omega),ax,aS hi] at this
 have this:c[i]∈if i < p then old else if i=p then fresh else old++fresh:=this
 split at this
 · exact fA _ this
 · split at this
   · exact cK _ this
   · exact this
theorem Kw {old fresh c:List Int}{n:Nat} (hl:c.length=n) (hc:∀x∈c,x∈old++fresh) (hx:∃x∈c,x∉old):c∈nG old fresh n:=by
 have hlt:c.findIdx (fun x=>!decide (x∈old)) < c.length:=List.findIdx_lt_length.mpr (by
  obtain ⟨x,h1,h2⟩:=hx
  exact ⟨x,h1,by rw[decide_eq_false h2];rfl⟩)
 have hp:=List.findIdx_getElem (w:=hlt)
 refine mw.mpr ⟨c.findIdx (fun x=>!decide (x∈old)),d5.mpr (by omega),qi.mpr ⟨by rw[iW (by omega),hl],fun i hi=>?_⟩⟩
 rw[iW (by omega)] at hi
 rw[Bf (by omega) hi,ax,aS (by omega)]
 show c[i]∈_
 have hin:=hc _ (e8 (show i < c.length by omega))
 split
 · rename_i q
   have:=List.not_of_lt_findIdx q
   simp only[Bool.not_eq_true,Bool.not_eq_false'] at this
   exact of_decide_eq_true this
 · split
   · rename_i q
     subst q
     have hno:c[c.findIdx (fun x=>!decide (x∈old))]∉old:=by
      intro z
      rw[decide_eq_true z] at hp
      cases hp
     exact (fy.mp hin).resolve_left hno
   · exact hin
theorem lW {a b:List ae} (h:a.length+b.length≤1000):bI (.list a) (.list b) = .ok (.list (a++b)):=BV (fF (size_le (by omega)))
noncomputable def iz (gs:List (Nat×Int)) (old fresh:List Int) (w:Nat):List Int:=gs.flatMap fun g=>(nG old fresh g.1).map fun c=>cF g.2 c w
noncomputable def dB (n:Nat) (gs:List (Nat×Int)):Nat:=(gs.map fun g=>n^g.1).sum
theorem lD {n:Nat}{gs:List (Nat×Int)} (hn:n≤100000) (hg:gs.length≤100) (hm:∀g∈gs,g.1≤4):cu [.int (n:Nat),.list (gs.map dGp)] = .ok (.int (dB n gs:Nat)):=by
 unfold cu
 walk_at "ev"
 rw[uC (xs:=gs) dGp (fun g=>.int ((n^g.1:Nat):Int)) ?_ (size_le (by omega)) fun g h=>?_]
 · walk_at "ev"
   rw[show gs.map (fun g=>ae.int ((n^g.1:Nat):Int))=(gs.map fun g=>((n^g.1:Nat):Int)).map ae.int by rw[lT];rfl]
   have:∀ns:List Int,Dt [.list (ns.map ae.int)] = .ok (.int ns.sum):=fun ns=>Cg
   rw[this]
   walk_at "ev"
   unfold dB
   congr 2
   induction gs with
   | nil=>rfl
   | cons g gs ih=>
    rw[dk,pV,dk,pV,r0,ih (by rw[bX] at hg;omega) fun q hq=>hm q (bg _ hq)]
 · walk_at "ev"
 · walk_at "ev"
   rw[UT hn (hm g h)]
theorem G8 {n:Nat}{gs:List (Nat×Int)} (hn:n≤128) (hg:gs.length≤100) (hm:∀g∈gs,g.1≤4) (hc:dB n gs≤20000):bR [.int (n:Nat),.list (gs.map dGp)] = .ok .none:=by
 unfold bR
 walk_at "ev"
 rw[decide_eq_false (by omega)]
 walk_at "ev"
 rw[lD (by omega) hg hm]
 walk_at "ev"
 rw[decide_eq_false (by omega)]
 walk_at "ev"
theorem Bp {ns:List Int} (h:(ddl ns).length < 3000):jG [dL ns] = .ok (dL (srt (ddl ns))):=by
 show (match intsOf (ns.map ae.int) with
  | some ns=>gd ((ddl ns).length < 3000) (Res.ok (ae.list ((srt (ddl ns)).map ae.int)))
  | none=>.bad)=_
 rw[lY]
 exact cj h
theorem Gv {ns ms:List Int} (h1:(ddl ns).length < 3000) (h2:(ddl ms).length < 3000) (h3:(ddl ns).length / 4≤(ddl ms).length∨5≤(ddl ns).length) (h4:(bQ (ddl ns) (ddl ms)).length < 3000):jg [dL ns,dL ms] = .ok (dL (srt (bQ (ddl ns) (ddl ms)))):=by
 show (match intsOf (ns.map ae.int),intsOf (ms.map ae.int) with
  | some ns,some ms=>gd ((ddl ns).length < 3000∧(ddl ms).length < 3000∧((ddl ns).length / 4≤(ddl ms).length∨5≤(ddl ns).length)∧(bQ (ddl ns) (ddl ms)).length < 3000) (Res.ok (ae.list ((srt (bQ (ddl ns) (ddl ms))).map ae.int)))
  | _,_=>.bad)=_
 rw[lY,lY]
 exact cj ⟨h1,h2,h3,h4⟩
theorem Kr {w:ae}{ns:List Int} (h:(ddl ns).length < 3000):iR [w,dL ns] = .ok (.tuple [w,dR (srt (ddl ns))]):=by
 unfold iR
 walk_at "ev"
 rw[Bp h]
 unfold dL
 walk_at "ev"
 rfl
noncomputable def Iz (gs:List (Nat×Int)) (w:Nat) (Z:Int→Prop):Prop:=∀g∈gs,∀c:List Int,c.length=g.1→(∀x∈c,Z x)→Z (cF g.2 c w)
noncomputable def Reach (gs:List (Nat×Int)) (w:Nat) (rs:List Int) (x:Int):Prop:=∀Z:Int→Prop,(∀r∈rs,Z r)→Iz gs w Z→Z x
theorem Reach.row {gs:List (Nat×Int)}{w:Nat}{rs:List Int}{r:Int} (h:r∈rs):Reach gs w rs r:=fun Z h1 _=>h1 r h
theorem Reach.step {gs:List (Nat×Int)}{w:Nat}{rs c:List Int}{g:Nat×Int} (hg:g∈gs) (hl:c.length=g.1) (h:∀x∈c,Reach gs w rs x):Reach gs w rs (cF g.2 c w):=fun Z h1 h2=>h2 g hg c hl fun x hx=>h x hx Z h1 h2
theorem Reach.mono {gs hs:List (Nat×Int)}{w:Nat}{rs ss:List Int}{x:Int} (h:Reach gs w rs x) (hr:∀r∈rs,Reach hs w ss r) (hg:∀g∈gs,g∈hs):Reach hs w ss x:=h _ hr fun g h1 c hl hc=>Reach.step (hg g h1) hl hc
theorem xH {l:List Int} (h:l.Nodup):ddl l=l:=by
 have key:∀(l σ:List Int),(σ++l).Nodup→l.foldl iV σ=σ++l:=fun l=>by
  induction l with
  | nil=>intro σ _;rw[fq];rfl
  | cons x l ih=>
   intro σ h
   have hx:x∉σ:=fun z=>(ip.mp h).2.2 x z x b5 rfl
   rw[kT,show iV σ x=σ++[x] from if_neg hx,ih (σ++[x]) (by rw[eB];exact h),eB]
   rfl
 exact key l [] (by simpa using h)
theorem ir {x:Int}{l:List Int}:x∈srt l↔x∈l:=(cB l).mem_iff
theorem RL {a b:List Int} (ha:a.Nodup) (hb:b.Nodup) (h:∀x,x∈a↔x∈b):srt a=srt b:=
 gR (((cB a).trans ((List.perm_ext_iff_of_nodup ha hb).mpr h)).trans (cB b).symm) (fL a) (fL b)
theorem Xu {m:ME}{Γ:Ev}{d:ae} (h:m Γ = .ok d):sEx m Γ = .ok (.nx Γ):=by unfold sEx;rw[h];rfl
noncomputable def bJ (w:Nat) (rs:List Int):ae:=.tuple [.int (w:Nat),dR rs]
theorem Bt (w:Nat) (rs:List Int):plain (bJ w rs)=true:=Ot fun d hd=>by
 rcases be.mp hd with rfl | hd
 · exact VG
 · rw[ba.mp hd];exact wL rs
theorem Bc (w:Nat) (rs:List Int):(bJ w rs).depth≤64:=eK (qt (k:=1) fun d hd=>by
 rcases be.mp hd with rfl | hd
 · exact eK vH (by decide)
 · rw[ba.mp hd]
   exact qt (k:=0) fun d hd=>by obtain ⟨x,_,rfl⟩:=eh.mp hd;exact vH) (by decide)
theorem xO (gs:List (Nat×Int)):plain (.list (gs.map dGp))=true:=by
 rw[L3.plain]
 exact Ao fun d hd=>by obtain ⟨g,_,rfl⟩:=eh.mp hd;exact tD
theorem xq (gs:List (Nat×Int)):(ae.list (gs.map dGp)).depth≤64:=by
 have h1:=qt (k:=1) (ds:=gs.map dGp) fun d hd=>by obtain ⟨g,_,rfl⟩:=eh.mp hd;exact Om
 have h2:(ae.tuple (gs.map dGp)).depth=kU (gs.map dGp)+1:=by rw[ae.depth]
 have h3:(ae.list (gs.map dGp)).depth=kU (gs.map dGp)+1:=by rw[ae.depth]
 omega
noncomputable def brk (b:Int) (w:Nat) (rs:List Int) (m:Nat):Option (List Int):=(nP rs m).find? fun c=>!decide (cF b c w∈rs)
noncomputable def Yx:Option (List Int)→ae
 | none=>.none
 | some c=>dL c
theorem R8 {b:Int}{w m:Nat}{rs:List Int}:(brk b w rs m).isNone=(nP rs m).all fun c=>decide (cF b c w∈rs):=by
 unfold brk
 cases h:(nP rs m).find? fun c=>!decide (cF b c w∈rs) with
 | none=>
  have:=xi.mp h
  symm
  show _=true
  rw[kC]
  intro c hc
  have:=this c hc
  simpa using this
 | some c=>
  have h1:=List.find?_some h
  have h2:=List.mem_of_find?_eq_some h
  symm
  show _=false
  rw[← Bool.not_eq_true,kC]
  intro z
  have:=z c h2
  rw[this] at h1
  cases h1
noncomputable abbrev Rl:=Nat×List Int
noncomputable def Kd (b:Int) (n:Nat) (R:Rl):Bool:=(nP R.2 n).all fun c=>decide (cF b c R.1∈R.2)
theorem QK {b:Int}{n:Nat}{R:Rl}:Kd b n R=true↔∀c:List Int,c.length=n→(∀x∈c,x∈R.2)→cF b c R.1∈R.2:=by
 unfold Kd
 rw[kC]
 exact ⟨fun h c hl hc=>of_decide_eq_true (h c (xW.mpr ⟨hl,hc⟩)),fun h c hc=>decide_eq_true (h c (xW.mp hc).1 (xW.mp hc).2)⟩
theorem RQ {l:List Int} (h:l.Pairwise (· ≤ ·)):srt l=l:=gR (cB l) (fL l) h
theorem M4 {n i w:Nat}{c:List Int} (hl:c.length=n) (hi:i < n) (hc:∀x∈c,0≤x∧x < 2^w):cF (v9 n i) c w=c.getD i 0:=by
 have hi':i < c.length:=by omega
 have eg:c.getD i 0=c[i]:=by rw[ax,aS hi'];rfl
 rw[eg]
 have hb:=hc c[i] (e8 hi')
 unfold cF
 refine Lg (fun _=>kY _ _) hb.1 hb.2 fun j _=>?_
 have a01:=fZ.bits (l:=c) (f:=fun t=>t) (g:=fun _=>((j:Nat):Int))
 obtain ⟨r,hr,er,_⟩:=W3 (xs:=c.map fun t=>bj t (j:Nat)) a01
 rw[aw,hl] at hr
 rw[er,Ox hr,← er]
 exact pB a01 (by rw[cn,aS hi'];rfl)
theorem DQ {n m i B:Nat} (h:n^m≤B) (hB:1≤B) (hi:i≤m):n^i≤B:=by
 by_cases h0:n=0
 · subst h0
   exact eK (by cases i with | zero=>exact aE _ | succ i=>rw[Nat.zero_pow (Nat.succ_pos i)];exact iE _) hB
 · exact eK (nN (xa h0) hi) h
theorem wQ {enc:List Int→ae}{cs:List (List Int)} (he:∀rs,Aa (enc rs) = .ok (rs.map ae.int)) (hr:∀rs∈cs,rs.length≤256) (hm:cs.length≤4) (hL:∀i,i < cs.length→(cY (cs.take i)).length≤20000):gK [.list (cs.map enc)] = .ok (.list ((cY cs).map dL)):=by
 unfold gK
 walk_at "ev"
 refine dF (fun i=>[some (.list (cs.map enc)),some (.list ((cY (cs.take i)).map dL)),none,none,none,none]) rfl (fun i x hx=>?_) ?_
 · obtain ⟨rs,ers,rfl⟩:=jD hx
   have hi:=(de.mp ers).1
   have hrs:=hr rs (fE ers)
   have L0:=hL i hi
   walk_at "ev"
   refine dF (fun j=>[some (.list (cs.map enc)),some (.list ((cY (cs.take i)).map dL)),some (enc rs),some (.list ((jn rs ((cY (cs.take i)).take j)).map dL)),none,none]) rfl (fun j x hx=>?_) ?_
   · obtain ⟨c,ec,rfl⟩:=jD hx
     have hc:=Kq (fE ec)
     rw[eA] at hc
     have Lj:(jn rs ((cY (cs.take i)).take j)).length≤5200000:=by
      rw[qu,eA]
      exact eK (BB (eK (Nat.min_le_right _ _) L0) hrs) (by decide)
     walk_at "ev"
     rw[he]
     walk_at "ev"
     refine dF (fun k=>[some (.list (cs.map enc)),some (.list ((cY (cs.take i)).map dL)),some (enc rs),some (.list ((jn rs ((cY (cs.take i)).take j)++(rs.take k).map fun r=>c++[r]).map dL)),some (dL c),none]) ?_ (fun k x hx=>?_) ?_
     · rw[wt,jI,fq]
     · obtain ⟨r,er,rfl⟩:=jD hx
       have hk:=(de.mp er).1
       walk_at "ev"
       rw[abF (by omega)]
       walk_at "ev"
       rw[cj (kF (show _≤5300000 by rw[ay,aw,eA];omega) (by decide))]
       walk_at "ev"
       rw[take_snoc er,fe (f:=fun r=>c++[r]),← eB,fe (f:=dL) (l₂:=List.map (fun r=>c++[r]) [r])]
       rfl
     · rw[aw,i7]
       walk_at "ev"
       rw[take_snoc ec,K9]
   · rw[aw,i7]
     walk_at "ev"
     rw[take_snoc ers,oM]
 · rw[aw,i7]
   walk_at "ev"
theorem p8 {old fresh rs:List Int}{n p:Nat} (h:rs∈d9 old fresh n p):rs.length≤old.length+fresh.length:=by
 unfold d9 at h
 rcases fy.mp h with h | h
 · rcases fy.mp h with h | h
   · rw[(sf.mp h).2];omega
   · rw[ba.mp h];omega
 · rw[(sf.mp h).2,ay];exact aE _
theorem N6 {cs:List (List Int)}{B i:Nat} (hB:∀rs∈cs,rs.length≤B) (hp:B^cs.length≤20000) (hi:i≤cs.length):(cY (cs.take i)).length≤20000:=by
 have:=BP (B:=B) (cs:=cs.take i) (fun rs h=>hB rs (nz h))
 rw[eA,Nat.min_eq_left hi] at this
 exact eK this (DQ hp (by decide) hi)
theorem Eu {cs:List (List Int)}{B:Nat} (hB:∀rs∈cs,rs.length≤B) (hp:B^cs.length≤20000):(cY cs).length≤20000:=eK (BP hB) hp
theorem places_len {old fresh:List Int}{n:Nat} (hp:(old.length+fresh.length)^n≤20000):∀k,k≤n→(((cS k).flatMap fun p=>cY (d9 old fresh n p))).length≤k*20000:=fun k=>by
 induction k with
 | zero=>intro _;simp
 | succ k ih=>
  intro hk
  rw[ll,oj,ay,AK]
  have h1:=ih (by omega)
  have h2:(cY (d9 old fresh n k)).length≤20000:=Eu (fun rs h=>p8 h) (by rw[iW (by omega)];exact hp)
  have e:([k].flatMap fun p=>cY (d9 old fresh n p)).length=(cY (d9 old fresh n k)).length:=by simp
  rw[e];omega
theorem Aj {old fresh:List Int}{n:Nat} (hb:old.length+fresh.length≤128) (hn:n≤4) (hp:(old.length+fresh.length)^n≤20000):jb [dL old,dL fresh,.int (n:Nat)] = .ok (.list ((nG old fresh n).map dL)):=by
 unfold jb
 walk_at "ev"
 rw[gU (by omega)]
 walk_at "ev"
 refine dF (fun i=>[some (dL old),some (dL fresh),some (.int (n:Nat)),some (.list (((cS i).flatMap fun p=>cY (d9 old fresh n p)).map dL)),none]) rfl (fun i x hx=>?_) ?_
 · obtain ⟨hi,rfl⟩:=mH hx
   have e1:(n:Int) - (i:Nat) - 1=((n - i - 1:Nat):Int):=by omega
   have ec:evs [aq bI (aq bI (aq oh (bV [aj 0]) (aj 4)) (bV [aj 1])) (aq oh (bV [aq bI (aj 0) (aj 1)]) (aq qJ (aq qJ (aj 2) (aj 4)) (eC (.int 1))))] [some (dL old),some (dL fresh),some (.int (n:Nat)),some (.list (((cS i).flatMap fun p=>cY (d9 old fresh n p)).map dL)),some (.int (i:Nat))] = .ok [.list ((d9 old fresh n i).map dL)]:=by
    walk_at "ev"
    rw[e1,rep1 (by omega)]
    walk_at "ev"
    rw[lW (by rw[cq];show i+1≤1000;omega)]
    walk_at "ev"
    rw[show bI (dL old) (dL fresh) = .ok (dL (old++fresh)) by unfold dL;rw[lW (by rw[aw,aw];omega),fe]]
    walk_at "ev"
    rw[rep1 (by omega)]
    walk_at "ev"
    rw[lW (by rw[ay,cq,cq];show i+1+_≤1000;omega)]
    unfold d9
    rw[fe,fe,xC,xC]
    rfl
   have L0:=places_len hp i (by omega)
   have L1:(cY (d9 old fresh n i)).length≤20000:=Eu (fun rs h=>p8 h) (by rw[iW hi];exact hp)
   rw[yo]
   walk_at "ev"
   rw[TV (ds:=((cS i).flatMap fun p=>cY (d9 old fresh n p)).map dL) (es:=(cY (d9 old fresh n i)).map dL) ?_ rfl ?_ (of_decide_eq_true rfl)]
   · walk_at "ev"
     rw[ll,oj,fe]
     simp
   · rw[nF,ec,Res.bz]
     exact wQ (enc:=dL) (fun rs=>rfl) (fun rs h=>eK (p8 h) (by omega)) (by rw[iW hi];exact hn) (fun j hj=>N6 (B:=old.length+fresh.length) (fun rs h=>p8 h) (by rw[iW hi];exact hp) (fF hj))
   · rw[aw,aw]
     exact eK (show _≤400000 by omega) (by decide)
 · rw[iM]
   walk_at "ev"
   rfl
theorem Lf {gs:List (Nat×Int)}{old fresh:List Int}{w K:Nat} (hfl:∀g∈gs,(nG old fresh g.1).length≤K) (i:Nat):(iz (gs.take i) old fresh w).length≤i*K:=by
 induction i with
 | zero=>simp[iz]
 | succ i ih=>
  rw[kR]
  unfold iz at ih ⊢
  rw[oj,ay,AK]
  cases h:gs[i]? with
  | none=>
   show _+0≤_
   omega
  | some g'=>
   have:=hfl g' (fE h)
   show _+((nG old fresh g'.1).map (fun c=>cF g'.2 c w)++[]).length≤_
   rw[fq,aw]
   omega
theorem Cq {gs:List (Nat×Int)}{old fresh:List Int}{w:Nat} (hb:old.length+fresh.length≤128) (hg:gs.length≤8) (hgm:∀g∈gs,g.1≤4∧(old.length+fresh.length)^g.1≤20000) (hw:w≤100) :
 eO [.list (gs.map dGp),dL old,dL fresh,.int (w:Nat)] = .ok (dL (iz gs old fresh w)):=by
 have hfl:∀g∈gs,(nG old fresh g.1).length≤80000:=fun g h=>by
  have h1:=places_len (hgm g h).2 g.1 (aE _)
  have h2:=(hgm g h).1
  show (((cS g.1).flatMap fun p=>cY (d9 old fresh g.1 p))).length≤_
  omega
 unfold eO
 walk_at "ev"
 refine dF (fun i=>[some (.list (gs.map dGp)),some (dL old),some (dL fresh),some (.int (w:Nat)),some (dL (iz (gs.take i) old fresh w)),none,none]) rfl (fun i x hx=>?_) ?_
 · obtain ⟨g,eg,rfl⟩:=jD hx
   have hgi:=fE eg
   have hz:=hfl g hgi
   have L0:=Lf (w:=w) hfl i
   have hi:=(de.mp eg).1
   walk_at "ev"
   rw[Aj hb (hgm g hgi).1 (hgm g hgi).2]
   walk_at "ev"
   refine dF (fun j=>[some (.list (gs.map dGp)),some (dL old),some (dL fresh),some (.int (w:Nat)),some (dL (iz (gs.take i) old fresh w++((nG old fresh g.1).take j).map fun c=>cF g.2 c w)),some (dG g.1 g.2),none]) ?_ (fun j x hx=>?_) ?_
   · rw[wt,jI,fq]
   · obtain ⟨c,ec,rfl⟩:=jD hx
     have hcl:=(pH (fE ec)).1
     have hj:=(de.mp ec).1
     walk_at "ev"
     rw[rW hcl (hgm g hgi).1 hw]
     unfold dL
     walk_at "ev"
     rw[cj (kF (show _≤800000 by rw[ay,aw,eA];omega) (by decide))]
     walk_at "ev"
     rw[take_snoc ec,fe (f:=fun c=>cF g.2 c w),← eB,fe (f:=ae.int) (l₂:=List.map (fun c=>cF g.2 c w) [c])]
     rfl
   · rw[aw,i7]
     walk_at "ev"
     rw[take_snoc eg]
     unfold iz
     rw[oj]
     simp
 · rw[aw,i7]
   walk_at "ev"
noncomputable def dD (n:Nat) (gs:List (Nat×Int)):Prop:=128 < n∨20000 < dB n gs
theorem NQ {n n':Nat} (h:n≤n') (gs:List (Nat×Int)):dB n gs≤dB n' gs:=by
 unfold dB
 induction gs with
 | nil=>exact aE _
 | cons g gs ih=>
  rw[dk,pV,dk,pV]
  exact Nat.add_le_add (Nat.pow_le_pow_left h _) ih
theorem dD.mono {n n':Nat}{gs:List (Nat×Int)} (h:dD n gs) (hn:n≤n'):dD n' gs:=by
 rcases h with h | h
 · exact .inl (by omega)
 · exact .inr (cx h (NQ hn gs))
theorem RV {n:Nat}{gs:List (Nat×Int)}{g:Nat×Int} (h:g∈gs):n^g.1≤dB n gs:=by
 unfold dB
 induction gs with
 | nil=>cases h
 | cons q gs ih=>
  rw[dk,pV]
  rcases be.mp h with rfl | h
  · omega
  · have:=ih h;omega
noncomputable def gtC:ME:=eOr (aq gtD (aj 0) (eC (.int 128))) (aq gtD (aX cu [(aj 0),(aj 1)]) (eC (.int 20000)))
theorem Hm {n:Nat}{gs:List (Nat×Int)} (h:dD n gs) (hg:gs.length≤100) (hm:∀g∈gs,g.1≤4):gtC [some (.int (n:Nat)),some (.list (gs.map dGp))] = .ok (.bool true):=by
 unfold gtC
 walk_at "ev"
 by_cases hn:128 < n
 · rw[decide_eq_true (show (128:Int) < (n:Nat) by omega)]
   walk_at "ev"
 · rw[decide_eq_false (show ¬ (128:Int) < (n:Nat) by omega)]
   walk_at "ev"
   rw[lD (by omega) hg hm]
   walk_at "ev"
   rcases h with h | h
   · exact absurd h hn
   · rw[decide_eq_true (show (20000:Int) < (dB n gs:Nat) by omega)]
theorem X8 {c:ME}{Γ:Ev} (h:c Γ = .ok (.bool true)):sIf c lJ cO Γ = .bad:=by
 rw[vW,h];rfl
theorem GD {n:Nat}{gs:List (Nat×Int)} (h:dD n gs) (hg:gs.length≤100) (hm:∀g∈gs,g.1≤4):bR [.int (n:Nat),.list (gs.map dGp)] = .bad:=by
 unfold bR
 show Res.bind (sIf gtC lJ cO [some (.int (n:Nat)),some (.list (gs.map dGp))]) _=_
 rw[X8 (Hm h hg hm)];rfl
structure o7 (gs:List (Nat×Int)) (w:Nat) (rs old fresh:List Int):Prop where
 nd:(old++fresh).Nodup
 bd:∀x∈old++fresh,0≤x∧x < 2^w
 re:∀x∈old++fresh,Reach gs w rs x
 rw:∀r∈rs,r∈old++fresh
 cl:∀g∈gs,∀c:List Int,c.length=g.1→(∀x∈c,x∈old)→cF g.2 c w∈old++fresh
noncomputable def p6 (gs:List (Nat×Int)) (w:Nat) (old fresh:List Int):List Int:=srt (bQ (ddl (iz gs old fresh w)) (ddl (old++fresh)))
theorem o7.step {gs:List (Nat×Int)}{w:Nat}{rs old fresh:List Int} (h:o7 gs w rs old fresh):o7 gs w rs (old++fresh) (p6 gs w old fresh):=by
 obtain ⟨hn,hb,hr,hrw,hcl'⟩:=h
 have hm':∀x,x∈p6 gs w old fresh↔x∈iz gs old fresh w∧x∉old++fresh:=fun x=>by
  unfold p6
  rw[ir]
  unfold bQ
  rw[gE,vD]
  simp[vD]
 have hgR:∀x∈iz gs old fresh w,Reach gs w rs x∧0≤x∧x < 2^w:=fun x hx=>by
  obtain ⟨g,h1,hx⟩:=mw.mp hx
  obtain ⟨c,h2,rfl⟩:=eh.mp hx
  obtain ⟨h3,h4⟩:=pH h2
  exact ⟨Reach.step h1 h3 fun x hx=>hr x (h4 x hx),qF,Ab⟩
 refine ⟨?_,?_,?_,?_,?_⟩
 · refine ip.mpr ⟨hn,(cB _).nodup_iff.mpr ((qb _).filter _),fun a ha b hb' e=>?_⟩
   exact ((hm' b).mp hb').2 (e ▸ ha)
 · intro x hx
   rcases fy.mp hx with h | h
   · exact hb x h
   · exact (hgR x ((hm' x).mp h).1).2
 · intro x hx
   rcases fy.mp hx with h | h
   · exact hr x h
   · exact (hgR x ((hm' x).mp h).1).1
 · intro r h;exact fA _ (hrw r h)
 · intro g h1 c h2 h3
   by_cases hall:∀x∈c,x∈old
   · exact fA _ (hcl' g h1 c h2 hall)
   · have hx:∃x∈c,x∉old:=xE fun z=>hall fun x hx=>xE fun z'=>z ⟨x,hx,z'⟩
     have hin:cF g.2 c w∈iz gs old fresh w:=mw.mpr ⟨g,h1,eh.mpr ⟨c,Kw h2 h3 hx,rfl⟩⟩
     by_cases ho:cF g.2 c w∈old++fresh
     · exact fA _ ho
     · exact cK _ ((hm' _).mpr ⟨hin,ho⟩)
noncomputable def uN (gs:List (Nat×Int)) (w:Nat) (rs:List Int):Prop:=∀l:List Int,l.Nodup→(∀x∈l,Reach gs w rs x)→l.length≤300
theorem o7.len {gs:List (Nat×Int)}{w:Nat}{rs old fresh:List Int} (h:o7 gs w rs old fresh) (hw:uN gs w rs):old.length+fresh.length≤300:=by
 have:=hw _ h.nd h.re
 rw[ay] at this
 exact this
theorem o7.whole {gs:List (Nat×Int)}{w:Nat}{rs old:List Int} (h:o7 gs w rs old []) (x:Int):x∈old↔Reach gs w rs x:=by
 have e:old++[]=old:=fq _
 obtain ⟨hn,hb,hr,hrw,hcl⟩:=h
 rw[e] at hn hb hr hrw hcl
 exact ⟨hr x,fun z=>z (fun x=>x∈old) hrw hcl⟩
noncomputable def cCn:ME:=aq gtD (eFn b8 [(aj 5)]) (eC (.int 0))
noncomputable def cRf:MS:=sEx (aX bR [(aq bI (eFn b8 [(aj 4)]) (eFn b8 [(aj 5)])),(aj 1)])
noncomputable def cBd:MS:=aN cRf (aN (aW 6 (aX eO [(aj 1),(aj 4),(aj 5),(aj 2)])) (aN (aW 4 (aq bI (aj 4) (aj 5))) (aW 5 (eFn jg [(aj 6),(aj 4)]))))
noncomputable def cG (d:ae) (gs:List (Nat×Int)) (w:Nat) (c:ae) (old fresh:List Int):Ev:=[some d,some (.list (gs.map dGp)),some (.int (w:Nat)),some c,some (dL old),some (dL fresh),none]
section
variable {gs:List (Nat×Int)}{w:Nat}{rs old fresh:List Int}{d c:ae}
theorem Km:evs [(aq bI (eFn b8 [(aj 4)]) (eFn b8 [(aj 5)])),(aj 1)] (cG d gs w c old fresh) = .ok [.int ((old.length+fresh.length:Nat):Int),.list (gs.map dGp)]:=by
 unfold cG
 walk_at "ev"
 rw[show ((old.length:Nat):Int)+((fresh.length:Nat):Int)=((old.length+fresh.length:Nat):Int) by omega]
theorem U7 (hz:fresh≠[]):cCn (cG d gs w c old fresh) = .ok (.bool true):=by
 unfold cCn cG
 walk_at "ev"
 rw[decide_eq_true (show (0:Int) < ((fresh.length:Nat):Int) by have:=vS.mpr hz;omega)]
theorem YM:cCn (cG d gs w c old []) = .ok (.bool false):=by
 unfold cCn cG
 walk_at "ev"
theorem Ny (h:dD (old.length+fresh.length) gs) (hg:gs.length≤8) (hm:∀g∈gs,g.1≤4):cRf (cG d gs w c old fresh) = .bad:=by
 unfold cRf sEx
 rw[nF,Km,Res.bz,GD h (by omega) hm];rfl
theorem Yg (h:dD (old.length+fresh.length) gs) (hg:gs.length≤8) (hm:∀g∈gs,g.1≤4):cBd (cG d gs w c old fresh) = .bad:=by
 unfold cBd
 rw[fU,Ny h hg hm];rfl
theorem YD (hI:o7 gs w rs old fresh) (hz:fresh≠[]) (hw:uN gs w rs) (hw2:w≤100) (hg:gs.length≤8) (hm:∀g∈gs,g.1≤4) (hn:¬ dD (old.length+fresh.length) gs) :
 ∃Γ',cBd (cG d gs w c old fresh) = .ok (.nx Γ')∧clr [6] Γ'=cG d gs w c (old++fresh) (p6 gs w old fresh):=by
 have hlen:=hI.len hw
 have h1:old.length+fresh.length≤128:=zS fun z=>hn (.inl z)
 have h2:dB (old.length+fresh.length) gs≤20000:=zS fun z=>hn (.inr z)
 have hgl:(ddl (iz gs old fresh w)).length≤300:=hw _ (qb _) fun x hx=>by
  obtain ⟨g,hgg,hx⟩:=mw.mp (vD.mp hx)
  obtain ⟨c,hc,rfl⟩:=eh.mp hx
  obtain ⟨h3,h4⟩:=pH hc
  exact Reach.step hgg h3 fun x hx=>hI.re x (h4 x hx)
 have hpos:=vS.mpr hz
 have e0:cRf (cG d gs w c old fresh) = .ok (.nx (cG d gs w c old fresh)):=by
  unfold cRf
  refine Xu (d:=.none) ?_
  rw[nF,Km,Res.bz,G8 h1 (by omega) hm h2]
 refine ⟨[some d,some (.list (gs.map dGp)),some (.int (w:Nat)),some c,some (dL (old++fresh)),some (dL (p6 gs w old fresh)),some (dL (iz gs old fresh w))],?_,rfl⟩
 unfold cBd
 rw[fU,e0]
 unfold cG
 walk_at "ev"
 rw[Cq h1 hg (fun g h=>⟨hm g h,eK (RV h) h2⟩) (by omega)]
 walk_at "ev"
 rw[show bI (dL old) (dL fresh) = .ok (dL (old++fresh)) by unfold dL;rw[lW (by rw[aw,aw];omega),fe]]
 walk_at "ev"
 have hdl:(ddl (old++fresh)).length=old.length+fresh.length:=by rw[xH hI.nd,ay]
 rw[Gv (by omega) (by omega) (by omega) (kF (yz _ _) (by omega))]
 walk_at "ev"
 rfl
theorem Hv (hw:uN gs w rs) (hw2:w≤100) (hg:gs.length≤8) (hm:∀g∈gs,g.1≤4):∀(n k:Nat) (old fresh:List Int),o7 gs w rs old fresh→(old=[]∨¬ dD old.length gs)→k+old.length=300→k < n →
 (∃L,whR cCn [6] cBd n (cG d gs w c old fresh) = .ok (.nx (cG d gs w c L []))∧o7 gs w rs L []∧(L=[]∨¬ dD L.length gs)) ∨
 (whR cCn [6] cBd n (cG d gs w c old fresh) = .bad∧(∀(zb:MZ) (T:Str),(∀old fresh,dD (old.length+fresh.length) gs→zb (cG d gs w c old fresh) = .ok T)→mj cCn [6] cBd zb n (cG d gs w c old fresh) = .ok T)∧∃l:List Int,l.Nodup∧(∀x∈l,Reach gs w rs x)∧dD l.length gs)
 | 0,k,old,fresh,_,_,_,h=>absurd h (A0 _)
 | n+1,k,old,fresh,hI,ho,hk,hkn=>by
  by_cases hz:fresh=[]
  · subst hz
    left
    refine ⟨old,?_,hI,ho⟩
    rw[whR,YM];rfl
  · have hy:=U7 (d:=d) (gs:=gs) (w:=w) (c:=c) (old:=old) hz
    have hpos:=vS.mpr hz
    by_cases hG:dD (old.length+fresh.length) gs
    · right
      have hb:=Yg (d:=d) (w:=w) (c:=c) hG hg hm
      refine ⟨?_,fun zb T h=>?_,old++fresh,hI.nd,hI.re,by rw[ay];exact hG⟩
      · rw[whR,hy,Res.bz]
        show (cBd _).bind _=_
        rw[hb];rfl
      · rw[mj,hy,Res.bz]
        show (match cBd (cG d gs w c old fresh) with
         | .ok (.nx Γ2)=>mj cCn [6] cBd zb n (clr [6] Γ2)
         | _=>zb (cG d gs w c old fresh))=_
        rw[hb]
        exact h old fresh hG
    · obtain ⟨Γ',e1,e2⟩:=YD (d:=d) (c:=c) hI hz hw hw2 hg hm hG
      have hlen:=hI.len hw
      have ew:whR cCn [6] cBd (n+1) (cG d gs w c old fresh)=whR cCn [6] cBd n (cG d gs w c (old++fresh) (p6 gs w old fresh)):=by
       rw[whR,hy,Res.bz]
       show (cBd _).bind _=_
       rw[e1,Res.bz]
       show whR cCn [6] cBd n (clr [6] Γ')=_
       rw[e2]
      have ez:∀zb:MZ,mj cCn [6] cBd zb (n+1) (cG d gs w c old fresh)=mj cCn [6] cBd zb n (cG d gs w c (old++fresh) (p6 gs w old fresh)):=fun zb=>by
       rw[mj,hy,Res.bz]
       show (match cBd (cG d gs w c old fresh) with
        | .ok (.nx Γ2)=>mj cCn [6] cBd zb n (clr [6] Γ2)
        | _=>zb (cG d gs w c old fresh))=_
       rw[e1]
       show mj cCn [6] cBd zb n (clr [6] Γ')=_
       rw[e2]
      rw[ew]
      simp only[ez]
      exact Hv hw hw2 hg hm n (k - fresh.length) (old++fresh) (p6 gs w old fresh) hI.step (.inr (by rw[ay];exact hG)) (by rw[ay];omega) (by omega)
end
noncomputable def g8 (gs:List (Nat×Int)) (w:Nat):List Int:=(gs.filter fun g=>decide (g.1=0)).map fun g=>cF g.2 [] w
noncomputable def pU (gs:List (Nat×Int)) (w:Nat) (rs:List Int):List Int:=srt (ddl (rs++g8 gs w))
section
variable {gs:List (Nat×Int)}{w:Nat}{rs:List Int}
theorem Zf (hg:gs.length≤8) (hrs:∀r∈rs,0≤r∧r < 2^w):o7 gs w rs [] (pU gs w rs):=by
 have hcr:∀x∈g8 gs w,Reach gs w rs x∧0≤x∧x < 2^w:=fun x hx=>by
  obtain ⟨g,h1,rfl⟩:=eh.mp hx
  obtain ⟨h1,h2⟩:=gE.mp h1
  exact ⟨Reach.step h1 (of_decide_eq_true h2).symm (fun x hx=>nomatch hx),qF,Ab⟩
 have mm:∀x,x∈[]++pU gs w rs↔x∈rs++g8 gs w:=fun x=>by
  rw[pd];unfold pU;rw[ir,vD]
 refine ⟨?_,fun x hx=>?_,fun x hx=>?_,fun r hr=>(mm r).mpr (fA _ hr),fun g hgg c hl hc=>?_⟩
 · rw[pd];exact (cB _).nodup_iff.mpr (qb _)
 · exact (fy.mp ((mm x).mp hx)).elim (hrs x) fun h=>(hcr x h).2
 · exact (fy.mp ((mm x).mp hx)).elim (fun h=>Reach.row h) fun h=>(hcr x h).1
 · have e:c=[]:=List.eq_nil_iff_forall_not_mem.mpr fun x hx=>nomatch hc x hx
   subst e
   exact (mm _).mpr (cK _ (eh.mpr ⟨g,gE.mpr ⟨hgg,decide_eq_true hl.symm⟩,rfl⟩))
theorem ce1 {rs:List Int}{x:ae}:aW 2 (aq ixD (aj 0) (eC (.int 0))) [some (.tuple [.int (w:Nat),dR rs]),some x,none,none,none,none,none] = .ok (.nx [some (.tuple [.int (w:Nat),dR rs]),some x,some (.int (w:Nat)),none,none,none,none]):=by
 walk_at "ev"
theorem ce2 {x:ae} (hg:gs.length≤8) (hw:w≤100):aW 3 (fY (itL (aj 1)) (gN 0) (aq eqD (aq ixD (aj 0) (eC (.int 0))) (eC (.int 0))) (aX du [(aj 0),(bV []),(aj 1)]) 1 [2]) [some x,some (.list (gs.map dGp)),some (.int (w:Nat)),none,none,none,none] = .ok (.nx [some x,some (.list (gs.map dGp)),some (.int (w:Nat)),some (dL (g8 gs w)),none,none,none]):=by
 walk_at "ev"
 rw[rP (xs:=gs) dGp (fun g=>decide (g.1=0)) (fun g=>.int (cF g.2 [] w)) ?_ (size_le (by omega)) (fun g h=>?_) fun g h h0=>?_]
 rotate_left
 · walk_at "ev"
 · walk_at "ev"
   congr 2
   exact decide_eq_decide.mpr (by omega)
 · walk_at "ev"
   have:g.1=0:=of_decide_eq_true h0
   rw[show (ae.list [])=dL [] from rfl,rW (by rw[this];rfl) (by omega) (by omega)]
 walk_at "ev"
 rw[show (gs.filter fun g=>decide (g.1=0)).map (fun g=>ae.int (cF g.2 [] w))=(g8 gs w).map ae.int by unfold g8;rw[lT];rfl]
 rfl
theorem ce3 {x y z u:ae}:aW 4 (bV []) [some x,some y,some z,some u,none,none,none] = .ok (.nx [some x,some y,some z,some u,some (dL []),none,none]):=by
 walk_at "ev"
 rfl
theorem ce4 {rs:List Int}{y:ae} (hg:gs.length≤8) (hrl:rs.length≤300):aW 5 (eFn jG [(aq bI (eFn qg [(aq ixD (aj 0) (eC (.int 1)))]) (aj 3))]) [some (.tuple [.int (w:Nat),dR rs]),some y,some (.int (w:Nat)),some (dL (g8 gs w)),some (dL []),none,none] = .ok (.nx [some (.tuple [.int (w:Nat),dR rs]),some y,some (.int (w:Nat)),some (dL (g8 gs w)),some (dL []),some (dL (pU gs w rs)),none]):=by
 have hc:(g8 gs w).length≤8:=by unfold g8;rw[aw];exact eK (t4 _ _) hg
 have hl:(ddl (rs++g8 gs w)).length < 3000:=kF (CJ _) (by rw[ay];omega)
 walk_at "ev"
 rw[show qg [dR rs] = .ok (dL rs) from rfl]
 walk_at "ev"
 rw[show bI (dL rs) (dL (g8 gs w)) = .ok (dL (rs++g8 gs w)) by unfold dL;rw[lW (by rw[aw,aw];omega),fe]]
 walk_at "ev"
 rw[Bp hl]
 walk_at "ev"
 rfl
theorem Dy (hw:uN gs w rs) (hw2:w≤100) (hg:gs.length≤8) (hm:∀g∈gs,g.1≤4) (hrs:∀r∈rs,0≤r∧r < 2^w) (hrl:rs.length≤300) :
 (∃L:List Int,gB [.tuple [.int (w:Nat),dR rs],.list (gs.map dGp)] = .ok (.tuple [.int (w:Nat),dR (srt L)])∧L.Nodup∧(∀x,x∈L↔Reach gs w rs x)∧L.length≤300∧(L=[]∨¬ dD L.length gs)) ∨
 (gB [.tuple [.int (w:Nat),dR rs],.list (gs.map dGp)] = .bad∧nj 1000000 cCn [6] cBd (cG (.tuple [.int (w:Nat),dR rs]) gs w (dL (g8 gs w)) [] (pU gs w rs)) = .bad∧(∀(zb:MZ) (T:Str),(∀old fresh,dD (old.length+fresh.length) gs→zb (cG (.tuple [.int (w:Nat),dR rs]) gs w (dL (g8 gs w)) old fresh) = .ok T)→yV 1000000 cCn [6] cBd zb (cG (.tuple [.int (w:Nat),dR rs]) gs w (dL (g8 gs w)) [] (pU gs w rs)) = .ok T) ∧
  ∃l:List Int,l.Nodup∧(∀x∈l,Reach gs w rs x)∧dD l.length gs):=by
 have e0:gB [.tuple [.int (w:Nat),dR rs],.list (gs.map dGp)]=Res.bind (aN (nj 1000000 cCn [6] cBd) (cg (aX iR [(aj 2),(aj 4)])) (cG (.tuple [.int (w:Nat),dR rs]) gs w (dL (g8 gs w)) [] (pU gs w rs))) fin:=by
  unfold gB
  show Res.bind (aN _ _ [some (.tuple [.int (w:Nat),dR rs]),some (.list (gs.map dGp)),none,none,none,none,none]) fin=_
  rw[fU,ce1,Res.bz,rn,fU,ce2 hg hw2,Res.bz,rn,fU,ce3,Res.bz,rn,fU,ce4 hg hrl,Res.bz,rn]
  rfl
 have hl:=Hv (d:=.tuple [.int (w:Nat),dR rs]) (c:=dL (g8 gs w)) hw hw2 hg hm 1000000 300 [] (pU gs w rs) (Zf hg hrs) (.inl rfl) rfl (by decide)
 rcases hl with ⟨L,h1,h2,h3⟩ | ⟨h1,h2,h3⟩
 · left
   have h1:nj 1000000 cCn [6] cBd (cG (.tuple [.int (w:Nat),dR rs]) gs w (dL (g8 gs w)) [] (pU gs w rs))=_:=h1
   have hnd:L.Nodup:=by have:=h2.nd;rw[fq] at this;exact this
   have hlen:L.length≤300:=by have:=h2.len hw;simpa using this
   refine ⟨L,?_,hnd,h2.whole,hlen,h3⟩
   rw[e0,fU,h1]
   unfold cG
   walk_at "ev"
   rw[Kr (by rw[xH hnd];omega),xH hnd]
   walk_at "ev"
 · right
   have h1:nj 1000000 cCn [6] cBd (cG (.tuple [.int (w:Nat),dR rs]) gs w (dL (g8 gs w)) [] (pU gs w rs)) = .bad:=h1
   refine ⟨?_,h1,h2,h3⟩
   rw[e0,fU,h1]
   rfl
end
theorem Mx {f g:Nat→Int} (hf:∀r,f r=0∨f r=1) (hg:∀r,g r=0∨g r=1):∀W:Nat,iP (tab W f) (tab W g)=tab W fun r=>1 - (1 - f r)*(1 - g r)
 | 0=>by show iP 0 0=0;unfold iP g7;decide +kernel
 | W+1=>by
  have ih:=Mx (f:=fun r=>f (r+1)) (g:=fun r=>g (r+1)) (fun r=>hf (r+1)) (fun r=>hg (r+1)) W
  rw[j7,j7,j7]
  have f0:=hf 0
  have g0:=hg 0
  obtain ⟨h1,h2⟩:=yj (2*tab W (fun r=>f (r+1))+f 0) (2*tab W (fun r=>g (r+1))+g 0)
  rw[show (2*tab W (fun r=>f (r+1))+f 0) / 2=tab W (fun r=>f (r+1)) by omega,show (2*tab W (fun r=>g (r+1))+g 0) / 2=tab W (fun r=>g (r+1)) by omega,ih] at h1
  rw[show (2*tab W (fun r=>f (r+1))+f 0) % 2=f 0 by omega,show (2*tab W (fun r=>g (r+1))+g 0) % 2=g 0 by omega] at h2
  omega
noncomputable def b01 (b:Bool):Int:=if b=true then 1 else 0
theorem m9 (b:Bool):b01 b=0∨b01 b=1:=by cases b;exact .inl rfl;exact .inr rfl
theorem Wz {m:Nat} (hm:m=2∨m=3∨m=4) {xs:List Int} (hl:xs.length=m) (h:∀x∈xs,x=0∨x=1):bj (2^2^m - 2) (dI xs)=b01 (xs.any fun x=>decide (x=1)):=by
 rcases hm with rfl | rfl | rfl
 · match xs,hl with
   | [a,b],_=>
    rcases h a (by simp) with rfl | rfl <;> rcases h b (by simp) with rfl | rfl <;> decide +kernel
 · match xs,hl with
   | [a,b,c],_=>
    rcases h a (by simp) with rfl | rfl <;> rcases h b (by simp) with rfl | rfl <;> rcases h c (by simp) with rfl | rfl <;> decide +kernel
 · match xs,hl with
   | [a,b,c,d],_=>
    rcases h a (by simp) with rfl | rfl <;> rcases h b (by simp) with rfl | rfl <;> rcases h c (by simp) with rfl | rfl <;> rcases h d (by simp) with rfl | rfl <;> decide +kernel
noncomputable def FmB (P:List Nat) (o z u:Bool) (F:Nat→Bool):Prop:=
 (∃T:Nat→Bool,(∃p∈P,T p=true)∧(o=false→∃p∈P,∀c∈P,T c=true→c=p)∧F=fun c=>T c&&decide (c∈P))∨(z=true∧F=fun _=>false)∨(u=true∧F=fun _=>true)
section
variable {P:List Nat}{o z u:Bool}{F G:Nat→Bool}
theorem FmB.or (ho:o=true) (h1:FmB P o z u F) (h2:FmB P o z u G):FmB P o z u fun c=>F c||G c:=by
 rcases h1 with ⟨T,⟨p,hp,e1⟩,_,rfl⟩ | ⟨z1,rfl⟩ | ⟨u1,rfl⟩
 · rcases h2 with ⟨S,_,_,rfl⟩ | ⟨z2,rfl⟩ | ⟨u2,rfl⟩
   · refine .inl ⟨fun c=>T c||S c,⟨p,hp,by show (T p||S p)=true;rw[e1];rfl⟩,(fun z=>by rw[ho] at z;cases z),funext fun c=>?_⟩
     show ((T c&&decide (c∈P))||(S c&&decide (c∈P)))=((T c||S c)&&decide (c∈P))
     generalize T c=a
     generalize S c=b
     generalize decide (c∈P)=d
     cases a <;> cases b <;> cases d <;> rfl
   · refine .inl ⟨T,⟨p,hp,e1⟩,(fun z=>by rw[ho] at z;cases z),funext fun c=>vb _⟩
   · exact .inr (.inr ⟨u2,funext fun c=>Bool.or_true _⟩)
 · exact (show (fun c=>false||G c)=G from funext fun c=>BG _) ▸ h2
 · exact .inr (.inr ⟨u1,funext fun c=>Bool.true_or _⟩)
theorem FmB.and (hz:(∃p∈P,∃q∈P,p≠q)→z=true) (h1:FmB P o z u F) (h2:FmB P o z u G):FmB P o z u fun c=>F c&&G c:=by
 rcases h1 with ⟨T,⟨p,hp,e1⟩,k1,rfl⟩ | ⟨z1,rfl⟩ | ⟨u1,rfl⟩
 · rcases h2 with ⟨S,⟨q,hq,e2⟩,k2,rfl⟩ | ⟨z2,rfl⟩ | ⟨u2,rfl⟩
   · by_cases hx:∃c∈P,(T c&&S c)=true
     · refine .inl ⟨fun c=>T c&&S c,hx,fun ho=>?_,funext fun c=>?_⟩
       · obtain ⟨p',hp',k1⟩:=k1 ho
         exact ⟨p',hp',fun c hc e=>k1 c hc (cc .. ▸ e).1⟩
       · show ((T c&&decide (c∈P))&&(S c&&decide (c∈P)))=((T c&&S c)&&decide (c∈P))
         generalize T c=a
         generalize S c=b
         generalize decide (c∈P)=d
         cases a <;> cases b <;> cases d <;> rfl
     · refine .inr (.inl ⟨hz ⟨p,hp,q,hq,fun e=>hx ⟨p,hp,by subst e;rw[e1,e2];rfl⟩⟩,funext fun c=>?_⟩)
       show ((T c&&decide (c∈P))&&(S c&&decide (c∈P)))=false
       by_cases hc:c∈P
       · have:(T c&&S c)=false:=y8.mpr fun e=>hx ⟨c,hc,e⟩
         rw[decide_eq_true hc,BN,BN,this]
       · rw[decide_eq_false hc,Bz,kK]
   · exact .inr (.inl ⟨z2,funext fun c=>Bz _⟩)
   · exact .inl ⟨T,⟨p,hp,e1⟩,k1,funext fun c=>BN _⟩
 · exact .inr (.inl ⟨z1,funext fun c=>kK _⟩)
 · exact (show (fun c=>true&&G c)=G from funext fun c=>BI _) ▸ h2
theorem FmB.ors (ho:o=true):∀{Fs:List (Nat→Bool)},Fs≠[]→(∀F∈Fs,FmB P o z u F)→FmB P o z u fun c=>Fs.any fun F=>F c
 | [F],_,h=>by
  have e:(fun c=>[F].any fun F=>F c)=F:=funext fun c=>by simp
  rw[e]
  exact h F (by simp)
 | F::G::Fs,_,h=>by
  have:=FmB.or ho (h F (by simp)) (FmB.ors ho (Fs:=G::Fs) (by simp) fun K hK=>h K (bg _ hK))
  have e:(fun c=>(F::G::Fs).any fun F=>F c)=fun c=>F c||(G::Fs).any fun F=>F c:=funext fun c=>by rw[kH]
  rw[e]
  exact this
end
noncomputable def cA (w:Nat) (F:Nat→Bool):Int:=tab w fun c=>b01 (F c)
theorem sZ {w c:Nat}{F:Nat→Bool} (h:c < w):bj (cA w F) (c:Nat)=b01 (F c):=zx (fun _=>m9 _) h
theorem Oi {m w:Nat} (hm:m=2∨m=3∨m=4) {Fs:List (Nat→Bool)} (hl:Fs.length=m):cF (2^2^m - 2) (Fs.map (cA w)) w=cA w fun c=>Fs.any fun F=>F c:=by
 unfold cF
 refine iI fun c hc=>?_
 rw[lT,show Fs.map ((fun t=>bj t (c:Nat))∘cA w)=Fs.map fun F=>b01 (F c) from lp fun F _=>sZ hc,Wz hm (by rw[aw,hl]) fun x hx=>by obtain ⟨F,_,rfl⟩:=eh.mp hx;exact m9 _]
 congr 1
 rw[List.any_map]
 congr 1
 funext F
 show decide (b01 (F c)=1)=F c
 cases F c <;> rfl
theorem Il {w:Nat}{F G:Nat→Bool}:cF 8 [cA w F,cA w G] w=cA w fun c=>F c&&G c:=by
 unfold cF
 refine iI fun c hc=>?_
 show bj 8 (dI [bj (cA w F) (c:Nat),bj (cA w G) (c:Nat)])=b01 (F c&&G c)
 rw[sZ hc,sZ hc]
 cases F c <;> cases G c <;> decide +kernel
theorem Xg {w:Nat}{F:Nat→Bool}:cF 2 [cA w F] w=cA w F:=by
 unfold cF
 refine iI fun c hc=>?_
 show bj 2 (dI [bj (cA w F) (c:Nat)])=b01 (F c)
 rw[sZ hc]
 cases F c <;> decide +kernel
theorem NZ {w:Nat}:cF 0 [] w=cA w fun _=>false:=by
 unfold cF
 refine iI fun c hc=>?_
 show bj 0 (dI [])=b01 false
 decide +kernel
theorem NP {w:Nat}:cF 1 [] w=cA w fun _=>true:=by
 unfold cF
 refine iI fun c hc=>?_
 show bj 1 (dI [])=b01 true
 decide +kernel
theorem Hz {w:Nat}{Q:(Nat→Bool)→Prop}:∀{c:List Int},(∀x∈c,∃F,Q F∧x=cA w F)→∃Fs:List (Nat→Bool),c=Fs.map (cA w)∧∀F∈Fs,Q F
 | [],_=>⟨[],rfl,fun _ h=>nomatch h⟩
 | x::c,h=>by
  obtain ⟨F,q,e⟩:=h x (by simp)
  obtain ⟨Fs,e2,q2⟩:=Hz (c:=c) fun y hy=>h y (bg _ hy)
  refine ⟨F::Fs,by rw[dk,e,e2],fun K hK=>?_⟩
  rcases be.mp hK with rfl | hK
  · exact q
  · exact q2 K hK
noncomputable def uGs:List (Nat×Int):=[(2,14),(3,254),(4,65534),(2,8),(0,0),(0,1),(1,2)]
noncomputable def orG (gs:List (Nat×Int)):Prop:=∃g∈gs,g=(2,14)∨g=(3,254)∨g=(4,65534)
theorem J1 {P:List Nat}{w:Nat}{gs:List (Nat×Int)}{o z u:Bool} (hgs:∀g∈gs,g∈uGs) (ho:orG gs→o=true) (hz:(2,8)∈gs→(∃p∈P,∃q∈P,p≠q)→z=true) (h0:(0,0)∈gs→z=true) (h1:(0,1)∈gs→u=true) :
 Iz gs w fun x=>∃F,FmB P o z u F∧x=cA w F:=fun g hg c hl hc=>by
 obtain ⟨Fs,rfl,hF⟩:=Hz hc
 rw[aw] at hl
 have orr:∀m,(m=2∨m=3∨m=4)→g=(m,(2^2^m - 2:Int))→orG gs→∃F,FmB P o z u F∧cF g.2 (Fs.map (cA w)) w=cA w F:=fun m hm e hor=>by
  subst e
  refine ⟨_,FmB.ors (ho hor) (fun e=>?_) hF,Oi hm hl⟩
  subst e
  have:0=m:=hl
  omega
 have hm:=hgs g hg
 unfold uGs at hm
 rcases be.mp hm with rfl | hm
 · exact orr 2 (.inl rfl) (by decide +kernel) ⟨_,hg,.inl rfl⟩
 rcases be.mp hm with rfl | hm
 · exact orr 3 (.inr (.inl rfl)) (by decide +kernel) ⟨_,hg,.inr (.inl rfl)⟩
 rcases be.mp hm with rfl | hm
 · exact orr 4 (.inr (.inr rfl)) (by decide +kernel) ⟨_,hg,.inr (.inr rfl)⟩
 rcases be.mp hm with rfl | hm
 · match Fs,hl with
   | [F,G],_=>exact ⟨_,FmB.and (hz hg) (hF F (by simp)) (hF G (by simp)),Il⟩
 rcases be.mp hm with rfl | hm
 · match Fs,hl with
   | [],_=>exact ⟨_,.inr (.inl ⟨h0 hg,rfl⟩),NZ⟩
 rcases be.mp hm with rfl | hm
 · match Fs,hl with
   | [],_=>exact ⟨_,.inr (.inr ⟨h1 hg,rfl⟩),NP⟩
 · have e:=ba.mp hm
   subst e
   match Fs,hl with
   | [F],_=>exact ⟨F,hF F (by simp),Xg⟩
noncomputable def qj (w:Nat) (P:List Nat):List Int:=P.map fun p=>cA w fun c=>decide (c=p)
theorem W9 {w:Nat}{gs:List (Nat×Int)}{rs:List Int}{F G:Nat→Bool} (hor:orG gs) (h1:Reach gs w rs (cA w F)) (h2:Reach gs w rs (cA w G)):Reach gs w rs (cA w fun c=>F c||G c):=by
 have go:∀m,(m=2∨m=3∨m=4)→(m,(2^2^m - 2:Int))∈gs→Reach gs w rs (cA w fun c=>F c||G c):=fun m hm hg=>by
  have hl:(F::b9 (m - 1) G).length=m:=by rw[bX,cq];omega
  have e:=Oi (w:=w) hm hl
  have e2:(fun c=>(F::b9 (m - 1) G).any fun F=>F c)=fun c=>F c||G c:=funext fun c=>by
   rcases hm with rfl | rfl | rfl <;> simp[b9]
  rw[e2] at e
  rw[← e]
  refine Reach.step (g:=(m,_)) hg (by rw[aw];exact hl) fun x hx=>?_
  obtain ⟨K,hK,rfl⟩:=eh.mp hx
  rcases be.mp hK with rfl | hK
  · exact h1
  · rw[(sf.mp hK).2];exact h2
 obtain ⟨g,hg,rfl | rfl | rfl⟩:=hor
 · exact go 2 (.inl rfl) hg
 · exact go 3 (.inr (.inl rfl)) hg
 · exact go 4 (.inr (.inr rfl)) hg
theorem Be {P:List Nat}{w:Nat}{gs:List (Nat×Int)} (hor:orG gs):∀{l:List Nat},l≠[]→(∀p∈l,p∈P)→Reach gs w (qj w P) (cA w fun c=>decide (c∈l))
 | [p],_,h=>by
  have e:(fun c=>decide (c∈[p]))=fun c=>decide (c=p):=funext fun c=>decide_eq_decide.mpr ba
  rw[e]
  exact Reach.row (eh.mpr ⟨p,h p (by simp),rfl⟩)
 | p::q::l,_,h=>by
  have e:(fun c=>decide (c∈p::q::l))=fun c=>decide (c=p)||decide (c∈q::l):=funext fun c=>by
   rw[nh,kn,decide_eq_true_eq,decide_eq_true_eq,decide_eq_true_eq,be]
  rw[e]
  exact W9 hor (Reach.row (eh.mpr ⟨p,h p (by simp),rfl⟩)) (Be hor (l:=q::l) (by simp) fun x hx=>h x (bg _ hx))
theorem Ni {P:List Nat}{w:Nat}{gs:List (Nat×Int)}{o z u:Bool} (hor:o=true→orG gs) (hz:z=true→((2,8)∈gs∧∃p∈P,∃q∈P,p≠q)∨(0,0)∈gs) (hu:u=true→(0,1)∈gs) {F:Nat→Bool} (h:FmB P o z u F):Reach gs w (qj w P) (cA w F):=by
 rcases h with ⟨T,⟨p,hp,e1⟩,k,rfl⟩ | ⟨z1,rfl⟩ | ⟨u1,rfl⟩
 · cases o with
   | true=>
    have e:(fun c=>T c&&decide (c∈P))=fun c=>decide (c∈P.filter T):=funext fun c=>by
     rw[nh,cc,decide_eq_true_eq,decide_eq_true_eq,gE]
     exact And.comm
    rw[e]
    exact Be (hor rfl) (List.ne_nil_of_mem (gE.mpr ⟨hp,e1⟩)) fun x hx=>(gE.mp hx).1
   | false=>
    obtain ⟨p',hp',k⟩:=k rfl
    have ep:=k p hp e1
    subst ep
    have e:(fun c=>T c&&decide (c∈P))=fun c=>decide (c=p):=funext fun c=>by
     rw[nh,cc,decide_eq_true_eq,decide_eq_true_eq]
     exact ⟨fun ⟨a,b⟩=>k c b a,fun e=>by subst e;exact ⟨e1,hp⟩⟩
    rw[e]
    exact Reach.row (eh.mpr ⟨p,hp,rfl⟩)
 · rcases hz z1 with ⟨hg,p,hp,q,hq,hne⟩ | hg
   · have e:=Il (w:=w) (F:=fun c=>decide (c=p)) (G:=fun c=>decide (c=q))
     have e2:(fun c=>decide (c=p)&&decide (c=q))=fun _=>false:=funext fun c=>y8.mpr fun x=>by
      rw[cc,decide_eq_true_eq,decide_eq_true_eq] at x
      exact hne (x.1.symm.trans x.2)
     rw[e2] at e
     rw[← e]
     refine Reach.step (g:=(2,8)) hg rfl fun x hx=>?_
     rcases be.mp hx with rfl | hx
     · exact Reach.row (eh.mpr ⟨p,hp,rfl⟩)
     · rw[ba.mp hx];exact Reach.row (eh.mpr ⟨q,hq,rfl⟩)
   · rw[← NZ]
     exact Reach.step (g:=(0,0)) hg rfl fun x hx=>nomatch hx
 · rw[← NP]
   exact Reach.step (g:=(0,1)) (hu u1) rfl fun x hx=>nomatch hx
theorem HW {w p:Nat} (hp:p < w):cA w (fun c=>decide (c=p))=2^p:=by
 refine Lg (fun _=>m9 _) (gy (Int.pow_pos (by decide))) (by
  have:(2^p:Nat) < 2^w:=Nat.pow_lt_pow_right (by decide) hp
  have e1:((2^p:Nat):Int)=2^p:=by simp
  have e2:((2^w:Nat):Int)=2^w:=by simp
  omega) fun r hr=>?_
 rw[show (2:Int)^p=((2^p:Nat):Int) by simp,xK]
 have e:=Nat.testBit_two_pow (n:=p) (m:=r)
 rw[tJ] at e
 show b01 (decide (r=p))=_
 by_cases h:r=p
 · subst h
   rw[decide_eq_true rfl,Nat.div_self (A9 (by decide))]
   rfl
 · rw[decide_eq_false h]
   rw[decide_eq_false (show ¬ p=r from fun z=>h z.symm)] at e
   have:=of_decide_eq_false e
   show (0:Int)=_
   omega
theorem UG {P:List Nat}{w:Nat}{gs:List (Nat×Int)}{o z u:Bool} (hgs:∀g∈gs,g∈uGs) (ho:o=true↔orG gs) (hz:z=true↔((2,8)∈gs∧∃p∈P,∃q∈P,p≠q)∨(0,0)∈gs) (hu:u=true↔(0,1)∈gs) (x:Int) :
 Reach gs w (qj w P) x↔∃F,FmB P o z u F∧x=cA w F:=by
 constructor
 · intro h
   refine h _ (fun r hr=>?_) (J1 hgs ho.mpr (fun a b=>hz.mpr (.inl ⟨a,b⟩)) (fun a=>hz.mpr (.inr a)) hu.mpr)
   obtain ⟨p,hp,rfl⟩:=eh.mp hr
   refine ⟨_,.inl ⟨fun c=>decide (c=p),⟨p,hp,decide_eq_true rfl⟩,fun _=>⟨p,hp,fun c _ e=>of_decide_eq_true e⟩,funext fun c=>?_⟩,rfl⟩
   show decide (c=p)=(decide (c=p)&&decide (c∈P))
   by_cases h:c=p
   · subst h;rw[decide_eq_true rfl,decide_eq_true hp];rfl
   · rw[decide_eq_false h];rfl
 · rintro ⟨F,hF,rfl⟩
   exact Ni ho.mp hz.mp hu.mp hF
theorem Ax {m w:Nat}{b:Int}{rs:List Int} (hr:rs.length≤256) (hm:m≤4) (hp:rs.length^m≤20000) (hw:w≤100):d8 [dG m b,bJ w rs] = .ok (Yx (brk b w rs m)):=by
 unfold d8 bJ
 walk_at "ev"
 rw[show b8 [dR rs] = .ok (.int (rs.length:Nat)) by unfold dR;rw[lq,aw]]
 walk_at "ev"
 have hc:=lD (n:=rs.length) (gs:=[(m,b)]) (by omega) (by simp) fun g hg=>by rw[ba.mp hg];exact hm
 rw[show ae.list [dG m b] = .list ([(m,b)].map dGp) from rfl,hc,show dB rs.length [(m,b)]=rs.length^m by unfold dB;simp]
 walk_at "ev"
 rw[decide_eq_false (by omega)]
 walk_at "ev"
 rw[Q3 (by omega)]
 walk_at "ev"
 rw[show oh (.list [dR rs]) (.int (m:Nat)) = .ok (.list (b9 m (dR rs))) from rep1 (by omega)]
 walk_at "ev"
 rw[show b9 m (dR rs)=(b9 m rs).map dR by rw[xC],wQ (enc:=dR) (fun _=>rfl) (fun r h=>by rw[(sf.mp h).2];omega) (by rw[cq];exact hm) (fun i hi=>by
  rw[cq] at hi
  rw[List.take_replicate,← qd,FT]
  exact DQ hp (by decide) (by omega)),← qd]
 walk_at "ev"
 rw[yl dL dL (fun c=>!decide (cF b c w∈rs)) fun c hc=>?_]
 · show Res.bind _ _=Res.ok (Yx (brk b w rs m))
   unfold brk
   cases (nP rs m).find? fun c=>!decide (cF b c w∈rs) with
   | none=>walk_at "ev";rfl
   | some c=>walk_at "ev";rfl
 · walk_at "ev"
   rw[rW (by rw[BL m c hc]) hm hw]
   walk_at "ev"
   rw[Py,show decide (cF b c w∈markL rs)=decide (cF b c w∈rs) from decide_eq_decide.mpr (Ov rs)]
   walk_at "ev"
   rw[O6]
   by_cases h:cF b c w∈rs
   · rw[decide_eq_true h];rfl
   · rw[decide_eq_false h];rfl
theorem QJ {m w:Nat}{b:Int}{rs:List Int} (hr:rs.length≤256) (hm:m≤4) (hp:rs.length^m≤20000) (hw:w≤100):jR [dG m b,bJ w rs] = .ok (.bool (Kd b m (w,rs))):=by
 unfold jR
 walk_at "ev"
 rw[Ax hr hm hp hw]
 walk_at "ev"
 show _=Res.ok (ae.bool ((nP rs m).all fun c=>decide (cF b c w∈rs)))
 rw[← R8]
 cases brk b w rs m <;> rfl
end Prog
namespace Law
open PySem PySem.Spec PyProof.Rows L2 L3 Prog
noncomputable def eY:List ae→Res ae:=fnR 2 (aN (aW 1 (bV [(eX 0 (.bool false)),(eX 0 (.bool true)),(eX 0 (.bool false))]))
 (aN (aW 1 (aq bI (aj 1) (bV [(eX 0 (.bool false)),(eX 0 (.bool false)),(eX 0 (.bool false))])))
 (aN (aW 1 (aq bI (aj 1) (bV [(eX 0 (.bool false)),(eX 0 (.bool false)),(eX 0 (.bool true))])))
 (cg (aj 1)))))
noncomputable def ju:List ae→Res Str:=fnZ 6 (fG (aW 2 (aq ixD (aj 1) (eC (.int 0)))) zNo (fG (aW 3 (aq ixD (aj 1) (eC (.int 1)))) zNo (fG (sIf (aq gtD (aX cu [(eFn b8 [(aj 3)]),(bV [(aj 0)])]) (eC (.int 20000))) lJ cO) (zIf (aq gtD (aX cu [(eFn b8 [(aj 3)]),(bV [(aj 0)])]) (eC (.int 20000))) (fG lJ (u0 "TooMany") zNo) zNo) zNo)))
noncomputable def oX:List ae→Res Str:=fnZ 2 (fG (cg (aq vz (aX d8 [(aj 0),(aj 1)]) (eC .none))) (j5 ju [(aj 0),(aj 1)]) zNo)
noncomputable def eU:List ae→Res Str:=fnZ 2 (fG (sIf (eOr (aq gtD (aj 0) (eC (.int 128))) (aq gtD (aX cu [(aj 0),(aj 1)]) (eC (.int 20000)))) lJ cO) (zIf (eOr (aq gtD (aj 0) (eC (.int 128))) (aq gtD (aX cu [(aj 0),(aj 1)]) (eC (.int 20000)))) (fG lJ (u0 "TooMany") zNo) zNo) zNo)
noncomputable def mC:List ae→Res Str:=fnZ 7 (fG (aW 2 (aq ixD (aj 0) (eC (.int 0)))) zNo (fG (aW 3 (fY (itL (aj 1)) (gN 0) (aq eqD (aq ixD (aj 0) (eC (.int 0))) (eC (.int 0))) (aX du [(aj 0),(bV []),(aj 1)]) 1 [2])) zNo (fG (aW 4 (bV [])) zNo (fG (aW 5 (eFn jG [(aq bI (eFn qg [(aq ixD (aj 0) (eC (.int 1)))]) (aj 3))])) zNo (fG (nj 1000000 (aq gtD (eFn b8 [(aj 5)]) (eC (.int 0))) [6] (aN (sEx (aX bR [(aq bI (eFn b8 [(aj 4)]) (eFn b8 [(aj 5)])),(aj 1)]))
 (aN (aW 6 (aX eO [(aj 1),(aj 4),(aj 5),(aj 2)]))
 (aN (aW 4 (aq bI (aj 4) (aj 5)))
 (aW 5 (eFn jg [(aj 6),(aj 4)])))))) (yV 1000000 (aq gtD (eFn b8 [(aj 5)]) (eC (.int 0))) [6] (aN (sEx (aX bR [(aq bI (eFn b8 [(aj 4)]) (eFn b8 [(aj 5)])),(aj 1)]))
 (aN (aW 6 (aX eO [(aj 1),(aj 4),(aj 5),(aj 2)]))
 (aN (aW 4 (aq bI (aj 4) (aj 5)))
 (aW 5 (eFn jg [(aj 6),(aj 4)]))))) (fG (sEx (aX bR [(aq bI (eFn b8 [(aj 4)]) (eFn b8 [(aj 5)])),(aj 1)])) (j5 eU [(aq bI (eFn b8 [(aj 4)]) (eFn b8 [(aj 5)])),(aj 1)]) zNo)) zNo)))))
noncomputable def dz:List ae→Res ae:=fnR 2 (aN (sIf (aq ltD (aj 1) (eFn b8 [(aj 0)])) (cg (aq fW (aq bI (aq mK (aq ixD (aj 0) (aj 1)) (eC (.int 48271))) (aq mK (aq mK (aj 1) (aj 1)) (eC (.int 69621)))) (eC (.int 2147483647)))) cO)
 (cg (aq fW (aq bI (aq bI (aq mK (aq mK (aj 1) (aj 1)) (eC (.int 69621))) (aq mK (eFn b8 [(aj 0)]) (eC (.int 7919)))) (eC (.int 5))) (eC (.int 2147483647)))))
noncomputable def jy:List ae→Res ae:=fnR 7 (aN (aW 2 (zm []))
 (aN (gF (K3 (eC (.int 1)) (aq JZ (eC (.int 1)) (eFn b8 [(aj 0)]))) (gN 3) [3,4,5,6] (aN (aW 4 (eC (.int 0)))
 (aN (aW 5 (eC (.int 0)))
 (aN (gF (jl (eFn b8 [(aj 0)])) (gN 6) [6] (sIf (aq eqD (aq zK (aq Jm (aj 3) (aj 6)) (eC (.int 1))) (eC (.int 1))) (aN (aW 4 (aq orD (aj 4) (aq ixD (aj 0) (aj 6))))
 (aW 5 (aq bI (aj 5) (eC (.int 1))))) cO))
 (sIf (eOr (aq eqD (aj 5) (eC (.int 1))) (Qx (eUn RW (aj 1)))) (lQ 2 (aj 4) (eC (.bool true))) cO)))))
 (cg (aj 2))))
noncomputable def kJ:List ae→Res ae:=fnR 7 (aN (aW 3 (aq qJ (aq JZ (eC (.int 1)) (aj 0)) (eC (.int 1))))
 (aN (aW 4 (fY (itL (aj 2)) (gN 0) (aq inY (aj 0) (cH [(cH [(eC (.int 2)),(eC (.int 14))]),(cH [(eC (.int 3)),(eC (.int 254))]),(cH [(eC (.int 4)),(eC (.int 65534))])])) (aj 0) 1 []))
 (aN (aW 5 (aX jy [(aj 1),(aq eqD (aj 4) (bV []))]))
 (aN (gF (itL (aj 2)) (gN 6) [6] (aN (sIf (uz (aq eqD (aj 6) (cH [(eC (.int 2)),(eC (.int 8))])) (aq gtD (eFn b8 [(aj 1)]) (eC (.int 1)))) (lQ 5 (eC (.int 0)) (eC (.bool true))) cO)
 (aN (sIf (aq eqD (aj 6) (cH [(eC (.int 0)),(eC (.int 0))])) (lQ 5 (eC (.int 0)) (eC (.bool true))) cO)
 (sIf (aq eqD (aj 6) (cH [(eC (.int 0)),(eC (.int 1))])) (lQ 5 (aj 3) (eC (.bool true))) cO))))
 (cg (eFn rB [(eFn zG [(aj 5)])]))))))
noncomputable def gk:List ae→Res ae:=fnR 4 (aN (aW 2 (eC (.int 1)))
 (aN (gF (jl (aj 1)) (gN 3) [3] (aW 2 (aq mK (aj 2) (aj 0))))
 (cg (aj 2))))
noncomputable def bD:List ae→Res ae:=fnR 8 (aN (aW 5 (eC .none))
 (aN (aW 6 (eC .none))
 (vR 7 6 (aN (sIf (aq eqD (aj 0) (eC (.int 0))) (aW 5 (aX gB [(cH [(aj 2),(aj 3)]),(aj 4)])) cO)
 (aN (sIf (aq eqD (aj 0) (eC (.int 1))) (aW 5 (aX jR [(aj 1),(cH [(aj 2),(aj 3)])])) cO)
 (sIf (aq eqD (aj 0) (eC (.int 2))) (aW 5 (bV [(aX d8 [(aj 1),(cH [(aj 2),(aj 3)])])])) cO))) (zIf (aq eqD (aj 0) (eC (.int 0))) (j5 mC [(cH [(aj 2),(aj 3)]),(aj 4)]) (zIf (aq eqD (aj 0) (eC (.int 1))) (j5 oX [(aj 1),(cH [(aj 2),(aj 3)])]) (zIf (aq eqD (aj 0) (eC (.int 2))) (j5 ju [(aj 1),(cH [(aj 2),(aj 3)])]) zNo)))
 (aN (sIf (aq vz (aj 6) (eC .none)) (cg (aj 5)) cO)
 (aN (sIf (aq eqD Wt (aq bI (aq bI (bV [(eC (.bool false)),(eC (.bool true))]) (aq oh (bV [(eC (.bool false))]) (eC (.int 6)))) (bV [(eC (.bool true))]))) (cg (eC (.str "many"))) cO)
 (cg (eC (.str "other")))))
 (aN (sIf (eX 6 (.bool false)) (cg (aj 5)) cO)
 (aN (sIf (aq eqD (vq 6 eY) (aq bI (aq bI (bV [(eC (.bool false)),(eC (.bool true))]) (aq oh (bV [(eC (.bool false))]) (eC (.int 6)))) (bV [(eC (.bool true))]))) (cg (eC (.str "many"))) cO)
 (cg (eC (.str "other"))))))))
noncomputable def jz:List ae→Res ae:=fnR 8 (aN (RJ (gT [(gN 1),(gN 2)]) (aq ixD (bV [(cH [(cH [(eC (.int 3)),(eC (.int 170))]),(eC (.int 27))]),(cH [(cH [(eC (.int 4)),(eC (.int 43690))]),(eC (.int 11))]),(cH [(cH [(eC (.int 2)),(eC (.int 10))]),(eC (.int 141))]),(cH [(cH [(eC (.int 1)),(eC (.int 2))]),(eC (.int 128))])]) (aq fW (aj 0) (eC (.int 4)))))
 (aN (aW 2 (aq bI (aj 2) (aq fW (aq gM (aj 0) (eC (.int 4))) (eC (.int 2)))))
 (aN (aW 3 (eFn rB [(eFn q9 [(fY (jl (aj 2)) (gN 0) (eC (.bool true)) (aq fW (aq bI (aq mK (aj 0) (eC (.int 37))) (aq gM (aj 1) (eC (.int 64)))) (eC (.int 256))) 1 [0])])]))
 (aN (aW 4 (aq bI (eC (.int 1)) (aq fW (aq gM (aj 0) (eC (.int 8))) (eC (.int 2)))))
 (aN (aW 5 (aq ixD (bV [(eC (.bool true)),(bV [(eC .none)])]) (aq qJ (aj 4) (eC (.int 1)))))
 (aN (sIf (aq gtD (aX gk [(aj 2),(aq ixD (aj 1) (eC (.int 0)))]) (eC (.int 20000))) (aW 5 (eC (.str "many"))) cO)
 (aN (sIf (aq neD (aX bD [(aj 4),(aj 1),(eC (.int 8)),(aj 3),(bV [])]) (aj 5)) (cg (eC (.bool false))) cO)
 (aN (sIf (uz (aq gtD (aj 2) (eC (.int 128))) (aq neD (aX bD [(eC (.int 0)),(aj 1),(eC (.int 8)),(aj 3),(bV [])]) (eC (.str "many")))) (cg (eC (.bool false))) cO)
 (aN (sIf (eOr (aq gtD (aj 2) (eC (.int 128))) (aq eqD (aj 5) (eC (.str "many")))) (cg (aq eqD (aX bD [(eC (.int 0)),(aj 1),(eC (.int 8)),(aj 3),(bV [(aj 1)])]) (eC (.str "many")))) cO)
 (aN (aW 6 (eSl (aj 3) vY (vP (aq bI (eC (.int 100)) (aq fW (aq gM (aj 0) (eC (.int 32))) (eC (.int 2)))))))
 (aN (aW 7 (eC (.str "many")))
 (aN (sIf (aq leD (eFn b8 [(aj 6)]) (eC (.int 100))) (aW 7 (cH [(eC (.int 8)),(aj 6)])) cO)
 (aN (sIf (aq neD (aX bD [(eC (.int 0)),(aj 1),(eC (.int 8)),(aj 6),(bV [(cH [(eC (.int 2)),(eC (.int 10))]),(cH [(eC (.int 2)),(eC (.int 12))])])]) (aj 7)) (cg (eC (.bool false))) cO)
 (cg (eOr (aq ltD (aj 2) (eC (.int 128))) (aq eqD (aX bD [(eC (.int 0)),(aj 1),(eC (.int 8)),(aj 3),(eSl (bV [(aj 1)]) vY (vP (aq fW (aq gM (aj 0) (eC (.int 16))) (eC (.int 2)))))]) (cH [(eC (.int 8)),(aj 3)])))))))))))))))))
noncomputable def rG:List ae→Res ae:=fnR 15 (aN (aW 1 (aX dz [(aj 0),(eC (.int 0))]))
 (aN (aW 2 (aq bI (eC (.int 2)) (aq fW (aj 1) (eC (.int 15)))))
 (aN (aW 3 (fY (jl (aj 2)) (gN 0) (eC (.bool true)) (aj 0) 1 []))
 (aN (aW 4 (bV []))
 (aN (gF (jl (eFn minD [(aj 2),(aq bI (eC (.int 1)) (aq fW (aq gM (aj 1) (eC (.int 16))) (eC (.int 8))))])) (gN 5) [5] (oN 4 3 1 (aq fW (aX dz [(aj 0),(aq bI (eC (.int 1)) (aj 5))]) (eFn b8 [(aj 3)]))))
 (aN (aW 6 (bV [(cH [(eC (.int 2)),(eC (.int 14))]),(cH [(eC (.int 3)),(eC (.int 254))]),(cH [(eC (.int 4)),(eC (.int 65534))]),(cH [(eC (.int 2)),(eC (.int 8))]),(cH [(eC (.int 0)),(eC (.int 0))]),(cH [(eC (.int 0)),(eC (.int 1))]),(cH [(eC (.int 1)),(eC (.int 2))])]))
 (aN (aW 7 (bV []))
 (aN (gF (jl (aq fW (aq gM (aj 1) (eC (.int 128))) (eC (.int 7)))) (gN 5) [5] (um 7 (aq ixD (aj 6) (aq fW (aq gM (aX dz [(aj 0),(aq bI (eC (.int 10)) (aj 5))]) (eC (.int 3))) (eC (.int 7))))))
 (aN (aW 8 (eFn rB [(eFn q9 [(aj 4)])]))
 (aN (aW 9 (aX kJ [(aj 2),(aj 4),(aj 7)]))
 (aN (aW 10 (eFn Dt [(fY (itL (aj 7)) (gN 0) (eC (.bool true)) (aX gk [(eFn b8 [(aj 1)]),(aq ixD (aj 0) (eC (.int 0)))]) 1 [9])]))
 (aN (aW 11 (aX bD [(eC (.int 0)),(cH [(eC (.int 1)),(eC (.int 2))]),(aj 2),(aj 8),(eFn qg [(aj 7)])]))
 (aN (sIf (eOr (aq gtD (eFn b8 [(aj 9)]) (eC (.int 128))) (aq gtD (aj 10) (eC (.int 20000)))) (sIf (aq neD (aj 11) (eC (.str "many"))) (cg (eC (.bool false))) cO) (sIf (aq neD (aj 11) (cH [(aj 2),(aj 9)])) (cg (eC (.bool false))) cO))
 (aN (sIf (uz (aq leD (eFn b8 [(aj 9)]) (eC (.int 256))) (aq neD (aX bD [(eC (.int 0)),(cH [(eC (.int 1)),(eC (.int 2))]),(aj 2),(aj 9),(eFn qg [(aj 7)])]) (aj 11))) (cg (eC (.bool false))) cO)
 (aN (gF (itL (eSl (aj 7) vY (vP (eC (.int 1))))) (gN 12) [12,13,14] (sIf (uz (aq leD (eFn b8 [(aj 9)]) (eC (.int 256))) (aq qQ (cH [(eC (.int 2)),(eC (.int 8))]) (aj 7))) (aN (aW 13 (aq bI (eC (.int 1)) (aq fW (aq gM (aj 1) (eC (.int 1024))) (eC (.int 2)))))
 (aN (aW 14 (aq ixD (bV [(eC (.bool true)),(bV [(eC .none)])]) (aq qJ (aj 13) (eC (.int 1)))))
 (aN (sIf (aq gtD (aX gk [(eFn b8 [(aj 9)]),(aq ixD (aj 12) (eC (.int 0)))]) (eC (.int 20000))) (aW 14 (eC (.str "many"))) cO)
 (sIf (aq neD (aX bD [(aj 13),(aj 12),(aj 2),(aj 9),(bV [])]) (aj 14)) (cg (eC (.bool false))) cO)))) cO))
 (cg (aX jz [(aX dz [(aj 0),(eC (.int 20))])])))))))))))))))))
end Law
namespace Law
open PySem L2 L3 Prog Gk
theorem yS (ns:List Int) {k:Nat} (hk:k≤100000):∃c:Int,0≤c∧c < 2147483647∧dz [dL ns,.int (k:Nat)] = .ok (.int c):=by
 unfold dz
 walk_at "ev"
 rw[O6]
 by_cases h:k < ns.length
 · rw[if_pos (decide_eq_true (by omega)),HY h]
   walk_at "go"
   exact ⟨_,pj _ (by decide),mM _ (by decide),rfl⟩
 · rw[if_neg (by rw[decide_eq_true_eq];omega)]
   walk_at "go"
   exact ⟨_,pj _ (by decide),mM _ (by decide),rfl⟩
theorem oR {m1:MS}{z1 z2:MZ}{Γ Γ':Ev} (h:m1 Γ = .ok (.nx Γ')):fG m1 z1 z2 Γ=z2 Γ':=by unfold fG;rw[h]
theorem wk {m1:MS}{z1 z2:MZ}{Γ:Ev} (h:m1 Γ = .bad):fG m1 z1 z2 Γ=z1 Γ:=by unfold fG;rw[h]
theorem CZ {c:ME}{z1 z2:MZ}{Γ:Ev} (h:c Γ = .ok (.bool true)):zIf c z1 z2 Γ=z1 Γ:=by unfold zIf;rw[h];rfl
theorem Tp {c:ME}{a b:MS}{Γ:Ev} (h:c Γ = .ok (.bool true)):sIf c a b Γ=a Γ:=by rw[vW,h];rfl
theorem Le {c:ME}{z:MZ}{Γ:Ev}{x:Str} (h:c Γ = .ok (.bool true)):fG (sIf c lJ cO) (zIf c (fG lJ (u0 x) zNo) zNo) z Γ = .ok x:=by
 rw[wk (Tp h),CZ h];rfl
theorem pM {zf:List ae→Res Str}{ms:List ME}{Γ:Ev}{ds:List ae}{T:Str} (h:evs ms Γ = .ok ds) (hz:zf ds = .ok T):j5 zf ms Γ = .ok T:=by
 unfold j5
 rw[h,Res.bz,hz]
theorem UW {f:List ae→Res ae}{ms:List ME}{Γ:Ev}{ds:List ae} (h:evs ms Γ = .ok ds) (hf:f ds = .bad):aX f ms Γ = .bad:=by
 rw[nF,h,Res.bz,hf]
theorem qP {a b:MS}{Γ Γ':Ev} (h:a Γ = .ok (.nx Γ')):aN a b Γ=b Γ':=by rw[fU,h];rfl
theorem dM {α:Type}{a b:MS}{Γ Γ':Ev}{f:Out→Res α}{r:Res α} (h:a Γ = .ok (.nx Γ')) (k:Res.bind (b Γ') f=r):Res.bind (aN a b Γ) f=r:=by rw[qP h];exact k
theorem S5 {a b:MS}{Γ:Ev} (h:a Γ = .bad):aN a b Γ = .bad:=by rw[fU,h];rfl
theorem Jx {c:ME}{z1 z2:MZ}{Γ:Ev} (h:c Γ = .ok (.bool false)):zIf c z1 z2 Γ=z2 Γ:=by unfold zIf;rw[h];rfl
theorem RM {n:Nat}{gs:List (Nat×Int)} (h:dD n gs) (hg:gs.length≤8) (hm:∀g∈gs,g.1≤4):eU [.int (n:Nat),.list (gs.map dGp)] = .ok "TooMany" := by
 unfold eU fnZ
 show fG (sIf gtC lJ cO) (zIf gtC (fG lJ (u0 "TooMany") zNo) zNo) zNo [some (.int (n:Nat)),some (.list (gs.map dGp))]=_
 exact Le (Hm h (by omega) hm)
theorem Ju {gs:List (Nat×Int)}{w:Nat}{rs:List Int} (hw:uN gs w rs) (hw2:w≤100) (hg:gs.length≤8) (hm:∀g∈gs,g.1≤4) (hrs:∀r∈rs,0≤r∧r < 2^w) (hrl:rs.length≤300) :
 (∃L:List Int,gB [bJ w rs,.list (gs.map dGp)] = .ok (bJ w (srt L))∧L.Nodup∧(∀x,x∈L↔Reach gs w rs x)∧(L=[]∨¬ dD L.length gs)) ∨
 (gB [bJ w rs,.list (gs.map dGp)] = .bad∧mC [bJ w rs,.list (gs.map dGp)] = .ok "TooMany" ∧ ∃l:List Int,l.Nodup∧(∀x∈l,Reach gs w rs x)∧dD l.length gs):=by
 unfold bJ
 rcases Dy hw hw2 hg hm hrs hrl with ⟨L,h1,h2,h3,h4,h5⟩ | ⟨h1,h2,h3,h4⟩
 · exact .inl ⟨L,h1,h2,h3,h5⟩
 · refine .inr ⟨h1,?_,h4⟩
   unfold mC fnZ
   show fG _ _ _ [some (.tuple [.int (w:Nat),dR rs]),some (.list (gs.map dGp)),none,none,none,none,none]=_
   rw[oR ce1,oR (ce2 hg hw2),oR ce3,oR (ce4 hg hrl)]
   show fG (nj 1000000 cCn [6] cBd) (yV 1000000 cCn [6] cBd (fG cRf (j5 eU [(aq bI (eFn b8 [(aj 4)]) (eFn b8 [(aj 5)])),(aj 1)]) zNo)) zNo (cG _ gs w (dL (g8 gs w)) [] (pU gs w _))=_
   rw[wk h2]
   refine h3 _ _ fun old fresh hG=>?_
   rw[wk (Ny hG hg hm)]
   exact pM Km (RM hG hg hm)
noncomputable def bC:ME:=aq gtD (aX cu [(eFn b8 [(aj 3)]),(bV [(aj 0)])]) (eC (.int 20000))
theorem M6 {m w:Nat}{b:Int}{rs:List Int} (hr:rs.length≤1000) (hm:m≤4) (hp:20000 < rs.length^m):d8 [dG m b,bJ w rs] = .bad∧ju [dG m b,bJ w rs] = .ok "TooMany" := by
 have e1:aW 2 (aq ixD (aj 1) (eC (.int 0))) [some (dG m b),some (bJ w rs),none,none,none,none] = .ok (.nx [some (dG m b),some (bJ w rs),some (.int (w:Nat)),none,none,none]):=by
  unfold bJ
  walk_at "ev"
 have e2:aW 3 (aq ixD (aj 1) (eC (.int 1))) [some (dG m b),some (bJ w rs),some (.int (w:Nat)),none,none,none] = .ok (.nx [some (dG m b),some (bJ w rs),some (.int (w:Nat)),some (dR rs),none,none]):=by
  unfold bJ
  walk_at "ev"
 have e3:bC [some (dG m b),some (bJ w rs),some (.int (w:Nat)),some (dR rs),none,none] = .ok (.bool true):=by
  unfold bC
  walk_at "ev"
  rw[show b8 [dR rs] = .ok (.int (rs.length:Nat)) by unfold dR;rw[lq,aw]]
  walk_at "ev"
  have hc:=lD (n:=rs.length) (gs:=[(m,b)]) (by omega) (by simp) fun g hg=>by rw[ba.mp hg];exact hm
  rw[show ae.list [dG m b] = .list ([(m,b)].map dGp) from rfl,hc,show dB rs.length [(m,b)]=rs.length^m by unfold dB;simp]
  walk_at "ev"
  rw[decide_eq_true (by omega)]
 constructor
 · unfold d8
   rw[o4]
   show Res.bind (aN _ _ [some (dG m b),some (bJ w rs),none,none,none,none]) fin=_
   rw[qP e1,qP e2]
   show Res.bind (aN (sIf bC lJ cO) _ _) fin=_
   rw[S5 (Tp e3)];rfl
 · unfold ju fnZ
   show fG _ _ _ [some (dG m b),some (bJ w rs),none,none,none,none]=_
   rw[oR e1,oR e2]
   exact Le e3
theorem X6 {m w:Nat}{b:Int}{rs:List Int} (hr:rs.length≤1000) (hm:m≤4) (hp:20000 < rs.length^m):jR [dG m b,bJ w rs] = .bad∧oX [dG m b,bJ w rs] = .ok "TooMany" := by
 obtain ⟨h1,h2⟩:=M6 (w:=w) (b:=b) hr hm hp
 have ee:evs [(aj 0),(aj 1)] [some (dG m b),some (bJ w rs)] = .ok [dG m b,bJ w rs]:=rfl
 have es:cg (aq vz (aX d8 [(aj 0),(aj 1)]) (eC .none)) [some (dG m b),some (bJ w rs)] = .bad:=by
  rw[EY,Gp,UW ee h1];rfl
 constructor
 · unfold jR
   rw[o4]
   show Res.bind (cg _ [some (dG m b),some (bJ w rs)]) fin=_
   rw[es];rfl
 · unfold oX fnZ
   show fG _ _ _ [some (dG m b),some (bJ w rs)]=_
   rw[wk es]
   exact pM ee h2
theorem zM {ie iy:Nat}{m1 mn mx:MS}{z:MZ}{Γ:Ev}{c:Str} (h1:m1 Γ = .bad) (h2:z Γ = .ok c) (hy:iy < Γ.length) (he:gv Γ ie=none):vR ie iy m1 z mn mx Γ=mx (Γ.set iy (some (.str "exc"))):=by
 unfold vR
 rw[h1,h2,Res.bz,cj ⟨hy,he⟩]
theorem z7 {ie iy:Nat}{m1 mn mx:MS}{z:MZ}{Γ Γ':Ev} (h1:m1 Γ = .ok (.nx Γ')):vR ie iy m1 z mn mx Γ=mn Γ':=by
 unfold vR
 rw[h1]
theorem marks:eY [.str "exc"] = .ok (.list [.bool false,.bool true,.bool false,.bool false,.bool false,.bool false,.bool false,.bool false,.bool true]):=by
 unfold eY
 rfl
theorem zW {k:Nat}{g x gsD d:ae}{w:Nat}{rs:List Int} (h:(k=0∧gB [bJ w rs,gsD] = .ok d)∨(k=1∧jR [g,bJ w rs] = .ok d)∨(k=2∧∃e,d8 [g,bJ w rs] = .ok e∧d = .list [e])):bD [.int (k:Nat),g,.int (w:Nat),dR rs,gsD] = .ok d:=by
 unfold bD
 walk_at "ev"
 rcases h with ⟨rfl,h⟩ | ⟨rfl,h⟩ | ⟨rfl,e,h,rfl⟩
 · rw[z7 (Γ':=[some (.int 0),some g,some (.int (w:Nat)),some (dR rs),some gsD,some d,some .none,none]) (by
    walk_at "ev"
    rw[show ae.tuple [.int (w:Nat),dR rs]=bJ w rs from rfl,h]
    walk_at "ev"
    rfl)]
   walk_at "ev"
   rw[show vz .none .none = .ok (.bool true) from rfl]
   walk_at "ev"
 · rw[z7 (Γ':=[some (.int 1),some g,some (.int (w:Nat)),some (dR rs),some gsD,some d,some .none,none]) (by
    walk_at "ev"
    rw[show ae.tuple [.int (w:Nat),dR rs]=bJ w rs from rfl,h]
    walk_at "ev"
    rfl)]
   walk_at "ev"
   rw[show vz .none .none = .ok (.bool true) from rfl]
   walk_at "ev"
 · rw[z7 (Γ':=[some (.int 2),some g,some (.int (w:Nat)),some (dR rs),some gsD,some (.list [e]),some .none,none]) (by
    walk_at "ev"
    rw[show ae.tuple [.int (w:Nat),dR rs]=bJ w rs from rfl,h]
    walk_at "ev"
    rfl)]
   walk_at "ev"
   rw[show vz .none .none = .ok (.bool true) from rfl]
   walk_at "ev"
theorem zZ {k:Nat}{g gsD:ae}{w:Nat}{rs:List Int} (h:(k=0∧gB [bJ w rs,gsD] = .bad∧mC [bJ w rs,gsD] = .ok "TooMany")∨(k=1∧jR [g,bJ w rs] = .bad∧oX [g,bJ w rs] = .ok "TooMany")∨(k=2∧d8 [g,bJ w rs] = .bad∧ju [g,bJ w rs] = .ok "TooMany")) :
 bD [.int (k:Nat),g,.int (w:Nat),dR rs,gsD] = .ok (.str "many"):=by
 have fin:∀d:ae,Res.bind (aN (sIf (eX 6 (.bool false)) (cg (aj 5)) cO)
  (aN (sIf (aq eqD (vq 6 eY) (aq bI (aq bI (bV [(eC (.bool false)),(eC (.bool true))]) (aq oh (bV [(eC (.bool false))]) (eC (.int 6)))) (bV [(eC (.bool true))]))) (cg (eC (.str "many"))) cO)
  (cg (eC (.str "other")))) [some d,some g,some (.int (w:Nat)),some (dR rs),some gsD,some .none,some (.str "exc"),none]) fin = .ok (.str "many"):=fun d=>by
  have x1:eX 6 (.bool false) [some d,some g,some (.int (w:Nat)),some (dR rs),some gsD,some .none,some (.str "exc"),none] = .ok (.bool false):=rfl
  have x2:vq 6 eY [some d,some g,some (.int (w:Nat)),some (dR rs),some gsD,some .none,some (.str "exc"),none]=eY [.str "exc"]:=rfl
  rw[fU,vW,x1]
  walk_at "ev"
  rw[x2,marks]
  rfl
 have ea:∀d:ae,evs [(cH [(aj 2),(aj 3)]),(aj 4)] [some d,some g,some (.int (w:Nat)),some (dR rs),some gsD,some .none,some .none,none] = .ok [bJ w rs,gsD]:=fun d=>rfl
 have eb:∀d:ae,evs [(aj 1),(cH [(aj 2),(aj 3)])] [some d,some g,some (.int (w:Nat)),some (dR rs),some gsD,some .none,some .none,none] = .ok [g,bJ w rs]:=fun d=>rfl
 unfold bD
 walk_at "ev"
 rcases h with ⟨rfl,h1,h2⟩ | ⟨rfl,h1,h2⟩ | ⟨rfl,h1,h2⟩
 · rw[zM (c := "TooMany") ?_ ?_ (of_decide_eq_true rfl) rfl]
   · exact fin _
   · walk_at "ev"
     rw[show ae.tuple [.int (w:Nat),dR rs]=bJ w rs from rfl,h1]
     rfl
   · rw[CZ rfl]
     exact pM (ea _) h2
 · rw[zM (c := "TooMany") ?_ ?_ (of_decide_eq_true rfl) rfl]
   · exact fin _
   · walk_at "ev"
     rw[show ae.tuple [.int (w:Nat),dR rs]=bJ w rs from rfl,h1]
     rfl
   · rw[Jx rfl,CZ rfl]
     exact pM (eb _) h2
 · rw[zM (c := "TooMany") ?_ ?_ (of_decide_eq_true rfl) rfl]
   · exact fin _
   · walk_at "ev"
     rw[show ae.tuple [.int (w:Nat),dR rs]=bJ w rs from rfl,h1]
     rfl
   · rw[Jx rfl,Jx rfl,CZ rfl]
     exact pM (eb _) h2
noncomputable def dZ (P:List Nat) (k j c:Nat):Bool:=(cS j).any fun i=>decide (bj (k:Nat) (i:Nat)=1)&&decide (c=P.getD i 0)
noncomputable def jm (k j:Nat):Nat:=((cS j).filter fun i=>decide (bj (k:Nat) (i:Nat)=1)).length
theorem Np {P:List Nat}{k j c:Nat} (h:bj (k:Nat) (j:Nat)=1):dZ P k (j+1) c=(dZ P k j c||decide (c=P.getD j 0)):=by
 unfold dZ
 rw[ll,List.any_append,kH,List.any_nil,vb,decide_eq_true h,BI]
theorem KH {P:List Nat}{k j c:Nat} (h:bj (k:Nat) (j:Nat)=0):dZ P k (j+1) c=dZ P k j c:=by
 unfold dZ
 rw[ll,List.any_append,kH,List.any_nil,vb,decide_eq_false (by rw[h];decide),kK,vb]
theorem Nk {k j:Nat} (h:bj (k:Nat) (j:Nat)=1):jm k (j+1)=jm k j+1:=by
 unfold jm
 rw[ll,sd,ay,sC (by simpa using h)];rfl
theorem Kf {k j:Nat} (h:bj (k:Nat) (j:Nat)=0):jm k (j+1)=jm k j:=by
 unfold jm
 rw[ll,sd,ay,oz (by rw[h];decide)];rfl
theorem Wl {w p:Nat}{F:Nat→Bool} (hp:p < w):iP (cA w F) (2^p)=cA w fun c=>F c||decide (c=p):=by
 rw[← HW hp]
 unfold cA
 rw[Mx (fun _=>m9 _) fun _=>m9 _]
 refine iI fun c hc=>?_
 show 1 - (1 - b01 (F c))*(1 - b01 (decide (c=p)))=b01 (F c||decide (c=p))
 generalize F c=a
 generalize decide (c=p)=b
 cases a <;> cases b <;> rfl
noncomputable def bA (P:List Nat):List Int:=P.map fun p=>(2:Int)^p
noncomputable def zr (w:Nat) (P:List Nat) (s:Bool) (k:Nat) (ks:List Int):List Int:=if jm k P.length=1∨s=false then fj (cA w (dZ P k P.length)) ks else ks
noncomputable def gZ (w:Nat) (P:List Nat) (s:Bool) (n:Nat):List Int:=(cS n).foldl (fun ks i=>zr w P s (1+i) ks) []
theorem qp {w:Nat}{P:List Nat}{s:Bool}{n:Nat}:gZ w P s (n+1)=zr w P s (1+n) (gZ w P s n):=by
 unfold gZ
 rw[ll,nI];rfl
theorem tR {w:Nat}{P:List Nat}{s:Bool}:∀n,(gZ w P s n).length≤n
 | 0=>aE _
 | n+1=>by
  rw[qp]
  unfold zr
  have:=tR (w:=w) (P:=P) (s:=s) n
  split
  · exact eK xm (by omega)
  · omega
theorem T5 {n:Nat} (h:n < 1000000):PK (.int 1) (.int ((n+1:Nat):Int)) = .ok ((cS n).map fun i=>ae.int ((1+i:Nat):Int)):=by
 show gd _ _=_
 rw[cj (by omega)]
 congr 1
 rw[show (((n+1:Nat):Int) - 1).toNat=n by omega]
 refine lp fun i _=>?_
 rw[r0];rfl
theorem Ro {P:List Nat}{w:Nat}{s:Bool} (hq:P.length≤8) (hP:∀p∈P,p < w):jy [dL (bA P),.bool s] = .ok (.dict (mk (gZ w P s (2^P.length - 1)))):=by
 have h8:2^P.length≤2^8:=nN (by decide) hq
 have h0:0 < 2^P.length:=A9 (by decide)
 have hlen:(bA P).length=P.length:=by unfold bA;rw[aw]
 unfold jy
 walk_at "ev"
 rw[show zm [] [some (dL (bA P)),some (.bool s),none,none,none,none,none] = .ok (.dict (mk [])) from rfl]
 walk_at "go"
 rw[hlen,Int.one_mul,eM,show (2:Int)^P.length=(((2^P.length - 1)+1:Nat):Int) by rw[Nat.sub_add_cancel h0];simp,T5 (by omega)]
 walk_at "ev"
 refine dF (fun i=>[some (dL (bA P)),some (.bool s),some (.dict (mk (gZ w P s i))),none,none,none,none]) rfl (fun i x hx=>?_) ?_
 · obtain ⟨i',hi,rfl⟩:=jD hx
   have e:=hi
   rw[ke (by have:=(de.mp hi).1;simpa using this)] at e
   cases e
   have hlt:i < 2^P.length - 1:=by have:=(de.mp hi).1;simpa using this
   have hul:=tR (w:=w) (P:=P) (s:=s) i
   walk_at "ev"
   rw[hlen,gU (show P.length < 2^62 by omega)]
   walk_at "ev"
   refine dF (fun j=>[some (dL (bA P)),some (.bool s),some (.dict (mk (gZ w P s i))),some (.int ((1+i:Nat):Int)),some (.int (cA w (dZ P (1+i) j))),some (.int (jm (1+i) j:Nat)),none]) ?_ (fun j x hx=>?_) ?_
   · rw[show cA w (dZ P (1+i) 0)=0 from by unfold cA;rw[show (fun c=>b01 (dZ P (1+i) 0 c))=fun _=>(0:Int) from rfl,m5,Int.mul_zero]]
     rfl
   · obtain ⟨hj,rfl⟩:=mH hx
     have hpj:P.getD j 0 < w:=hP _ (by rw[ax,aS hj];exact e8 hj)
     have hix:(bA P).getD j 0=2^(P.getD j 0):=by
      unfold bA
      rw[ax,cn,aS hj,ax,aS hj];rfl
     walk_at "go"
     rw[AR,show ((1+i:Nat):Int) / 2^((j:Nat):Int).toNat % 2=bj ((1+i:Nat):Int) (j:Nat) from rfl]
     rcases kY ((1+i:Nat):Int) (j:Nat) with h | h
     · rw[h]
       walk_at "ev"
       rw[show dZ P (1+i) (j+1)=dZ P (1+i) j from funext fun c=>KH h,Kf h]
     · rw[h]
       walk_at "ev"
       rw[HY (by rw[hlen];exact hj),hix]
       walk_at "ev"
       rw[Wl hpj,show dZ P (1+i) (j+1)=fun c=>dZ P (1+i) j c||decide (c=P.getD j 0) from funext fun c=>Np h,Nk h,r0]
       rfl
   · rw[iM]
     walk_at "ev"
     rw[qp]
     unfold zr
     by_cases h1:jm (1+i) P.length=1
     · rw[decide_eq_true (show ((jm (1+i) P.length:Nat):Int)=1 by omega),if_pos (.inl h1)]
       walk_at "ev"
       rw[mG (x:=cA w (dZ P (1+i) P.length)) (ks:=gZ w P s i) rfl rfl rfl (by omega) (of_decide_eq_true rfl)]
       walk_at "ev"
     · rw[decide_eq_false (show ¬ ((jm (1+i) P.length:Nat):Int)=1 by omega)]
       cases s with
       | false=>
        rw[if_pos (.inr rfl)]
        walk_at "ev"
        rw[mG (x:=cA w (dZ P (1+i) P.length)) (ks:=gZ w P false i) rfl rfl rfl (by omega) (of_decide_eq_true rfl)]
        walk_at "ev"
       | true=>
        rw[if_neg (by rintro (z | z);exact h1 z;cases z)]
        walk_at "ev"
 · rw[aw,dP]
   walk_at "ev"
theorem zA {n m:Nat} (hn:n≤100000) (hm:m≤4):gk [.int (n:Nat),.int (m:Nat)] = .ok (.int ((n^m:Nat):Int)):=by
 unfold gk
 walk_at "ev"
 rw[gU (by omega)]
 walk_at "ev"
 refine dF (fun i=>[some (.int (n:Nat)),some (.int (m:Nat)),some (.int ((n^i:Nat):Int)),none]) rfl (fun i x hx=>?_) ?_
 · obtain ⟨hi,rfl⟩:=mH hx
   have e:((n^(i+1):Nat):Int)=((n^i:Nat):Int)*(n:Nat):=by rw[iF,Int.natCast_mul]
   rw[e]
   generalize n^i=q
   walk_at "ev"
   rw[cj (show qL _ _ from .inr ⟨by omega,by omega⟩)]
   walk_at "ev"
 · rw[iM]
   walk_at "ev"
theorem PJ {P:List Nat}{S:Nat→Bool} (hn:P.Nodup):∃k:Nat,k < 2^P.length∧∀c,dZ P k P.length c=(S c&&decide (c∈P)):=by
 refine ⟨(dI (P.map fun p=>b01 (S p))).toNat,?_,fun c=>?_⟩
 all_goals
  have h01:fZ (P.map fun p=>b01 (S p)):=fZ.map fun a _=>m9 _
  have h0:0≤dI (P.map fun p=>b01 (S p)):=jZ h01.nn
  have h1:=vG h01
  rw[aw] at h1
 · have e:((2^P.length:Nat):Int)=2^P.length:=by simp
   omega
 · have hb:∀i (hi:i < P.length),bj (((dI (P.map fun p=>b01 (S p))).toNat:Nat):Int) (i:Nat)=b01 (S P[i]):=fun i hi=>by
    rw[vF h0]
    exact pB h01 (by rw[cn,aS hi];rfl)
   rw[nh,cc,decide_eq_true_eq]
   unfold dZ
   rw[List.any_eq_true]
   constructor
   · rintro ⟨i,hi,h⟩
     have hi:=d5.mp hi
     rw[cc,decide_eq_true_eq,decide_eq_true_eq,hb i hi,ax,aS hi] at h
     have e:c=P[i]:=h.2
     rw[e]
     refine ⟨?_,e8 hi⟩
     have h1:=h.1
     cases hS:S P[i] with
     | true=>rfl
     | false=>rw[hS] at h1;exact absurd h1 (by decide)
   · rintro ⟨hS,hc⟩
     obtain ⟨i,hi,e⟩:=eS.mp hc
     refine ⟨i,d5.mpr hi,?_⟩
     rw[cc,decide_eq_true_eq,decide_eq_true_eq,hb i hi,e,hS,ax,aS hi]
     exact ⟨rfl,e.symm⟩
theorem Ep {w:Nat}{P:List Nat}{s:Bool}{x:Int}:∀{n:Nat},x∈gZ w P s n↔∃i,i < n∧(jm (1+i) P.length=1∨s=false)∧x=cA w (dZ P (1+i) P.length)
 | 0=>⟨(fun h=>nomatch h),fun ⟨i,h,_⟩=>absurd h (A0 _)⟩
 | n+1=>by
  rw[qp]
  unfold zr
  have ih:=Ep (w:=w) (P:=P) (s:=s) (x:=x) (n:=n)
  constructor
  · intro h
    split at h
    · rename_i hc
      rcases pq.mp h with h | h
      · exact ⟨n,mo _,hc,h⟩
      · obtain ⟨i,h1,h2⟩:=ih.mp h
        exact ⟨i,by omega,h2⟩
    · obtain ⟨i,h1,h2⟩:=ih.mp h
      exact ⟨i,by omega,h2⟩
  · rintro ⟨i,h1,h2,h3⟩
    by_cases hi:i=n
    · subst hi
      rw[if_pos h2]
      exact pq.mpr (.inl h3)
    · have:=ih.mpr ⟨i,by omega,h2,h3⟩
      split
      · exact pq.mpr (.inr this)
      · exact this
theorem tM {w:Nat}{P:List Nat}{s:Bool}:∀n,(gZ w P s n).Nodup
 | 0=>Bi
 | n+1=>by
  rw[qp]
  unfold zr
  have ih:=tM (w:=w) (P:=P) (s:=s) n
  split
  · unfold fj
    split
    · exact ih
    · rename_i hx
      exact ip.mpr ⟨ih,by simp,fun a ha b hb e=>by rw[ba] at hb;subst hb;subst e;exact hx ha⟩
  · exact ih
theorem qm {α:Type} [BEq α] [LawfulBEq α] {l L:List α} (h:l.Nodup) (hs:∀x∈l,x∈L):l.length≤L.length:=by
 induction l generalizing L with
 | nil=>exact iE _
 | cons x l ih=>
  have hx:=hs x b5
  have hn:=ki.mp h
  have:=ih hn.2 (L:=L.erase x) fun y hy=>(vi fun z:y=x=>hn.1 (z ▸ hy)).mpr (hs y (bg _ hy))
  rw[zl hx] at this
  have:=tq hx
  rw[bX];omega
theorem my {l:List Nat} (h:l.Nodup) {i j:Nat}{hi:i < l.length}{hj:j < l.length} (e:l[i]=l[j]):i=j:=by
 have h2:=fR.mp h
 rcases y0 i j with q | q | q
 · exact absurd e (h2 i j hi hj q)
 · exact q
 · exact absurd e.symm (h2 j i hj hi q)
theorem Vt {l:List Nat}{a:Nat} (h:l.Nodup) (ha:a∈l) (hs:∀x∈l,x=a):l.length=1:=by
 have h1:=qm (L:=[a]) h fun x hx=>ba.mpr (hs x hx)
 have h2:=tq ha
 have h3:([a]:List Nat).length=1:=rfl
 omega
theorem lg {P:List Nat}{k c:Nat}:dZ P k P.length c=true↔∃i,∃h:i < P.length,bj (k:Nat) (i:Nat)=1∧c=P[i]:=by
 unfold dZ
 rw[List.any_eq_true]
 constructor
 · rintro ⟨i,hi,h⟩
   have hi:=d5.mp hi
   rw[cc,decide_eq_true_eq,decide_eq_true_eq,ax,aS hi] at h
   exact ⟨i,hi,h.1,h.2⟩
 · rintro ⟨i,hi,h1,h2⟩
   refine ⟨i,d5.mpr hi,?_⟩
   rw[cc,decide_eq_true_eq,decide_eq_true_eq,ax,aS hi]
   exact ⟨h1,h2⟩
theorem RC {k q:Nat} (h0:k≠0) (h:k < 2^q):∃i,i < q∧bj (k:Nat) (i:Nat)=1:=by
 obtain ⟨i,hi⟩:=Nat.exists_testBit_of_ne_zero h0
 refine ⟨i,AE fun z=>?_,?_⟩
 · rw[Nat.testBit_lt_two_pow (cx h (nN (by decide) z))] at hi
   cases hi
 · rw[tJ] at hi
   rw[xK,of_decide_eq_true hi];rfl
theorem tX {P:List Nat}{k:Nat} (hn:P.Nodup):jm k P.length=1↔∃i,∃h:i < P.length,bj (k:Nat) (i:Nat)=1∧∀j,j < P.length→bj (k:Nat) (j:Nat)=1→j=i:=by
 unfold jm
 constructor
 · intro h
   obtain ⟨a,ha⟩:=List.length_eq_one_iff.mp h
   have m:∀x,x∈[a]↔x < P.length∧bj (k:Nat) (x:Nat)=1:=fun x=>by
    rw[← ha,gE,d5,decide_eq_true_eq]
   have:=(m a).mp (ba.mpr rfl)
   exact ⟨a,this.1,this.2,fun j h1 h2=>ba.mp ((m j).mpr ⟨h1,h2⟩)⟩
 · rintro ⟨i,hi,h1,h2⟩
   refine Vt (a:=i) (AC.filter _) (gE.mpr ⟨d5.mpr hi,decide_eq_true h1⟩) fun x hx=>?_
   obtain ⟨h3,h4⟩:=gE.mp hx
   exact h2 x (d5.mp h3) (of_decide_eq_true h4)
theorem Wm {w:Nat}{P:List Nat}{s:Bool}{x:Int} (hn:P.Nodup):x∈gZ w P s (2^P.length - 1) ↔
 ∃F,(∃T:Nat→Bool,(∃p∈P,T p=true)∧((!s)=false→∃p∈P,∀c∈P,T c=true→c=p)∧F=fun c=>T c&&decide (c∈P))∧x=cA w F:=by
 have h0:0 < 2^P.length:=A9 (by decide)
 rw[Ep]
 constructor
 · rintro ⟨i,hi,h1,rfl⟩
   refine ⟨_,⟨dZ P (1+i) P.length,?_,fun hs=>?_,?_⟩,rfl⟩
   · obtain ⟨j,hj,e⟩:=RC (k:=1+i) (q:=P.length) (by omega) (by omega)
     exact ⟨P[j],e8 hj,lg.mpr ⟨j,hj,e,rfl⟩⟩
   · rcases h1 with h1 | h1
     · obtain ⟨j,hj,e1,e2⟩:=(tX hn).mp h1
       refine ⟨P[j],e8 hj,fun c _ hc=>?_⟩
       obtain ⟨l,hl,e3,e4⟩:=lg.mp hc
       have:=e2 l hl e3
       subst this
       exact e4
     · subst h1;cases hs
   · funext c
     rw[nh,cc,decide_eq_true_eq]
     refine ⟨fun h=>⟨h,?_⟩,fun h=>h.1⟩
     obtain ⟨l,hl,_,e4⟩:=lg.mp h
     rw[e4];exact e8 hl
 · rintro ⟨F,⟨T,⟨p,hp,hT⟩,h2,rfl⟩,rfl⟩
   obtain ⟨k,hk,hb⟩:=PJ (S:=T) hn
   have hk0:k≠0:=fun z=>by
    subst z
    have:=hb p
    rw[hT,decide_eq_true hp] at this
    obtain ⟨i,hi,e,_⟩:=lg.mp this
    have:bj ((0:Nat):Int) (i:Nat)=0:=by unfold bj;rw[show ((0:Nat):Int)=0 from rfl,Int.zero_ediv];rfl
    omega
   refine ⟨k - 1,by omega,?_,?_⟩
   · rw[show 1+(k - 1)=k by omega]
     cases s with
     | false=>exact .inr rfl
     | true=>
      left
      obtain ⟨p',hp',h3⟩:=h2 rfl
      rw[tX hn]
      obtain ⟨i,hi,e⟩:=eS.mp hp'
      have hp2:p=p':=h3 p hp hT
      subst hp2
      have un:∀j (hj:j < P.length),bj (k:Nat) (j:Nat)=1→j=i:=fun j hj ej=>by
       have h4:dZ P k P.length P[j]=true:=lg.mpr ⟨j,hj,ej,rfl⟩
       rw[hb,cc] at h4
       have h5:=h3 P[j] (e8 hj) h4.1
       exact my hn (h5.trans e.symm)
      have h6:dZ P k P.length p=true:=by rw[hb,hT,decide_eq_true hp];rfl
      obtain ⟨j,hj,ej,_⟩:=lg.mp h6
      have:=un j hj ej
      subst this
      exact ⟨j,hj,ej,un⟩
   · rw[show 1+(k - 1)=k by omega]
     congr 1
     funext c
     exact (hb c).symm
noncomputable def lF (w q:Nat) (ks:List Int) (g:Nat×Int):List Int:=
 if g=(0,1) then fj (2^w - 1) (if g=(0,0) then fj 0 (if g=(2,8)∧1 < q then fj 0 ks else ks) else if g=(2,8)∧1 < q then fj 0 ks else ks)
 else if g=(0,0) then fj 0 (if g=(2,8)∧1 < q then fj 0 ks else ks) else if g=(2,8)∧1 < q then fj 0 ks else ks
theorem jQ {x:Int}{ks:List Int} (h:ks.Nodup):(fj x ks).Nodup:=by
 unfold fj
 split
 · exact h
 · rename_i hx
   exact ip.mpr ⟨h,by simp,fun a ha b hb e=>by rw[ba] at hb;subst hb;subst e;exact hx ha⟩
theorem J7 {w q:Nat}{g:Nat×Int}{ks:List Int} (h:ks.Nodup):(lF w q ks g).Nodup:=by
 unfold lF
 split <;> split <;> split <;> first | exact jQ (jQ (jQ h)) | exact jQ (jQ h) | exact jQ h | exact h
theorem Rq {w q:Nat}{g:Nat×Int}{ks:List Int}{x:Int}:x∈lF w q ks g↔x∈ks∨(x=0∧((g=(2,8)∧1 < q)∨g=(0,0)))∨(x=2^w - 1∧g=(0,1)):=by
 unfold lF
 split <;> split <;> split <;> simp only[*,pq] <;> simp_all <;> grind
noncomputable def qK (w:Nat) (P:List Nat) (s:Bool) (gs:List (Nat×Int)):List Int:=gs.foldl (lF w P.length) (gZ w P s (2^P.length - 1))
theorem xj {w q:Nat}{x:Int}:∀{gs:List (Nat×Int)}{ks:List Int},x∈gs.foldl (lF w q) ks↔x∈ks∨(x=0∧(((2,8)∈gs∧1 < q)∨(0,0)∈gs))∨(x=2^w - 1∧(0,1)∈gs)
 | [],ks=>by simp
 | g::gs,ks=>by
  rw[kT,xj,Rq,be,be,be]
  grind
theorem sY {w q:Nat}:∀{gs:List (Nat×Int)}{ks:List Int},ks.Nodup→(gs.foldl (lF w q) ks).Nodup
 | [],ks,h=>h
 | g::gs,ks,h=>sY (gs:=gs) (J7 h)
theorem Kp {w:Nat}{P:List Nat}{s:Bool}{gs:List (Nat×Int)}:(qK w P s gs).Nodup:=sY (tM _)
theorem Gh {w:Nat}{P:List Nat}{s:Bool}{gs:List (Nat×Int)} (hq:P.length≤8):(gs.foldl (lF w P.length) (gZ w P s (2^P.length - 1))).length≤257:=by
 have h8:2^P.length≤2^8:=nN (by decide) hq
 have:=qm (l:=gs.foldl (lF w P.length) (gZ w P s (2^P.length - 1))) (L:=gZ w P s (2^P.length - 1)++[0,2^w - 1]) (sY (tM _)) fun x hx=>by
  rcases xj.mp hx with h | h | h
  · exact fA _ h
  · exact cK _ (by simp[h.1])
  · exact cK _ (by simp[h.1])
 rw[ay] at this
 have h2:=tR (w:=w) (P:=P) (s:=s) (2^P.length - 1)
 have h3:([0,2^w - 1]:List Int).length=2:=rfl
 omega
theorem Dj {w:Nat}{P:List Nat}{s:Bool}{gs:List (Nat×Int)} (hq:P.length≤8):(qK w P s gs).length≤257:=Gh hq
noncomputable def qC (g:Nat×Int):Bool:=decide (g=(2,14))||(decide (g=(3,254))||decide (g=(4,65534)))
theorem En {g:Nat×Int}:qC g=true↔g=(2,14)∨g=(3,254)∨g=(4,65534):=by
 unfold qC
 rw[kn,kn,decide_eq_true_eq,decide_eq_true_eq,decide_eq_true_eq]
noncomputable def jw (gs:List (Nat×Int)):Bool:=decide (gs.filter qC=[])
theorem two_iff {P:List Nat} (hn:P.Nodup):1 < P.length↔∃p∈P,∃q∈P,p≠q:=by
 constructor
 · intro h
   refine ⟨P[0],e8 _,P[1],e8 _,fun e=>?_⟩
   exact absurd (my hn e) (by decide)
 · rintro ⟨p,hp,q,hq,hne⟩
   refine AE fun z=>?_
   match P,hp,hq,z with
   | [a],hp,hq,_=>exact hne ((ba.mp hp).trans (ba.mp hq).symm)
   | _::_::_,_,_,z=>simp at z
theorem Vb {w:Nat}{P:List Nat}{gs:List (Nat×Int)} (hn:P.Nodup) (hgs:∀g∈gs,g∈uGs) (x:Int):x∈qK w P (jw gs) gs↔Reach gs w (qj w P) x:=by
 rw[UG (o:=!jw gs) (z:=decide (((2,8)∈gs∧∃p∈P,∃q∈P,p≠q)∨(0,0)∈gs)) (u:=decide ((0,1)∈gs)) hgs ?_ decide_eq_true_iff decide_eq_true_iff]
 · show x∈gs.foldl _ _↔_
   rw[xj,Wm hn,two_iff hn]
   unfold FmB
   have e0:cA w (fun _=>false)=0:=by unfold cA;rw[show (fun c:Nat=>b01 false)=fun _=>(0:Int) from rfl,m5,Int.mul_zero]
   have e1:cA w (fun _=>true)=2^w - 1:=by unfold cA;rw[show (fun c:Nat=>b01 true)=fun _=>(1:Int) from rfl,m5,Int.mul_one]
   constructor
   · rintro (⟨F,h,e⟩ | ⟨e,h⟩ | ⟨e,h⟩)
     · exact ⟨F,.inl h,e⟩
     · exact ⟨_,.inr (.inl ⟨decide_eq_true h,rfl⟩),e.trans e0.symm⟩
     · exact ⟨_,.inr (.inr ⟨decide_eq_true h,rfl⟩),e.trans e1.symm⟩
   · rintro ⟨F,h | ⟨h,rfl⟩ | ⟨h,rfl⟩,e⟩
     · exact .inl ⟨F,h,e⟩
     · exact .inr (.inl ⟨e.trans e0,of_decide_eq_true h⟩)
     · exact .inr (.inr ⟨e.trans e1,of_decide_eq_true h⟩)
 · unfold jw orG
   rw[Bool.not_eq_true',decide_eq_false_iff_not]
   constructor
   · intro h
     obtain ⟨g,hg⟩:=xI _ h
     obtain ⟨h1,h2⟩:=gE.mp hg
     exact ⟨g,h1,En.mp h2⟩
   · rintro ⟨g,h1,h2⟩ e
     have:g∈gs.filter qC:=gE.mpr ⟨h1,En.mpr h2⟩
     rw[e] at this
     cases this
theorem Nb {g h:Nat×Int}:gz (dGp g) (dGp h)=decide (g=h):=by
 refine nh.mpr ((uW _ _ tD tD).trans ⟨fun z=>decide_eq_true ?_,fun z=>by rw[of_decide_eq_true z]⟩)
 have z:ae.tuple [.int (g.1:Nat),.int g.2] = .tuple [.int (h.1:Nat),.int h.2]:=z
 injection z with z
 injection z with z1 z2
 injection z2 with z2 _
 injection z1 with z1
 injection z2 with z2
 exact Prod.ext (Int.ofNat.inj z1) z2
theorem m8 {g:Nat×Int}:dE (dGp g)=true:=mZ tD Ri
theorem J6 {g h:Nat×Int}:eqD (dGp g) (dGp h) = .ok (.bool (decide (g=h))):=by
 unfold eqD
 rw[cj ⟨m8,m8⟩,Nb]
theorem M9 {h:Nat×Int} (gs:List (Nat×Int)):inB (dGp h) (gs.map dGp)=decide (h∈gs):=by
 unfold inB
 induction gs with
 | nil=>rfl
 | cons g gs ih=>
  rw[dk,kH,ih,Nb]
  by_cases e:g=h
  · subst e;rw[decide_eq_true rfl,decide_eq_true b5];rfl
  · rw[decide_eq_false e,BG]
    exact decide_eq_decide.mpr ⟨bg _,fun z=>(be.mp z).resolve_left fun q=>e q.symm⟩
theorem M3 (gs:List (Nat×Int)):(gs.map dGp).all dE=true:=by
 rw[kC]
 intro d hd
 obtain ⟨x,_,rfl⟩:=eh.mp hd
 exact m8
theorem Xd {h:Nat×Int}{gs:List (Nat×Int)}:inY (dGp h) (.tuple (gs.map dGp)) = .ok (.bool (decide (h∈gs))):=by
 show gd (dE (dGp h)=true∧(gs.map dGp).all dE=true) (Res.ok (ae.bool (inB (dGp h) (gs.map dGp))))=_
 rw[cj ⟨m8,M3 gs⟩,M9]
theorem Rz {h:Nat×Int}{gs:List (Nat×Int)}:qQ (dGp h) (.list (gs.map dGp)) = .ok (.bool (!decide (h∈gs))):=by
 show gd (dE (dGp h)=true∧(gs.map dGp).all dE=true) (Res.ok (ae.bool (!inB (dGp h) (gs.map dGp))))=_
 rw[cj ⟨m8,M3 gs⟩,M9]
theorem eq_nil {gs:List (Nat×Int)}:eqD (.list (gs.map dGp)) (.list []) = .ok (.bool (decide (gs=[]))):=by
 by_cases h:gs=[]
 · subst h
   rw[decide_eq_true rfl]
   exact Eg (a:=.list (([]:List (Nat×Int)).map dGp)) (xO []) (xq [])
 · rw[decide_eq_false h]
   refine (uI (xO gs) (xO []) (xq gs) (xq [])).2.1.mpr fun z=>h ?_
   injection z with z
   exact List.map_eq_nil_iff.mp z
theorem Y5 {P:List Nat}{w:Nat}{gs:List (Nat×Int)} (hq:P.length≤8) (hP:∀p∈P,p < w) (hw:w≤16) (hg:gs.length≤8) :
 kJ [.int (w:Nat),dL (bA P),.list (gs.map dGp)] = .ok (dR (srt (qK w P (jw gs) gs))):=by
 unfold kJ
 rw[o4]
 show Res.bind (aN _ _ [some (.int (w:Nat)),some (dL (bA P)),some (.list (gs.map dGp)),none,none,none,none]) fin=_
 refine dM (Γ':=[some (.int (w:Nat)),some (dL (bA P)),some (.list (gs.map dGp)),some (.int (2^w - 1)),none,none,none]) ?_ ?_
 · skip
   walk_at "go"
   rw[eM,Int.one_mul]
 refine dM (Γ':=[some (.int (w:Nat)),some (dL (bA P)),some (.list (gs.map dGp)),some (.int (2^w - 1)),some (.list ((gs.filter qC).map dGp)),none,none]) ?_ ?_
 · skip
   rw[o8,rP (xs:=gs) dGp qC dGp ?_ (size_le (by omega)) (fun g h=>?_) fun g h h0=>?_]
   · rfl
   · walk_at "ev"
   · walk_at "ev"
     rw[show ae.tuple [.tuple [.int 2,.int 14],.tuple [.int 3,.int 254],.tuple [.int 4,.int 65534]] = .tuple ([((2:Nat),(14:Int)),(3,254),(4,65534)].map dGp) from rfl,Xd]
     congr 2
     unfold qC
     rw[nh,kn,kn,decide_eq_true_eq,decide_eq_true_eq,decide_eq_true_eq,decide_eq_true_eq]
     simp
   · walk_at "ev"
 refine dM (Γ':=[some (.int (w:Nat)),some (dL (bA P)),some (.list (gs.map dGp)),some (.int (2^w - 1)),some (.list ((gs.filter qC).map dGp)),some (.dict (mk (gZ w P (jw gs) (2^P.length - 1)))),none]) ?_ ?_
 · skip
   walk_at "ev"
   rw[eq_nil]
   walk_at "ev"
   rw[Ro hq hP]
   walk_at "ev"
   rfl
 have h8:2^P.length≤2^8:=nN (by decide) hq
 have hul:=tR (w:=w) (P:=P) (s:=jw gs) (2^P.length - 1)
 have hlen:(bA P).length=P.length:=by unfold bA;rw[aw]
 have hfl:∀i,((gs.take i).foldl (lF w P.length) (gZ w P (jw gs) (2^P.length - 1))).length≤257:=fun i=>Gh hq
 walk_at "ev"
 refine dF (fun i=>[some (.int (w:Nat)),some (dL (bA P)),some (.list (gs.map dGp)),some (.int (2^w - 1)),some (.list ((gs.filter qC).map dGp)),some (.dict (mk ((gs.take i).foldl (lF w P.length) (gZ w P (jw gs) (2^P.length - 1))))),none]) rfl (fun i x hx=>?_) ?_
 · obtain ⟨g,eg,rfl⟩:=jD hx
   have hl:=hfl i
   rw[take_snoc eg,nI,kT,List.foldl_nil]
   generalize (gs.take i).foldl (lF w P.length) (gZ w P (jw gs) (2^P.length - 1))=ks at hl ⊢
   generalize (gs.filter qC).map dGp=os
   unfold lF
   have q1:eqD (dGp g) (.tuple [.int 2,.int 8]) = .ok (.bool (decide (g=(2,8)))):=J6 (h:=(2,8))
   have q2:eqD (dGp g) (.tuple [.int 0,.int 0]) = .ok (.bool (decide (g=(0,0)))):=J6 (h:=(0,0))
   have q3:eqD (dGp g) (.tuple [.int 0,.int 1]) = .ok (.bool (decide (g=(0,1)))):=J6 (h:=(0,1))
   have s1:sIf (uz (aq eqD (aj 6) (cH [(eC (.int 2)),(eC (.int 8))])) (aq gtD (eFn b8 [(aj 1)]) (eC (.int 1)))) (lQ 5 (eC (.int 0)) (eC (.bool true))) cO [some (.int (w:Nat)),some (dL (bA P)),some (.list (gs.map dGp)),some (.int (2^w - 1)),some (.list os),some (.dict (mk ks)),some (dGp g)] = .ok (.nx [some (.int (w:Nat)),some (dL (bA P)),some (.list (gs.map dGp)),some (.int (2^w - 1)),some (.list os),some (.dict (mk (if g=(2,8)∧1 < P.length then fj 0 ks else ks))),some (dGp g)]):=by
    walk_at "ev"
    rw[q1,hlen]
    walk_at "ev"
    by_cases h1:g=(2,8)
    · rw[decide_eq_true h1]
      walk_at "ev"
      by_cases h2:1 < P.length
      · rw[decide_eq_true (show (1:Int) < ((P.length:Nat):Int) by omega),if_pos ⟨h1,h2⟩]
        walk_at "ev"
        rw[mG (x:=0) (ks:=ks) rfl rfl rfl (by omega) (of_decide_eq_true rfl)]
        rfl
      · rw[decide_eq_false (show ¬ (1:Int) < ((P.length:Nat):Int) by omega),if_neg fun z=>h2 z.2]
        walk_at "ev"
    · rw[decide_eq_false h1,if_neg fun z=>h1 z.1]
      walk_at "ev"
   have s2:∀{ks:List Int},ks.length≤1000→sIf (aq eqD (aj 6) (cH [(eC (.int 0)),(eC (.int 0))])) (lQ 5 (eC (.int 0)) (eC (.bool true))) cO [some (.int (w:Nat)),some (dL (bA P)),some (.list (gs.map dGp)),some (.int (2^w - 1)),some (.list os),some (.dict (mk ks)),some (dGp g)] = .ok (.nx [some (.int (w:Nat)),some (dL (bA P)),some (.list (gs.map dGp)),some (.int (2^w - 1)),some (.list os),some (.dict (mk (if g=(0,0) then fj 0 ks else ks))),some (dGp g)]):=fun {ks} hl=>by
    walk_at "ev"
    rw[q2]
    walk_at "ev"
    by_cases h1:g=(0,0)
    · rw[decide_eq_true h1,if_pos h1]
      walk_at "ev"
      rw[mG (x:=0) (ks:=ks) rfl rfl rfl (by omega) (of_decide_eq_true rfl)]
      rfl
    · rw[decide_eq_false h1,if_neg h1]
      walk_at "ev"
   have s3:∀{ks:List Int},ks.length≤1000→sIf (aq eqD (aj 6) (cH [(eC (.int 0)),(eC (.int 1))])) (lQ 5 (aj 3) (eC (.bool true))) cO [some (.int (w:Nat)),some (dL (bA P)),some (.list (gs.map dGp)),some (.int (2^w - 1)),some (.list os),some (.dict (mk ks)),some (dGp g)] = .ok (.nx [some (.int (w:Nat)),some (dL (bA P)),some (.list (gs.map dGp)),some (.int (2^w - 1)),some (.list os),some (.dict (mk (if g=(0,1) then fj (2^w - 1) ks else ks))),some (dGp g)]):=fun {ks} hl=>by
    walk_at "ev"
    rw[q3]
    walk_at "ev"
    by_cases h1:g=(0,1)
    · rw[decide_eq_true h1,if_pos h1]
      walk_at "ev"
      rw[mG (x:=2^w - 1) (ks:=ks) rfl rfl rfl (by omega) (of_decide_eq_true rfl)]
      rfl
    · rw[decide_eq_false h1,if_neg h1]
      walk_at "ev"
   rw[yo]
   show Res.bind (Res.bind (.ok [some (.int (w:Nat)),some (dL (bA P)),some (.list (gs.map dGp)),some (.int (2^w - 1)),some (.list os),some (.dict (mk ks)),some (dGp g)]) _) _=_
   rw[Res.bz]
   have l1:∀{x:Int}{ks:List Int}{n},ks.length≤n→(fj x ks).length≤n+1:=fun h=>eK xm (by omega)
   have b1:(if g=(2,8)∧1 < P.length then fj 0 ks else ks).length≤258:=by
    split
    · exact l1 hl
    · omega
   have b2:(if g=(0,0) then fj 0 (if g=(2,8)∧1 < P.length then fj 0 ks else ks) else if g=(2,8)∧1 < P.length then fj 0 ks else ks).length≤259:=by
    split
    · exact l1 b1
    · omega
   rw[qP s1,qP (s2 (by omega)),s3 (by omega)]
   rfl
 · rw[aw,i7]
   have hl:=Dj (w:=w) (P:=P) (s:=jw gs) (gs:=gs) hq
   walk_at "ev"
   rw[show gs.foldl (lF w P.length) (gZ w P (jw gs) (2^P.length - 1))=qK w P (jw gs) gs from rfl,K6 (by omega)]
   walk_at "ev"
   rfl
theorem uN.of {gs:List (Nat×Int)}{w:Nat}{rs D:List Int} (hD:∀x,Reach gs w rs x→x∈D) (hl:D.length≤300):uN gs w rs:=fun l hn hm=>eK (qm hn fun x hx=>hD x (hm x hx)) hl
theorem wU {gs:List (Nat×Int)}{w:Nat}{rs D:List Int}{g:ae} (hD:∀x,Reach gs w rs x↔x∈D) (hn:D.Nodup) (h0:D≠[]) (hl:D.length≤300) (hw2:w≤100) (hg:gs.length≤8) (hm:∀g∈gs,g.1≤4) (hrs:∀r∈rs,0≤r∧r < 2^w) (hrl:rs.length≤300) :
 (dD D.length gs→bD [.int 0,g,.int (w:Nat),dR rs,.list (gs.map dGp)] = .ok (.str "many"))∧(¬ dD D.length gs→bD [.int 0,g,.int (w:Nat),dR rs,.list (gs.map dGp)] = .ok (bJ w (srt D))):=by
 rcases Ju (uN.of (fun x=>(hD x).mp) hl) hw2 hg hm hrs hrl with ⟨L,h1,h2,h3,h4⟩ | ⟨h1,h2,l,h3,h4,h5⟩
 · have hs:=zW (k:=0) (g:=g) (x:=g) (gsD:=.list (gs.map dGp)) (d:=bJ w (srt L)) (w:=w) (rs:=rs) (.inl ⟨rfl,h1⟩)
   have hm:∀x,x∈L↔x∈D:=fun x=>(h3 x).trans (hD x)
   have e:srt L=srt D:=RL h2 hn hm
   have el:L.length=D.length:=by rw[← (cB L).length_eq,e,(cB D).length_eq]
   refine ⟨fun z=>?_,fun _=>by rw[← e];exact hs⟩
   rcases h4 with h4 | h4
   · subst h4
     obtain ⟨x,hx⟩:=xI _ h0
     exact nomatch (hm x).mpr hx
   · exact absurd (el ▸ z) h4
 · have hs:=zZ (k:=0) (g:=g) (gsD:=.list (gs.map dGp)) (w:=w) (rs:=rs) (.inl ⟨rfl,h1,h2⟩)
   exact ⟨fun _=>hs,fun z=>absurd (h5.mono (qm h3 fun x hx=>(hD x).mp (h4 x hx))) z⟩
noncomputable def fQ (k:Nat):ae:=if k=1 then .bool true else .list [.none]
theorem Ce {k m w:Nat}{b:Int}{rs:List Int}{gsD:ae} (hk:k=1∨k=2) (hm:m≤4) (hr:rs.length≤256) (hw:w≤100) (hc:∀c:List Int,c.length=m→(∀x∈c,x∈rs)→cF b c w∈rs) :
 bD [.int (k:Nat),dG m b,.int (w:Nat),dR rs,gsD] = .ok (if 20000 < rs.length^m then .str "many" else fQ k):=by
 by_cases hp:20000 < rs.length^m
 · rw[if_pos hp]
   obtain ⟨k1,k2⟩:=X6 (w:=w) (b:=b) (show rs.length≤1000 by omega) hm hp
   obtain ⟨b1,b2⟩:=M6 (w:=w) (b:=b) (show rs.length≤1000 by omega) hm hp
   rcases hk with rfl | rfl
   · exact zZ (k:=1) (.inr (.inl ⟨rfl,k1,k2⟩))
   · exact zZ (k:=2) (.inr (.inr ⟨rfl,b1,b2⟩))
 · rw[if_neg hp]
   have hkp:Kd b m (w,rs)=true:=QK.mpr hc
   rcases hk with rfl | rfl
   · refine zW (k:=1) (x:=gsD) (.inr (.inl ⟨rfl,?_⟩))
     rw[QJ hr hm (by omega) hw,hkp];rfl
   · refine zW (k:=2) (x:=gsD) (.inr (.inr ⟨rfl,.none,?_,rfl⟩))
     rw[Ax hr hm (by omega) hw]
     have:brk b w rs m=none:=by
      unfold brk
      rw[xi]
      intro c hc'
      have:=kC.mp hkp c hc'
      rw[this]
      decide
     rw[this];rfl
theorem zQ:dE (.str "many")=true:=by decide +kernel
theorem Bw {a:ae} (h:dE a=true) (e:gz a a=true):neD a a = .ok (.bool false):=by
 unfold neD;rw[cj ⟨h,h⟩,e];rfl
theorem Lk {a:ae} (h:dE a=true) (e:gz a a=true):eqD a a = .ok (.bool true):=by
 unfold eqD;rw[cj ⟨h,h⟩,e]
theorem mQ:neD (.str "many") (.str "many") = .ok (.bool false):=Bw zQ (by decide +kernel)
theorem Af:eqD (.str "many") (.str "many") = .ok (.bool true):=Lk zQ (by decide +kernel)
theorem wD (k:Nat):dE (fQ k)=true:=by
 unfold fQ
 split <;> decide +kernel
theorem Hs {k:Nat}:neD (fQ k) (fQ k) = .ok (.bool false):=Bw (wD k) (by unfold fQ;split <;> decide +kernel)
theorem OJ {k:Nat}:eqD (fQ k) (.str "many") = .ok (.bool false):=by
 unfold eqD
 rw[cj ⟨wD k,zQ⟩]
 unfold fQ
 split
 · rw[show gz (.bool true) (.str "many")=false by decide +kernel]
 · rw[show gz (.list [.none]) (.str "many")=false by decide +kernel]
theorem DN {w:Nat}{rs:List Int}:neD (bJ w rs) (bJ w rs) = .ok (.bool false):=Qs (Bt w rs) (Bc w rs)
theorem Ws {w:Nat}{rs:List Int}:eqD (bJ w rs) (bJ w rs) = .ok (.bool true):=Eg (Bt w rs) (Bc w rs)
noncomputable def uX (n:Nat) (t:Int):List Int:=(cS n).map fun k=>(((k:Nat):Int)*37+t) % 256
theorem O3 {n:Nat}{t:Int} (hn:n≤256):(uX n t).Nodup:=by
 unfold uX
 refine zd.map _ (R:=fun a b=>a < b∧b < n) (fun a b h e=>?_) ?_
 · have:=h.1
   have:=h.2
   omega
 · rw[fR]
   intro i j hi hj hij
   rw[xB,xB]
   exact ⟨hij,by simpa using hj⟩
theorem YK {n:Nat}{t:Int}:∀x∈uX n t,0≤x∧x < 2^8:=fun x hx=>by
 obtain ⟨k,_,rfl⟩:=eh.mp hx
 exact ⟨by omega,by show _ < (256:Int);omega⟩
theorem Ey {m i:Nat}{b:Int}{rs:List Int} (hb:b=v9 m i) (hi:i < m) (hr:∀x∈rs,0≤x∧x < 2^8) (c:List Int) (hl:c.length=m) (hc:∀x∈c,x∈rs):cF b c 8∈rs:=by
 rw[hb,M4 hl hi fun x hx=>hr x (hc x hx),ax,aS (by omega)]
 exact hc _ (e8 _)
theorem La {gs:List (Nat×Int)}{rs:List Int} (hr:∀x∈rs,0≤x∧x < 2^8) (hg:∀g∈gs,∃i,i < g.1∧g.2=v9 g.1 i) (x:Int):Reach gs 8 rs x↔x∈rs:=by
 constructor
 · intro h
   refine h (fun x=>x∈rs) (fun _ h=>h) fun g h1 c hl hc=>?_
   obtain ⟨i,hi,e⟩:=hg g h1
   exact Ey e hi hr c hl hc
 · exact Reach.row
theorem ur {gs:List (Nat×Int)}{rs:List Int}{g:ae} (hr:∀x∈rs,0≤x∧x < 2^8) (hn:rs.Nodup) (h0:rs≠[]) (hs:rs.Pairwise (· ≤ ·)) (hl:rs.length≤300) (hgl:gs.length≤8) (hg:∀g∈gs,g.1≤4∧∃i,i < g.1∧g.2=v9 g.1 i) :
 (dD rs.length gs→bD [.int 0,g,.int 8,dR rs,.list (gs.map dGp)] = .ok (.str "many"))∧(¬ dD rs.length gs→bD [.int 0,g,.int 8,dR rs,.list (gs.map dGp)] = .ok (bJ 8 rs)):=by
 have:=wU (w:=8) (g:=g) (La hr fun g h=>(hg g h).2) hn h0 hl (by decide) hgl (fun g h=>(hg g h).1) hr hl
 rw[RQ hs] at this
 exact this
theorem FP {ds:List ae}{j:Nat}:slD (.tuple ds) none (some ((j:Nat):Int)) = .ok (.tuple (ds.take j)):=by
 have:=yJ (ds:=ds) (j:=j)
 unfold slD at this ⊢
 injection this with this
 injection this with this
 show Res.ok (ae.tuple (cutD ds none (some ((j:Nat):Int))))=_
 rw[this]
noncomputable def bdE (c:Int) (g:ae) (n:Nat) (a b d e f:Option ae):Ev:=[some (.int c),some g,some (.int (n:Nat)),a,b,d,e,f]
theorem QR {c:Int} (hc0:0≤c):jz [.int c] = .ok (.bool true):=by
 have four:∃m n0:Nat,∃b:Int,0 < m∧m≤4∧b=v9 m 0∧0 < n0∧n0≤141∧ixD (.list [.tuple [.tuple [.int 3,.int 170],.int 27],.tuple [.tuple [.int 4,.int 43690],.int 11],.tuple [.tuple [.int 2,.int 10],.int 141],.tuple [.tuple [.int 1,.int 2],.int 128]]) (.int (c % 4)) = .ok (.tuple [dG m b,.int (n0:Nat)]):=by
  have h:c % 4=0∨c % 4=1∨c % 4=2∨c % 4=3:=by omega
  rcases h with h | h | h | h
  · rw[h];exact ⟨3,27,170,by decide,by decide,by decide +kernel,by decide,by decide,rfl⟩
  · rw[h];exact ⟨4,11,43690,by decide,by decide,by decide +kernel,by decide,by decide,rfl⟩
  · rw[h];exact ⟨2,141,10,by decide,by decide,by decide +kernel,by decide,by decide,rfl⟩
  · rw[h];exact ⟨1,128,2,by decide,by decide,by decide +kernel,by decide,by decide,rfl⟩
 obtain ⟨m,n0,b,hm0,hm,hb,hn0',hn',e⟩:=four
 obtain ⟨t,ht1,ht2⟩:∃t:Nat,t≤1∧c / 4 % 2=((t:Nat):Int):=by
  rcases r6 (c / 4) with h | h
  · exact ⟨0,by decide,by omega⟩
  · exact ⟨1,by decide,by omega⟩
 unfold jz
 rw[o4]
 show Res.bind (aN _ _ [some (.int c),none,none,none,none,none,none,none]) fin=_
 refine dM (Γ':=[some (.int c),some (dG m b),some (.int (n0:Nat)),none,none,none,none,none]) ?_ ?_
 · skip
   walk_at "go"
   rw[e]
   rfl
 refine dM (Γ':=(bdE c (dG m b) (n0+t) none none none none none)) ?_ ?_
 · skip
   unfold bdE
   walk_at "go"
   rw[ht2,r0]
 obtain ⟨n,hn0,hn,en⟩:∃n:Nat,0 < n∧n≤142∧n0+t=n:=⟨_,by omega,by omega,rfl⟩
 rw[en]
 clear en hn0' hn' e
 obtain ⟨k,hk1,hk2⟩:∃k:Nat,(k=1∨k=2)∧1+c / 8 % 2=((k:Nat):Int):=by
  have:=r6 (c / 8)
  rcases this with h | h
  · exact ⟨1,.inl rfl,by omega⟩
  · exact ⟨2,.inr rfl,by omega⟩
 have hR:∃R:List Int,R=srt (uX n (c / 64))∧R.Nodup∧R.length=n∧(∀x∈R,0≤x∧x < 2^8)∧R.Pairwise (· ≤ ·):=by
  refine ⟨_,rfl,(cB _).nodup_iff.mpr (O3 (by omega)),?_,fun x hx=>YK x (ir.mp hx),fL _⟩
  rw[(cB _).length_eq];unfold uX;rw[aw,dP]
 obtain ⟨R,eR,hRn,hRl,hRb,hRs⟩:=hR
 have hfi:∀c:List Int,c.length=m→(∀x∈c,x∈R)→cF b c 8∈R:=Ey hb hm0 hRb
 have ks:=Ce (gsD:=.list []) (w:=8) hk1 hm (show R.length≤256 by omega) (by decide) hfi
 rw[hRl] at ks
 have hR0:R≠[]:=fun z=>by rw[z] at hRl;exact absurd hRl (by show ¬ 0=n;omega)
 have sE:=ur (gs:=[]) (g:=dG m b) hRb hRn hR0 hRs (by omega) (by decide) (fun g h=>nomatch h)
 have sG:=ur (gs:=[(m,b)]) (g:=dG m b) hRb hRn hR0 hRs (by omega) (show 1≤8 by decide) (fun g h=>by rw[ba.mp h];exact ⟨hm,0,hm0,hb⟩)
 rw[hRl] at sE sG
 have cG1:dB n [(m,b)]=n^m:=by unfold dB;simp
 refine dM (Γ':=(bdE c (dG m b) n (some (dR R)) none none none none)) ?_ ?_
 · skip
   unfold bdE
   rw[o8,vC,sH,vC,sH,uB (n:=n) (fun k=>.int ((((k:Nat):Int)*37+c / 64) % 256)) ?_ (size_le (by omega)) fun i hi=>?_]
   · rw[show (cS n).map (fun k=>ae.int ((((k:Nat):Int)*37+c / 64) % 256))=(uX n (c / 64)).map ae.int by unfold uX;rw[lT];rfl]
     walk_at "ev"
     rw[u9 (by unfold uX;rw[aw,dP];omega),← eR]
     walk_at "ev"
     rfl
   · walk_at "ev"
     rw[gU (by omega)]
   · walk_at "go"
 refine dM (Γ':=(bdE c (dG m b) n (some (dR R)) (some (.int (k:Nat))) none none none)) ?_ ?_
 · skip
   unfold bdE
   walk_at "go"
   rw[hk2]
 refine dM (Γ':=(bdE c (dG m b) n (some (dR R)) (some (.int (k:Nat))) (some (fQ k)) none none)) ?_ ?_
 · skip
   unfold bdE
   rcases hk1 with rfl | rfl <;> rfl
 refine dM (Γ':=(bdE c (dG m b) n (some (dR R)) (some (.int (k:Nat))) (some (if 20000 < n^m then .str "many" else fQ k)) none none)) ?_ ?_
 · skip
   unfold bdE
   walk_at "ev"
   rw[zA (by omega) hm]
   walk_at "ev"
   by_cases h:20000 < n^m
   · rw[if_pos h,decide_eq_true (show (20000:Int) < ((n^m:Nat):Int) by omega)]
     walk_at "ev"
   · rw[if_neg h,decide_eq_false (show ¬ (20000:Int) < ((n^m:Nat):Int) by omega)]
     walk_at "ev"
 refine dM (Γ':=(bdE c (dG m b) n (some (dR R)) (some (.int (k:Nat))) (some (if 20000 < n^m then .str "many" else fQ k)) none none)) ?_ ?_
 · skip
   unfold bdE
   walk_at "ev"
   rw[show (ae.int 8) = .int ((8:Nat):Int) from rfl,ks]
   walk_at "ev"
   have:neD (if 20000 < n^m then .str "many" else fQ k) (if 20000 < n^m then .str "many" else fQ k) = .ok (.bool false):=by
    split
    · exact mQ
    · exact Hs
   rw[this]
   walk_at "ev"
 refine dM (Γ':=(bdE c (dG m b) n (some (dR R)) (some (.int (k:Nat))) (some (if 20000 < n^m then .str "many" else fQ k)) none none)) ?_ ?_
 · skip
   unfold bdE
   walk_at "ev"
   by_cases h:128 < n
   · rw[decide_eq_true (show (128:Int) < ((n:Nat):Int) by omega)]
     walk_at "ev"
     rw[show ae.list [] = .list (([]:List (Nat×Int)).map dGp) from rfl,sE.1 (.inl h)]
     walk_at "ev"
     rw[mQ]
     walk_at "ev"
   · rw[decide_eq_false (show ¬ (128:Int) < ((n:Nat):Int) by omega)]
     walk_at "ev"
 unfold bdE
 by_cases hG:128 < n∨20000 < n^m
 · have hG':dD n [(m,b)]:=hG.imp id fun h=>by rw[cG1];exact h
   walk_at "ev"
   by_cases h:128 < n
   · rw[decide_eq_true (show (128:Int) < ((n:Nat):Int) by omega)]
     walk_at "ev"
     rw[show ae.list [dG m b] = .list ([(m,b)].map dGp) from rfl,sG.1 hG']
     walk_at "ev"
     rw[Af]
     walk_at "ev"
   · rw[decide_eq_false (show ¬ (128:Int) < ((n:Nat):Int) by omega),if_pos (hG.resolve_left h)]
     walk_at "ev"
     rw[Af]
     walk_at "ev"
     rw[show ae.list [dG m b] = .list ([(m,b)].map dGp) from rfl,sG.1 hG']
     walk_at "ev"
     rw[Af]
     walk_at "ev"
 · have h1:¬ 128 < n:=fun z=>hG (.inl z)
   have h2:¬ 20000 < n^m:=fun z=>hG (.inr z)
   obtain ⟨j,hj1,hj2⟩:∃j:Nat,(j=100∨j=101)∧100+c / 32 % 2=((j:Nat):Int):=by
    rcases r6 (c / 32) with h | h
    · exact ⟨100,.inl rfl,by omega⟩
    · exact ⟨101,.inr rfl,by omega⟩
   obtain ⟨l,hl1,hl2⟩:∃l:Nat,(l=0∨l=1)∧c / 16 % 2=((l:Nat):Int):=by
    rcases r6 (c / 16) with h | h
    · exact ⟨0,.inl rfl,by omega⟩
    · exact ⟨1,.inr rfl,by omega⟩
   rw[if_neg h2]
   have esl:slD (dR R) none (some ((j:Nat):Int)) = .ok (dR (R.take j)):=by unfold dR;rw[FP,zC]
   have tl:(R.take j).length=min j n:=by rw[eA,hRl]
   have t0:R.take j≠[]:=fun z=>by rw[z] at tl;have:0=min j n:=tl;omega
   have sT:=ur (gs:=[(2,10),(2,12)]) (rs:=R.take j) (g:=dG m b) (fun x hx=>hRb x (nz hx)) (List.Sublist.nodup (x8 _ _) hRn) t0 (hRs.sublist (x8 _ _)) (by omega) (by decide) (fun g h=>by
    rcases be.mp h with rfl | h
    · exact ⟨by decide,0,by decide,by decide +kernel⟩
    · rw[ba.mp h];exact ⟨by decide,1,by decide,by decide +kernel⟩)
   have cT:dB (R.take j).length [(2,10),(2,12)]=(R.take j).length*(R.take j).length*2:=by unfold dB;simp[Nat.pow_two];omega
   have eT:∀q:Nat,q≤101→(20000 < q*q*2↔100 < q):=fun q hq=>by
    constructor
    · intro h
      refine AE fun z=>?_
      have:=BB z z
      omega
    · intro h
      have:q=101:=by omega
      subst this;decide
   have aaX:b8 [dR (R.take j)] = .ok (.int ((R.take j).length:Nat)):=by unfold dR;rw[lq,aw]
   have Zu:(R.take j).length≤101:=by omega
   have hGT:dD (R.take j).length [(2,10),(2,12)]↔100 < (R.take j).length:=by
    unfold dD
    rw[cT,eT _ Zu]
    omega
   refine dM (Γ':=[some (.int c),some (dG m b),some (.int (n:Nat)),some (dR R),some (.int (k:Nat)),some (fQ k),none,none]) ?_ ?_
   · skip
     walk_at "ev"
     rw[decide_eq_false (show ¬ (128:Int) < ((n:Nat):Int) by omega)]
     walk_at "ev"
     rw[OJ]
     walk_at "ev"
   refine dM (Γ':=[some (.int c),some (dG m b),some (.int (n:Nat)),some (dR R),some (.int (k:Nat)),some (fQ k),some (dR (R.take j)),none]) ?_ ?_
   · skip
     walk_at "go"
     rw[hj2,esl]
     walk_at "ev"
   refine dM (Γ':=[some (.int c),some (dG m b),some (.int (n:Nat)),some (dR R),some (.int (k:Nat)),some (fQ k),some (dR (R.take j)),some (.str "many")]) ?_ ?_
   · skip
     walk_at "ev"
   refine dM (Γ':=[some (.int c),some (dG m b),some (.int (n:Nat)),some (dR R),some (.int (k:Nat)),some (fQ k),some (dR (R.take j)),some (if 100 < (R.take j).length then .str "many" else bJ 8 (R.take j))]) ?_ ?_
   · skip
     walk_at "ev"
     rw[aaX]
     walk_at "ev"
     by_cases h:100 < (R.take j).length
     · rw[if_pos h,decide_eq_false (show ¬ (((R.take j).length:Nat):Int)≤100 by omega)]
       walk_at "ev"
     · rw[if_neg h,decide_eq_true (show (((R.take j).length:Nat):Int)≤100 by omega)]
       walk_at "ev"
       rfl
   refine dM (Γ':=[some (.int c),some (dG m b),some (.int (n:Nat)),some (dR R),some (.int (k:Nat)),some (fQ k),some (dR (R.take j)),some (if 100 < (R.take j).length then .str "many" else bJ 8 (R.take j))]) ?_ ?_
   · skip
     walk_at "ev"
     rw[show ae.list [.tuple [.int 2,.int 10],.tuple [.int 2,.int 12]] = .list ([((2:Nat),(10:Int)),(2,12)].map dGp) from rfl]
     by_cases h:100 < (R.take j).length
     · rw[if_pos h,sT.1 (hGT.mpr h)]
       walk_at "ev"
       rw[mQ]
       walk_at "ev"
     · rw[if_neg h,sT.2 fun z=>h (hGT.mp z)]
       walk_at "ev"
       rw[DN]
       walk_at "ev"
   walk_at "ev"
   by_cases h:n < 128
   · rw[decide_eq_true (show ((n:Nat):Int) < 128 by omega)]
     walk_at "ev"
   · rw[decide_eq_false (show ¬ ((n:Nat):Int) < 128 by omega)]
     walk_at "go"
     rw[hl2]
     have eg:slD (.list [dG m b]) none (some ((l:Nat):Int)) = .ok (.list (([(m,b)].take l).map dGp)):=by rw[yJ,zC];rfl
     rw[eg]
     walk_at "ev"
     have:bD [.int 0,dG m b,.int 8,dR R,.list (([(m,b)].take l).map dGp)] = .ok (bJ 8 R):=by
      rcases hl1 with rfl | rfl
      · exact sE.2 fun z=>by
         rcases z with z | z
         · omega
         · exact absurd z (by show ¬ 20000 < 0;decide)
      · exact sG.2 fun z=>by
         rcases z with z | z
         · omega
         · rw[cG1] at z;omega
     rw[this]
     walk_at "ev"
     rw[show ae.tuple [.int 8,dR R]=bJ 8 R from rfl,Ws]
     walk_at "ev"
theorem Az {w:Nat}:∀{P:List Nat},(∀p∈P,p < w)→bA P=qj w P
 | [],_=>rfl
 | p::P,h=>by
  have:=Az (P:=P) fun q hq=>h q (bg _ hq)
  unfold bA qj at this ⊢
  rw[dk,dk,this,HW (h p b5)]
theorem Xp {w:Nat}{F:Nat→Bool}:0≤cA w F∧cA w F < 2^w:=⟨rZ fun _=>m9 _,Dq fun _=>m9 _⟩
noncomputable def lwE (ns:List Int) (c:Int) (w:Nat) (q:Option ae) (p:Option ae) (r:List (Option ae)):Ev:=some (dL ns)::some (.int c)::some (.int (w:Nat))::q::p::none::r
theorem Oj {i j:Nat}{c n y:Int}{m:ME}{Γ:Ev}{ds es:List ae} (hm:m Γ = .ok (.int n)) (hi:gv Γ i=some (.list ds)) (hj:gv Γ j=some (.list es)) (hy:es[n.toNat]?=some (.int y)) (hg:0≤n∧n < 1000000∧pW c y∧ds.length < bp∧i < Γ.length∧j < Γ.length) :
 oN i j c m Γ = .ok (.nx ((Γ.set j (some (.list (es.eraseIdx n.toNat)))).set i (some (.list (ds++[.int (c*2^y.toNat)]))))):=by
 unfold oN
 rw[hm,Res.bz,hi,hj]
 show (match es[n.toNat]? with
  | some (.int y)=>gd (0≤n∧n < 1000000∧pW c y∧ds.length < bp∧i < Γ.length∧j < Γ.length) (.ok (Out.nx ((Γ.set j (some (.list (es.eraseIdx n.toNat)))).set i (some (.list (ds++[ae.int (c*2^y.toNat)]))))))
  | _=>.bad)=_
 rw[hy]
 exact cj hg
theorem jF {Q:List Nat}{k:Nat} (hk:k < Q.length):(Q[k]::Q.eraseIdx k).Perm Q:=by
 rw[oa]
 have e:Q=Q.take k++Q[k]::Q.drop (k+1):=by rw[ti,fw]
 exact (List.perm_middle.symm).trans (by rw[← e])
theorem drawn {ns:List Int}{c:Int}{w N:Nat}{r:List (Option ae)} (hw:w≤16) (hN:N≤w) (hN8:(if 1+c / 16 % 8 < ((w:Nat):Int) then 1+c / 16 % 8 else ((w:Nat):Int))=((N:Nat):Int)) :
 Goes (gF (jl (eFn minD [(aj 2),(aq bI (eC (.int 1)) (aq fW (aq gM (aj 1) (eC (.int 16))) (eC (.int 8))))])) (gN 5) [5] (oN 4 3 1 (aq fW (aX dz [(aj 0),(aq bI (eC (.int 1)) (aj 5))]) (eFn b8 [(aj 3)]))) (lwE ns c w (some (.list (upN w))) (some (dL (bA []))) r))
  (fun Γ=>∃P Q:List Nat,Γ=lwE ns c w (some (.list (dN Q))) (some (dL (bA P))) r∧P.Nodup∧P.length=N∧∀p∈P,p < w):=by
 have it:jl (eFn minD [(aj 2),(aq bI (eC (.int 1)) (aq fW (aq gM (aj 1) (eC (.int 16))) (eC (.int 8))))]) (lwE ns c w (some (.list (upN w))) (some (dL (bA []))) r) = .ok (upN N):=by
  unfold lwE
  walk_at "go"
  show Res.bind (Res.ok (ae.int (if 1+c / 16 % 8 < ((w:Nat):Int) then 1+c / 16 % 8 else ((w:Nat):Int)))) _=_
  rw[hN8,Res.bz,gU (by omega)]
 rw[rR,it,Res.bz]
 obtain ⟨Γ',e,P,Q,h1,h2,h3,h4,h5,h6⟩:=xx (g:=gN 5) (cl:=[5]) (b:=oN 4 3 1 (aq fW (aX dz [(aj 0),(aq bI (eC (.int 1)) (aj 5))]) (eFn b8 [(aj 3)]))) (fun i Γ=>∃P Q:List Nat,Γ=lwE ns c w (some (.list (dN Q))) (some (dL (bA P))) r∧P.Nodup∧P.length=i∧Q.length+i=w∧(P++Q).Nodup∧∀p∈P++Q,p < w) (xs:=upN N) (Γ:=lwE ns c w (some (.list (upN w))) (some (dL (bA []))) r)
  ⟨[],cS w,rfl,Bi,rfl,by simp,by simpa using AC,fun p hp=>by simpa using hp⟩ (fun i x Γ hx hI=>by
   obtain ⟨P,Q,rfl,h2,h3,h4,h5,h6⟩:=hI
   obtain ⟨hi,rfl⟩:=mH hx
   obtain ⟨z,z0,_,ez⟩:=yS ns (k:=1+i) (by omega)
   have hQ:0 < Q.length:=by omega
   have hk:(z % ((Q.length:Nat):Int)).toNat < Q.length:=by
    have:=mM z (show (0:Int) < ((Q.length:Nat):Int) by omega)
    have:=pj z (show ((Q.length:Nat):Int)≠0 by omega)
    omega
   have hz0:=pj z (show ((Q.length:Nat):Int)≠0 by omega)
   have hz1:=mM z (show (0:Int) < ((Q.length:Nat):Int) by omega)
   generalize hkk:(z % ((Q.length:Nat):Int)).toNat=k at hk
   have hq:Q[k] < w:=h6 _ (cK _ (e8 hk))
   have em:(aq fW (aX dz [(aj 0),(aq bI (eC (.int 1)) (aj 5))]) (eFn b8 [(aj 3)])) (some (dL ns)::some (.int c)::some (.int (w:Nat))::some (.list (dN Q))::some (dL (bA P))::some (.int (i:Nat))::r) = .ok (.int (z % ((Q.length:Nat):Int))):=by
    walk_at "ev"
    rw[show (1:Int)+((i:Nat):Int)=((1+i:Nat):Int) by omega,ez]
    walk_at "ev"
    rw[show (dN Q).length=Q.length by unfold dN;rw[aw]]
    walk_at "go"
   refine ⟨lwE ns c w (some (.list (dN (Q.eraseIdx k)))) (some (dL (bA (P++[Q[k]])))) r,?_,P++[Q[k]],Q.eraseIdx k,rfl,?_,?_,?_,?_,?_⟩
   · unfold lwE
     rw[yo]
     show Res.bind (Res.bind (.ok (some (dL ns)::some (.int c)::some (.int (w:Nat))::some (.list (dN Q))::some (dL (bA P))::some (.int (i:Nat))::r)) _) _=_
     rw[Res.bz]
     have hPl:((bA P).map ae.int).length=i:=by unfold bA;rw[aw,aw,h3]
     rw[Oj (y:=((Q[k]:Nat):Int)) (ds:=(bA P).map ae.int) (es:=dN Q) em rfl rfl (by rw[hkk];unfold dN;rw[cn,aS hk];rfl) ⟨hz0,by omega,by unfold pW;exact ⟨by omega,by omega,by decide⟩,by rw[hPl];exact size_le (by omega),by simp,by simp⟩,hkk]
     show Res.ok (Out.nx (some (dL ns)::some (.int c)::some (.int (w:Nat))::some (.list ((dN Q).eraseIdx k))::some (.list ((bA P).map ae.int++[.int (1*2^Q[k])]))::none::r))=_
     rw[Int.one_mul,show (dN Q).eraseIdx k=dN (Q.eraseIdx k) by unfold dN;rw[oa,oa,fe,zC,List.map_drop],show (bA P).map ae.int++[.int (2^Q[k])]=(bA (P++[Q[k]])).map ae.int by unfold bA;rw[fe,fe];rfl]
     rfl
   · have:=ip.mp h5
     exact ip.mpr ⟨this.1,by simp,fun a ha b hb=>by rw[ba] at hb;subst hb;exact this.2.2 a ha _ (e8 hk)⟩
   · rw[ay,h3];rfl
   · rw[List.length_eraseIdx,if_pos hk];omega
   · have h7:=ip.mp h5
     have hp:(Q[k]::Q.eraseIdx k).Perm Q:=jF hk
     rw[eB]
     refine ip.mpr ⟨h7.1,hp.nodup_iff.mpr h7.2.1,fun a ha b hb=>h7.2.2 a ha b (hp.mem_iff.mp hb)⟩
   · intro p hp
     have hp2:(Q[k]::Q.eraseIdx k).Perm Q:=jF hk
     rw[eB] at hp
     refine h6 p ?_
     rcases fy.mp hp with h | h
     · exact fA _ h
     · exact cK _ (hp2.mem_iff.mp h))
 refine ⟨Γ',e,P,Q,h1,h2,?_,fun p hp=>h6 p (fA _ hp)⟩
 rw[h3,iM]
noncomputable def nn7:List (Option ae):=[none,none,none,none,none,none,none]
noncomputable def lA:ae:=.list (uGs.map dGp)
theorem X7 {ns:List Int}{c:Int}{w n:Nat}{q p:ae} (hn:n≤6) (hc:c / 128 % 7=((n:Nat):Int)) :
 Goes (gF (jl (aq fW (aq gM (aj 1) (eC (.int 128))) (eC (.int 7)))) (gN 5) [5] (um 7 (aq ixD (aj 6) (aq fW (aq gM (aX dz [(aj 0),(aq bI (eC (.int 10)) (aj 5))]) (eC (.int 3))) (eC (.int 7))))) (lwE ns c w (some q) (some p) (some lA::some (.list (([]:List (Nat×Int)).map dGp))::nn7)))
  (fun Γ=>∃gs:List (Nat×Int),Γ=lwE ns c w (some q) (some p) (some lA::some (.list (gs.map dGp))::nn7)∧gs.length=n∧∀g∈gs,g∈uGs):=by
 have it:jl (aq fW (aq gM (aj 1) (eC (.int 128))) (eC (.int 7))) (lwE ns c w (some q) (some p) (some lA::some (.list (([]:List (Nat×Int)).map dGp))::nn7)) = .ok (upN n):=by
  unfold lwE
  walk_at "go"
  rw[hc,gU (by omega)]
 rw[rR,it,Res.bz]
 obtain ⟨Γ',e,gs,h1,h2,h3⟩:=xx (g:=gN 5) (cl:=[5]) (b:=um 7 (aq ixD (aj 6) (aq fW (aq gM (aX dz [(aj 0),(aq bI (eC (.int 10)) (aj 5))]) (eC (.int 3))) (eC (.int 7))))) (fun i Γ=>∃gs:List (Nat×Int),Γ=lwE ns c w (some q) (some p) (some lA::some (.list (gs.map dGp))::nn7)∧gs.length=i∧∀g∈gs,g∈uGs) (xs:=upN n) (Γ:=lwE ns c w (some q) (some p) (some lA::some (.list (([]:List (Nat×Int)).map dGp))::nn7))
  ⟨[],rfl,rfl,fun g hg=>nomatch hg⟩ (fun i x Γ hx hI=>by
   obtain ⟨gs,rfl,h2,h3⟩:=hI
   obtain ⟨hi,rfl⟩:=mH hx
   obtain ⟨z,z0,_,ez⟩:=yS ns (k:=10+i) (by omega)
   have hk:(z / 3 % 7).toNat < uGs.length:=by show _ < 7;omega
   have hz:z / 3 % 7=(((z / 3 % 7).toNat:Nat):Int):=by omega
   refine ⟨lwE ns c w (some q) (some p) (some lA::some (.list ((gs++[uGs[(z / 3 % 7).toNat]]).map dGp))::nn7),?_,gs++[uGs[(z / 3 % 7).toNat]],rfl,by rw[ay,h2];rfl,fun g hg=>?_⟩
   · have ei:ixD lA (.int (z / 3 % 7)) = .ok (dGp uGs[(z / 3 % 7).toNat]):=by
      refine (congrArg (fun z=>ixD lA (ae.int z)) hz).trans (pR ?_)
      rw[cn,aS (by omega)]
      rfl
     unfold lwE nn7
     walk_at "ev"
     rw[show (10:Int)+((i:Nat):Int)=((10+i:Nat):Int) by omega,ez]
     walk_at "go"
     rw[ei]
     walk_at "go"
     rw[fe]
     rfl
   · rcases fy.mp hg with h | h
     · exact h3 g h
     · rw[ba.mp h];exact e8 _)
 refine ⟨Γ',e,gs,h1,?_,h3⟩
 rw[h2,iM]
theorem Ho {n:Nat}:∀{gs:List (Nat×Int)},(gs.map fun g=>((n^g.1:Nat):Int)).sum=((dB n gs:Nat):Int)
 | []=>rfl
 | g::gs=>by
  have:=Ho (n:=n) (gs:=gs)
  unfold dB at this ⊢
  rw[dk,pV,this,dk,pV,r0]
noncomputable def lw2 (ns:List Int) (c:Int) (w:Nat) (q p:ae) (gs:List (Nat×Int)) (a8 a9 a10 a11 a12 a13 a14:Option ae):Ev:=[some (dL ns),some (.int c),some (.int (w:Nat)),some q,some p,none,some lA,some (.list (gs.map dGp)),a8,a9,a10,a11,a12,a13,a14]
theorem main (ns:List Int) (h:ns.length≤63):rG [.list (ns.map ae.int)] = .ok (.bool true):=by
 show rG [dL ns]=_
 obtain ⟨c,c0,_,ec⟩:=yS ns (k:=0) (by decide)
 obtain ⟨w,hw2,hw,ew⟩:∃w:Nat,2≤w∧w≤16∧2+c % 15=((w:Nat):Int):=⟨(2+c % 15).toNat,by omega,by omega,by omega⟩
 obtain ⟨N,hN0,hNw,hN8,eN⟩:∃N:Nat,0 < N∧N≤w∧N≤8∧(if 1+c / 16 % 8 < ((w:Nat):Int) then 1+c / 16 % 8 else ((w:Nat):Int))=((N:Nat):Int):=by
  by_cases hh:1+c / 16 % 8 < ((w:Nat):Int)
  · exact ⟨(1+c / 16 % 8).toNat,by omega,by omega,by omega,by rw[if_pos hh];omega⟩
  · exact ⟨w,by omega,by omega,by omega,by rw[if_neg hh]⟩
 obtain ⟨n,hn6,en⟩:∃n:Nat,n≤6∧c / 128 % 7=((n:Nat):Int):=⟨(c / 128 % 7).toNat,by omega,by omega⟩
 obtain ⟨k,hk1,hk2⟩:∃k:Nat,(k=1∨k=2)∧1+c / 1024 % 2=((k:Nat):Int):=by
  rcases r6 (c / 1024) with h | h
  · exact ⟨1,.inl rfl,by omega⟩
  · exact ⟨2,.inr rfl,by omega⟩
 unfold rG
 rw[o4]
 show Res.bind (aN _ _ [some (dL ns),none,none,none,none,none,none,none,none,none,none,none,none,none,none]) fin=_
 refine dM (Γ':=[some (dL ns),some (.int c),none,none,none,none,none,none,none,none,none,none,none,none,none]) ?_ ?_
 · skip
   walk_at "ev"
   rw[show (ae.int 0) = .int ((0:Nat):Int) from rfl,ec]
   walk_at "ev"
 refine dM (Γ':=[some (dL ns),some (.int c),some (.int (w:Nat)),none,none,none,none,none,none,none,none,none,none,none,none]) ?_ ?_
 · skip
   walk_at "go"
   rw[ew]
 refine dM (Γ':=[some (dL ns),some (.int c),some (.int (w:Nat)),some (.list (upN w)),none,none,none,none,none,none,none,none,none,none,none]) ?_ ?_
 · skip
   rw[o8,uB (n:=w) (fun k=>.int ((k:Nat):Int)) ?_ (size_le (by omega)) fun i hi=>?_]
   · rfl
   · walk_at "ev"
     rw[gU (by omega)]
   · walk_at "ev"
 refine dM (Γ':=(lwE ns c w (some (.list (upN w))) (some (dL (bA []))) [none,none,none,none,none,none,none,none,none])) rfl ?_
 obtain ⟨Γ',s5,P,Q,rfl,hPn,hPl,hPw⟩:=drawn (ns:=ns) (c:=c) (w:=w) (N:=N) (r:=[none,none,none,none,none,none,none,none,none]) hw hNw eN
 refine dM s5 ?_
 refine dM (Γ':=(lwE ns c w (some (.list (dN Q))) (some (dL (bA P))) [some lA,none,none,none,none,none,none,none,none])) rfl ?_
 refine dM (Γ':=(lwE ns c w (some (.list (dN Q))) (some (dL (bA P))) (some lA::some (.list (([]:List (Nat×Int)).map dGp))::nn7))) rfl ?_
 obtain ⟨Γ',s8,gs,rfl,hgl,hgu⟩:=X7 (ns:=ns) (c:=c) (w:=w) (n:=n) (q:=.list (dN Q)) (p:=dL (bA P)) hn6 en
 refine dM s8 ?_
 have hgm:∀g∈gs,g.1≤4:=fun g hg=>by
  have:=hgu g hg
  unfold uGs at this
  simp only[be,List.not_mem_nil,or_false] at this
  rcases this with rfl | rfl | rfl | rfl | rfl | rfl | rfl <;> decide
 have Te:=Az hPw
 have ePl:(bA P).length=P.length:=by unfold bA;rw[aw]
 have hdl:kJ [.int (w:Nat),dL (bA P),.list (gs.map dGp)] = .ok (dR (srt (qK w P (jw gs) gs))):=Y5 (by omega) hPw hw (by omega)
 have hD:∀x,x∈qK w P (jw gs) gs↔Reach gs w (qj w P) x:=Vb hPn hgu
 have hDn:(qK w P (jw gs) gs).Nodup:=Kp
 have hDl:(qK w P (jw gs) gs).length≤257:=Dj (by omega)
 generalize qK w P (jw gs) gs=D at hdl hD hDn hDl
 have hrb:∀x∈qj w P,0≤x∧x < 2^w:=fun x hx=>by
  obtain ⟨p,_,rfl⟩:=eh.mp hx
  exact Xp
 have hDb:∀x∈D,0≤x∧x < 2^w:=fun x hx=>(hD x).mp hx (fun x=>0≤x∧x < 2^w) hrb fun g _ c _ _=>⟨qF,Ab⟩
 have hD0:D≠[]:=by
  obtain ⟨p,hp⟩:∃p,p∈P:=⟨P[0],e8 (by omega)⟩
  exact List.ne_nil_of_mem ((hD _).mpr (Reach.row (eh.mpr ⟨p,hp,rfl⟩)))
 have hSl:(srt D).length=D.length:=(cB D).length_eq
 have hSn:(srt D).Nodup:=(cB D).nodup_iff.mpr hDn
 have Lb:b8 [dR (srt D)] = .ok (.int (D.length:Nat)):=by unfold dR;rw[lq,aw,hSl]
 have r1:∀x,Reach gs w (srt (bA P)) x↔x∈D:=fun x=>by
  rw[hD,Te]
  exact ⟨fun z=>z.mono (fun r hr=>Reach.row (ir.mp hr)) fun _ h=>h,fun z=>z.mono (fun r hr=>Reach.row (ir.mpr hr)) fun _ h=>h⟩
 have r2:∀x,Reach gs w (srt D) x↔x∈D:=fun x=>by
  refine ⟨fun z=>(hD x).mpr (z.mono (fun r hr=>(hD r).mp (ir.mp hr)) fun _ h=>h),fun z=>Reach.row (ir.mpr z)⟩
 have sa:=wU (g:=.tuple [.int 1,.int 2]) r1 hDn hD0 (by omega) (by omega) (by omega) hgm (fun r hr=>hrb r (by rw[← Te];exact ir.mp hr)) (by rw[(cB _).length_eq,ePl];omega)
 have sb:=wU (g:=.tuple [.int 1,.int 2]) r2 hDn hD0 (by omega) (by omega) (by omega) hgm (fun r hr=>hDb r (ir.mp hr)) (by omega)
 have fD:∃F:ae,F=(if 128 < D.length∨20000 < dB D.length gs then .str "many" else bJ w (srt D))∧bD [.int 0,.tuple [.int 1,.int 2],.int (w:Nat),dR (srt (bA P)),.list (gs.map dGp)] = .ok F∧bD [.int 0,.tuple [.int 1,.int 2],.int (w:Nat),dR (srt D),.list (gs.map dGp)] = .ok F∧neD F F = .ok (.bool false):=by
  by_cases hG:128 < D.length∨20000 < dB D.length gs
  · refine ⟨_,rfl,?_,?_,?_⟩
    · rw[if_pos hG];exact sa.1 hG
    · rw[if_pos hG];exact sb.1 hG
    · rw[if_pos hG];exact mQ
  · refine ⟨_,rfl,?_,?_,?_⟩
    · rw[if_neg hG];exact sa.2 hG
    · rw[if_neg hG];exact sb.2 hG
    · rw[if_neg hG];exact DN
 obtain ⟨F,eF,fa,fb,fc⟩:=fD
 show Res.bind (aN _ _ (lw2 ns c w (.list (dN Q)) (dL (bA P)) gs none none none none none none none)) fin=_
 refine dM (Γ':=(lw2 ns c w (.list (dN Q)) (dL (bA P)) gs (some (dR (srt (bA P)))) none none none none none none)) ?_ ?_
 · skip
   unfold lw2
   walk_at "ev"
   rw[show q9 [dL (bA P)]=_ from u9 (by rw[ePl];omega)]
   walk_at "ev"
   rfl
 refine dM (Γ':=(lw2 ns c w (.list (dN Q)) (dL (bA P)) gs (some (dR (srt (bA P)))) (some (dR (srt D))) none none none none none)) ?_ ?_
 · skip
   unfold lw2
   walk_at "ev"
   rw[hdl]
   walk_at "ev"
 refine dM (Γ':=(lw2 ns c w (.list (dN Q)) (dL (bA P)) gs (some (dR (srt (bA P)))) (some (dR (srt D))) (some (.int (dB D.length gs:Nat))) none none none none)) ?_ ?_
 · skip
   unfold lw2
   rw[o8,vC,sH,uC (xs:=gs) dGp (fun g=>.int ((D.length^g.1:Nat):Int)) ?_ (size_le (by omega)) fun g hg=>?_]
   · rw[Res.bz,HQ,Res.bz,Res.bz,show gs.map (fun g=>ae.int ((D.length^g.1:Nat):Int))=(gs.map fun g=>((D.length^g.1:Nat):Int)).map ae.int by rw[lT];rfl,Cg,Ho]
     walk_at "ev"
   · walk_at "ev"
   · walk_at "ev"
     rw[Lb]
     walk_at "ev"
     rw[zA (by omega) (hgm g hg)]
 refine dM (Γ':=(lw2 ns c w (.list (dN Q)) (dL (bA P)) gs (some (dR (srt (bA P)))) (some (dR (srt D))) (some (.int (dB D.length gs:Nat))) (some F) none none none)) ?_ ?_
 · skip
   unfold lw2
   walk_at "ev"
   rw[fa]
   walk_at "ev"
 refine dM (Γ':=(lw2 ns c w (.list (dN Q)) (dL (bA P)) gs (some (dR (srt (bA P)))) (some (dR (srt D))) (some (.int (dB D.length gs:Nat))) (some F) none none none)) ?_ ?_
 · skip
   unfold lw2
   walk_at "ev"
   rw[Lb]
   walk_at "ev"
   by_cases h1:128 < D.length
   · rw[decide_eq_true (show (128:Int) < ((D.length:Nat):Int) by omega),eF,if_pos (.inl h1)]
     walk_at "ev"
     rw[mQ]
     walk_at "ev"
   · rw[decide_eq_false (show ¬ (128:Int) < ((D.length:Nat):Int) by omega)]
     walk_at "ev"
     by_cases h2:20000 < dB D.length gs
     · rw[decide_eq_true (show (20000:Int) < ((dB D.length gs:Nat):Int) by omega),eF,if_pos (.inr h2)]
       walk_at "ev"
       rw[mQ]
       walk_at "ev"
     · rw[decide_eq_false (show ¬ (20000:Int) < ((dB D.length gs:Nat):Int) by omega),eF,if_neg (fun z=>z.elim h1 h2)]
       walk_at "ev"
       rw[show ae.tuple [.int (w:Nat),dR (srt D)]=bJ w (srt D) from rfl,DN]
       walk_at "ev"
 refine dM (Γ':=(lw2 ns c w (.list (dN Q)) (dL (bA P)) gs (some (dR (srt (bA P)))) (some (dR (srt D))) (some (.int (dB D.length gs:Nat))) (some F) none none none)) ?_ ?_
 · skip
   unfold lw2
   walk_at "ev"
   rw[Lb]
   walk_at "ev"
   by_cases h1:D.length≤256
   · rw[decide_eq_true (show ((D.length:Nat):Int)≤256 by omega)]
     walk_at "ev"
     rw[fb]
     walk_at "ev"
     rw[fc]
     walk_at "ev"
   · rw[decide_eq_false (show ¬ ((D.length:Nat):Int)≤256 by omega)]
     walk_at "ev"
 refine dM (Γ':=(lw2 ns c w (.list (dN Q)) (dL (bA P)) gs (some (dR (srt (bA P)))) (some (dR (srt D))) (some (.int (dB D.length gs:Nat))) (some F) none none none)) ?_ ?_
 · skip
   have it:itL (eSl (aj 7) vY (vP (eC (.int 1)))) (lw2 ns c w (.list (dN Q)) (dL (bA P)) gs (some (dR (srt (bA P)))) (some (dR (srt D))) (some (.int (dB D.length gs:Nat))) (some F) none none none) = .ok ((gs.take 1).map dGp):=by
    unfold lw2
    walk_at "ev"
    rw[show slD (.list (gs.map dGp)) none (some 1)=_ from yJ (j:=1)]
    walk_at "ev"
    rw[zC]
   rw[rR,it,Res.bz]
   refine (Iw (fun _=>lw2 ns c w (.list (dN Q)) (dL (bA P)) gs (some (dR (srt (bA P)))) (some (dR (srt D))) (some (.int (dB D.length gs:Nat))) (some F) none none none) rfl fun i x hx=>?_)
   obtain ⟨g,eg,rfl⟩:=jD hx
   have hg:g∈gs:=nz (fE eg)
   have Wo:=hgm g hg
   unfold lw2
   walk_at "ev"
   rw[Lb]
   walk_at "ev"
   by_cases h1:D.length≤256
   · rw[decide_eq_true (show ((D.length:Nat):Int)≤256 by omega)]
     walk_at "ev"
     rw[show qQ (.tuple [.int 2,.int 8]) (.list (gs.map dGp))=_ from Rz (h:=(2,8))]
     walk_at "ev"
     by_cases h8:(2,8)∈gs
     · rw[decide_eq_true h8]
       walk_at "ev"
     · rw[decide_eq_false h8]
       walk_at "go"
       rw[hk2]
       have et:ixD (.list [.bool true,.list [.none]]) (.int (((k:Nat):Int) - 1)) = .ok (fQ k):=by rcases hk1 with rfl | rfl <;> rfl
       rw[et]
       walk_at "ev"
       rw[zA (by omega) Wo]
       walk_at "ev"
       have hcl:∀c:List Int,c.length=g.1→(∀x∈c,x∈srt D)→cF g.2 c w∈srt D:=fun c hl hc=>ir.mpr ((hD _).mpr (Reach.step hg hl fun x hx=>(hD x).mp (ir.mp (hc x hx))))
       have ks:=Ce (gsD:=.list []) (w:=w) hk1 Wo (show (srt D).length≤256 by omega) (by omega) hcl
       rw[hSl] at ks
       by_cases hp:20000 < D.length^g.1
       · rw[decide_eq_true (show (20000:Int) < ((D.length^g.1:Nat):Int) by omega)]
         rw[if_pos hp] at ks
         walk_at "ev"
         rw[show bD [.int (k:Nat),dGp g,.int (w:Nat),dR (srt D),.list []]=_ from ks]
         walk_at "ev"
         rw[mQ]
         walk_at "ev"
       · rw[decide_eq_false (show ¬ (20000:Int) < ((D.length^g.1:Nat):Int) by omega)]
         rw[if_neg hp] at ks
         walk_at "ev"
         rw[show bD [.int (k:Nat),dGp g,.int (w:Nat),dR (srt D),.list []]=_ from ks]
         walk_at "ev"
         rw[Hs]
         walk_at "ev"
   · rw[decide_eq_false (show ¬ ((D.length:Nat):Int)≤256 by omega)]
     walk_at "ev"
 obtain ⟨z,z0,_,ez⟩:=yS ns (k:=20) (by decide)
 unfold lw2
 walk_at "ev"
 rw[show (ae.int 20) = .int ((20:Nat):Int) from rfl,ez]
 walk_at "ev"
 rw[QR z0]
 walk_at "ev"
end Law
namespace Law
open PySem PySem.Spec PyProof.Rows L2 L3 Prog
noncomputable def top (i:Nat):Stmt:=PySem.Challenge.pw_gatekin_k25_closed_too_great.main.body.getD i (.Pass ⟨0,0,0,0⟩)
noncomputable abbrev jd:Stmt:=top 11
noncomputable abbrev vN:Stmt:=top 12
noncomputable abbrev kZ:Stmt:=top 13
noncomputable abbrev jO:Stmt:=top 17
noncomputable abbrev mq:Stmt:=top 18
noncomputable abbrev jP:Stmt:=top 19
noncomputable abbrev oW:Stmt:=top 20
noncomputable abbrev iC:Stmt:=top 21
noncomputable abbrev jL:Stmt:=top 22
noncomputable abbrev j9:Stmt:=top 23
noncomputable abbrev mD:Stmt:=top 24
noncomputable abbrev gG:Stmt:=top 25
noncomputable abbrev ik:Stmt:=top 26
noncomputable abbrev dC:Stmt:=top 27
noncomputable abbrev km:Stmt:=top 28
noncomputable abbrev jC:Stmt:=top 30
noncomputable abbrev ji:Stmt:=top 31
noncomputable abbrev iB:Stmt:=top 32
noncomputable abbrev kE:Stmt:=top 33
noncomputable abbrev jh:Stmt:=top 34
noncomputable abbrev jN:Stmt:=top 35
noncomputable abbrev iD:Stmt:=top 36
noncomputable abbrev oF:Stmt:=top 37
theorem lO:bL ["inputs", "count", "j"] ["inputs"] (aC jd):=⟨rfl,rfl,rfl,by decide +kernel,rfl,by decide +kernel,by decide +kernel⟩
theorem Ye:bL ["number", "place"] ["number", "place"] (aC vN):=⟨rfl,rfl,rfl,by decide +kernel,rfl,by decide +kernel,by decide +kernel⟩
theorem oJ:bL ["gate", "numbers", "full", "given", "number"] ["gate", "numbers", "full"] (aC kZ):=⟨rfl,rfl,rfl,by decide +kernel,rfl,by decide +kernel,by decide +kernel⟩
theorem Gx:bL ["width", "rows"] ["width", "rows"] (aC jO):=⟨rfl,rfl,rfl,by decide +kernel,rfl,by decide +kernel,by decide +kernel⟩
theorem vd:bL ["rows", "marks", "row"] ["rows"] (aC mq):=⟨rfl,rfl,rfl,by decide +kernel,rfl,by decide +kernel,by decide +kernel⟩
theorem GF:bL ["gate", "rows", "width"] ["gate", "rows", "width"] (aC jP):=⟨rfl,rfl,rfl,by decide +kernel,rfl,by decide +kernel,by decide +kernel⟩
theorem tW:bL ["base", "exponent", "product", "j"] ["base", "exponent"] (aC oW):=⟨rfl,rfl,rfl,by decide +kernel,rfl,by decide +kernel,by decide +kernel⟩
theorem Cv:bL ["count", "gates"] ["count", "gates"] (aC iC):=⟨rfl,rfl,rfl,by decide +kernel,rfl,by decide +kernel,by decide +kernel⟩
theorem gW:bL ["choices", "lists", "rows", "longer", "chosen", "row"] ["choices"] (aC jL):=⟨rfl,rfl,rfl,by decide +kernel,rfl,by decide +kernel,by decide +kernel⟩
theorem iH:bL ["gate", "relation", "width", "rows", "marks", "chosen"] ["gate", "relation"] (aC j9):=⟨rfl,rfl,rfl,by decide +kernel,rfl,by decide +kernel,by decide +kernel⟩
theorem Fy:bL ["gate", "relation"] ["gate", "relation"] (aC mD):=⟨rfl,rfl,rfl,by decide +kernel,rfl,by decide +kernel,by decide +kernel⟩
theorem mz:bL ["old", "fresh", "length", "lists", "place"] ["old", "fresh", "length"] (aC gG):=⟨rfl,rfl,rfl,by decide +kernel,rfl,by decide +kernel,by decide +kernel⟩
theorem j4:bL ["gates", "old", "fresh", "width", "rows", "gate", "chosen"] ["gates", "old", "fresh", "width"] (aC ik):=⟨rfl,rfl,rfl,by decide +kernel,rfl,by decide +kernel,by decide +kernel⟩
theorem nu:bL ["count", "gates"] ["count", "gates"] (aC dC):=⟨rfl,rfl,rfl,by decide +kernel,rfl,by decide +kernel,by decide +kernel⟩
theorem cI:bL ["relation", "gates", "width", "constants", "old", "fresh", "given"] ["relation", "gates"] (aC km):=⟨rfl,rfl,rfl,by decide +kernel,rfl,by decide +kernel,by decide +kernel⟩
theorem GQ:bL ["_law_script", "_law_k"] ["_law_script", "_law_k"] (aC jC):=⟨rfl,rfl,rfl,by decide +kernel,rfl,by decide +kernel,by decide +kernel⟩
theorem lr:bL ["_law_caught", "_law_some"] ["_law_caught"] (aC ji):=⟨rfl,rfl,rfl,by decide +kernel,rfl,by decide +kernel,by decide +kernel⟩
theorem eV:bL ["_law_rows", "_law_singles", "_law_found", "_law_pick", "_law_row", "_law_many", "_law_k"] ["_law_rows", "_law_singles"] (aC iB):=⟨rfl,rfl,rfl,by decide +kernel,rfl,by decide +kernel,by decide +kernel⟩
theorem lN:bL ["_law_width", "_law_rows", "_law_gates", "_law_full", "_law_words", "_law_found", "_law_gate"] ["_law_width", "_law_rows", "_law_gates"] (aC kE):=⟨rfl,rfl,rfl,by decide +kernel,rfl,by decide +kernel,by decide +kernel⟩
theorem lU:bL ["_law_many", "_law_inputs", "_law_count", "_law_k"] ["_law_many", "_law_inputs"] (aC jh):=⟨rfl,rfl,rfl,by decide +kernel,rfl,by decide +kernel,by decide +kernel⟩
theorem ig:bL ["_law_which", "_law_gate", "_law_width", "_law_rows", "_law_gates", "_law_found", "_law_caught", "e"] ["_law_which", "_law_gate", "_law_width", "_law_rows", "_law_gates"] (aC jN):=⟨rfl,rfl,rfl,by decide +kernel,rfl,by decide +kernel,by decide +kernel⟩
theorem cU:bL ["_law_cell_here", "_law_gate", "_law_many", "_law_rows", "_law_which", "_law_due_here", "_law_few", "_law_twice"] ["_law_cell_here"] (aC iD):=⟨rfl,rfl,rfl,by decide +kernel,rfl,by decide +kernel,by decide +kernel⟩
theorem fM:bL ["_law_script", "_law_cell_here", "_law_width", "_law_left", "_law_rows", "_law_k", "_law_some", "_law_gates", "_law_begun", "_law_due_here", "_law_work", "_law_found", "_law_gate", "_law_which", "_law_told"] ["_law_script"] (aC oF):=⟨rfl,rfl,rfl,by decide +kernel,rfl,by decide +kernel,by decide +kernel⟩
section
variable {P:cw}{w:eI}{K:ag}{mg:Str→Option ai}{base:Heap}
theorem Cj (F:At K mg "_law_marks" ji ["_law_caught"]) (pA:mg "ValueError" = none) (dj:mg "isinstance" = none) {aM:Addr} (kV:eL K (.ref aM) (.type "ValueError")=some true) {pN:Addr} (yg:mg "NoName" = some (.ref pN)) (QB:eL K (.ref aM) (.ref pN)=some false) (Oh:(dQ aM == dQ pN)=false) {jq:Addr} (ph:mg "NoRelation" = some (.ref jq)) (DY:eL K (.ref aM) (.ref jq)=some false) (CK:(dQ aM == dQ jq)=false) {qW:Addr} (zL:mg "NoRow" = some (.ref qW)) (Vh:eL K (.ref aM) (.ref qW)=some false) (Rx:(dQ aM == dQ qW)=false) {o6:Addr} (xP:mg "NoText" = some (.ref o6)) (P0:eL K (.ref aM) (.ref o6)=some false) (Ls:(dQ aM == dQ o6)=false) {pG:Addr} (xG:mg "NotAll" = some (.ref pG)) (Pz:eL K (.ref aM) (.ref pG)=some false) (Mi:(dQ aM == dQ pG)=false) {m7:Addr} (u5:mg "NotMade" = some (.ref m7)) (O8:eL K (.ref aM) (.ref m7)=some false) (IV:(dQ aM == dQ m7)=false) {pI:Addr} (xU:mg "TooBig" = some (.ref pI)) (Su:eL K (.ref aM) (.ref pI)=some false) (OD:(dQ aM == dQ pI)=false) (dU:mg "TooMany" = some (.ref aM)) (tld:jU K aM):Def P w K mg base 1 "_law_marks" ["_law_caught"] (spE K aM eY):=
 Vo (k:=0) (N:=["_law_caught", "_law_some"]) (O:=[.exc aM,.imm]) (O':=[]) (Ol:=[]) F lr rfl (by decide) rfl fun f cdv A outer s H E hr=>
 (aD (O1:=[.exc aM,.imm]) (aR 1 lr.nd rfl (cb rfl) (sfe (bF (az (lH 0 (cv:=.ref jq) rfl (.no tld DY CK) (fun u z=>z) rfl dj (jJ (v:=.ref jq) rfl ph rfl (by decide))) (az (lH 0 (cv:=.ref aM) rfl .self (fun u z=>z) rfl dj (jJ (v:=.ref aM) rfl dU rfl (by decide))) (az (lH 0 (cv:=.ref pI) rfl (.no tld Su OD) (fun u z=>z) rfl dj (jJ (v:=.ref pI) rfl xU rfl (by decide))) aK))))))
  (aD (O1:=[.exc aM,.imm]) (aR 1 lr.nd rfl (cb rfl) (aJ bY (ak 1) (sfp (bF (az (lH 0 (cv:=.ref pG) rfl (.no tld Pz Mi) (fun u z=>z) rfl dj (jJ (v:=.ref pG) rfl xG rfl (by decide))) (az (lH 0 (cv:=.ref m7) rfl (.no tld O8 IV) (fun u z=>z) rfl dj (jJ (v:=.ref m7) rfl u5 rfl (by decide))) (az (lH 0 (cv:=.ref o6) rfl (.no tld P0 Ls) (fun u z=>z) rfl dj (jJ (v:=.ref o6) rfl xP rfl (by decide))) aK)))))))
  (aD (O1:=[.exc aM,.imm]) (aR 1 lr.nd rfl (cb rfl) (aJ bY (ak 1) (sfp (bF (az (lH 0 (cv:=.ref pN) rfl (.no tld QB Oh) (fun u z=>z) rfl dj (jJ (v:=.ref pN) rfl yg rfl (by decide))) (az (lH 0 (cv:=.ref qW) rfl (.no tld Vh Rx) (fun u z=>z) rfl dj (jJ (v:=.ref qW) rfl zL rfl (by decide))) (az (lH 0 (cv:=.ty "ValueError") rfl (.yes kV (y8.mpr fun q=>nomatch beq_iff_eq.mp q)) (fun u z=>z) rfl dj (Zt rfl pA (show bo "ValueError" = some (.type "ValueError") by decide +kernel))) aK)))))))
  (aL (bW (aO 1))))))
theorem Fe (F:At K mg "row_count" jd ["inputs"]) (b7:mg "range" = none):Def P w K mg base 1 "row_count" ["inputs"] (spF K [.bor] .f gY):=
 dX (N:=["inputs", "count", "j"]) (fs:=[.bor]) (O:=[.bor,.imm,.imm]) (O':=[]) (Ol:=[]) (rm:=.f) F lO rfl (by decide) (by decide) fun f cdv A outer s H E hr=>
 (aD (O1:=[.bor,.imm,.imm]) (aR 1 lO.nd rfl (cb rfl) ao)
  (aD (O1:=[.bor,.imm,.imm]) (fC fo rfl [2] (Oe:=[.bor,.imm,.imm]) (jo rfl b7 (ak 0)) (bZ 2 lO.nd rfl (cb rfl)) (aL (aR 1 lO.nd rfl (cb rfl) (aJ jt (sp ao) (ak 1)))) (by decide))
  (aL (bW (aO 1)))))
theorem XX (F:At K mg "bit" vN ["number", "place"]):Def P w K mg base 1 "bit" ["number", "place"] (spF K [.bor,.bor] .f za):=
 dX (N:=["number", "place"]) (fs:=[.bor,.bor]) (O:=[.bor,.bor]) (O':=[]) (Ol:=[]) (rm:=.f) F Ye rfl (by decide) (by decide) fun f cdv A outer s H E hr=>
 (aL (bW (aJ yM (sp (aJ Ng (ak 0) (ak 1))) (sp ao))))
theorem JC (F:At K mg "put_all" kZ ["gate", "numbers", "full"]) (JV:Def P w K mg base 1 "bit" ["number", "place"] (spF K [.bor,.bor] .f za)) (jk:Def P w K mg base 1 "row_count" ["inputs"] (spF K [.bor] .f gY)) (bG:mg "len" = none) (b7:mg "range" = none):Def P w K mg base 2 "put_all" ["gate", "numbers", "full"] (spF K [.bor,.bor,.bor] .f nH):=
 dX (N:=["gate", "numbers", "full", "given", "number"]) (fs:=[.bor,.bor,.bor]) (O:=[.bor,.bor,.bor,.imm,.imm]) (O':=[]) (Ol:=[]) (rm:=.f) F oJ rfl (by decide) (by decide) fun f cdv A outer s H E hr=>
 (aD (O1:=[.bor,.bor,.bor,.imm,.imm]) (aR 3 oJ.nd rfl (g9 rfl) (sfe (qT ["place"] [2,0] (Ob:=[.imm,.bor,.bor]) (O1:=[.imm,.bor,.bor]) (is:=[0]) rfl rfl rfl rfl (by decide) (ux rfl b7 (sp (bf jk (hr.mono (by decide)) rfl (au (sp (dw (ak 0) (sp ao) (fun _ _=>rfl))) aG)))) (fun _ _ _ _ _=>(bZ 0 (show qB (["place", "full", "gate"]:List Str) by decide +kernel) rfl (cb rfl))) (fun _ _ _ _ _=>mF) (fun _ _ _ _ _=>(aJ jt (ak 1) (sp (bf JV (hr.mono (by decide)) rfl (au (sp (dw (ak 2) (sp ao) (fun _ _=>rfl))) (au (ak 0) aG)))))))))
  (aD (O1:=[.bor,.bor,.bor,.imm,.imm]) (fC fo rfl [4] (Oe:=[.bor,.bor,.bor,.imm,.imm]) (jX (pO 1)) (bZ 4 oJ.nd rfl (g9 rfl)) (aL (aR 3 oJ.nd rfl (g9 rfl) (sfe (qT ["k"] [3,4] (Ob:=[.imm,.imm,.imm]) (O1:=[.imm,.imm,.imm]) (is:=[0]) rfl rfl rfl rfl (by decide) (N5 rfl b7 (sp ao) (sp (bB cD rfl bG (show bo "len" = some (.builtin "len") by decide +kernel) (au (ak 3) aG))) (sp ao)) (fun _ _ _ _ _=>(bZ 0 (show qB (["k", "given", "number"]:List Str) by decide +kernel) rfl (cb rfl))) (fun _ _ _ _ _=>mF) (fun _ _ _ _ _=>(aJ Tn (sp (aJ yM (sp (dw (ak 1) (ak 0) (fun _ _=>rfl))) (sp (Yr (ak 2))))) (sp (aJ yM (sp (dw (ak 1) (sp (aJ bY (ak 0) (sp ao))) (fun _ _=>rfl))) (ak 2))))))))) (by decide))
  (aL (bW (dw (ak 3) (sp ao) (fun _ _=>rfl))))))
theorem Hh (F:At K mg "gathered" jO ["width", "rows"]) (j0:mg "set" = none) (cM:mg "sorted" = none) (gH:mg "tuple" = none):Def P w K mg base 1 "gathered" ["width", "rows"] (spF K [.imm,.bor] .f iR):=
 dX (N:=["width", "rows"]) (fs:=[.imm,.bor]) (O:=[.imm,.bor]) (O':=[]) (Ol:=[]) (rm:=.f) F Gx rfl (by decide) (by decide) fun f cdv A outer s H E hr=>
 (aL (bW (bN (az (aO 0) (az (qw sS rfl gH (show bo "tuple" = some (.type "tuple") by decide +kernel) (au (sfp (u6 rfl rfl cM rfl j0 (ak 1))) aG)) aK)))))
theorem Mt (F:At K mg "marked" mq ["rows"]):Def P w K mg base 1 "marked" ["rows"] (spF K [.bor] .t mL):=
 dX (N:=["rows", "marks", "row"]) (fs:=[.bor]) (O:=[.bor,.own,.imm]) (O':=[]) (Ol:=[]) (rm:=.t) F vd rfl (by decide) (by decide) fun f cdv A outer s H E hr=>
 (aD (O1:=[.bor,.own,.imm]) (kO 1 vd.nd rfl (cb rfl) Io)
  (aD (O1:=[.bor,.own,.imm]) (fC fo rfl [2] (Oe:=[.bor,.own,.imm]) (jX (pO 0)) (bZ 2 vd.nd rfl (cb rfl)) (aL (rA 1 hr.nJ (aO 2) fB)) (by decide))
  (aL (vO 1))))
theorem G7 (F:At K mg "put_rows" jP ["gate", "rows", "width"]) (uO:Def P w K mg base 2 "put_all" ["gate", "numbers", "full"] (spF K [.bor,.bor,.bor] .f nH)) (jk:Def P w K mg base 1 "row_count" ["inputs"] (spF K [.bor] .f gY)):Def P w K mg base 3 "put_rows" ["gate", "rows", "width"] (spF K [.bor,.bor,.bor] .f du):=
 dX (N:=["gate", "rows", "width"]) (fs:=[.bor,.bor,.bor]) (O:=[.bor,.bor,.bor]) (O':=[]) (Ol:=[]) (rm:=.f) F GF rfl (by decide) (by decide) fun f cdv A outer s H E hr=>
 (aL (bW (bf uO (hr.mono (by decide)) rfl (au (ak 0) (au (ak 1) (au (sp (aJ q8 (sp (bf jk (hr.mono (by decide)) rfl (au (ak 2) aG))) (sp ao))) aG))))))
theorem Ru (F:At K mg "power" oW ["base", "exponent"]) (b7:mg "range" = none):Def P w K mg base 1 "power" ["base", "exponent"] (spF K [.bor,.bor] .f qN):=
 dX (N:=["base", "exponent", "product", "j"]) (fs:=[.bor,.bor]) (O:=[.bor,.bor,.imm,.imm]) (O':=[]) (Ol:=[]) (rm:=.f) F tW rfl (by decide) (by decide) fun f cdv A outer s H E hr=>
 (aD (O1:=[.bor,.bor,.imm,.imm]) (aR 2 tW.nd rfl (cb rfl) ao)
  (aD (O1:=[.bor,.bor,.imm,.imm]) (fC fo rfl [3] (Oe:=[.bor,.bor,.imm,.imm]) (jo rfl b7 (ak 1)) (bZ 3 tW.nd rfl (cb rfl)) (aL (aR 2 tW.nd rfl (cb rfl) (aJ jt (ak 0) (ak 2)))) (by decide))
  (aL (bW (aO 2)))))
theorem CG (F:At K mg "list_count" iC ["count", "gates"]) (zq:Def P w K mg base 1 "power" ["base", "exponent"] (spF K [.bor,.bor] .f qN)) (vV:mg "sum" = none):Def P w K mg base 2 "list_count" ["count", "gates"] (spF K [.bor,.bor] .f cu):=
 dX (N:=["count", "gates"]) (fs:=[.bor,.bor]) (O:=[.bor,.bor]) (O':=[]) (Ol:=[]) (rm:=.f) F Cv rfl (by decide) (by decide) fun f cdv A outer s H E hr=>
 (aL (bW (bB (Ow rfl) rfl vV (show bo "sum" = some (.builtin "sum") by decide +kernel) (au (sfp (qT ["gate"] [0] (Ob:=[.imm,.bor]) (O1:=[.imm,.bor]) (is:=[0]) rfl rfl rfl rfl (by decide) (uv (ak 1)) (fun _ _ _ _ _=>(bZ 0 (show qB (["gate", "count"]:List Str) by decide +kernel) rfl (cb rfl))) (fun _ _ _ _ _=>mF) (fun _ _ _ _ _=>(bf zq (hr.mono (by decide)) rfl (au (ak 1) (au (sp (dw (ak 0) (sp ao) (fun _ _=>rfl))) aG)))))) aG))))
theorem GC (F:At K mg "lists_of" jL ["choices"]):Def P w K mg base 1 "lists_of" ["choices"] (spF K [.bor] .f gK):=
 dX (N:=["choices", "lists", "rows", "longer", "chosen", "row"]) (fs:=[.bor]) (O:=[.bor,.imm,.imm,.own,.imm,.imm]) (O':=[]) (Ol:=[]) (rm:=.f) F gW rfl (by decide) (by decide) fun f cdv A outer s H E hr=>
 (aD (O1:=[.bor,.imm,.imm,.own,.imm,.imm]) (aR 1 gW.nd rfl (cb rfl) (sfe (bF (az (sfe (bF aK)) aK))))
  (aD (O1:=[.bor,.imm,.imm,.own,.imm,.imm]) (fC fo rfl [2,3,4,5] (Oe:=[.bor,.imm,.imm,.imm,.imm,.imm]) (jX (pO 0)) (bZ 2 gW.nd rfl (cb rfl)) (aD (O1:=[.bor,.imm,.imm,.own,.imm,.imm]) (kO 3 gW.nd rfl (cb rfl) (bF aK))
  (aD (O1:=[.bor,.imm,.imm,.own,.imm,.imm]) (fC fo rfl [4,5] (Oe:=[.bor,.imm,.imm,.own,.imm,.imm]) (jX (pO 1)) (bZ 4 gW.nd rfl (cb rfl)) (aL (fC fo rfl [5] (Oe:=[.bor,.imm,.imm,.own,.imm,.imm]) (jX (pO 2)) (bZ 5 gW.nd rfl (cb rfl)) (aL (Gq 3 (aJ bY (ak 4) (sfp (bF (az (aO 5) aK)))))) (by decide))) (by decide))
  (aL (WQ 3 (O2:=[.bor,.imm,.imm,.imm,.imm,.imm]) (aR 1 gW.nd rfl (cb rfl) (aO 3)))))) (by decide))
  (aL (bW (aO 1)))))
theorem Ka (F:At K mg "broken" j9 ["gate", "relation"]) (pg:Def P w K mg base 1 "marked" ["rows"] (spF K [.bor] .t mL)) (gJ:Def P w K mg base 1 "lists_of" ["choices"] (spF K [.bor] .f gK)) (cL:Def P w K mg base 2 "list_count" ["count", "gates"] (spF K [.bor,.bor] .f cu)) (cX:Def P w K mg base 3 "put_rows" ["gate", "rows", "width"] (spF K [.bor,.bor,.bor] .f du)) (bG:mg "len" = none) {dh:ai} (cJ:mg "MOST_LISTS" = some dh) (eE:RelV (.int 20000) dh) {aM:Addr} (dU:mg "TooMany" = some (.ref aM)) (lV:ue K aM):DefX P w K mg base 4 "broken" ["gate", "relation"] (spZ K [.imm,.bor] (fun _=>aM) ju):=
 vU (N:=["gate", "relation", "width", "rows", "marks", "chosen"]) (fs:=[.imm,.bor]) (O:=[.imm,.bor,.imm,.imm,.imm,.imm]) F iH rfl (by decide) (by decide) fun f cdv A outer s H E hr=>
 (gm (rm:=.f) (Ol:=[]) (O1:=[.imm,.bor,.imm,.imm,.imm,.imm]) (aR 2 iH.nd rfl (cb rfl) (dw (ak 1) (sp ao) (fun _ _=>rfl))) vX (gm (rm:=.f) (Ol:=[]) (O1:=[.imm,.bor,.imm,.imm,.imm,.imm]) (aR 3 iH.nd rfl (cb rfl) (dw (ak 1) (sp ao) (fun _ _=>rfl))) vX (gm (rm:=.f) (Ol:=[]) (O1:=[.imm,.bor,.imm,.imm,.imm,.imm]) (cP (bh gh (sp (bf cL (hr.mono (by decide)) rfl (au (sp (bB cD rfl bG (show bo "len" = some (.builtin "len") by decide +kernel) (au (ak 3) aG))) (au (sfp (bF (az (aO 0) aK))) aG)))) (sp (jM rfl cJ eE (fun _=>Rp.int.mpr rfl))) (aZ _)) (aL qZ) cz) (Tq (bh gh (sp (bf cL (hr.mono (by decide)) rfl (au (sp (bB cD rfl bG (show bo "len" = some (.builtin "len") by decide +kernel) (au (ak 3) aG))) (au (sfp (bF (az (aO 0) aK))) aG)))) (sp (jM rfl cJ eE (fun _=>Rp.int.mpr rfl))) (aZ _)) (gm (rm:=.f) (Ol:=[]) (O1:=[.imm,.bor,.imm,.imm,.imm,.imm]) qZ (El rfl rfl dU lV yN) lK) lK) lK)))
theorem NT (F:At K mg "broken" j9 ["gate", "relation"]) (pg:Def P w K mg base 1 "marked" ["rows"] (spF K [.bor] .t mL)) (gJ:Def P w K mg base 1 "lists_of" ["choices"] (spF K [.bor] .f gK)) (cL:Def P w K mg base 2 "list_count" ["count", "gates"] (spF K [.bor,.bor] .f cu)) (cX:Def P w K mg base 3 "put_rows" ["gate", "rows", "width"] (spF K [.bor,.bor,.bor] .f du)) (bG:mg "len" = none) {dh:ai} (cJ:mg "MOST_LISTS" = some dh) (eE:RelV (.int 20000) dh):Def P w K mg base 4 "broken" ["gate", "relation"] (spF K [.imm,.bor] .f d8):=
 dX (N:=["gate", "relation", "width", "rows", "marks", "chosen"]) (fs:=[.imm,.bor]) (O:=[.imm,.bor,.imm,.imm,.imm,.imm]) (O':=[]) (Ol:=[]) (rm:=.f) F iH rfl (by decide) (by decide) fun f cdv A outer s H E hr=>
 (aD (O1:=[.imm,.bor,.imm,.imm,.imm,.imm]) (aR 2 iH.nd rfl (cb rfl) (dw (ak 1) (sp ao) (fun _ _=>rfl)))
  (aD (O1:=[.imm,.bor,.imm,.imm,.imm,.imm]) (aR 3 iH.nd rfl (cb rfl) (dw (ak 1) (sp ao) (fun _ _=>rfl)))
  (aD (O1:=[.imm,.bor,.imm,.imm,.imm,.imm]) (cP (bh gh (sp (bf cL (hr.mono (by decide)) rfl (au (sp (bB cD rfl bG (show bo "len" = some (.builtin "len") by decide +kernel) (au (ak 3) aG))) (au (sfp (bF (az (aO 0) aK))) aG)))) (sp (jM rfl cJ eE (fun _=>Rp.int.mpr rfl))) (aZ _)) (aL qZ) cz)
  (aD (O1:=[.imm,.bor,.imm,.imm,.imm,.imm]) (aR 4 iH.nd rfl (cb rfl) (sfe (oY pg (hr.mono (by decide)) rfl (au (ak 3) aG))))
  (aD (O1:=[.imm,.bor,.imm,.imm,.imm,.imm]) (fC fo rfl [5] (Oe:=[.imm,.bor,.imm,.imm,.imm,.imm]) (jX (sq (bf gJ (hr.mono (by decide)) rfl (au (sfp (vA (bF (az (aO 3) aK)) (sp (dw (ak 0) (sp ao) (fun _ _=>rfl))))) aG)))) (bZ 5 iH.nd rfl (cb rfl)) (aL (cP (bh (Ca hr.nJ) (sp (bf cX (hr.mono (by decide)) rfl (au (ak 0) (au (ak 5) (au (ak 2) aG))))) (ak 4) rfl) (aL (bW (aO 5))) cz)) (by decide))
  (aL (bW m6)))))))
theorem Mz (F:At K mg "keeps" mD ["gate", "relation"]) (iK:Def P w K mg base 4 "broken" ["gate", "relation"] (spF K [.imm,.bor] .f d8)) {aM:Addr} (dU:mg "TooMany" = some (.ref aM)) (lV:ue K aM) (kI:DefX P w K mg base 4 "broken" ["gate", "relation"] (spZ K [.imm,.bor] (fun _=>aM) ju)):DefX P w K mg base 5 "keeps" ["gate", "relation"] (spZ K [.imm,.bor] (fun _=>aM) oX):=
 vU (N:=["gate", "relation"]) (fs:=[.imm,.bor]) (O:=[.imm,.bor]) F Fy rfl (by decide) (by decide) fun f cdv A outer s H E hr=>
 (gm (rm:=.f) (Ol:=[]) (O1:=[.imm,.bor]) (bW (qO Gn (sp (bf iK (hr.mono (by decide)) rfl (bH (aO 0) (au (ak 1) aG)))) (sp m6) (aZ _))) (Qo kI (hr.mono (by decide)) rfl (bH (aO 0) (au (ak 1) aG)) zj) lK)
theorem Qi (F:At K mg "keeps" mD ["gate", "relation"]) (iK:Def P w K mg base 4 "broken" ["gate", "relation"] (spF K [.imm,.bor] .f d8)):Def P w K mg base 5 "keeps" ["gate", "relation"] (spF K [.imm,.bor] .f jR):=
 dX (N:=["gate", "relation"]) (fs:=[.imm,.bor]) (O:=[.imm,.bor]) (O':=[]) (Ol:=[]) (rm:=.f) F Fy rfl (by decide) (by decide) fun f cdv A outer s H E hr=>
 (aL (bW (qO Gn (sp (bf iK (hr.mono (by decide)) rfl (bH (aO 0) (au (ak 1) aG)))) (sp m6) (aZ _))))
theorem Ag (F:At K mg "fresh_lists" gG ["old", "fresh", "length"]) (gJ:Def P w K mg base 1 "lists_of" ["choices"] (spF K [.bor] .f gK)) (b7:mg "range" = none):Def P w K mg base 2 "fresh_lists" ["old", "fresh", "length"] (spF K [.imm,.imm,.bor] .t jb):=
 dX (N:=["old", "fresh", "length", "lists", "place"]) (fs:=[.imm,.imm,.bor]) (O:=[.imm,.imm,.bor,.own,.imm]) (O':=[]) (Ol:=[]) (rm:=.t) F mz rfl (by decide) (by decide) fun f cdv A outer s H E hr=>
 (aD (O1:=[.imm,.imm,.bor,.own,.imm]) (kO 3 mz.nd rfl (cb rfl) (bF aK))
  (aD (O1:=[.imm,.imm,.bor,.own,.imm]) (fC fo rfl [4] (Oe:=[.imm,.imm,.bor,.own,.imm]) (jo rfl b7 (ak 2)) (bZ 4 mz.nd rfl (cb rfl)) (aL (V3 3 (bf gJ (hr.mono (by decide)) rfl (au (sp (aJ bY (sp (aJ bY (sfp (vA (bF (az (aO 0) aK)) (ak 4))) (sfp (bF (az (aO 1) aK))))) (sfp (vA (bF (az (aJ bY (ak 0) (ak 1)) aK)) (sp (aJ q8 (sp (aJ q8 (ak 2) (ak 4))) (sp ao))))))) aG)))) (by decide))
  (aL (vO 3))))
theorem Cu (F:At K mg "given_rows" ik ["gates", "old", "fresh", "width"]) (nT:Def P w K mg base 2 "fresh_lists" ["old", "fresh", "length"] (spF K [.imm,.imm,.bor] .t jb)) (cX:Def P w K mg base 3 "put_rows" ["gate", "rows", "width"] (spF K [.bor,.bor,.bor] .f du)):Def P w K mg base 4 "given_rows" ["gates", "old", "fresh", "width"] (spF K [.bor,.imm,.imm,.bor] .t eO):=
 dX (N:=["gates", "old", "fresh", "width", "rows", "gate", "chosen"]) (fs:=[.bor,.imm,.imm,.bor]) (O:=[.bor,.imm,.imm,.bor,.own,.imm,.imm]) (O':=[]) (Ol:=[]) (rm:=.t) F j4 rfl (by decide) (by decide) fun f cdv A outer s H E hr=>
 (aD (O1:=[.bor,.imm,.imm,.bor,.own,.imm,.imm]) (kO 4 j4.nd rfl (cb rfl) (bF aK))
  (aD (O1:=[.bor,.imm,.imm,.bor,.own,.imm,.imm]) (fC fo rfl [5,6] (Oe:=[.bor,.imm,.imm,.bor,.own,.imm,.imm]) (jX (pO 0)) (bZ 5 j4.nd rfl (cb rfl)) (aL (fC fo rfl [6] (Oe:=[.bor,.imm,.imm,.bor,.own,.imm,.imm]) (jX (sq (sfe (oY nT (hr.mono (by decide)) rfl (bH (aO 1) (bH (aO 2) (au (sp (dw (ak 5) (sp ao) (fun _ _=>rfl))) aG))))))) (bZ 6 j4.nd rfl (cb rfl)) (aL (Gq 4 (bf cX (hr.mono (by decide)) rfl (au (ak 5) (au (ak 6) (au (ak 3) aG)))))) (by decide))) (by decide))
  (aL (vO 4))))
theorem t6 (F:At K mg "refuse_too_many" dC ["count", "gates"]) (cL:Def P w K mg base 2 "list_count" ["count", "gates"] (spF K [.bor,.bor] .f cu)) {fO:ai} (cZ:mg "MOST_CLOSED_ROWS" = some fO) (gP:RelV (.int 128) fO) {dh:ai} (cJ:mg "MOST_LISTS" = some dh) (eE:RelV (.int 20000) dh) {aM:Addr} (dU:mg "TooMany" = some (.ref aM)) (lV:ue K aM):DefX P w K mg base 3 "refuse_too_many" ["count", "gates"] (spZ K [.bor,.bor] (fun _=>aM) eU):=
 vU (N:=["count", "gates"]) (fs:=[.bor,.bor]) (O:=[.bor,.bor]) F nu rfl (by decide) (by decide) fun f cdv A outer s H E hr=>
 (gm (rm:=.f) (Ol:=[]) (O1:=[.bor,.bor]) (cP (mR (wg (bh gh (ak 0) (sp (jM rfl cZ gP (fun _=>Rp.int.mpr rfl))) (aZ _)) (qM (bh gh (sp (bf cL (hr.mono (by decide)) rfl (au (ak 0) (au (ak 1) aG)))) (sp (jM rfl cJ eE (fun _=>Rp.int.mpr rfl))) (aZ _))))) (aL qZ) cz) (Tq (mR (wg (bh gh (ak 0) (sp (jM rfl cZ gP (fun _=>Rp.int.mpr rfl))) (aZ _)) (qM (bh gh (sp (bf cL (hr.mono (by decide)) rfl (au (ak 0) (au (ak 1) aG)))) (sp (jM rfl cJ eE (fun _=>Rp.int.mpr rfl))) (aZ _))))) (gm (rm:=.f) (Ol:=[]) (O1:=[.bor,.bor]) qZ (El rfl rfl dU lV yN) lK) lK) lK)
theorem t7 (F:At K mg "refuse_too_many" dC ["count", "gates"]) (cL:Def P w K mg base 2 "list_count" ["count", "gates"] (spF K [.bor,.bor] .f cu)) {fO:ai} (cZ:mg "MOST_CLOSED_ROWS" = some fO) (gP:RelV (.int 128) fO) {dh:ai} (cJ:mg "MOST_LISTS" = some dh) (eE:RelV (.int 20000) dh):Def P w K mg base 3 "refuse_too_many" ["count", "gates"] (spF K [.bor,.bor] .f bR):=
 Uy (N:=["count", "gates"]) (fs:=[.bor,.bor]) (O:=[.bor,.bor]) (O':=[.bor,.bor]) (Ol:=[]) (rm:=.f) F nu rfl (by decide) (by decide) (hrm:=rfl) (hbody:=fun f cdv A outer s H E hr=>
 (aL (cP (mR (wg (bh gh (ak 0) (sp (jM rfl cZ gP (fun _=>Rp.int.mpr rfl))) (aZ _)) (qM (bh gh (sp (bf cL (hr.mono (by decide)) rfl (au (ak 0) (au (ak 1) aG)))) (sp (jM rfl cJ eE (fun _=>Rp.int.mpr rfl))) (aZ _))))) (aL qZ) cz)))
theorem Jy (F:At K mg "closed" km ["relation", "gates"]) (lC:Def P w K mg base 1 "gathered" ["width", "rows"] (spF K [.imm,.bor] .f iR)) (cX:Def P w K mg base 3 "put_rows" ["gate", "rows", "width"] (spF K [.bor,.bor,.bor] .f du)) (cW:Def P w K mg base 3 "refuse_too_many" ["count", "gates"] (spF K [.bor,.bor] .f bR)) (gC:Def P w K mg base 4 "given_rows" ["gates", "old", "fresh", "width"] (spF K [.bor,.imm,.imm,.bor] .t eO)) (bG:mg "len" = none) (jV:mg "list" = none) (j0:mg "set" = none) (cM:mg "sorted" = none) {aM:Addr} (dU:mg "TooMany" = some (.ref aM)) (lV:ue K aM) (jA:DefX P w K mg base 3 "refuse_too_many" ["count", "gates"] (spZ K [.bor,.bor] (fun _=>aM) eU)):DefX P w K mg base 5 "closed" ["relation", "gates"] (spZ K [.bor,.bor] (fun _=>aM) mC):=
 vU (N:=["relation", "gates", "width", "constants", "old", "fresh", "given"]) (fs:=[.bor,.bor]) (O:=[.bor,.bor,.imm,.imm,.imm,.imm,.imm]) F cI rfl (by decide) (by decide) fun f cdv A outer s H E hr=>
 (gm (rm:=.f) (Ol:=[]) (O1:=[.bor,.bor,.imm,.imm,.imm,.imm,.imm]) (aR 2 cI.nd rfl (g9 rfl) (dw (ak 0) (sp ao) (fun _ _=>rfl))) vX (gm (rm:=.f) (Ol:=[]) (O1:=[.bor,.bor,.imm,.own,.imm,.imm,.imm]) (vZ 3 ["gate"] [2] (Ob:=[.imm,.imm]) (O1:=[.imm,.imm]) (is:=[0]) cI.nd rfl (cb rfl) rfl rfl rfl rfl (by decide) (uv (ak 1)) (fun _ _ _ _ _=>(bZ 0 (show qB (["gate", "width"]:List Str) by decide +kernel) rfl (cb rfl))) (fun _ _ _ _ _=>(wV (bh (gb hr.units) (sp (dw (ak 0) (sp ao) (fun _ _=>rfl))) (sp ao) (aZ _)))) (fun _ _ _ _ _=>(bf cX (hr.mono (by decide)) rfl (au (ak 0) (au (sfp (bF aK)) (au (ak 1) aG)))))) vX (gm (rm:=.f) (Ol:=[]) (O1:=[.bor,.bor,.imm,.own,.imm,.imm,.imm]) (aR 4 cI.nd rfl (cb rfl) (sfe (bF aK))) vX (gm (rm:=.f) (Ol:=[]) (O1:=[.bor,.bor,.imm,.own,.imm,.imm,.imm]) (aR 5 cI.nd rfl (cb rfl) (sfe (u6 rfl rfl cM rfl j0 (sp (aJ bY (sfp (ql vK rfl jV (show bo "list" = some (.type "list") by decide +kernel) (au (sp (dw (ak 0) (sp ao) (fun _ _=>rfl))) aG))) (ak 3)))))) vX (gm (rm:=.f) (Ol:=[]) (O1:=[.bor,.bor,.imm,.own,.imm,.imm,.imm]) (FZ PassesOwn.leaving 1000000 [6] (Oe:=[.bor,.bor,.imm,.own,.imm,.imm,.imm]) (bh gh (sp (bB cD rfl bG (show bo "len" = some (.builtin "len") by decide +kernel) (au (ak 5) aG))) (sp ao) (aZ _)) (aD (O1:=[.bor,.bor,.imm,.own,.imm,.imm,.imm]) (CQ (sp (bf cW (hr.mono (by decide)) rfl (au (sp (aJ bY (sp (bB cD rfl bG (show bo "len" = some (.builtin "len") by decide +kernel) (au (ak 4) aG))) (sp (bB cD rfl bG (show bo "len" = some (.builtin "len") by decide +kernel) (au (ak 5) aG))))) (au (ak 1) aG)))))
  (aD (O1:=[.bor,.bor,.imm,.own,.imm,.imm,.imm]) (aR 6 cI.nd rfl (cb rfl) (sfe (oY gC (hr.mono (by decide)) rfl (au (ak 1) (bH (aO 4) (bH (aO 5) (au (ak 2) aG)))))))
  (aD (O1:=[.bor,.bor,.imm,.own,.imm,.imm,.imm]) (aR 4 cI.nd rfl (cb rfl) (aJ bY (ak 4) (ak 5)))
  (aL (aR 5 cI.nd rfl (cb rfl) (sfe (rK rfl rfl cM rfl j0 (ak 6) (ak 4)))))))) (by decide)) (Rr (rm:=.f) PassesOwn.leaving 1000000 [6] (Oe:=[.bor,.bor,.imm,.own,.imm,.imm,.imm]) (bh gh (sp (bB cD rfl bG (show bo "len" = some (.builtin "len") by decide +kernel) (au (ak 5) aG))) (sp ao) (aZ _)) (aD (O1:=[.bor,.bor,.imm,.own,.imm,.imm,.imm]) (CQ (sp (bf cW (hr.mono (by decide)) rfl (au (sp (aJ bY (sp (bB cD rfl bG (show bo "len" = some (.builtin "len") by decide +kernel) (au (ak 4) aG))) (sp (bB cD rfl bG (show bo "len" = some (.builtin "len") by decide +kernel) (au (ak 5) aG))))) (au (ak 1) aG)))))
  (aD (O1:=[.bor,.bor,.imm,.own,.imm,.imm,.imm]) (aR 6 cI.nd rfl (cb rfl) (sfe (oY gC (hr.mono (by decide)) rfl (au (ak 1) (bH (aO 4) (bH (aO 5) (au (ak 2) aG)))))))
  (aD (O1:=[.bor,.bor,.imm,.own,.imm,.imm,.imm]) (aR 4 cI.nd rfl (cb rfl) (aJ bY (ak 4) (ak 5)))
  (aL (aR 5 cI.nd rfl (cb rfl) (sfe (rK rfl rfl cM rfl j0 (ak 6) (ak 4)))))))) (gm (rm:=.f) (Ol:=[]) (O1:=[.bor,.bor,.imm,.own,.imm,.imm,.imm]) (CQ (sp (bf cW (hr.mono (by decide)) rfl (au (sp (aJ bY (sp (bB cD rfl bG (show bo "len" = some (.builtin "len") by decide +kernel) (au (ak 4) aG))) (sp (bB cD rfl bG (show bo "len" = some (.builtin "len") by decide +kernel) (au (ak 5) aG))))) (au (ak 1) aG))))) (ZW jA (hr.mono (by decide)) rfl (au (sp (aJ bY (sp (bB cD rfl bG (show bo "len" = some (.builtin "len") by decide +kernel) (au (ak 4) aG))) (sp (bB cD rfl bG (show bo "len" = some (.builtin "len") by decide +kernel) (au (ak 5) aG))))) (au (ak 1) aG)) zj) lK) (by decide)) lK)))))
theorem LC (F:At K mg "closed" km ["relation", "gates"]) (lC:Def P w K mg base 1 "gathered" ["width", "rows"] (spF K [.imm,.bor] .f iR)) (cX:Def P w K mg base 3 "put_rows" ["gate", "rows", "width"] (spF K [.bor,.bor,.bor] .f du)) (cW:Def P w K mg base 3 "refuse_too_many" ["count", "gates"] (spF K [.bor,.bor] .f bR)) (gC:Def P w K mg base 4 "given_rows" ["gates", "old", "fresh", "width"] (spF K [.bor,.imm,.imm,.bor] .t eO)) (bG:mg "len" = none) (jV:mg "list" = none) (j0:mg "set" = none) (cM:mg "sorted" = none):Def P w K mg base 5 "closed" ["relation", "gates"] (spF K [.bor,.bor] .f gB):=
 dX (N:=["relation", "gates", "width", "constants", "old", "fresh", "given"]) (fs:=[.bor,.bor]) (O:=[.bor,.bor,.imm,.imm,.imm,.imm,.imm]) (O':=[]) (Ol:=[]) (rm:=.f) F cI rfl (by decide) (by decide) fun f cdv A outer s H E hr=>
 (aD (O1:=[.bor,.bor,.imm,.imm,.imm,.imm,.imm]) (aR 2 cI.nd rfl (g9 rfl) (dw (ak 0) (sp ao) (fun _ _=>rfl)))
  (aD (O1:=[.bor,.bor,.imm,.own,.imm,.imm,.imm]) (vZ 3 ["gate"] [2] (Ob:=[.imm,.imm]) (O1:=[.imm,.imm]) (is:=[0]) cI.nd rfl (cb rfl) rfl rfl rfl rfl (by decide) (uv (ak 1)) (fun _ _ _ _ _=>(bZ 0 (show qB (["gate", "width"]:List Str) by decide +kernel) rfl (cb rfl))) (fun _ _ _ _ _=>(wV (bh (gb hr.units) (sp (dw (ak 0) (sp ao) (fun _ _=>rfl))) (sp ao) (aZ _)))) (fun _ _ _ _ _=>(bf cX (hr.mono (by decide)) rfl (au (ak 0) (au (sfp (bF aK)) (au (ak 1) aG))))))
  (aD (O1:=[.bor,.bor,.imm,.own,.imm,.imm,.imm]) (aR 4 cI.nd rfl (cb rfl) (sfe (bF aK)))
  (aD (O1:=[.bor,.bor,.imm,.own,.imm,.imm,.imm]) (aR 5 cI.nd rfl (cb rfl) (sfe (u6 rfl rfl cM rfl j0 (sp (aJ bY (sfp (ql vK rfl jV (show bo "list" = some (.type "list") by decide +kernel) (au (sp (dw (ak 0) (sp ao) (fun _ _=>rfl))) aG))) (ak 3))))))
  (aD (O1:=[.bor,.bor,.imm,.own,.imm,.imm,.imm]) (FZ fo 1000000 [6] (Oe:=[.bor,.bor,.imm,.own,.imm,.imm,.imm]) (bh gh (sp (bB cD rfl bG (show bo "len" = some (.builtin "len") by decide +kernel) (au (ak 5) aG))) (sp ao) (aZ _)) (aD (O1:=[.bor,.bor,.imm,.own,.imm,.imm,.imm]) (CQ (sp (bf cW (hr.mono (by decide)) rfl (au (sp (aJ bY (sp (bB cD rfl bG (show bo "len" = some (.builtin "len") by decide +kernel) (au (ak 4) aG))) (sp (bB cD rfl bG (show bo "len" = some (.builtin "len") by decide +kernel) (au (ak 5) aG))))) (au (ak 1) aG)))))
  (aD (O1:=[.bor,.bor,.imm,.own,.imm,.imm,.imm]) (aR 6 cI.nd rfl (cb rfl) (sfe (oY gC (hr.mono (by decide)) rfl (au (ak 1) (bH (aO 4) (bH (aO 5) (au (ak 2) aG)))))))
  (aD (O1:=[.bor,.bor,.imm,.own,.imm,.imm,.imm]) (aR 4 cI.nd rfl (cb rfl) (aJ bY (ak 4) (ak 5)))
  (aL (aR 5 cI.nd rfl (cb rfl) (sfe (rK rfl rfl cM rfl j0 (ak 6) (ak 4)))))))) (by decide))
  (aL (bW (bf lC (hr.mono (by decide)) rfl (bH (aO 2) (au (ak 4) aG))))))))))
theorem GJ (F:At K mg "_law_cell" jC ["_law_script", "_law_k"]) (bG:mg "len" = none):Def P w K mg base 1 "_law_cell" ["_law_script", "_law_k"] (spF K [.bor,.bor] .f dz):=
 dX (N:=["_law_script", "_law_k"]) (fs:=[.bor,.bor]) (O:=[.bor,.bor]) (O':=[]) (Ol:=[]) (rm:=.f) F GQ rfl (by decide) (by decide) fun f cdv A outer s H E hr=>
 (aD (O1:=[.bor,.bor]) (cP (bh Td (ak 1) (sp (bB cD rfl bG (show bo "len" = some (.builtin "len") by decide +kernel) (au (ak 0) aG))) (aZ _)) (aL (bW (aJ gQ (sp (aJ bY (sp (aJ jt (sp (dw (ak 0) (ak 1) (fun _ _=>rfl))) (sp ao))) (sp (aJ jt (sp (aJ jt (ak 1) (ak 1))) (sp ao))))) (sp ao)))) cz)
  (aL (bW (aJ gQ (sp (aJ bY (sp (aJ bY (sp (aJ jt (sp (aJ jt (ak 1) (ak 1))) (sp ao))) (sp (aJ jt (sp (bB cD rfl bG (show bo "len" = some (.builtin "len") by decide +kernel) (au (ak 0) aG))) (sp ao))))) (sp ao))) (sp ao)))))
theorem Cm (F:At K mg "_law_unions" iB ["_law_rows", "_law_singles"]) (bG:mg "len" = none) (b7:mg "range" = none):Def P w K mg base 1 "_law_unions" ["_law_rows", "_law_singles"] (spF K [.bor,.bor] .t jy):=
 dX (N:=["_law_rows", "_law_singles", "_law_found", "_law_pick", "_law_row", "_law_many", "_law_k"]) (fs:=[.bor,.bor]) (O:=[.bor,.bor,.own,.imm,.imm,.imm,.imm]) (O':=[]) (Ol:=[]) (rm:=.t) F eV rfl (by decide) (by decide) fun f cdv A outer s H E hr=>
 (aD (O1:=[.bor,.bor,.own,.imm,.imm,.imm,.imm]) (kO 2 eV.nd rfl (cb rfl) Io)
  (aD (O1:=[.bor,.bor,.own,.imm,.imm,.imm,.imm]) (fC fo rfl [3,4,5,6] (Oe:=[.bor,.bor,.own,.imm,.imm,.imm,.imm]) (Ms rfl b7 (sp ao) (sp (aJ Pb (sp ao) (sp (bB cD rfl bG (show bo "len" = some (.builtin "len") by decide +kernel) (au (ak 0) aG)))))) (bZ 3 eV.nd rfl (cb rfl)) (aD (O1:=[.bor,.bor,.own,.imm,.imm,.imm,.imm]) (aR 4 eV.nd rfl (cb rfl) ao)
  (aD (O1:=[.bor,.bor,.own,.imm,.imm,.imm,.imm]) (aR 5 eV.nd rfl (cb rfl) ao)
  (aD (O1:=[.bor,.bor,.own,.imm,.imm,.imm,.imm]) (fC fo rfl [6] (Oe:=[.bor,.bor,.own,.imm,.imm,.imm,.imm]) (jo rfl b7 (sp (bB cD rfl bG (show bo "len" = some (.builtin "len") by decide +kernel) (au (ak 0) aG)))) (bZ 6 eV.nd rfl (cb rfl)) (aL (cP (bh (gb hr.units) (sp (aJ yM (sp (aJ Ng (ak 3) (ak 6))) (sp ao))) (sp ao) (aZ _)) (aD (O1:=[.bor,.bor,.own,.imm,.imm,.imm,.imm]) (aR 4 eV.nd rfl (cb rfl) (aJ Tn (ak 4) (sp (dw (ak 0) (ak 6) (fun _ _=>rfl)))))
  (aL (aR 5 eV.nd rfl (cb rfl) (aJ bY (ak 5) (sp ao))))) cz)) (by decide))
  (aL (cP (mR (wg (bh (gb hr.units) (ak 5) (sp ao) (aZ _)) (qM (XN (Xo (ak 1)))))) (aL (rA 2 hr.nJ (aO 4) fB)) cz))))) (by decide))
  (aL (vO 2))))
theorem JP (F:At K mg "_law_due" kE ["_law_width", "_law_rows", "_law_gates"]) (nR:Def P w K mg base 1 "_law_unions" ["_law_rows", "_law_singles"] (spF K [.bor,.bor] .t jy)) (bG:mg "len" = none) (cM:mg "sorted" = none) (gH:mg "tuple" = none):Def P w K mg base 2 "_law_due" ["_law_width", "_law_rows", "_law_gates"] (spF K [.bor,.bor,.bor] .f kJ):=
 dX (N:=["_law_width", "_law_rows", "_law_gates", "_law_full", "_law_words", "_law_found", "_law_gate"]) (fs:=[.bor,.bor,.bor]) (O:=[.bor,.bor,.bor,.imm,.imm,.own,.imm]) (O':=[]) (Ol:=[]) (rm:=.f) F lN rfl (by decide) (by decide) fun f cdv A outer s H E hr=>
 (aD (O1:=[.bor,.bor,.bor,.imm,.imm,.own,.imm]) (aR 3 lN.nd rfl (cb rfl) (aJ q8 (sp (aJ Pb (sp ao) (ak 0))) (sp ao)))
  (aD (O1:=[.bor,.bor,.bor,.imm,.own,.own,.imm]) (vZ 4 ["_law_gate"] [] (Ob:=[.imm]) (O1:=[.imm]) (is:=[0]) lN.nd rfl (cb rfl) rfl rfl rfl rfl (by decide) (uv (ak 2)) (fun _ _ _ _ _=>(bZ 0 (show qB (["_law_gate"]:List Str) by decide +kernel) rfl (cb rfl))) (fun _ _ _ _ _=>(wV (bh (Yt hr.nJ) (ak 0) (sp (bN (az (bN (az ao (az ao aK))) (az (bN (az ao (az ao aK))) (az (bN (az ao (az ao aK))) aK))))) rfl))) (fun _ _ _ _ _=>(aO 0)))
  (aD (O1:=[.bor,.bor,.bor,.imm,.own,.own,.imm]) (kO 5 lN.nd rfl (cb rfl) (oY nR (hr.mono (by decide)) rfl (au (ak 1) (au (sp (qO (gb hr.units) (ak 4) (sfp (bF aK)) (aZ _))) aG))))
  (aD (O1:=[.bor,.bor,.bor,.imm,.own,.own,.imm]) (fC fo rfl [6] (Oe:=[.bor,.bor,.bor,.imm,.own,.own,.imm]) (jX (pO 2)) (bZ 6 lN.nd rfl (cb rfl)) (aD (O1:=[.bor,.bor,.bor,.imm,.own,.own,.imm]) (cP (mR (yF (bh (gb hr.units) (ak 6) (sp (bN (az ao (az ao aK)))) (aZ _)) (vM (bh gh (sp (bB cD rfl bG (show bo "len" = some (.builtin "len") by decide +kernel) (au (ak 1) aG))) (sp ao) (aZ _))))) (aL (rA 5 hr.nJ ao fB)) cz)
  (aD (O1:=[.bor,.bor,.bor,.imm,.own,.own,.imm]) (cP (bh (gb hr.units) (ak 6) (sp (bN (az ao (az ao aK)))) (aZ _)) (aL (rA 5 hr.nJ ao fB)) cz)
  (aL (cP (bh (gb hr.units) (ak 6) (sp (bN (az ao (az ao aK)))) (aZ _)) (aL (rA 5 hr.nJ (aO 3) fB)) cz)))) (by decide))
  (aL (bW (qw sS rfl gH (show bo "tuple" = some (.type "tuple") by decide +kernel) (au (sfp (ye (Ke rfl) rfl cM (show bo "sorted" = some (.builtin "sorted") by decide +kernel) (au (ak 5) aG))) aG))))))))
theorem Es (F:At K mg "_law_power" jh ["_law_many", "_law_inputs"]) (b7:mg "range" = none):Def P w K mg base 1 "_law_power" ["_law_many", "_law_inputs"] (spF K [.bor,.bor] .f gk):=
 dX (N:=["_law_many", "_law_inputs", "_law_count", "_law_k"]) (fs:=[.bor,.bor]) (O:=[.bor,.bor,.imm,.imm]) (O':=[]) (Ol:=[]) (rm:=.f) F lU rfl (by decide) (by decide) fun f cdv A outer s H E hr=>
 (aD (O1:=[.bor,.bor,.imm,.imm]) (aR 2 lU.nd rfl (cb rfl) ao)
  (aD (O1:=[.bor,.bor,.imm,.imm]) (fC fo rfl [3] (Oe:=[.bor,.bor,.imm,.imm]) (jo rfl b7 (ak 1)) (bZ 3 lU.nd rfl (cb rfl)) (aL (aR 2 lU.nd rfl (cb rfl) (aJ jt (ak 2) (ak 0)))) (by decide))
  (aL (bW (aO 2)))))
theorem Gr (F:At K mg "_law_said" jN ["_law_which", "_law_gate", "_law_width", "_law_rows", "_law_gates"]) (xQ:Def P w K mg base 5 "closed" ["relation", "gates"] (spF K [.bor,.bor] .f gB)) (zP:Def P w K mg base 5 "keeps" ["gate", "relation"] (spF K [.imm,.bor] .f jR)) (iK:Def P w K mg base 4 "broken" ["gate", "relation"] (spF K [.imm,.bor] .f d8)) {aM wN:Addr} (qG:mg "GateError" = some (.ref wN)) (FQ:su K aM wN) (kI:DefX P w K mg base 4 "broken" ["gate", "relation"] (spZ K [.imm,.bor] (fun _=>aM) ju)) (t8:DefX P w K mg base 5 "closed" ["relation", "gates"] (spZ K [.bor,.bor] (fun _=>aM) mC)) (xM:DefX P w K mg base 5 "keeps" ["gate", "relation"] (spZ K [.imm,.bor] (fun _=>aM) oX)) (nO:Def P w K mg base 1 "_law_marks" ["_law_caught"] (spE K aM eY)):Def P w K mg base 6 "_law_said" ["_law_which", "_law_gate", "_law_width", "_law_rows", "_law_gates"] (spF K [.bor,.imm,.imm,.imm,.bor] .f bD):=
 dX (N:=["_law_which", "_law_gate", "_law_width", "_law_rows", "_law_gates", "_law_found", "_law_caught", "e"]) (fs:=[.bor,.imm,.imm,.imm,.bor]) (O:=[.bor,.imm,.imm,.imm,.bor,.imm,.imm,.imm]) (O':=[]) (Ol:=[]) (rm:=.f) F ig rfl (by decide) (by decide) fun f cdv A outer s H E hr=>
 (aD (O1:=[.bor,.imm,.imm,.imm,.bor,.imm,.imm,.imm]) (aR 5 ig.nd rfl (cb rfl) m6)
  (aD (O1:=[.bor,.imm,.imm,.imm,.bor,.imm,.imm,.imm]) (aR 6 ig.nd rfl (cb rfl) m6)
  (QF 7 6 (O1:=[.bor,.imm,.imm,.imm,.bor,.imm,.imm,.imm]) (fun _ _ h=>h) rfl rfl rfl ig.nd (aD (O1:=[.bor,.imm,.imm,.imm,.bor,.imm,.imm,.imm]) (cP (bh (gb hr.units) (ak 0) (sp ao) (aZ _)) (aL (aR 5 ig.nd rfl (cb rfl) (bf xQ (hr.mono (by decide)) rfl (au (sp (bN (az (aO 2) (az (aO 3) aK)))) (au (ak 4) aG))))) cz)
  (aD (O1:=[.bor,.imm,.imm,.imm,.bor,.imm,.imm,.imm]) (cP (bh (gb hr.units) (ak 0) (sp ao) (aZ _)) (aL (aR 5 ig.nd rfl (cb rfl) (bf zP (hr.mono (by decide)) rfl (bH (aO 1) (au (sp (bN (az (aO 2) (az (aO 3) aK)))) aG))))) cz)
  (aL (cP (bh (gb hr.units) (ak 0) (sp ao) (aZ _)) (aL (aR 5 ig.nd rfl (cb rfl) (sfe (bF (az (bf iK (hr.mono (by decide)) rfl (bH (aO 1) (au (sp (bN (az (aO 2) (az (aO 3) aK)))) aG))) aK))))) cz)))) (Gi (fun _ _ h=>h) (bh (gb hr.units) (ak 0) (sp ao) (aZ _)) (Mg (fun _ _ h=>h) t8 (hr.mono (by decide)) rfl (au (sp (bN (az (aO 2) (az (aO 3) aK)))) (au (ak 4) aG))) (Gi (fun _ _ h=>h) (bh (gb hr.units) (ak 0) (sp ao) (aZ _)) (Mg (fun _ _ h=>h) xM (hr.mono (by decide)) rfl (bH (aO 1) (au (sp (bN (az (aO 2) (az (aO 3) aK)))) aG))) (Gi (fun _ _ h=>h) (bh (gb hr.units) (ak 0) (sp ao) (aZ _)) (Ui (fun _ _ h=>h) kI (hr.mono (by decide)) rfl (bH (aO 1) (au (sp (bN (az (aO 2) (az (aO 3) aK)))) aG))) U5)))
  (aD (O1:=[.bor,.imm,.imm,.imm,.bor,.imm,.imm,.imm]) (cP (bh Gn (ak 6) (sp m6) (aZ _)) (aL (bW (aO 5))) cz)
  (aD (O1:=[.bor,.imm,.imm,.imm,.bor,.imm,.imm,.imm]) (cP (bh (gb hr.units) (sp Yn) (sp (aJ bY (sp (aJ bY (sfp (bF (az fB (az fB aK)))) (sfp (vA (bF (az fB aK)) (sp ao))))) (sfp (bF (az fB aK))))) (aZ _)) (aL (bW jr)) cz)
  (aL (bW jr))))
  (aD (O1:=[.bor,.imm,.imm,.imm,.bor,.imm,.exc aM,.imm]) (cP (Xm 6 rfl) (aL (bW (aO 5))) cz)
  (aD (O1:=[.bor,.imm,.imm,.imm,.bor,.imm,.exc aM,.imm]) (cP (bh (gb hr.units) (sp (SM 6 rfl nO (hr.mono (by decide)) rfl)) (sp (aJ bY (sp (aJ bY (sfp (bF (az fB (az fB aK)))) (sfp (vA (bF (az fB aK)) (sp ao))))) (sfp (bF (az fB aK))))) (aZ _)) (aL (bW jr)) cz)
  (aL (bW jr)))) rfl rfl rfl (cb rfl) FQ rfl qG (by decide) (of_decide_eq_true rfl))))
theorem Ck (F:At K mg "_law_bounds" iD ["_law_cell_here"]) (gD:Def P w K mg base 1 "_law_power" ["_law_many", "_law_inputs"] (spF K [.bor,.bor] .f gk)) (dq:Def P w K mg base 6 "_law_said" ["_law_which", "_law_gate", "_law_width", "_law_rows", "_law_gates"] (spF K [.bor,.imm,.imm,.imm,.bor] .f bD)) (bG:mg "len" = none) (b7:mg "range" = none) (cM:mg "sorted" = none) (gH:mg "tuple" = none):Def P w K mg base 7 "_law_bounds" ["_law_cell_here"] (spF K [.bor] .f jz):=
 dX (N:=["_law_cell_here", "_law_gate", "_law_many", "_law_rows", "_law_which", "_law_due_here", "_law_few", "_law_twice"]) (fs:=[.bor]) (O:=[.bor,.imm,.imm,.imm,.imm,.imm,.imm,.imm]) (O':=[]) (Ol:=[]) (rm:=.f) F cU rfl (by decide) (by decide) fun f cdv A outer s H E hr=>
 (aD (O1:=[.bor,.imm,.imm,.imm,.imm,.imm,.imm,.imm]) (Wa (dw (sfp (bF (az (bN (az (bN (az ao (az ao aK))) (az ao aK))) (az (bN (az (bN (az ao (az ao aK))) (az ao aK))) (az (bN (az (bN (az ao (az ao aK))) (az ao aK))) (az (bN (az (bN (az ao (az ao aK))) (az ao aK))) aK)))))) (sp (aJ gQ (ak 0) (sp ao))) (fun _ _=>rfl)) (Wk rfl (Fw (O1:=[.bor,.imm,.imm,.imm,.imm,.imm,.imm,.imm]) (bZ 1 cU.nd rfl (cb rfl)) (Fw (O1:=[.bor,.imm,.imm,.imm,.imm,.imm,.imm,.imm]) (bZ 2 cU.nd rfl (cb rfl)) V7))))
  (aD (O1:=[.bor,.imm,.imm,.imm,.imm,.imm,.imm,.imm]) (aR 2 cU.nd rfl (cb rfl) (aJ bY (ak 2) (sp (aJ gQ (sp (aJ jT (ak 0) (sp ao))) (sp ao)))))
  (aD (O1:=[.bor,.imm,.imm,.imm,.imm,.imm,.imm,.imm]) (aR 3 cU.nd rfl (cb rfl) (qw sS rfl gH (show bo "tuple" = some (.type "tuple") by decide +kernel) (au (sfp (ye Av rfl cM (show bo "sorted" = some (.builtin "sorted") by decide +kernel) (au (sfp (qT ["_law_k"] [0] (Ob:=[.imm,.bor]) (O1:=[.imm,.bor]) (is:=[0]) rfl rfl rfl rfl (by decide) (ux rfl b7 (ak 2)) (fun _ _ _ _ _=>(bZ 0 (show qB (["_law_k", "_law_cell_here"]:List Str) by decide +kernel) rfl (cb rfl))) (fun _ _ _ _ _=>mF) (fun _ _ _ _ _=>(aJ gQ (sp (aJ bY (sp (aJ jt (ak 0) (sp ao))) (sp (aJ jT (ak 1) (sp ao))))) (sp ao))))) aG))) aG)))
  (aD (O1:=[.bor,.imm,.imm,.imm,.imm,.imm,.imm,.imm]) (aR 4 cU.nd rfl (cb rfl) (aJ bY (sp ao) (sp (aJ gQ (sp (aJ jT (ak 0) (sp ao))) (sp ao)))))
  (aD (O1:=[.bor,.imm,.imm,.imm,.imm,.imm,.imm,.imm]) (aR 5 cU.nd rfl (cb rfl) (dw (sfp (bF (az fB (az (sfe (bF (az m6 aK))) aK)))) (sp (aJ q8 (ak 4) (sp ao))) (fun _ _=>rfl)))
  (aD (O1:=[.bor,.imm,.imm,.imm,.imm,.imm,.imm,.imm]) (cP (bh gh (sp (bf gD (hr.mono (by decide)) rfl (au (ak 2) (au (sp (dw (ak 1) (sp ao) (fun _ _=>rfl))) aG)))) (sp ao) (aZ _)) (aL (aR 5 cU.nd rfl (cb rfl) jr)) cz)
  (aD (O1:=[.bor,.imm,.imm,.imm,.imm,.imm,.imm,.imm]) (cP (bh (tu hr.units) (sp (bf dq (hr.mono (by decide)) rfl (au (ak 4) (bH (aO 1) (bH ao (bH (aO 3) (au (sfp (bF aK)) aG))))))) (ak 5) (aZ _)) (aL (bW fB)) cz)
  (aD (O1:=[.bor,.imm,.imm,.imm,.imm,.imm,.imm,.imm]) (cP (mR (yF (bh gh (ak 2) (sp ao) (aZ _)) (vM (bh (tu hr.units) (sp (bf dq (hr.mono (by decide)) rfl (au (sp ao) (bH (aO 1) (bH ao (bH (aO 3) (au (sfp (bF aK)) aG))))))) (sp jr) (aZ _))))) (aL (bW fB)) cz)
  (aD (O1:=[.bor,.imm,.imm,.imm,.imm,.imm,.imm,.imm]) (cP (mR (wg (bh gh (ak 2) (sp ao) (aZ _)) (qM (bh (gb hr.units) (ak 5) (sp jr) (aZ _))))) (aL (bW (qO (gb hr.units) (sp (bf dq (hr.mono (by decide)) rfl (au (sp ao) (bH (aO 1) (bH ao (bH (aO 3) (au (sfp (bF (az (aO 1) aK))) aG))))))) (sp jr) (aZ _)))) cz)
  (aD (O1:=[.bor,.imm,.imm,.imm,.imm,.imm,.imm,.imm]) (aR 6 cU.nd rfl (cb rfl) (Kg (ak 3) zN (Ac (sp (aJ bY (sp ao) (sp (aJ gQ (sp (aJ jT (ak 0) (sp ao))) (sp ao))))))))
  (aD (O1:=[.bor,.imm,.imm,.imm,.imm,.imm,.imm,.imm]) (aR 7 cU.nd rfl (cb rfl) jr)
  (aD (O1:=[.bor,.imm,.imm,.imm,.imm,.imm,.imm,.imm]) (cP (bh J4 (sp (bB cD rfl bG (show bo "len" = some (.builtin "len") by decide +kernel) (au (ak 6) aG))) (sp ao) (aZ _)) (aL (aR 7 cU.nd rfl (cb rfl) (bN (az ao (az (aO 6) aK))))) cz)
  (aD (O1:=[.bor,.imm,.imm,.imm,.imm,.imm,.imm,.imm]) (cP (bh (tu hr.units) (sp (bf dq (hr.mono (by decide)) rfl (au (sp ao) (bH (aO 1) (bH ao (bH (aO 6) (au (sfp (bF (az (bN (az ao (az ao aK))) (az (bN (az ao (az ao aK))) aK)))) aG))))))) (ak 7) (aZ _)) (aL (bW fB)) cz)
  (aL (bW (ZC (qO Td (ak 2) (sp ao) (aZ _)) (Wn (qO (gb hr.units) (sp (bf dq (hr.mono (by decide)) rfl (au (sp ao) (bH (aO 1) (bH ao (bH (aO 3) (au (sp (Kg (sfp (bF (az (aO 1) aK))) zN (Ac (sp (aJ gQ (sp (aJ jT (ak 0) (sp ao))) (sp ao)))))) aG))))))) (sp (bN (az ao (az (aO 3) aK)))) (aZ _)))))))))))))))))))
theorem Wd {fa:Addr}{fd:om} (F:Fun K "law" "law" oF fa fd) (je:Def P w K mg base 1 "_law_cell" ["_law_script", "_law_k"] (spF K [.bor,.bor] .f dz)) (rJ:Def P w K mg base 2 "_law_due" ["_law_width", "_law_rows", "_law_gates"] (spF K [.bor,.bor,.bor] .f kJ)) (dq:Def P w K mg base 6 "_law_said" ["_law_which", "_law_gate", "_law_width", "_law_rows", "_law_gates"] (spF K [.bor,.imm,.imm,.imm,.bor] .f bD)) (n6:Def P w K mg base 7 "_law_bounds" ["_law_cell_here"] (spF K [.bor] .f jz)) (gD:Def P w K mg base 1 "_law_power" ["_law_many", "_law_inputs"] (spF K [.bor,.bor] .f gk)) (bG:mg "len" = none) (jV:mg "list" = none) (Je:mg "min" = none) (b7:mg "range" = none) (cM:mg "sorted" = none) (vV:mg "sum" = none) (gH:mg "tuple" = none):n8 P w K mg base CX0 8 fa fd ["_law_script"] (spF K [.bor] .f rG):=
 Up (N:=["_law_script", "_law_cell_here", "_law_width", "_law_left", "_law_rows", "_law_k", "_law_some", "_law_gates", "_law_begun", "_law_due_here", "_law_work", "_law_found", "_law_gate", "_law_which", "_law_told"]) (fs:=[.bor]) (O:=[.bor,.imm,.imm,.own,.own,.imm,.imm,.own,.imm,.imm,.imm,.imm,.imm,.imm,.imm]) (O':=[]) (Ol:=[]) (rm:=.f) F fM rfl (by decide) (by decide) fun f cdv A outer s H E hr=>
 (aD (O1:=[.bor,.imm,.imm,.own,.own,.imm,.imm,.own,.imm,.imm,.imm,.imm,.imm,.imm,.imm]) (aR 1 fM.nd rfl (cb rfl) (bf je (hr.mono (by decide)) rfl (au (ak 0) (au (sp ao) aG))))
  (aD (O1:=[.bor,.imm,.imm,.own,.own,.imm,.imm,.own,.imm,.imm,.imm,.imm,.imm,.imm,.imm]) (aR 2 fM.nd rfl (cb rfl) (aJ bY (sp ao) (sp (aJ gQ (ak 1) (sp ao)))))
  (aD (O1:=[.bor,.imm,.imm,.own,.own,.imm,.imm,.own,.imm,.imm,.imm,.imm,.imm,.imm,.imm]) (vZ 3 ["_law_k"] [] (Ob:=[.imm]) (O1:=[.imm]) (is:=[0]) fM.nd rfl (cb rfl) rfl rfl rfl rfl (by decide) (ux rfl b7 (ak 2)) (fun _ _ _ _ _=>(bZ 0 (show qB (["_law_k"]:List Str) by decide +kernel) rfl (cb rfl))) (fun _ _ _ _ _=>mF) (fun _ _ _ _ _=>(aO 0)))
  (aD (O1:=[.bor,.imm,.imm,.own,.own,.imm,.imm,.own,.imm,.imm,.imm,.imm,.imm,.imm,.imm]) (kO 4 fM.nd rfl (cb rfl) (bF aK))
  (aD (O1:=[.bor,.imm,.imm,.own,.own,.imm,.imm,.own,.imm,.imm,.imm,.imm,.imm,.imm,.imm]) (fC fo rfl [5] (Oe:=[.bor,.imm,.imm,.own,.own,.imm,.imm,.own,.imm,.imm,.imm,.imm,.imm,.imm,.imm]) (jo rfl b7 (sp (bB (XC rfl) rfl Je (show bo "min" = some (.builtin "min") by decide +kernel) (au (ak 2) (au (sp (aJ bY (sp ao) (sp (aJ gQ (sp (aJ jT (ak 1) (sp ao))) (sp ao))))) aG))))) (bZ 5 fM.nd rfl (cb rfl)) (aL (Lz 4 3 (aJ gQ (sp (bf je (hr.mono (by decide)) rfl (au (ak 0) (au (sp (aJ bY (sp ao) (ak 5))) aG)))) (sp (bB cD rfl bG (show bo "len" = some (.builtin "len") by decide +kernel) (au (ak 3) aG)))))) (by decide))
  (aD (O1:=[.bor,.imm,.imm,.own,.own,.imm,.imm,.own,.imm,.imm,.imm,.imm,.imm,.imm,.imm]) (aR 6 fM.nd rfl (cb rfl) (sfe (bF (az (bN (az ao (az ao aK))) (az (bN (az ao (az ao aK))) (az (bN (az ao (az ao aK))) (az (bN (az ao (az ao aK))) (az (bN (az ao (az ao aK))) (az (bN (az ao (az ao aK))) (az (bN (az ao (az ao aK))) aK))))))))))
  (aD (O1:=[.bor,.imm,.imm,.own,.own,.imm,.imm,.own,.imm,.imm,.imm,.imm,.imm,.imm,.imm]) (kO 7 fM.nd rfl (cb rfl) (bF aK))
  (aD (O1:=[.bor,.imm,.imm,.own,.own,.imm,.imm,.own,.imm,.imm,.imm,.imm,.imm,.imm,.imm]) (fC fo rfl [5] (Oe:=[.bor,.imm,.imm,.own,.own,.imm,.imm,.own,.imm,.imm,.imm,.imm,.imm,.imm,.imm]) (jo rfl b7 (sp (aJ gQ (sp (aJ jT (ak 1) (sp ao))) (sp ao)))) (bZ 5 fM.nd rfl (cb rfl)) (aL (Gq 7 (dw (ak 6) (sp (aJ gQ (sp (aJ jT (sp (bf je (hr.mono (by decide)) rfl (au (ak 0) (au (sp (aJ bY (sp ao) (ak 5))) aG)))) (sp ao))) (sp ao))) (fun _ _=>rfl)))) (by decide))
  (aD (O1:=[.bor,.imm,.imm,.own,.own,.imm,.imm,.own,.imm,.imm,.imm,.imm,.imm,.imm,.imm]) (aR 8 fM.nd rfl (cb rfl) (qw sS rfl gH (show bo "tuple" = some (.type "tuple") by decide +kernel) (au (sfp (ye Av rfl cM (show bo "sorted" = some (.builtin "sorted") by decide +kernel) (au (ak 4) aG))) aG)))
  (aD (O1:=[.bor,.imm,.imm,.own,.own,.imm,.imm,.own,.imm,.imm,.imm,.imm,.imm,.imm,.imm]) (aR 9 fM.nd rfl (g9 rfl) (bf rJ (hr.mono (by decide)) rfl (au (ak 2) (au (ak 4) (au (ak 7) aG)))))
  (aD (O1:=[.bor,.imm,.imm,.own,.own,.imm,.imm,.own,.imm,.imm,.imm,.imm,.imm,.imm,.imm]) (aR 10 fM.nd rfl (cb rfl) (bB (Ow rfl) rfl vV (show bo "sum" = some (.builtin "sum") by decide +kernel) (au (sfp (qT ["_law_gate"] [9] (Ob:=[.imm,.imm]) (O1:=[.imm,.imm]) (is:=[0]) rfl rfl rfl rfl (by decide) (uv (ak 7)) (fun _ _ _ _ _=>(bZ 0 (show qB (["_law_gate", "_law_due_here"]:List Str) by decide +kernel) rfl (cb rfl))) (fun _ _ _ _ _=>mF) (fun _ _ _ _ _=>(bf gD (hr.mono (by decide)) rfl (au (sp (bB cD rfl bG (show bo "len" = some (.builtin "len") by decide +kernel) (au (ak 1) aG))) (au (sp (dw (ak 0) (sp ao) (fun _ _=>rfl))) aG)))))) aG)))
  (aD (O1:=[.bor,.imm,.imm,.own,.own,.imm,.imm,.own,.imm,.imm,.imm,.imm,.imm,.imm,.imm]) (aR 11 fM.nd rfl (cb rfl) (bf dq (hr.mono (by decide)) rfl (au (sp ao) (bH (bN (az ao (az ao aK))) (bH (aO 2) (bH (aO 8) (au (sfp (ql vK rfl jV (show bo "list" = some (.type "list") by decide +kernel) (au (ak 7) aG))) aG)))))))
  (aD (O1:=[.bor,.imm,.imm,.own,.own,.imm,.imm,.own,.imm,.imm,.imm,.imm,.imm,.imm,.imm]) (cP (mR (wg (bh gh (sp (bB cD rfl bG (show bo "len" = some (.builtin "len") by decide +kernel) (au (ak 9) aG))) (sp ao) (aZ _)) (qM (bh gh (ak 10) (sp ao) (aZ _))))) (aL (cP (bh (tu hr.units) (ak 11) (sp jr) (aZ _)) (aL (bW fB)) cz)) (aL (cP (bh (tu hr.units) (ak 11) (sp (bN (az (aO 2) (az (aO 9) aK)))) (aZ _)) (aL (bW fB)) cz)))
  (aD (O1:=[.bor,.imm,.imm,.own,.own,.imm,.imm,.own,.imm,.imm,.imm,.imm,.imm,.imm,.imm]) (cP (mR (yF (bh J4 (sp (bB cD rfl bG (show bo "len" = some (.builtin "len") by decide +kernel) (au (ak 9) aG))) (sp ao) (aZ _)) (vM (bh (tu hr.units) (sp (bf dq (hr.mono (by decide)) rfl (au (sp ao) (bH (bN (az ao (az ao aK))) (bH (aO 2) (bH (aO 9) (au (sfp (ql vK rfl jV (show bo "list" = some (.type "list") by decide +kernel) (au (ak 7) aG))) aG))))))) (ak 11) (aZ _))))) (aL (bW fB)) cz)
  (aD (O1:=[.bor,.imm,.imm,.own,.own,.imm,.imm,.own,.imm,.imm,.imm,.imm,.imm,.imm,.imm]) (fC fo rfl [12,13,14] (Oe:=[.bor,.imm,.imm,.own,.own,.imm,.imm,.own,.imm,.imm,.imm,.imm,.imm,.imm,.imm]) (jX (sq (Kg (ak 7) zN (Ac (sp ao))))) (bZ 12 fM.nd rfl (cb rfl)) (aL (cP (mR (yF (bh J4 (sp (bB cD rfl bG (show bo "len" = some (.builtin "len") by decide +kernel) (au (ak 9) aG))) (sp ao) (aZ _)) (vM (bh (Ca hr.nJ) (sp (bN (az ao (az ao aK)))) (ak 7) rfl)))) (aD (O1:=[.bor,.imm,.imm,.own,.own,.imm,.imm,.own,.imm,.imm,.imm,.imm,.imm,.imm,.imm]) (aR 13 fM.nd rfl (cb rfl) (aJ bY (sp ao) (sp (aJ gQ (sp (aJ jT (ak 1) (sp ao))) (sp ao)))))
  (aD (O1:=[.bor,.imm,.imm,.own,.own,.imm,.imm,.own,.imm,.imm,.imm,.imm,.imm,.imm,.imm]) (aR 14 fM.nd rfl (cb rfl) (dw (sfp (bF (az fB (az (sfe (bF (az m6 aK))) aK)))) (sp (aJ q8 (ak 13) (sp ao))) (fun _ _=>rfl)))
  (aD (O1:=[.bor,.imm,.imm,.own,.own,.imm,.imm,.own,.imm,.imm,.imm,.imm,.imm,.imm,.imm]) (cP (bh gh (sp (bf gD (hr.mono (by decide)) rfl (au (sp (bB cD rfl bG (show bo "len" = some (.builtin "len") by decide +kernel) (au (ak 9) aG))) (au (sp (dw (ak 12) (sp ao) (fun _ _=>rfl))) aG)))) (sp ao) (aZ _)) (aL (aR 14 fM.nd rfl (cb rfl) jr)) cz)
  (aL (cP (bh (tu hr.units) (sp (bf dq (hr.mono (by decide)) rfl (au (ak 13) (bH (aO 12) (bH (aO 2) (bH (aO 9) (au (sfp (bF aK)) aG))))))) (ak 14) (aZ _)) (aL (bW fB)) cz))))) cz)) (by decide))
  (aL (bW (bf n6 (hr.mono (by decide)) rfl (au (sp (bf je (hr.mono (by decide)) rfl (au (ak 0) (au (sp ao) aG)))) aG)))))))))))))))))))
end
theorem all_mk {l:ve}{w:eI}{K:ag}{h:Heap}{mg:Str→Option ai}{fa:Addr} (X:K.In h) (G:h.Ns b6 mg) (hfa:mg "law" = some (.ref fa))
 {f0:Addr}{od0 an0:Option Addr}{sl0:Array (Option ai)}{oc0 kV0 dc0 pm0 cd0 ct0:ai}
 {f1:Addr}{od1 an1:Option Addr}{sl1:Array (Option ai)}{oc1 kV1 dc1 pm1 cd1 ct1:ai}
 {f2:Addr}{od2 an2:Option Addr}{sl2:Array (Option ai)}{oc2 kV2 dc2 pm2 cd2 ct2:ai}
 {f3:Addr}{od3 an3:Option Addr}{sl3:Array (Option ai)}{oc3 kV3 dc3 pm3 cd3 ct3:ai}
 {f4:Addr}{od4 an4:Option Addr}{sl4:Array (Option ai)}{oc4 kV4 dc4 pm4 cd4 ct4:ai}
 {f5:Addr}{od5 an5:Option Addr}{sl5:Array (Option ai)}{oc5 kV5 dc5 pm5 cd5 ct5:ai}
 {f6:Addr}{od6 an6:Option Addr}{sl6:Array (Option ai)}{oc6 kV6 dc6 pm6 cd6 ct6:ai}
 {f7:Addr}{od7 an7:Option Addr}{sl7:Array (Option ai)}{oc7 kV7 dc7 pm7 cd7 ct7:ai}
 {f8:Addr}{od8 an8:Option Addr}{sl8:Array (Option ai)}{oc8 kV8 dc8 pm8 cd8 ct8:ai}
 {f9:Addr}{od9 an9:Option Addr}{sl9:Array (Option ai)}{oc9 kV9 dc9 pm9 cd9 ct9:ai}
 {f10:Addr}{acd abQ:Option Addr}{ab5:Array (Option ai)}{aaf aaZ aa1 acy Yq ab2:ai}
 {f11:Addr}{abX aal:Option Addr}{aax:Array (Option ai)}{aaL aaQ abJ aby Wr aa0:ai}
 {f12:Addr}{aci aap:Option Addr}{aaJ:Array (Option ai)}{abW aaz acv ab1 YS aaj:ai}
 {f13:Addr}{acq abl:Option Addr}{aas:Array (Option ai)}{abT abB abv aai XQ acr:ai}
 {f14:Addr}{acf ab8:Option Addr}{ace:Array (Option ai)}{ab6 aao aaP ach XR abS:ai}
 {f15:Addr}{abn abr:Option Addr}{abi:Array (Option ai)}{Z9 aar aaE aa7 X5 aa6:ai}
 {f16:Addr}{ab7 aav:Option Addr}{aad:Array (Option ai)}{aay aat abG aa5 WT acu:ai}
 {f17:Addr}{abK Z5:Option Addr}{acs:Array (Option ai)}{aaT aaR aam Z6 W7 aaN:ai}
 {f18:Addr}{aaC abM:Option Addr}{abZ:Array (Option ai)}{aca ab0 Z3 abh Xa abz:ai}
 {f19:Addr}{acx acA:Option Addr}{abR:Array (Option ai)}{aaq aaH aaD abw Yu abP:ai}
 {f20:Addr}{aac aa9:Option Addr}{abg:Array (Option ai)}{aaF abH abj abm Xr abE:ai}
 {f21:Addr}{aaM Z7:Option Addr}{aba:Array (Option ai)}{acz abf aak acC WR abL:ai}
 {f22:Addr}{aab Yc:Option Addr}{ab3:Array (Option ai)}{aaV Wc Yv Yz PX Yj:ai}
 {uD:Tok}
 {Em:Tok}
 {cC:Addr}
 {jY:Addr}
 {wW:Addr}
 {pL:Addr}
 {zO:Addr}
 {xJ:Addr}
 {yf:Addr}
 {uf:Addr}
 {yh:Addr}
 (a0:cE K b6 "row_count" = some (some (.ref f0))) (l0:K.lookup f0=some ⟨oc0,od0,.func (cf "row_count" "row_count" (bc jd) (aU jd) (aC jd) .none kV0 dc0 pm0 an0 cd0 ct0),sl0⟩) (c0:eu K cd0 "row_count" = true) (k0:dS K (.ref f0)=true)
 (a1:cE K b6 "bit" = some (some (.ref f1))) (l1:K.lookup f1=some ⟨oc1,od1,.func (cf "bit" "bit" (bc vN) (aU vN) (aC vN) .none kV1 dc1 pm1 an1 cd1 ct1),sl1⟩) (c1:eu K cd1 "bit" = true) (k1:dS K (.ref f1)=true)
 (a2:cE K b6 "put_all" = some (some (.ref f2))) (l2:K.lookup f2=some ⟨oc2,od2,.func (cf "put_all" "put_all" (bc kZ) (aU kZ) (aC kZ) .none kV2 dc2 pm2 an2 cd2 ct2),sl2⟩) (c2:eu K cd2 "put_all" = true) (k2:dS K (.ref f2)=true)
 (a3:cE K b6 "gathered" = some (some (.ref f3))) (l3:K.lookup f3=some ⟨oc3,od3,.func (cf "gathered" "gathered" (bc jO) (aU jO) (aC jO) .none kV3 dc3 pm3 an3 cd3 ct3),sl3⟩) (c3:eu K cd3 "gathered" = true) (k3:dS K (.ref f3)=true)
 (a4:cE K b6 "marked" = some (some (.ref f4))) (l4:K.lookup f4=some ⟨oc4,od4,.func (cf "marked" "marked" (bc mq) (aU mq) (aC mq) .none kV4 dc4 pm4 an4 cd4 ct4),sl4⟩) (c4:eu K cd4 "marked" = true) (k4:dS K (.ref f4)=true)
 (a5:cE K b6 "put_rows" = some (some (.ref f5))) (l5:K.lookup f5=some ⟨oc5,od5,.func (cf "put_rows" "put_rows" (bc jP) (aU jP) (aC jP) .none kV5 dc5 pm5 an5 cd5 ct5),sl5⟩) (c5:eu K cd5 "put_rows" = true) (k5:dS K (.ref f5)=true)
 (a6:cE K b6 "power" = some (some (.ref f6))) (l6:K.lookup f6=some ⟨oc6,od6,.func (cf "power" "power" (bc oW) (aU oW) (aC oW) .none kV6 dc6 pm6 an6 cd6 ct6),sl6⟩) (c6:eu K cd6 "power" = true) (k6:dS K (.ref f6)=true)
 (a7:cE K b6 "list_count" = some (some (.ref f7))) (l7:K.lookup f7=some ⟨oc7,od7,.func (cf "list_count" "list_count" (bc iC) (aU iC) (aC iC) .none kV7 dc7 pm7 an7 cd7 ct7),sl7⟩) (c7:eu K cd7 "list_count" = true) (k7:dS K (.ref f7)=true)
 (a8:cE K b6 "lists_of" = some (some (.ref f8))) (l8:K.lookup f8=some ⟨oc8,od8,.func (cf "lists_of" "lists_of" (bc jL) (aU jL) (aC jL) .none kV8 dc8 pm8 an8 cd8 ct8),sl8⟩) (c8:eu K cd8 "lists_of" = true) (k8:dS K (.ref f8)=true)
 (a9:cE K b6 "broken" = some (some (.ref f9))) (l9:K.lookup f9=some ⟨oc9,od9,.func (cf "broken" "broken" (bc j9) (aU j9) (aC j9) .none kV9 dc9 pm9 an9 cd9 ct9),sl9⟩) (c9:eu K cd9 "broken" = true) (k9:dS K (.ref f9)=true)
 (a10:cE K b6 "keeps" = some (some (.ref f10))) (l10:K.lookup f10=some ⟨aaf,acd,.func (cf "keeps" "keeps" (bc mD) (aU mD) (aC mD) .none aaZ aa1 acy abQ Yq ab2),ab5⟩) (c10:eu K Yq "keeps" = true) (k10:dS K (.ref f10)=true)
 (a11:cE K b6 "fresh_lists" = some (some (.ref f11))) (l11:K.lookup f11=some ⟨aaL,abX,.func (cf "fresh_lists" "fresh_lists" (bc gG) (aU gG) (aC gG) .none aaQ abJ aby aal Wr aa0),aax⟩) (c11:eu K Wr "fresh_lists" = true) (k11:dS K (.ref f11)=true)
 (a12:cE K b6 "given_rows" = some (some (.ref f12))) (l12:K.lookup f12=some ⟨abW,aci,.func (cf "given_rows" "given_rows" (bc ik) (aU ik) (aC ik) .none aaz acv ab1 aap YS aaj),aaJ⟩) (c12:eu K YS "given_rows" = true) (k12:dS K (.ref f12)=true)
 (a13:cE K b6 "refuse_too_many" = some (some (.ref f13))) (l13:K.lookup f13=some ⟨abT,acq,.func (cf "refuse_too_many" "refuse_too_many" (bc dC) (aU dC) (aC dC) .none abB abv aai abl XQ acr),aas⟩) (c13:eu K XQ "refuse_too_many" = true) (k13:dS K (.ref f13)=true)
 (a14:cE K b6 "closed" = some (some (.ref f14))) (l14:K.lookup f14=some ⟨ab6,acf,.func (cf "closed" "closed" (bc km) (aU km) (aC km) .none aao aaP ach ab8 XR abS),ace⟩) (c14:eu K XR "closed" = true) (k14:dS K (.ref f14)=true)
 (a15:cE K b6 "_law_cell" = some (some (.ref f15))) (l15:K.lookup f15=some ⟨Z9,abn,.func (cf "_law_cell" "_law_cell" (bc jC) (aU jC) (aC jC) .none aar aaE aa7 abr X5 aa6),abi⟩) (c15:eu K X5 "_law_cell" = true) (k15:dS K (.ref f15)=true)
 (a16:cE K b6 "_law_marks" = some (some (.ref f16))) (l16:K.lookup f16=some ⟨aay,ab7,.func (cf "_law_marks" "_law_marks" (bc ji) (aU ji) (aC ji) .none aat abG aa5 aav WT acu),aad⟩) (c16:eu K WT "_law_marks" = true) (k16:dS K (.ref f16)=true)
 (a17:cE K b6 "_law_unions" = some (some (.ref f17))) (l17:K.lookup f17=some ⟨aaT,abK,.func (cf "_law_unions" "_law_unions" (bc iB) (aU iB) (aC iB) .none aaR aam Z6 Z5 W7 aaN),acs⟩) (c17:eu K W7 "_law_unions" = true) (k17:dS K (.ref f17)=true)
 (a18:cE K b6 "_law_due" = some (some (.ref f18))) (l18:K.lookup f18=some ⟨aca,aaC,.func (cf "_law_due" "_law_due" (bc kE) (aU kE) (aC kE) .none ab0 Z3 abh abM Xa abz),abZ⟩) (c18:eu K Xa "_law_due" = true) (k18:dS K (.ref f18)=true)
 (a19:cE K b6 "_law_power" = some (some (.ref f19))) (l19:K.lookup f19=some ⟨aaq,acx,.func (cf "_law_power" "_law_power" (bc jh) (aU jh) (aC jh) .none aaH aaD abw acA Yu abP),abR⟩) (c19:eu K Yu "_law_power" = true) (k19:dS K (.ref f19)=true)
 (a20:cE K b6 "_law_said" = some (some (.ref f20))) (l20:K.lookup f20=some ⟨aaF,aac,.func (cf "_law_said" "_law_said" (bc jN) (aU jN) (aC jN) .none abH abj abm aa9 Xr abE),abg⟩) (c20:eu K Xr "_law_said" = true) (k20:dS K (.ref f20)=true)
 (a21:cE K b6 "_law_bounds" = some (some (.ref f21))) (l21:K.lookup f21=some ⟨acz,aaM,.func (cf "_law_bounds" "_law_bounds" (bc iD) (aU iD) (aC iD) .none abf aak acC Z7 WR abL),aba⟩) (c21:eu K WR "_law_bounds" = true) (k21:dS K (.ref f21)=true)
 (a22:cE K b6 "law" = some (some (.ref f22))) (l22:K.lookup f22=some ⟨aaV,aab,.func (cf "law" "law" (bc oF) (aU oF) (aC oF) .none Wc Yv Yz Yc PX Yj),ab3⟩) (c22:eu K PX "law" = true) (k22:dS K (.ref f22)=true)
 (pZ:cE K b6 "ValueError" = some none)
 (pF:cE K b6 "isinstance" = some none)
 (Ks:cE K b6 "len" = some none)
 (Dp:cE K b6 "list" = some none)
 (Jv:cE K b6 "min" = some none)
 (zJ:cE K b6 "range" = some none)
 (K8:cE K b6 "set" = some none)
 (xV:cE K b6 "sorted" = some none)
 (KR:cE K b6 "sum" = some none)
 (zR:cE K b6 "tuple" = some none)
 (jx:cE K b6 "MOST_CLOSED_ROWS" = some (some (.int 128 uD)))
 (pD:cE K b6 "MOST_LISTS" = some (some (.int 20000 Em)))
 (rQ:cE K b6 "TooMany" = some (some (.ref cC)))
 (pP:cE K b6 "GateError" = some (some (.ref jY)))
 (uZ:cE K b6 "NoName" = some (some (.ref wW)))
 (nW:cE K b6 "NoRelation" = some (some (.ref pL)))
 (yc:cE K b6 "NoRow" = some (some (.ref zO)))
 (uF:cE K b6 "NoText" = some (some (.ref xJ)))
 (ud:cE K b6 "NotAll" = some (some (.ref yf)))
 (sX:cE K b6 "NotMade" = some (some (.ref uf)))
 (uY:cE K b6 "TooBig" = some (some (.ref yh)))
 (jK:ue K cC)
 (zF:(pE K jY).isSome=true) (z9:xc K (.ref jY)=some (.type "type")) (zu:mf K (.ref jY) (.type "BaseException")=some true) (Ai:mf K (.ref cC) (.ref jY)=some true)
 (yv:eL K (.ref cC) (.type "ValueError")=some true)
 (uH:eL K (.ref cC) (.ref wW)=some false) (uE:(dQ cC == dQ wW)=false)
 (nU:eL K (.ref cC) (.ref pL)=some false) (nY:(dQ cC == dQ pL)=false)
 (xN:eL K (.ref cC) (.ref zO)=some false) (xF:(dQ cC == dQ zO)=false)
 (uG:eL K (.ref cC) (.ref xJ)=some false) (uU:(dQ cC == dQ xJ)=false)
 (uo:eL K (.ref cC) (.ref yf)=some false) (uA:(dQ cC == dQ yf)=false)
 (tB:eL K (.ref cC) (.ref uf)=some false) (tL:(dQ cC == dQ uf)=false)
 (uw:eL K (.ref cC) (.ref yh)=some false) (uy:(dQ cC == dQ yh)=false)
 (yt:jU K cC) :
 ∃fd:om,(∀(s:ar) (v:ai),BindsTo s fd ⟨[v],[]⟩ [("_law_script",v)])∧∀base:Heap,K.In base→base.Ns b6 mg→n8 l.prog w K mg base CX0 8 fa fd ["_law_script"] (spF K [.bor] .f rG):=by
 have GP:At K mg "row_count" jd ["inputs"]:=At.mk' (dA X G a0) l0 c0 k0 (Ed (fun _ _ _ _ _ _ _=>rfl) rfl)
 have Zj:At K mg "bit" vN ["number", "place"]:=At.mk' (dA X G a1) l1 c1 k1 (pK (fun _ _ _ _ _ _ _ _=>rfl) rfl)
 have Ly:At K mg "put_all" kZ ["gate", "numbers", "full"]:=At.mk' (dA X G a2) l2 c2 k2 (Kz (fun _ _ _ _ _ _ _ _ _=>rfl) rfl)
 have Jl:At K mg "gathered" jO ["width", "rows"]:=At.mk' (dA X G a3) l3 c3 k3 (pK (fun _ _ _ _ _ _ _ _=>rfl) rfl)
 have Ry:At K mg "marked" mq ["rows"]:=At.mk' (dA X G a4) l4 c4 k4 (Ed (fun _ _ _ _ _ _ _=>rfl) rfl)
 have Ja:At K mg "put_rows" jP ["gate", "rows", "width"]:=At.mk' (dA X G a5) l5 c5 k5 (Kz (fun _ _ _ _ _ _ _ _ _=>rfl) rfl)
 have U8:At K mg "power" oW ["base", "exponent"]:=At.mk' (dA X G a6) l6 c6 k6 (pK (fun _ _ _ _ _ _ _ _=>rfl) rfl)
 have Fx:At K mg "list_count" iC ["count", "gates"]:=At.mk' (dA X G a7) l7 c7 k7 (pK (fun _ _ _ _ _ _ _ _=>rfl) rfl)
 have Jw:At K mg "lists_of" jL ["choices"]:=At.mk' (dA X G a8) l8 c8 k8 (Ed (fun _ _ _ _ _ _ _=>rfl) rfl)
 have DP:At K mg "broken" j9 ["gate", "relation"]:=At.mk' (dA X G a9) l9 c9 k9 (pK (fun _ _ _ _ _ _ _ _=>rfl) rfl)
 have Ie:At K mg "keeps" mD ["gate", "relation"]:=At.mk' (dA X G a10) l10 c10 k10 (pK (fun _ _ _ _ _ _ _ _=>rfl) rfl)
 have CN:At K mg "fresh_lists" gG ["old", "fresh", "length"]:=At.mk' (dA X G a11) l11 c11 k11 (Kz (fun _ _ _ _ _ _ _ _ _=>rfl) rfl)
 have Dh:At K mg "given_rows" ik ["gates", "old", "fresh", "width"]:=At.mk' (dA X G a12) l12 c12 k12 (abq (fun _ _ _ _ _ _ _ _ _ _=>rfl) rfl)
 have ou:At K mg "refuse_too_many" dC ["count", "gates"]:=At.mk' (dA X G a13) l13 c13 k13 (pK (fun _ _ _ _ _ _ _ _=>rfl) rfl)
 have Fd:At K mg "closed" km ["relation", "gates"]:=At.mk' (dA X G a14) l14 c14 k14 (pK (fun _ _ _ _ _ _ _ _=>rfl) rfl)
 have KZ:At K mg "_law_cell" jC ["_law_script", "_law_k"]:=At.mk' (dA X G a15) l15 c15 k15 (pK (fun _ _ _ _ _ _ _ _=>rfl) rfl)
 have Ha:At K mg "_law_marks" ji ["_law_caught"]:=At.mk' (dA X G a16) l16 c16 k16 (Ed (fun _ _ _ _ _ _ _=>rfl) rfl)
 have Fo:At K mg "_law_unions" iB ["_law_rows", "_law_singles"]:=At.mk' (dA X G a17) l17 c17 k17 (pK (fun _ _ _ _ _ _ _ _=>rfl) rfl)
 have MT:At K mg "_law_due" kE ["_law_width", "_law_rows", "_law_gates"]:=At.mk' (dA X G a18) l18 c18 k18 (Kz (fun _ _ _ _ _ _ _ _ _=>rfl) rfl)
 have GK:At K mg "_law_power" jh ["_law_many", "_law_inputs"]:=At.mk' (dA X G a19) l19 c19 k19 (pK (fun _ _ _ _ _ _ _ _=>rfl) rfl)
 have KY:At K mg "_law_said" jN ["_law_which", "_law_gate", "_law_width", "_law_rows", "_law_gates"]:=At.mk' (dA X G a20) l20 c20 k20 (aa8 (fun _ _ _ _ _ _ _ _ _ _ _=>rfl) rfl)
 have Dm:At K mg "_law_bounds" iD ["_law_cell_here"]:=At.mk' (dA X G a21) l21 c21 k21 (Ed (fun _ _ _ _ _ _ _=>rfl) rfl)
 have pA:=hX X G pZ
 have dj:=hX X G pF
 have bG:=hX X G Ks
 have jV:=hX X G Dp
 have Je:=hX X G Jv
 have b7:=hX X G zJ
 have j0:=hX X G K8
 have cM:=hX X G xV
 have vV:=hX X G KR
 have gH:=hX X G zR
 have cZ:=dA X G jx
 have cJ:=dA X G pD
 have dU:=dA X G rQ
 have qG:=dA X G pP
 have yg:=dA X G uZ
 have ph:=dA X G nW
 have zL:=dA X G yc
 have xP:=dA X G uF
 have xG:=dA X G ud
 have u5:=dA X G sX
 have xU:=dA X G uY
 have e:=hfa.symm.trans (dA X G a22)
 cases e
 refine ⟨cf "law" "law" (bc oF) (aU oF) (aC oF) .none Wc Yv Yz Yc PX Yj,fun s v=>.of_eq rfl,fun base _ _=>?_⟩
 have nO:=Cj (P:=l.prog) (w:=w) (base:=base) Ha pA dj yv yg uH uE ph nU nY zL xN xF xP uG uU xG uo uA u5 tB tL xU uw uy dU yt
 have jk:=Fe (P:=l.prog) (w:=w) (base:=base) GP b7
 have JV:=XX (P:=l.prog) (w:=w) (base:=base) Zj
 have uO:=JC (P:=l.prog) (w:=w) (base:=base) Ly JV jk bG b7
 have lC:=Hh (P:=l.prog) (w:=w) (base:=base) Jl j0 cM gH
 have pg:=Mt (P:=l.prog) (w:=w) (base:=base) Ry
 have cX:=G7 (P:=l.prog) (w:=w) (base:=base) Ja uO jk
 have zq:=Ru (P:=l.prog) (w:=w) (base:=base) U8 b7
 have cL:=CG (P:=l.prog) (w:=w) (base:=base) Fx zq vV
 have gJ:=GC (P:=l.prog) (w:=w) (base:=base) Jw
 have kI:=Ka (P:=l.prog) (w:=w) (base:=base) DP pg gJ cL cX bG cJ ⟨_,rfl⟩ dU jK
 have iK:=NT (P:=l.prog) (w:=w) (base:=base) DP pg gJ cL cX bG cJ ⟨_,rfl⟩
 have xM:=Mz (P:=l.prog) (w:=w) (base:=base) Ie iK dU jK kI
 have zP:=Qi (P:=l.prog) (w:=w) (base:=base) Ie iK
 have nT:=Ag (P:=l.prog) (w:=w) (base:=base) CN gJ b7
 have gC:=Cu (P:=l.prog) (w:=w) (base:=base) Dh nT cX
 have jA:=t6 (P:=l.prog) (w:=w) (base:=base) ou cL cZ ⟨_,rfl⟩ cJ ⟨_,rfl⟩ dU jK
 have cW:=t7 (P:=l.prog) (w:=w) (base:=base) ou cL cZ ⟨_,rfl⟩ cJ ⟨_,rfl⟩
 have t8:=Jy (P:=l.prog) (w:=w) (base:=base) Fd lC cX cW gC bG jV j0 cM dU jK jA
 have xQ:=LC (P:=l.prog) (w:=w) (base:=base) Fd lC cX cW gC bG jV j0 cM
 have je:=GJ (P:=l.prog) (w:=w) (base:=base) KZ bG
 have nR:=Cm (P:=l.prog) (w:=w) (base:=base) Fo bG b7
 have rJ:=JP (P:=l.prog) (w:=w) (base:=base) MT nR bG cM gH
 have gD:=Es (P:=l.prog) (w:=w) (base:=base) GK b7
 have dq:=Gr (P:=l.prog) (w:=w) (base:=base) KY xQ zP iK qG ⟨zF,z9,zu,Ai⟩ kI t8 xM nO
 have n6:=Ck (P:=l.prog) (w:=w) (base:=base) Dm gD dq bG b7 cM gH
 exact Wd (Du (st:=oF) l22 c22 k22) je rJ dq n6 gD bG jV Je b7 cM vV gH
theorem walk {l:ve}{q:cw}{loose:List Str}{XP:(Str→Option ai)→Heap→Prop}{YP:eI→Heap→Prop}{d:DefRec}{K:Params→ag} (hn:l.most=some 63) (hdf:d.params.defaults=[])
 (hY:∀(w:eI) (h:Heap),YP w h→(K w.params).In h)
 (F:∀(w:eI) (mg:Str→Option ai) (fa:Addr) (h:Heap),(K w.params).In h→h.Ns b6 mg→mg d.name=some (.ref fa) →
  ∃fd:om,(∀(s:ar) (u:ai),BindsTo s fd ⟨[u],[]⟩ [("_law_script",u)])∧∀base:Heap,(K w.params).In base→base.Ns b6 mg→n8 l.prog w (K w.params) mg base CX0 8 fa fd ["_law_script"] (spF (K w.params) [.bor] .f rG)) :
 PySem.W.WalkO q loose XP YP l.row.toRowW d [] (fun f vs=>PySem.call f vs):=
 L2.T3 (n:=63) (k:=8) (x := "_law_script") (CX:=fun _=>CX0) (sp:=fun w=>spF (K w.params) [.bor] .f rG) hn (by decide) hdf ⟨rfl,by decide,by decide⟩ hY F (fun _ H a ns hl _ hS=>JW (main ns hl) hS) fun _ _ _ _ _ z=>z
end Law
open PySem PySem.W PyProof.Rows
theorem PySem.W.Fast.tw4176520586315492847:True:=trivial
theorem PySem.W.Fast.tw7383596699413172864:True:=trivial
theorem PySem.W.Fast.tw6044542920973445994:True:=trivial
theorem PySem.W.Fast.tw3102134312071309143:True:=trivial
theorem PySem.W.Fast.tw6400482078979100667:True:=trivial
theorem PySem.W.Fast.tw13159926577368483588:True:=trivial
theorem PySem.W.Fast.tw12252215304301965163:True:=trivial
theorem PySem.W.Fast.tw11126490203441604468:True:=trivial
theorem PySem.W.Fast.tw13193750512070688157:True:=trivial
theorem PySem.W.Fast.tw15115590634418221939:True:=trivial
theorem PySem.W.Fast.tw4894213238614929736:True:=trivial
theorem PySem.W.Fast.tw10543222664047259226:True:=trivial
theorem PySem.W.Fast.tw3408766315939889131:True:=trivial
theorem PySem.W.Fast.tw17569428121628682633:True:=trivial
theorem PySem.W.Fast.tw8384913879529085278:True:=trivial
theorem PySem.W.Fast.tw8682362242229831516:True:=trivial
theorem PySem.W.Fast.tw17855443006571241017:True:=trivial
theorem PySem.W.Fast.tw1133928905738232090:True:=trivial
theorem PySem.W.Fast.tw2572827973556808936:True:=trivial
theorem PySem.W.Fast.tw4800138006421474181:True:=trivial
theorem PySem.W.Fast.tw8850924252825226762:True:=trivial
theorem PySem.W.Fast.tw17563800947922524092:True:=trivial
theorem PySem.W.Fast.tw5398945441762496095:True:=trivial
theorem PySem.W.Fast.tw676344727179439635:True:=trivial
theorem PySem.W.Fast.tw18295992358031536047:True:=trivial
theorem PySem.W.Fast.tw17615740105067467444:True:=trivial
theorem PySem.W.Fast.tw1028678586728359642:True:=trivial
theorem PySem.W.Fast.tw4262029060086621374:True:=trivial
theorem PySem.W.Fast.tw174230487994331045:True:=trivial
theorem PySem.W.Fast.tw3946025998143332252:True:=trivial
theorem PySem.W.Fast.tw9219889608462493189:True:=trivial
theorem PySem.W.Fast.tw13756006581743720131:True:=trivial
theorem PySem.W.Fast.tw3281209567105551780:True:=trivial
theorem PySem.W.Fast.tw12666392903496026714:True:=trivial
set_option maxRecDepth 100000 in
set_option maxHeartbeats 0 in
theorem PySem.Challenge.cw_gatekin_k25_closed_too_great_holds : PySem.Challenge.rw_gatekin_k25_closed_too_great.Holds := by
 w_on; o_law; k_head; (case hw => w_witness2)
 k_fill
 refine Law.walk (l := PySem.Challenge.rw_gatekin_k25_closed_too_great) rfl rfl (fun w h Y => PySem.W.kIn_of Y) ?F
 case F =>
  intro w mg fa h KX G hmg
  refine' Law.all_mk KX G hmg ?a0 ?l0 ?c0 ?k0 ?a1 ?l1 ?c1 ?k1 ?a2 ?l2 ?c2 ?k2 ?a3 ?l3 ?c3 ?k3 ?a4 ?l4 ?c4 ?k4 ?a5 ?l5 ?c5 ?k5 ?a6 ?l6 ?c6 ?k6 ?a7 ?l7 ?c7 ?k7 ?a8 ?l8 ?c8 ?k8 ?a9 ?l9 ?c9 ?k9 ?a10 ?l10 ?c10 ?k10 ?a11 ?l11 ?c11 ?k11 ?a12 ?l12 ?c12 ?k12 ?a13 ?l13 ?c13 ?k13 ?a14 ?l14 ?c14 ?k14 ?a15 ?l15 ?c15 ?k15 ?a16 ?l16 ?c16 ?k16 ?a17 ?l17 ?c17 ?k17 ?a18 ?l18 ?c18 ?k18 ?a19 ?l19 ?c19 ?k19 ?a20 ?l20 ?c20 ?k20 ?a21 ?l21 ?c21 ?k21 ?a22 ?l22 ?c22 ?k22 ?pZ ?pF ?Ks ?Dp ?Jv ?zJ ?K8 ?xV ?KR ?zR ?jx ?pD ?rQ ?pP ?uZ ?nW ?yc ?uF ?ud ?sX ?uY ?jK ?zF ?z9 ?zu ?Ai ?yv ?uH ?uE ?nU ?nY ?xN ?xF ?uG ?uU ?uo ?uA ?tB ?tL ?uw ?uy ?yt
  (case a0 => k_is)
  (case l0 => k_is)
  (case c0 => k_is)
  (case k0 => k_is)
  (case a1 => k_is)
  (case l1 => k_is)
  (case c1 => k_is)
  (case k1 => k_is)
  (case a2 => k_is)
  (case l2 => k_is)
  (case c2 => k_is)
  (case k2 => k_is)
  (case a3 => k_is)
  (case l3 => k_is)
  (case c3 => k_is)
  (case k3 => k_is)
  (case a4 => k_is)
  (case l4 => k_is)
  (case c4 => k_is)
  (case k4 => k_is)
  (case a5 => k_is)
  (case l5 => k_is)
  (case c5 => k_is)
  (case k5 => k_is)
  (case a6 => k_is)
  (case l6 => k_is)
  (case c6 => k_is)
  (case k6 => k_is)
  (case a7 => k_is)
  (case l7 => k_is)
  (case c7 => k_is)
  (case k7 => k_is)
  (case a8 => k_is)
  (case l8 => k_is)
  (case c8 => k_is)
  (case k8 => k_is)
  (case a9 => k_is)
  (case l9 => k_is)
  (case c9 => k_is)
  (case k9 => k_is)
  (case a10 => k_is)
  (case l10 => k_is)
  (case c10 => k_is)
  (case k10 => k_is)
  (case a11 => k_is)
  (case l11 => k_is)
  (case c11 => k_is)
  (case k11 => k_is)
  (case a12 => k_is)
  (case l12 => k_is)
  (case c12 => k_is)
  (case k12 => k_is)
  (case a13 => k_is)
  (case l13 => k_is)
  (case c13 => k_is)
  (case k13 => k_is)
  (case a14 => k_is)
  (case l14 => k_is)
  (case c14 => k_is)
  (case k14 => k_is)
  (case a15 => k_is)
  (case l15 => k_is)
  (case c15 => k_is)
  (case k15 => k_is)
  (case a16 => k_is)
  (case l16 => k_is)
  (case c16 => k_is)
  (case k16 => k_is)
  (case a17 => k_is)
  (case l17 => k_is)
  (case c17 => k_is)
  (case k17 => k_is)
  (case a18 => k_is)
  (case l18 => k_is)
  (case c18 => k_is)
  (case k18 => k_is)
  (case a19 => k_is)
  (case l19 => k_is)
  (case c19 => k_is)
  (case k19 => k_is)
  (case a20 => k_is)
  (case l20 => k_is)
  (case c20 => k_is)
  (case k20 => k_is)
  (case a21 => k_is)
  (case l21 => k_is)
  (case c21 => k_is)
  (case k21 => k_is)
  (case a22 => k_is)
  (case l22 => k_is)
  (case c22 => k_is)
  (case k22 => k_is)
  (case pZ => k_is)
  (case pF => k_is)
  (case Ks => k_is)
  (case Dp => k_is)
  (case Jv => k_is)
  (case zJ => k_is)
  (case K8 => k_is)
  (case xV => k_is)
  (case KR => k_is)
  (case zR => k_is)
  (case jx => k_is)
  (case pD => k_is)
  (case rQ => k_is)
  (case pP => k_is)
  (case uZ => k_is)
  (case nW => k_is)
  (case yc => k_is)
  (case uF => k_is)
  (case ud => k_is)
  (case sX => k_is)
  (case uY => k_is)
  (case jK => (show PySem.W.excIn _ _ _ _ = true); k_exc)
  (case zF => exact Option.isSome_of_eq_some (by k_is))
  (case z9 => k_is)
  (case zu => k_is)
  (case Ai => k_is)
  (case yv => refine L3.Mm L3.Jo ?h3; (case h3 => k_is))
  (case uH => exact L3.iY (Option.isSome_of_eq_some (by k_is)) (by k_is) (by k_is))
  (case uE => rfl)
  (case nU => exact L3.iY (Option.isSome_of_eq_some (by k_is)) (by k_is) (by k_is))
  (case nY => rfl)
  (case xN => exact L3.iY (Option.isSome_of_eq_some (by k_is)) (by k_is) (by k_is))
  (case xF => rfl)
  (case uG => exact L3.iY (Option.isSome_of_eq_some (by k_is)) (by k_is) (by k_is))
  (case uU => rfl)
  (case uo => exact L3.iY (Option.isSome_of_eq_some (by k_is)) (by k_is) (by k_is))
  (case uA => rfl)
  (case tB => exact L3.iY (Option.isSome_of_eq_some (by k_is)) (by k_is) (by k_is))
  (case tL => rfl)
  (case uw => exact L3.iY (Option.isSome_of_eq_some (by k_is)) (by k_is) (by k_is))
  (case uy => rfl)
  (case yt => exact ⟨by k_is, by k_is, by k_is, by k_is, by k_is, by k_is, by k_is, Option.isSome_of_eq_some (by k_is)⟩)
