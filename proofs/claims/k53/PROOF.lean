import PyProof.Rows.All
import Wide.All
import OpenK.AllK
import Wide.FinOn
import Lean
import PyProof.EqAt
import PyProof.EqKinds
import PyProof.TupleCall
import PySem.Challenge.RW_gatekin_k53_least_trees
open PySem renaming PyData→ae,Value→ag,wpAny_bind→ai,Shared→ar,wpAny_pure→ay,mainGlobals→ba,sizeLine→bg,Program→cc,wpAny→cn,model→cx,starEach→d5,bootBuiltins→ee,Around→eI,World→eK,NameKind→fR,wpAny_mono→gc,compareOp→gE,binaryOp→g9,mem_of_lookup→hW,wpAny_holding→jI,attributeBase→jS,ExceptHandler→ke,sysModules→kg,wpAny_truthy_bool→ki,foldedSetIterable→kn,wpAny_newObj_type→ko,swapsWith→kr,cellsFrom→kC,wpAny_call_entry→kD,bindArgs→kN,assignEach→lx,backTo→lI,wpAny_passesOwn→lS,FuncData→mm,wpAny_callSpecial?_slot→nc,Scope→nk,wpAny_of_eq→ny,wpAny_Call_Name_kw→nE,tupleKind_room_in1→nK,wpAny_rule→nL,cLine→nV,builtinLookup_eq_fast→oi,codeAny_handlers_test→oj,wpAny_field→oo,wpAny_seqItems→oC,wpAny_tryCatch→oD,rawInt→pv,wpAny_handleBy_cons→pz,wpAny_attempt→pV,wpAny_execs_nil→qa,Keyword→qc,wpAny_specialOf→qf,Paired→qk,builtinsNs→qo,sliceBounds→qv,valueAt→qV,isSubtype_type→rl,isInstance→sj,keywordEach→sL,letOwnedTupleGo→sT,typeLookup_type→tj,wpAny_updateSeq→tm,codeAny_builtin→tw,wpAny_Tuple_spliced→tN,getItem→ua,codeAmong→uk,Arguments→uu,GenState→u7,call_meets→ve,closureFor→vi,excMatches→vv,codeAny→wb,subscripted→wd,assign→xc,behindInMarks→xh,plainId_quiet→xt,tupleKind→xw,wpAny_execs_cons→xy,noFill_tuple_add→xA,wpAny_isInstance→xI,isinstance_outer→xS,wpAny_Name→ya,pyNext→yb,wpAny_call→yk,codeAny_mono→yv,concat_meets→yy,IsPart→yA,wpAny_typeOf→yB,call_meetsIn→y6,call_isinstance→zh,Model→zk,IsRangeIter→zo,backToKw→zv,wpAny_letGo→zI,holding→Ap,PassesOwn→As,callerA→Au,isTrue→AG,Result→AH
open PySem.W renaming Frag→af,nsIn→bX,fnOf→b9,mg_of→ck,keepIn→cS,codeIn→dE,kitCls→ft,mg_none_of→gx,codeHdIn→iF,looks_subIn→iO,subIn→i3,Looks→j3,kia_one→md,clsIn→mP,cellsFrom_some→nI,kitOne→oy,OpenLaw→sM,looks_findIn→sN,kitMeta→ti,typeIn→vx,methodObj→wa,findIn→zD,kla_obj→AA,excIn→AB
open List renaming length_map→av,length_append→aw,getD_eq_getElem?_getD→ax,getElem?_eq_getElem→aI,mem_singleton→be,mem_cons_of_mem→bq,getElem?_eq_some_iff→br,size_toArray→bE,mem_cons_self→cf,getElem?_map→cp,mem_append_right→cy,length_cons→cE,replicate→cK,mem_map→dc,mem_cons→de,length_replicate→df,map_append→dk,getElem?_append_right→dt,map_cons→dy,getElem?_append_left→eh,mem_append→eJ,length_take→eM,length_singleton→eP,append_assoc→eS,getElem?_eq_none→eT,append_nil→fb,mem_append_left→ff,range→fh,extract_eq_drop_take→fm,length_set→fx,length_range→fE,take_length→fS,nodup_append→fT,mem_filterMap→gp,length_reverse→gz,mem_of_getElem?→gX,take_of_length_le→g6,replicate_succ→hX,map_map→hZ,getElem?_set_self→ia,take_append_drop→ip,filter_cons_of_neg→iA,drop_eq_getElem_cons→iN,mem_range→iX,sum_cons→i4,getElem?_replicate→i7,mem_iff_getElem→i9,filter_cons_of_pos→ja,getElem?_range→ku,mem_filter→kx,perm_append_comm→kz,lookup_cons→kG,pairwise_cons→kH,cons_append→kK,mem_flatMap→kL,mem_of_mem_take→kQ,flatten_cons→kR,forIn_cons→kU,map_congr_left→kX,any_cons→lp,nodup_cons→lT,length_nil→ma,getElem?_set_ne→mw,foldl_append→mB,getElem?_take_of_lt→mE,Nodup→mS,eq_nil_of_length_eq_zero→nr,take_append_of_le_length→nz,drop_eq_nil_of_le→nN,foldl_cons→nX,find?_cons→n0,nil_append→n4,pairwise_append→oz,length_drop→oQ,map_nil→oS,flatMap_append→pE,range_succ→qh,length_eq_zero_iff→qB,take_add_one→rh,length_filter_le→rV,all_eq_true→sd,getElem?_replicate_of_lt→sQ,filterMap_cons→tJ,drop_zero→vj,pairwise_iff_getElem→vF,lookup→we,reverse_cons→wm,drop_sublist→wq,reverse_perm→w9,not_mem_nil→xC,drop_length→xD,getElem_cons_drop→zd,of_mem_zip→ze,take_zero→zw,drop_drop→zC,map_take→AD,foldl→AI,map_id'→AL
open Nat renaming le_refl→aE,lt_of_lt_of_le→d6,le_trans→eR,pow_le_pow_right→fo,le_of_lt→gy,ne_of_lt→gL,lt_irrefl→g7,zero_le→iE,lt_or_ge→kq,le_of_not_lt→kF,not_lt_zero→mf,not_lt→mM,pow_le_pow_left→na,lt_of_le_of_lt→nS,sub_self→rL,min_le_right→r6,lt_succ_self→se,mul_le_mul_right→sR,min_eq_left→tz,pow_succ→ub,lt_of_succ_lt→wx,min_eq_right→x6,succ_mul→yY,lt_trans→y0,zero_add→y9
open PySem.Heap renaming get?_push_of_some→aS,lt_size→dP,get?_push_size→d4,size_push→ow,FlyingW→rk,get?_none_of_le→sF,SameBut→x9
open PyProof.Rows renaming arrOf→bo,wpS_bind→bt,wpS_pure→cq,SortSt→eo,pendingOf→fi,Keyed→fk,slot_tuple_getitem→fw,wpS_forRange→ib,numOf→i8,callWith_type1→jv,envOfC→kP,failedOf→ly,elem'→ng,wpS_mono→nh,seqObj→og,oneType'→pT,K_mirror_equal→rg,bitAnd_m1→rq,wpS_modify→sf,IntsAre→sm,reverseSlice'→sC,AllBare→t9,IsTup→uS,wpS_get→wo,subscriptTail→xi,mirror→xl,wpS_lift→xE
open Or renaming inl→cb,inr→fq
open PySem.PyData renaming canLayAll0→dA,canLay0→eW,eqv→fA,depthAll→ky,eqvAll→n9
open PySem.Builtin.Range renaming rangeSize→dQ,small→iP
open Bool renaming and_eq_true→dS,false_eq_true→fF,false_ne_true→i6,and_false→rf,or_eq_true→tf,not_eq_true'→xa,eq_false_iff→xb,not_true→xo,and_true→AE,or_false→AF
open PySem.SeqAt renaming shaped→eD,canLay_of_shaped→ll
open PySem.Value renaming ref→eL,type→om
open PySem.PassesOwn renaming never→fe
open Option renaming isSome_iff_exists→fy,isSome_map→ra,map_eq_some_iff→y3
open Int renaming le_of_lt→fI,le_trans→hY,toNat_natCast→iq,le_refl→iS,pow_succ→pb,fdiv_eq_ediv_of_nonneg→va,not_lt→y8,natCast_add→zi,mul_assoc→AC,mul_comm→AK
open PySem.Builtin renaming bitAnd→gu,bitNot→h9,bitOr→i0,bitXor→kM
open PySem.Builtin.List renaming listTooLong→ij
open PySem.F renaming plain_min_loop→iL,plainAttrs_list→kS,slot_list_extend→oa,args_tuple_add_2→pS,slot_dict_itemiterator_iter→p9,entry_tuple_add→qr,plainAttrs_dict→qA,slot_tuple_add→qS,entry_min_loop→ro,slot_dict_get→rX,slot_dict_getitem→vS,type_list_extend→xk,args_dict_get_3→xB,slot_dict_items→x5,entry_dict_get→y7
open ForInStep renaming yield→i5
open PySem.Calls renaming spliced_cons→kB,callWith_builtin→lj,evalArgs_plain→oq,spliced_nil→qE
open False renaming elim→kT
open PySem.Str renaming ofString→lh
open PySem.Builtin.Slice renaming slicePlaces→lP,sliceAdjust→pd
open Sum renaming inl→mi,inr→x8
open PySem.Builtin.Tuple renaming tupleExact→mI
open PySem.Heap.SameBut renaming update→mT
open PySem.Obj renaming mapSeq→ot,data_mapFields→qq
open True renaming intro→ox
open Array renaming toList_extract→oB,length_toList→pj,getElem?_toList→rS,toList_inj→si,perm_iff_toList_perm→vn,getElem?_eq_some_iff→vE
open Ne renaming symm→oP
open PySem.Around renaming under_plainId→sP
open Classical renaming byContradiction→vT
open PyProof renaming noPylong_small→yi
open PUnit renaming unit→AJ
set_option Elab.async false
set_option linter.all false
set_option maxRecDepth 100000
local macro_rules | `(tactic| omega) => `(tactic| lia)
namespace L2
open PySem PySem.Spec PyProof.Rows
noncomputable abbrev Key:=Sum Int Str
noncomputable def qH:Key→ag→Bool
 | .inl k,v=>Value.isInt k v
 | .inr x,v=>Value.isStrOf x v
noncomputable def aen (w:eK):Key→Int
 | .inl k=>hashInt k
 | .inr x=>hashStr w x
theorem dO:∀{k:Key}{v:ag},qH k v=true→(∃i t,k=mi i∧v=ag.int i t)∨(∃x t,k=x8 x∧v=ag.str x t)
 | .inl i,v,h=>by
  obtain ⟨t,e⟩:=Value.isInt_shape (k:=i) (v:=v) h
  exact .inl ⟨i,t,rfl,e⟩
 | .inr x,v,h=>by
  obtain ⟨t,e⟩:=Value.isStrOf_shape (x:=x) (v:=v) h
  exact .inr ⟨x,t,rfl,e⟩
theorem Mz (i:Int) (t:Tok):qH (.inl i) (.int i t)=true:=by simp[qH,Value.isInt]
theorem Pj (x:Str) (t:Tok):qH (.inr x) (.str x t)=true:=by simp[qH,Value.isStrOf]
theorem Yk (a b:Int):decide ((mi a:Key)=mi b)=(a == b):=by
 by_cases e:a=b
 · subst e;simp
 · have h:¬ (mi a:Key)=mi b:=fun q=>e (mi.inj q)
   rw[decide_eq_false h]
   exact (beq_eq_false_iff_ne.mpr e).symm
theorem YK (a b:Str):decide ((x8 a:Key)=x8 b)=decide (a=b):=by
 by_cases e:a=b
 · subst e;simp
 · have h:¬ (x8 a:Key)=x8 b:=fun q=>e (x8.inj q)
   rw[decide_eq_false h,decide_eq_false e]
theorem Xr (a:Int) (b:Str):decide ((mi a:Key)=x8 b)=false:=decide_eq_false (fun q=>nomatch q)
theorem Yc (a:Str) (b:Int):decide ((x8 a:Key)=mi b)=false:=decide_eq_false (fun q=>nomatch q)
noncomputable def bD (prog:cc) (w:eK):PySem.KeyKind prog w Key where
 is:=qH
 hash:=aen w
 inj:=fun v a b ha hb=>by
  rcases dO ha with ⟨i,t,rfl,rfl⟩ | ⟨x,t,rfl,rfl⟩
  · rcases dO hb with ⟨j,u,rfl,e⟩ | ⟨y,u,rfl,e⟩
    · injection e with e1 _;rw[e1]
    · exact nomatch e
  · rcases dO hb with ⟨j,u,rfl,e⟩ | ⟨y,u,rfl,e⟩
    · exact nomatch e
    · injection e with e1 _;rw[e1]
 byValue:=fun k v h=>by
  rcases dO h with ⟨i,t,rfl,rfl⟩ | ⟨x,t,rfl,rfl⟩ <;> rfl
 pyHash:=fun hv h=>by
  rcases dO hv with ⟨i,t,rfl,rfl⟩ | ⟨x,t,rfl,rfl⟩
  · exact wpAny_pyHash_int h
  · exact wpAny_pyHash_str h
 eqBool:=fun hu hv h=>by
  rcases dO hu with ⟨i,t,rfl,rfl⟩ | ⟨x,t,rfl,rfl⟩
  · rcases dO hv with ⟨j,u,rfl,rfl⟩ | ⟨y,u,rfl,rfl⟩
    · rw[Yk] at h;exact wpAny_eqBool_int h
    · rw[Xr] at h;exact SeqAt.EqAt.int_str i t y u _ _ _ _ h
  · rcases dO hv with ⟨j,u,rfl,rfl⟩ | ⟨y,u,rfl,rfl⟩
    · rw[Yc] at h;exact SeqAt.EqAt.str_int x t j u _ _ _ _ h
    · rw[YK] at h;exact wpAny_eqBool_str h
 «strs» := fun k x t v h=>by
  rcases dO h with ⟨i,u,rfl,e⟩ | ⟨y,u,rfl,e⟩
  · exact nomatch e
  · injection e with e1 _
    subst e1
    cases v <;> rfl
theorem Ks (prog:cc) (w:eK) (k:Key) (v:ag):(bD prog w).is k v=qH k v:=rfl
theorem Ik (prog:cc) (w:eK) (i:Int) (t:Tok):(bD prog w).is (.inl i) (.int i t)=true:=Mz i t
theorem Io (prog:cc) (w:eK) (x:Str) (t:Tok):(bD prog w).is (.inr x) (.str x t)=true:=Pj x t
inductive V where
 | non | bl (b:Bool) | int (i:Int) | str (x:Str) | byt (b:Array UInt8) | flt (b:UInt64) | ref (a:Addr) | ty (n:String)
 deriving DecidableEq
noncomputable def RelV:V→ag→Prop
 | .non,u=>u=ag.none
 | .bl b,u=>u=ag.bool b
 | .int i,u=>∃t,u=ag.int i t
 | .str x,u=>∃t,u=ag.str x t
 | .byt b,u=>∃t,u=Value.bytes b t
 | .flt b,u=>∃t,u=Value.float b t
 | .ref a,u=>u=eL a
 | .ty n,u=>u=om n
noncomputable abbrev Vals:List V→List ag→Prop:=qk RelV
theorem Vals.length {xs:List V}{us:List ag} (r:Vals xs us):xs.length=us.length:=qk.length r
theorem Vals.get:∀{xs:List V}{us:List ag}{i:Nat}{x:V},Vals xs us→xs[i]?=some x→∃u,us[i]?=some u∧RelV x u
 | _,_,_,_,.nil,e=>by simp at e
 | _,_,0,_,.cons r _,e=>by simp at e;subst e;exact ⟨_,rfl,r⟩
 | _,_,i+1,x,.cons _ t,e=>by
  obtain ⟨u,h1,h2⟩:=Vals.get (i:=i) (x:=x) t (by simpa using e)
  exact ⟨u,by simpa using h1,h2⟩
theorem Vals.append:∀{xs ys:List V}{us ws:List ag},Vals xs us→Vals ys ws→Vals (xs++ys) (us++ws)
 | _,_,_,_,.nil,s=>s
 | _,_,_,_,.cons r t,s=>.cons r (Vals.append t s)
theorem Vals.take:∀{xs:List V}{us:List ag} (n:Nat),Vals xs us→Vals (xs.take n) (us.take n)
 | _,_,0,_=>.nil
 | _,_,_+1,.nil=>.nil
 | _,_,n+1,.cons r t=>.cons r (Vals.take n t)
theorem Vals.drop:∀{xs:List V}{us:List ag} (n:Nat),Vals xs us→Vals (xs.drop n) (us.drop n)
 | _,_,0,r=>r
 | _,_,_+1,.nil=>.nil
 | _,_,n+1,.cons _ t=>Vals.drop n t
noncomputable def mY:Option V→Option ag→Prop
 | some v,some u=>RelV v u
 | none,none=>True
 | _,_=>False
noncomputable def KV {κ:Type}:List (κ×V)→List (κ×ag)→Prop:=qk fun (p:κ×V) (q:κ×ag)=>p.1=q.1∧RelV p.2 q.2
noncomputable def kV:Key→V
 | .inl i=>.int i
 | .inr x=>.str x
inductive HO where
 | lst (xs:List V)
 | tup (xs:List V)
 | dK (kvs:List (Key×V)) | dT (kvs:List (List Key×V))
 | set (S:Int→Bool) (n:Nat)
 | ins (C dx:Addr) (fs:List (Str×V))
 | own (x:Addr)
 | xd (fs:List (Str×V))
 | met (f x:Addr)
 | rng (lo hi:Int)
 | frz (o:Obj) (u:HO)
 | tbl (q:Str)
 | ext (φ:Heap→Prop)
noncomputable abbrev Hp:=Addr→Option HO
noncomputable def upd (H:Hp) (a:Addr) (o:HO):Hp:=fun b=>if b=a then some o else H b
theorem bw {H:Hp}{a:Addr}{o:HO}:upd H a o a=some o:=by unfold upd;rw[if_pos rfl]
theorem aK {H:Hp}{a b:Addr}{o:HO} (h:b≠a):upd H a o b=H b:=by unfold upd;rw[if_neg h]
theorem abp {H:Hp}{a b:Addr}{o u:HO} (h:H a=some o) (h':H b=some u) (d:o≠u):a≠b:=by
 intro e;subst e;rw[h] at h';exact d (Option.some.inj h')
theorem cV {H:Hp}{a b:Addr}{o:HO} (h:H a=some o) (h':H b=none):a≠b:=by
 intro e;subst e;rw[h] at h';cases h'
section
variable (P:cc) (w:eK)
noncomputable def dF (H:Hp) (h:Heap) (a:Addr):HO→Prop
 | .lst xs=>xs.length≤bg∧∃(its:List ag) (n:Nat),Vals xs its∧h.get? a=some { cls:=.type "list",data:=.seq its.toArray n }
 | .tup xs=>xs.length≤bg∧∃its:List ag,Vals xs its∧uS h a its.toArray
 | .dK kvs=>kvs.length≤bg∧(a == kg)=false∧∃vs,KV kvs vs∧h.DictOf (bD P w) a vs
 | .dT kvs=>kvs.length≤bg∧(a == kg)=false∧∃xs:List (List Key×Addr×ag),
  qk (fun (p:List Key×V) (q:List Key×Addr×ag)=>p.1=q.1∧H q.2.1=some (.tup (p.1.map kV))∧RelV p.2 q.2.2) kvs xs ∧
  ∃o es ep,h.get? a=some o∧o.ExactDict∧o.data = .dict es ep∧es.toList=xs.map (entryOfKey (xw (bD P w)))∧(xs.map (·.1)).Nodup
 | .set S n=>h.SetOf (intKind P w) a S n
 | .ins C dx fs=>H dx=some (.own a)∧fs.length≤1000∧dx≠a∧h.get? a=some (PySem.W.instObj C dx) ∧
  ∃mA,h.Ns1 dx mA∧(∀f,mY (fs.lookup f) (mA f))∧PySem.Within mA (fs.map (·.1))
 | .own _=>∃o,h.get? a=some o
 | .xd fs=>∃mA,h.Ns1 a mA∧∀f,mY (fs.lookup f) (mA f)
 | .rng lo hi=>∃t u v,h.get? a=some { cls:=.type "range",data:=.fields #[.int lo t,.int hi u,.int 1 v] }
 | .frz o u=>h.get? a=some o∧dF H h a u
 | .tbl q=>∃ps:Array ag,h.get? a=some { cls:=.none,data:=.fields ps }∧TriplesOk ps.toList∧∀(pos:Pos) (cv:ag),uk pos ps.toList=some cv→∃c ob vs t,cv = .ref c∧H c=some (.own a)∧h.get? c=some ob∧ob.data = .fields vs∧vs[1]?=some (.str q t)
 | .met f x=>h.get? a=some (wa (.ref f) (.ref x))
 | .ext φ=>φ h∧(∃o,h.get? a=some o)∧∀h1 h2:Heap,φ h1→(∀o,h1.get? a=some o→h2.get? a=some o)→φ h2
noncomputable def HOk (H:Hp) (h:Heap):Prop:=∀a o,H a=some o→dF P w H h a o
end
section
variable {P:cc}{w:eK}{H H':Hp}{h h':Heap}{a:Addr}{o:HO}
theorem dF.lt (x:dF P w H h a o):a < h.objs.size:=by
 cases o with
 | lst xs=>obtain ⟨_,_,_,_,e⟩:=x;exact dP e
 | tup xs=>obtain ⟨_,_,_,p⟩:=x;exact p.lt
 | dK kvs=>obtain ⟨_,_,_,_,o,_,_,e,_⟩:=x;exact dP e
 | dT kvs=>obtain ⟨_,_,_,_,o,_,_,e,_⟩:=x;exact dP e
 | set S n=>obtain ⟨o,_,_,_,e,_⟩:=x;exact dP e
 | ins C dx fs=>obtain ⟨_,_,_,e,_⟩:=x;exact dP e
 | own y=>obtain ⟨_,e⟩:=x;exact dP e
 | xd fs=>obtain ⟨_,⟨_,_,_,e,_⟩,_⟩:=x;exact dP e
 | rng lo hi=>obtain ⟨_,_,_,e⟩:=x;exact dP e
 | frz ob u=>obtain ⟨e,_⟩:=x;exact dP e
 | tbl q=>obtain ⟨_,e,_⟩:=x;exact dP e
 | met f y=>exact dP (show h.get? a=some _ from x)
 | ext φ=>obtain ⟨_,⟨_,e⟩,_⟩:=x;exact dP e
theorem Paired.yr {α β:Type}{F G:α→β→Prop}:∀{l₁:List α}{l₂:List β},qk F l₁ l₂→(∀a b,F a b→G a b)→qk G l₁ l₂
 | _,_,.nil,_=>.nil
 | _,_,.cons r t,f=>.cons (f _ _ r) (Paired.yr t f)
theorem dF.stay (x:dF P w H h a o) (k:∀b u,(b=a∨H b=some (.own a))→h.get? b=some u→h'.get? b=some u)
 (ho:∀b,H b=some (.own a)→H' b=some (.own a)) (ht:∀b xs,H b=some (.tup xs)→H' b=some (.tup xs)):dF P w H' h' a o:=by
 induction o with
 | lst xs=>obtain ⟨z,its,n,r,e⟩:=x;exact ⟨z,its,n,r,k _ _ (.inl rfl) e⟩
 | tup xs=>obtain ⟨z,its,r,ob,e,c⟩:=x;exact ⟨z,its,r,ob,k _ _ (.inl rfl) e,c⟩
 | dK kvs=>obtain ⟨z,y,vs,r,ob,es,ep,e,c⟩:=x;exact ⟨z,y,vs,r,ob,es,ep,k _ _ (.inl rfl) e,c⟩
 | dT kvs=>
  obtain ⟨z,y,xs,r,ob,es,ep,e,c⟩:=x
  exact ⟨z,y,xs,Paired.yr r fun p q z=>⟨z.1,ht _ _ z.2.1,z.2.2⟩,ob,es,ep,k _ _ (.inl rfl) e,c⟩
 | set S n=>obtain ⟨ob,es,ep,t,e,c⟩:=x;exact ⟨ob,es,ep,t,k _ _ (.inl rfl) e,c⟩
 | ins C dx fs=>
  obtain ⟨d,z,ne,e,mA,⟨od,es,ep,e2,c⟩,r⟩:=x
  exact ⟨ho _ d,z,ne,k _ _ (.inl rfl) e,mA,⟨od,es,ep,k _ _ (.inr d) e2,c⟩,r⟩
 | own y=>obtain ⟨ob,e⟩:=x;exact ⟨ob,k _ _ (.inl rfl) e⟩
 | xd fs=>obtain ⟨mA,⟨od,es,ep,e,c⟩,r⟩:=x;exact ⟨mA,⟨od,es,ep,k _ _ (.inl rfl) e,c⟩,r⟩
 | rng lo hi=>obtain ⟨t,u,v,e⟩:=x;exact ⟨t,u,v,k _ _ (.inl rfl) e⟩
 | frz ob u ih=>obtain ⟨e,q⟩:=x;exact ⟨k _ _ (.inl rfl) e,ih q⟩
 | tbl q=>
  obtain ⟨ps,e,ht,hc⟩:=x
  refine ⟨ps,k _ _ (.inl rfl) e,ht,fun pos cv hv=>?_⟩
  obtain ⟨c,ob,vs,t,e1,e2,e3,e4⟩:=hc pos cv hv
  exact ⟨c,ob,vs,t,e1,ho _ e2,k _ _ (.inr e2) e3,e4⟩
 | met f y=>
  have e:h.get? a=some (wa (.ref f) (.ref y)):=x
  show h'.get? a=some (wa (.ref f) (.ref y))
  exact k a _ (.inl rfl) e
 | ext φ=>obtain ⟨p,⟨o,e⟩,st⟩:=x;exact ⟨st _ _ p fun o q=>k _ _ (.inl rfl) q,⟨o,k _ _ (.inl rfl) e⟩,st⟩
theorem HOk.lt (x:HOk P w H h) (e:H a=some o):a < h.objs.size:=(x a o e).lt
theorem HOk.fresh (x:HOk P w H h) (e:h.objs.size≤a):H a=none:=by
 cases q:H a with
 | none=>rfl
 | some u=>exact absurd (d6 (x.lt q) e) (g7 _)
theorem HOk.kept (x:HOk P w H h) (k:∀b u,h.get? b=some u→h'.get? b=some u):HOk P w H h':=fun a o e=>
 (x a o e).stay (fun b u _ q=>k b u q) (fun _ q=>q) fun _ _ q=>q
theorem HOk.laid (x:HOk P w H h) (k:∀b u,h.get? b=some u→h'.get? b=some u) (hp:h.objs.size≤a) (new:dF P w (upd H a o) h' a o):HOk P w (upd H a o) h':=fun b u e=>by
 have hn:=x.fresh hp
 by_cases hb:b=a
 · subst hb;rw[bw] at e;cases e;exact new
 · rw[aK hb] at e
   exact (x b u e).stay (fun c v _ q=>k c v q) (fun c q=>by rw[aK (cV q hn)];exact q) fun c xs q=>by rw[aK (cV q hn)];exact q
end
noncomputable def Rd (H:Hp) (a:Addr) (u:HO):Prop:=H a=some u∨∃o,H a=some (.frz o u)
theorem Rd.ok {P:cc}{w:eK}{H:Hp}{h:Heap}{a:Addr}{u:HO} (r:Rd H a u) (x:HOk P w H h):dF P w H h a u:=by
 rcases r with r | ⟨o,r⟩
 · exact x a u r
 · obtain ⟨_,q⟩:=x a _ r
   exact q
noncomputable def Mut:Option HO→Prop
 | some (.lst _)=>True
 | some (.dK _)=>True
 | some (.dT _)=>True
 | some (.set _ _)=>True
 | some (.ins _ _ _)=>True
 | some (.ext _)=>True
 | _=>False
section
variable {P:cc}{w:eK}{H:Hp}{h h':Heap}{x e:Addr}{o':HO}
theorem HOk.write (ok:HOk P w H h) (mu:Mut (H x)) (he:e=x∨H e=some (.own x)) (k:∀b u,b≠e→h.get? b=some u→h'.get? b=some u) (heo:∃u,h'.get? e=some u)
 (new:dF P w (upd H x o') h' x o'):HOk P w (upd H x o') h':=fun b u q=>by
 have X4:∀c y,H c=some (.own y)→c≠x:=fun c y r z=>by subst z;rw[r] at mu;exact mu
 have ac3:∀c xs,H c=some (.tup xs)→c≠x:=fun c xs r z=>by subst z;rw[r] at mu;exact mu
 by_cases hb:b=x
 · subst hb;rw[bw] at q;cases q;exact new
 · rw[aK hb] at q
   by_cases hbe:b=e
   · have q':H b=some (.own x):=by
      rcases he with z | z
      · exact absurd (hbe.trans z) hb
      · rw[hbe];exact z
     rw[q] at q';cases q'
     obtain ⟨v,hv⟩:=heo
     exact ⟨v,by rw[hbe];exact hv⟩
   · refine (ok b u q).stay (fun c v hc r=>k c v ?_ r) (fun c r=>by rw[aK (X4 c b r)];exact r) fun c xs r=>by rw[aK (ac3 c xs r)];exact r
     rcases hc with rfl | hc
     · exact hbe
     · rintro rfl
       rcases he with z | z
       · exact X4 c b hc z
       · rw[hc] at z;cases z;exact hb rfl
end
structure Un (fs ex:List Addr) (H H':Hp) (h h':Heap):Prop where
 keep:∀b o,h.get? b=some o→H b=none→b∉fs→b∉ex→h'.get? b=some o
 slot:∀b o,h.get? b=some o→H b=none→b∈fs→b∉ex→∃sl,h'.get? b=some { o with slots:=sl }
 free:∀b o,h.get? b=some o→H b=none→b∉ex→H' b=none
 there:∀b o,h.get? b=some o→b∉ex→∃o',h'.get? b=some o'
 tups:∀b xs,H b=some (.tup xs)→H' b=some (.tup xs)
 jW:∀b o u,H b=some (.frz o u)→H' b=some (.frz o u)
 jo:∀b q,H b=some (.tbl q)→H' b=some (.tbl q)
section
variable {fs fs' ex ex':List Addr}{H H1 H2:Hp}{h h1 h2 h':Heap}{a x e:Addr}{o:HO}
theorem Un.any (u:Un fs ex H H1 h h1) {b:Addr}{ob:Obj} (q:h.get? b=some ob) (n:H b=none) (hx:b∉ex):∃sl,h1.get? b=some { ob with slots:=sl }:=by
 by_cases hb:b∈fs
 · exact u.slot b ob q n hb hx
 · exact ⟨ob.slots,u.keep b ob q n hb hx⟩
theorem Un.kept (k:∀b u,h.get? b=some u→h'.get? b=some u):Un fs ex H H h h':=
 ⟨fun b ob q _ _ _=>k b ob q,fun b ob q _ _ _=>⟨ob.slots,k b ob q⟩,fun _ _ _ n _=>n,fun b ob q _=>⟨ob,k b ob q⟩,fun _ _ q=>q,fun _ _ _ q=>q,fun _ _ q=>q⟩
theorem Un.refl:Un fs ex H H h h:=Un.kept fun _ _ q=>q
theorem Un.laid (k:∀b u,h.get? b=some u→h'.get? b=some u) (hp:h.objs.size≤a) (hn:H a=none):Un fs ex H (upd H a o) h h' where
 keep:=fun b u q _ _ _=>k b u q
 slot:=fun b u q _ _ _=>⟨u.slots,k b u q⟩
 free:=fun b u q n _=>by rw[aK (gL (d6 (dP q) hp))];exact n
 there:=fun b u q _=>⟨u,k b u q⟩
 tups:=fun b xs q=>by rw[aK (cV q hn)];exact q
 jW:=fun b u xs q=>by rw[aK (cV q hn)];exact q
 jo:=fun b xs q=>by rw[aK (cV q hn)];exact q
theorem Un.write (mu:Mut (H x)) (he:e=x∨H e=some (.own x)) (k:∀b u,b≠e→h.get? b=some u→h'.get? b=some u) (heo:∃u,h'.get? e=some u):Un fs ex H (upd H x o) h h':=by
 have hx:∀b,H b=none→b≠x:=fun b n z=>by subst z;rw[n] at mu;exact mu
 have hb:∀b,H b=none→b≠e:=fun b n z=>by
  subst z
  rcases he with r | r
  · exact hx b n r
  · rw[n] at r;cases r
 have hm:∀b u,H b=some u→¬ Mut (some u)→b≠x:=fun b u q nm z=>by subst z;rw[q] at mu;exact nm mu
 refine ⟨fun b u q n _ _=>k b u (hb b n) q,fun b u q n _ _=>⟨u.slots,k b u (hb b n) q⟩,fun b u q n _=>by rw[aK (hx b n)];exact n,fun b u q _=>?_,
  fun b xs q=>by rw[aK (hm b _ q fun z=>z)];exact q,fun b u xs q=>by rw[aK (hm b _ q fun z=>z)];exact q,fun b _ q=>by rw[aK (hm b _ q fun z=>z)];exact q⟩
 by_cases hbe:b=e
 · subst hbe;exact heo
 · exact ⟨u,k b u hbe q⟩
end
noncomputable def trk (h:Heap) (H:Hp):List Addr:=(fh h.objs.size).filter fun a=>(H a).isSome
noncomputable def uh (h:Heap) (H:Hp):Heap:=PySem.W.hideAll h (trk h H)
theorem Oq (h:Heap) (H:Hp):(uh h H).objs.size=h.objs.size:=PySem.W.hideAll_size _ _
theorem Rg {h:Heap}{H:Hp}{b:Addr}{o:Obj} (e:h.get? b=some o) (n:H b=none):(uh h H).get? b=some o:=
 PySem.W.hideAll_get _ e fun hm=>by
  have q:(H b).isSome=true:=(kx.mp hm).2
  rw[n] at q;simp at q
theorem Vj {h:Heap}{H:Hp}{b:Addr}{o:Obj} (e:(uh h H).get? b=some o):h.get? b=some o∧H b=none:=by
 have e':h.get? b=some o:=PySem.W.of_hideAll (trk h H) e
 refine ⟨e',?_⟩
 cases q:H b with
 | none=>rfl
 | some x=>
  have hm:b∈trk h H:=kx.mpr ⟨iX.mpr (dP e'),by simp[q]⟩
  have z:(uh h H).get? b=none:=PySem.W.hideAll_none (trk h H) hm
  rw[z] at e;cases e
structure Mod (K:af) (mg:Str→Option ag) (base:Heap):Prop where
 kin:K.In base
 glob:base.Ns ba mg
 blt:∃mb,base.Ns qo mb∧∀x:Str,x ≠ "__name__" → mb x=ee x
 nolimit:base.NoLimit
 bmain:∃bm ob,mg "__builtins__" = some (.ref bm)∧bm≠qo∧base.get? bm=some ob∧ob.cls = .type "module" ∧ ob.dict=some qo∧ob.data = .plain
structure Cx where
 prog:cc
 w:eK
 K:af
 mg:Str→Option ag
 base:Heap
 A:eI
 N:List Str
 s₀:ar
 H₀:Hp
 env:Env
 outer:List Env
 stack:List Env
 ex:List Addr
 fn:Str→Bool
 calm:Bool
 pn:List (Addr×Obj)
 xe:ag→ar→Prop
noncomputable def frs (l:List Env):List Addr:=l.filterMap (·.frame)
noncomputable abbrev Cx.fs (X:Cx):List Addr:=frs X.outer
noncomputable def Vis (sc:nk) (x:Str):Prop:=sc.names.lookup x=some .local∨sc.names.lookup x=some .cell∨sc.names.lookup x=some .free
noncomputable def Loc (sc:nk) (x:Str):Prop:=sc.names.lookup x=some .local∨sc.names.lookup x=some .cell
noncomputable def Look (env:Env) (h:Heap) (m:Str→Option ag) (x:Str) (u:ag):Prop:=
 (env.kindOf x=some .local∧m x=some u)∨((env.kindOf x=some .cell∨env.kindOf x=some .free)∧∃c,env.cells.lookup x=some c∧h.IsCell c (some u))
noncomputable def TabAt (K:af) (mg:Str→Option ag) (P:Addr):Prop:=∃(f:Addr) (o:Obj) (fd:mm) (c:Addr),mg "ways" = some (.ref f)∧K.lookup f=some o∧o.data = .func fd∧fd.code = .ref c∧iF K c P=true
noncomputable def gR:Str := "ways.<locals>.<lambda>"
structure Cx.Ok (X:Cx):Prop where
 mod:Mod X.K X.mg X.base
 kind:X.env.scope.kind = .function
 glob:X.env.globals=ba
 blt:X.env.builtins=qo
 above:X.s₀.heap.objs.size≤X.env.locals
 inj:∀x y c,X.env.cells.lookup x=some c→X.env.cells.lookup y=some c→x=y
 has:∀x,(X.env.kindOf x=some .cell∨X.env.kindOf x=some .free)→∃c,X.env.cells.lookup x=some c
 cab:∀x c,X.fn x=true→X.env.cells.lookup x=some c→X.s₀.heap.objs.size≤c
 hd:X.calm=true→X.A.handled=none
 frames:X.A.frames=some X.stack
 stk:X.stack=X.outer∨(X.stack=X.env::X.outer∧X.env.frame=some X.env.locals)
 exf:∀b∈X.ex,b≠X.env.locals∧∀x c,X.env.cells.lookup x=some c→c≠b
 bs:∀b o,X.base.get? b=some o→X.s₀.heap.get? b=some o∧X.H₀ b=none
 bsz:X.base.objs.size≤X.s₀.heap.objs.size
 By:∀b o,X.base.get? b=some o→b∉X.ex
 FN:∀b∈X.ex,b∉X.fs
 ou:X.s₀.heap.FunFrames X.base X.outer
 frf:∀b∈X.fs,X.H₀ b=none
 tabs:∀P,TabAt X.K X.mg P→X.H₀ P=some (.tbl gR)
structure Inv (X:Cx) (pins:List (Addr×Obj)) (σ:List (Option V)) (H:Hp) (s:ar):Prop where
 ok:X.Ok
 os:s.os=X.s₀.os
 bare:t9 s.gens
 base:Un X.fs X.ex X.H₀ H X.s₀.heap s.heap
 loc:∃m,s.heap.Ns X.env.locals m∧∀(i:Nat) (x:Str) (v:V),X.N[i]?=some x→σ[i]?=some (some v)→Vis X.env.scope x→∃u,RelV v u∧Look X.env s.heap m x u
 cell:∀x c,X.env.cells.lookup x=some c→∃v,s.heap.IsCell c v
 free:H X.env.locals=none
 fZ:∀x c,X.env.cells.lookup x=some c→H c=none
 pin:∀p∈X.pn++pins,s.heap.get? p.1=some p.2∧H p.1=none∧p.1≠X.env.locals∧p.1∉X.fs∧∀v,p.2.data ≠ .cell v
 hok:HOk X.prog X.w H s.heap
 len:σ.length=X.N.length
section
variable {X:Cx}{pins:List (Addr×Obj)}{σ:List (Option V)}{H H':Hp}{s:ar}{h':Heap}
theorem Cx.Ok.adz (ok:X.Ok) {b:Addr}{o:Obj} (e:X.base.get? b=some o):b∉X.fs:=fun hb=>by
 have:=(ok.ou.mem hb).1
 rw[e] at this;cases this
theorem Inv.bs (I:Inv X pins σ H s):∀b o,X.base.get? b=some o→s.heap.get? b=some o∧H b=none:=fun b o e=>
 ⟨I.base.keep b o (I.ok.bs b o e).1 (I.ok.bs b o e).2 (I.ok.adz e) (I.ok.By b o e),I.base.free b o (I.ok.bs b o e).1 (I.ok.bs b o e).2 (I.ok.By b o e)⟩
theorem Inv.bk (I:Inv X pins σ H s):∀b o,X.base.get? b=some o→s.heap.get? b=some o:=fun b o e=>(I.bs b o e).1
theorem Inv.mod (I:Inv X pins σ H s):Mod X.K X.mg X.base:=I.ok.mod
theorem Inv.kIn (I:Inv X pins σ H s):X.K.In s.heap:=I.ok.mod.kin.keeps I.bk
theorem Inv.nolimit (I:Inv X pins σ H s):s.heap.NoLimit:=I.ok.mod.nolimit.keeps I.bk
theorem Inv.lt (I:Inv X pins σ H s):X.env.locals < s.heap.objs.size:=let ⟨_,hn,_⟩:=I.loc;hn.lt
theorem Inv.sz (I:Inv X pins σ H s):X.s₀.heap.objs.size≤s.heap.objs.size:=eR I.ok.above (gy I.lt)
theorem Inv.aer (I:Inv X pins σ H s) {a:Addr} (h:s.heap.objs.size≤a):a∉X.fs:=fun hb=>by
 obtain ⟨_,o,ho,_⟩:=I.ok.ou.mem hb
 exact absurd (d6 (dP ho) (eR I.sz h)) (g7 _)
theorem Inv.cne (I:Inv X pins σ H s):∀x c,X.env.cells.lookup x=some c→c≠X.env.locals:=fun x c e z=>by
 obtain ⟨v,o,ho,hd⟩:=I.cell x c e
 obtain ⟨m,⟨o',es,ep,ho',hd',_⟩,_⟩:=I.loc
 rw[z,ho'] at ho;cases ho;rw[hd'] at hd;cases hd
theorem Inv.ou (I:Inv X pins σ H s):s.heap.FunFrames X.base X.outer:=by
 have all:∀(l:List Env),(∀b∈frs l,b∈X.fs)→X.s₀.heap.FunFrames X.base l→s.heap.FunFrames X.base l:=by
  intro l
  induction l with
  | nil=>intro _ _;trivial
  | cons env r ih=>
   intro hs hl
   obtain ⟨hk,⟨L,o,hf,hn,ho,hd⟩,hr⟩:=hl
   have hL:L∈X.fs:=hs L (by unfold frs;rw[tJ,hf];exact cf)
   obtain ⟨sl,e⟩:=I.base.slot L o ho (I.ok.frf L hL) hL fun z=>I.ok.FN L z hL
   exact ⟨hk,⟨L,_,hf,hn,e,hd⟩,ih (fun b hb=>hs b (by unfold frs;rw[tJ,hf];exact bq _ hb)) hr⟩
 exact all X.outer (fun _ hb=>hb) I.ok.ou
theorem Inv.stack (I:Inv X pins σ H s):s.heap.FunFrames X.base X.stack:=by
 rcases I.ok.stk with e | ⟨e,hf⟩
 · rw[e];exact I.ou
 · rw[e]
   obtain ⟨m,hn,_⟩:=I.loc
   refine .cons (by rw[I.ok.kind];decide) hf hn ?_ I.ou
   exact sF (eR I.ok.bsz I.ok.above)
theorem Inv.zK (I:Inv X pins σ H s):∀b∈frs X.stack,b∈X.env.locals::X.fs:=fun b hb=>by
 rcases I.ok.stk with e | ⟨e,hf⟩
 · rw[e] at hb;exact bq _ hb
 · rw[e] at hb
   unfold frs at hb
   rw[tJ,hf] at hb
   exact hb
theorem Inv.Bd (I:Inv X pins σ H s):∀b∈frs X.stack,H b=none:=fun b hb=>by
 rcases de.mp (I.zK b hb) with e | hb
 · rw[e];exact I.free
 · obtain ⟨_,o,ho,_⟩:=I.ok.ou.mem hb
   exact I.base.free b o ho (I.ok.frf b hb) fun z=>I.ok.FN b z hb
theorem Inv.step {g':Array u7}{t':Nat}{d':Drawn}{ch:List Addr} (I:Inv X pins σ H s)
 (hch:∀b∈ch,(b∈X.ex∨X.s₀.heap.objs.size≤b)∧b≠X.env.locals∧(∀x c,X.env.cells.lookup x=some c→c≠b)∧∀p∈X.pn++pins,p.1≠b)
 (keep:∀b o,b≠X.env.locals→b∉X.fs→b∉ch→s.heap.get? b=some o→H b=none→h'.get? b=some o)
 (slot:∀b o,b≠X.env.locals→b∈X.fs→b∉ch→s.heap.get? b=some o→H b=none→∃sl,h'.get? b=some { o with slots:=sl }) (free:∀b o,b∉ch→s.heap.get? b=some o→H b=none→H' b=none)
 (there:∀b o,b∉ch→s.heap.get? b=some o→∃o',h'.get? b=some o')
 (tups:∀b xs,H b=some (.tup xs)→H' b=some (.tup xs)) (jW:∀b o u,H b=some (.frz o u)→H' b=some (.frz o u)) (jo:∀b q,H b=some (.tbl q)→H' b=some (.tbl q))
 (ns:∀m,s.heap.Ns X.env.locals m→h'.Ns X.env.locals m) (hok:HOk X.prog X.w H' h') (hg:t9 g') :
 Inv X pins σ H' { s with heap:=h',gens:=g',drawn:=d',toks:=t' }:=by
 have neL:∀b o,X.s₀.heap.get? b=some o→b≠X.env.locals:=fun b o e=>gL (d6 (dP e) I.ok.above)
 have neC:∀b o,X.s₀.heap.get? b=some o→b∉X.ex→b∉ch:=fun b o e hx hb=>by
  rcases (hch b hb).1 with z | z
  · exact hx z
  · exact absurd (d6 (dP e) z) (g7 _)
 have cellK:∀x c,X.env.cells.lookup x=some c→∀v,s.heap.IsCell c v→h'.IsCell c v:=fun x c e v ao=>by
  obtain ⟨o,ho,hd⟩:=ao
  have nch:c∉ch:=fun z=>(hch c z).2.2.1 x c e rfl
  by_cases hc:c∈X.fs
  · obtain ⟨sl,q⟩:=slot c o (I.cne x c e) hc nch ho (I.fZ x c e)
    exact ⟨_,q,hd⟩
  · exact ⟨o,keep c o (I.cne x c e) hc nch ho (I.fZ x c e),hd⟩
 refine ⟨I.ok,I.os,hg,⟨fun b o e n hb hx=>?_,fun b o e n hb hx=>?_,fun b o e n hx=>?_,fun b o e hx=>?_,fun b xs e=>tups b xs (I.base.tups b xs e),fun b o xs e=>jW b o xs (I.base.jW b o xs e),fun b ps e=>jo b ps (I.base.jo b ps e)⟩,?_,fun x c e=>?_,?_,fun x c e=>?_,fun p hp=>?_,hok,I.len⟩
 · exact keep b o (neL b o e) hb (neC b o e hx) (I.base.keep b o e n hb hx) (I.base.free b o e n hx)
 · obtain ⟨sl,e1⟩:=I.base.slot b o e n hb hx
   obtain ⟨sl',e2⟩:=slot b _ (neL b o e) hb (neC b o e hx) e1 (I.base.free b o e n hx)
   exact ⟨sl',e2⟩
 · obtain ⟨o',e1⟩:=I.base.there b o e hx
   exact free b o' (neC b o e hx) e1 (I.base.free b o e n hx)
 · obtain ⟨o',e1⟩:=I.base.there b o e hx
   exact there b o' (neC b o e hx) e1
 · obtain ⟨m,hn,hl⟩:=I.loc
   refine ⟨m,ns m hn,fun i x v e1 e2 e3=>?_⟩
   obtain ⟨u,r,l⟩:=hl i x v e1 e2 e3
   refine ⟨u,r,?_⟩
   rcases l with l | ⟨k,c,e,z⟩
   · exact .inl l
   · exact .inr ⟨k,c,e,cellK x c e _ z⟩
 · obtain ⟨v,z⟩:=I.cell x c e
   exact ⟨v,cellK x c e v z⟩
 · obtain ⟨m,⟨o,_,_,ho,_⟩,_⟩:=I.loc
   exact free _ o (fun z=>(hch _ z).2.1 rfl) ho I.free
 · obtain ⟨v,o,ho,hd⟩:=I.cell x c e
   exact free c o (fun z=>(hch c z).2.2.1 x c e rfl) ho (I.fZ x c e)
 · obtain ⟨e,n,ne,nf,d⟩:=I.pin p hp
   have nch:p.1∉ch:=fun z=>(hch p.1 z).2.2.2 p hp rfl
   exact ⟨keep p.1 p.2 ne nf nch e n,free p.1 p.2 nch e n,ne,nf,d⟩
theorem Inv.un {t':Nat} (I:Inv X pins σ H s) (u:Un X.fs [] H H' s.heap h') (hok:HOk X.prog X.w H' h'):Inv X pins σ H' { s with heap:=h',toks:=t' }:=by
 obtain ⟨m,⟨o,es,ep,ho,r⟩,_⟩:=id I.loc
 obtain ⟨sl,hL⟩:=u.any ho I.free (by simp)
 exact I.step (g':=s.gens) (d':=s.drawn) (ch:=[]) (fun _ z=>nomatch z) (fun b o _ hb _ e n=>u.keep b o e n hb (by simp)) (fun b o _ hb _ e n=>u.slot b o e n hb (by simp)) (fun b o _ e n=>u.free b o e n (by simp)) (fun b o _ e=>u.there b o e (by simp)) u.tups u.jW u.jo (fun m' hm=>by
  obtain ⟨o',es',ep',ho',r'⟩:=hm
  rw[ho] at ho';cases ho'
  exact ⟨_,es',ep',hL,r'⟩) hok I.bare
theorem Inv.call {g':Array u7}{t':Nat}{d':Drawn}{ch:List Addr} (I:Inv X pins σ H s) (u:Un (frs X.stack) ch H H' s.heap h') (hok:HOk X.prog X.w H' h') (hg:t9 g')
 (hch:∀b∈ch,(b∈X.ex∨X.s₀.heap.objs.size≤b)∧b≠X.env.locals∧(∀x c,X.env.cells.lookup x=some c→c≠b)∧∀p∈X.pn++pins,p.1≠b) :
 Inv X pins σ H' { s with heap:=h',gens:=g',drawn:=d',toks:=t' }:=by
 obtain ⟨m,⟨o,es,ep,ho,r⟩,_⟩:=id I.loc
 obtain ⟨sl,hL⟩:=u.any ho I.free fun z=>(hch _ z).2.1 rfl
 exact I.step (ch:=ch) hch (fun b o hL hb hc e n=>u.keep b o e n (fun z=>(de.mp (I.zK b z)).elim hL hb) hc) (fun b o _ _ hc e n=>u.any e n hc) (fun b o hc e n=>u.free b o e n hc) (fun b o hc e=>u.there b o e hc) u.tups u.jW u.jo (fun m' hm=>by
  obtain ⟨o',es',ep',ho',r'⟩:=hm
  rw[ho] at ho';cases ho'
  exact ⟨_,es',ep',hL,r'⟩) hok hg
theorem Inv.turned {t':Nat}{it:Addr} (I:Inv X pins σ H s) (k:∀b o,b≠it→s.heap.get? b=some o→h'.get? b=some o) (hn:H it=none) (hL:it≠X.env.locals)
 (h1:it∈X.ex∨X.s₀.heap.objs.size≤it) (h2:∀x c,X.env.cells.lookup x=some c→c≠it) (h3:∀p∈X.pn++pins,p.1≠it):Inv X pins σ H { s with heap:=h',toks:=t' }:=by
 have nit:∀b u,H b=some u→b≠it:=fun b u e z=>by rw[z,hn] at e;cases e
 refine I.step (g':=s.gens) (d':=s.drawn) (ch:=[it]) (fun b hb=>?_) (fun b o _ _ hc e _=>k b o (fun z=>hc (by simp[z])) e) (fun b o _ _ hc e _=>⟨o.slots,k b o (fun z=>hc (by simp[z])) e⟩) (fun _ _ _ _ n=>n)
  (fun b o hc e=>⟨o,k b o (fun z=>hc (by simp[z])) e⟩) (fun _ _ e=>e) (fun _ _ _ e=>e) (fun _ _ e=>e) (fun m hm=>?_) (fun b u e=>?_) I.bare
 · have e:b=it:=by simpa using hb
   subst e
   exact ⟨h1,hL,h2,h3⟩
 · obtain ⟨o,es,ep,ho,r⟩:=hm
   exact ⟨o,es,ep,k _ o (oP hL) ho,r⟩
 · refine (I.hok b u e).stay (fun c v hc q=>k c v ?_ q) (fun _ q=>q) fun _ _ q=>q
   rcases hc with z | z
   · rw[z];exact nit b u e
   · exact nit c _ z
theorem Inv.tok (I:Inv X pins σ H s) (t:Nat):Inv X pins σ H { s with toks:=t }:=I.un (h':=s.heap) (t':=t) Un.refl I.hok
theorem Inv.kept {t':Nat} (I:Inv X pins σ H s) (k:∀b u,s.heap.get? b=some u→h'.get? b=some u):Inv X pins σ H { s with heap:=h',toks:=t' }:=I.un (Un.kept k) (I.hok.kept k)
theorem Inv.laid {a:Addr}{o:HO}{t':Nat} (I:Inv X pins σ H s) (k:∀b u,s.heap.get? b=some u→h'.get? b=some u) (hp:s.heap.objs.size≤a) (new:dF X.prog X.w (upd H a o) h' a o) :
 Inv X pins σ (upd H a o) { s with heap:=h',toks:=t' }:=I.un (Un.laid k hp (I.hok.fresh hp)) (I.hok.laid k hp new)
theorem Inv.write {x e:Addr}{o:HO}{t':Nat} (I:Inv X pins σ H s) (mu:Mut (H x)) (he:e=x∨H e=some (.own x)) (k:∀b u,b≠e→s.heap.get? b=some u→h'.get? b=some u) (heo:∃u,h'.get? e=some u)
 (new:dF X.prog X.w (upd H x o) h' x o):Inv X pins σ (upd H x o) { s with heap:=h',toks:=t' }:=I.un (Un.write mu he k heo) (I.hok.write mu he k heo new)
theorem Inv.Jd {T3:List (Addr×Obj)} (I:Inv X pins σ H s) (h:∀p∈T3,s.heap.get? p.1=some p.2∧H p.1=none∧p.1≠X.env.locals∧p.1∉X.fs∧∀v,p.2.data ≠ .cell v):Inv X T3 σ H s:=
 ⟨I.ok,I.os,I.bare,I.base,I.loc,I.cell,I.free,I.fZ,fun p hp=>(eJ.mp hp).elim (fun z=>I.pin p (ff _ z)) (h p),I.hok,I.len⟩
theorem yK {N:List Str} (hN:N.Nodup) {i j:Nat}{x:Str} (a:N[i]?=some x) (b:N[j]?=some x):i=j:=by
 obtain ⟨h1,e1⟩:=br.mp a
 obtain ⟨h2,e2⟩:=br.mp b
 exact (List.getElem_inj hN).mp (e1.trans e2.symm)
theorem Ce {M:zk}{A:eI}{E:ag→ar→Prop}{i:Nat}{x:Str}{v:V}{u:ag}{Q:Unit→ar→Prop} (I:Inv X pins σ H s) (hN:X.N.Nodup) (hi:X.N[i]?=some x) (hx:Loc X.env.scope x) (r:RelV v u)
 (h:∀s',Inv X pins (σ.set i (some v)) H s'→(∃a,x9 a s.heap s'.heap∧(a=X.env.locals∨X.env.cells.lookup x=some a))→Q () s') (hf:X.fn x=true∨X.env.scope.names.lookup x=some .local:=by first | exact .inl rfl | exact .inr rfl | assumption):cn M A (storeName X.env x u) Q E s:=by
 obtain ⟨m,hn,hl⟩:=id I.loc
 have hcls:(X.env.scope.kind == .class||(X.env.scope.kind == .module&&X.env.locals != X.env.globals))=false:=by rw[I.ok.kind];rfl
 have hiσ:i < σ.length:=by rw[I.len];exact (br.mp hi).1
 have cne:=I.cne
 have tracked:∀{a:Addr}{h':Heap},(∃o,s.heap.get? a=some o∧H a=none)→x9 a s.heap h'→HOk X.prog X.w H h':=fun {a h'} ha hs b ob e=>by
  obtain ⟨_,_,hfree⟩:=ha
  refine (I.hok b ob e).stay (fun c w' hc q=>(hs.2 c ?_).trans q) (fun _ q=>q) fun _ _ q=>q
  rintro rfl
  rcases hc with rfl | hc
  · rw[hfree] at e;cases e
  · rw[hfree] at hc;cases hc
 rcases hx with hk | hk
 · refine wpAny_storeName_local hk hn (fun h' hn' hs=>?_) hcls
   obtain ⟨oL,_,_,hoL,_⟩:=id hn
   refine h _ ⟨I.ok,I.os,I.bare,⟨fun b o e n hb hx=>?_,fun b o e n hb hx=>?_,I.base.free,fun b o e hx=>?_,I.base.tups,I.base.jW,I.base.jo⟩,⟨_,hn',fun j y v' e1 e2 e3=>?_⟩,fun y c e=>?_,I.free,I.fZ,fun p hp=>?_,tracked ⟨oL,hoL,I.free⟩ hs,by simpa using I.len⟩ ⟨_,hs,.inl rfl⟩
   · exact (hs.2 b (gL (d6 (dP e) I.ok.above))).trans (I.base.keep b o e n hb hx)
   · obtain ⟨sl,e1⟩:=I.base.slot b o e n hb hx
     exact ⟨sl,(hs.2 b (gL (d6 (dP e) I.ok.above))).trans e1⟩
   · obtain ⟨o',e1⟩:=I.base.there b o e hx
     exact ⟨o',(hs.2 b (gL (d6 (dP e) I.ok.above))).trans e1⟩
   · by_cases hj:j=i
     · subst hj
       rw[hi] at e1;cases e1
       rw[ia hiσ] at e2
       cases e2
       exact ⟨u,r,.inl ⟨hk,by simp⟩⟩
     · rw[mw (oP hj)] at e2
       obtain ⟨u',r',q⟩:=hl j y v' e1 e2 e3
       refine ⟨u',r',?_⟩
       rcases q with ⟨k,e⟩ | ⟨k,c,e,z⟩
       · refine .inl ⟨k,?_⟩
         have:y≠x:=fun e=>hj (yK hN e1 (e ▸ hi))
         simp[this,e]
       · exact .inr ⟨k,c,e,z.sameBut hs (cne y c e)⟩
   · obtain ⟨w',z⟩:=I.cell y c e
     exact ⟨w',z.sameBut hs (cne y c e)⟩
   · obtain ⟨e,n,ne,nf,d⟩:=I.pin p hp
     exact ⟨(hs.2 p.1 ne).trans e,n,ne,nf,d⟩
 · have hfn:X.fn x=true:=by
    rcases hf with z | z
    · exact z
    · rw[z] at hk;cases hk
   obtain ⟨c,hc⟩:=I.ok.has x (.inl hk)
   obtain ⟨w',z⟩:=I.cell x c hc
   refine wpAny_storeName_cell I.ok.kind hk hc z (fun h' hc' hs=>?_)
   obtain ⟨oc,hoc,abF⟩:=id z
   refine h { s with heap:=h' } ⟨I.ok,I.os,I.bare,⟨fun b o e n hb hx=>?_,fun b o e n hb hx=>?_,I.base.free,fun b o e hx=>?_,I.base.tups,I.base.jW,I.base.jo⟩,⟨m,hn.sameBut hs (oP (cne x c hc)),fun j y v' e1 e2 e3=>?_⟩,fun y c' e=>?_,I.free,I.fZ,fun p hp=>?_,tracked ⟨oc,hoc,I.fZ x c hc⟩ hs,by simpa using I.len⟩ ⟨c,hs,.inr hc⟩
   · exact (hs.2 b (gL (d6 (dP e) (I.ok.cab x c hfn hc)))).trans (I.base.keep b o e n hb hx)
   · obtain ⟨sl,e1⟩:=I.base.slot b o e n hb hx
     exact ⟨sl,(hs.2 b (gL (d6 (dP e) (I.ok.cab x c hfn hc)))).trans e1⟩
   · obtain ⟨o',e1⟩:=I.base.there b o e hx
     exact ⟨o',(hs.2 b (gL (d6 (dP e) (I.ok.cab x c hfn hc)))).trans e1⟩
   · by_cases hj:j=i
     · subst hj
       rw[hi] at e1;cases e1
       rw[ia hiσ] at e2
       cases e2
       exact ⟨u,r,.inr ⟨.inl hk,c,hc,hc'⟩⟩
     · rw[mw (oP hj)] at e2
       obtain ⟨u',r',q⟩:=hl j y v' e1 e2 e3
       refine ⟨u',r',?_⟩
       rcases q with q | ⟨k,c',e,z'⟩
       · exact .inl q
       · refine .inr ⟨k,c',e,z'.sameBut hs ?_⟩
         rintro rfl
         exact hj (yK hN e1 (I.ok.inj _ _ _ e hc ▸ hi))
   · by_cases hcc:c'=c
     · subst hcc;exact ⟨_,hc'⟩
     · obtain ⟨w2,z2⟩:=I.cell y c' e
       exact ⟨w2,z2.sameBut hs hcc⟩
   · obtain ⟨e,n,ne,nf,d⟩:=I.pin p hp
     refine ⟨(hs.2 p.1 ?_).trans e,n,ne,nf,d⟩
     intro q
     rw[q,hoc] at e
     have q':oc=p.2:=Option.some.inj e
     exact d w' (by rw[← q'];exact abF)
theorem tD {M:zk}{A:eI}{E:ag→ar→Prop}{i:Nat}{x:Str}{v:V}{u:ag}{Q:Unit→ar→Prop} (I:Inv X pins σ H s) (hN:X.N.Nodup) (hi:X.N[i]?=some x) (hx:Loc X.env.scope x) (r:RelV v u)
 (h:∀s',Inv X pins (σ.set i (some v)) H s'→Q () s') (hf:X.fn x=true∨X.env.scope.names.lookup x=some .local:=by first | exact .inl rfl | exact .inr rfl | assumption):cn M A (storeName X.env x u) Q E s:=
 Ce I hN hi hx r (fun s' I' _=>h s' I') hf
theorem Inv.call' {s':ar}{ch:List Addr} (I:Inv X pins σ H s) (ho:s'.os=s.os) (u:Un (frs X.stack) ch H H' s.heap s'.heap) (hok:HOk X.prog X.w H' s'.heap) (hg:t9 s'.gens)
 (hch:∀b∈ch,(b∈X.ex∨X.s₀.heap.objs.size≤b)∧b≠X.env.locals∧(∀x c,X.env.cells.lookup x=some c→c≠b)∧∀p∈X.pn++pins,p.1≠b):Inv X pins σ H' s':=by
 obtain ⟨h',g',d',t',o'⟩:=s'
 have e:o'=s.os:=ho
 subst e
 exact I.call (g':=g') (t':=t') (d':=d') u hok hg hch
end
noncomputable abbrev XK:=ag→Option Addr→Hp→Prop
noncomputable abbrev St:=List (Option V)
noncomputable abbrev VK:=V→Hp→Prop
noncomputable abbrev TE:=St→Hp→VK→Prop
noncomputable abbrev TT:=St→Hp→(Bool→Hp→Prop)→Prop
noncomputable abbrev TA:=St→Hp→(List V→Hp→Prop)→Prop
structure Ends where
 nx:St→Hp→Prop
 rt:VK
 bk:St→Hp→Prop:=fun _ _=>False
 ct:St→Hp→Prop:=fun _ _=>False
noncomputable abbrev TS:=Ends→St→Hp→Prop
noncomputable def EP (X:Cx) (pins:List (Addr×Obj)) (σ:St) (Q:VK) (u:ag) (s':ar):Prop:=∃v H',Inv X pins σ H' s'∧RelV v u∧Q v H'
noncomputable def TP (X:Cx) (pins:List (Addr×Obj)) (σ:St) (Q:Bool→Hp→Prop) (b:Bool) (s':ar):Prop:=∃H',Inv X pins σ H' s'∧Q b H'
noncomputable def AP (X:Cx) (pins:List (Addr×Obj)) (σ:St) (Q:List V→Hp→Prop) (us:List ag) (s':ar):Prop:=∃vs H',Inv X pins σ H' s'∧Vals vs us∧Q vs H'
noncomputable def SP (X:Cx) (pins:List (Addr×Obj)) (D:Ends) (f:Flow) (s':ar):Prop:=
 match f with
 | .next=>∃σ' H',Inv X pins σ' H' s'∧D.nx σ' H'
 | .brk=>∃σ' H',Inv X pins σ' H' s'∧D.bk σ' H'
 | .cont=>∃σ' H',Inv X pins σ' H' s'∧D.ct σ' H'
 | .ret u=>∃v σ' H',Inv X pins σ' H' s'∧RelV v u∧D.rt v H'
noncomputable def PE (X:Cx) (e:Expr) (t:TE):Prop:=
 ∀(pins:List (Addr×Obj)) (s:ar) (σ:St) (H:Hp) (Q:VK),Inv X pins σ H s→t σ H Q→cn (cx X.prog X.w) X.A (eval e X.env) (EP X pins σ Q) X.xe s
noncomputable def PT (X:Cx) (e:Expr) (t:TT):Prop:=
 ∀(pins:List (Addr×Obj)) (s:ar) (σ:St) (H:Hp) (Q:Bool→Hp→Prop),Inv X pins σ H s→t σ H Q→cn (cx X.prog X.w) X.A (AG e X.env (eval e X.env)) (TP X pins σ Q) X.xe s
noncomputable def PW (X:Cx) (e:Expr) (t:TT):Prop:=
 ∀(whole:Sem ag) (pins:List (Addr×Obj)) (s:ar) (σ:St) (H:Hp) (Q:Bool→Hp→Prop),Inv X pins σ H s→t σ H Q→cn (cx X.prog X.w) X.A (AG e X.env whole) (TP X pins σ Q) X.xe s
theorem PW.pt {X:Cx}{e:Expr}{t:TT} (h:PW X e t):PT X e t:=h _
noncomputable def PA (X:Cx) (es:List Expr) (t:TA):Prop:=
 ∀(pos:Pos) (pins:List (Addr×Obj)) (s:ar) (σ:St) (H:Hp) (Q:List V→Hp→Prop),Inv X pins σ H s→t σ H Q→cn (cx X.prog X.w) X.A (spliced (lI pos (d5 es X.env))) (AP X pins σ Q) X.xe s
noncomputable def PS (X:Cx) (st:Stmt) (t:TS):Prop:=
 ∀(pins:List (Addr×Obj)) (s:ar) (σ:St) (H:Hp) (D:Ends),Inv X pins σ H s→t D σ H→cn (cx X.prog X.w) X.A (exec st X.env) (SP X pins D) X.xe s
noncomputable def PSs (X:Cx) (st:List Stmt) (t:TS):Prop:=
 ∀(pins:List (Addr×Obj)) (s:ar) (σ:St) (H:Hp) (D:Ends),Inv X pins σ H s→t D σ H→cn (cx X.prog X.w) X.A (execs st X.env) (SP X pins D) X.xe s
theorem thn {α:Type}{t:Sem α}{Q Q':α→ar→Prop}{M:zk}{A:eI}{E:ag→ar→Prop}{s:ar} (h:cn M A t Q E s) (hQ:∀a s,Q a s→Q' a s):cn M A t Q' E s:=gc h hQ fun _ _ x=>x
section
variable {X:Cx}
noncomputable def aeL (i:Nat):TE:=fun σ H Q=>∃v,σ[i]?=some (some v)∧Q v H
noncomputable def tC (v:V):TE:=fun _ H Q=>Q v H
theorem du {i:Nat}{x:Str}{pos:Pos} (hN:X.N[i]?=some x) (hv:Vis X.env.scope x) (hd:(x == ("__debug__" : Str))=false:=by decide) (hcd:(x == ("__classdict__" : Str))=false:=by decide):PE X (.Name x pos) (aeL i):=by
 intro pins s σ H Q I h
 obtain ⟨v,e,h⟩:=h
 obtain ⟨m,hn,hl⟩:=I.loc
 obtain ⟨u,r,l⟩:=hl i x v hN e hv
 have fin:EP X pins σ Q u s:=⟨v,H,I,r,h⟩
 rcases l with ⟨hk,hm⟩ | ⟨hk,c,hc,hcell⟩
 · exact ya (wpAny_loadName_local I.ok.kind hk hn hm fin) hd
 · rcases hk with hk | hk
   · exact ya (wpAny_loadName_cell I.ok.kind hk hc hcell fin) hd
   · exact ya (wpAny_loadName_free I.ok.kind hk hc hcell fin hcd) hd
theorem Z3 {i j pos}:PE X (.Constant (.int i) j pos) (tC (.int i)):=fun _ _ _ H _ I h=>wpAny_Constant_int ⟨.int i,H,I.tok _,⟨_,rfl⟩,h⟩
theorem abh {b j pos}:PE X (.Constant (.bool b) j pos) (tC (.bl b)):=fun _ _ _ H _ I h=>Constant_bool ⟨.bl b,H,I,rfl,h⟩
theorem Zw {j pos}:PE X (.Constant .none j pos) (tC .non):=fun _ _ _ H _ I h=>Constant_none ⟨.non,H,I,rfl,h⟩
theorem Nz {x j pos}:PE X (.Constant (.str x) j pos) (tC (.str x)):=fun _ _ _ H _ I h=>Calls.Constant_str ⟨.str x,H,I.tok _,⟨_,rfl⟩,h⟩
noncomputable def Gl (X:Cx) (x:Str):Prop:=X.env.kindOf x=some .globalImplicit
theorem lH {E:ag→ar→Prop}{pins:List (Addr×Obj)}{s:ar}{σ:St}{H:Hp}{x:Str}{u:ag}{pos:Pos}{Q:ag→ar→Prop} (I:Inv X pins σ H s) (hg:Gl X x) (hm:X.mg x=some u) (h:Q u s)
 (hd:(x == ("__debug__" : Str))=false:=by decide):cn (cx X.prog X.w) X.A (eval (.Name x pos) X.env) Q E s:=
 Calls.Name_function_global I.ok.kind hg (Calls.loadGlobal_global (by rw[I.ok.glob];exact I.mod.glob.keeps I.bk) hm h) hd
theorem nY {E:ag→ar→Prop}{pins:List (Addr×Obj)}{s:ar}{σ:St}{H:Hp}{x:Str}{u:ag}{pos:Pos}{Q:ag→ar→Prop} (I:Inv X pins σ H s) (hg:Gl X x) (hm:X.mg x=none) (hv:ee x=some u) (h:Q u s)
 (hn:x ≠ "__name__" := by decide) (hd:(x == ("__debug__" : Str))=false:=by decide):cn (cx X.prog X.w) X.A (eval (.Name x pos) X.env) Q E s:=by
 obtain ⟨mb,h1,h2⟩:=I.mod.blt
 exact Calls.Name_function_global I.ok.kind hg (Calls.loadGlobal_builtin (by rw[I.ok.glob];exact I.mod.glob.keeps I.bk) hm (by rw[I.ok.blt];exact h1.keeps I.bk) ((h2 x hn).trans hv) h) hd
theorem xf {x:Str}{v:V}{u:ag}{pos:Pos} (hg:Gl X x) (hm:X.mg x=some u) (r:RelV v u) (hd:(x == ("__debug__" : Str))=false:=by decide):PE X (.Name x pos) (tC v):=
 fun _ _ _ H _ I h=>lH I hg hm ⟨v,H,I,r,h⟩ hd
theorem Wk {x:Str}{v:V}{u:ag}{pos:Pos} (hg:Gl X x) (hm:X.mg x=none) (hv:ee x=some u) (r:RelV v u) (hn:x ≠ "__name__" := by decide) (hd:(x == ("__debug__" : Str))=false:=by decide):PE X (.Name x pos) (tC v):=
 fun _ _ _ H _ I h=>nY I hg hm hv ⟨v,H,I,r,h⟩ hn hd
variable {a b:Expr}{ta tb:TE}{pos:Pos}
noncomputable def tB (t:TE):TT:=fun σ H Q=>t σ H fun x H1=>∃c,x = .bl c∧Q c H1
theorem aaf {e:Expr}{t:TE} (h:PE X e t) (he:∀whole,AG e X.env whole=(do let v ← whole;standAt e.pos;Ap [v] (truthy v)):=by intro _;rfl):PT X e (tB t):=by
 intro pins s σ H Q I hw
 refine isTrue_plain (thn (h pins s σ H _ I hw) fun v s1 ao=>?_) (he _)
 obtain ⟨x,H1,I1,r1,q1⟩:=ao
 obtain ⟨d,rfl,q⟩:=q1
 cases r1
 exact ki ⟨H1,I1,q⟩
variable {tA tB':TT}{rest:List Expr}
noncomputable def aet (t u:TT):TT:=fun σ H Q=>t σ H fun c H1=>if c=true then u σ H1 Q else Q false H1
noncomputable def tOr (t u:TT):TT:=fun σ H Q=>t σ H fun c H1=>if c=true then Q true H1 else u σ H1 Q
noncomputable def acW (t:TT):TT:=fun σ H Q=>t σ H fun c H1=>Q (!c) H1
theorem Uz (ha:PT X a tA):PW X (.BoolOp .And [a] pos) tA:=by
 intro wh pins s σ H Q I h
 refine isTrue_and (thn (ha pins s σ H Q I h) fun c s1 e=>?_)
 cases c with
 | true=>exact isTrue_and_nil e
 | false=>exact e
theorem Yp (ha:PT X a tA):PW X (.BoolOp .Or [a] pos) tA:=by
 intro wh pins s σ H Q I h
 refine isTrue_or (thn (ha pins s σ H Q I h) fun c s1 e=>?_)
 cases c with
 | false=>exact isTrue_or_nil e
 | true=>exact e
theorem XX (ha:PT X a tA) (hb:PW X (.BoolOp .And (b::rest) pos) tB'):PW X (.BoolOp .And (a::b::rest) pos) (aet tA tB'):=by
 intro wh pins s σ H Q I h
 refine isTrue_and (thn (ha pins s σ H _ I h) fun c s1 ao=>?_)
 obtain ⟨H1,I1,q1⟩:=ao
 cases c with
 | true=>exact hb wh pins s1 σ H1 Q I1 q1
 | false=>exact ⟨H1,I1,q1⟩
theorem aaV (ha:PT X a tA) (hb:PW X (.BoolOp .Or (b::rest) pos) tB'):PW X (.BoolOp .Or (a::b::rest) pos) (tOr tA tB'):=by
 intro wh pins s σ H Q I h
 refine isTrue_or (thn (ha pins s σ H _ I h) fun c s1 ao=>?_)
 obtain ⟨H1,I1,q1⟩:=ao
 cases c with
 | true=>exact ⟨H1,I1,q1⟩
 | false=>exact hb wh pins s1 σ H1 Q I1 q1
theorem XM (ha:PT X a tA):PT X (.UnaryOp .Not a pos) (acW tA):=by
 intro pins s σ H Q I h
 exact isTrue_not (ha pins s σ H (fun c H1=>Q (!c) H1) I h)
noncomputable def aaK (ta tb:TE):TE:=fun σ H Q=>ta σ H fun x H1=>∃c,x = .bl c∧if c=true then tb σ H1 Q else Q (.bl false) H1
noncomputable def aa3 (ta:TE):TE:=fun σ H Q=>ta σ H fun x H1=>∃c,x = .bl c∧Q (.bl (!c)) H1
theorem Yb {op}{t:TE} (h:PE X a t):PE X (.BoolOp op [a] pos) t:=fun pins s σ H Q I hw=>BoolOp_one (h pins s σ H Q I hw)
theorem Xj (ha:PE X a ta) (hb:PE X (.BoolOp .And (b::rest) pos) tb):PE X (.BoolOp .And (a::b::rest) pos) (aaK ta tb):=by
 intro pins s σ H Q I h
 refine BoolOp_and (thn (ha pins s σ H _ I h) fun v s1 ao=>?_)
 obtain ⟨x,H1,I1,r1,q1⟩:=ao
 obtain ⟨c,rfl,q1⟩:=q1
 cases r1
 refine ki ?_
 cases c with
 | true=>exact hb pins s1 σ H1 Q I1 q1
 | false=>exact ⟨.bl false,H1,I1,rfl,q1⟩
theorem Zc (ha:PE X a ta):PE X (.UnaryOp .Not a pos) (aa3 ta):=by
 intro pins s σ H Q I h
 refine UnaryOp_ (thn (ha pins s σ H _ I h) fun v s1 ao=>?_)
 obtain ⟨x,H1,I1,r1,q1⟩:=ao
 obtain ⟨c,rfl,q1⟩:=q1
 cases r1
 exact not_of (ki ⟨.bl (!c),H1,I1,rfl,q1⟩)
end
noncomputable def SqL (K:af) (H:Hp) (a:Addr) (xs:List V):Prop:=
 Rd H a (.lst xs) ∨
  ∃(o:Obj) (its:Array ag) (n:Nat),K.lookup a=some o∧o.cls = .type "list" ∧ o.dict=none∧o.data = .seq its n∧its.size≤bg∧Vals xs its.toList
noncomputable def SqT (K:af) (H:Hp) (a:Addr) (xs:List V):Prop:=
 Rd H a (.tup xs) ∨
  ∃(o:Obj) (its:Array ag) (n:Nat),K.lookup a=some o∧o.cls = .type "tuple" ∧ o.data = .seq its n∧its.size≤bg∧Vals xs its.toList
noncomputable def ab0:ag→Option V
 | .none=>some .non
 | .bool b=>some (.bl b)
 | .int i _=>some (.int i)
 | .str x _=>some (.str x)
 | .bytes b _=>some (.byt b)
 | .float b _=>some (.flt b)
 | .ref a=>some (.ref a)
 | .type n=>some (.ty n)
 | _=>none
theorem RelV.abs {x:V}{u:ag} (r:RelV x u):ab0 u=some x:=by
 cases x with
 | non=>cases r;rfl
 | bl _=>cases r;rfl
 | int _=>obtain ⟨t,rfl⟩:=r;rfl
 | str _=>obtain ⟨t,rfl⟩:=r;rfl
 | byt _=>obtain ⟨t,rfl⟩:=r;rfl
 | flt _=>obtain ⟨t,rfl⟩:=r;rfl
 | ref _=>cases r;rfl
 | ty _=>cases r;rfl
theorem RelV.inj {x y:V}{u:ag} (r:RelV x u) (q:RelV y u):x=y:=Option.some.inj (r.abs.symm.trans q.abs)
theorem Vals.inj:∀{xs ys:List V}{us:List ag},Vals xs us→Vals ys us→xs=ys
 | _,_,_,.nil,.nil=>rfl
 | _,_,_,.cons r t,.cons r' t'=>by rw[r.inj r',Vals.inj t t']
section
variable {X:Cx}{pins:List (Addr×Obj)}{σ:St}{H:Hp}{s:ar}{a:Addr}{xs ys:List V}
theorem SqL.of {K:af} (h:H a=some (.lst xs)):SqL K H a xs:=.inl (.inl h)
theorem SqT.of {K:af} (h:H a=some (.tup xs)):SqT K H a xs:=.inl (.inl h)
theorem Inv.list (I:Inv X pins σ H s) (h:SqL X.K H a xs):∃its:List ag,Vals xs its∧PlainL s.heap a its.toArray∧xs.length≤bg:=by
 rcases h with h | ⟨o,its,n,hk,hc,hd,hs,hz,r⟩
 · obtain ⟨z,its,n,r,e⟩:=h.ok I.hok
   exact ⟨its,r,⟨_,n,e,rfl,rfl,rfl⟩,z⟩
 · refine ⟨its.toList,r,⟨o,n,I.kIn a o hk,hc,hd,by simpa using hs⟩,?_⟩
   have e:=r.length
   simp only[pj] at e
   omega
theorem Inv.tuple (I:Inv X pins σ H s) (h:SqT X.K H a xs):∃its:List ag,Vals xs its∧uS s.heap a its.toArray∧xs.length≤bg:=by
 rcases h with h | ⟨o,its,n,hk,hc,hs,hz,r⟩
 · obtain ⟨z,its,r,p⟩:=h.ok I.hok
   exact ⟨its,r,p,z⟩
 · refine ⟨its.toList,r,⟨o,I.kIn a o hk,hc,n,by simpa using hs⟩,?_⟩
   have e:=r.length
   simp only[pj] at e
   omega
theorem Inv.EY (I:Inv X pins σ H s) (h:SqL X.K H a xs) (h':SqL X.K H a ys):xs=ys:=by
 obtain ⟨its,r,⟨o,n,e,_,_,d⟩,_⟩:=I.list h
 obtain ⟨its',r',⟨o',n',e',_,_,d'⟩,_⟩:=I.list h'
 rw[e] at e';cases e'
 rw[d] at d'
 injection d' with d1 _
 have:its=its':=by simpa using congrArg Array.toList d1
 subst this
 exact r.inj r'
theorem Inv.CQ (I:Inv X pins σ H s) (h:SqT X.K H a xs) (h':SqT X.K H a ys):xs=ys:=by
 obtain ⟨its,r,⟨o,e,_,n,d⟩,_⟩:=I.tuple h
 obtain ⟨its',r',⟨o',e',_,n',d'⟩,_⟩:=I.tuple h'
 rw[e] at e';cases e'
 rw[d] at d'
 injection d' with d1 _
 have:its=its':=by simpa using congrArg Array.toList d1
 subst this
 exact r.inj r'
end
noncomputable abbrev Cx.wish (X:Cx) (E:ag→ar→Prop):Cx:={ X with xe:=E }
noncomputable abbrev Cx.nox (X:Cx):Cx:=X.wish fun _ _=>False
theorem Cx.Ok.wish {X:Cx} (ok:X.Ok) (E:ag→ar→Prop):(X.wish E).Ok:=
 ⟨ok.mod,ok.kind,ok.glob,ok.blt,ok.above,ok.inj,ok.has,ok.cab,ok.hd,ok.frames,ok.stk,ok.exf,ok.bs,ok.bsz,ok.By,ok.FN,ok.ou,ok.frf,ok.tabs⟩
theorem Cx.Ok.nT {X:Cx}{E:ag→ar→Prop} (ok:(X.wish E).Ok):X.Ok:=
 ⟨ok.mod,ok.kind,ok.glob,ok.blt,ok.above,ok.inj,ok.has,ok.cab,ok.hd,ok.frames,ok.stk,ok.exf,ok.bs,ok.bsz,ok.By,ok.FN,ok.ou,ok.frf,ok.tabs⟩
section
variable {X:Cx}{pins:List (Addr×Obj)}{σ:St}{H:Hp}{s:ar}{E:ag→ar→Prop}
theorem Inv.wish (I:Inv X pins σ H s) (E:ag→ar→Prop):Inv (X.wish E) pins σ H s:=⟨I.ok.wish E,I.os,I.bare,I.base,I.loc,I.cell,I.free,I.fZ,I.pin,I.hok,I.len⟩
theorem Inv.nT (I:Inv (X.wish E) pins σ H s):Inv X pins σ H s:=⟨I.ok.nT,I.os,I.bare,I.base,I.loc,I.cell,I.free,I.fZ,I.pin,I.hok,I.len⟩
theorem SP.nT {D:Ends}{f:Flow}{s':ar} (h:SP (X.wish E) pins D f s'):SP X pins D f s':=by
 cases f with
 | next=>obtain ⟨σ',H',I,q⟩:=h;exact ⟨σ',H',I.nT,q⟩
 | brk=>obtain ⟨σ',H',I,q⟩:=h;exact ⟨σ',H',I.nT,q⟩
 | cont=>obtain ⟨σ',H',I,q⟩:=h;exact ⟨σ',H',I.nT,q⟩
 | ret u=>obtain ⟨v,σ',H',I,r,q⟩:=h;exact ⟨v,σ',H',I.nT,r,q⟩
theorem PSs.nox {st:List Stmt}{t:TS} (h:PSs X.nox st t):PSs X st t:=fun pins s σ H D I hw=>
 gc (h pins s σ H D (I.wish _) hw) (fun _ _ q=>q.nT) fun _ _ z=>kT z
end
section
variable {X:Cx}{st:Stmt}{rest:List Stmt}{t u:TS}{e:Expr}{te:TE}{pos:Pos}
noncomputable def aa6:TS:=fun D σ H=>D.nx σ H
noncomputable def ac1 (t u:TS):TS:=fun D σ H=>t { D with nx:=u D } σ H
theorem Wa:PSs X [] aa6:=fun _ _ σ H _ I h=>qa ⟨σ,H,I,h⟩
theorem yf (h1:PS X st t) (h2:PSs X rest u):PSs X (st::rest) (ac1 t u):=by
 intro pins s σ H D I h
 refine xy (thn (h1 pins s σ H { D with nx:=u D } I h) fun f s1 q=>?_)
 cases f with
 | next=>
  obtain ⟨σ',H',I',q⟩:=q
  exact h2 pins s1 σ' H' D I' q
 | ret v=>exact q
 | brk=>exact q
 | cont=>exact q
theorem JK (h1:PS X st t):PSs X [st] t:=by
 intro pins s σ H D I h
 refine xy (thn (h1 pins s σ H D I h) fun f s1 q=>?_)
 cases f with
 | next=>exact qa q
 | ret v=>exact q
 | brk=>exact q
 | cont=>exact q
theorem Inv.quiet {pins:List (Addr×Obj)}{σ:St}{H:Hp}{s:ar} (I:Inv X pins σ H s):interactive X.env=false:=by simp[interactive,I.ok.kind]
noncomputable def aaU (te:TE):TS:=fun D σ H=>te σ H fun _ H1=>D.nx σ H1
theorem pq (he:PE X e te) (hs:kr e none pos.line X.env=pure false:=by rfl):PS X (.Expr e pos) (aaU te):=by
 intro pins s σ H D I h
 exact wpAny_Expr_any (thn (he pins s σ H _ I h) fun v s1 ⟨x,H1,I1,r1,q1⟩=>⟨σ,H1,I1,q1⟩) I.quiet hs
noncomputable def aec (te:TE):TS:=fun D σ H=>te σ H D.rt
theorem GC (he:PE X e te):PS X (.Return (some e) pos) (aec te):=by
 intro pins s σ H D I h
 exact wpAny_Return_some (thn (he pins s σ H _ I h) fun v s1 ⟨x,H1,I1,r1,q1⟩=>⟨x,σ,H1,I1,r1,q1⟩)
noncomputable def acS (c:TT) (t u:TS):TS:=fun D σ H=>c σ H fun b H1=>if b=true then t D σ H1 else u D σ H1
theorem T8 {c:Expr}{a b:List Stmt}{tc:TT} (hc:PT X c tc) (ha:PSs X a t) (hb:PSs X b u):PS X (.If c a b pos) (acS tc t u):=by
 intro pins s σ H D I h
 refine wpAny_If (thn (hc pins s σ H _ I h) fun d s1 ao=>?_)
 obtain ⟨H1,I1,q1⟩:=ao
 cases d with
 | true=>exact ha pins s1 σ H1 D I1 q1
 | false=>exact hb pins s1 σ H1 D I1 q1
noncomputable def PX:TS:=fun _ _ _=>False
theorem Hr:PS X st PX:=fun _ _ _ _ _ _ h=>h.elim
theorem CK {sts:List Stmt}:PSs X sts PX:=fun _ _ _ _ _ _ h=>h.elim
end
noncomputable abbrev TG:=V→St→Hp→(St→Hp→Prop)→Prop
noncomputable abbrev TGs:=List V→St→Hp→(St→Hp→Prop)→Prop
noncomputable def PG (X:Cx) (target:Expr) (t:TG):Prop:=
 ∀(pins:List (Addr×Obj)) (s:ar) (σ:St) (H:Hp) (v:V) (u:ag) (Q:St→Hp→Prop),Inv X pins σ H s→RelV v u→t v σ H Q →
  cn (cx X.prog X.w) X.A (xc target X.env u) (fun _ s'=>∃σ' H',Inv X pins σ' H' s'∧Q σ' H') X.xe s
noncomputable def PGs (X:Cx) (ts:List Expr) (t:TGs):Prop:=
 ∀(pins:List (Addr×Obj)) (s:ar) (σ:St) (H:Hp) (vs:List V) (us:List ag) (Q:St→Hp→Prop),Inv X pins σ H s→Vals vs us→t vs σ H Q →
  cn (cx X.prog X.w) X.A (assignInOrder ((lx ts X.env).map (·.2)) us) (fun _ s'=>∃σ' H',Inv X pins σ' H' s'∧Q σ' H') X.xe s
section
variable {X:Cx}{pos:Pos}
noncomputable def zG (i:Nat):TG:=fun v σ H Q=>Q (σ.set i (some v)) H
theorem UW {i:Nat}{x:Str} (hN:X.N.Nodup) (hi:X.N[i]?=some x) (hx:Loc X.env.scope x) (hf:X.fn x=true∨X.env.scope.names.lookup x=some .local:=by first | exact .inl rfl | exact .inr rfl | assumption):PG X (.Name x pos) (zG i):=by
 intro pins s σ H v u Q I r h
 exact wpAny_assign_Name (tD I hN hi hx r (fun s' I'=>⟨_,H,I',h⟩) hf)
noncomputable def ad8:TGs:=fun vs σ H Q=>vs=[]∧Q σ H
noncomputable def aaY (t:TG) (u:TGs):TGs:=fun vs σ H Q=>∃v r,vs=v::r∧t v σ H fun σ' H'=>u r σ' H' Q
theorem U0:PGs X [] ad8:=by
 intro pins s σ H vs us Q I r h
 obtain ⟨e,h⟩:=h
 subst e
 cases r
 exact assignInOrder_nil ⟨σ,H,I,h⟩
theorem Tf {e:Expr}{es:List Expr}{t:TG}{u:TGs} (h1:PG X e t) (h2:PGs X es u)
 (hs:(lx (e::es) X.env).map (·.2)=xc e X.env::(lx es X.env).map (·.2):=by rfl):PGs X (e::es) (aaY t u):=by
 intro pins s σ H vs us Q I r h
 obtain ⟨v,vr,e1,h⟩:=h
 subst e1
 cases r with
 | cons r rr=>
  rw[hs]
  refine assignInOrder_cons (thn (h1 pins s σ H _ _ _ I r h) fun _ s1 ao=>?_)
  obtain ⟨σ1,H1,I1,q1⟩:=ao
  exact h2 pins s1 σ1 H1 _ _ Q I1 rr q1
noncomputable def acG (K:af) (n:Nat) (t:TGs):TG:=fun v σ H Q=>∃a xs,v = .ref a∧SqT K H a xs∧xs.length=n∧t xs σ H Q
theorem aae {es:List Expr}{k:Nat}{t:TGs}{n:Nat} (hc:X.calm=true) (h:PGs X es t)
 (hn:(lx es X.env).length=n:=by rfl) (hst:(lx es X.env).findIdx? (·.1)=none:=by rfl):PG X (.Tuple es k pos) (acG X.K n t):=by
 intro pins s σ H v u Q I r hw
 obtain ⟨a,xs,e1,hq,hl,hw⟩:=hw
 subst e1
 cases r
 obtain ⟨its,rv,ht,hz⟩:=I.tuple hq
 refine assign_Tuple_tuple (I.ok.hd hc) ht (by simp[hn,← hl,rv.length]) hst fun h' hx=>?_
 have I1:Inv X pins σ H { s with heap:=h' }:=I.kept (t':=s.toks) fun b o e=>hx b o (gL (dP e)) e
 exact h pins _ σ H xs _ Q I1 (by simpa using rv) hw
noncomputable def G3 (te:TE) (g:TG):TS:=fun D σ H=>te σ H fun x H1=>g x σ H1 D.nx
theorem Ov {tg e:Expr}{te:TE}{g:TG} (he:PE X e te) (hg:PG X tg g) (hs:swapsWithSole [tg] e pos.line X.env=pure false:=by rfl) (hw:swappedStores [tg] e X.env=pure none:=by rfl)
 (h1:(lx [tg] X.env).map (·.2)=[xc tg X.env]:=by rfl):PS X (.Assign [tg] e pos) (G3 te g):=by
 intro pins s σ H D I h
 refine wpAny_Assign_stores (thn (he pins s σ H _ I h) fun v s1 ao=>?_) hs hw
 obtain ⟨x,H1,I1,r1,q1⟩:=ao
 rw[h1]
 exact thn (hg pins s1 σ H1 x v _ I1 r1 q1) fun _ s2 q=>q
theorem PL {i:Nat}{x:Str}{e:Expr}{te:TE}{pos':Pos} (hN:X.N.Nodup) (hi:X.N[i]?=some x) (hx:Loc X.env.scope x) (he:PE X e te) (hs:kr e (some (.Name x pos')) pos.line X.env=pure false:=by rfl) (hf:X.fn x=true∨X.env.scope.names.lookup x=some .local:=by first | exact .inl rfl | exact .inr rfl | assumption) :
 PS X (.Assign [.Name x pos'] e pos) (G3 te (zG i)):=by
 intro pins s σ H D I h
 refine wpAny_Assign_Name (thn (he pins s σ H _ I h) fun v s1 ao=>?_) hs
 obtain ⟨y,H1,I1,r1,q1⟩:=ao
 exact tD I1 hN hi hx r1 (fun s2 I2=>⟨_,H1,I2,q1⟩) hf
noncomputable def aaa (c:TT) (tb:TS):TS:=fun D σ H=>∃W:Nat→St→Hp→Prop,(∃m,W m σ H)∧∀m σ H,W m σ H →
 c σ H fun b H1=>if b=true then ∃N:St→Hp→Prop,(∀σ' H',N σ' H'→∃m',m' < m∧W m' σ' H')∧tb { D with nx:=N,ct:=N,bk:=D.nx } σ H1 else D.nx σ H1
theorem Qd {c:Expr}{body:List Stmt}{tc:TT}{tb:TS} (hp:As (cx X.prog X.w) X.A X.env X.xe) (hc:PT X c tc) (hb:PSs X body tb):PS X (.While c body [] pos) (aaa tc tb):=by
 intro pins s σ H D I h
 obtain ⟨W,⟨m0,w0⟩,turn⟩:=h
 refine wpAny_While (codeAny_whileLoop (fun n s'=>∃σ' H',Inv X pins σ' H' s'∧W n σ' H') ?_ m0 ⟨σ,H,I,w0⟩)
 rintro n s1 ⟨σ1,H1,I1,w1⟩
 refine lS hp (thn (hc pins s1 σ1 H1 _ I1 (turn n σ1 H1 w1)) fun b s2 ao=>?_)
 obtain ⟨H2,I2,q2⟩:=ao
 cases b with
 | true=>
  obtain ⟨N,hN,q2⟩:=q2
  rw[if_pos rfl]
  refine lS hp (thn (hb pins s2 σ1 H2 _ I2 q2) fun f s3 q3=>?_)
  cases f with
  | next=>
   obtain ⟨σ3,H3,I3,n3⟩:=q3
   obtain ⟨m',hm,w3⟩:=hN σ3 H3 n3
   exact ⟨m',hm,σ3,H3,I3,w3⟩
  | cont=>
   obtain ⟨σ3,H3,I3,n3⟩:=q3
   obtain ⟨m',hm,w3⟩:=hN σ3 H3 n3
   exact ⟨m',hm,σ3,H3,I3,w3⟩
  | brk=>exact q3
  | ret v=>exact q3
 | false=>
  rw[if_neg i6]
  exact qa ⟨σ1,H2,I2,q2⟩
end
structure It where
 go:Nat→Hp→Prop
 yld:Nat→Hp→V→Hp→Prop
 stop:Nat→Hp→Prop
noncomputable def t8 (X:Cx) (pins:List (Addr×Obj)) (H:Hp) (b:Addr):Prop:=
 H b=none∧b≠X.env.locals∧b∉X.fs∧(b∈X.ex∨X.s₀.heap.objs.size≤b)∧(∀x c,X.env.cells.lookup x=some c→c≠b)∧∀p∈X.pn++pins,p.1≠b
theorem Inv.sY {X:Cx}{pins:List (Addr×Obj)}{σ:St}{H H':Hp}{s:ar}{b:Addr} (I:Inv X pins σ H s) (hb:s.heap.objs.size≤b) (hn:H' b=none):t8 X pins H' b:=by
 refine ⟨hn,Nat.ne_of_gt (d6 I.lt hb),I.aer hb,.inr (eR I.sz hb),fun x c e z=>?_,fun p hp z=>?_⟩
 · obtain ⟨v,q⟩:=I.cell x c e
   exact absurd (d6 q.lt (by rw[z];exact hb)) (g7 _)
 · exact absurd (d6 (dP (I.pin p hp).1) (by rw[z];exact hb)) (g7 _)
structure Turn (P:cc) (w:eK) (K:af) (tg:Expr) (J:It) (fp:List Addr) (it:Addr) (tn:Nat→Heap→Prop):Prop where
 mem:it∈fp
 obj:∀i h,tn i h→∀b∈fp,∃o,h.get? b=some o∧∀v,o.data ≠ .cell v
 keep:∀i h h',tn i h→(∀b∈fp,∀o,h.get? b=some o→h'.get? b=some o)→tn i h'
 item:∀(X:Cx),X.prog=P→X.w=w→X.K=K→X.calm=true→∀(i:Nat) (pins:List (Addr×Obj)) (s:ar) (σ:St) (H:Hp) (E:ag→ar→Prop),Inv X pins σ H s→(∀b∈fp,t8 X pins H b)→tn i s.heap→J.go i H →
  cn (cx P w) X.A (yb (.ref it)) (fun r s1=>∃u,r=some u ∧
   cn (cx P w) X.A (sT tg (.ref it) u) (fun _ s2=>∃x H',Inv X pins σ H' s2∧RelV x u∧J.yld i H x H'∧tn (i+1) s2.heap∧∀b∈fp,H' b=none) E s1) E s
 done:∀(X:Cx),X.prog=P→X.w=w→X.K=K→X.calm=true→∀(i:Nat) (pins:List (Addr×Obj)) (s:ar) (σ:St) (H:Hp) (E:ag→ar→Prop),Inv X pins σ H s→(∀b∈fp,t8 X pins H b)→tn i s.heap→J.stop i H →
  cn (cx P w) X.A (yb (.ref it)) (fun r s1=>r=none∧Inv X pins σ H s1) E s
 self:∀(A:eI) (i:Nat) (s:ar) (Q:ag→ar→Prop) (E:ag→ar→Prop),tn i s.heap→Q (.ref it) s→cn (cx P w) A (pyIter (.ref it)) Q E s
noncomputable abbrev TI:=St→Hp→(It→Hp→Prop)→Prop
noncomputable def PIE (X:Cx) (pins:List (Addr×Obj)) (σ:St) (tg:Expr) (R:It→Hp→Prop) (itv:ag) (s2:ar):Prop:=
 ∃(it:Addr) (fp:List Addr) (tn:Nat→Heap→Prop) (J:It) (H':Hp),itv = .ref it∧Inv X pins σ H' s2∧Turn X.prog X.w X.K tg J fp it tn∧tn 0 s2.heap∧(∀b∈fp,t8 X pins H' b)∧R J H'
noncomputable def PI (X:Cx) (tg iter:Expr) (wi:TI):Prop:=
 ∀(pins:List (Addr×Obj)) (s:ar) (σ:St) (H:Hp) (R:It→Hp→Prop),Inv X pins σ H s→wi σ H R →
  cn (cx X.prog X.w) X.A (eval iter X.env) (fun v s1=>cn (cx X.prog X.w) X.A (pyIter v) (PIE X pins σ tg R) X.xe s1) X.xe s
theorem tV {M:zk}{A:eI}{E:ag→ar→Prop}{s:ar}{tg:Expr}{it:Addr}{u:ag}{o:Obj}{n:String}{vs:Array ag}{Q:Unit→ar→Prop} (ho:s.heap.get? it=some o) (hc:o.cls = .type n) (hd:o.data = .fields vs)
 (hn:["enumerate", "zip", "dict_itemiterator", "dict_reverseitemiterator", "odict_iterator", "itertools.zip_longest", "itertools.pairwise"].contains n=false) (hQ:Q () s):cn M A (sT tg (.ref it) u) Q E s:=by
 unfold sT
 cases tg <;> first
  | exact ay hQ
  | (cases u <;> first
   | exact ay hQ
   | (
    refine ai (wpAny_load ho ?_)
    rw[hc,hd]
    show cn M A (if (["enumerate", "zip", "dict_itemiterator", "dict_reverseitemiterator", "odict_iterator", "itertools.zip_longest", "itertools.pairwise"].contains n&&vs[0]? == some (pv _))=true then _ else _) Q E s
    rw[if_neg (by intro h;rw[hn,Bool.false_and] at h;cases h)]
    exact ay hQ))
noncomputable def Itl (K:af) (a:Addr):It:=
 ⟨fun i H=>∃xs x,SqL K H a xs∧xs[i]?=some x,fun i H x H'=>H'=H∧∀xs,SqL K H a xs→xs[i]?=some x,fun i H=>∃xs,SqL K H a xs∧xs.length≤i⟩
noncomputable def Itt (K:af) (a:Addr):It:=
 ⟨fun i H=>∃xs x,SqT K H a xs∧xs[i]?=some x,fun i H x H'=>H'=H∧∀xs,SqT K H a xs→xs[i]?=some x,fun i H=>∃xs,SqT K H a xs∧xs.length≤i⟩
noncomputable def Itr (lo:Int) (n:Nat):It:=⟨fun i _=>i < n,fun i H x H'=>H'=H∧x = .int (lo+i),fun i _=>n≤i⟩
theorem Oj {P:cc}{w:eK}{K:af}{tg:Expr} (a it:Addr):Turn P w K tg (Itl K a) [it] it (fun i h=>h.IsListIter it a i) where
 mem:=by simp
 obj:=fun i h st b hb=>by
  have e:b=it:=by simpa using hb
  subst e
  obtain ⟨o,e,c,d⟩:=st
  exact ⟨o,e,fun v z=>by rw[d] at z;cases z⟩
 keep:=fun i h h' st k=>st.at fun o e=>k it (by simp) o e
 item:=by
  intro X hP hw hK hc i pins s σ H E I hf st hg
  subst hP hw hK
  obtain ⟨xs,x,hq,hx⟩:=hg
  obtain ⟨its,rv,p,hz⟩:=I.list hq
  obtain ⟨u,hu,ru⟩:=rv.get hx
  obtain ⟨f0,f1,f2,f3,f4,f5⟩:=hf it (by simp)
  refine wpAny_pyNext_list_item st p.isList (x:=u) (by simpa using hu) fun h' st' sb=>?_
  have I1:Inv X pins σ H { s with heap:=h' }:=I.turned (t':=s.toks) (fun b o hb e=>(sb.2 b hb).trans e) f0 f1 f3 f4 f5
  obtain ⟨o,e,c,d⟩:=id st'
  exact ⟨u,rfl,tV (s:={ s with heap:=h' }) e c d (by decide) ⟨x,H,I1,ru,⟨rfl,fun ys hy=>by rw[I.EY hy hq];exact hx⟩,st',fun b hb=>(hf b hb).1⟩⟩
 done:=by
  intro X hP hw hK hc i pins s σ H E I hf st hg
  subst hP hw hK
  obtain ⟨xs,hq,hx⟩:=hg
  obtain ⟨its,rv,p,hz⟩:=I.list hq
  obtain ⟨f0,f1,f2,f3,f4,f5⟩:=hf it (by simp)
  have hl:=rv.length
  exact wpAny_pyNext_list_end (I.ok.hd hc) st p.isList (by simp;omega) fun h' eb=>⟨rfl,I.turned (t':=s.toks) (fun b o hb e=>eb b o hb e) f0 f1 f3 f4 f5⟩
 self:=fun _ _ _ _ _ st h=>wpAny_pyIter_listiter st h
theorem J8 {P:cc}{w:eK}{K:af}{tg:Expr} (a it:Addr):Turn P w K tg (Itt K a) [it] it (fun i h=>h.IsTupleIter it a i) where
 mem:=by simp
 obj:=fun i h st b hb=>by
  have e:b=it:=by simpa using hb
  subst e
  obtain ⟨o,e,c,d⟩:=st
  exact ⟨o,e,fun v z=>by rw[d] at z;cases z⟩
 keep:=fun i h h' st k=>st.at fun o e=>k it (by simp) o e
 item:=by
  intro X hP hw hK hc i pins s σ H E I hf st hg
  subst hP hw hK
  obtain ⟨xs,x,hq,hx⟩:=hg
  obtain ⟨its,rv,p,hz⟩:=I.tuple hq
  obtain ⟨u,hu,ru⟩:=rv.get hx
  obtain ⟨f0,f1,f2,f3,f4,f5⟩:=hf it (by simp)
  refine wpAny_pyNext_tuple_item st (show s.heap.IsTuple a its.toArray from p) (x:=u) (by simpa using hu) fun h' st' sb=>?_
  have I1:Inv X pins σ H { s with heap:=h' }:=I.turned (t':=s.toks) (fun b o hb e=>(sb.2 b hb).trans e) f0 f1 f3 f4 f5
  obtain ⟨o,e,c,d⟩:=id st'
  exact ⟨u,rfl,tV (s:={ s with heap:=h' }) e c d (by decide) ⟨x,H,I1,ru,⟨rfl,fun ys hy=>by rw[I.CQ hy hq];exact hx⟩,st',fun b hb=>(hf b hb).1⟩⟩
 done:=by
  intro X hP hw hK hc i pins s σ H E I hf st hg
  subst hP hw hK
  obtain ⟨xs,hq,hx⟩:=hg
  obtain ⟨its,rv,p,hz⟩:=I.tuple hq
  obtain ⟨f0,f1,f2,f3,f4,f5⟩:=hf it (by simp)
  have hl:=rv.length
  exact wpAny_pyNext_tuple_end (I.ok.hd hc) st (show s.heap.IsTuple a its.toArray from p) (by simp;omega) fun h' eb=>⟨rfl,I.turned (t':=s.toks) (fun b o hb e=>eb b o hb e) f0 f1 f3 f4 f5⟩
 self:=fun _ _ _ _ _ st h=>wpAny_pyIter_tupleiter st h
theorem LQ {P:cc}{w:eK}{K:af}{tg:Expr} (it:Addr) (lo:Int) (n:Nat):Turn P w K tg (Itr lo n) [it] it (fun i h=>zo h it (lo+(i:Nat)*1) ((n:Int) - (i:Nat)) 1) where
 mem:=by simp
 obj:=fun i h st b hb=>by
  have e:b=it:=by simpa using hb
  subst e
  exact ⟨_,st,fun v z=>by
   have z':Data.fields _=Data.cell v:=z
   cases z'⟩
 keep:=fun i h h' st k=>k it (by simp) _ st
 item:=by
  intro X hP hw hK hc i pins s σ H E I hf st hg
  subst hP hw hK
  obtain ⟨f0,f1,f2,f3,f4,f5⟩:=hf it (by simp)
  have W:=Walks.range (prog:=X.prog) (w:=X.w) (I.ok.hd hc) it lo 1 n
  refine W.item i s _ _ hg st fun v h' tk hv st' kk=>?_
  obtain ⟨t,rfl⟩:=hv
  have I1:Inv X pins σ H { s with heap:=h',toks:=tk }:=I.turned (fun b o hb e=>kk b o (by simpa using hb) e) f0 f1 f3 f4 f5
  refine ⟨_,rfl,tV (s:={ s with heap:=h',toks:=tk }) (n := "range_iterator") st' rfl rfl (by decide) ⟨.int (lo+i),H,I1,⟨t,?_⟩,⟨rfl,rfl⟩,st',fun b hb=>(hf b hb).1⟩⟩
  rw[Int.mul_one]
 done:=by
  intro X hP hw hK hc i pins s σ H E I hf st hg
  subst hP hw hK
  obtain ⟨f0,f1,f2,f3,f4,f5⟩:=hf it (by simp)
  exact wpAny_pyNext_range_end (I.ok.hd hc) st (by have:n≤i:=hg;omega) fun h' eb=>⟨rfl,I.turned (t':=s.toks) (fun b o hb e=>eb b o hb e) f0 f1 f3 f4 f5⟩
 self:=fun _ _ _ _ _ st h=>wpAny_pyIter_rangeiter st h
section
variable {X:Cx}{tg:Expr}
theorem Qj {pins:List (Addr×Obj)}{σ:St}{H:Hp}{s:ar}{R:It→Hp→Prop}{E:ag→ar→Prop}{lo hi:Int}{t u v:Tok}{tk:Nat} (I:Inv X pins σ H s) (h1 : -(2^62)≤lo) (h2:lo < 2^62) (h3 : -(2^62)≤hi) (h4:hi < 2^62)
 (q:R (Itr lo (hi - lo).toNat) H):cn (cx X.prog X.w) X.A (pyIter (.ref s.heap.objs.size)) (PIE X pins σ tg R) E { s with heap:=s.heap.push { cls:=.type "range",data:=.fields #[.int lo t,.int hi u,.int 1 v] },toks:=tk }:=by
 refine wpAny_pyIter_range (IsRange.new ..) (small_one h1 h2 h3 h4) ?_
 have I1:Inv X pins σ H { s with heap:=s.heap.push { cls:=.type "range",data:=.fields #[.int lo t,.int hi u,.int 1 v] },toks:=tk }:=I.kept fun b o e=>aS _ e
 refine ⟨(s.heap.push { cls:=.type "range",data:=.fields #[.int lo t,.int hi u,.int 1 v] }).objs.size,[(s.heap.push { cls:=.type "range",data:=.fields #[.int lo t,.int hi u,.int 1 v] }).objs.size],_,_,H,rfl,
  I1.kept (t':=tk) fun b o e=>aS _ e,LQ _ lo (hi - lo).toNat,?_,fun b hb=>?_,q⟩
 · have e1:lo+((0:Nat):Int)*1=lo:=by simp
   have e2:(((hi - lo).toNat:Nat):Int) - ((0:Nat):Int)=dQ lo hi 1:=by rw[rangeSize_one];split <;> omega
   show zo _ _ (lo+((0:Nat):Int)*1) ((((hi - lo).toNat:Nat):Int) - ((0:Nat):Int)) 1
   rw[e1,e2]
   exact d4 _ rfl
 · have e:b=(s.heap.push { cls:=.type "range",data:=.fields #[.int lo t,.int hi u,.int 1 v] }).objs.size:=by simpa using hb
   subst e
   exact I1.sY (aE _) (I1.hok.fresh (aE _))
noncomputable def aaS (ta:TA):TI:=fun σ H R=>ta σ H fun vs H1=>∃j:Int,vs=[.int j] ∧ -(2^62)≤j∧j < 2^62∧R (Itr 0 j.toNat) H1
theorem CJ {a:Expr}{ta:TA}{p pos:Pos} (hg:Gl X "range") (hm:X.mg "range" = none) (ha:PA X [a] ta) (hs:d5 [a] X.env=[(false,eval a X.env)]:=by rfl):PI X tg (.Call (.Name "range" p) [a] [] pos) (aaS ta):=by
 intro pins s σ H R I h
 refine Call_ (nY I hg hm boot_range (jv (thn (ha pos pins s σ H _ I h) fun us s1 ao=>?_) hs rfl))
 obtain ⟨vs,H1,I1,r1,q1⟩:=ao
 obtain ⟨j,e,q1,q2,q⟩:=q1
 subst e
 cases r1 with
 | cons r rr=>
  cases rr
  obtain ⟨t,rfl⟩:=r
  exact call_range_1 (Qj I1 (by omega) (by omega) q1 q2 (by simpa using q))
noncomputable def ac2 (wi:TI) (g:TG) (tb:TS):TS:=fun D σ H=>wi σ H fun J H1=>∃W:Nat→Nat→St→Hp→Prop,(∃m,W 0 m σ H1)∧∀i m σ H,W i m σ H →
 (J.stop i H∧D.nx σ H)∨(J.go i H∧∃N:St→Hp→Prop,(∀σ' H',N σ' H'→∃m',m' < m∧W (i+1) m' σ' H')∧∀x H',J.yld i H x H'→g x σ H' fun σ2 H2=>tb { D with nx:=N,ct:=N,bk:=D.nx } σ2 H2)
noncomputable def vW (fp:List Addr) (h:Heap):List (Addr×Obj):=fp.filterMap fun b=>(h.get? b).map fun o=>(b,o)
theorem oZ {fp:List Addr}{h:Heap}{b:Addr}{o:Obj} (hb:b∈fp) (e:h.get? b=some o):(b,o)∈vW fp h:=gp.mpr ⟨b,hb,by rw[e];rfl⟩
theorem Pq {fp:List Addr}{h:Heap}{p:Addr×Obj} (hp:p∈vW fp h):p.1∈fp∧h.get? p.1=some p.2:=by
 obtain ⟨b,hb,e⟩:=gp.mp hp
 cases q:h.get? b with
 | none=>rw[q] at e;cases e
 | some o=>
  rw[q] at e
  have e':(b,o)=p:=Option.some.inj e
  subst e'
  exact ⟨hb,q⟩
theorem Inv.pinned {pins:List (Addr×Obj)}{σ:St}{H:Hp}{s:ar}{fp:List Addr} (I:Inv X pins σ H s) (hf:∀b∈fp,t8 X pins H b) (ho:∀b∈fp,∃o,s.heap.get? b=some o∧∀v,o.data ≠ .cell v):Inv X (pins++vW fp s.heap) σ H s:=
 I.Jd fun p hp=>(eJ.mp hp).elim (fun z=>I.pin p (cy _ z)) fun z=>by
  obtain ⟨hb,e⟩:=Pq z
  obtain ⟨f0,f1,f2,_⟩:=hf p.1 hb
  obtain ⟨o,e',d⟩:=ho p.1 hb
  rw[e] at e';cases e'
  exact ⟨e,f0,f1,f2,d⟩
theorem Inv.uD {pins pl:List (Addr×Obj)}{σ:St}{H:Hp}{s:ar} (I:Inv X (pins++pl) σ H s):Inv X pins σ H s:=I.Jd fun p hp=>I.pin p (cy _ (ff _ hp))
theorem OD {iter:Expr}{body:List Stmt}{wi:TI}{g:TG}{tb:TS}{pos:Pos} (hp:As (cx X.prog X.w) X.A X.env X.xe) (hc:X.calm=true) (hi:PI X tg iter wi) (hg:PG X tg g) (hb:PSs X body tb)
 (hs:∀x,kn iter X.env x=pure x:=by intro _;rfl):PS X (.For tg iter body [] pos) (ac2 wi g tb):=by
 intro pins s σ H D I h
 refine wpAny_For (thn (hi pins s σ H _ I h) fun v s1 h1=>thn h1 fun itv s2 h2=>?_) hs
 obtain ⟨it,fp,tn,J,H2,e,I2,T,st2,f2,W,⟨m0,w0⟩,turn⟩:=h2
 subst e
 have stat:∀{H':Hp},(∀b∈fp,H' b=none)→∀b∈fp,t8 X pins H' b:=fun hn b hb=>⟨hn b hb,(f2 b hb).2⟩
 refine codeAny_forLoop_any (fun n s'=>∃i σ' H',Inv X pins σ' H' s'∧tn i s'.heap∧(∀b∈fp,H' b=none)∧W i n σ' H') ?_ m0 ⟨0,σ,H2,I2,st2,fun b hb=>(f2 b hb).1,w0⟩
 rintro n s3 ⟨i,σ3,H3,I3,st3,fr3,w3⟩
 rcases turn i n σ3 H3 w3 with ⟨stop,qn⟩ | ⟨go,N,hN,step⟩
 · refine lS hp (thn (T.done X rfl rfl rfl hc i pins s3 σ3 H3 X.xe I3 (stat fr3) st3 stop) fun r s4 ao=>?_)
   obtain ⟨hr,I4⟩:=ao
   subst hr
   exact qa ⟨σ3,H3,I4,qn⟩
 · refine lS hp (thn (T.item X rfl rfl rfl hc i pins s3 σ3 H3 X.xe I3 (stat fr3) st3 go) fun r s4 ao=>?_)
   obtain ⟨u,hr,h4⟩:=ao
   subst hr
   refine lS hp (thn h4 fun _ s5 ao=>?_)
   obtain ⟨x,H5,I5,r5,y5,st5,fr5⟩:=ao
   have I5':=I5.pinned (stat fr5) (T.obj _ _ st5)
   refine lS hp (thn (hg _ s5 σ3 H5 x u _ I5' r5 (step x H5 y5)) fun _ s6 ao=>?_)
   obtain ⟨σ6,H6,I6,q6⟩:=ao
   refine lS hp (thn (hb _ s6 σ6 H6 _ I6 q6) fun f s7 q7=>?_)
   have again:∀{σ7:St}{H7:Hp},Inv X (pins++vW fp s5.heap) σ7 H7 s7→N σ7 H7→∃m,m < n∧∃i σ' H',Inv X pins σ' H' s7∧tn i s7.heap∧(∀b∈fp,H' b=none)∧W i m σ' H':=fun {σ7 H7} I7 n7=>by
    obtain ⟨m',hm,w7⟩:=hN σ7 H7 n7
    refine ⟨m',hm,i+1,σ7,H7,I7.uD,T.keep _ _ _ st5 fun b hb o e=>(I7.pin (b,o) (cy _ (cy _ (oZ hb e)))).1,fun b hb=>?_,w7⟩
    obtain ⟨o,e,d⟩:=T.obj _ _ st5 b hb
    exact (I7.pin (b,o) (cy _ (cy _ (oZ hb e)))).2.1
   cases f with
   | next=>obtain ⟨σ7,H7,I7,n7⟩:=q7;exact again I7 n7
   | cont=>obtain ⟨σ7,H7,I7,n7⟩:=q7;exact again I7 n7
   | brk=>obtain ⟨σ7,H7,I7,q7⟩:=q7;exact ⟨σ7,H7,I7.uD,q7⟩
   | ret v=>obtain ⟨x7,σ7,H7,I7,r7,q7⟩:=q7;exact ⟨x7,σ7,H7,I7.uD,r7,q7⟩
end
noncomputable abbrev R2:=V→V→Hp→VK→Prop
noncomputable def OpR (X:Cx) (f:ag→ag→Sem ag) (r:R2):Prop:=
 ∀(pins:List (Addr×Obj)) (s:ar) (σ:St) (H:Hp) (x y:V) (v u:ag) (Q:VK),Inv X pins σ H s→RelV x v→RelV y u→r x y H Q →
  cn (cx X.prog X.w) X.A (f v u) (EP X pins σ Q) X.xe s
noncomputable def UnR (X:Cx) (f:ag→Sem ag) (r:V→Hp→VK→Prop):Prop:=
 ∀(pins:List (Addr×Obj)) (s:ar) (σ:St) (H:Hp) (x:V) (v:ag) (Q:VK),Inv X pins σ H s→RelV x v→r x H Q →
  cn (cx X.prog X.w) X.A (f v) (EP X pins σ Q) X.xe s
noncomputable def dU (X:Cx) (f:ag) (r:List V→Hp→VK→Prop):Prop:=
 ∀(pins:List (Addr×Obj)) (s:ar) (σ:St) (H:Hp) (xs:List V) (us:List ag) (Q:VK),Inv X pins σ H s→Vals xs us→r xs H Q →
  cn (cx X.prog X.w) X.A (call f us) (EP X pins σ Q) X.xe s
noncomputable def aea (X:Cx) (r:V→Hp→(Bool→Hp→Prop)→Prop):Prop:=
 ∀(pins:List (Addr×Obj)) (s:ar) (σ:St) (H:Hp) (x:V) (v:ag) (Q:Bool→Hp→Prop),Inv X pins σ H s→RelV x v→r x H Q →
  cn (cx X.prog X.w) X.A (truthy v) (TP X pins σ Q) X.xe s
noncomputable def tOp (r:R2) (ta tb:TE):TE:=fun σ H Q=>ta σ H fun x H1=>tb σ H1 fun y H2=>r x y H2 Q
noncomputable def tUn (r:V→Hp→VK→Prop) (ta:TE):TE:=fun σ H Q=>ta σ H fun x H1=>r x H1 Q
noncomputable def rI (C:Int→Int→Prop) (g:Int→Int→V):R2:=fun x y H Q=>∃i j,x = .int i∧y = .int j∧C i j∧Q (g i j) H
noncomputable def rI0 (g:Int→Int→V):R2:=fun x y H Q=>∃i j,x = .int i∧y = .int j∧Q (g i j) H
noncomputable def rU (g:Int→V):V→Hp→VK→Prop:=fun x H Q=>∃i,x = .int i∧Q (g i) H
section
variable {X:Cx}{a b c:Expr}{ta tb tc:TE}{pos:Pos}
theorem ZM (ha:PE X a ta) (hb:PE X b tb) {pins:List (Addr×Obj)}{s:ar}{σ:St}{H:Hp}{R:V→V→Hp→Prop} (I:Inv X pins σ H s)
 (h:ta σ H fun x H1=>tb σ H1 fun y H2=>R x y H2) {Q:ag→ar→Prop}{f:ag→ag→Sem ag}
 (hf:∀v u s2 x y H2,Inv X pins σ H2 s2→RelV x v→RelV y u→R x y H2→cn (cx X.prog X.w) X.A (f v u) Q X.xe s2) :
 cn (cx X.prog X.w) X.A (eval a X.env) (fun v s₁=>cn (cx X.prog X.w) X.A (eval b X.env) (fun u s₂=>cn (cx X.prog X.w) X.A (f v u) Q X.xe s₂) X.xe s₁) X.xe s:=by
 refine thn (ha pins s σ H _ I h) fun v s1 ao=>?_
 obtain ⟨x,H1,I1,r1,q1⟩:=ao
 refine thn (hb pins s1 σ H1 _ I1 q1) fun u s2 ao=>?_
 obtain ⟨y,H2,I2,r2,q2⟩:=ao
 exact hf v u s2 x y H2 I2 r1 r2 q2
theorem JQ {op:Operator}{r:R2} (ho:OpR X (g9 op) r) (ha:PE X a ta) (hb:PE X b tb):PE X (.BinOp a op b pos) (tOp r ta tb):=by
 intro pins s σ H Q I h
 exact wpAny_BinOp (ZM ha hb I h fun v u s2 x y H2 I2 rx ry q=>ho pins s2 σ H2 x y v u Q I2 rx ry q)
theorem aaQ {op:UnaryOp}{r:V→Hp→VK→Prop} (ho:UnR X (unaryOp op) r) (ha:PE X a ta):PE X (.UnaryOp op a pos) (tUn r ta):=by
 intro pins s σ H Q I h
 exact UnaryOp_ (thn (ha pins s σ H _ I h) fun v s1 ⟨x,H1,I1,r1,q1⟩=>ho pins s1 σ H1 x v Q I1 r1 q1)
theorem opI {f:ag→ag→Sem ag}{C:Int→Int→Prop}{g:Int→Int→Int}
 (rule:∀(i j:Int) (t u:Tok) (s:ar) (Q:ag→ar→Prop) (E:ag→ar→Prop),C i j→Q (.int (g i j) s.toks) { s with toks:=s.toks+1 }→cn (cx X.prog X.w) X.A (f (.int i t) (.int j u)) Q E s) :
 OpR X f (rI C fun i j=>.int (g i j)):=by
 intro pins s σ H x y v u Q I rx ry h
 obtain ⟨i,j,rfl,rfl,hc,q⟩:=h
 obtain ⟨t,rfl⟩:=rx
 obtain ⟨t',rfl⟩:=ry
 exact rule i j t t' s _ _ hc ⟨.int (g i j),H,I.tok _,⟨_,rfl⟩,q⟩
theorem Fx {f:ag→ag→Sem ag}{g:Int→Int→Int}
 (rule:∀(i j:Int) (t u:Tok) (s:ar) (Q:ag→ar→Prop) (E:ag→ar→Prop),Q (.int (g i j) s.toks) { s with toks:=s.toks+1 }→cn (cx X.prog X.w) X.A (f (.int i t) (.int j u)) Q E s) :
 OpR X f (rI0 fun i j=>.int (g i j)):=by
 intro pins s σ H x y v u Q I rx ry h
 obtain ⟨i,j,rfl,rfl,q⟩:=h
 obtain ⟨t,rfl⟩:=rx
 obtain ⟨t',rfl⟩:=ry
 exact rule i j t t' s _ _ ⟨.int (g i j),H,I.tok _,⟨_,rfl⟩,q⟩
theorem SM {f:ag→ag→Sem ag}{g:Int→Int→Bool}
 (rule:∀(i j:Int) (t u:Tok) (s:ar) (Q:ag→ar→Prop) (E:ag→ar→Prop),Q (.bool (g i j)) s→cn (cx X.prog X.w) X.A (f (.int i t) (.int j u)) Q E s) :
 OpR X f (rI0 fun i j=>.bl (g i j)):=by
 intro pins s σ H x y v u Q I rx ry h
 obtain ⟨i,j,rfl,rfl,q⟩:=h
 obtain ⟨t,rfl⟩:=rx
 obtain ⟨t',rfl⟩:=ry
 exact rule i j t t' s _ _ ⟨.bl (g i j),H,I,rfl,q⟩
noncomputable def Ao (i j:Int):Prop:=0 < j∧j < 1073741824
noncomputable def uE (i j:Int):Prop:=(-(2^64) < i∧i < 2^64)∨(-(2^64) < j∧j < 2^64)
theorem uE.ok {i j:Int} (h:uE i j):IntMulOk i j:=by
 rcases h with ⟨h1,h2⟩ | ⟨h1,h2⟩
 · exact .of_left (intBits_le_64 h1 h2)
 · exact .of_right (intBits_le_64 h1 h2)
theorem two_pow_nn (k:Nat):(0:Int)≤2^k:=by
 rw[two_pow_cast]
 exact Int.natCast_nonneg _
theorem Za:OpR X (g9 .Add) (rI0 fun i j=>.int (i+j)):=Fx fun _ _ _ _ _ _ _ q=>add_int q
theorem YW:OpR X (g9 .Sub) (rI0 fun i j=>.int (i - j)):=Fx fun _ _ _ _ _ _ _ q=>sub_int q
theorem YB:OpR X (g9 .Mult) (rI uE fun i j=>.int (i*j)):=opI fun _ _ _ _ _ _ _ hc q=>mul_int q hc.ok
theorem Vq:OpR X (g9 .FloorDiv) (rI Ao fun i j=>.int (i / j)):=opI fun i j _ _ _ _ _ hc q=>by
 have h1:(0:Int) < j:=hc.1
 have h2:j < 1073741824:=hc.2
 exact floordiv_int (by omega) (by rw[va i (by omega)];exact q) (.inl (yi (by omega)))
theorem YX:OpR X (g9 .Mod) (rI (fun _ j=>0 < j) fun i j=>.int (i % j)):=opI fun i j _ _ _ _ _ hc q=>by
 have h1:(0:Int) < j:=hc
 exact mod_int' (by omega) (by rw[Int.fmod_eq_emod_of_nonneg i (by omega)];exact q)
theorem Xu:OpR X (g9 .RShift) (rI (fun _ j=>0≤j) fun i j=>.int (i / 2^j.toNat)):=opI fun i j _ _ _ _ _ hc q=>
 rshift_int hc (by rw[va i (two_pow_nn _)];exact q)
theorem Yi:OpR X (g9 .BitAnd) (rI0 fun i j=>.int (gu i j)):=Fx fun _ _ _ _ _ _ _ q=>and_int q
theorem abi:OpR X (g9 .BitOr) (rI0 fun i j=>.int (i0 i j)):=Fx fun _ _ _ _ _ _ _ q=>or_int q
theorem Xh:OpR X (g9 .BitXor) (rI0 fun i j=>.int (kM i j)):=Fx fun _ _ _ _ _ _ _ q=>xor_int q
theorem unI {f:ag→Sem ag}{g:Int→Int}
 (rule:∀(i:Int) (t:Tok) (s:ar) (Q:ag→ar→Prop) (E:ag→ar→Prop),Q (.int (g i) s.toks) { s with toks:=s.toks+1 }→cn (cx X.prog X.w) X.A (f (.int i t)) Q E s) :
 UnR X f (rU fun i=>.int (g i)):=by
 intro pins s σ H x v Q I rx h
 obtain ⟨i,rfl,q⟩:=h
 obtain ⟨t,rfl⟩:=rx
 exact rule i t s _ _ ⟨.int (g i),H,I.tok _,⟨_,rfl⟩,q⟩
theorem aak:UnR X (unaryOp .Invert) (rU fun i=>.int (h9 i)):=unI fun _ _ _ _ _ q=>invert_int q
theorem Nv:OpR X (g9 .Add) (fun x y H Q=>∃i k,x = .int i∧y = .bl k∧Q (.int (i+b2i k)) H):=by
 intro pins s σ H x y v u Q I rx ry h
 obtain ⟨i,k,rfl,rfl,q⟩:=h
 obtain ⟨t,rfl⟩:=rx
 cases ry
 exact add_int_bool ⟨.int (i+b2i k),H,I.tok _,⟨_,rfl⟩,q⟩
theorem XH {pins:List (Addr×Obj)}{σ:St}{H:Hp}{s:ar}{Q:VK}{k k':Bool} (I:Inv X pins σ H s) (q:Q (.bl k) H) (e:k=k'):EP X pins σ Q (.bool k') s:=by
 subst e
 exact ⟨.bl k,H,I,rfl,q⟩
theorem abl:OpR X (gE .Lt) (rI0 fun i j=>.bl (decide (i < j))):=SM fun _ _ _ _ _ _ _ q=>lt_int q
theorem aaD:OpR X (gE .LtE) (rI0 fun i j=>.bl (decide (i≤j))):=SM fun _ _ _ _ _ _ _ q=>le_int q
theorem aba:OpR X (gE .Gt) (rI0 fun i j=>.bl (decide (j < i))):=SM fun _ _ _ _ _ _ _ q=>gt_int q
theorem Yr:OpR X (gE .Is) (fun x y H Q=>y = .non∧Q (.bl (decide (x = .non))) H):=by
 intro pins s σ H x y v u Q I rx ry h
 obtain ⟨rfl,q⟩:=h
 cases ry
 refine is_none_gen (XH I q ?_)
 cases x <;> first
  | (cases rx;rfl)
  | (obtain ⟨t,rfl⟩:=rx;rfl)
theorem bU (b:Expr) {op:CmpOp} (h:op ≠ .In:=by decide) (h2:op ≠ .NotIn:=by decide):xh op b=false:=by
 have e1:(op == CmpOp.In)=false:=by cases op <;> first | rfl | exact absurd rfl h
 have e2:(op == CmpOp.NotIn)=false:=by cases op <;> first | rfl | exact absurd rfl h2
 cases b <;> simp[xh,e1,e2]
noncomputable def K6 (t:TE):TT:=fun σ H Q=>t σ H fun x H'=>∃k,x = .bl k∧Q k H'
theorem WY {op:CmpOp}{r:R2} (ho:OpR X (gE op) r) (ha:PE X a ta) (hb:PE X b tb) (hm:xh op b=false):PT X (.Compare a [op] [b] pos) (K6 (tOp r ta tb)):=by
 intro pins s σ H Q I h
 refine wpAny_isTrue_Compare1 (thn (ha pins s σ H _ I h) fun v s1 ⟨x,H1,I1,r1,q1⟩=>thn (hb pins s1 σ H1 _ I1 q1) fun u s2 ⟨y,H2,I2,r2,q2⟩=>
  thn (ho pins s2 σ H2 x y v u _ I2 r1 r2 q2) fun c s3 ⟨z,H3,I3,r3,k,e,q3⟩=>?_) hm
 subst e
 cases r3
 exact ki ⟨H3,I3,q3⟩
noncomputable def O3 (r r':R2) (ta tb tc:TE):TE:=fun σ H Q=>ta σ H fun x H1=>tb σ H1 fun y H2=>r x y H2 fun z H3=>∃k,z = .bl k ∧
 (if k=true then tc σ H3 fun w' H4=>r' y w' H4 Q else Q (.bl false) H3)
theorem QK {op op':CmpOp}{r r':R2} (ho:OpR X (gE op) r) (ho':OpR X (gE op') r') (ha:PE X a ta) (hb:PE X b tb) (hc:PE X c tc)
 (hm:lastMarks [op,op'] [b,c]=false:=by with_unfolding_all rfl):PT X (.Compare a [op,op'] [b,c] pos) (K6 (O3 r r' ta tb tc)):=by
 intro pins s σ H Q I h
 refine isTrue_chain (thn (ha pins s σ H _ I h) fun v s1 ⟨x,H1,I1,r1,q1⟩=>test_link (thn (hb pins s1 σ H1 _ I1 q1) fun u s2 ⟨y,H2,I2,r2,q2⟩=>
  thn (ho pins s2 σ H2 x y v u _ I2 r1 r2 q2) fun d s3 ⟨z,H3,I3,r3,k,e,q3⟩=>?_)) hm
 subst e
 cases r3
 refine ki ?_
 cases k with
 | false=>
  obtain ⟨k',e',q'⟩:=q3
  cases e'
  exact ite_ff ⟨H3,I3,q'⟩
 | true=>
  refine ite_tt (test_last (thn (hc pins s3 σ H3 _ I3 q3) fun w' s4 ⟨z',H4,I4,r4,q4⟩=>thn (ho' pins s4 σ H4 y z' u w' _ I4 r2 r4 q4) fun d' s5 ao=>?_))
  obtain ⟨z2,H5,I5,r5,k2,e2,q5⟩:=ao
  subst e2
  cases r5
  exact ki ⟨H5,I5,q5⟩
noncomputable def ZC (K:af) (x:V) (H:Hp) (k:Bool):Prop:=
 match x with
 | .non=>k=false
 | .bl b=>k=b
 | .int i=>k=(i != 0)
 | .str y=>y.length≤bg∧k=((y.length:Int) != 0)
 | .byt y=>y.size≤bg∧k=((y.size:Int) != 0)
 | .ref p=>(∃xs,SqL K H p xs∧k = !xs.isEmpty)∨(∃xs,SqT K H p xs∧k = !xs.isEmpty)∨∃kvs,H p=some (.dK kvs)∧k = !kvs.isEmpty
 | _=>False
theorem Ls {κ:Type}{kvs:List (κ×V)}{vs:List (κ×ag)} (r:KV kvs vs):(!vs.isEmpty) = !kvs.isEmpty:=by
 cases r <;> rfl
theorem yU {xs:List V}{its:List ag} (r:Vals xs its):(!its.toArray.isEmpty) = !xs.isEmpty:=by
 cases r <;> simp
theorem rZ:(bg:Nat) < 2^63:=by rw[sizeLine_eq];decide
theorem Z8:aea X (fun x H Q=>∃k,ZC X.K x H k∧Q k H):=by
 intro pins s σ H x v Q I rx h
 obtain ⟨k,e,q⟩:=h
 have hl:=rZ
 have hs:bg=16777216:=sizeLine_eq
 cases x with
 | non=>
  cases rx
  have e':k=false:=e
  subst e'
  exact truthy_none ⟨H,I,q⟩
 | bl b=>
  cases rx
  have e':k=b:=e
  subst e'
  exact ki ⟨H,I,q⟩
 | int i=>
  obtain ⟨t,rfl⟩:=rx
  have e':k=(i != 0):=e
  subst e'
  exact PySem.P.truthy_int ⟨H,I,q⟩
 | str y=>
  obtain ⟨t,rfl⟩:=rx
  obtain ⟨hy,e'⟩:y.length≤bg∧k=((y.length:Int) != 0):=e
  subst e'
  exact PySem.P.truthy_str (by omega) ⟨H,I.tok _,q⟩
 | byt y=>
  obtain ⟨t,rfl⟩:=rx
  obtain ⟨hy,e'⟩:y.size≤bg∧k=((y.size:Int) != 0):=e
  subst e'
  exact PySem.W.truthy_bytes (by omega) ⟨H,I.tok _,q⟩
 | ref p=>
  cases rx
  have e':(∃xs,SqL X.K H p xs∧k = !xs.isEmpty)∨(∃xs,SqT X.K H p xs∧k = !xs.isEmpty)∨∃kvs,H p=some (.dK kvs)∧k = !kvs.isEmpty:=e
  rcases e' with ⟨xs,hx,e'⟩ | ⟨xs,hx,e'⟩ | ⟨kvs,hx,e'⟩
  · subst e'
    obtain ⟨its,r,pl,hz⟩:=I.list hx
    have hlen:=r.length
    exact wpAny_truthy_list pl.isList (by simp only[bE];omega) ⟨H,I.tok _,by rw[yU r];exact q⟩
  · subst e'
    obtain ⟨its,r,pl,hz⟩:=I.tuple hx
    have hlen:=r.length
    exact truthy_tuple pl (by simp only[bE];omega) ⟨H,I.tok _,by rw[yU r];exact q⟩
  · subst e'
    obtain ⟨hz,hS,vs,r,m⟩:kvs.length≤bg∧(p == kg)=false∧∃vs,KV kvs vs∧s.heap.DictOf (bD X.prog X.w) p vs:=I.hok p _ hx
    have hlen:kvs.length=vs.length:=qk.length r
    exact wpAny_truthy_dict hS m (by omega) ⟨H,I.tok _,by rw[Ls r];exact q⟩
 | _=>exact (show False from e).elim
theorem Qh (ha:PE X a ta) (he:∀whole,AG a X.env whole=(do let v ← whole;standAt a.pos;Ap [v] (truthy v))) :
 PT X a (fun σ H Q=>ta σ H fun x H'=>∃k,ZC X.K x H' k∧Q k H'):=by
 intro pins s σ H Q I h
 exact isTrue_plain (thn (ha pins s σ H _ I h) fun v s1 ⟨x,H1,I1,r1,q1⟩=>Z8 pins s1 σ H1 x v Q I1 r1 q1) (he _)
theorem K4:OpR X (g9 .Add) (fun x y H Q=>∃i j,x = .str i∧y = .str j∧i.length+j.length≤bg∧Q (.str (i++j)) H):=by
 intro pins s σ H x y v u Q I rx ry h
 obtain ⟨i,j,rfl,rfl,hz,q⟩:=h
 obtain ⟨t,rfl⟩:=rx
 obtain ⟨t',rfl⟩:=ry
 exact add_str (fun t' tk=>⟨.str (i++j),H,I.tok _,⟨_,rfl⟩,q⟩) hz
theorem vals1 {x:V}{us:List ag} (r:Vals [x] us):∃u,us=[u]∧RelV x u:=by
 cases r with
 | cons r1 r2=>cases r2;exact ⟨_,rfl,r1⟩
theorem vals2 {x y:V}{us:List ag} (r:Vals [x,y] us):∃u w',us=[u,w']∧RelV x u∧RelV y w':=by
 cases r with
 | cons r1 r2=>
  cases r2 with
  | cons r3 r4=>cases r4;exact ⟨_,_,rfl,r1,r3⟩
theorem Om (hc:X.calm=true):dU X (.builtin "min") (fun xs H Q=>∃i j,xs=[.int i,.int j]∧Q (.int (if j < i then j else i)) H):=by
 intro pins s σ H xs us Q I r h
 obtain ⟨i,j,rfl,q⟩:=h
 obtain ⟨u,w',rfl,⟨t,rfl⟩,⟨t',rfl⟩⟩:=vals2 r
 refine min_two_ints (I.ok.hd hc) fun h' tk k=>⟨_,H,I.kept k,?_,q⟩
 by_cases hj:j < i
 · rw[if_pos hj,if_pos hj];exact ⟨_,rfl⟩
 · rw[if_neg hj,if_neg hj];exact ⟨_,rfl⟩
end
section
variable {prog:cc}{w:eK}{A:eI}{E:ag→ar→Prop}{s:ar}{K:af}{x dx C f:Addr}{mA:Str→Option ag}{name:Str}{v:ag}
end
theorem mY.some_of {v:V}{o:Option ag} (r:mY (some v) o):∃u,o=some u∧RelV v u:=by
 cases o with
 | none=>exact (show False from r).elim
 | some u=>exact ⟨u,rfl,r⟩
section
variable {P:cc}{w:eK}{H H':Hp}{h h':Heap}{a C dx:Addr}{fs fs':List (Str×V)}
end
section
variable {X:Cx}{pins:List (Addr×Obj)}{σ:St}{H:Hp}{s:ar}{a C dx:Addr}{fs:List (Str×V)}{f:Str}{v:V}{A:eI}{E:ag→ar→Prop}
end
section
variable {X:Cx}{o e value:Expr}{f:Str}{pos pos' tpos:Pos}{ta tv:TE}
end
section
variable {X:Cx}{pins:List (Addr×Obj)}{σ:St}{H:Hp}{s:ar}{A:eI}{E:ag→ar→Prop}{Q:ag→ar→Prop}{c:ag}{b:Bool}
end
structure cJ (k:Nat) (A:eI):Prop where
 hd:A.handled=none
 dp:A.depth+3*k+5 < recursionLimit
 un:A.units+16*k+200 < nV
theorem cJ.mono {j k:Nat}{A:eI} (r:cJ k A) (h:j≤k):cJ j A:=⟨r.hd,by have:=r.dp;omega,by have:=r.un;omega⟩
theorem cJ.deeper {k:Nat}{A:eI} (r:cJ (k+1) A) (env:Env):cJ k (A.deeper env):=
 ⟨r.hd,by have:=r.dp;show A.depth+1+3*k+5 < _;omega,by have:=r.un;show A.units+3+16*k+200 < _;omega⟩
theorem cJ.depth {k:Nat}{A:eI} (r:cJ k A):A.depth < recursionLimit:=by have:=r.dp;omega
theorem cJ.units {k:Nat}{A:eI} (r:cJ k A):A.units+64 < nV:=by have:=r.un;omega
noncomputable def aeh:TA:=fun _ H Q=>Q [] H
noncomputable def aaI (ta:TE) (tr:TA):TA:=fun σ H Q=>ta σ H fun x H1=>tr σ H1 fun xs H2=>Q (x::xs) H2
section
variable {X:Cx}{e:Expr}{es:List Expr}{te:TE}{t:TA}{pos:Pos}
theorem fQ:PA X [] aeh:=fun _ _ _ _ H Q I h=>qE ⟨[],H,I,.nil,h⟩
theorem cA (ha:PE X e te) (hr:PA X es t) (hs:d5 (e::es) X.env=(false,eval e X.env)::d5 es X.env:=by rfl):PA X (e::es) (aaI te t):=by
 intro pos pins s σ H Q I h
 rw[hs]
 show cn _ _ (spliced ((false,eval e X.env)::lI pos (d5 es X.env))) _ _ s
 refine kB (thn (ha pins s σ H _ I h) fun u s1 ao=>?_)
 obtain ⟨x,H1,I1,r1,q1⟩:=ao
 exact thn (hr pos pins s1 σ H1 _ I1 q1) fun us s2 ⟨xs,H2,I2,r2,q2⟩=>⟨x::xs,H2,I2,.cons r1 r2,q2⟩
noncomputable def adT (t:TA):TE:=fun σ H Q=>t σ H fun xs H1=>xs.length≤bg∧∀p,H1 p=none→Q (.ref p) (upd H1 p (.tup xs))
noncomputable def acD (t:TA):TE:=fun σ H Q=>t σ H fun xs H1=>xs.length≤bg∧∀p,H1 p=none→Q (.ref p) (upd H1 p (.lst xs))
theorem Ze {x1} (h:PA X es t):PE X (.Tuple es x1 pos) (adT t):=by
 intro pins s σ H Q I hq
 refine tN (thn (h pos pins s σ H _ I hq) fun us s1 ⟨xs,H1,I1,r,z,q⟩=>⟨by rw[← r.length];exact z,?_⟩)
 have hf:H1 s1.heap.objs.size=none:=I1.hok.fresh (aE _)
 refine ⟨.ref s1.heap.objs.size,upd H1 s1.heap.objs.size (.tup xs),I1.laid (t':=s1.toks) (fun b u e=>aS _ e) (aE _) ?_,rfl,q _ hf⟩
 exact ⟨z,us,r,⟨_,d4 _ rfl,rfl,_,rfl⟩⟩
theorem Xa (h:PA X es t):PE X (.List es pos) (acD t):=by
 intro pins s σ H Q I hq
 refine wpAny_List_spliced (thn (h pos pins s σ H _ I hq) fun us s1 ⟨xs,H1,I1,r,z,q⟩=>⟨by rw[← r.length];exact z,?_⟩)
 have hf:H1 s1.heap.objs.size=none:=I1.hok.fresh (aE _)
 refine ⟨.ref s1.heap.objs.size,upd H1 s1.heap.objs.size (.lst xs),I1.laid (t':=s1.toks) (fun b u e=>aS _ e) (aE _) ?_,rfl,q _ hf⟩
 exact ⟨z,us,0,r,d4 _ rfl⟩
end
noncomputable abbrev Sp:=List V→Hp→VK→XK→Prop
noncomputable abbrev CXT:=List Env→Hp→ar→XK→ag→ar→Prop
structure K1 (P:cc) (w:eK) (K:af) (mg:Str→Option ag) (base:Heap) (A:eI) (outer:List Env) (s:ar) (H:Hp):Prop where
 frames:A.frames=some outer
 mod:Mod K mg base
 bs:∀b o,base.get? b=some o→s.heap.get? b=some o∧H b=none
 bsz:base.objs.size≤s.heap.objs.size
 ou:s.heap.FunFrames base outer
 frf:∀b∈frs outer,H b=none
 hok:HOk P w H s.heap
 bare:t9 s.gens
 tabs:∀P,TabAt K mg P→H P=some (.tbl gR)
noncomputable def CE (outer:List Env) (P:cc) (w:eK) (H:Hp) (s:ar) (Q:VK) (u:ag) (s':ar):Prop:=
 ∃v H',s'.os=s.os∧t9 s'.gens∧Un (frs outer) [] H H' s.heap s'.heap∧HOk P w H' s'.heap∧RelV v u∧Q v H'
noncomputable def CR (CX:CXT) (outer:List Env) (P:cc) (w:eK) (H:Hp) (s:ar) (Q:VK) (E:XK) (r:AH) (s':ar):Prop:=
 match r with
 | .ok (.ret u)=>CE outer P w H s Q u s'
 | .ok _=>False
 | .error e=>CX outer H s E e s'
structure n8 (P:cc) (w:eK) (K:af) (mg:Str→Option ag) (base:Heap) (CX:CXT) (k:Nat) (f:Addr) (fd:mm) (ps:List Str) (sp:Sp):Prop where
 len:∀vs H Q E,sp vs H Q E→vs.length=ps.length
 run:∀(A:eI) (outer:List Env) (s:ar) (H:Hp) (args:Args) (us:List ag) (vs:List V) (Q:VK) (E:XK),cJ k A→K1 P w K mg base A outer s H→BindsTo s fd args (ps.zip us)→Vals vs us→sp vs H Q E →
  wb (cx P w) A (.call (.ref f) args) (CR CX outer P w H s Q E) s
section
variable {X:Cx}{pins:List (Addr×Obj)}{σ:St}{H:Hp}{s s':ar}
theorem Inv.env0 (I:Inv X pins σ H s):K1 X.prog X.w X.K X.mg X.base X.A X.stack s H:=
 ⟨I.ok.frames,I.ok.mod,I.bs,eR I.ok.bsz I.sz,I.stack,I.Bd,I.hok,I.bare,fun P h=>I.base.jo _ _ (I.ok.tabs P h)⟩
theorem Inv.after {Q:VK}{u:ag} (I:Inv X pins σ H s) (h:CE X.stack X.prog X.w H s Q u s'):EP X pins σ Q u s':=by
 obtain ⟨v,H',os,bare,un,hok,r,q⟩:=h
 obtain ⟨hh,g,d,t,os'⟩:=s'
 obtain rfl:os'=s.os:=os
 exact ⟨v,H',I.call (h':=hh) (g':=g) (d':=d) (t':=t) (ch:=[]) un hok bare (fun b z=>absurd z (by simp)),r,q⟩
end
noncomputable def TX (sp:Sp) (dvs:List V) (E:XK) (t:TA):TE:=fun σ H Q=>t σ H fun vs H1=>sp (vs++dvs) H1 Q E
noncomputable def Binds (K:af) (fd:mm) (ps:List Str) (ds:List ag):Prop:=
 ∀(s:ar) (us:List ag),K.In s.heap→(us++ds).length=ps.length→BindsTo s fd ⟨us,[]⟩ (ps.zip (us++ds))
theorem Binds.all {K:af}{fd:mm}{ps:List Str} (h:∀us:List ag,us.length=ps.length→kN fd ⟨us,[]⟩=pure (ps.zip us)):Binds K fd ps []:=fun s us _ hl=>by
 rw[fb] at hl ⊢
 exact .of_eq (h us hl)
noncomputable def Passes (CX:CXT) (X:Cx) (E:XK):Prop:=∀(pins:List (Addr×Obj)) (σ:St) (H:Hp) (s:ar) (e:ag) (s':ar),Inv X pins σ H s→CX X.stack H s E e s'→X.xe e s'
section
variable {X:Cx}{CX:CXT}{k:Nat}{f C:Addr}{fd:mm}{ps:List Str}{sp:Sp}{dvs:List V}{ds:List ag}{E:XK}{x m:Str}{p pos apos:Pos}{e o:Expr}{es:List Expr}{ta:TE}{t:TA}
theorem Zf {pins:List (Addr×Obj)}{σ:St}{H:Hp}{s:ar}{Q:VK}{us:List ag}{vs:List V} (F:n8 X.prog X.w X.K X.mg X.base CX k f fd ps sp) (hr:cJ k X.A) (hb:Binds X.K fd ps ds) (hd:Vals dvs ds) (hx:Passes CX X E)
 (I:Inv X pins σ H s) (r:Vals vs us) (h:sp (vs++dvs) H Q E):cn (cx X.prog X.w) X.A (call (.ref f) us) (EP X pins σ Q) X.xe s:=by
 have r2:Vals (vs++dvs) (us++ds):=r.append hd
 have hl:(us++ds).length=ps.length:=by rw[← r2.length];exact F.len _ _ _ _ h
 refine yk (yv (F.run X.A X.stack s H ⟨us,[]⟩ (us++ds) (vs++dvs) Q E hr I.env0 (hb s us I.kIn hl) r2 h) fun r s' hq=>?_)
 cases r with
 | error e=>exact hx pins σ H s e s' I hq
 | ok fl=>
  cases fl with
  | ret u=>exact I.after hq
  | next=>exact kT hq
  | brk=>exact kT hq
  | cont=>exact kT hq
theorem WN (F:n8 X.prog X.w X.K X.mg X.base CX k f fd ps sp) (hr:cJ k X.A) (hg:Gl X x) (hm:X.mg x=some (.ref f)) (hk:cS X.K (.ref f)=true) (hb:Binds X.K fd ps ds) (hd:Vals dvs ds) (hx:Passes CX X E)
 (ha:PA X (e::es) t) (hdb:(x == ("__debug__" : Str))=false:=by decide) (he:d5 (e::es) X.env=(false,eval e X.env)::d5 es X.env:=by rfl) (hpl:(lI pos (d5 es X.env)).any (·.1)=false:=by rfl) :
 PE X (.Call (.Name x p) (e::es) [] pos) (TX sp dvs E t):=by
 intro pins s σ H Q I h
 refine nE (lH I hg hm ?_ hdb)
 refine PySem.W.callWith_K (h₀:=X.base) I.ok.mod.kin hk (thn (ha pos pins s σ H _ I h) fun us s1 ⟨vs,H1,I1,r,q⟩=>⟨I1.kIn,?_⟩) he hpl
 exact Zf F hr hb hd hx I1 r q
end
section
variable {X:Cx}{CX:CXT}{k:Nat}{f C:Addr}{fd:mm}{ps ks:List Str}{sp:Sp}{E:XK}{x m:Str}{p pos apos afa:Pos}{e o:Expr}{es:List Expr}{kws:List qc}{te ta:TE}{t tk:TA}{nm:Option Str}
variable {g:List ag→List ag→List ag}{gV:List V→List V→List V}
end
structure bc (N P:List Str) (sc:nk):Prop where
 kind:sc.kind = .function
 co:sc.isCoroutine=false
 gen:sc.isGenerator=false
 nd:N.Nodup
 pre:N.take P.length=P
 par:∀x∈P,sc.names.lookup x=some .local∨sc.names.lookup x=some .cell
 aam:∀y∈sc.names,y.2 ≠ .free
theorem Cr {kindOf:Str→Option fR}{x:Str}:∀{binds:List (Str×ag)}{m:Str→Option ag},(∀v,(x,v)∉binds)→bindL kindOf binds m x=m x
 | [],_,_=>rfl
 | (n,v)::r,m,h=>by
  unfold bindL
  rw[Cr fun w hw=>h w (bq _ hw)]
  split
  · have:x≠n:=by rintro rfl;exact h v cf
    simp[this]
  · rfl
theorem CP {kindOf:Str→Option fR}{x:Str}:∀{binds:List (Str×ag)}{m:Str→Option ag},(∀v,(x,v)∉binds)→bindC kindOf binds m x=m x
 | [],_,_=>rfl
 | (n,v)::r,m,h=>by
  unfold bindC
  rw[CP fun w hw=>h w (bq _ hw)]
  split
  · rfl
  · have:x≠n:=by rintro rfl;exact h v cf
    simp[this]
theorem De {kindOf:Str→Option fR}{x:Str}{v:ag}:∀{P:List Str}{vs:List ag}{i:Nat}{m:Str→Option ag},P.Nodup→P[i]?=some x→vs[i]?=some v→kindOf x=some .local →
 bindL kindOf (P.zip vs) m x=some v
 | [],_,_,_,_,h,_,_=>by simp at h
 | _::_,[],_,_,_,_,h,_=>by simp at h
 | p::P,w::vs,0,m,nd,h1,h2,hk=>by
  simp at h1 h2;subst h1;subst h2
  show bindL kindOf ((p,w)::P.zip vs) m p=_
  unfold bindL
  rw[Cr fun v hv=>(lT.mp nd).1 (ze hv).1,if_pos hk]
  simp
 | p::P,w::vs,i+1,m,nd,h1,h2,hk=>by
  show bindL kindOf ((p,w)::P.zip vs) m x=_
  unfold bindL
  exact De (i:=i) (lT.mp nd).2 (by simpa using h1) (by simpa using h2) hk
theorem Dd {kindOf:Str→Option fR}{x:Str}{v:ag}:∀{P:List Str}{vs:List ag}{i:Nat}{m:Str→Option ag},P.Nodup→P[i]?=some x→vs[i]?=some v→kindOf x≠some .local →
 bindC kindOf (P.zip vs) m x=some v
 | [],_,_,_,_,h,_,_=>by simp at h
 | _::_,[],_,_,_,_,h,_=>by simp at h
 | p::P,w::vs,0,m,nd,h1,h2,hk=>by
  simp at h1 h2;subst h1;subst h2
  show bindC kindOf ((p,w)::P.zip vs) m p=_
  unfold bindC
  rw[CP fun v hv=>(lT.mp nd).1 (ze hv).1,if_neg hk]
  simp
 | p::P,w::vs,i+1,m,nd,h1,h2,hk=>by
  show bindC kindOf ((p,w)::P.zip vs) m x=_
  unfold bindC
  exact Dd (i:=i) (lT.mp nd).2 (by simpa using h1) (by simpa using h2) hk
noncomputable def start (N:List Str) (vs:List V):St:=vs.map some++cK (N.length - vs.length) none
noncomputable def lX (CX:CXT) (P:cc) (w:eK) (K:af) (mg:Str→Option ag) (base:Heap) (N:List Str) (qual:Str) (scope:nk) (f:Addr) (cd:ag) (A:eI) (outer:List Env) (s:ar) (H:Hp) (E:XK):Cx where
 prog:=P
 w:=w
 K:=K
 mg:=mg
 base:=base
 A:=A.deeper (kP qual scope s.heap.objs.size f cd)
 N:=N
 s₀:=s
 H₀:=H
 env:=kP qual scope s.heap.objs.size f cd
 outer:=outer
 stack:=kP qual scope s.heap.objs.size f cd::outer
 ex:=[]
 calm:=true
 fn:=fun _=>true
 pn:=[]
 xe:=fun e s'=>cn (cx P w) (A.deeper (kP qual scope s.heap.objs.size f cd)) (leaving (kP qual scope s.heap.objs.size f cd) e) (fun _ s''=>CX outer H s E e s'') (fun e' s''=>CX outer H s E e' s'') s'
theorem Ga {sc:nk}{n:Nat}{x:Str} (h:sc.names.lookup x=some .cell):∃c,(kC n sc.names []).lookup x=some c:=by
 have q:=nI sc.names n [] (.inl h)
 exact fy.mp q
theorem M8 {CX:CXT}{P:cc}{w:eK}{K:af}{mg:Str→Option ag}{base:Heap}{N ps:List Str}{qual:Str}{scope:nk}{f:Addr}{cd:ag}{A:eI}{outer:List Env}{s s1:ar}{H:Hp}{E:XK}{us:List ag}{vs:List V}
 (S:bc N ps scope) (hd:A.handled=none) (e0:K1 P w K mg base A outer s H) (hl:vs.length=ps.length) (r:Vals vs us)
 (x:InCallC s s.heap.objs.size (bindL (kP qual scope s.heap.objs.size f cd).kindOf (ps.zip us) fun _=>none) (kC (s.heap.objs.size+1) scope.names []) (bindC (kP qual scope s.heap.objs.size f cd).kindOf (ps.zip us) fun _=>none) s1) :
 Inv (lX CX P w K mg base N qual scope f cd A outer s H E) [] (start N vs) H s1:=by
 have hpl:ps.length≤N.length:=by have:=congrArg List.length S.pre;rw[eM] at this;omega
 obtain ⟨h1,tk,rfl,hk⟩:=x.done
 have noA:∀b:Addr,b∉(lX CX P w K mg base N qual scope f cd A outer s H E).ex:=fun b z=>absurd (show b∈([]:List Addr) from z) (by simp)
 refine ⟨⟨e0.mod,S.kind,rfl,rfl,aE _,fun y z c h1 h2=>?_,fun y hy=>?_,fun y c _ h=>?_,fun _=>hd,Around.frames_deeper e0.frames,.inr ⟨rfl,rfl⟩,fun b z=>absurd z (noA b),e0.bs,e0.bsz,fun b _ _=>noA b,fun b z=>absurd z (noA b),e0.ou,e0.frf,e0.tabs⟩,
  rfl,e0.bare,Un.kept hk,⟨_,x.toInCall.ns,fun i y v h1 h2 h3=>?_⟩,fun y c h=>⟨_,x.cell y c h⟩,e0.hok.fresh (aE _),fun y c h=>?_,fun p hp=>absurd (show p∈([]:List (Addr×Obj)) from hp) (by simp),e0.hok.kept hk,?_⟩
 · exact name_of_addr x.apart (hW h1) (hW h2)
 · have hy:scope.names.lookup y=some .cell∨scope.names.lookup y=some .free:=hy
   rcases hy with hy | hy
   · exact Ga hy
   · exact absurd rfl (S.aam _ (hW hy))
 · exact gy (x.above y c (hW h))
 · have hi:i < vs.length:=by
    unfold start at h2
    by_cases hi:i < vs.length
    · exact hi
    · rw[dt (by simpa using hi)] at h2
      rw[i7] at h2
      split at h2 <;> cases h2
   have ha:vs[i]?=some v:=by
    unfold start at h2
    rw[eh (by simpa using hi),cp] at h2
    cases e:vs[i]? with
    | none=>rw[e] at h2;cases h2
    | some a=>rw[e] at h2;cases h2;rfl
   obtain ⟨u,hu,rv⟩:=r.get ha
   have hp:ps[i]?=some y:=by
    rw[← S.pre,mE (by omega)];exact h1
   have ndP:ps.Nodup:=by rw[← S.pre];exact S.nd.sublist (List.take_sublist _ _)
   refine ⟨u,rv,?_⟩
   rcases S.par y (gX hp) with k | k
   · exact .inl ⟨k,De ndP hp hu k⟩
   · obtain ⟨c,e⟩:=Ga (n:=s.heap.objs.size+1) k
     refine .inr ⟨.inl k,c,e,?_⟩
     have q:=x.cell y c e
     rw[Dd ndP hp hu (by show scope.names.lookup y≠_;rw[k];decide)] at q
     exact q
 · exact e0.hok.fresh (gy (x.above y c (hW h)))
 · unfold start
   show _=N.length
   rw[aw,av,df]
   omega
theorem Ly {CX:CXT}{P:cc}{w:eK}{K:af}{mg:Str→Option ag}{base:Heap}{k:Nat}{f:Addr}{name qual:Str}{params:uu}{body:List Stmt}{scope:nk}{dV kV doc pm cdv ct oc:ag}{an od:Option Addr}
 {osl:Array (Option ag)}{N ps:List Str}{sp:Sp} (lk:K.lookup f=some ⟨oc,od,.func (b9 name qual params body scope dV kV doc pm an cdv ct),osl⟩) (hcd:dE K cdv qual=true) (S:bc N ps scope)
 (len:∀vs H Q E,sp vs H Q E→vs.length=ps.length)
 (hbody:∀(A:eI) (outer:List Env) (s:ar) (H:Hp) (vs:List V) (Q:VK) (E:XK),cJ k (A.deeper (kP qual scope s.heap.objs.size f cdv))→sp vs H Q E →
  ∃t,PSs (lX CX P w K mg base N qual scope f cdv A outer s H E) body t∧t { nx:=fun _ H'=>Q .non H',rt:=Q } (start N vs) H) :
 n8 P w K mg base CX (k+1) f (b9 name qual params body scope dV kV doc pm an cdv ct) ps sp:=by
 refine ⟨len,fun A outer s H args us vs Q E hr e0 hb r hsp=>?_⟩
 have hl:=len _ _ _ _ hsp
 have KX:K.In s.heap:=e0.mod.kin.keeps fun b o e=>(e0.bs b o e).1
 have lim:s.heap.NoLimit:=e0.mod.nolimit.keeps fun b o e=>(e0.bs b o e).1
 have hkind:∀y∈ps.zip us,scope.names.lookup y.1=some .local∨(scope.names.lookup y.1=some .cell∧((kC (s.heap.objs.size+1) scope.names []).lookup y.1).isSome=true):=fun ⟨n,v⟩ hy=>by
  rcases S.par n (ze hy).1 with q | q
  · exact .inl q
  · exact .inr ⟨q,nI _ _ _ (.inl q)⟩
 refine codeAny_call_function hr.depth (KX _ _ lk) rfl S.co S.gen rfl (PySem.W.codeRec_of KX hcd) (hb _ _ _ _ ?_)
 refine wpAny_newFunctionEnv_cells S.kind hkind fun env he s1 x=>?_
 subst he
 refine ⟨lim.keeps x.toInCall.keep,codeAny_func ?_⟩
 obtain ⟨t,ht,hq⟩:=hbody A outer s H vs Q E (hr.deeper _) hsp
 have I:Inv (lX CX P w K mg base N qual scope f cdv A outer s H E) [] (start N vs) H s1:=M8 S hr.hd e0 hl r x
 refine gc (ht [] s1 (start N vs) H _ I hq) (fun fl s' hs=>?_) fun e s' hs=>hs
 have fin:∀{σ':St}{H':Hp}{v:V}{u:ag},Inv (lX CX P w K mg base N qual scope f cdv A outer s H E) [] σ' H' s'→RelV v u→Q v H'→CE outer P w H s Q u s':=
  fun {σ' H' v u} J rv q=>⟨v,H',J.os,J.bare,J.base,J.hok,rv,q⟩
 cases fl with
 | ret u=>
  obtain ⟨v,σ',H',J,rv,q⟩:=hs
  exact fin J rv q
 | next=>
  obtain ⟨σ',H',J,q⟩:=hs
  exact fin (v:=V.non) (u:=ag.none) J rfl q
 | brk=>
  obtain ⟨_,_,_,q⟩:=hs
  exact kT q
 | cont=>
  obtain ⟨_,_,_,q⟩:=hs
  exact kT q
section
variable {X:Cx}{x:Str}{p pos:Pos}{e:Expr}{es:List Expr}{t:TA}{id T:String}{r:List V→Hp→VK→Prop}
noncomputable def tCB (r:List V→Hp→VK→Prop) (t:TA):TE:=fun σ H Q=>t σ H fun vs H1=>r vs H1 Q
theorem um (hc:dU X (.builtin id) r) (hg:Gl X x) (hm:X.mg x=none) (hv:ee x=some (.builtin id)) (ha:PA X (e::es) t) (hn:x ≠ "__name__" := by decide) (hdb:(x == ("__debug__" : Str))=false:=by decide)
 (he:d5 (e::es) X.env=(false,eval e X.env)::d5 es X.env:=by rfl) (hpl:(lI pos (d5 es X.env)).any (·.1)=false:=by rfl):PE X (.Call (.Name x p) (e::es) [] pos) (tCB r t):=by
 intro pins s σ H Q I h
 refine nE (nY I hg hm hv ?_ hn hdb)
 exact PyProof.Rows.callWith_builtin1 (thn (ha pos pins s σ H _ I h) fun us s1 ⟨vs,H1,I1,r1,q1⟩=>hc pins s1 σ H1 vs us Q I1 r1 q1) he hpl
theorem Dh (hc:dU X (.type T) r) (hg:Gl X x) (hm:X.mg x=none) (hv:ee x=some (.type T)) (ha:PA X (e::es) t) (hn:x ≠ "__name__" := by decide) (hdb:(x == ("__debug__" : Str))=false:=by decide)
 (he:d5 (e::es) X.env=(false,eval e X.env)::d5 es X.env:=by rfl) (hpl:(lI pos (d5 es X.env)).any (·.1)=false:=by rfl):PE X (.Call (.Name x p) (e::es) [] pos) (tCB r t):=by
 intro pins s σ H Q I h
 refine nE (nY I hg hm hv ?_ hn hdb)
 exact jv (thn (ha pos pins s σ H _ I h) fun us s1 ⟨vs,H1,I1,r1,q1⟩=>hc pins s1 σ H1 vs us Q I1 r1 q1) he hpl
end
end L2
namespace HT
open PySem PyProof.Rows
section
open PySem.SeqAt
open PySem.AutoSeq1 (wpAny_loadPart')
open PySem.MeetsSeq PySem.MeetsSeq2 PySem.MeetsSeq3
end
section
variable {prog:cc}{w:eK}{A:eI}{E:ag→ar→Prop}{s:ar}
theorem Wn {t b:Addr}{vs ws:List ag}{Q:ag→ar→Prop} (ht:uS s.heap t vs.toArray) (hb:uS s.heap b ws.toArray) (hv:vs≠[])
 (h1:ws=[]→Q (.ref t) s) (h2:ws≠[]→Q (.ref s.heap.objs.size) { s with heap:=s.heap.push { cls:=.type "tuple",data:=.seq (vs++ws).toArray } })
 (hsz:vs.length+ws.length≤bg):cn (cx prog w) A (g9 .Add (.ref t) (.ref b)) Q E s:=by
 obtain ⟨⟨cls,dd,data,sl⟩,ho,hc,n,hd⟩:=id ht
 obtain ⟨⟨cls2,dd2,data2,sl2⟩,ho2,hc2,n2,hd2⟩:=id hb
 simp only at hc hd hc2 hd2
 subst hc hd hc2 hd2
 have e:vs.toArray++ws.toArray=(vs++ws).toArray:=by simp
 by_cases hw:ws=[]
 · exact yy ⟨_,ho,rfl⟩ ⟨_,ho2,rfl⟩ xA seq_tuple_add qS qr (pS _ _)
    (tuple_addW1 t b vs.toArray ws.toArray n n2 dd dd2 sl sl2 (by simpa using hv) (by simp[hw])) ⟨ho,ho2,h1 hw⟩
 · refine yy ⟨_,ho,rfl⟩ ⟨_,ho2,rfl⟩ xA seq_tuple_add qS qr (pS _ _)
    (tuple_addW2 t b vs.toArray ws.toArray n n2 dd dd2 sl sl2 (by simpa using hv) (by simpa using hw) (by rw[bE,bE];exact hsz)) ⟨ho,ho2,?_⟩
   rw[e]
   exact h2 hw
noncomputable def sIx (n d:Nat):Option Int→Nat
 | none=>d
 | some v=>if v < 0 then (v+(n:Int)).toNat else min v.toNat n
theorem Fw (n d:Nat):sIx n d none=d:=rfl
theorem Jv (n d k:Nat):sIx n d (some (k:Int))=min k n:=by
 show (if (k:Int) < 0 then ((k:Int)+(n:Int)).toNat else min (k:Int).toNat n)=min k n
 rw[if_neg (by omega),iq]
theorem Y7 (n d:Nat) (hd:d≤n) (o:Option Int):sIx n d o≤n:=by
 cases o with
 | none=>exact hd
 | some v=>
  show (if v < 0 then (v+(n:Int)).toNat else min v.toNat n)≤n
  by_cases hv:v < 0
  · rw[if_pos hv];omega
  · rw[if_neg hv];exact r6 _ _
theorem JF (v:Int) (n d:Nat):(if v < 0 then max (v+(n:Int)) 0 else min v (n:Int))=((sIx n d (some v):Nat):Int):=by
 show (if v < 0 then max (v+(n:Int)) 0 else min v (n:Int))=(((if v < 0 then (v+(n:Int)).toNat else min v.toNat n):Nat):Int)
 by_cases hv:v < 0
 · simp only[if_pos hv];omega
 · simp only[if_neg hv];omega
theorem J1 (lo hi:Option Int) (n:Nat):pd lo hi 1 (n:Int)=(((sIx n 0 lo:Nat):Int),((sIx n n hi:Nat):Int)):=by
 have h1:¬ ((1:Int) < 0):=by omega
 unfold pd
 simp only[h1,if_false]
 refine Prod.ext ?_ ?_
 · cases lo with
   | none=>rfl
   | some v=>exact JF v n 0
 · cases hi with
   | none=>rfl
   | some v=>exact JF v n n
theorem Ke (i j:Nat):lP (i:Int) (j:Int) 1=j - i:=by
 unfold lP
 have h1:(1:Int) > 0:=by omega
 simp only[h1,if_true,Int.ediv_one]
 split <;> omega
theorem yZ {v:ag}{o:Option Int}{Q:Option Int→ar→Prop} (p:yA v o) (h:Q o s):cn (cx prog w) A (Builtin.Slice.slicePartIndex v) Q E s:=by
 cases p with
 | none=>exact slicePart_none h
 | int i t=>exact slicePart_int h
theorem pY {sl:Addr}{vl vu:ag}{lo hi:Option Int}{n:Nat}{Q:Int×Int×Nat→ar→Prop} (hs:s.heap.IsSliceOf sl vl vu .none) (pl:yA vl lo) (pu:yA vu hi)
 (h:Q (((sIx n 0 lo:Nat):Int),1,sIx n n hi - sIx n 0 lo) s):cn (cx prog w) A (Builtin.Slice.sliceApplied (.ref sl) (pure (n:Int))) Q E s:=by
 obtain ⟨os,hos,hcs,hds⟩:=id hs
 unfold Builtin.Slice.sliceApplied Builtin.Slice.sliceFields
 refine ai (ai (oo hos hds (x:=vl) rfl (ai (oo hos hds (x:=vu) rfl (ai (oo hos hds (x:=.none) rfl (ay ?_)))))))
 refine ai (slicePart_none ?_)
 show cn _ _ (if ((1:Int) == 0)=true then _ else _) _ _ s
 rw[if_neg (by decide)]
 refine ai (yZ pl (ai (yZ pu (ai (ay ?_)))))
 show cn _ _ (match pd lo hi 1 (n:Int) with | (lo,hi)=>pure (lo,(1:Int),lP lo hi 1)) _ _ s
 rw[J1 lo hi n]
 show cn _ _ (pure (((sIx n 0 lo:Nat):Int),(1:Int),lP ((sIx n 0 lo:Nat):Int) ((sIx n n hi:Nat):Int) 1)) _ _ s
 rw[Ke]
 exact ay h
theorem Rh (xs:Array ag) (i k:Nat):((fh k).filterMap fun (m:Nat)=>xs[((i:Int)+(m:Int)*1).toNat]?).toArray=((xs.toList.drop i).take k).toArray:=by
 have e:(fun (m:Nat)=>xs[((i:Int)+(m:Int)*1).toNat]?)=fun m=>xs[i+m]?:=by
  funext m
  have:((i:Int)+(m:Int)*1).toNat=i+m:=by omega
  rw[this]
 rw[e]
 have:=pick_run xs i k
 rw[List.filterMap_map] at this
 have e2:((fun x=>xs[x]?)∘fun x=>i+x)=fun m=>xs[i+m]?:=rfl
 rw[e2] at this
 rw[this]
theorem xR {t sl:Addr}{items:Array ag}{vl vu:ag}{lo hi:Option Int}{Q:ag→ar→Prop} (ht:uS s.heap t items) (hs:s.heap.IsSliceOf sl vl vu .none) (pl:yA vl lo) (pu:yA vu hi)
 (hw:¬ (sIx items.size 0 lo=0∧sIx items.size items.size hi=items.size))
 (h:Q (.ref s.heap.objs.size) { s with heap:=s.heap.push { cls:=.type "tuple",data:=.seq ((items.toList.drop (sIx items.size 0 lo)).take (sIx items.size items.size hi - sIx items.size 0 lo)).toArray } })
 (hsz:items.size≤bg):cn (cx prog w) A (ua (.ref t) (.ref sl)) Q E s:=by
 have Ec:sizeOk (.seq ((items.toList.drop (sIx items.size 0 lo)).take (sIx items.size items.size hi - sIx items.size 0 lo)).toArray):=by
  show ((items.toList.drop (sIx items.size 0 lo)).take (sIx items.size items.size hi - sIx items.size 0 lo)).toArray.size≤bg
  rw[bE,eM,oQ,pj]
  omega
 have hj:sIx items.size items.size hi≤items.size:=Y7 _ _ (aE _) hi
 obtain ⟨os,hos,hcs,hds⟩:=id hs
 have hTs:s.TypeIs (.ref sl) "slice" := ⟨os,hos,hcs⟩
 unfold ua
 try with_reducible refine jI ?_
 first | refine ai (ay ?_) | skip
 refine ai (wpAny_sequenceKey ht.typeIs (by decide) ?_)
 refine ai (nc (name:=lh "__getitem__") ht.typeIs fw
  (kD fw ht.typeIs entry_tuple_getitem ?_ (args_tuple_getitem _ _)))
 show cn _ _ (Builtin.Tuple.tupleItemsOf (.ref t) >>= _) _ _ s
 refine ai (tupleItemsOf_ ht ?_)
 refine ai (yB hTs ?_)
 rw[if_pos (by decide)]
 refine ai (pY hs pl pu ?_)
 have hno:¬ ((((sIx items.size 0 lo:Nat):Int) == 0&&(1:Int) == 1&&(sIx items.size items.size hi - sIx items.size 0 lo) == items.size)=true):=by
  intro q
  rw[dS,dS] at q
  have q1:((sIx items.size 0 lo:Nat):Int)=0:=eq_of_beq q.1.1
  have q2:sIx items.size items.size hi - sIx items.size 0 lo=items.size:=eq_of_beq q.2
  exact hw ⟨by omega,by omega⟩
 show cn _ _ (if (((sIx items.size 0 lo:Nat):Int) == 0&&(1:Int) == 1&&(sIx items.size items.size hi - sIx items.size 0 lo) == items.size)=true then _ else _) _ _ s
 rw[if_neg hno,Rh]
 first
  | exact ai (m:=mI _) (ko (ay ⟨_,rfl,ay h⟩) Ec)
  | exact ai (m:=mI _) (ko (ai (ay (ay ⟨_,rfl,ay h⟩))) Ec)
  | exact ai (ai (m:=mI _) (ko (ay (ay ⟨_,rfl,ay h⟩)) Ec))
  | exact ai (ai (m:=mI _) (ko (ay ⟨_,rfl,ay h⟩) Ec))
end
end HT
namespace L2
open PySem PySem.Spec PyProof.Rows
noncomputable abbrev TO:=St→Hp→(Option Int→Hp→Prop)→Prop
noncomputable def PO (X:Cx) (e:Option Expr) (t:TO):Prop:=
 ∀(pins:List (Addr×Obj)) (s:ar) (σ:St) (H:Hp) (Q:Option Int→Hp→Prop),Inv X pins σ H s→t σ H Q →
  cn (cx X.prog X.w) X.A (evalPart e X.env) (fun u s'=>∃o H',Inv X pins σ H' s'∧yA u o∧Q o H') X.xe s
noncomputable def Ww:TO:=fun _ H Q=>Q none H
noncomputable def abn (t:TE):TO:=fun σ H Q=>t σ H fun x H1=>∃i,x = .int i∧Q (some i) H1
section
variable {X:Cx}{e:Expr}{te:TE}{lo hi:Option Expr}{tl th:TO}{pos p2:Pos}
theorem W7:PO X none Ww:=by
 intro pins s σ H Q I h
 rw[evalPart_none]
 exact ay ⟨none,H,I,.none,h⟩
theorem WT (h:PE X e te):PO X (some e) (abn te):=by
 intro pins s σ H Q I hw
 rw[evalPart_some]
 refine thn (h pins s σ H _ I hw) fun u s1 ao=>?_
 obtain ⟨x,H1,I1,r1,q1⟩:=ao
 obtain ⟨i,rfl,q⟩:=q1
 obtain ⟨t,rfl⟩:=r1
 exact ⟨some i,H1,I1,.int i t,q⟩
noncomputable def SlR (X:Cx) (r:V→Option Int→Option Int→Hp→VK→Prop):Prop:=
 ∀(pins:List (Addr×Obj)) (s:ar) (σ:St) (H:Hp) (x:V) (v vl vu:ag) (lo hi:Option Int) (sl:Addr) (Q:VK),Inv X pins σ H s→RelV x v→s.heap.IsSliceOf sl vl vu .none→yA vl lo→yA vu hi→r x lo hi H Q →
  ∃T id,typeLookup (.type T) "__getitem__" = pure (some (.builtin id))∧s.TypeIs v T∧cn (cx X.prog X.w) X.A (ua v (.ref sl)) (EP X pins σ Q) X.xe s
noncomputable def tSl (r:V→Option Int→Option Int→Hp→VK→Prop) (te:TE) (tl th:TO):TE:=fun σ H Q=>te σ H fun x H1=>tl σ H1 fun l H2=>th σ H2 fun u H3=>r x l u H3 Q
theorem R4 {r:V→Option Int→Option Int→Hp→VK→Prop} (hr:SlR X r) (he:PE X e te) (hl:PO X lo tl) (hu:PO X hi th):PE X (.Subscript e (.Slice lo hi none p2) pos) (tSl r te tl th):=by
 intro pins s σ H Q I h
 refine Subscript_ (thn (he pins s σ H _ I h) fun v s1 ao=>?_)
 obtain ⟨x,H1,I1,r1,q1⟩:=ao
 refine wpAny_Slice (thn (hl pins s1 σ H1 _ I1 q1) fun vl s2 ⟨l,H2,I2,pl,q2⟩=>thn (hu pins s2 σ H2 _ I2 q2) fun vu s3 ao=>?_)
 obtain ⟨u,H3,I3,pu,q3⟩:=ao
 rw[evalPart_none]
 refine ay ?_
 have I4:Inv X pins σ H3 { s3 with heap:=s3.heap.push { cls:=.type "slice",data:=.fields #[vl,vu,.none] } }:=I3.kept (t':=s3.toks) fun b ob q=>aS _ q
 obtain ⟨T,id,hT,ht,hg⟩:=hr pins { s3 with heap:=s3.heap.push { cls:=.type "slice",data:=.fields #[vl,vu,.none] } } σ H3 x v vl vu l u s3.heap.objs.size Q I4 r1 (Heap.IsSliceOf.new ..) pl pu q3
 show cn (cx X.prog X.w) X.A (xi e (.Slice lo hi none p2) v (.ref s3.heap.objs.size)) (EP X pins σ Q) X.xe { s3 with heap:=s3.heap.push { cls:=.type "slice",data:=.fields #[vl,vu,.none] } }
 exact tail_any (ops:=[.ref s3.heap.objs.size,v]) ht hT hg (by with_unfolding_all rfl)
noncomputable def rJ (xs:List V) (lo hi:Option Int):List V:=(xs.drop (HT.sIx xs.length 0 lo)).take (HT.sIx xs.length xs.length hi - HT.sIx xs.length 0 lo)
theorem xY (xs:List V) (lo hi:Option Int):(rJ xs lo hi).length≤xs.length:=by
 unfold rJ
 rw[eM,oQ]
 omega
noncomputable def aax (K:af):V→Option Int→Option Int→Hp→VK→Prop:=fun x lo hi H Q=>∃a xs,x = .ref a∧SqT K H a xs ∧
 ¬ (HT.sIx xs.length 0 lo=0∧HT.sIx xs.length xs.length hi=xs.length)∧∀p,H p=none→Q (.ref p) (upd H p (.tup (rJ xs lo hi)))
theorem Xm:SlR X (aax X.K):=by
 intro pins s σ H x v vl vu lo hi sl Q I rx hs pl pu h
 obtain ⟨a,xs,rfl,hx,hw,q⟩:=h
 cases rx
 obtain ⟨its,r,ht,hz⟩:=I.tuple hx
 have hlen:its.toArray.size=xs.length:=by rw[bE];exact r.length.symm
 refine ⟨"tuple",_,fw.lookup,ht.typeIs,?_⟩
 refine HT.xR ht hs pl pu (by rw[hlen];exact hw) ?_ (by rw[hlen];exact hz)
 rw[hlen]
 refine ⟨.ref s.heap.objs.size,_,I.laid (t':=s.toks) (o:=.tup (rJ xs lo hi)) (fun b ob q=>aS _ q) (aE _) ?_,rfl,q _ (I.hok.fresh (aE _))⟩
 exact ⟨eR (xY xs lo hi) hz,_,(r.drop (HT.sIx xs.length 0 lo)).take (HT.sIx xs.length xs.length hi - HT.sIx xs.length 0 lo),uS.new _ _⟩
noncomputable def aaW (K:af):R2:=fun x y H Q=>∃a b xs ys,x = .ref a∧y = .ref b∧SqT K H a xs∧SqT K H b ys∧xs≠[]∧xs.length+ys.length≤bg ∧
 (ys=[]→Q (.ref a) H)∧(ys≠[]→∀p,H p=none→Q (.ref p) (upd H p (.tup (xs++ys))))
theorem Vals.Bv {xs:List V}{us:List ag} (r:Vals xs us):us=[]↔xs=[]:=by
 cases r with
 | nil=>simp
 | cons _ _=>simp
theorem Uw:OpR X (g9 .Add) (aaW X.K):=by
 intro pins s σ H x y v u Q I rx ry h
 obtain ⟨a,b,xs,ys,rfl,rfl,ha,hb,hx,hz,q1,q2⟩:=h
 cases rx
 cases ry
 obtain ⟨its,r1,p1,_⟩:=I.tuple ha
 obtain ⟨its2,r2,p2,_⟩:=I.tuple hb
 refine HT.Wn p1 p2 (fun z=>hx (r1.Bv.mp z)) (fun z=>⟨.ref a,H,I,rfl,q1 (r2.Bv.mp z)⟩) (fun z=>?_) (by rw[← r1.length,← r2.length];exact hz)
 refine ⟨.ref s.heap.objs.size,_,I.laid (t':=s.toks) (o:=.tup (xs++ys)) (fun b ob q=>aS _ q) (aE _) ?_,rfl,q2 (fun w=>z (r2.Bv.mpr w)) _ (I.hok.fresh (aE _))⟩
 exact ⟨by rw[aw];exact hz,_,r1.append r2,uS.new _ _⟩
end
noncomputable def ixN (n:Nat) (i:Int):Option Nat:=if 0≤i then (if i < n then some i.toNat else none) else if -(n:Int)≤i then some (i+n).toNat else none
noncomputable def atI {α:Type} (xs:List α) (i:Int):Option α:=(ixN xs.length i).bind fun j=>xs[j]?
theorem W9 {n:Nat}{i:Int}{j:Nat} (h:ixN n i=some j):seqIndex? i n=some j∧j < n ∧ -(n:Int)≤i∧i < n:=by
 unfold ixN at h
 by_cases h0:0≤i
 · rw[if_pos h0] at h
   by_cases h1:i < n
   · rw[if_pos h1] at h
     have e:i.toNat=j:=Option.some.inj h
     exact ⟨by rw[seqIndex_of h0 h1,e],by omega,by omega,h1⟩
   · rw[if_neg h1] at h;cases h
 · rw[if_neg h0] at h
   by_cases h1 : -(n:Int)≤i
   · rw[if_pos h1] at h
     have e:(i+n).toNat=j:=Option.some.inj h
     exact ⟨by rw[seqIndex_neg (by omega) h1,e],by omega,h1,by omega⟩
   · rw[if_neg h1] at h;cases h
theorem Jt {α:Type}{xs:List α}{i:Int}{v:α} (h:atI xs i=some v):∃j,seqIndex? i xs.length=some j∧xs[j]?=some v∧j < xs.length ∧ -(xs.length:Int)≤i∧i < xs.length:=by
 unfold atI at h
 cases e:ixN xs.length i with
 | none=>rw[e] at h;cases h
 | some j=>
  rw[e] at h
  obtain ⟨h1,h2,h3,h4⟩:=W9 e
  exact ⟨j,h1,h,h2,h3,h4⟩
theorem Jw {α:Type}{xs:List α}{j:Nat}{v:α} (h:xs[j]?=some v):atI xs (j:Int)=some v:=by
 have hj:j < xs.length:=(br.mp h).1
 have e:ixN xs.length (j:Int)=some j:=by
  unfold ixN
  rw[if_pos (by omega),if_pos (by omega)];simp
 unfold atI;rw[e];exact h
noncomputable def Br (b:Expr):Prop:=∀o i,wd b false o i=operate [o,i] (ua o i)
noncomputable def IxR (X:Cx) (r:R2):Prop:=
 ∀(value slice:Expr) (pins:List (Addr×Obj)) (s:ar) (σ:St) (H:Hp) (x y:V) (v u:ag) (Q:VK),Inv X pins σ H s→RelV x v→RelV y u→r x y H Q →
  wd slice false v u=operate [v,u] (ua v u)→cn (cx X.prog X.w) X.A (xi value slice v u) (EP X pins σ Q) X.xe s
noncomputable def MtR (X:Cx) (id:String) (r:V→List V→Hp→VK→Prop):Prop:=
 ∀(pins:List (Addr×Obj)) (s:ar) (σ:St) (H:Hp) (x:V) (xs:List V) (v:ag) (us:List ag) (Q:VK),Inv X pins σ H s→RelV x v→Vals xs us→r x xs H Q →
  cn (cx X.prog X.w) X.A (call (.builtin id) (v::us)) (EP X pins σ Q) X.xe s
section
variable {X:Cx}{a b:Expr}{ta tb:TE}{pos:Pos}
theorem T4 {r:R2} (hr:IxR X r) (ha:PE X a ta) (hb:PE X b tb) (hs:Br b):PE X (.Subscript a b pos) (tOp r ta tb):=by
 intro pins s σ H Q I h
 exact Subscript_ (ZM ha hb I h fun v u s2 x y H2 I2 rx ry q=>hr a b pins s2 σ H2 x y v u Q I2 rx ry q (hs _ _))
noncomputable def acJ (K:af):R2:=fun x y H Q=>∃p xs i v,x = .ref p∧y = .int i∧SqL K H p xs∧atI xs i=some v∧Q v H
noncomputable def acn (K:af):R2:=fun x y H Q=>∃p xs i v,x = .ref p∧y = .int i∧SqT K H p xs∧atI xs i=some v∧Q v H
theorem UJ:IxR X (acJ X.K):=by
 intro value slice pins s σ H x y v u Q I rx ry h hs
 obtain ⟨p,xs,i,z,rfl,rfl,hq,he,q⟩:=h
 cases rx
 obtain ⟨t,rfl⟩:=ry
 obtain ⟨its,r,pl,hz⟩:=I.list hq
 obtain ⟨j,h1,h2,h3,h4,h5⟩:=Jt he
 obtain ⟨w,ew,rw'⟩:=r.get h2
 have hl:=r.length
 have hn:=rZ
 have fin:EP X pins σ Q w s:=⟨z,H,I,rw',q⟩
 by_cases h0:0≤i
 · have hj:i.toNat=j:=by
    rw[seqIndex_of h0 h5] at h1
    exact Option.some.inj h1
   exact item_listR pl.isList h0 (by omega) (by rw[hj];simpa using ew) fin hs
 · have hj:(i+(its.toArray.size:Int)).toNat=j:=by
    rw[seqIndex_neg (by omega) h4] at h1
    rw[bE,← hl]
    exact Option.some.inj h1
   exact subscriptTail_builtinR (x:=w) pl.isList.typeIs slot_list_getitem.lookup
    (wpAny_getItem_list_neg (Q:=fun r s'=>r=w∧EP X pins σ Q r s') pl.isList (by omega) (by rw[bE] <;> omega) (by omega) (by rw[hj];simpa using ew) ⟨rfl,fin⟩) hs
theorem aao:IxR X (acn X.K):=by
 intro value slice pins s σ H x y v u Q I rx ry h hs
 obtain ⟨p,xs,i,z,rfl,rfl,hq,he,q⟩:=h
 cases rx
 obtain ⟨t,rfl⟩:=ry
 obtain ⟨its,r,pl,hz⟩:=I.tuple hq
 obtain ⟨j,h1,h2,h3,h4,h5⟩:=Jt he
 obtain ⟨w,ew,rw'⟩:=r.get h2
 have hl:=r.length
 have hn:=rZ
 have fin:EP X pins σ Q w s:=⟨z,H,I,rw',q⟩
 exact subscriptTail_builtinR (x:=w) pl.typeIs fw.lookup
  (getItem_tuple (j:=j) (Q:=fun r s'=>r=w∧EP X pins σ Q r s') pl (by omega) (by omega) (by rw[bE,← hl];exact h1) (by simpa using ew) ⟨rfl,fin⟩) hs
theorem Em (lo hi:Option Int) (n:Nat):(qv lo hi none n).1=((HT.sIx n 0 lo:Nat):Int)∧(qv lo hi none n).2.1=((HT.sIx n n hi:Nat):Int)∧(qv lo hi none n).2.2=1:=by
 refine ⟨?_,?_,rfl⟩
 · cases lo with
   | none=>simp[qv,HT.sIx]
   | some i=>
    simp only[qv,HT.sIx,Option.getD_none,show (1:Int) > 0 by decide,if_true]
    by_cases h:i < 0
    · simp only[h,if_true] <;> omega
    · simp only[h,if_false] <;> omega
 · cases hi with
   | none=>simp[qv,HT.sIx]
   | some i=>
    simp only[qv,HT.sIx,Option.getD_none,show (1:Int) > 0 by decide,if_true]
    by_cases h:i < 0
    · simp only[h,if_true] <;> omega
    · simp only[h,if_false] <;> omega
theorem DW (its:List ag) (lo hi:Option Int):slicePick its.toArray lo hi none=((its.drop (HT.sIx its.length 0 lo)).take (HT.sIx its.length its.length hi - HT.sIx its.length 0 lo)).toArray:=by
 obtain ⟨h1,h2,h3⟩:=Em lo hi its.toArray.size
 unfold slicePick
 rw[h1,h2,h3]
 simp only[sliceRange_one,pick_run,bE] <;> rfl
noncomputable def ZQ (K:af):V→Option Int→Option Int→Hp→VK→Prop:=fun x lo hi H Q=>∃a xs,x = .ref a∧SqL K H a xs∧∀p,H p=none→Q (.ref p) (upd H p (.lst (rJ xs lo hi)))
theorem Wv:SlR X (ZQ X.K):=by
 intro pins s σ H x v vl vu lo hi sl Q I rx hs pl pu h
 obtain ⟨a,xs,rfl,hx,q⟩:=h
 cases rx
 obtain ⟨its,r,ht,hz⟩:=I.list hx
 have hlen:=r.length
 refine ⟨"list",_,slot_list_getitem.lookup,ht.isList.typeIs,?_⟩
 refine wpAny_getItem_list_slice ht.isList hs pl pu .none (by simp) ?_ (by rw[bE] <;> omega)
 rw[DW,← hlen]
 refine ⟨.ref s.heap.objs.size,_,I.laid (t':=s.toks) (o:=.lst (rJ xs lo hi)) (fun b ob q=>aS _ q) (aE _) ?_,rfl,q _ (I.hok.fresh (aE _))⟩
 exact ⟨eR (xY xs lo hi) hz,_,0,(r.drop (HT.sIx xs.length 0 lo)).take (HT.sIx xs.length xs.length hi - HT.sIx xs.length 0 lo),d4 _ rfl⟩
theorem vU:dU X (.builtin "len") (fun xs H Q=>∃p ys,xs=[.ref p]∧(SqL X.K H p ys∨SqT X.K H p ys)∧Q (.int ys.length) H):=by
 intro pins s σ H xs us Q I r h
 obtain ⟨p,ys,rfl,hq,q⟩:=h
 obtain ⟨u,rfl,rx⟩:=vals1 r
 cases rx
 have hn:=rZ
 rcases hq with hq | hq
 · obtain ⟨its,r',pl,hz⟩:=I.list hq
   have hlen:=r'.length
   exact Calls.call_len_list pl.isList (by simp only[bE] <;> omega) ⟨.int ys.length,H,I.tok _,⟨s.toks+1,by rw[bE,hlen]⟩,q⟩
 · obtain ⟨its,r',pl,hz⟩:=I.tuple hq
   have hlen:=r'.length
   exact len_tuple pl (by simp only[bE] <;> omega) ⟨.int ys.length,H,I.tok _,⟨s.toks+1,by rw[bE,hlen]⟩,q⟩
theorem Gy:dU X (.builtin "len") (fun xs H Q=>∃z,xs=[.str z]∧z.length≤bg∧Q (.int z.length) H):=by
 intro pins s σ H xs us Q I r h
 obtain ⟨z,rfl,hz,q⟩:=h
 obtain ⟨u,rfl,t,rfl⟩:=vals1 r
 have hn:=rZ
 exact len_str (by omega) ⟨.int z.length,H,I.tok _,⟨_,rfl⟩,q⟩
theorem v7:dU X (.type "list") (fun xs H Q=>∃p ys,xs=[.ref p]∧(SqL X.K H p ys∨SqT X.K H p ys)∧∀l,H l=none→Q (.ref l) (upd H l (.lst ys))):=by
 intro pins s σ H xs us Q I r h
 obtain ⟨p,ys,rfl,hq,q⟩:=h
 obtain ⟨u,rfl,rx⟩:=vals1 r
 cases rx
 have fin:∀(its:List ag),Vals ys its→ys.length≤bg→∀(h':Heap) (c':Nat),(∀b o',s.heap.get? b=some o'→h'.get? b=some o') →
  h'.get? s.heap.objs.size=some { cls:=.type "list",dict:=none,data:=.seq its.toArray c',slots:=#[] }→EP X pins σ Q (.ref s.heap.objs.size) { s with heap:=h' }:=fun its r' hz h' c' kp e=>
  ⟨.ref s.heap.objs.size,_,I.laid (t':=s.toks) kp (aE _) (show dF X.prog X.w _ h' _ (.lst ys) from ⟨hz,its,c',r',e⟩),rfl,q _ (I.hok.fresh (aE _))⟩
 rcases hq with hq | hq
 · obtain ⟨its,r',pl,hz⟩:=I.list hq
   have hlen:=r'.length
   obtain ⟨o,ho,hc,n,hd⟩:=pl.isList
   exact call_list_seq p (.inl rfl) ho hc hd (fun h' c' kp e=>fin its r' hz h' c' kp e) (by simp only[bE] <;> omega)
 · obtain ⟨its,r',pl,hz⟩:=I.tuple hq
   have hlen:=r'.length
   obtain ⟨o,ho,hc,n,hd⟩:=pl
   exact call_list_seq p (.inr rfl) ho hc hd (fun h' c' kp e=>fin its r' hz h' c' kp e) (by simp only[bE] <;> omega)
theorem uW:dU X (.type "tuple") (fun xs H Q=>∃p ys,xs=[.ref p]∧((SqL X.K H p ys∧∀l,H l=none→Q (.ref l) (upd H l (.tup ys)))∨(SqT X.K H p ys∧Q (.ref p) H))):=by
 intro pins s σ H xs us Q I r h
 obtain ⟨p,ys,rfl,h⟩:=h
 obtain ⟨u,rfl,rx⟩:=vals1 r
 cases rx
 rcases h with ⟨hq,q⟩ | ⟨hq,q⟩
 · obtain ⟨its,r',pl,hz⟩:=I.list hq
   have hlen:=r'.length
   refine call_tuple_list pl.isList (fun h' kp=>?_) (by simp only[bE] <;> omega)
   have I1:Inv X pins σ H { s with heap:=h' }:=I.kept (t':=s.toks) kp
   have I2:Inv X pins σ (upd H h'.objs.size (.tup ys)) { s with heap:=h'.push { cls:=.type "tuple",data:=.seq its.toArray } }:=
    I1.laid (t':=s.toks) (fun b o e=>aS _ e) (aE _) (show dF X.prog X.w _ _ _ (.tup ys) from ⟨hz,its,r',uS.new _ _⟩)
   exact ⟨.ref h'.objs.size,_,I2,rfl,q _ (I1.hok.fresh (aE _))⟩
 · obtain ⟨its,r',pl,hz⟩:=I.tuple hq
   exact call_tuple_same pl ⟨.ref p,H,I,rfl,q⟩
noncomputable def tyV (K:af) (T:String) (x:V) (H:Hp):Prop:=match x with
 | .str _=>T = "str"
 | .int _=>T = "int"
 | .ref p=>(T = "list" ∧ ∃xs,SqL K H p xs)∨(T = "tuple" ∧ ∃o,K.lookup p=some o∧o.cls = .type "tuple" ∧ o.dict=none) ∨
  (T = "dict" ∧ ((∃kvs,H p=some (.dK kvs))∨∃kvs,H p=some (.dT kvs)))∨(T = "set" ∧ ∃S n,H p=some (.set S n))
 | _=>False
theorem MK {pins:List (Addr×Obj)}{σ:St}{H:Hp}{s:ar}{T:String}{x:V}{v:ag} (I:Inv X pins σ H s) (r:RelV x v) (ty:tyV X.K T x H) :
 s.TypeIs v T∧∀a,v = .ref a→∃ob,s.heap.get? a=some ob∧ob.dict=none:=by
 cases x with
 | str z=>
  obtain ⟨t,rfl⟩:=r
  cases (show T = "str" from ty)
  exact ⟨typeIs_str s z t,fun _ e=>nomatch e⟩
 | int i=>
  obtain ⟨t,rfl⟩:=r
  cases (show T = "int" from ty)
  exact ⟨typeIs_int s i t,fun _ e=>nomatch e⟩
 | ref p=>
  cases r
  rcases ty with ⟨rfl,xs,hq⟩ | ⟨rfl,o,hk,hc,hd⟩ | ⟨rfl,hk⟩ | ⟨rfl,S,n,hk⟩
  · obtain ⟨its,_,pl,_⟩:=I.list hq
    refine ⟨pl.isList.typeIs,fun a e=>?_⟩
    cases e
    obtain ⟨o,n,e,c,hd,_⟩:=pl
    exact ⟨o,e,hd⟩
  · refine ⟨⟨o,I.kIn p o hk,hc⟩,fun a e=>?_⟩
    cases e
    exact ⟨o,I.kIn _ o hk,hd⟩
  · have z:∃o,s.heap.get? p=some o∧o.ExactDict:=by
     rcases hk with ⟨kvs,hk⟩ | ⟨kvs,hk⟩
     · obtain ⟨_,_,_,_,o,_,_,e,ex,_⟩:=I.hok p _ hk
       exact ⟨o,e,ex⟩
     · obtain ⟨_,_,_,_,o,_,_,e,ex,_⟩:=I.hok p _ hk
       exact ⟨o,e,ex⟩
    obtain ⟨o,e,ex⟩:=z
    refine ⟨⟨o,e,ex.1⟩,fun a e2=>?_⟩
    cases e2
    exact ⟨o,e,ex.2.1⟩
  · obtain ⟨o,_,_,_,e,ex,_⟩:=I.hok p _ hk
    refine ⟨⟨o,e,ex.1⟩,fun a e2=>?_⟩
    cases e2
    exact ⟨o,e,ex.2.1⟩
 | _=>exact kT ty
noncomputable def aez (K:af) (T:String) (r:V→List V→Hp→VK→Prop) (to:TE):TE:=fun σ H Q=>to σ H fun x H1=>tyV K T x H1∧r x [] H1 Q
noncomputable def tBM (K:af) (T:String) (r:V→List V→Hp→VK→Prop) (to:TE) (t:TA):TE:=fun σ H Q=>to σ H fun x H1=>tyV K T x H1∧t σ H1 fun xs H2=>r x xs H2 Q
variable {o e:Expr}{es:List Expr}{to:TE}{t:TA}{name:Str}{apos cpos:Pos}{T id:String}{r:V→List V→Hp→VK→Prop}
theorem O8 (pa:PlainAttrs T) (slot:Slot T name id) (hty:typeOf (.builtin id)=pure (.type "method_descriptor")) (hm:MtR X id r) (ho:PE X o to)
 (hbase:jS o name X.env (eval o X.env)=eval o X.env:=by rfl) (hline:(apos.endLine == cpos.line)=true:=by rfl):PE X (.Call (.Attribute o name apos) [] [] cpos) (aez X.K T r to):=by
 intro pins s σ H Q I h
 refine wpAny_Call_method0_late hbase hline (thn (ho pins s σ H _ I h) fun v s1 ao=>?_)
 obtain ⟨x,H1,I1,r1,ty,q1⟩:=ao
 obtain ⟨h1,h2⟩:=MK I1 r1 ty
 exact ⟨T,id,pa,slot,hty,h1,h2,lj rfl (PySem.evalArgs_none (hm pins s1 σ H1 x [] v [] Q I1 r1 .nil q1))⟩
theorem Lq (pa:PlainAttrs T) (slot:Slot T name id) (hty:typeOf (.builtin id)=pure (.type "method_descriptor")) (hm:MtR X id r) (ho:PE X o to) (ha:PA X (e::es) t)
 (hbase:jS o name X.env (eval o X.env)=eval o X.env:=by rfl)
 (hfew:((lI cpos (d5 (e::es) X.env)).all (fun x=>!x.1)&&(zv cpos (sL [] X.env)).all (fun x=>x.1.isSome)
  && decide ((e::es).length+([]:List qc).length+(if ([]:List qc).isEmpty then 0 else 1) < 30))=true:=by rfl)
 (hline:(apos.endLine == cpos.line)=true:=by rfl) (hs:d5 (e::es) X.env=(false,eval e X.env)::d5 es X.env:=by rfl) (hplain:(lI cpos (d5 es X.env)).any (·.1)=false:=by rfl) :
 PE X (.Call (.Attribute o name apos) (e::es) [] cpos) (tBM X.K T r to t):=by
 intro pins s σ H Q I h
 refine wpAny_Call_method_late hbase hfew hline rfl (thn (ho pins s σ H _ I h) fun v s1 ao=>?_)
 obtain ⟨x,H1,I1,r1,ty,q1⟩:=ao
 obtain ⟨h1,h2⟩:=MK I1 r1 ty
 refine ⟨T,id,pa,slot,hty,h1,h2,?_⟩
 have hA:=ha cpos pins s1 σ H1 _ I1 q1
 rw[hs] at hA ⊢
 refine lj (by show (false||(lI cpos (d5 es X.env)).any (·.1))=false;rw[hplain] <;> rfl) (oq ?_)
 exact thn hA fun us s2 ⟨vs,H2,I2,r2,q2⟩=>hm pins s2 σ H2 x vs v us Q I2 r1 r2 q2
end
noncomputable def MtM (X:Cx) (id:String) (r:V→List V→Hp→VK→Prop):Prop:=
 ∀(pins:List (Addr×Obj)) (s:ar) (σ:St) (H:Hp) (x:V) (xs:List V) (v:ag) (us:List ag) (Q:VK),Inv X pins σ H s→RelV x v→Vals xs us→r x xs H Q →
  cn (cx X.prog X.w) X.A (call (.builtin id) (v::us)) (EP X pins σ Q) X.xe s
theorem Vals.one {x:V}{us:List ag} (h:Vals [x] us):∃u,us=[u]∧RelV x u:=by
 cases h with
 | cons r t=>cases t;exact ⟨_,rfl,r⟩
theorem Vals.two {x y:V}{us:List ag} (h:Vals [x,y] us):∃u v,us=[u,v]∧RelV x u∧RelV y v:=by
 cases h with
 | cons r t=>
  cases t with
  | cons q t=>cases t;exact ⟨_,_,rfl,r,q⟩
theorem Vals.zero:∀{us:List ag},Vals [] us→us=[]
 | _,.nil=>rfl
theorem Vals.dropLast {xs:List V}{us:List ag} (h:Vals xs us):Vals xs.dropLast us.dropLast:=by
 induction h with
 | nil=>exact .nil
 | cons r t ih=>
  cases t with
  | nil=>exact .nil
  | cons q t'=>exact .cons r ih
theorem Vals.rep {xs:List V}{us:List ag} (h:Vals xs us):∀k:Nat,Vals (cK k xs).flatten (cK k us).flatten
 | 0=>.nil
 | k+1=>by
  rw[hX,hX,kR,kR]
  exact Vals.append h (Vals.rep h k)
theorem KD {α:Type} (l:List α):l.eraseIdx (l.length - 1)=l.dropLast:=by
 induction l with
 | nil=>rfl
 | cons a r ih=>
  cases r with
  | nil=>rfl
  | cons b r=>
   have e:(a::b::r).length - 1=((b::r).length - 1)+1:=by
    have h1:(a::b::r).length=r.length+2:=rfl
    have h2:(b::r).length=r.length+1:=rfl
    omega
   rw[e,List.eraseIdx_cons_succ,ih]
   all_goals rfl
theorem foldl_rep (its:List ag):∀(k:Nat) (acc:List ag),
 AI (fun x1 x2=>x1++x2) acc.toArray (cK k its.toArray)=(acc++(cK k its).flatten).toArray
 | 0,acc=>by simp
 | k+1,acc=>by
  have e:acc.toArray++its.toArray=(acc++its).toArray:=by simp
  have e2:(acc++its)++(cK k its).flatten=acc++(cK (k+1) its).flatten:=by
   rw[hX,kR,eS]
  rw[← e2,← foldl_rep its k (acc++its),← e,hX,nX]
section
variable {X:Cx}{pins:List (Addr×Obj)}{σ:St}{H:Hp}{s:ar}{l b:Addr}{xs ys zs:List V}
theorem Inv.Gu {its its':List ag}{n:Nat}{f:Array ag→Array ag}{t':Nat} (I:Inv X pins σ H s) (hH:H l=some (.lst xs))
 (e:s.heap.get? l=some { cls:=.type "list",data:=.seq its.toArray n }) (hf:f its.toArray=its'.toArray) (hv:Vals ys its') (hz:ys.length≤bg) :
 Inv X pins σ (upd H l (.lst ys)) { s with heap:=s.heap.update l (ot f),toks:=t' }:=by
 have q:=PySem.IsL.update e f
 rw[hf] at q
 refine I.write (x:=l) (e:=l) (by rw[hH];exact trivial) (.inl rfl) (fun b' u hb hu=>(Heap.get?_update_other s.heap (ot f) (oP hb)).trans hu) ⟨_,q⟩ ?_
 exact ⟨hz,its',_,hv,q⟩
theorem Inv.aaA {its:List ag}{t':Nat} (I:Inv X pins σ H s) (hv:Vals ys its) (hz:ys.length≤bg) :
 Inv X pins σ (upd H s.heap.objs.size (.lst ys)) { s with heap:=s.heap.push { cls:=.type "list",data:=.seq its.toArray },toks:=t' }:=
 I.laid (fun _ _ q=>aS _ q) (aE _) ⟨hz,its,0,hv,d4 _ rfl⟩
theorem Inv.fresh (I:Inv X pins σ H s):H s.heap.objs.size=none:=I.hok.fresh (aE _)
theorem Inv.FQ (I:Inv X pins σ H s) (hH:H l=some (.lst xs)):xs.length≤bg∧∃(its:List ag) (n:Nat),Vals xs its∧xs.length=its.length∧s.heap.get? l=some { cls:=.type "list",data:=.seq its.toArray n }:=by
 obtain ⟨z,its,n,r,e⟩:=I.hok l _ hH
 exact ⟨z,its,n,r,r.length,e⟩
theorem Hb {n:Nat} (h:n≤bg):ij n=false:=by
 unfold ij
 exact decide_eq_false (by omega)
end
section
variable {X:Cx}
noncomputable def Ws:V→List V→Hp→VK→Prop:=fun x vs H Q=>∃l xs y,x = .ref l∧vs=[y]∧H l=some (.lst xs)∧xs.length < bg∧Q .non (upd H l (.lst (xs++[y])))
theorem Df:MtM X "list.append" Ws:=by
 intro pins s σ H x vs v us Q I rx rv h
 obtain ⟨l,xs,y,rfl,rfl,hH,hz,q⟩:=h
 cases rx
 obtain ⟨u,rfl,ru⟩:=rv.one
 obtain ⟨z,its,n,r,hl,e⟩:=I.FQ hH
 refine ve F.slot_list_append ⟨_,e,rfl⟩ F.entry_list_append (F.args_list_append_2 _ _) (PySem.list_append l its.toArray n u (by rw[bE];omega)) ⟨e,?_⟩
 refine ⟨.non,_,I.Gu (its':=its++[u]) hH e (by simp) (r.append (.cons ru .nil)) ?_,rfl,q⟩
 rw[aw,eP]
 omega
noncomputable def acX:V→List V→Hp→VK→Prop:=fun x vs H Q=>∃l xs y,x = .ref l∧vs=[]∧H l=some (.lst xs)∧xs[xs.length - 1]?=some y∧Q y (upd H l (.lst xs.dropLast))
theorem ZS:MtM X "list.pop" acX:=by
 intro pins s σ H x vs v us Q I rx rv h
 obtain ⟨l,xs,y,rfl,rfl,hH,hy,q⟩:=h
 cases rx
 have hus:=rv.zero
 subst hus
 obtain ⟨z,its,n,r,hl,e⟩:=I.FQ hH
 obtain ⟨u,hu,ru⟩:=r.get hy
 have hy':its.toArray[its.toArray.size - 1]?=some u:=by
  show its.toArray[its.length - 1]?=some u
  rw[← rS,← hl]
  exact hu
 refine ve F.slot_list_pop ⟨_,e,rfl⟩ F.entry_list_pop (F.args_list_pop_1 _) (MeetsSeq.list_pop_last l its.toArray n u hy' (by rw[bE];omega)) ⟨e,?_⟩
 refine ⟨y,_,I.Gu (its':=its.dropLast) hH e ?_ r.dropLast ?_,ru,q⟩
 · show its.toArray.eraseIdxIfInBounds (its.toArray.size - 1)=its.dropLast.toArray
   rw[bE,List.eraseIdxIfInBounds_toArray,KD]
 · rw[List.length_dropLast]
   omega
noncomputable def aab:V→List V→Hp→VK→Prop:=fun x vs H Q=>∃l xs,x = .ref l∧vs=[]∧H l=some (.lst xs)∧Q .non (upd H l (.lst []))
theorem Q5:MtM X "list.clear" aab:=by
 intro pins s σ H x vs v us Q I rx rv h
 obtain ⟨l,xs,rfl,rfl,hH,q⟩:=h
 cases rx
 have hus:=rv.zero
 subst hus
 obtain ⟨z,its,n,r,hl,e⟩:=I.FQ hH
 refine ve F.slot_list_clear ⟨_,e,rfl⟩ F.entry_list_clear (F.args_list_clear_1 _) (AutoSeq1.list_clear_list_0 l its.toArray n (by rw[bE];omega)) ⟨e,?_⟩
 exact ⟨.non,_,I.Gu (its':=[]) (ys:=[]) hH e rfl .nil (iE _),rfl,q⟩
theorem len_rep {α:Type} (xs:List α) (k:Nat):(cK k xs).flatten.length=k*xs.length:=by
 induction k with
 | zero=>simp
 | succ k ih=>rw[hX,kR,aw,ih,yY,Nat.add_comm]
end
section
variable {prog:cc}{w:eK}{A:eI}{E:ag→ar→Prop}{s:ar}
end
section
variable {X:Cx}
end
end L2
namespace Att
open PySem PySem.W PySem.Calls PyProof.Rows
theorem yS {P:Params}{h:Heap}:∀(ns:List Int) (vs:List ag),WellAll P h vs (ns.map WData.int)→sm vs ns:=by
 intro ns
 induction ns with
 | nil=>
  intro vs w
  rw[oS] at w
  cases w
  exact .nil
 | cons n ns ih=>
  intro vs w
  rw[dy] at w
  cases w with
  | cons a b=>
   cases a
   exact .cons _ _ (ih _ b)
theorem O7 {l:sM}{n:Nat} (hn:l.most=some n) {P:Params}{h:Heap}{args:List WData}{vals:List ag}
 (hpre:l.row.toRowW.claim.pre args=true) (hwl:WellAll P h vals args) :
 ∃a vs ns,vals=[eL a]∧args=[WData.list (ns.map WData.int)]∧h.get? a=some { cls:=.type "list",data:=.seq vs.toArray }∧sm vs ns∧ns.length≤n:=by
 have hsh:WShape.hasAll [] args [.list .int]=true:=(pre_splitW hpre).1
 have hc:l.pre.holds [] { args:=args }=true:=(pre_splitW hpre).2
 obtain ⟨d,r,rfl,h1,h2⟩:=hasAllW_cons hsh
 obtain rfl:=hasAllW_nil h2
 obtain ⟨xs,rfl,h3⟩:=hasW_list h1
 obtain ⟨ns,rfl⟩:=items_int h3
 have hlen:ns.length≤n:=by
  unfold OpenLaw.pre at hc
  have h4:(WTm.not (.lt (.lit (.int (n:Int))) (.len (.arg 0)))).holds [] { args:=[.list (ns.map .int)] }=true:=by
   have h4:=(holds_andW hc).1
   rw[hn] at h4
   exact h4
  have h5:=condW_of h4 (w_not (w_lt w_lit (w_len_list (w_arg rfl))))
  rw[av] at h5
  refine kF fun q=>?_
  have q':(n:Int) < ((ns.length:Nat):Int):=by omega
  first
   | (rw[decide_eq_true q'] at h5;exact absurd h5 (by decide))
   | (simp at h5;omega)
 cases hwl with
 | cons w1 w2=>
  cases w2
  cases w1 with
  | list ho hall=>exact ⟨_,_,ns,rfl,rfl,ho,yS ns _ hall,hlen⟩
theorem Qc (l:sM) (args:List WData):l.row.toRowW.claim.post args (.bool true) args=true:=
 postW_of (r:=l.row.toRowW) (X:=(true == true))
  (show WShape.has [] (.bool true) .bool=true by first | rfl | decide | simp[WShape.has,WShape.arms,WShape.armsAll])
  (show (WTm.eq .res (.lit (.bool true))).value [] { args:=args,res:=some (.bool true),after:=args }=some (.bool (true == true)) from w_eq_bool (w_res rfl) w_lit) rfl
theorem Hw {l:sM}{n:Nat}{q:cc}{loose:List Str}{XP:(Str→Option ag)→Heap→Prop}{YP:eK→Heap→Prop}{d:DefRec}
 (hn:l.most=some n) (hdf:d.params.defaults=[])
 (call:∀(w:eK) (s₀ s₁:ar) (mg mb:Str→Option ag) (fa:Addr) (o:Obj) (pm cd doc:ag) (a:Addr) (vs:List ag) (ns:List Int),
  Ground q loose [] XP w s₀ mg mb s₁.heap→YP w s₁.heap →
  s₁.heap.get? fa=some o→o.data = .func (docDef d.name d.params d.body d.scope pm cd doc)→s₁.heap.CodeRec cd d.name→mg d.name=some (.ref fa) →
  s₁.heap.get? a=some { cls:=.type "list",data:=.seq vs.toArray }→sm vs ns→ns.length≤n→s₁.gens=#[] →
  wb (cx l.prog w) Au (.call (.ref fa) ⟨[.ref a],[]⟩) (fun r s'=>r = .ok (.ret (.bool true))∧OldK s₁.heap s'.heap∧s'.os=s₁.os∧t9 s'.gens) s₁) :
 WalkO q loose XP YP l.row.toRowW d [] (fun f vs=>PySem.call f vs):=by
 intro w s₀ s₁ mg mb G Y fa o pm cd doc dV kV ho hd hcd hD hmg hg args vals as hpre hlay hrd hwl hlo
 obtain rfl:dV = .none:=Dflts.none hD hdf
 obtain rfl:kV = .none:=Dflts.noKw hD
 obtain ⟨a,vs,ns,rfl,rfl,hobj,hints,hlen⟩:=O7 hn hpre hwl
 refine enter_call (yv (call w s₀ s₁ mg mb fa o pm cd doc a vs ns G Y ho (fd_plain hd) hcd hmg hobj hints hlen hg) fun r s' hq=>?_)
 obtain ⟨rfl,h2,h3,h4⟩:=hq
 exact ⟨.inl ⟨.bool true,.bool true,[],rfl,fun _=>rfl,.bool true,Qc l _,fun _=>⟨List.Pairwise.nil,fun _ hm=>(nomatch hm)⟩⟩,h2,h3,h4⟩
section
variable {prog:cc}{w:eK}{A:eI}{E:ag→ar→Prop}{s:ar}{K:Frag}
end
end Att
namespace L2
open PySem PySem.Spec PyProof.Rows
theorem Cm:∀{vs:List ag}{ns:List Int},sm vs ns→Vals (ns.map V.int) vs
 | _,_,.nil=>.nil
 | _,_,.cons n t h=>.cons ⟨t,rfl⟩ (Cm h)
noncomputable def aR (s:Stmt):uu:=match s with
 | .FunctionDef _ a _ _ _ _ _ _ _ _=>a
 | _=>{ posonlyargs:=[],args:=[],vararg:=none,kwonlyargs:=[],kw_defaults:=[],kwarg:=none,defaults:=[] }
noncomputable def aP (s:Stmt):List Stmt:=match s with
 | .FunctionDef _ _ b _ _ _ _ _ _ _=>b
 | _=>[]
noncomputable def az (s:Stmt):nk:=match s with
 | .FunctionDef _ _ _ _ _ _ sc _ _ _=>sc
 | _=>{ kind:=.function,names:=[],isGenerator:=false,isCoroutine:=false }
noncomputable abbrev CX0:CXT:=fun _ _ _ _ _ _=>False
noncomputable abbrev E0:XK:=fun _ _ _=>False
theorem aa8 {X:Cx}:Passes CX0 X E0:=fun _ _ _ _ _ _ _ h=>h.elim
structure Fun (K:af) (x qual:Str) (st:Stmt) (f:Addr) (fd:mm):Prop where
 ex:∃(oc:ag) (od:Option Addr) (kV doc pm:ag) (an:Option Addr) (cdv ct:ag) (osl:Array (Option ag)),
  fd=b9 x qual (aR st) (aP st) (az st) .none kV doc pm an cdv ct∧K.lookup f=some ⟨oc,od,.func fd,osl⟩∧dE K cdv qual=true
 kp:cS K (.ref f)=true
section
variable {P:cc}{w:eK}{K:af}{mg:Str→Option ag}{base:Heap}
theorem Fun.ok {x qual:Str}{st:Stmt}{f:Addr}{fd:mm}{N ps:List Str}{k:Nat}{sp:Sp} (F:Fun K x qual st f fd) (S:bc N ps (az st)) (len:∀vs H Q E,sp vs H Q E→vs.length=ps.length)
 (hbody:∀(cdv:ag) (A:eI) (outer:List Env) (s:ar) (H:Hp) (vs:List V) (Q:VK) (E:XK),cJ k (A.deeper (kP qual (az st) s.heap.objs.size f cdv))→sp vs H Q E →
  ∃t,PSs (lX CX0 P w K mg base N qual (az st) f cdv A outer s H E).nox (aP st) t∧t { nx:=fun _ H'=>Q .non H',rt:=Q } (start N vs) H):n8 P w K mg base CX0 (k+1) f fd ps sp:=by
 obtain ⟨oc,od,kV,doc,pm,an,cdv,ct,osl,rfl,lk,hcd⟩:=F.ex
 refine Ly lk hcd S len fun A outer s H vs Q E hr hsp=>?_
 obtain ⟨t,h,q⟩:=hbody cdv A outer s H vs Q E hr hsp
 exact ⟨t,h.nox,q⟩
theorem Fun.binds {x qual:Str}{st:Stmt}{f:Addr}{fd:mm}{ps:List Str} (F:Fun K x qual st f fd)
 (h:∀(kV doc pm:ag) (an:Option Addr) (cdv ct:ag) (us:List ag),us.length=ps.length→kN (b9 x qual (aR st) (aP st) (az st) .none kV doc pm an cdv ct) ⟨us,[]⟩=pure (ps.zip us)):Binds K fd ps []:=by
 obtain ⟨oc,od,kV,doc,pm,an,cdv,ct,osl,rfl,lk,hcd⟩:=F.ex
 exact .all (h kV doc pm an cdv ct)
theorem Hk {x qual:Str}{st:Stmt}{f:Addr}{oc:ag}{od an:Option Addr}{osl:Array (Option ag)}{kV doc pm cdv ct:ag} (l:K.lookup f=some ⟨oc,od,.func (b9 x qual (aR st) (aP st) (az st) .none kV doc pm an cdv ct),osl⟩)
 (c:dE K cdv qual=true) (k:cS K (.ref f)=true):Fun K x qual st f (b9 x qual (aR st) (aP st) (az st) .none kV doc pm an cdv ct):=⟨⟨oc,od,kV,doc,pm,an,cdv,ct,osl,rfl,l,c⟩,k⟩
end
section
variable {X:Cx}
end
theorem wB {A B:Prop} (h:B):if false=true then A else B:=by
 rw[if_neg i6]
 exact h
theorem wJ {A B:Prop} (h:A):if true=true then A else B:=by
 rw[if_pos rfl]
 exact h
noncomputable def aC (H H':Hp):Prop:=∀b o,H b=some o→H' b=some o
theorem aC.refl (H:Hp):aC H H:=fun _ _ h=>h
theorem aC.trans {H H1 H2:Hp} (a:aC H H1) (b:aC H1 H2):aC H H2:=fun c o h=>b c o (a c o h)
theorem aC.free {H H':Hp} (e:aC H H') {l:Addr} (h:H' l=Option.none):H l=Option.none:=by
 cases q:H l with
 | none=>rfl
 | some o=>
  rw[e l o q] at h
  cases h
theorem aC.seq {K:af}{H H':Hp}{a:Addr}{xs:List V} (e:aC H H') (h:SqL K H a xs):SqL K H' a xs:=by
 rcases h with (h | ⟨o,h⟩) | h
 · exact .inl (.inl (e _ _ h))
 · exact .inl (.inr ⟨o,e _ _ h⟩)
 · exact .inr h
end L2
set_option maxHeartbeats 4000000
namespace L2
open PySem PySem.Spec PyProof.Rows
noncomputable def Cx.comp (X:Cx) (scope:nk) (tn:List Str) (ix:List Nat) (cl:List (Str×Addr)) (C:Addr) (s₂:ar) (H₂:Hp) (fp:List Addr):Cx where
 prog:=X.prog
 w:=X.w
 K:=X.K
 mg:=X.mg
 base:=X.base
 A:=X.A
 N:=tn++ix.map fun i=>X.N.getD i Str.empty
 s₀:=s₂
 H₀:=H₂
 env:=compEnvC scope cl C X.env
 outer:=X.stack
 stack:=X.stack
 ex:=fp
 fn:=fun x=>scope.names.lookup x == some .cell
 calm:=X.calm
 pn:=[]
 xe:=fun _ _=>False
noncomputable def sU (tn:List Str) (ix:List Nat) (σ:St):St:=cK tn.length none++ix.map fun i=>(σ[i]?).join
noncomputable def pH (X:Cx) (ifs:List Expr) (t:TT):Prop:=
 ∀(pins:List (Addr×Obj)) (s:ar) (σ:St) (H:Hp) (Q:Bool→Hp→Prop),Inv X pins σ H s→t σ H Q →
  cn (cx X.prog X.w) X.A (forIn ifs true fun c r=>if r=true then do let ok ← AG c X.env (eval c X.env);pure (i5 ok) else pure (i5 r)) (TP X pins σ Q) X.xe s
noncomputable def adU:TT:=fun _ H Q=>Q true H
theorem Tg {X:Cx}:pH X [] adU:=fun _ _ _ H _ I h=>wpAny_tests_nil ⟨H,I,h⟩
theorem Qx {X:Cx}{c:Expr}{t:TT} (h:PT X c t):pH X [c] t:=fun pins s σ H Q I q=>wpAny_tests_one (h pins s σ H Q I q)
noncomputable def Z1 (tn:List Str) (ix:List Nat) (g:TG) (tt:TT) (te:TE) (σ:St) (Q:VK) (J:It) (H1:Hp):Prop:=∀D,H1 D=none →
 ∃W:Nat→Nat→St→List V→Hp→Prop,(∃m,W 0 m (sU tn ix σ) [] (upd H1 D (.lst [])))∧∀i m σb acc H2,W i m σb acc H2→H2 D=some (.lst acc) ∧
  ((
   J.stop i H2∧Q (.ref D) H2)∨(J.go i H2∧acc.length < bg∧∀x H3,J.yld i H2 x H3→g x σb H3 fun σ4 H4=>tt σ4 H4 fun b H5=>
   if b=true then te σ4 H5 fun v H6=>H6 D=some (.lst acc)∧∃m',m' < m∧W (i+1) m' σ4 (acc++[v]) (upd H6 D (.lst (acc++[v]))) else ∃m',m' < m∧W (i+1) m' σ4 acc H5))
noncomputable def zq (tn:List Str) (ix:List Nat) (wi:TI) (g:TG) (tt:TT) (te:TE):TE:=fun σ H Q=>wi σ H (Z1 tn ix g tt te σ Q)
theorem Dv {scope:nk}{env:Env} (h:∀x∈scope.names,x.2 = .free→∃c,env.cells.lookup x.1=some c) :
 ∃cl,vi scope env=pure cl∧(∀x c,cl.lookup x=some c→env.cells.lookup x=some c)∧∀x∈scope.names,x.2 = .free→∃c,cl.lookup x.1=some c:=by
 have all:∀(l:List (Str×fR)) (acc:List (Str×Addr)),(∀x∈l,x.2 = .free→∃c,env.cells.lookup x.1=some c)→(∀x c,acc.lookup x=some c→env.cells.lookup x=some c) →
  ∃cl,(forIn l acc fun (x:Str×fR) (r:List (Str×Addr))=>(if (x.2 == fR.free)=true then (do let a ← cellOf env x.1;pure (i5 ((x.1,a)::r))) else pure (i5 r):Sem (ForInStep (List (Str×Addr)))))=pure cl ∧
   (∀x c,cl.lookup x=some c→env.cells.lookup x=some c)∧(∀x∈l,x.2 = .free→∃c,cl.lookup x.1=some c)∧∀x,(∃c,acc.lookup x=some c)→∃c,cl.lookup x=some c:=by
  intro l
  induction l with
  | nil=>intro acc _ ha;exact ⟨acc,rfl,ha,fun x hx=>absurd hx (by simp),fun x hx=>hx⟩
  | cons y r ih=>
   intro acc hl ha
   obtain ⟨n,k⟩:=y
   by_cases hk:k = .free
   · subst hk
     obtain ⟨c,hc⟩:=hl (n,.free) (by simp) rfl
     have ha':∀x c',we x ((n,c)::acc)=some c'→env.cells.lookup x=some c':=fun x c' e=>by
      rw[kG] at e
      cases hx:x == n with
      | true=>
       rw[hx] at e
       have e1:x=n:=beq_iff_eq.mp hx
       cases e
       rw[e1]
       exact hc
      | false=>rw[hx] at e;exact ha x c' e
     obtain ⟨cl,e1,e2,e3,e4⟩:=ih ((n,c)::acc) (fun x hx=>hl x (bq _ hx)) ha'
     have ec:cellOf env n=pure c:=by unfold cellOf;rw[hc]
     refine ⟨cl,?_,e2,fun x hx hf=>?_,fun x ⟨c',hc'⟩=>?_⟩
     · rw[kU]
       simp only[ec,beq_self_eq_true,if_true,pure_bind]
       exact e1
     · rcases de.mp hx with rfl | hx
       · exact e4 n ⟨c,by simp⟩
       · exact e3 x hx hf
     · refine e4 x ?_
       rw[kG]
       cases x == n with
       | true=>exact ⟨c,rfl⟩
       | false=>exact ⟨c',hc'⟩
   · have hb:(k == fR.free)=false:=by simpa using hk
     obtain ⟨cl,e1,e2,e3,e4⟩:=ih acc (fun x hx=>hl x (bq _ hx)) ha
     refine ⟨cl,?_,e2,fun x hx hf=>?_,e4⟩
     · rw[kU]
       simp only[hb,fF,if_false,pure_bind]
       exact e1
     · rcases de.mp hx with rfl | hx
       · exact absurd hf hk
       · exact e3 x hx hf
 obtain ⟨cl,e1,e2,e3,_⟩:=all scope.names [] h (fun x c e=>by simp at e)
 refine ⟨cl,?_,e2,e3⟩
 unfold vi
 refine Eq.trans (b:=forIn scope.names ([]:List (Str×Addr)) _ >>= pure) rfl ?_
 have e0:=congrArg (· >>= (pure:List (Str×Addr)→Sem (List (Str×Addr)))) e1
 first
  | (simp only[pure_bind] at e0;exact e0)
  | exact e0.trans (pure_bind _ _)
theorem mO {env:Env}:∀{names:List (Str×fR)}{x:Str},names.lookup x=some .free →
 (names.map fun (n,k)=>if (k == fR.free&&env.scope.kind == .function&&env.kindOf n == some .cell) then (n,fR.cell) else (n,k)).lookup x=some .cell ∨
 (names.map fun (n,k)=>if (k == fR.free&&env.scope.kind == .function&&env.kindOf n == some .cell) then (n,fR.cell) else (n,k)).lookup x=some .free
 | [],_,h=>by simp at h
 | (n,k)::r,x,h=>by
  have ih:=@mO env r x
  show we x ((if (k == fR.free&&env.scope.kind == .function&&env.kindOf n == some .cell)=true then (n,fR.cell) else (n,k))::_)=_∨we x ((if (k == fR.free&&env.scope.kind == .function&&env.kindOf n == some .cell)=true then (n,fR.cell) else (n,k))::_)=_
  cases hx:x == n with
  | true=>
   simp only[kG,hx] at h
   cases h
   by_cases hc:(fR.free == fR.free&&env.scope.kind == .function&&env.kindOf n == some .cell)=true
   · rw[if_pos hc];exact .inl (by simp[kG,hx])
   · rw[if_neg hc];exact .inr (by simp[kG,hx])
  | false=>
   simp only[kG,hx] at h
   by_cases hc:(k == fR.free&&env.scope.kind == .function&&env.kindOf n == some .cell)=true
   · rw[if_pos hc];simp only[kG,hx];exact ih h
   · rw[if_neg hc];simp only[kG,hx];exact ih h
noncomputable def gG (X:Cx) (scope:nk) (ix:List Nat):Bool:=
 scope.kind == .function&&scope.names.all (fun y=>scope.names.lookup y.1 == some y.2&&(y.2 != .free||(X.env.scope.names.lookup y.1 == some .cell||X.env.scope.names.lookup y.1 == some .free))&&(y.2 != .local||scope.names.lookup y.1 == some .local)) &&
 ix.all fun i=>match X.N[i]? with
  | some x=>scope.names.lookup x == some .free
  | none=>false
structure Fy (X:Cx) (scope:nk) (ix:List Nat):Prop where
 kind:scope.kind = .function
 one:∀y∈scope.names,scope.names.lookup y.1=some y.2
 free:∀y∈scope.names,y.2 = .free→X.env.scope.names.lookup y.1=some .cell∨X.env.scope.names.lookup y.1=some .free
 loc:∀y∈scope.names,y.2 = .local→scope.names.lookup y.1=some .local
 ix:∀i∈ix,∃x,X.N[i]?=some x∧scope.names.lookup x=some .free
theorem gG.of {X:Cx}{scope:nk}{ix:List Nat} (h:gG X scope ix=true):Fy X scope ix:=by
 unfold gG at h
 rw[dS,dS] at h
 obtain ⟨⟨h1,h2⟩,h3⟩:=h
 rw[sd] at h2 h3
 have g:∀y∈scope.names,(scope.names.lookup y.1=some y.2∧(y.2 = .free→X.env.scope.names.lookup y.1=some .cell∨X.env.scope.names.lookup y.1=some .free))∧(y.2 = .local→scope.names.lookup y.1=some .local):=fun y hy=>by
  have q:=h2 y hy
  rw[dS,dS,tf,tf,tf] at q
  obtain ⟨⟨q1,q2⟩,q3⟩:=q
  refine ⟨⟨by simpa using q1,fun e=>?_⟩,fun e=>?_⟩
  · rcases q2 with q2 | q2 | q2
    · exact absurd e (by simpa using q2)
    · exact .inl (by simpa using q2)
    · exact .inr (by simpa using q2)
  · rcases q3 with q3 | q3
    · exact absurd e (by simpa using q3)
    · simpa using q3
 refine ⟨by simpa using h1,fun y hy=>(g y hy).1.1,fun y hy=>(g y hy).1.2,fun y hy=>(g y hy).2,fun i hi=>?_⟩
 have q:=h3 i hi
 cases e:X.N[i]? with
 | none=>rw[e] at q;cases q
 | some x=>rw[e] at q;exact ⟨x,rfl,by simpa using q⟩
section
variable {X:Cx}{pins:List (Addr×Obj)}{σ:St}{H:Hp}{s:ar}{scope:nk}{tn:List Str}{ix:List Nat}{cl:List (Str×Addr)}{C D:Addr}{fp:List Addr}{h₁:Heap}{tk:Nat}
theorem Inv.block (S:Fy X scope ix) (I:Inv X pins σ H s) (qY:∀x c,cl.lookup x=some c→(X.env.cells.lookup x=some c∧scope.names.lookup x≠some .cell)∨(scope.names.lookup x=some .cell∧s.heap.objs.size≤c∧c≠D∧h₁.IsCell c none))
 (hinj:∀x y c,cl.lookup x=some c→cl.lookup y=some c→scope.names.lookup x=some .cell→scope.names.lookup y=some .cell→x=y) (adL:∀x,scope.names.lookup x=some .cell→∃c,cl.lookup x=some c) (Tr:∀x∈scope.names,x.2 = .free→∃c,cl.lookup x.1=some c)
 (hfp:∀b∈fp,t8 X pins H b) (hfo:∀b∈fp,∃o,s.heap.get? b=some o) (old:∀b o,s.heap.get? b=some o→h₁.get? b=some o) (hD:s.heap.objs.size≤D) (hC:s.heap.objs.size≤C) (hDC:D≠C)
 (hd:h₁.get? D=some { cls:=.type "list",data:=.seq ([]:List ag).toArray }) (hn:∃m,h₁.Ns C m) :
 Inv (X.comp scope tn ix cl C s H fp) [] (sU tn ix σ) (upd H D (.lst [])) { s with heap:=h₁,toks:=tk }:=by
 have frD:H D=none:=I.hok.fresh hD
 have frC:H C=none:=I.hok.fresh hC
 have Kl:∀x c,X.env.cells.lookup x=some c→c < s.heap.objs.size:=fun x c e=>by
  obtain ⟨v,q⟩:=I.cell x c e
  exact q.lt
 have hcl:∀x c,scope.names.lookup x=some .free→cl.lookup x=some c→X.env.cells.lookup x=some c:=fun x c hx e=>by
  rcases qY x c e with z | z
  · exact z.1
  · rw[hx] at z;cases z.1
 have ok:(X.comp scope tn ix cl C s H fp).Ok:=by
  refine ⟨I.ok.mod,S.kind,I.ok.glob,I.ok.blt,hC,fun x y c h1 h2=>?_,fun x hx=>?_,fun x c h e=>?_,I.ok.hd,I.ok.frames,.inl rfl,fun b hb=>⟨?_,fun x c e=>?_⟩,I.bs,
   eR I.ok.bsz I.sz,fun b o e hb=>?_,fun b hb hf=>?_,I.stack,I.Bd,fun P h=>I.base.jo _ _ (I.ok.tabs P h)⟩
  · rcases qY x c h1 with z1 | z1 <;> rcases qY y c h2 with z2 | z2
    · exact I.ok.inj x y c z1.1 z2.1
    · exact absurd (Kl x c z1.1) (mM.mpr z2.2.1)
    · exact absurd (Kl y c z2.1) (mM.mpr z1.2.1)
    · exact hinj x y c h1 h2 z1.1 z2.1
  · -- a cell or a free name of the block has its cell
    have hx':(scope.names.map fun (n,k)=>if (k == fR.free&&X.env.scope.kind == .function&&X.env.kindOf n == some .cell) then (n,fR.cell) else (n,k)).lookup x=some .cell ∨
     (scope.names.map fun (n,k)=>if (k == fR.free&&X.env.scope.kind == .function&&X.env.kindOf n == some .cell) then (n,fR.cell) else (n,k)).lookup x=some .free:=hx
    have hm:∃k,(x,k)∈(scope.names.map fun (n,k)=>if (k == fR.free&&X.env.scope.kind == .function&&X.env.kindOf n == some .cell) then (n,fR.cell) else (n,k))∧(k = .cell∨k = .free):=by
     rcases hx' with h | h
     · exact ⟨_,hW h,.inl rfl⟩
     · exact ⟨_,hW h,.inr rfl⟩
    obtain ⟨k,hm,hk⟩:=hm
    obtain ⟨⟨n,k'⟩,hy,e⟩:=dc.mp hm
    dsimp only at e
    by_cases hc:(k' == fR.free&&X.env.scope.kind == .function&&X.env.kindOf n == some .cell)=true
    · rw[if_pos hc] at e
      cases e
      rw[dS,dS] at hc
      exact Tr _ hy (by simpa using hc.1.1)
    · rw[if_neg hc] at e
      cases e
      rcases hk with hk | hk
      · exact adL _ (by rw[← hk];exact S.one _ hy)
      · exact Tr _ hy hk
  · rcases qY x c e with z | z
    · have h:(scope.names.lookup x == some fR.cell)=true:=h
      exact absurd (by simpa using h) z.2
    · exact z.2.1
  · intro z
    obtain ⟨o,e⟩:=hfo b hb
    exact absurd (d6 (dP e) (by show s.heap.objs.size≤b;rw[z];exact hC)) (g7 _)
  · rcases qY x c e with z | z
    · exact (hfp b hb).2.2.2.2.1 x c z.1
    · intro y
      obtain ⟨o,e'⟩:=hfo b hb
      have q:=dP e'
      rw[← y] at q
      exact absurd q (mM.mpr z.2.1)
  · rcases (hfp b hb).2.2.2.1 with z | z
    · exact I.ok.By b o e z
    · exact absurd (d6 (dP (I.ok.bs b o e).1) z) (g7 _)
  · rcases de.mp (I.zK b hf) with z | z
    · exact (hfp b hb).2.1 z
    · exact (hfp b hb).2.2.1 z
 refine ⟨ok,rfl,I.bare,Un.laid old hD frD,?_,fun x c e=>?_,?_,fun x c e=>?_,fun p hp=>absurd (show p∈([]:List (Addr×Obj)) from hp) (by simp),?_,?_⟩
 · obtain ⟨m,hn⟩:=hn
   refine ⟨m,hn,fun i x v e1 e2 e3=>?_⟩
   have hi:tn.length≤i:=by
    rcases kq i tn.length with hi | hi
    · have e2':(cK tn.length none++ix.map fun i=>(σ[i]?).join)[i]?=some (some v):=e2
      rw[eh (by simpa using hi),i7,if_pos hi] at e2'
      cases e2'
    · exact hi
   have e1':(tn++ix.map fun i=>X.N.getD i Str.empty)[i]?=some x:=e1
   have e2':(cK tn.length none++ix.map fun i=>(σ[i]?).join)[i]?=some (some v):=e2
   rw[dt hi,cp] at e1'
   rw[dt (by simpa using hi),cp,df] at e2'
   cases ek:ix[i - tn.length]? with
   | none=>rw[ek] at e1';cases e1'
   | some k=>
    rw[ek] at e1' e2'
    have adt:X.N.getD k Str.empty=x:=Option.some.inj e1'
    have Ma:(σ[k]?).join=some v:=Option.some.inj e2'
    have e2s:σ[k]?=some (some v):=by
     cases q:σ[k]? with
     | none=>rw[q] at Ma;cases Ma
     | some o=>rw[q] at Ma;have:o=some v:=Ma;rw[this]
    obtain ⟨x',hx',hfx⟩:=S.ix k (gX ek)
    have exx:x'=x:=by
     rw[← adt,ax,hx']
     rfl
    subst exx
    have hfr:=S.free _ (hW hfx) rfl
    obtain ⟨m0,hn0,hl0⟩:=I.loc
    obtain ⟨u,ru,lk⟩:=hl0 k x' v hx' e2s (.inr hfr)
    refine ⟨u,ru,?_⟩
    rcases lk with ⟨kl,_⟩ | ⟨kc,c,ec,ic⟩
    · exfalso
      have kl':X.env.scope.names.lookup x'=some .local:=kl
      rcases hfr with z | z <;> rw[z] at kl' <;> cases kl'
    · obtain ⟨c',ec'⟩:=Tr _ (hW hfx) rfl
      have ecc:c'=c:=by
       have q:=hcl x' c' hfx ec'
       rw[ec] at q
       exact (Option.some.inj q).symm
      subst ecc
      refine .inr ⟨mO hfx,c',ec',?_⟩
      obtain ⟨o,ho,hdat⟩:=ic
      exact ⟨o,old _ _ ho,hdat⟩
 · rcases qY x c e with z | z
   · obtain ⟨v,o,ho,hdat⟩:=I.cell x c z.1
     exact ⟨v,o,old _ _ ho,hdat⟩
   · exact ⟨_,z.2.2.2⟩
 · show upd H D (.lst []) C=none
   rw[aK (oP hDC)]
   exact frC
 · show upd H D (.lst []) c=none
   rcases qY x c e with z | z
   · rw[aK (gL (d6 (Kl x c z.1) hD))]
     exact I.fZ x c z.1
   · rw[aK z.2.2.1]
     exact I.hok.fresh z.2.1
 · exact I.hok.laid old hD ⟨iE _,[],0,.nil,hd⟩
 · show (sU tn ix σ).length=(tn++ix.map fun i=>X.N.getD i Str.empty).length
   unfold sU
   rw[aw,aw,df,av,av]
end
theorem Et {prog:cc}{w:eK}{A:eI}{R:AH→ar→Prop}{s:ar}{elt target iter:Expr}{ifs:List Expr}{scope:nk}{pos:Pos}{it acc:ag}{env:Env} (I:Nat→ar→Prop)
 (turn:∀n s,I n s→cn (cx prog w) A (yb it) (fun r s₁=>match r with
  | none=>R (.ok .next) s₁
  | some v=>cn (cx prog w) A (sT target it v) (fun _ s₁'=>cn (cx prog w) A (xc target env v) (fun _ s₂=>
   cn (cx prog w) A (forIn ifs true fun c r=>if r=true then do let ok ← AG c env (eval c env);pure (i5 ok) else pure (i5 r)) (fun ok s₃=>
    if ok=true then cn (cx prog w) A (eval elt env) (fun x s₄=>
     cn (cx prog w) A (call (.builtin "list.append") [acc,x]) (fun _ s₅=>∃m,m < n∧I m s₅) (fun _ _=>False) s₄) (fun _ _=>False) s₃
    else ∃m,m < n∧I m s₃) (fun _ _=>False) s₂) (fun _ _=>False) s₁') (fun _ _=>False) s₁) (fun _ _=>False) s)
 (n:Nat) (h:I n s) :
 wb (cx prog w) A (.compLoop (.ListComp elt [⟨target,iter,ifs,0⟩] scope pos) 0 it acc env) R s:=by
 refine codeAny_loop rfl I (fun n s hI=>?_) n h
 show cn _ A ((compTurn (.ListComp elt [⟨target,iter,ifs,0⟩] scope pos) 0 it acc env).onRaise (fun x=>do noteFrame x env;theTreesLotGoes x)) _ _ s
 refine wpAny_noted ?_
 rw[compTurn_list]
 refine ai (wpAny_standAt (ai (gc (turn n s hI) (fun r s₁ h₁=>?_) fun _ _ f=>f.elim)))
 cases r with
 | none=>exact ay h₁
 | some v=>
  refine ai (gc h₁ (fun _ s₁' h₁'=>?_) fun _ _ f=>f.elim)
  refine ai (gc h₁' (fun _ s₂ h₂=>ai (gc h₂ (fun ok s₃ h₃=>?_) fun _ _ f=>f.elim)) fun _ _ f=>f.elim)
  cases ok with
  | false=>exact ay ⟨rfl,h₃⟩
  | true=>
   exact ai (ai (gc h₃ (fun x s₄ h₄=>ai (gc h₄ (fun _ s₅ h₅=>ay (ay ⟨rfl,h₅⟩)) fun _ _ f=>f.elim)) fun _ _ f=>f.elim))
section
variable {X:Cx}{pins:List (Addr×Obj)}{σ:St}{H:Hp}{s:ar}{scope:nk}{tn:List Str}{ix:List Nat}{elt tg iter:Expr}{ifs:List Expr}{pos:Pos}{wi:TI}{g:TG}{tt:TT}{te:TE}{Q:VK}
theorem wI {c0:List (Str×Addr)}:∀{l:List (Str×fR)}{n:Nat}{acc:List (Str×Addr)},kC n l (acc++c0)=kC n l acc++c0
 | [],n,acc=>rfl
 | (y,k)::l,n,acc=>by
  unfold kC
  by_cases hk:(k == .cell)=true
  · rw[if_pos hk,if_pos hk]
    exact wI (l:=l) (n:=n+1) (acc:=(y,n)::acc)
  · rw[if_neg hk,if_neg hk]
    exact wI (l:=l)
theorem vB {x:Str}{c:Addr}:∀{l:List (Str×fR)}{n:Nat}{acc:List (Str×Addr)},(x,c)∈kC n l acc→(x,c)∈acc∨(x,fR.cell)∈l
 | [],n,acc,h=>.inl h
 | (y,k)::l,n,acc,h=>by
  unfold kC at h
  by_cases hk:(k == .cell)=true
  · rw[if_pos hk] at h
    rcases vB (l:=l) h with z | z
    · rcases de.mp z with e | z
      · cases e
        exact .inr (by rw[show k=fR.cell by simpa using hk];exact cf)
      · exact .inl z
    · exact .inr (bq _ z)
  · rw[if_neg hk] at h
    rcases vB (l:=l) h with z | z
    · exact .inl z
    · exact .inr (bq _ z)
theorem Cj {x y:Str}{c:Addr}:∀{cs:List (Str×Addr)},cs.Pairwise (fun x y=>x.2≠y.2)→(x,c)∈cs→(y,c)∈cs→x=y
 | [],_,h,_=>nomatch h
 | z::cs,h,h1,h2=>by
  obtain ⟨h3,h4⟩:=kH.mp h
  rcases de.mp h1 with e1 | e1
  · rcases de.mp h2 with e2 | e2
    · rw[← e1] at e2;cases e2;rfl
    · rw[← e1] at h3;exact (h3 (y,c) e2 rfl).elim
  · rcases de.mp h2 with e2 | e2
    · rw[← e2] at h3;exact (h3 (x,c) e1 rfl).elim
    · exact Cj h4 e1 e2
theorem Pb {M:zk}{A:eI}{E:ag→ar→Prop}{s:ar}{scope:nk}{globals:Addr}{cl:List (Str×Addr)}{qual:Str}{env:Env}{Q:Env→ar→Prop}
 (h:Q (newEnv scope s.heap.objs.size globals (kC (s.heap.objs.size+1) scope.names cl) qual none .none (some env) qo) { s with heap:=pushCells (s.heap.push { cls:=.type "dict",data:=.dict #[] }) scope.names }) :
 cn M A (newFunctionEnv scope globals cl [] qual none .none (some env)) Q E s:=by
 simp only[newFunctionEnv,Option.isSome_some,if_true]
 refine ai (wpAny_alloc (ai (wpAny_layCells _ (fun name kind cells=>by cases hkc:kind == fR.cell <;> simp[hkc]) _ _ _ _ ?_)))
 rw[show ({ s with heap:=s.heap.push { cls:=.type "dict",data:=.dict #[] } }:ar).heap.objs.size=s.heap.objs.size+1 from ow ..]
 exact ai (ay (ay h))
theorem Dk (S:Fy X scope ix) (hc:X.calm=true) (hi:PI X tg iter wi)
 (hg:∀cl C s₂ H₂ fp,PG (X.comp scope tn ix cl C s₂ H₂ fp) tg g) (ht:∀cl C s₂ H₂ fp,pH (X.comp scope tn ix cl C s₂ H₂ fp) ifs tt) (he:∀cl C s₂ H₂ fp,PE (X.comp scope tn ix cl C s₂ H₂ fp) elt te)
 {P:ag→Addr→AH→ar→Prop} (I:Inv X pins σ H s) (h:zq tn ix wi g tt te σ H Q)
 (hP:∀D C s' H',Inv X pins σ H' s'→(∃m,s'.heap.Ns C m)→t8 X pins H' C→Q (.ref D) H'→P (.ref D) C (.ok .next) s') :
 ∃cl,vi scope X.env=pure cl∧cn (cx X.prog X.w) X.A (eval iter X.env) (fun x s₁=>cn (cx X.prog X.w) X.A (pyIter x) (fun it s₂=>cn (cx X.prog X.w) X.A (newList []) (fun acc s₃=>
  cn (cx X.prog X.w) X.A (newFunctionEnv scope X.env.globals cl [] X.env.qual none .none (some X.env)) (fun cenv s₄=>
   wb (cx X.prog X.w) X.A (.compStart (.ListComp elt [⟨tg,iter,ifs,0⟩] scope pos) 0 it acc { cenv with scope:=relabel scope X.env }) (P acc cenv.locals) s₄) X.xe s₃) X.xe s₂) X.xe s₁) X.xe s:=by
 obtain ⟨cl,hcl,hc1,hc2⟩:=Dv (scope:=scope) (env:=X.env) fun x hx hf=>I.ok.has x.1 (S.free x hx hf)
 refine ⟨cl,hcl,thn (hi pins s σ H _ I h) fun v s1 h1=>thn h1 fun itv s2 h2=>?_⟩
 obtain ⟨it,fp,tnn,J,H2,e,I2,T,st2,f2,R⟩:=h2
 subst e
 refine ko (Pb ?_)
 dsimp only
 generalize hHH:s2.heap.push { cls:=.type "list",dict:=none,data:=.seq ([]:List ag).toArray }=HH
 have hCs:HH.objs.size=s2.heap.objs.size+1:=by rw[← hHH,ow]
 have hDC:s2.heap.objs.size≠HH.objs.size:=by rw[hCs];exact gL (se _)
 have hCle:s2.heap.objs.size≤HH.objs.size:=by rw[hCs];exact Nat.le_succ _
 have RK:∀b o,HH.get? b=some o→(pushCells (HH.push { cls:=.type "dict",data:=.dict #[] }) scope.names).get? b=some o:=fun b o e=>pushCells_keeps _ _ b o (aS _ e)
 have hns₁:(pushCells (HH.push { cls:=.type "dict",data:=.dict #[] }) scope.names).Ns HH.objs.size (fun _=>none):=(Heap.Ns.new HH (.type "dict")).keeps (pushCells_keeps _ _)
 have okc:=cellsFrom_ok scope.names (HH.push { cls:=.type "dict",data:=.dict #[] }) (HH.objs.size+1) [] ⟨fun _ _ hm=>(nomatch hm),List.Pairwise.nil⟩ (by rw[ow];exact aE _)
 rw[ow] at okc
 have eCL:kC (HH.objs.size+1) scope.names cl=kC (HH.objs.size+1) scope.names []++cl:=wI (acc:=[])
 have spl:∀x c,(kC (HH.objs.size+1) scope.names cl).lookup x=some c→(scope.names.lookup x=some .cell∧(x,c)∈kC (HH.objs.size+1) scope.names [])∨(cl.lookup x=some c∧scope.names.lookup x≠some .cell):=fun x c e=>by
  rw[eCL,List.lookup_append] at e
  cases q:(kC (HH.objs.size+1) scope.names []).lookup x with
  | none=>
   rw[q] at e
   refine .inr ⟨e,fun z=>?_⟩
   have:=nI scope.names (HH.objs.size+1) [] (.inl z)
   rw[q] at this
   cases this
  | some d=>
   rw[q] at e
   have e:some d=some c:=e
   cases e
   have m:=hW q
   rcases vB m with z | z
   · nomatch z
   · exact .inl ⟨S.one _ z,m⟩
 have has:∀x,scope.names.lookup x=some .cell∨(cl.lookup x).isSome=true→∃c,(kC (HH.objs.size+1) scope.names cl).lookup x=some c:=fun x z=>fy.mp (nI scope.names (HH.objs.size+1) cl z)
 generalize hCL:kC (HH.objs.size+1) scope.names cl=CL at spl has ⊢
 generalize hh1:pushCells (HH.push { cls:=.type "dict",data:=.dict #[] }) scope.names=h₁ at RK hns₁ okc ⊢
 have old:∀b o,s2.heap.get? b=some o→h₁.get? b=some o:=fun b o e=>RK b o (hHH ▸ aS _ e)
 have hacc:h₁.get? s2.heap.objs.size=some { cls:=.type "list",data:=.seq ([]:List ag).toArray }:=RK _ _ (hHH ▸ d4 _ rfl)
 have hfo:∀b∈fp,∃o,s2.heap.get? b=some o:=fun b hb=>let ⟨o,e,_⟩:=T.obj _ _ st2 b hb;⟨o,e⟩
 obtain ⟨W,⟨m0,w0⟩,turn⟩:=R s2.heap.objs.size (I2.hok.fresh (aE _))
 have qY:∀x c,CL.lookup x=some c→(X.env.cells.lookup x=some c∧scope.names.lookup x≠some .cell)∨(scope.names.lookup x=some .cell∧s2.heap.objs.size≤c∧c≠s2.heap.objs.size∧h₁.IsCell c none):=fun x c e=>by
  rcases spl x c e with ⟨z,m⟩ | ⟨z,m⟩
  · obtain ⟨q1,q2⟩:=okc.empty x c m
    rw[hCs] at q2
    exact .inr ⟨z,by omega,fun y=>by rw[y] at q2;omega,q1⟩
  · exact .inl ⟨hc1 x c z,m⟩
 have J0:Inv (X.comp scope tn ix CL HH.objs.size s2 H2 fp) [] (sU tn ix σ) (upd H2 s2.heap.objs.size (.lst [])) { s2 with heap:=h₁,toks:=s2.toks }:=
  Inv.block S I2 qY (fun x y c e1 e2 k1 k2=>by
   rcases spl x c e1 with ⟨_,m1⟩ | ⟨_,m1⟩
   · rcases spl y c e2 with ⟨_,m2⟩ | ⟨_,m2⟩
     · exact Cj okc.apart m1 m2
     · exact absurd k2 m2
   · exact absurd k1 m1) (fun x z=>has x (.inl z)) (fun x hx hf=>by
   obtain ⟨c,e⟩:=hc2 x hx hf
   exact has x.1 (.inr (by rw[e];rfl))) f2 hfo old (aE _) hCle hDC hacc ⟨_,hns₁⟩
 have stat:∀{H':Hp},(∀b∈fp,H' b=none)→∀b∈fp,t8 (X.comp scope tn ix CL HH.objs.size s2 H2 fp) [] H' b:=fun hn b hb=>by
  refine ⟨hn b hb,fun z=>?_,fun z=>?_,.inl hb,fun x c e=>?_,fun p hp=>absurd (show p∈([]:List (Addr×Obj)) from hp) (by simp)⟩
  · obtain ⟨o,e⟩:=hfo b hb
    exact absurd (d6 (dP e) (by show s2.heap.objs.size≤b;rw[z];exact hCle)) (g7 _)
  · rcases de.mp (I2.zK b z) with z | z
    · exact (f2 b hb).2.1 z
    · exact (f2 b hb).2.2.1 z
  · rcases qY x c e with z | z
    · exact (f2 b hb).2.2.2.2.1 x c z.1
    · intro y
      obtain ⟨o,e'⟩:=hfo b hb
      have q:=dP e'
      rw[← y] at q
      exact absurd q (mM.mpr z.2.1)
 have fp0:∀b∈fp,upd H2 s2.heap.objs.size (.lst []) b=none:=fun b hb=>by
  obtain ⟨o,e⟩:=hfo b hb
  rw[aK (gL (dP e))]
  exact (f2 b hb).1
 have st1:tnn 0 h₁:=T.keep _ _ _ st2 fun b hb o e=>old b o e
 have loop:∀s₃:ar,s₃={ s2 with heap:=h₁,toks:=s2.toks } →
  wb (cx X.prog X.w) X.A (.compLoop (.ListComp elt [⟨tg,iter,ifs,0⟩] scope pos) 0 (.ref it) (.ref s2.heap.objs.size) (compEnvC scope CL HH.objs.size X.env)) (P (.ref s2.heap.objs.size) HH.objs.size) s₃:=by
  rintro s₃ rfl
  refine Et (fun n s'=>∃i σ' acc H',Inv (X.comp scope tn ix CL HH.objs.size s2 H2 fp) [] σ' H' s'∧tnn i s'.heap∧(∀b∈fp,H' b=none)∧W i n σ' acc H') ?_ m0 ⟨0,_,[],_,J0,st1,fp0,w0⟩
  rintro n s3 ⟨i,σ3,acc,H3,I3,st3,fr3,w3⟩
  obtain ⟨hD3,ways⟩:=turn i n σ3 acc H3 w3
  rcases ways with ⟨stop,qn⟩ | ⟨go,hsz,step⟩
  · refine thn (T.done (X.comp scope tn ix CL HH.objs.size s2 H2 fp) rfl rfl rfl hc i [] s3 σ3 H3 _ I3 (stat fr3) st3 stop) fun r s4 ao=>?_
    obtain ⟨hr,I4⟩:=ao
    subst hr
    have I5:Inv X pins σ H3 s4:=I2.call' I4.os I4.base I4.hok I4.bare fun b hb=>⟨(f2 b hb).2.2.2.1,(f2 b hb).2.1,(f2 b hb).2.2.2.2.1,(f2 b hb).2.2.2.2.2⟩
    obtain ⟨m4,hn4,_⟩:=I4.loc
    exact hP _ _ s4 H3 I5 ⟨m4,hn4⟩ (I2.sY hCle I4.free) qn
  · refine thn (T.item (X.comp scope tn ix CL HH.objs.size s2 H2 fp) rfl rfl rfl hc i [] s3 σ3 H3 _ I3 (stat fr3) st3 go) fun r s4 ao=>?_
    obtain ⟨u,hr,h4⟩:=ao
    subst hr
    refine thn h4 fun _ s5 ao=>?_
    obtain ⟨x,H5,I5,r5,y5,st5,fr5⟩:=ao
    have I5':=I5.pinned (stat fr5) (T.obj _ _ st5)
    have back:∀{σ7:St}{H7:Hp}{s7:ar},Inv (X.comp scope tn ix CL HH.objs.size s2 H2 fp) ([]++vW fp s5.heap) σ7 H7 s7→Inv (X.comp scope tn ix CL HH.objs.size s2 H2 fp) [] σ7 H7 s7∧tnn (i+1) s7.heap∧∀b∈fp,H7 b=none:=fun {σ7 H7 s7} I7=>by
     refine ⟨I7.uD,T.keep _ _ _ st5 fun b hb o e=>(I7.pin (b,o) (cy _ (cy _ (oZ hb e)))).1,fun b hb=>?_⟩
     obtain ⟨o,e,d⟩:=T.obj _ _ st5 b hb
     exact (I7.pin (b,o) (cy _ (cy _ (oZ hb e)))).2.1
    refine thn (hg CL HH.objs.size s2 H2 fp _ s5 σ3 H5 x u _ I5' r5 (step x H5 y5)) fun _ s6 ao=>?_
    obtain ⟨σ6,H6,I6,q6⟩:=ao
    refine thn (ht CL HH.objs.size s2 H2 fp _ s6 σ6 H6 _ I6 q6) fun ok s7 ao=>?_
    obtain ⟨H7,I7,q7⟩:=ao
    cases ok with
    | false=>
     rw[if_neg i6] at q7 ⊢
     obtain ⟨m',hm,w7⟩:=q7
     obtain ⟨b1,b2,b3⟩:=back I7
     exact ⟨m',hm,i+1,σ6,acc,H7,b1,b2,b3,w7⟩
    | true=>
     rw[if_pos rfl] at q7 ⊢
     refine thn (he CL HH.objs.size s2 H2 fp _ s7 σ6 H7 _ I7 q7) fun xv s8 ao=>?_
     obtain ⟨v8,H8,I8,r8,hD8,m',hm,w8⟩:=ao
     refine thn (Df _ s8 σ6 H8 (.ref s2.heap.objs.size) [v8] (.ref s2.heap.objs.size) [xv] (fun _ H9=>H9=upd H8 s2.heap.objs.size (.lst (acc++[v8]))) I8 rfl (.cons r8 .nil) ⟨_,acc,v8,rfl,rfl,hD8,hsz,rfl⟩) fun _ s9 ao=>?_
     obtain ⟨_,H9,I9,_,e9⟩:=ao
     subst e9
     obtain ⟨b1,b2,b3⟩:=back I9
     exact ⟨m',hm,i+1,σ6,acc++[v8],_,b1,b2,b3,w8⟩
 exact codeAny_compStart_list (loop _ rfl) (T.self X.A 0 _ _ _ st1 (loop _ rfl))
theorem W5 (S:gG X scope ix=true) (hc:X.calm=true) (hi:PI X tg iter wi)
 (hg:∀cl C s₂ H₂ fp,PG (X.comp scope tn ix cl C s₂ H₂ fp) tg g) (ht:∀cl C s₂ H₂ fp,pH (X.comp scope tn ix cl C s₂ H₂ fp) ifs tt) (he:∀cl C s₂ H₂ fp,PE (X.comp scope tn ix cl C s₂ H₂ fp) elt te)
 (hs:∀x,kn iter X.env x=pure x:=by intro _;rfl):PE X (.ListComp elt [⟨tg,iter,ifs,0⟩] scope pos) (zq tn ix wi g tt te):=by
 intro pins s σ H Q I h
 obtain ⟨cl,hcl,q⟩:=Dk (pos:=pos) (P:=fun acc C=>compPost (cx X.prog X.w) X.A X.xe none (EP X pins σ Q) acc C) (gG.of S) hc hi hg ht he I h fun D C s' H' I' ⟨m,hn⟩ f q=>by
  refine ⟨m,hn,fun h' sb=>⟨.ref D,H',?_,rfl,q⟩⟩
  exact I'.turned (it:=C) (t':=s'.toks) (fun b o hb e=>sb.extBut b o hb e) f.1 f.2.1 f.2.2.2.1 f.2.2.2.2.1 f.2.2.2.2.2
 rw[eval_ListComp]
 exact wpAny_comprehension_free (use:=none) rfl hs hcl (gG.of S).kind (gG.of S).loc q
theorem Jk {i:Nat}{y:Str}{py spos:Pos} (hN:X.N.Nodup) (hiN:X.N[i]?=some y) (hy:Loc X.env.scope y) (S:gG X scope ix=true) (hc:X.calm=true) (hi:PI X tg iter wi)
 (hg:∀cl C s₂ H₂ fp,PG (X.comp scope tn ix cl C s₂ H₂ fp) tg g) (ht:∀cl C s₂ H₂ fp,pH (X.comp scope tn ix cl C s₂ H₂ fp) ifs tt) (he:∀cl C s₂ H₂ fp,PE (X.comp scope tn ix cl C s₂ H₂ fp) elt te)
 (hsw:kr (.ListComp elt [⟨tg,iter,ifs,0⟩] scope pos) (some (.Name y py)) spos.line X.env=pure true:=by rfl)
 (hf:X.fn y=true∨X.env.scope.names.lookup y=some .local:=by first | exact .inl rfl | exact .inr rfl | assumption)
 (hs:∀x,kn iter X.env x=pure x:=by intro _;rfl):PS X (.Assign [.Name y py] (.ListComp elt [⟨tg,iter,ifs,0⟩] scope pos) spos) (G3 (zq tn ix wi g tt te) (zG i)):=by
 intro pins s σ H E I h
 rw[exec_Assign_Name_used _ _ _ _ hsw]
 refine ai (wpAny_standAt (ai ?_))
 show cn _ X.A (do let _ ← comprehension (.ListComp elt [⟨tg,iter,ifs,0⟩] scope pos) scope X.env _ (newList []) false (eval iter X.env) (some (xc (.Name y py) X.env))) _ _ s
 obtain ⟨cl,hcl,q⟩:=Dk (pos:=pos) (P:=fun acc C=>compPost (cx X.prog X.w) X.A X.xe (some (xc (.Name y py) X.env)) (fun _ s'=>SP X pins E .next s') acc C) (gG.of S) hc hi hg ht he I h fun D C s' H' I' ⟨m,hn⟩ f q=>by
  show cn _ X.A (xc (.Name y py) X.env (.ref D)) _ _ _
  refine wpAny_assign_Name (Ce (v:=.ref D) I' hN hiN hy rfl (fun s2 I2 ao=>?_) hf)
  obtain ⟨a,sb,ha⟩:=ao
  have hCa:C≠a:=by
   rcases ha with ha | ha
   · rw[ha];exact f.2.1
   · exact fun z=>f.2.2.2.2.1 y a ha z.symm
  refine ⟨m,hn.sameBut sb hCa,fun h' sb'=>⟨_,H',?_,q⟩⟩
  exact I2.turned (it:=C) (t':=s2.toks) (fun b o hb e=>sb'.extBut b o hb e) f.1 f.2.1 f.2.2.2.1 f.2.2.2.2.1 f.2.2.2.2.2
 refine ai (gc (wpAny_comprehension_free (use:=some (xc (.Name y py) X.env)) (Q:=fun _ s'=>SP X pins E .next s') rfl hs hcl (gG.of S).kind (gG.of S).loc q) (fun _ s' hq=>ay (ay hq)) fun _ _ e=>e)
end
theorem aC.qg {K:af}{H H':Hp}{a:Addr}{xs:List V} (e:aC H H') (h:SqT K H a xs):SqT K H' a xs:=by
 rcases h with (h | ⟨o,h⟩) | h
 · exact .inl (.inl (e _ _ h))
 · exact .inl (.inr ⟨o,e _ _ h⟩)
 · exact .inr h
theorem aC.new {H:Hp}{p:Addr} (h:H p=none) (o:HO):aC H (upd H p o):=fun b u q=>by rw[aK (cV q h)];exact q
theorem aC.up {H H':Hp}{p:Addr}{o:HO} (s:aC H H') (h:H p=none):aC H (upd H' p o):=fun b u q=>by rw[aK (cV q h)];exact s b u q
mutual
noncomputable def Is (K:af) (H:Hp):ae→V→Prop
 | .none,v=>v = .non
 | .bool b,v=>v = .bl b
 | .int i,v=>v = .int i
 | .str x,v=>v = .str x
 | .list ds,v=>∃a vs,v = .ref a∧SqL K H a vs∧dh K H ds vs
 | .tuple ds,v=>∃a vs,v = .ref a∧SqT K H a vs∧dh K H ds vs
 | .dict _,_=>False
noncomputable def dh (K:af) (H:Hp):List ae→List V→Prop
 | [],vs=>vs=[]
 | d::ds,vs=>∃v r,vs=v::r∧Is K H d v∧dh K H ds r
end
mutual
theorem Is.mono {K:af}{H H':Hp} (e:aC H H'):∀(d:ae) {v:V},Is K H d v→Is K H' d v
 | .none,v,h=>h
 | .bool _,v,h=>h
 | .int _,v,h=>h
 | .str _,v,h=>h
 | .list ds,v,h=>by
  rw[Is] at h ⊢
  obtain ⟨a,vs,h1,h2,h3⟩:=h
  exact ⟨a,vs,h1,e.seq h2,dh.mono e ds h3⟩
 | .tuple ds,v,h=>by
  rw[Is] at h ⊢
  obtain ⟨a,vs,h1,h2,h3⟩:=h
  exact ⟨a,vs,h1,e.qg h2,dh.mono e ds h3⟩
 | .dict _,v,h=>h
theorem dh.mono {K:af}{H H':Hp} (e:aC H H'):∀(ds:List ae) {vs:List V},dh K H ds vs→dh K H' ds vs
 | [],vs,h=>h
 | d::ds,vs,h=>by
  rw[dh] at h ⊢
  obtain ⟨v,r,h1,h2,h3⟩:=h
  exact ⟨v,r,h1,Is.mono e d h2,dh.mono e ds h3⟩
end
section
variable {X:Cx}{pins:List (Addr×Obj)}{σ:St}{H:Hp}{s:ar}
mutual
theorem Is.reads (I:Inv X pins σ H s):∀(d:ae) {v:V}{u:ag},Is X.K H d v→RelV v u→∃as,Reads s.heap u d as
 | .none,v,u,h,r=>by
  rw[Is] at h;subst h;cases r;exact ⟨_,.none⟩
 | .bool b,v,u,h,r=>by
  rw[Is] at h;subst h;cases r;exact ⟨_,.bool b⟩
 | .int i,v,u,h,r=>by
  rw[Is] at h;subst h;obtain ⟨t,rfl⟩:=r;exact ⟨_,.int i t⟩
 | .str x,v,u,h,r=>by
  rw[Is] at h;subst h;obtain ⟨t,rfl⟩:=r;exact ⟨_,.str x t⟩
 | .list ds,v,u,h,r=>by
  rw[Is] at h
  obtain ⟨a,vs,rfl,h2,h3⟩:=h
  cases r
  obtain ⟨its,rv,⟨o,n,e,c,_,d⟩,_⟩:=I.list h2
  obtain ⟨as,q⟩:=dh.reads I ds h3 rv
  exact ⟨_,.list e c d (by simpa using q)⟩
 | .tuple ds,v,u,h,r=>by
  rw[Is] at h
  obtain ⟨a,vs,rfl,h2,h3⟩:=h
  cases r
  obtain ⟨its,rv,⟨o,e,c,n,d⟩,_⟩:=I.tuple h2
  obtain ⟨as,q⟩:=dh.reads I ds h3 rv
  exact ⟨_,.tuple e c d (by simpa using q)⟩
 | .dict _,v,u,h,r=>by
  rw[Is] at h;exact h.elim
theorem dh.reads (I:Inv X pins σ H s):∀(ds:List ae) {vs:List V}{us:List ag},dh X.K H ds vs→Vals vs us→∃as,ReadsAll s.heap us ds as
 | [],vs,us,h,r=>by
  rw[dh] at h;subst h;cases r;exact ⟨_,.nil⟩
 | d::ds,vs,us,h,r=>by
  rw[dh] at h
  obtain ⟨v,rr,rfl,h2,h3⟩:=h
  cases r with
  | cons r1 r2=>
   obtain ⟨as,q⟩:=Is.reads I d h2 r1
   obtain ⟨bs,q'⟩:=dh.reads I ds h3 r2
   exact ⟨_,.cons q q'⟩
end
end
theorem yV:∀ns:List Int,ky (ns.map ae.int)=0
 | []=>by rw[oS,ky]
 | n::ns=>by rw[dy,ky,ae.depth,yV ns];rfl
section
variable {X:Cx}
noncomputable def aep (K:af):R2:=fun x y H Q=>∃d e,Is K H d x∧Is K H e y∧eD d=true∧eD e=true∧Q (.bl (fA d e)) H
noncomputable def abH (K:af):R2:=fun x y H Q=>∃d e,Is K H d x∧Is K H e y∧eD d=true∧eD e=true∧Q (.bl (!fA d e)) H
theorem Zb (hu:X.A.units+64 < nV):OpR X (gE .Eq) (aep X.K):=by
 intro pins s σ H x y v u Q I rx ry h
 obtain ⟨d,e,h1,h2,h3,h4,q⟩:=h
 obtain ⟨as,r1⟩:=Is.reads I d h1 rx
 obtain ⟨bs,r2⟩:=Is.reads I e h2 ry
 exact eq_dataH r1 r2 h3 h4 hu ⟨.bl (fA d e),H,I,rfl,q⟩
theorem aaj (hu:X.A.units+64 < nV):OpR X (gE .NotEq) (abH X.K):=by
 intro pins s σ H x y v u Q I rx ry h
 obtain ⟨d,e,h1,h2,h3,h4,q⟩:=h
 obtain ⟨as,r1⟩:=Is.reads I d h1 rx
 obtain ⟨bs,r2⟩:=Is.reads I e h2 ry
 exact ne_dataH r1 r2 h3 h4 hu ⟨.bl (!fA d e),H,I,rfl,q⟩
end
end L2
namespace L2
end L2
namespace L2
open PySem PySem.Spec PyProof.Rows
noncomputable def Itv (K:af) (a:Addr) (n:Nat):It:=
 ⟨fun i H=>i < n∧∃xs x,SqL K H a xs∧xs[n - 1 - i]?=some x,fun i H x H'=>H'=H∧∀xs,SqL K H a xs→xs[n - 1 - i]?=some x,fun i _=>i=n⟩
theorem QD {P:cc}{w:eK}{K:af}{tg:Expr} (a it:Addr) (n:Nat):Turn P w K tg (Itv K a n) [it] it (fun i h=>h.IsRevIter it a ((n:Int) - 1 - (i:Nat))) where
 mem:=by simp
 obj:=fun i h st b hb=>by
  have e:b=it:=by simpa using hb
  subst e
  obtain ⟨o,e,c,d⟩:=st
  exact ⟨o,e,fun v z=>by rw[d] at z;cases z⟩
 keep:=fun i h h' st k=>st.at fun o e=>k it (by simp) o e
 item:=by
  intro X hP hw hK hc i pins s σ H E I hf st hg
  subst hP hw hK
  obtain ⟨hi,xs,x,hq,hx⟩:=hg
  obtain ⟨its,rv,p,hz⟩:=I.list hq
  obtain ⟨u,hu,ru⟩:=rv.get hx
  obtain ⟨f0,f1,f2,f3,f4,f5⟩:=hf it (by simp)
  have e:(n:Int) - 1 - (i:Nat)=((n - 1 - i:Nat):Int):=by omega
  rw[e] at st
  refine wpAny_pyNext_rev_item st p.isList (x:=u) (by simpa using hu) fun h' st' sb=>?_
  have e2:((n - 1 - i:Nat):Int) - 1=(n:Int) - 1 - ((i+1:Nat):Int):=by omega
  rw[e2] at st'
  have I1:Inv X pins σ H { s with heap:=h' }:=I.turned (t':=s.toks) (fun b o hb e=>(sb.2 b hb).trans e) f0 f1 f3 f4 f5
  obtain ⟨o,e,c,d⟩:=id st'
  exact ⟨u,rfl,tV (s:={ s with heap:=h' }) e c d (by decide) ⟨x,H,I1,ru,⟨rfl,fun ys hy=>by rw[I.EY hy hq];exact hx⟩,st',fun b hb=>(hf b hb).1⟩⟩
 done:=by
  intro X hP hw hK hc i pins s σ H E I hf st hg
  subst hP hw hK
  have hg':i=n:=hg
  subst hg'
  obtain ⟨f0,f1,f2,f3,f4,f5⟩:=hf it (by simp)
  have e:(i:Int) - 1 - (i:Nat) = -1:=by omega
  rw[e] at st
  exact wpAny_pyNext_rev_end (I.ok.hd hc) st fun h' eb=>⟨rfl,I.turned (t':=s.toks) (fun b o hb e=>eb b o hb e) f0 f1 f3 f4 f5⟩
 self:=fun _ _ _ _ _ st h=>wpAny_pyIter_revIter st h
section
variable {X:Cx}{tg:Expr}
noncomputable def ab3 (K:af) (ta:TA):TI:=fun σ H R=>ta σ H fun vs H1=>∃a xs,vs=[.ref a]∧SqL K H1 a xs∧R (Itv K a xs.length) H1
theorem YZ {a:Expr}{ta:TA}{p pos:Pos} (hg:Gl X "reversed") (hm:X.mg "reversed" = none) (ha:PA X [a] ta) (hs:d5 [a] X.env=[(false,eval a X.env)]:=by rfl):PI X tg (.Call (.Name "reversed" p) [a] [] pos) (ab3 X.K ta):=by
 intro pins s σ H R I h
 refine Call_ (nY I hg hm boot_reversed (jv (thn (ha pos pins s σ H _ I h) fun us s1 ao=>?_) hs rfl))
 obtain ⟨vs,H1,I1,r1,q1⟩:=ao
 obtain ⟨l,xs,e,hq,q⟩:=q1
 subst e
 obtain ⟨u,rfl,ru⟩:=Vals.one r1
 cases ru
 obtain ⟨its,rv,pl,hz⟩:=I1.list hq
 refine call_reversed_list pl.isList ?_
 have hit:(s1.heap.push (revObj l (((its.toArray.size:Nat):Int) - 1))).IsRevIter s1.heap.objs.size l ((xs.length:Int) - 1 - ((0:Nat):Int)):=by
  have e1:((its.toArray.size:Nat):Int) - 1=(xs.length:Int) - 1 - ((0:Nat):Int):=by
   have:=rv.length
   rw[bE];omega
  rw[e1]
  exact ⟨_,d4 _ rfl,rfl,rfl⟩
 refine wpAny_pyIter_revIter hit ?_
 refine ⟨s1.heap.objs.size,[s1.heap.objs.size],_,_,H1,rfl,I1.kept (t':=s1.toks) fun b o e=>aS _ e,QD l _ xs.length,hit,fun b hb=>?_,q⟩
 have e:b=s1.heap.objs.size:=by simpa using hb
 subst e
 exact I1.sY (aE _) (I1.hok.fresh (aE _))
end
section
variable {X:Cx}
end
section
variable {K:af}{tn:List Str}{ix:List Nat}{te:TE}{σ:St}{H1:Hp}{Q:VK}
end
structure At (K:af) (mg:Str→Option ag) (x:Str) (st:Stmt) (ps:List Str):Prop where
 ex:∃f fd,Fun K x x st f fd∧Binds K fd ps []∧mg x=some (.ref f)
structure Def (P:cc) (w:eK) (K:af) (mg:Str→Option ag) (base:Heap) (k:Nat) (x:Str) (ps:List Str) (sp:Sp):Prop where
 ex:∃f fd,n8 P w K mg base CX0 k f fd ps sp∧Binds K fd ps []∧cS K (.ref f)=true∧mg x=some (.ref f)
section
variable {P:cc}{w:eK}{K:af}{mg:Str→Option ag}{base:Heap}
theorem At.ok {x:Str}{st:Stmt}{N ps:List Str}{k:Nat}{sp:Sp} (F:At K mg x st ps) (S:bc N ps (az st)) (len:∀vs H Q E,sp vs H Q E→vs.length=ps.length)
 (hbody:∀(f:Addr) (cdv:ag) (A:eI) (outer:List Env) (s:ar) (H:Hp) (vs:List V) (Q:VK) (E:XK),cJ k (A.deeper (kP x (az st) s.heap.objs.size f cdv))→sp vs H Q E →
  ∃t,PSs (lX CX0 P w K mg base N x (az st) f cdv A outer s H E).nox (aP st) t∧t { nx:=fun _ H'=>Q .non H',rt:=Q } (start N vs) H):Def P w K mg base (k+1) x ps sp:=by
 obtain ⟨f,fd,F,b,m⟩:=F.ex
 exact ⟨f,fd,F.ok S len (hbody f),b,F.kp,m⟩
theorem At.mk' {x:Str}{st:Stmt}{ps:List Str}{f:Addr}{oc:ag}{od an:Option Addr}{osl:Array (Option ag)}{kV doc pm cdv ct:ag} (m:mg x=some (.ref f))
 (l:K.lookup f=some ⟨oc,od,.func (b9 x x (aR st) (aP st) (az st) .none kV doc pm an cdv ct),osl⟩) (c:dE K cdv x=true) (k:cS K (.ref f)=true)
 (h:∀(kV doc pm:ag) (an:Option Addr) (cdv ct:ag) (us:List ag),us.length=ps.length→kN (b9 x x (aR st) (aP st) (az st) .none kV doc pm an cdv ct) ⟨us,[]⟩=pure (ps.zip us)):At K mg x st ps:=
 ⟨f,_,Hk l c k,(Hk (st:=st) l c k).binds h,m⟩
end
section
variable {X:Cx}{k:Nat}{x:Str}{ps:List Str}{sp:Sp}{p pos:Pos}{e:Expr}{es:List Expr}{t:TA}
theorem FZ (F:Def X.prog X.w X.K X.mg X.base k x ps sp) (hr:cJ k X.A) (hg:Gl X x) (ha:PA X (e::es) t) (hdb:(x == ("__debug__" : Str))=false:=by decide)
 (he:d5 (e::es) X.env=(false,eval e X.env)::d5 es X.env:=by rfl) (hpl:(lI pos (d5 es X.env)).any (·.1)=false:=by rfl):PE X (.Call (.Name x p) (e::es) [] pos) (TX sp [] E0 t):=by
 obtain ⟨f,fd,F,b,kp,m⟩:=F.ex
 exact WN F hr hg m kp b .nil aa8 ha hdb he hpl
end
section
variable {X:Cx}{K:af}
end
end L2
namespace L2
open PySem PySem.Spec PyProof.Rows
open Builtin Builtin.Str
section
variable {prog:cc}{w:eK}{A:eI}{E:ag→ar→Prop}{s:ar}
end
section
variable {X:Cx}
end
end L2
namespace L2
open PySem PySem.Spec PyProof.Rows
section
variable {κ:Type} [DecidableEq κ]
noncomputable def jw (kvs:List (κ×V)) (k:κ):Option V:=(kvs.find? fun kv=>decide (kv.1=k)).map (·.2)
noncomputable def putK (kvs:List (κ×V)) (k:κ) (v:V):List (κ×V):=
 if (kvs.any fun kv=>decide (kv.1=k))=true then kvs.map (fun kv=>if kv.1=k then (kv.1,v) else kv) else kvs++[(k,v)]
noncomputable def qR (kvs:List (κ×V)) (k:κ):List (κ×V):=kvs.filter fun kv=>decide (kv.1≠k)
theorem uc {p:κ×V}{r:List (κ×V)}{k:κ} (e:p.1=k):jw (p::r) k=some p.2:=by simp[jw,n0,e]
theorem uf {p:κ×V}{r:List (κ×V)}{k:κ} (e:¬ p.1=k):jw (p::r) k=jw r k:=by simp[jw,n0,e]
theorem Hu (k:κ):∀kvs:List (κ×V),(kvs.any fun kv=>decide (kv.1=k))=(jw kvs k).isSome
 | []=>rfl
 | p::r=>by
  rw[lp]
  by_cases e:p.1=k
  · simp only[uc e,decide_eq_true e,Bool.true_or,Option.isSome_some]
  · rw[uf e,decide_eq_false e,Bool.false_or];exact Hu k r
theorem xV (kvs:List (κ×V)) (k:κ) (v:V):(putK kvs k v).length≤kvs.length+1:=by
 unfold putK
 split
 · rw[av];omega
 · rw[aw,cE,ma];omega
theorem mY.nJ {o:Option V}{u:Option ag} (r:mY o u):o.isSome=u.isSome:=by
 cases o with
 | none=>cases u with
  | none=>rfl
  | some _=>exact (show False from r).elim
 | some _=>cases u with
  | none=>exact (show False from r).elim
  | some _=>rfl
theorem mY.getD {o:Option V}{u:Option ag}{d:V}{d':ag} (r:mY o u) (rd:RelV d d'):RelV (o.getD d) (u.getD d'):=by
 cases o with
 | none=>cases u with
  | none=>exact rd
  | some _=>exact (show False from r).elim
 | some _=>cases u with
  | none=>exact (show False from r).elim
  | some _=>exact r
theorem KV.val {kvs:List (κ×V)}{vs:List (κ×ag)} (r:KV kvs vs) (k:κ):mY (jw kvs k) (qV vs k):=by
 unfold KV at r
 induction r with
 | nil=>exact ox
 | @cons p q ps qs h t ih=>
  obtain ⟨h1,h2⟩:=h
  by_cases e:p.1=k
  · have e':q.1=k:=h1.symm.trans e
    have b:qV (q::qs) k=some q.2:=by simp[qV,n0,e']
    rw[uc e,b];exact h2
  · have e':¬ q.1=k:=fun z=>e (h1.trans z)
    have b:qV (q::qs) k=qV qs k:=by simp[qV,n0,e']
    rw[uf e,b];exact ih
theorem KV.any {kvs:List (κ×V)}{vs:List (κ×ag)} (r:KV kvs vs) (k:κ):(kvs.any fun kv=>decide (kv.1=k))=vs.any fun kv=>decide (kv.1=k):=by
 unfold KV at r
 induction r with
 | nil=>rfl
 | cons h t ih=>rw[lp,lp,ih,h.1]
theorem KV.repl {kvs:List (κ×V)}{vs:List (κ×ag)} (r:KV kvs vs) (k:κ) {y:V}{u:ag} (ry:RelV y u) :
 KV (kvs.map fun kv=>if kv.1=k then (kv.1,y) else kv) (vs.map fun kv=>if kv.1=k then (kv.1,u) else kv):=by
 unfold KV at r ⊢
 induction r with
 | nil=>exact .nil
 | @cons p q ps qs h t ih=>
  rw[dy,dy]
  refine .cons ?_ ih
  obtain ⟨h1,h2⟩:=h
  by_cases e:p.1=k
  · rw[if_pos e,if_pos (h1.symm.trans e)];exact ⟨h1,ry⟩
  · rw[if_neg e,if_neg (fun z=>e (h1.trans z))];exact ⟨h1,h2⟩
theorem KV.put {kvs:List (κ×V)}{vs:List (κ×ag)} (r:KV kvs vs) (k:κ) {y:V}{u:ag} (ry:RelV y u):KV (putK kvs k y) (stored vs k u):=by
 unfold putK stored
 rw[r.any k]
 by_cases e:(vs.any fun kv=>decide (kv.1=k))=true
 · rw[if_pos e,if_pos e];exact r.repl k ry
 · rw[if_neg e,if_neg e];exact qk.snoc r ⟨rfl,ry⟩
theorem KV.drop {kvs:List (κ×V)}{vs:List (κ×ag)} (r:KV kvs vs) (k:κ):KV (qR kvs k) (without vs k):=by
 unfold KV at r ⊢
 unfold qR without
 induction r with
 | nil=>exact .nil
 | @cons p q ps qs h t ih=>
  obtain ⟨h1,h2⟩:=h
  rw[List.filter_cons,List.filter_cons]
  by_cases e:p.1=k
  · have a:¬ decide (p.1≠k)=true:=by simp[e]
    have b:¬ decide (q.1≠k)=true:=by simp[h1.symm.trans e]
    rw[if_neg a,if_neg b];exact ih
  · have e':¬ q.1=k:=fun z=>e (h1.trans z)
    have a:decide (p.1≠k)=true:=by simp[e]
    have b:decide (q.1≠k)=true:=by simp[e']
    rw[if_pos a,if_pos b];exact .cons ⟨h1,h2⟩ ih
theorem KV.length {kvs:List (κ×V)}{vs:List (κ×ag)} (r:KV kvs vs):kvs.length=vs.length:=qk.length r
theorem RN (kvs:List (κ×V)) (k:κ):(qR kvs k).length≤kvs.length:=rV _ _
end
theorem tX {P:cc}{w:eK}{k:Key}{u:ag} (r:RelV (kV k) u):(bD P w).is k u=true:=by
 cases k with
 | inl i=>obtain ⟨t,e⟩:=(show ∃t,u=ag.int i t from r);subst e;exact Ik P w i t
 | inr x=>obtain ⟨t,e⟩:=(show ∃t,u=ag.str x t from r);subst e;exact Io P w x t
theorem CT {P:cc}{w:eK}:∀{ks:List Key}{us:List ag},Vals (ks.map kV) us→ItemsAre (bD P w) ks us
 | [],_,r=>by rw[oS] at r;cases r;exact .nil
 | k::ks,_,r=>by
  rw[dy] at r
  cases r with
  | cons h t=>exact .cons (tX h) (CT t)
noncomputable abbrev KT (H:Hp):List (List Key×V)→List (List Key×Addr×ag)→Prop:=qk fun p q=>p.1=q.1∧H q.2.1=some (.tup (p.1.map kV))∧RelV p.2 q.2.2
theorem KT.val {H:Hp}{kvs:List (List Key×V)}{xs:List (List Key×Addr×ag)} (r:KT H kvs xs) (k:List Key):mY (jw kvs k) ((atKey xs k).map (·.2)):=by
 induction r with
 | nil=>exact ox
 | @cons p q ps qs h t ih=>
  obtain ⟨h1,_,h2⟩:=h
  by_cases e:p.1=k
  · have e':q.1=k:=h1.symm.trans e
    have b:atKey (q::qs) k=some q.2:=by simp[atKey,n0,e']
    rw[uc e,b];exact h2
  · have e':¬ q.1=k:=fun z=>e (h1.trans z)
    have b:atKey (q::qs) k=atKey qs k:=by simp[atKey,n0,e']
    rw[uf e,b];exact ih
theorem KT.repl {H:Hp}{kvs:List (List Key×V)}{xs:List (List Key×Addr×ag)} (r:KT H kvs xs) (k:List Key) {y:V}{u:ag} (ry:RelV y u) :
 KT H (kvs.map fun kv=>if kv.1=k then (kv.1,y) else kv) (xs.map (putAt k u)):=by
 induction r with
 | nil=>exact .nil
 | @cons p q ps qs h t ih=>
  rw[dy,dy]
  refine .cons ?_ ih
  obtain ⟨h1,h2,h3⟩:=h
  unfold putAt
  by_cases e:p.1=k
  · rw[if_pos e,if_pos (h1.symm.trans e)];exact ⟨h1,h2,ry⟩
  · rw[if_neg e,if_neg (fun z=>e (h1.trans z))];exact ⟨h1,h2,h3⟩
theorem KT.put {H:Hp}{kvs:List (List Key×V)}{xs:List (List Key×Addr×ag)} (r:KT H kvs xs) (k:List Key) {b:Addr}{y:V}{u:ag} (hb:H b=some (.tup (k.map kV))) (ry:RelV y u) :
 KT H (putK kvs k y) (storedH xs k b u):=by
 have e:(kvs.any fun kv=>decide (kv.1=k))=(atKey xs k).isSome:=by
  rw[Hu,(r.val k).nJ,ra]
 unfold putK storedH
 rw[e]
 by_cases q:(atKey xs k).isSome=true
 · rw[if_pos q,if_pos q];exact r.repl k ry
 · rw[if_neg q,if_neg q];exact qk.snoc r ⟨rfl,hb,ry⟩
theorem KT.keeps {H H':Hp}{kvs:List (List Key×V)}{xs:List (List Key×Addr×ag)} (r:KT H kvs xs) (ht:∀b ys,H b=some (.tup ys)→H' b=some (.tup ys)):KT H' kvs xs:=
 Paired.yr r fun _ _ z=>⟨z.1,ht _ _ z.2.1,z.2.2⟩
section
variable {P:cc}{w:eK}{H:Hp}{h:Heap}{a:Addr}
theorem T9 {u:HO} (ok:HOk P w H h) (e:Rd H a u):dF P w H h a u:=e.ok ok
theorem m7 {kvs:List (Key×V)} (ok:HOk P w H h) (e:Rd H a (.dK kvs)):kvs.length≤bg∧(a == kg)=false∧∃vs,KV kvs vs∧h.DictOf (bD P w) a vs:=
 show dF P w H h a (.dK kvs) from T9 ok e
theorem Ua {kvs:List (Key×V)} (ok:HOk P w H h) (e:H a=some (.dK kvs)):kvs.length≤bg∧(a == kg)=false∧∃vs,KV kvs vs∧h.DictOf (bD P w) a vs:=m7 ok (.inl e)
theorem rM {ks:List Key} (ok:HOk P w H h) (e:H a=some (.tup (ks.map kV))):(xw (bD P w)).is h ks a:=by
 obtain ⟨_,its,r,o,h1,h2,n,h3⟩:=(show dF P w H h a (.tup (ks.map kV)) from ok a _ e)
 exact ⟨o,its.toArray,n,h1,h2,h3,by simpa using CT r⟩
theorem uA {kvs:List (List Key×V)} (ok:HOk P w H h) (e:Rd H a (.dT kvs)):kvs.length≤bg∧(a == kg)=false ∧
 ∃xs,KT H kvs xs∧h.DictOfH (xw (bD P w)) a xs:=by
 obtain ⟨z,y,xs,r,o,es,ep,h1,h2,h3,h4,h5⟩:=(show dF P w H h a (.dT kvs) from T9 ok e)
 refine ⟨z,y,xs,r,o,es,ep,h1,h2,h3,h4,fun x hx=>?_,h5⟩
 have all:∀{l:List (List Key×V)}{m:List (List Key×Addr×ag)},KT H l m→∀x∈m,(xw (bD P w)).is h x.1 x.2.1:=by
  intro l m q
  induction q with
  | nil=>intro x hx;exact nomatch hx
  | @cons p q ps qs hq t ih=>
   intro x hx
   rcases de.mp hx with e | hx
   · subst e
     exact rM ok (by rw[← hq.1];exact hq.2.1)
   · exact ih x hx
 exact all r x hx
theorem abv {kvs:List (List Key×V)} (ok:HOk P w H h) (e:H a=some (.dT kvs)):kvs.length≤bg∧(a == kg)=false ∧
 ∃xs,KT H kvs xs∧h.DictOfH (xw (bD P w)) a xs:=uA ok (.inl e)
end
noncomputable def yz (H:Hp) (a:Addr) (y:V) (r:Option V):Prop:=
 (∃kvs k,Rd H a (.dK kvs)∧y=kV k∧r=jw kvs k)∨∃kvs k b,Rd H a (.dT kvs)∧y = .ref b∧H b=some (.tup (k.map kV))∧r=jw kvs k
noncomputable def Bq (H:Hp) (a:Addr) (y v:V) (H':Hp):Prop:=
 (∃kvs k,H a=some (.dK kvs)∧y=kV k∧kvs.length < bg∧H'=upd H a (.dK (putK kvs k v))) ∨
 ∃kvs k b,H a=some (.dT kvs)∧y = .ref b∧H b=some (.tup (k.map kV))∧kvs.length < bg∧H'=upd H a (.dT (putK kvs k v))
theorem Bq.k {H:Hp}{a:Addr}{kvs:List (Key×V)}{k:Key}{v:V} (e:H a=some (.dK kvs)) (hl:kvs.length < bg):Bq H a (kV k) v (upd H a (.dK (putK kvs k v))):=.inl ⟨kvs,k,e,rfl,hl,rfl⟩
section
variable {X:Cx}{pins:List (Addr×Obj)}{σ:St}{H:Hp}{s:ar}{a:Addr}{y v:V}{u r:ag}{o:Option V}{A:eI}{E:ag→ar→Prop}
theorem Inv.big (I:Inv X pins σ H s):kg < s.heap.objs.size:=by
 have h:ba < s.heap.objs.size:=(I.mod.glob.keeps I.bk).lt
 exact y0 (by decide) h
theorem Ou {Q:ag→ar→Prop} (hu:A.units+1 < nV) (I:Inv X pins σ H s) (g:yz H a y (some v)) (ry:RelV y u) (h:∀w' s',Inv X pins σ H s'→RelV v w'→Q w' s') :
 cn (cx X.prog X.w) A (ua (.ref a) u) Q E s:=by
 rcases g with ⟨kvs,k,e,ey,l⟩ | ⟨kvs,k,b,e,ey,eb,l⟩
 · subst ey
   obtain ⟨z,hd,vs,rel,dd⟩:=m7 I.hok e
   obtain ⟨w',hw,rw'⟩:=mY.some_of (v:=v) (o:=qV vs k) (by rw[l];exact rel.val k)
   exact wpAny_getItem_of (tX ry) dd.mapOf hw (h w' _ (I.tok _) rw')
 · subst ey
   cases (show u=eL b from ry)
   obtain ⟨z,hd,xs,rel,dd⟩:=uA I.hok e
   obtain ⟨w',hw,rw'⟩:=mY.some_of (v:=v) (o:=(atKey xs k).map (·.2)) (by rw[l];exact rel.val k)
   obtain ⟨p,hp,hp2⟩:=y3.mp hw
   refine wpAny_getItem_heap (nK hu) (rM I.hok eb) dd hp ?_
   rw[hp2]
   exact h w' _ (I.tok _) rw'
theorem acK {Q:ag→ar→Prop} (hu:A.units+1 < nV) (I:Inv X pins σ H s) (g:yz H a y o) (ry:RelV y u) (h:∀s',Inv X pins σ H s'→Q (.bool o.isSome) s') :
 cn (cx X.prog X.w) A (gE .In u (.ref a)) Q E s:=by
 rcases g with ⟨kvs,k,e,ey,l⟩ | ⟨kvs,k,b,e,ey,eb,l⟩
 · subst ey
   obtain ⟨z,hd,vs,rel,dd⟩:=m7 I.hok e
   refine wpAny_in_of (tX ry) hd dd.mapOf ?_
   rw[← (rel.val k).nJ,← l]
   exact h _ (I.tok _)
 · subst ey
   cases (show u=eL b from ry)
   obtain ⟨z,hd,xs,rel,dd⟩:=uA I.hok e
   refine wpAny_in_heap (nK hu) (rM I.hok eb) hd dd ?_
   have q:=(rel.val k).nJ
   rw[ra] at q
   rw[← q,← l]
   exact h _ (I.tok _)
theorem Wm {Q:ag→ar→Prop} (hu:A.units+1 < nV) (I:Inv X pins σ H s) (g:yz H a y o) (ry:RelV y u) (h:∀s',Inv X pins σ H s'→Q (.bool (!o.isSome)) s') :
 cn (cx X.prog X.w) A (gE .NotIn u (.ref a)) Q E s:=by
 rcases g with ⟨kvs,k,e,ey,l⟩ | ⟨kvs,k,b,e,ey,eb,l⟩
 · subst ey
   obtain ⟨z,hd,vs,rel,dd⟩:=m7 I.hok e
   refine wpAny_notIn_of (tX ry) hd dd.mapOf ?_
   rw[← (rel.val k).nJ,← l]
   exact h _ (I.tok _)
 · subst ey
   cases (show u=eL b from ry)
   obtain ⟨z,hd,xs,rel,dd⟩:=uA I.hok e
   refine wpAny_notIn_heap (nK hu) (rM I.hok eb) hd dd ?_
   have q:=(rel.val k).nJ
   rw[ra] at q
   rw[← q,← l]
   exact h _ (I.tok _)
theorem Bb {h':Heap}{t':Nat}{ob:HO} (I:Inv X pins σ H s) (mu:Mut (H a)) (hs:x9 a s.heap h') (he:∃q,h'.get? a=some q) (new:dF X.prog X.w (upd H a ob) h' a ob) :
 Inv X pins σ (upd H a ob) { s with heap:=h',toks:=t' }:=
 I.write (x:=a) (e:=a) mu (.inl rfl) (fun b q hb z=>(hs.2 b hb).trans z) he new
theorem Mu {P:cc}{w:eK}{H':Hp}{h':Heap}{kvs:List (Key×V)}{vs:List (Key×ag)} (z:kvs.length≤bg) (hd:(a == kg)=false) (rel:KV kvs vs) (dd:h'.DictOf (bD P w) a vs) :
 dF P w H' h' a (.dK kvs):=⟨z,hd,vs,rel,dd⟩
theorem Py {H':Hp}{Q:Unit→ar→Prop} (hu:A.units+1 < nV) (I:Inv X pins σ H s) (g:Bq H a y v H') (ry:RelV y u) (rv:RelV v r) (h:∀s',Inv X pins σ H' s'→Q () s') :
 cn (cx X.prog X.w) A (setItem (.ref a) u r) Q E s:=by
 rcases g with ⟨kvs,k,e,ey,l,eH⟩ | ⟨kvs,k,b,e,ey,eb,l,eH⟩
 · subst ey eH
   obtain ⟨z,hd,vs,rel,dd⟩:=Ua I.hok e
   have hz:vs.length≤bg:=by rw[← rel.length];exact z
   have hl:(putK kvs k v).length≤bg:=by have:=xV kvs k v;omega
   refine wpAny_setItem_pairs (hsz:=hz) (tX ry) dd fun h' dd' hs=>h _ ?_
   have he:∃q,h'.get? a=some q:=let ⟨q,_,_,hq,_⟩:=dd';⟨q,hq⟩
   exact Bb I (by rw[e];exact ox) hs he (Mu hl hd (rel.put k rv) dd')
 · subst ey eH
   cases (show u=eL b from ry)
   obtain ⟨z,hd,xs,rel,dd⟩:=abv I.hok e
   have hz:xs.length≤bg:=by rw[← qk.length rel];exact z
   have hl:(putK kvs k v).length≤bg:=by have:=xV kvs k v;omega
   refine wpAny_setItem_heap (hsz:=hz) (nK hu) (rM I.hok eb) dd fun h' dd' hs=>h _ ?_
   obtain ⟨q,es,ep,hq,h2,h3,h4,_,h5⟩:=dd'
   refine Bb I (by rw[e];exact ox) hs ⟨q,hq⟩ ⟨hl,hd,_,(rel.put k eb rv).keeps fun c ys ec=>?_,q,es,ep,hq,h2,h3,h4,h5⟩
   rw[aK (abp ec e (fun z=>nomatch z))]
   exact ec
end
section
variable {X:Cx}{pins:List (Addr×Obj)}{σ:St}{H:Hp}{s:ar}{a:Addr}{kvs:List (Key×V)}{k:Key}{u:ag}{A:eI}{E:ag→ar→Prop}
theorem aa1 {v:V}{more:List ag}{Q:ag→ar→Prop} (I:Inv X pins σ H s) (e:H a=some (.dK kvs)) (ry:RelV (kV k) u) (l:jw kvs k=some v) (hm:more=[]∨∃x,more=[x])
 (h:∀w' s',Inv X pins σ (upd H a (.dK (qR kvs k))) s'→RelV v w'→Q w' s'):cn (cx X.prog X.w) A (call (.builtin "dict.pop") (.ref a::u::more)) Q E s:=by
 obtain ⟨z,hd,vs,rel,dd⟩:=Ua I.hok e
 obtain ⟨w',hw,rw'⟩:=mY.some_of (v:=v) (o:=qV vs k) (by rw[← l];exact rel.val k)
 have hp:(keyPart u).isSome=true:=by
  cases k with
  | inl i=>obtain ⟨t,q⟩:=(show ∃t,u=ag.int i t from ry);subst q;rfl
  | inr x=>obtain ⟨t,q⟩:=(show ∃t,u=ag.str x t from ry);subst q;rfl
 have ha:argsOk "dict.pop" ⟨.ref a::u::more,[]⟩:=by
  rcases hm with q | ⟨x,q⟩
  · subst q;exact PySem.F.args_dict_pop_2 _ _
  · subst q;exact PySem.F.args_dict_pop_3 _ _ _
 refine y6 PySem.F.slot_dict_pop dd.typeIs PySem.F.entry_dict_pop ha (meets_dict_pop_there (bD X.prog X.w) a (tX ry) more hm hp)
  ⟨vs,w',dd,by rw[← rel.length];exact z,hw,fun h' dd' hs=>h w' _ ?_ rw'⟩
 have he:∃q,h'.get? a=some q:=let ⟨q,_,_,hq,_⟩:=dd';⟨q,hq⟩
 exact Bb I (by rw[e];exact ox) hs he (Mu (eR (RN kvs k) z) hd (rel.drop k) dd')
theorem abt {Q:ag→ar→Prop} (I:Inv X pins σ H s) (e:Rd H a (.dK kvs)) (h:∀t s',Inv X pins σ H s'→Q (.int kvs.length t) s'):cn (cx X.prog X.w) A (call (.builtin "len") [.ref a]) Q E s:=by
 obtain ⟨z,hd,vs,rel,dd⟩:=m7 I.hok e
 refine call_len_dict hd dd (by rw[← rel.length];rw[sizeLine_eq] at z;omega) ?_
 rw[← rel.length]
 exact h _ _ (I.tok _)
end
noncomputable def Su (i:Expr):Prop:=∀ov iv,wd i false ov iv=operate [ov,iv] (ua ov iv)
theorem Jo {prog:cc}{w:eK}{A:eI}{E:ag→ar→Prop}{s:ar}{env:Env}{value slice:Expr}{pos:Pos}{T id:String}{Q:ag→ar→Prop}
 (hl:typeLookup (.type T) "__getitem__" = pure (some (.builtin id))) (hs:Su slice)
 (h:cn (cx prog w) A (eval value env) (fun o s₁=>cn (cx prog w) A (eval slice env) (fun i s₂=>s₂.TypeIs o T∧cn (cx prog w) A (ua o i) Q E s₂) E s₁) E s) :
 cn (cx prog w) A (eval (.Subscript value slice pos) env) Q E s:=by
 refine Subscript_ (gc h (fun o s₁ h₁=>gc h₁ (fun i s₂ h₂=>?_) fun _ _ x=>x) fun _ _ x=>x)
 obtain ⟨hT,h₂⟩:=h₂
 unfold xi
 refine ai ?_
 rw[getitemInPython_of_ne hT.not_modules]
 refine ai (qf hT hl ?_)
 have fin:cn (cx prog w) A (wd slice false o i) (fun r s₃=>cn (cx prog w) A (letTemporaryGo value o r >>= fun _=>pure r) Q E s₃) E s₂:=by
  rw[hs o i]
  exact wpAny_operating (gc h₂ (fun r s₃ h₃=>ai (wpAny_letTemporaryGo (ay h₃))) fun _ _ x=>x)
 first
  | exact ay (ai fin)
  | exact ai (ay (ai fin))
  | exact ai fin
theorem HX {X:Cx}{pins:List (Addr×Obj)}{σ:St}{H:Hp}{s:ar}{a:Addr}{y:V}{o:Option V} (I:Inv X pins σ H s) (g:yz H a y o):s.TypeIs (.ref a) "dict" := by
 rcases g with ⟨kvs,k,e,_,_⟩ | ⟨kvs,k,b,e,_,_,_⟩
 · obtain ⟨_,_,vs,_,dd⟩:=m7 I.hok e
   exact dd.typeIs
 · obtain ⟨_,_,xs,_,dd⟩:=uA I.hok e
   exact dd.typeIs
noncomputable def aa2 (td ty tv:TE):TS:=fun D σ H=>tv σ H fun v H1=>td σ H1 fun x H2=>ty σ H2 fun y H3=>∃a H4,x = .ref a∧Bq H3 a y v H4∧D.nx σ H4
section
variable {X:Cx}{o i e value:Expr}{pos pos' tpos:Pos}{td ty tv:TE}
theorem Jc (hu:X.A.units+1 < nV) (ho:PE X o td) (hi:PE X i ty) (hv:PE X value tv) (hs:kr value (some (.Subscript o i pos')) pos.line X.env=pure false) :
 PS X (.Assign [.Subscript o i pos'] value pos) (aa2 td ty tv):=by
 intro pins s σ H D I h
 refine wpAny_Assign_Subscript (thn (hv pins s σ H _ I h) fun r s1 ⟨v,H1,I1,rv,q1⟩=>thn (ho pins s1 σ H1 _ I1 q1) fun u s2 ⟨x,H2,I2,rx,q2⟩=>thn (hi pins s2 σ H2 _ I2 q2) fun iv s3 ao=>?_) hs
 obtain ⟨y,H3,I3,ry,a,H4,ex,g,q3⟩:=ao
 subst ex
 obtain rfl:u=eL a:=rx
 exact Py hu I3 g ry rv fun s4 I4=>⟨σ,H4,I4,q3⟩
end
theorem Qk {P:cc}{w:eK}{H:Hp} (h:Heap) (hb:kg < h.objs.size):dF P w H (h.push { cls:=.type "dict",data:=.dict #[] }) h.objs.size (.dK []):=
 ⟨iE _,beq_eq_false_iff_ne.mpr (oP (gL hb)),[],.nil,Heap.DictOf.new h⟩
noncomputable def Yw:TE:=fun _ H Q=>∀p,H p=none→Q (.ref p) (upd H p (.dK []))
section
variable {X:Cx}{pos:Pos}
theorem R0:PE X (.Dict [] [] pos) Yw:=fun pins s σ H Q I h=>
 wpAny_Dict_empty ⟨.ref s.heap.objs.size,_,I.laid (a:=s.heap.objs.size) (o:=.dK []) (t':=s.toks) (fun _ _ q=>aS _ q) (aE _) (Qk s.heap I.big),rfl,h _ (I.hok.fresh (aE _))⟩
end
structure M1 (X:Cx) (o:Expr) (m:Str) (apos:Pos) (e:Expr) (cpos:Pos):Prop where
 base:jS o m X.env (eval o X.env)=eval o X.env
 few:((lI cpos (d5 [e] X.env)).all (fun x=>!x.1)&&(zv cpos (sL [] X.env)).all (fun x=>x.1.isSome)
  && decide (([e]:List Expr).length+([]:List qc).length+(if ([]:List qc).isEmpty then 0 else 1) < 30))=true
 line:(apos.endLine == cpos.line)=true
 trees:lI cpos (d5 [e] X.env)=[(false,eval e X.env)]
structure M2 (X:Cx) (o:Expr) (m:Str) (apos:Pos) (e f:Expr) (cpos:Pos):Prop where
 base:jS o m X.env (eval o X.env)=eval o X.env
 few:((lI cpos (d5 [e,f] X.env)).all (fun x=>!x.1)&&(zv cpos (sL [] X.env)).all (fun x=>x.1.isSome)
  && decide (([e,f]:List Expr).length+([]:List qc).length+(if ([]:List qc).isEmpty then 0 else 1) < 30))=true
 line:(apos.endLine == cpos.line)=true
 trees:lI cpos (d5 [e,f] X.env)=[(false,eval e X.env),(false,eval f X.env)]
noncomputable def IsD (H:Hp) (a:Addr):Prop:=(∃kvs,Rd H a (.dK kvs))∨∃kvs,Rd H a (.dT kvs)
theorem Hh {X:Cx}{pins:List (Addr×Obj)}{σ:St}{H:Hp}{s:ar}{a:Addr} (I:Inv X pins σ H s) (d:IsD H a) :
 s.TypeIs (.ref a) "dict" ∧ (∀b,eL a = .ref b→∃ob,s.heap.get? b=some ob∧ob.dict=none)∧(a == kg)=false:=by
 rcases d with ⟨kvs,e⟩ | ⟨kvs,e⟩
 · obtain ⟨_,hd,vs,_,dd⟩:=m7 I.hok e
   refine ⟨dd.typeIs,fun b q=>?_,hd⟩
   cases q
   obtain ⟨ob,_,_,h1,h2,_⟩:=dd
   exact ⟨ob,h1,h2.2.1⟩
 · obtain ⟨_,hd,xs,_,dd⟩:=uA I.hok e
   refine ⟨dd.typeIs,fun b q=>?_,hd⟩
   cases q
   obtain ⟨ob,_,_,h1,h2,_⟩:=dd
   exact ⟨ob,h1,h2.2.1⟩
section
variable {X:Cx}{pins:List (Addr×Obj)}{σ:St}{H:Hp}{s:ar}{a:Addr}{y d:V}{u r:ag}{o:Option V}{A:eI}{E:ag→ar→Prop}
theorem Zv {Q:ag→ar→Prop} (hu:A.units+1 < nV) (I:Inv X pins σ H s) (g:yz H a y o) (ry:RelV y u) (rd:RelV d r) (h:∀w' s',Inv X pins σ H s'→RelV (o.getD d) w'→Q w' s') :
 cn (cx X.prog X.w) A (call (.builtin "dict.get") [.ref a,u,r]) Q E s:=by
 rcases g with ⟨kvs,k,e,ey,l⟩ | ⟨kvs,k,b,e,ey,eb,l⟩
 · subst ey
   obtain ⟨z,hd,vs,rel,dd⟩:=m7 I.hok e
   refine y6 rX dd.typeIs y7 (xB _ _ _) (meets_dict_get_default (bD X.prog X.w) a (tX ry) hd r) ⟨_,dd.mapOf,h _ _ (I.tok _) ?_⟩
   rw[l]
   exact (rel.val k).getD rd
 · subst ey
   cases (show u=eL b from ry)
   obtain ⟨z,hd,xs,rel,dd⟩:=uA I.hok e
   refine y6 rX dd.typeIs y7 (xB _ _ _) (meetsH_dict_get_default (xw (bD X.prog X.w)) a b hd r) ⟨nK hu,k,xs,rM I.hok eb,dd,h _ _ (I.tok _) ?_⟩
   rw[l]
   exact (rel.val k).getD rd
end
noncomputable def YT (td ty tx:TE):TE:=fun σ H Q=>td σ H fun x H1=>∃a,x = .ref a∧IsD H1 a∧ty σ H1 fun y H2=>tx σ H2 fun z H3=>∃o,yz H3 a y o∧Q (o.getD z) H3
noncomputable def Xv (td ty:TE):TE:=fun σ H Q=>td σ H fun x H1=>∃a,x = .ref a∧IsD H1 a∧ty σ H1 fun y H2=>∃kvs k v,H2 a=some (.dK kvs)∧y=kV k∧jw kvs k=some v∧Q v (upd H2 a (.dK (qR kvs k)))
section
variable {X:Cx}{o e f:Expr}{apos cpos:Pos}{td ty tx:TE}
theorem R9 (hu:X.A.units+1 < nV) (ho:PE X o td) (he:PE X e ty) (hf:PE X f tx) (m:M2 X o "get" apos e f cpos):PE X (.Call (.Attribute o "get" apos) [e,f] [] cpos) (YT td ty tx):=by
 intro pins s σ H Q I h
 refine wpAny_Call_method m.base m.few m.line qA rX PySem.F.type_dict_get (thn (ho pins s σ H _ I h) fun u s1 ao=>?_)
 obtain ⟨x,H1,I1,rx,a,ex,d,q1⟩:=ao
 subst ex
 obtain rfl:u=eL a:=rx
 obtain ⟨t1,t2,_⟩:=Hh I1 d
 refine ⟨t1,t2,?_⟩
 rw[m.trees]
 refine lj rfl (oq (kB (thn (he pins s1 σ H1 _ I1 q1) fun iv s2 ⟨y,H2,I2,ry,q2⟩=>
  kB (thn (hf pins s2 σ H2 _ I2 q2) fun fv s3 ⟨z,H3,I3,rz,ov,g,q3⟩=>qE ?_))))
 exact Zv hu I3 g ry rz fun w' s4 I4 rw'=>⟨_,H3,I4,rw',q3⟩
theorem Q7 (ho:PE X o td) (he:PE X e ty) (m:M1 X o "pop" apos e cpos):PE X (.Call (.Attribute o "pop" apos) [e] [] cpos) (Xv td ty):=by
 intro pins s σ H Q I h
 refine wpAny_Call_method m.base m.few m.line qA PySem.F.slot_dict_pop PySem.F.type_dict_pop (thn (ho pins s σ H _ I h) fun u s1 ao=>?_)
 obtain ⟨x,H1,I1,rx,a,ex,d,q1⟩:=ao
 subst ex
 obtain rfl:u=eL a:=rx
 obtain ⟨t1,t2,_⟩:=Hh I1 d
 refine ⟨t1,t2,?_⟩
 rw[m.trees]
 refine lj rfl (oq (kB (thn (he pins s1 σ H1 _ I1 q1) fun iv s2 ⟨y,H2,I2,ry,kvs,k,v,ea,ey,l,q2⟩=>qE ?_)))
 subst ey
 exact aa1 I2 ea ry l (.inl rfl) fun w' s3 I3 rw'=>⟨v,_,I3,rw',q2⟩
end
section
variable {X:Cx}{pins:List (Addr×Obj)}{σ:St}{H:Hp}{s:ar}{a:Addr}{kvs:List (Key×V)}{A:eI}{E:ag→ar→Prop}
end
section
variable {X:Cx}{pins:List (Addr×Obj)}{σ:St}{H:Hp}{s:ar}{a:Addr}{y:V}{u:ag}{A:eI}{E:ag→ar→Prop}
end
noncomputable abbrev iy:=List (List Int)
noncomputable def abb (ks:iy):Int:=reduceHash (Builtin.Tuple.tupleHashOf (ks.map fun k=>reduceHash (Builtin.Tuple.tupleHashOf (k.map hashInt))))
noncomputable def Uj (a:Addr) (xs:List (iy×Addr×ag)):HO:=.ext fun h=>
 xs.length≤bg∧(a == kg)=false∧(xs.map (·.1)).Nodup∧∃o es ep,h.get? a=some o∧o.ExactDict∧o.data = .dict es ep∧es.toList=xs.map fun x=>⟨abb x.1,.ref x.2.1,x.2.2⟩
noncomputable def Kr (K:af) (H:Hp) (ks:iy) (b:Addr):Prop:=∃cs:List Addr,SqT K H b (cs.map V.ref)∧qk (fun (k:List Int) c=>SqT K H c (k.map V.int)) ks cs
noncomputable abbrev KN (K:af) (H:Hp):List (iy×V)→List (iy×Addr×ag)→Prop:=qk fun p q=>p.1=q.1∧Kr K H p.1 q.2.1∧RelV p.2 q.2.2
theorem Kr.keeps {K:af}{H H':Hp}{ks:iy}{b:Addr} (n:Kr K H ks b) (ht:∀b ys,SqT K H b ys→SqT K H' b ys):Kr K H' ks b:=by
 obtain ⟨cs,h1,h2⟩:=n
 exact ⟨cs,ht _ _ h1,Paired.yr h2 fun _ _ z=>ht _ _ z⟩
theorem KN.keeps {K:af}{H H':Hp}{kvs:List (iy×V)}{xs:List (iy×Addr×ag)} (r:KN K H kvs xs) (ht:∀b ys,SqT K H b ys→SqT K H' b ys):KN K H' kvs xs:=
 Paired.yr r fun _ _ z=>⟨z.1,z.2.1.keeps ht,z.2.2⟩
end L2
namespace PySem
open Sem (wp)
section
variable {prog:cc}{w:eK}{K:Type} [DecidableEq K] (knd:KeyKind prog w K)
variable {knd}
variable {A:eI}{E:ag→ar→Prop}{s:ar}
end
end PySem
namespace L2
open PySem PySem.Spec PyProof.Rows
section
variable {X:Cx}{pins:List (Addr×Obj)}{σ:St}{H:Hp}{s:ar}{a b:Addr}{v:V}{u r:ag}{A:eI}{E:ag→ar→Prop}{kvs:List (iy×V)}{xs:List (iy×Addr×ag)}{k:iy}
end
end L2
namespace L3
open PySem PySem.Spec PyProof.Rows L2
structure Exn where
 cls:Str
 arg:Option ae
inductive Res (α:Type) where
 | ok (a:α)
 | err (x:Exn)
 | bad
noncomputable def Res.bind {α β:Type}:Res α→(α→Res β)→Res β
 | .ok a,f=>f a
 | .err x,_=>.err x
 | .bad,_=>.bad
@[simp] theorem Res.aV {α β:Type} (a:α) (f:α→Res β):(Res.ok a).bind f=f a:=rfl
theorem Res.aA {α β:Type}{r:Res α}{f:α→Res β}{b:β} (h:r.bind f = .ok b):∃a,r = .ok a∧f a = .ok b:=by
 cases r with
 | ok a=>exact ⟨a,rfl,h⟩
 | err x=>cases h
 | bad=>cases h
noncomputable def gd {α:Type} (c:Prop) [Decidable c] (r:Res α):Res α:=if c then r else .bad
theorem b7 {α:Type}{c:Prop} [Decidable c] {r:Res α}{a:α} (h:gd c r = .ok a):c∧r = .ok a:=by
 unfold gd at h
 by_cases hc:c
 · rw[if_pos hc] at h;exact ⟨hc,h⟩
 · rw[if_neg hc] at h;cases h
theorem bM {α:Type}{c:Prop} [Decidable c] {r:Res α} (h:c):gd c r=r:=if_pos h
noncomputable abbrev Ev:=List (Option ae)
inductive Out where
 | nx (Γ:Ev)
 | rt (d:ae)
 | bk (Γ:Ev)
 | ct (Γ:Ev)
noncomputable abbrev ME:=Ev→Res ae
noncomputable abbrev MS:=Ev→Res Out
noncomputable def bB:ae→Option Key
 | .int i=>some (.inl i)
 | .str x=>some (.inr x)
 | _=>none
mutual
noncomputable def Rp (K:af) (A:Hp):ae→V→Prop
 | .none,v=>v = .non
 | .bool b,v=>v = .bl b
 | .int i,v=>v = .int i
 | .str x,v=>v = .str x
 | .list ds,v=>∃a vs,v = .ref a∧SqL K A a vs∧aB K A ds vs
 | .tuple ds,v=>∃a vs,v = .ref a∧SqT K A a vs∧aB K A ds vs
 | .dict kvs,v=>∃a u,v = .ref a∧Rd A a (.dK u)∧aQ K A kvs u
noncomputable def aB (K:af) (A:Hp):List ae→List V→Prop
 | [],vs=>vs=[]
 | d::ds,vs=>∃v r,vs=v::r∧Rp K A d v∧aB K A ds r
noncomputable def aQ (K:af) (A:Hp):List (ae×ae)→List (Key×V)→Prop
 | [],u=>u=[]
 | (k,d)::r,u=>∃key v u',u=(key,v)::u'∧bB k=some key∧Rp K A d v∧aQ K A r u'
end
theorem aC.rd {H H':Hp} (e:aC H H') {a:Addr}{u:HO} (h:Rd H a u):Rd H' a u:=by
 rcases h with h | ⟨o,h⟩
 · exact .inl (e _ _ h)
 · exact .inr ⟨o,e _ _ h⟩
mutual
theorem Rp.mono {K:af}{H H':Hp} (e:aC H H'):∀(d:ae) {v:V},Rp K H d v→Rp K H' d v
 | .none,v,h=>by rw[Rp] at h ⊢;exact h
 | .bool _,v,h=>by rw[Rp] at h ⊢;exact h
 | .int _,v,h=>by rw[Rp] at h ⊢;exact h
 | .str _,v,h=>by rw[Rp] at h ⊢;exact h
 | .list ds,v,h=>by
  rw[Rp] at h ⊢
  obtain ⟨a,vs,h1,h2,h3⟩:=h
  exact ⟨a,vs,h1,e.seq h2,aB.mono e ds h3⟩
 | .tuple ds,v,h=>by
  rw[Rp] at h ⊢
  obtain ⟨a,vs,h1,h2,h3⟩:=h
  exact ⟨a,vs,h1,e.qg h2,aB.mono e ds h3⟩
 | .dict kvs,v,h=>by
  rw[Rp] at h ⊢
  obtain ⟨a,u,h1,h2,h3⟩:=h
  exact ⟨a,u,h1,aC.rd e h2,aQ.mono e kvs h3⟩
theorem aB.mono {K:af}{H H':Hp} (e:aC H H'):∀(ds:List ae) {vs:List V},aB K H ds vs→aB K H' ds vs
 | [],vs,h=>by rw[aB] at h ⊢;exact h
 | d::ds,vs,h=>by
  rw[aB] at h ⊢
  obtain ⟨v,r,h1,h2,h3⟩:=h
  exact ⟨v,r,h1,Rp.mono e d h2,aB.mono e ds h3⟩
theorem aQ.mono {K:af}{H H':Hp} (e:aC H H'):∀(kvs:List (ae×ae)) {u:List (Key×V)},aQ K H kvs u→aQ K H' kvs u
 | [],u,h=>by rw[aQ] at h ⊢;exact h
 | (k,d)::r,u,h=>by
  rw[aQ] at h ⊢
  obtain ⟨key,v,u',h1,h2,h3,h4⟩:=h
  exact ⟨key,v,u',h1,h2,Rp.mono e d h3,aQ.mono e r h4⟩
end
mutual
theorem Rp.is {K:af}{H:Hp}:∀(d:ae) {v:V},d.canLay0=true→Rp K H d v→Is K H d v
 | .none,v,_,h=>by rw[Rp] at h;rw[Is];exact h
 | .bool _,v,_,h=>by rw[Rp] at h;rw[Is];exact h
 | .int _,v,_,h=>by rw[Rp] at h;rw[Is];exact h
 | .str _,v,_,h=>by rw[Rp] at h;rw[Is];exact h
 | .list ds,v,c,h=>by
  rw[Rp] at h;rw[Is]
  rw[eW] at c
  obtain ⟨a,vs,h1,h2,h3⟩:=h
  exact ⟨a,vs,h1,h2,aB.is ds c h3⟩
 | .tuple ds,v,c,h=>by
  rw[Rp] at h;rw[Is]
  rw[eW] at c
  obtain ⟨a,vs,h1,h2,h3⟩:=h
  exact ⟨a,vs,h1,h2,aB.is ds c h3⟩
 | .dict _,v,c,h=>by rw[eW] at c;cases c
theorem aB.is {K:af}{H:Hp}:∀(ds:List ae) {vs:List V},dA ds=true→aB K H ds vs→dh K H ds vs
 | [],vs,_,h=>by rw[aB] at h;rw[dh];exact h
 | d::ds,vs,c,h=>by
  rw[aB] at h;rw[dh]
  rw[dA,dS] at c
  obtain ⟨v,r,h1,h2,h3⟩:=h
  exact ⟨v,r,h1,Rp.is d c.1 h2,aB.is ds c.2 h3⟩
end
section
variable {K:af}{A H:Hp}{v:V}
theorem Rp.int {i:Int}:Rp K A (.int i) v↔v = .int i:=by rw[Rp]
theorem Rp.bool {b:Bool}:Rp K A (.bool b) v↔v = .bl b:=by rw[Rp]
theorem Rp.none:Rp K A .none v↔v = .non:=by rw[Rp]
theorem Rp.str {x:Str}:Rp K A (.str x) v↔v = .str x:=by rw[Rp]
theorem Rp.list {ds:List ae}:Rp K A (.list ds) v↔∃a vs,v = .ref a∧SqL K A a vs∧aB K A ds vs:=by rw[Rp]
theorem Rp.tuple {ds:List ae}:Rp K A (.tuple ds) v↔∃a vs,v = .ref a∧SqT K A a vs∧aB K A ds vs:=by rw[Rp]
theorem aB.nil {vs:List V}:aB K A [] vs↔vs=[]:=by rw[aB]
theorem aB.cons {d:ae}{ds:List ae}{vs:List V}:aB K A (d::ds) vs↔∃v r,vs=v::r∧Rp K A d v∧aB K A ds r:=by rw[aB]
theorem aB.length:∀{ds:List ae}{vs:List V},aB K A ds vs→ds.length=vs.length
 | [],vs,h=>by rw[aB.nil] at h;rw[h];rfl
 | d::ds,vs,h=>by
  rw[aB.cons] at h
  obtain ⟨v,r,rfl,_,h⟩:=h
  rw[cE,cE,aB.length h]
theorem aB.get:∀{ds:List ae}{vs:List V}{i:Nat}{x:V},aB K A ds vs→vs[i]?=some x→∃d,ds[i]?=some d∧Rp K A d x
 | [],vs,i,x,h,e=>by rw[aB.nil] at h;subst h;simp at e
 | d::ds,vs,i,x,h,e=>by
  rw[aB.cons] at h
  obtain ⟨v,r,rfl,h1,h⟩:=h
  match i with
  | 0=>simp at e;subst e;exact ⟨d,rfl,h1⟩
  | i+1=>
   have e':r[i]?=some x:=by simpa using e
   obtain ⟨d',h2,h3⟩:=aB.get h e'
   exact ⟨d',by simpa using h2,h3⟩
theorem aB.get':∀{ds:List ae}{vs:List V}{i:Nat}{d:ae},aB K A ds vs→ds[i]?=some d→∃x,vs[i]?=some x∧Rp K A d x
 | [],vs,i,x,h,e=>by simp at e
 | d::ds,vs,i,x,h,e=>by
  rw[aB.cons] at h
  obtain ⟨v,r,rfl,h1,h⟩:=h
  match i with
  | 0=>simp at e;subst e;exact ⟨v,rfl,h1⟩
  | i+1=>
   have e':ds[i]?=some x:=by simpa using e
   obtain ⟨d',h2,h3⟩:=aB.get' h e'
   exact ⟨d',by simpa using h2,h3⟩
theorem aB.append:∀{ds es:List ae}{vs us:List V},aB K A ds vs→aB K A es us→aB K A (ds++es) (vs++us)
 | [],es,vs,us,h,g=>by rw[aB.nil] at h;subst h;exact g
 | d::ds,es,vs,us,h,g=>by
  rw[aB.cons] at h
  obtain ⟨v,r,rfl,h1,h⟩:=h
  rw[kK,kK,aB.cons]
  exact ⟨v,r++us,rfl,h1,aB.append h g⟩
theorem aB.one {d:ae}{x:V} (h:Rp K A d x):aB K A [d] [x]:=by rw[aB.cons];exact ⟨x,[],rfl,h,aB.nil.mpr rfl⟩
theorem aB.take:∀{ds:List ae}{vs:List V} (n:Nat),aB K A ds vs→aB K A (ds.take n) (vs.take n)
 | _,_,0,_=>by rw[zw,zw];exact aB.nil.mpr rfl
 | [],vs,n+1,h=>by rw[aB.nil] at h;subst h;exact aB.nil.mpr rfl
 | d::ds,vs,n+1,h=>by
  rw[aB.cons] at h
  obtain ⟨v,r,rfl,h1,h⟩:=h
  rw[List.take_succ_cons,List.take_succ_cons,aB.cons]
  exact ⟨v,_,rfl,h1,aB.take n h⟩
theorem aB.drop:∀{ds:List ae}{vs:List V} (n:Nat),aB K A ds vs→aB K A (ds.drop n) (vs.drop n)
 | _,_,0,h=>by rw[vj,vj];exact h
 | [],vs,n+1,h=>by rw[aB.nil] at h;subst h;exact aB.nil.mpr rfl
 | d::ds,vs,n+1,h=>by
  rw[aB.cons] at h
  obtain ⟨v,r,rfl,h1,h⟩:=h
  rw[List.drop_succ_cons,List.drop_succ_cons]
  exact aB.drop n h
theorem aB.reverse:∀{ds:List ae}{vs:List V},aB K A ds vs→aB K A ds.reverse vs.reverse
 | [],vs,h=>by rw[aB.nil] at h;subst h;exact aB.nil.mpr rfl
 | d::ds,vs,h=>by
  rw[aB.cons] at h
  obtain ⟨v,r,rfl,h1,h⟩:=h
  rw[wm,wm]
  exact (aB.reverse h).append (aB.one h1)
theorem aB.ints {ns:List Int}:aB K A (ns.map ae.int) (ns.map V.int):=by
 induction ns with
 | nil=>exact aB.nil.mpr rfl
 | cons n ns ih=>exact aB.cons.mpr ⟨_,_,rfl,Rp.int.mpr rfl,ih⟩
end
inductive Fl where
 | imm | bor | own | fix (p:Addr) | exc (C:Addr) | nst (b:Bool)
 deriving DecidableEq
noncomputable def isO:Fl→Bool
 | .own=>true
 | .fix _=>true
 | _=>false
noncomputable def isX:Fl→Bool
 | .exc _=>true
 | .nst _=>true
 | _=>false
noncomputable def Yh (A:Hp) (C:Addr) (v:V):Prop:=∃p ob,v = .ref p∧A p=some (.frz ob (.own 0))∧ob.cls = .ref C
noncomputable def TY:List ae→Option (List Int)
 | []=>some []
 | .int i::r=>match TY r with
  | some l=>some (i::l)
  | none=>none
 | _::_=>none
noncomputable def Um:List ae→Option iy
 | []=>some []
 | .tuple ds::r=>match TY ds,Um r with
  | some a,some b=>some (a::b)
  | _,_=>none
 | _::_=>none
noncomputable def adQ:ae→Option iy
 | .tuple ds=>Um ds
 | _=>none
noncomputable def RpN (K:af) (A:Hp) (kvs:List (ae×ae)) (xs:List (iy×Addr×ag)):Prop:=∃us:List (iy×V),KN K A us xs∧qk (fun p q=>adQ p.1=some q.1∧Rp K A p.2 q.2) kvs us
noncomputable def acg (K:af) (A B H:Hp) (d:ae) (v:V):Prop:=∃p xs kvs,v = .ref p∧d = .dict kvs∧H p=some (Uj p xs)∧A p=none∧B p=none∧RpN K A kvs xs
noncomputable def Pk (K:af) (A H:Hp) (d:ae) (v:V):Prop:=
 Rp K A d v∨(∃p vs ds,v = .ref p∧d = .list ds∧SqL K H p vs∧aB K A ds vs)∨∃p u kvs,v = .ref p∧d = .dict kvs∧Rd H p (.dK u)∧aQ K A kvs u
noncomputable def gZ (K:af) (A:Hp) (d:ae) (o:HO):Prop:=(∃ds vs,d = .list ds∧o = .lst vs∧aB K A ds vs)∨∃kvs u,d = .dict kvs∧o = .dK u∧aQ K A kvs u
noncomputable def Own (K:af) (A B H:Hp) (d:ae) (v:V):Prop:=∃p o,v = .ref p∧H p=some o∧A p=none∧B p=none∧gZ K A d o
noncomputable def wN (K:af) (A B H:Hp):Fl→ae→V→Prop
 | .imm,d,v=>Rp K A d v
 | .bor,d,v=>Pk K A B d v
 | .own,d,v=>Own K A B H d v
 | .fix p,d,v=>v = .ref p∧Own K A B H d v
 | .exc C,_,v=>Yh A C v
 | .nst b,d,v=>b=true→acg K A B H d v
noncomputable def Slot (K:af) (A B H:Hp) (f:Fl) (d:Option ae) (v:Option V):Prop:=∀d',d=some d'→∃v',v=some v'∧wN K A B H f d' v'
noncomputable abbrev fl (O:List Fl) (i:Nat):Fl:=O.getD i .imm
noncomputable abbrev gv (Γ:Ev) (i:Nat):Option ae:=Γ.getD i none
noncomputable abbrev sv (σ:L2.St) (i:Nat):Option V:=σ.getD i none
structure aN (K:af) (A B H:Hp) (O:List Fl) (σ:L2.St) (Γ:Ev):Prop where
 a:aC A H
 b:aC B H
 len:Γ.length=σ.length
 slot:∀i,Slot K A B H (fl O i) (gv Γ i) (sv σ i)
 sep:∀i j,i≠j→isO (fl O i)=true→isO (fl O j)=true→gv Γ i≠none→gv Γ j≠none→sv σ i≠sv σ j
noncomputable def New (A A' B:Hp):Prop:=∀p,A p=none→B p≠none→A' p=none
structure aM (A H A' H':Hp):Prop where
 aa:aC A A'
 hh:aC H H'
 ah:aC A' H'
 nw:New A A' H
theorem aM.refl {A H:Hp} (h:aC A H):aM A H A H:=⟨aC.refl _,aC.refl _,h,fun _ h _=>h⟩
theorem aC.ne {H H':Hp} (e:aC H H') {p:Addr} (h:H p≠none):H' p≠none:=by
 cases q:H p with
 | none=>exact absurd q h
 | some o=>rw[e p o q];simp
theorem aM.trans {A H A1 H1 A2 H2:Hp} (g:aM A H A1 H1) (g':aM A1 H1 A2 H2):aM A H A2 H2:=
 ⟨g.aa.trans g'.aa,g.hh.trans g'.hh,g'.ah,fun p h1 h2=>g'.nw p (g.nw p h1 h2) (aC.ne g.hh h2)⟩
theorem New.mono {A A' B B':Hp} (n:New A A' B') (s:aC B B'):New A A' B:=fun p h1 h2=>n p h1 (aC.ne s h2)
theorem New.trans {A A1 A2 B:Hp} (n:New A A1 B) (m:New A1 A2 B):New A A2 B:=fun p h1 h2=>m p (n p h1 h2) h2
section
variable {K:af}{A B H A' H':Hp}{O:List Fl}{σ:L2.St}{Γ:Ev}{d:ae}{v:V}
theorem Pk.mono (ha:aC A A') (hh:aC H H') (h:Pk K A H d v):Pk K A' H' d v:=by
 rcases h with h | ⟨p,vs,ds,e1,e2,h1,h2⟩ | ⟨p,u,kvs,e1,e2,h1,h2⟩
 · exact .inl (Rp.mono ha d h)
 · exact .inr (.inl ⟨p,vs,ds,e1,e2,hh.seq h1,aB.mono ha ds h2⟩)
 · exact .inr (.inr ⟨p,u,kvs,e1,e2,aC.rd hh h1,aQ.mono ha kvs h2⟩)
theorem gZ.mono {o:HO} (ha:aC A A') (h:gZ K A d o):gZ K A' d o:=by
 rcases h with ⟨ds,vs,e1,e2,h⟩ | ⟨kvs,u,e1,e2,h⟩
 · exact .inl ⟨ds,vs,e1,e2,aB.mono ha ds h⟩
 · exact .inr ⟨kvs,u,e1,e2,aQ.mono ha kvs h⟩
theorem RpN.mono {kvs:List (ae×ae)}{xs:List (iy×Addr×ag)} (ha:aC A A') (h:RpN K A kvs xs):RpN K A' kvs xs:=by
 obtain ⟨us,h1,h2⟩:=h
 exact ⟨us,h1.keeps fun b ys e=>ha.qg e,Paired.yr h2 fun _ _ z=>⟨z.1,Rp.mono ha _ z.2⟩⟩
theorem gZ.nx {o:HO}{p:Addr}{xs:List (iy×Addr×ag)} (h:gZ K A d o) (e:some o=some (Uj p xs)):False:=by
 rcases h with ⟨ds,vs,e1,e2,h⟩ | ⟨kvs,u,e1,e2,h⟩ <;> (rw[e2] at e;cases e)
theorem wN.grow (g:aM A H A' H') {f:Fl} (h:wN K A B H f d v):wN K A' B H' f d v:=by
 cases f with
 | imm=>exact Rp.mono g.aa d h
 | bor=>exact Pk.mono g.aa (aC.refl _) h
 | own=>
  obtain ⟨p,o,e,h1,h2,h3,h4⟩:=h
  exact ⟨p,o,e,g.hh _ _ h1,g.nw p h2 (by rw[h1];simp),h3,h4.mono g.aa⟩
 | fix p0=>
  obtain ⟨e0,p,o,e,h1,h2,h3,h4⟩:=h
  exact ⟨e0,p,o,e,g.hh _ _ h1,g.nw p h2 (by rw[h1];simp),h3,h4.mono g.aa⟩
 | exc C=>
  obtain ⟨p,ob,e,h1,h2⟩:=h
  exact ⟨p,ob,e,g.aa _ _ h1,h2⟩
 | nst b=>
  intro z
  obtain ⟨p,xs,kvs,w1,w2,w3,w4,w5,w6⟩:=h z
  exact ⟨p,xs,kvs,w1,w2,g.hh _ _ w3,g.nw p w4 (by rw[w3];simp),w5,w6.mono g.aa⟩
theorem Slot.grow (g:aM A H A' H') {f:Fl}{d:Option ae}{v:Option V} (h:Slot K A B H f d v):Slot K A' B H' f d v:=fun d' e=>
 let ⟨v',e',q⟩:=h d' e;⟨v',e',q.grow g⟩
theorem aN.grow (g:aM A H A' H') (r:aN K A B H O σ Γ):aN K A' B H' O σ Γ:=
 ⟨g.ah,r.b.trans g.hh,r.len,fun i=>(r.slot i).grow g,r.sep⟩
theorem gZ.share {o:HO}{p:Addr} (h:gZ K A d o) (s:aC A (upd A p o)):Rp K (upd A p o) d (.ref p):=by
 rcases h with ⟨ds,vs,e1,e2,h⟩ | ⟨kvs,u,e1,e2,h⟩
 · subst e1;subst e2
   exact Rp.list.mpr ⟨p,vs,rfl,SqL.of bw,aB.mono s ds h⟩
 · subst e1;subst e2
   exact (by rw[Rp];exact ⟨p,u,rfl,.inl bw,aQ.mono s kvs h⟩)
theorem Own.pk (h:Own K A B H d v):Pk K A H d v:=by
 obtain ⟨p,o,e,h1,_,_,⟨ds,vs,e2,e3,h4⟩ | ⟨kvs,u,e2,e3,h4⟩⟩:=h
 · subst e3
   exact .inr (.inl ⟨p,vs,ds,e,e2,SqL.of h1,h4⟩)
 · subst e3
   exact .inr (.inr ⟨p,u,kvs,e,e2,.inl h1,h4⟩)
theorem wN.pk (hb:aC B H) {f:Fl} (h:wN K A B H f d v) (hx:isX f=false):Pk K A H d v:=by
 cases f with
 | imm=>exact .inl h
 | bor=>exact Pk.mono (aC.refl _) hb h
 | own=>exact Own.pk h
 | fix p0=>exact Own.pk h.2
 | exc C=>cases hx
 | nst b=>cases hx
theorem Pk.list (ha:aC A H) {ds:List ae} (h:Pk K A H (.list ds) v):∃p vs,v = .ref p∧SqL K H p vs∧aB K A ds vs:=by
 rcases h with h | ⟨p,vs,ds',e1,e2,h1,h2⟩ | ⟨p,u,kvs,e1,e2,h1,h2⟩
 · obtain ⟨a,vs,e,h1,h2⟩:=Rp.list.mp h
   exact ⟨a,vs,e,ha.seq h1,h2⟩
 · cases e2
   exact ⟨p,vs,e1,h1,h2⟩
 · cases e2
theorem Pk.j5 (h:Pk K A H d v) (n:∀ds,d ≠ .list ds) (n2:∀kvs,d ≠ .dict kvs):Rp K A d v:=by
 rcases h with h | ⟨p,vs,ds',e1,e2,h1,h2⟩ | ⟨p,u,kvs,e1,e2,h1,h2⟩
 · exact h
 · exact absurd e2 (n ds')
 · exact absurd e2 (n2 kvs)
theorem Pk.int {i:Int} (h:Pk K A H (.int i) v):v = .int i:=Rp.int.mp (h.j5 (fun _ z=>nomatch z) (fun _ z=>nomatch z))
theorem Pk.bool {i:Bool} (h:Pk K A H (.bool i) v):v = .bl i:=Rp.bool.mp (h.j5 (fun _ z=>nomatch z) (fun _ z=>nomatch z))
theorem Pk.none (h:Pk K A H .none v):v = .non:=Rp.none.mp (h.j5 (fun _ z=>nomatch z) (fun _ z=>nomatch z))
theorem Pk.str {x:Str} (h:Pk K A H (.str x) v):v = .str x:=Rp.str.mp (h.j5 (fun _ z=>nomatch z) (fun _ z=>nomatch z))
theorem Pk.tuple (ha:aC A H) {ds:List ae} (h:Pk K A H (.tuple ds) v):∃p vs,v = .ref p∧SqT K H p vs∧aB K A ds vs:=by
 obtain ⟨a,vs,e,h1,h2⟩:=Rp.tuple.mp (h.j5 (fun _ z=>nomatch z) (fun _ z=>nomatch z))
 exact ⟨a,vs,e,ha.qg h1,h2⟩
theorem Pk.is (ha:aC A H) (hc:eD d=true) (h:Pk K A H d v):Is K H d v:=by
 have c:=ll hc
 rcases h with h | ⟨p,vs,ds',e1,e2,h1,h2⟩ | ⟨p,u,kvs,e1,e2,h1,h2⟩
 rotate_right
 · subst e2
   rw[eW] at c
   cases c
 · exact Is.mono ha d (Rp.is d c h)
 · subst e2
   rw[Is]
   rw[eW] at c
   exact ⟨p,vs,e1,h1,dh.mono ha ds' (aB.is ds' c h2)⟩
theorem Rp.dict {kvs:List (ae×ae)}:Rp K A (.dict kvs) v↔∃a u,v = .ref a∧Rd A a (.dK u)∧aQ K A kvs u:=by rw[Rp]
theorem aQ.nil {u:List (Key×V)}:aQ K A [] u↔u=[]:=by rw[aQ]
theorem aQ.cons {k d:ae}{r:List (ae×ae)}{u:List (Key×V)}:aQ K A ((k,d)::r) u↔∃key v u',u=(key,v)::u'∧bB k=some key∧Rp K A d v∧aQ K A r u':=by rw[aQ]
theorem Pk.dict (ha:aC A H) {kvs:List (ae×ae)} (h:Pk K A H (.dict kvs) v):∃a u,v = .ref a∧Rd H a (.dK u)∧aQ K A kvs u:=by
 rcases h with h | ⟨p,vs,ds',e1,e2,h1,h2⟩ | ⟨p,u,kvs',e1,e2,h1,h2⟩
 · obtain ⟨a,u,e,h1,h2⟩:=Rp.dict.mp h
   exact ⟨a,u,e,aC.rd ha h1,h2⟩
 · cases e2
 · cases e2
   exact ⟨p,u,e1,h1,h2⟩
theorem aM.new {p:Addr}{o:HO} (ha:aC A H) (h:H p=none):aM A H (upd A p o) (upd H p o):=
 ⟨aC.new (ha.free h) o,aC.new h o,fun b u q=>by
  by_cases hb:b=p
  · subst hb;rw[bw] at q ⊢;exact q
  · rw[aK hb] at q ⊢;exact ha b u q,fun b h1 h2=>by
  have hb:b≠p:=fun z=>h2 (z ▸ h)
  rw[aK hb];exact h1⟩
theorem aM.lay {p:Addr}{o:HO} (ha:aC A H) (h:H p=none):aM A H A (upd H p o):=
 ⟨aC.refl _,aC.new h o,ha.trans (aC.new h o),fun b h1 _=>h1⟩
end
end L3
namespace L3
open PySem PySem.Spec PyProof.Rows L2
noncomputable def noStar:Expr→Bool
 | .Starred _ _=>false
 | _=>true
noncomputable def fC:List Expr→Bool
 | []=>true
 | e::es=>noStar e&&fC es
theorem bY {e:Expr}{es:List Expr}{env:Env} (h:noStar e=true):d5 (e::es) env=(false,eval e env)::d5 es env:=by
 cases e <;> first | rfl | cases h
theorem g8:∀{es:List Expr}{env:Env}{pos:Pos},fC es=true→(lI pos (d5 es env)).any (·.1)=false
 | [],_,_,_=>rfl
 | e::es,env,pos,h=>by
  rw[fC,dS] at h
  rw[bY h.1]
  show (false||(lI pos (d5 es env)).any (·.1))=false
  rw[g8 h.2]
  rfl
noncomputable def tE (K:af) (O:List Fl) (m:ME):TE:=fun σ H Q=>∃A B Γ d,aN K A B H O σ Γ∧m Γ = .ok d∧∀v A' H',aM A H A' H'→Rp K A' d v→Q v H'
noncomputable def tP (K:af) (O:List Fl) (m:ME):TE:=fun σ H Q=>∃A B Γ d,aN K A B H O σ Γ∧m Γ = .ok d∧∀v A' H',aM A H A' H'→Pk K A' H' d v→Q v H'
noncomputable def rN (K:af) (H A' H':Hp) (d:ae) (v:V):Prop:=∃p o,v = .ref p∧H p=none∧H' p=some o∧A' p=none∧gZ K A' d o
noncomputable def tF (K:af) (O:List Fl) (m:ME):TE:=fun σ H Q=>∃A B Γ d,aN K A B H O σ Γ∧m Γ = .ok d∧∀v A' H',aM A H A' H'→rN K H A' H' d v→Q v H'
noncomputable def tT (K:af) (O:List Fl) (m:ME):TT:=fun σ H Q=>∃A B Γ b,aN K A B H O σ Γ∧m Γ = .ok (.bool b)∧∀A' H',aM A H A' H'→Q b H'
section
variable {X:Cx}
theorem PE.imp {e:Expr}{t t':TE} (h:PE X e t) (i:∀σ H Q,t' σ H Q→t σ H Q):PE X e t':=fun pins s σ H Q I q=>h pins s σ H Q I (i σ H Q q)
theorem PT.imp {e:Expr}{t t':TT} (h:PT X e t) (i:∀σ H Q,t' σ H Q→t σ H Q):PT X e t':=fun pins s σ H Q I q=>h pins s σ H Q I (i σ H Q q)
theorem PW.imp {e:Expr}{t t':TT} (h:PW X e t) (i:∀σ H Q,t' σ H Q→t σ H Q):PW X e t':=fun w pins s σ H Q I q=>h w pins s σ H Q I (i σ H Q q)
theorem PA.imp {e:List Expr}{t t':TA} (h:PA X e t) (i:∀σ H Q,t' σ H Q→t σ H Q):PA X e t':=fun pos pins s σ H Q I q=>h pos pins s σ H Q I (i σ H Q q)
theorem PS.imp {e:Stmt}{t t':TS} (h:PS X e t) (i:∀D σ H,t' D σ H→t D σ H):PS X e t':=fun pins s σ H D I q=>h pins s σ H D I (i D σ H q)
theorem PSs.imp {e:List Stmt}{t t':TS} (h:PSs X e t) (i:∀D σ H,t' D σ H→t D σ H):PSs X e t':=fun pins s σ H D I q=>h pins s σ H D I (i D σ H q)
theorem PI.imp {tg e:Expr}{t t':TI} (h:PI X tg e t) (i:∀σ H R,t' σ H R→t σ H R):PI X tg e t':=fun pins s σ H R I q=>h pins s σ H R I (i σ H R q)
end
section
variable (X:Cx)
structure QE (e:Expr) (t:TE):Prop where
 h:PE X e t
structure QT (e:Expr) (t:TT):Prop where
 h:PT X e t
structure QW (e:Expr) (t:TT):Prop where
 h:PW X e t
structure QA (e:List Expr) (t:TA):Prop where
 h:PA X e t
structure QS (e:Stmt) (t:TS):Prop where
 h:PS X e t
structure QSs (e:List Stmt) (t:TS):Prop where
 h:PSs X e t
structure QI (tg e:Expr) (t:TI):Prop where
 h:PI X tg e t
structure QO (e:Option Expr) (t:TO):Prop where
 h:PO X e t
structure QG (tg:Expr) (t:TG):Prop where
 h:PG X tg t
structure QGs (tg:List Expr) (t:TGs):Prop where
 h:PGs X tg t
structure vp (e:List Expr) (t:TT):Prop where
 h:pH X e t
end
section
variable {X:Cx}
theorem QE.imp {e:Expr}{t t':TE} (h:PE X e t) (i:∀σ H Q,t' σ H Q→t σ H Q):QE X e t':=⟨PE.imp h i⟩
theorem QT.imp {e:Expr}{t t':TT} (h:PT X e t) (i:∀σ H Q,t' σ H Q→t σ H Q):QT X e t':=⟨PT.imp h i⟩
theorem QW.imp {e:Expr}{t t':TT} (h:PW X e t) (i:∀σ H Q,t' σ H Q→t σ H Q):QW X e t':=⟨PW.imp h i⟩
theorem QA.imp {e:List Expr}{t t':TA} (h:PA X e t) (i:∀σ H Q,t' σ H Q→t σ H Q):QA X e t':=⟨PA.imp h i⟩
theorem QS.imp {e:Stmt}{t t':TS} (h:PS X e t) (i:∀D σ H,t' D σ H→t D σ H):QS X e t':=⟨PS.imp h i⟩
theorem QSs.imp {e:List Stmt}{t t':TS} (h:PSs X e t) (i:∀D σ H,t' D σ H→t D σ H):QSs X e t':=⟨PSs.imp h i⟩
theorem QI.imp {tg e:Expr}{t t':TI} (h:PI X tg e t) (i:∀σ H R,t' σ H R→t σ H R):QI X tg e t':=⟨PI.imp h i⟩
end
section
variable {X:Cx}{K:af}{O:List Fl}{m m1 m2:ME}{e a b c:Expr}{pos:Pos}
theorem sp (h:QE X e (tE K O m)):QE X e (tP K O m):=QE.imp h.h fun σ H Q ao=>by obtain ⟨A,B,Γ,d,r,em,k⟩:=ao;exact ⟨A,B,Γ,d,r,em,fun v A' H' g p=>k v A' H' g (.inl p)⟩
theorem rN.share {A H A' H':Hp}{d:ae}{v:V} (g:aM A H A' H') (h:rN K H A' H' d v):∃A'',aM A H A'' H'∧Rp K A'' d v:=by
 obtain ⟨p,o,rfl,h1,h2,h3,h4⟩:=h
 have s:aC A' (upd A' p o):=aC.new h3 _
 refine ⟨upd A' p o,⟨g.aa.trans s,g.hh,fun b u q=>?_,fun b n1 n2=>?_⟩,h4.share s⟩
 · by_cases hb:b=p
   · subst hb;rw[bw] at q;rw[h2];exact q
   · rw[aK hb] at q;exact g.ah b u q
 · have hb:b≠p:=fun z=>n2 (z ▸ h1)
   rw[aK hb];exact g.nw b n1 n2
theorem sfe (h:QE X e (tF K O m)):QE X e (tE K O m):=QE.imp h.h fun σ H Q ⟨A,B,Γ,d,r,em,k⟩=>⟨A,B,Γ,d,r,em,fun v A' H' g p=>by
 obtain ⟨A'',g',p'⟩:=p.share g
 exact k v A'' H' g' p'⟩
theorem sfp (h:QE X e (tF K O m)):QE X e (tP K O m):=sp (sfe h)
noncomputable def aj (i:Nat):ME:=fun Γ=>match gv Γ i with
 | some d=>.ok d
 | none=>.bad
noncomputable def eC (d:ae):ME:=fun _=>.ok d
theorem pg {i:Nat}{Γ:Ev}{d:ae} (h:aj i Γ = .ok d):gv Γ i=some d:=by
 unfold aj at h
 cases q:gv Γ i with
 | none=>rw[q] at h;cases h
 | some d'=>rw[q] at h;cases h;rfl
theorem dq {σ:L2.St}{i:Nat}{v:V} (h:sv σ i=some v):σ[i]?=some (some v):=by
 unfold sv at h
 rw[ax] at h
 cases q:σ[i]? with
 | none=>rw[q] at h;cases h
 | some o=>rw[q] at h;exact congrArg some h
theorem ak (i:Nat) {x:Str} (hN:X.N[i]?=some x:=by rfl) (hv:Vis X.env.scope x:=by first | exact cb rfl | exact fq (cb rfl) | exact fq (fq rfl)) (hd:(x == ("__debug__" : Str))=false:=by decide)
 (hcd:(x == ("__classdict__" : Str))=false:=by decide) (hx:isX (fl O i)=false:=by rfl):QE X (.Name x pos) (tP K O (aj i)):=QE.imp (du hN hv hd hcd) fun σ H Q ao=>by
 obtain ⟨A,B,Γ,d,r,em,k⟩:=ao
 obtain ⟨v,e1,q⟩:=r.slot i d (pg em)
 exact ⟨v,dq e1,k v A H (aM.refl r.a) (q.pk r.b hx)⟩
theorem bH (i:Nat) {x:Str} (hi:fl O i = .imm:=by rfl) (hN:X.N[i]?=some x:=by rfl) (hv:Vis X.env.scope x:=by first | exact cb rfl | exact fq (cb rfl) | exact fq (fq rfl)) (hd:(x == ("__debug__" : Str))=false:=by decide)
 (hcd:(x == ("__classdict__" : Str))=false:=by decide):QE X (.Name x pos) (tE K O (aj i)):=QE.imp (du hN hv hd hcd) fun σ H Q ao=>by
 obtain ⟨A,B,Γ,d,r,em,k⟩:=ao
 obtain ⟨v,e1,q⟩:=r.slot i d (pg em)
 rw[hi] at q
 exact ⟨v,dq e1,k v A H (aM.refl r.a) q⟩
theorem Fi {v:V}{d:ae} (h:PE X e (tC v)) (hr:∀A,Rp K A d v):QE X e (tE K O (eC d)):=QE.imp h fun σ H Q ao=>by
 obtain ⟨A,B,Γ,d',r,em,k⟩:=ao
 cases em
 exact k v A H (aM.refl r.a) (hr A)
theorem au {i:Int}{j pos}:QE X (.Constant (.int i) j pos) (tE K O (eC (.int i))):=Fi Z3 fun _=>Rp.int.mpr rfl
theorem m9 {i:Bool}{j pos}:QE X (.Constant (.bool i) j pos) (tE K O (eC (.bool i))):=Fi abh fun _=>Rp.bool.mpr rfl
theorem qy {j pos}:QE X (.Constant .none j pos) (tE K O (eC .none)):=Fi Zw fun _=>Rp.none.mpr rfl
theorem vM {x:Str}{j pos}:QE X (.Constant (.str x) j pos) (tE K O (eC (.str x))):=Fi Nz fun _=>Rp.str.mpr rfl
theorem su {x:Str}{v:V}{u:ag}{d:ae}{pos:Pos} (hg:Gl X x) (hm:X.mg x=some u) (r:RelV v u) (hr:∀A,Rp K A d v) (hd:(x == ("__debug__" : Str))=false:=by decide):QE X (.Name x pos) (tE K O (eC d)):=
 Fi (xf hg hm r hd) hr
noncomputable def aq (f:ae→ae→Res ae) (a b:ME):ME:=fun Γ=>(a Γ).bind fun x=>(b Γ).bind fun y=>f x y
noncomputable def rD (K:af) (f:ae→ae→Res ae):R2:=fun x y H Q=>∃A d1 d2 d,f d1 d2 = .ok d∧aC A H∧Pk K A H d1 x∧Pk K A H d2 y∧∀v A' H',aM A H A' H'→Rp K A' d v→Q v H'
noncomputable def rDF (K:af) (f:ae→ae→Res ae):R2:=fun x y H Q=>∃A d1 d2 d,f d1 d2 = .ok d∧aC A H∧Pk K A H d1 x∧Pk K A H d2 y∧∀v A' H',aM A H A' H'→rN K H A' H' d v→Q v H'
theorem zE {f:ae→ae→Res ae}{σ:L2.St}{H:Hp}{Q:VK} (h:tE K O (aq f m1 m2) σ H Q):tOp (rD K f) (tP K O m1) (tP K O m2) σ H Q:=by
 obtain ⟨A,B,Γ,d,r,em,k⟩:=h
 obtain ⟨d1,e1,em⟩:=Res.aA em
 obtain ⟨d2,e2,em⟩:=Res.aA em
 refine ⟨A,B,Γ,d1,r,e1,fun x A1 H1 g1 p1=>⟨A1,B,Γ,d2,r.grow g1,e2,fun y A2 H2 g2 p2=>⟨A2,d1,d2,d,em,g2.ah,p1.mono g2.aa g2.hh,p2,fun v A' H' g3 p3=>k v A' H' ((g1.trans g2).trans g3) p3⟩⟩⟩
theorem Ym {f:ae→ae→Res ae}{σ:L2.St}{H:Hp}{Q:VK} (h:tF K O (aq f m1 m2) σ H Q):tOp (rDF K f) (tP K O m1) (tP K O m2) σ H Q:=by
 obtain ⟨A,B,Γ,d,r,em,k⟩:=h
 obtain ⟨d1,e1,em⟩:=Res.aA em
 obtain ⟨d2,e2,em⟩:=Res.aA em
 refine ⟨A,B,Γ,d1,r,e1,fun x A1 H1 g1 p1=>⟨A1,B,Γ,d2,r.grow g1,e2,fun y A2 H2 g2 p2=>⟨A2,d1,d2,d,em,g2.ah,p1.mono g2.aa g2.hh,p2,fun v A' H' g3 p3=>k v A' H' ((g1.trans g2).trans g3) ?_⟩⟩⟩
 obtain ⟨p,o,e,h1,h2⟩:=p3
 exact ⟨p,o,e,(g1.trans g2).hh.free h1,h2⟩
theorem YJ {f:ae→ae→Res ae}{σ:L2.St}{H:Hp}{Q:Bool→Hp→Prop} (h:tT K O (aq f m1 m2) σ H Q):K6 (tOp (rD K f) (tP K O m1) (tP K O m2)) σ H Q:=by
 obtain ⟨A,B,Γ,bb,r,em,k⟩:=h
 exact zE ⟨A,B,Γ,_,r,em,fun v A' H' g p=>⟨bb,Rp.bool.mp p,k A' H' g⟩⟩
theorem aX {op:Operator}{f:ae→ae→Res ae} (ho:OpR X (g9 op) (rD K f)) (ha:QE X a (tP K O m1)) (hb:QE X b (tP K O m2)):QE X (.BinOp a op b pos) (tE K O (aq f m1 m2)):=QE.imp (JQ ho ha.h hb.h) fun _ _ _=>zE
theorem O4 {op:Operator}{f:ae→ae→Res ae} (ho:OpR X (g9 op) (rDF K f)) (ha:QE X a (tP K O m1)) (hb:QE X b (tP K O m2)):QE X (.BinOp a op b pos) (tF K O (aq f m1 m2)):=QE.imp (JQ ho ha.h hb.h) fun _ _ _=>Ym
theorem bC {op:CmpOp}{f:ae→ae→Res ae} (ho:OpR X (gE op) (rD K f)) (ha:QE X a (tP K O m1)) (hb:QE X b (tP K O m2)) (hm:xh op b=false):QT X (.Compare a [op] [b] pos) (tT K O (aq f m1 m2)):=QT.imp (WY ho ha.h hb.h hm) fun _ _ _=>YJ
noncomputable def qz (f g:ae→ae→Res ae) (a b c:ME):ME:=fun Γ=>(a Γ).bind fun x=>(b Γ).bind fun y=>(f x y).bind fun t=>match t with
 | .bool true=>(c Γ).bind fun z=>g y z
 | .bool false=>.ok (.bool false)
 | _=>.bad
theorem Q4 {f g:ae→ae→Res ae}{m3:ME}{σ:L2.St}{H:Hp}{Q:VK} (h:tE K O (qz f g m1 m2 m3) σ H Q):O3 (rD K f) (rD K g) (tP K O m1) (tP K O m2) (tP K O m3) σ H Q:=by
 obtain ⟨A,B,Γ,d,r,em,k⟩:=h
 obtain ⟨d1,e1,em⟩:=Res.aA em
 obtain ⟨d2,e2,em⟩:=Res.aA em
 obtain ⟨t,e3,em⟩:=Res.aA em
 refine ⟨A,B,Γ,d1,r,e1,fun x A1 H1 g1 p1=>⟨A1,B,Γ,d2,r.grow g1,e2,fun y A2 H2 g2 p2=>⟨A2,d1,d2,t,e3,g2.ah,p1.mono g2.aa g2.hh,p2,fun v A3 H3 g3 p3=>?_⟩⟩⟩
 cases t with
 | bool bb=>
  refine ⟨bb,Rp.bool.mp p3,?_⟩
  cases bb with
  | false=>
   cases em
   exact wB (k _ A3 H3 ((g1.trans g2).trans g3) (Rp.bool.mpr rfl))
  | true=>
   obtain ⟨d3,e4,em⟩:=Res.aA em
   exact wJ ⟨A3,B,Γ,d3,((r.grow g1).grow g2).grow g3,e4,fun z A4 H4 g4 p4=>⟨A4,d2,d3,d,em,g4.ah,(p2.mono g3.aa g3.hh).mono g4.aa g4.hh,p4,fun v A' H' g5 p5=>k v A' H' ((((g1.trans g2).trans g3).trans g4).trans g5) p5⟩⟩
 | _=>cases em
theorem SQ {op op':CmpOp}{f g:ae→ae→Res ae}{m3:ME} (ho:OpR X (gE op) (rD K f)) (ho':OpR X (gE op') (rD K g)) (ha:QE X a (tP K O m1)) (hb:QE X b (tP K O m2)) (hc:QE X c (tP K O m3))
 (hm:lastMarks [op,op'] [b,c]=false:=by with_unfolding_all rfl):QT X (.Compare a [op,op'] [b,c] pos) (tT K O (qz f g m1 m2 m3)):=QT.imp (QK ho ho' ha.h hb.h hc.h hm) fun σ H Q ⟨A,B,Γ,bb,r,em,k⟩=>
 Q4 ⟨A,B,Γ,_,r,em,fun v A' H' g p=>⟨bb,Rp.bool.mp p,k A' H' g⟩⟩
noncomputable def q8 (a b:ME):ME:=fun Γ=>(a Γ).bind fun x=>match x with
 | .bool true=>b Γ
 | .bool false=>.ok (.bool false)
 | _=>.bad
noncomputable def eOr (a b:ME):ME:=fun Γ=>(a Γ).bind fun x=>match x with
 | .bool false=>b Γ
 | .bool true=>.ok (.bool true)
 | _=>.bad
noncomputable def lW (a:ME):ME:=fun Γ=>(a Γ).bind fun x=>match x with
 | .bool t=>.ok (.bool (!t))
 | _=>.bad
theorem Gf {op} (h:QE X a (tE K O m)):QE X (.BoolOp op [a] pos) (tE K O m):=⟨Yb h.h⟩
theorem z9 {rest:List Expr} (ha:QE X a (tE K O m1)) (hb:QE X (.BoolOp .And (b::rest) pos) (tE K O m2)):QE X (.BoolOp .And (a::b::rest) pos) (tE K O (q8 m1 m2)):=QE.imp (Xj ha.h hb.h) fun σ H Q ao=>by
 obtain ⟨A,B,Γ,d,r,em,k⟩:=ao
 obtain ⟨d1,e1,em⟩:=Res.aA em
 refine ⟨A,B,Γ,d1,r,e1,fun v A1 H1 g1 p1=>?_⟩
 cases d1 with
 | bool bb=>
  refine ⟨bb,Rp.bool.mp p1,?_⟩
  cases bb with
  | true=>exact wJ ⟨A1,B,Γ,d,r.grow g1,em,fun v A' H' g p=>k v A' H' (g1.trans g) p⟩
  | false=>cases em;exact wB (k _ A1 H1 g1 (Rp.bool.mpr rfl))
 | _=>cases em
theorem O6 (ha:QE X a (tE K O m1)):QE X (.UnaryOp .Not a pos) (tE K O (lW m1)):=QE.imp (Zc ha.h) fun σ H Q ao=>by
 obtain ⟨A,B,Γ,d,r,em,k⟩:=ao
 obtain ⟨d1,e1,em⟩:=Res.aA em
 refine ⟨A,B,Γ,d1,r,e1,fun v A1 H1 g1 p1=>?_⟩
 cases d1 with
 | bool bb=>cases em;exact ⟨bb,Rp.bool.mp p1,k _ A1 H1 g1 (Rp.bool.mpr rfl)⟩
 | _=>cases em
theorem Oc (h:QE X e (tE K O m)) (he:∀whole,AG e X.env whole=(do let v ← whole;standAt e.pos;Ap [v] (truthy v)):=by intro _;rfl):QT X e (tT K O m):=QT.imp (aaf h.h he) fun σ H Q ⟨A,B,Γ,bb,r,em,k⟩=>
 ⟨A,B,Γ,_,r,em,fun v A' H' g p=>⟨bb,Rp.bool.mp p,k A' H' g⟩⟩
theorem W3 (ha:QT X a (tT K O m)):QW X (.BoolOp .And [a] pos) (tT K O m):=⟨Uz ha.h⟩
theorem nF (ha:QT X a (tT K O m)):QW X (.BoolOp .Or [a] pos) (tT K O m):=⟨Yp ha.h⟩
theorem Zi {rest:List Expr} (ha:QT X a (tT K O m1)) (hb:QW X (.BoolOp .And (b::rest) pos) (tT K O m2)):QW X (.BoolOp .And (a::b::rest) pos) (tT K O (q8 m1 m2)):=QW.imp (XX ha.h hb.h) fun σ H Q ao=>by
 obtain ⟨A,B,Γ,d,r,em,k⟩:=ao
 obtain ⟨d1,e1,em⟩:=Res.aA em
 cases d1 with
 | bool bb=>
  refine ⟨A,B,Γ,bb,r,e1,fun A1 H1 g1=>?_⟩
  cases bb with
  | true=>exact wJ ⟨A1,B,Γ,d,r.grow g1,em,fun A' H' g=>k A' H' (g1.trans g)⟩
  | false=>cases em;exact wB (k A1 H1 g1)
 | _=>cases em
theorem m6 {rest:List Expr} (ha:QT X a (tT K O m1)) (hb:QW X (.BoolOp .Or (b::rest) pos) (tT K O m2)):QW X (.BoolOp .Or (a::b::rest) pos) (tT K O (eOr m1 m2)):=QW.imp (aaV ha.h hb.h) fun σ H Q ao=>by
 obtain ⟨A,B,Γ,d,r,em,k⟩:=ao
 obtain ⟨d1,e1,em⟩:=Res.aA em
 cases d1 with
 | bool bb=>
  refine ⟨A,B,Γ,bb,r,e1,fun A1 H1 g1=>?_⟩
  cases bb with
  | false=>exact wB ⟨A1,B,Γ,d,r.grow g1,em,fun A' H' g=>k A' H' (g1.trans g)⟩
  | true=>cases em;exact wJ (k A1 H1 g1)
 | _=>cases em
theorem oU (h:QW X e (tT K O m)):QT X e (tT K O m):=⟨h.h.pt⟩
theorem G6 (ha:QT X a (tT K O m1)):QT X (.UnaryOp .Not a pos) (tT K O (lW m1)):=QT.imp (XM ha.h) fun σ H Q ao=>by
 obtain ⟨A,B,Γ,d,r,em,k⟩:=ao
 obtain ⟨d1,e1,em⟩:=Res.aA em
 cases d1 with
 | bool bb=>cases em;exact ⟨A,B,Γ,bb,r,e1,fun A1 H1 g1=>k A1 H1 g1⟩
 | _=>cases em
noncomputable def wA:ae→Res ae
 | .none=>.ok (.bool false)
 | .bool b=>.ok (.bool b)
 | .int i=>.ok (.bool (i != 0))
 | .list ds=>.ok (.bool (!ds.isEmpty))
 | .tuple ds=>.ok (.bool (!ds.isEmpty))
 | .str x=>gd (x.length≤bg) (.ok (.bool ((x.length:Int) != 0)))
 | _=>.bad
noncomputable def eUn (f:ae→Res ae) (a:ME):ME:=fun Γ=>(a Γ).bind f
theorem aB.isEmpty {A:Hp}{ds:List ae}{vs:List V} (h:aB K A ds vs):vs.isEmpty=ds.isEmpty:=by
 cases ds with
 | nil=>rw[aB.nil] at h;subst h;rfl
 | cons d ds=>rw[aB.cons] at h;obtain ⟨v,r,rfl,_⟩:=h;rfl
theorem Pr (h:QE X a (tP X.K O m)) (he:∀whole,AG a X.env whole=(do let v ← whole;standAt a.pos;Ap [v] (truthy v)):=by intro _;rfl):QT X a (tT X.K O (eUn wA m)):=QT.imp (Qh h.h he) fun σ H Q ao=>by
 obtain ⟨A,B,Γ,bb,r,em,k⟩:=ao
 obtain ⟨d1,e1,em⟩:=Res.aA em
 refine ⟨A,B,Γ,d1,r,e1,fun v A1 H1 g1 p1=>⟨bb,?_,k A1 H1 g1⟩⟩
 cases d1 with
 | none=>cases em;rw[p1.none];rfl
 | bool b=>cases em;rw[p1.bool];rfl
 | int i=>cases em;rw[p1.int];rfl
 | str x=>
  obtain ⟨hz,em⟩:=b7 em
  cases em;rw[p1.str];exact ⟨hz,rfl⟩
 | list ds=>
  cases em
  obtain ⟨p,vs,rfl,h1,h2⟩:=p1.list g1.ah
  exact .inl ⟨vs,h1,by rw[h2.isEmpty]⟩
 | tuple ds=>
  cases em
  obtain ⟨p,vs,rfl,h1,h2⟩:=p1.tuple g1.ah
  exact .inr (.inl ⟨vs,h1,by rw[h2.isEmpty]⟩)
 | dict _=>cases em
end
noncomputable def oF (g:Int→Int→Res ae):ae→ae→Res ae
 | .int a,.int b=>g a b
 | _,_=>.bad
theorem il {g:Int→Int→Res ae}{a b d:ae} (e:oF g a b = .ok d):∃i j,a = .int i∧b = .int j∧g i j = .ok d:=by
 cases a with
 | int i=>
  cases b with
  | int j=>exact ⟨i,j,rfl,rfl,e⟩
  | _=>cases e
 | _=>cases e
noncomputable def gK:ae→ae→Res ae
 | .int a,.int b=>.ok (.int (a+b))
 | .str a,.str b=>gd (a.length+b.length≤bg) (.ok (.str (a++b)))
 | .list a,.list b=>gd (a.length+b.length≤bg) (.ok (.list (a++b)))
 | .tuple a,.tuple b=>gd (a.length+b.length≤bg) (.ok (.tuple (a++b)))
 | .int a,.bool b=>.ok (.int (a+b2i b))
 | _,_=>.bad
noncomputable def rG:ae→ae→Res ae:=oF fun a b=>.ok (.int (a - b))
instance (i j:Int):Decidable (uE i j):=by unfold uE;infer_instance
instance (i j:Int):Decidable (Ao i j):=by unfold Ao;infer_instance
noncomputable def ym:ae→ae→Res ae:=oF fun a b=>gd (uE a b) (.ok (.int (a*b)))
noncomputable def qG:ae→ae→Res ae:=oF fun a b=>gd (Ao a b) (.ok (.int (a / b)))
noncomputable def j0:ae→ae→Res ae:=oF fun a b=>gd (0 < b) (.ok (.int (a % b)))
noncomputable def Er:ae→ae→Res ae:=oF fun a b=>gd (0≤b) (.ok (.int (a / 2^b.toNat)))
noncomputable def t6:ae→ae→Res ae:=oF fun a b=>.ok (.int (gu a b))
noncomputable def orD:ae→ae→Res ae:=oF fun a b=>.ok (.int (i0 a b))
noncomputable def Sw:ae→ae→Res ae:=oF fun a b=>.ok (.int (kM a b))
noncomputable def ltD:ae→ae→Res ae:=oF fun a b=>.ok (.bool (decide (a < b)))
noncomputable def leD:ae→ae→Res ae:=oF fun a b=>.ok (.bool (decide (a≤b)))
noncomputable def gtD:ae→ae→Res ae:=oF fun a b=>.ok (.bool (decide (b < a)))
noncomputable def eqD (a b:ae):Res ae:=gd (eD a=true∧eD b=true) (.ok (.bool (fA a b)))
noncomputable def neD (a b:ae):Res ae:=gd (eD a=true∧eD b=true) (.ok (.bool (!fA a b)))
noncomputable def YC:ae→Bool
 | .none=>true
 | _=>false
noncomputable def vz:ae→ae→Res ae
 | a,.none=>.ok (.bool (YC a))
 | _,_=>.bad
noncomputable def ixD:ae→ae→Res ae
 | .list ds,.int i=>match atI ds i with | some d=>.ok d | none=>.bad
 | .tuple ds,.int i=>match atI ds i with | some d=>.ok d | none=>.bad
 | _,_=>.bad
section
variable {X:Cx}
theorem zc {g:ag→ag→Sem ag}{f:ae→ae→Res ae}{C:Int→Int→Prop}{h:Int→Int→Int} (ho:OpR X g (rI C fun i j=>.int (h i j)))
 (hf:∀a b d,f a b = .ok d→∃i j,a = .int i∧b = .int j∧C i j∧d = .int (h i j)):OpR X g (rD X.K f):=by
 intro pins s σ H x y v u Q I rx ry hq
 obtain ⟨A,d1,d2,d,e,ha,p1,p2,k⟩:=hq
 obtain ⟨i,j,rfl,rfl,hc,rfl⟩:=hf _ _ _ e
 exact ho pins s σ H x y v u Q I rx ry ⟨i,j,p1.int,p2.int,hc,k _ A H (aM.refl ha) (Rp.int.mpr rfl)⟩
theorem wW {g:ag→ag→Sem ag}{f:ae→ae→Res ae}{h:Int→Int→Int} (ho:OpR X g (rI0 fun i j=>.int (h i j)))
 (hf:∀a b d,f a b = .ok d→∃i j,a = .int i∧b = .int j∧d = .int (h i j)):OpR X g (rD X.K f):=by
 intro pins s σ H x y v u Q I rx ry hq
 obtain ⟨A,d1,d2,d,e,ha,p1,p2,k⟩:=hq
 obtain ⟨i,j,rfl,rfl,rfl⟩:=hf _ _ _ e
 exact ho pins s σ H x y v u Q I rx ry ⟨i,j,p1.int,p2.int,k _ A H (aM.refl ha) (Rp.int.mpr rfl)⟩
theorem Hm {g:ag→ag→Sem ag}{f:ae→ae→Res ae}{h:Int→Int→Bool} (ho:OpR X g (rI0 fun i j=>.bl (h i j)))
 (hf:∀a b d,f a b = .ok d→∃i j,a = .int i∧b = .int j∧d = .bool (h i j)):OpR X g (rD X.K f):=by
 intro pins s σ H x y v u Q I rx ry hq
 obtain ⟨A,d1,d2,d,e,ha,p1,p2,k⟩:=hq
 obtain ⟨i,j,rfl,rfl,rfl⟩:=hf _ _ _ e
 exact ho pins s σ H x y v u Q I rx ry ⟨i,j,p1.int,p2.int,k _ A H (aM.refl ha) (Rp.bool.mpr rfl)⟩
theorem z8:OpR X (g9 .Sub) (rD X.K rG):=wW YW fun a b d e=>by
 obtain ⟨i,j,rfl,rfl,e⟩:=il e;cases e;exact ⟨_,_,rfl,rfl,rfl⟩
theorem o8:OpR X (g9 .FloorDiv) (rD X.K qG):=zc Vq fun a b d e=>by
 obtain ⟨i,j,rfl,rfl,e⟩:=il e;obtain ⟨hc,e⟩:=b7 e;cases e;exact ⟨_,_,rfl,rfl,hc,rfl⟩
theorem iw:OpR X (g9 .Mod) (rD X.K j0):=zc YX fun a b d e=>by
 obtain ⟨i,j,rfl,rfl,e⟩:=il e;obtain ⟨hc,e⟩:=b7 e;cases e;exact ⟨_,_,rfl,rfl,hc,rfl⟩
theorem FT:OpR X (g9 .RShift) (rD X.K Er):=zc Xu fun a b d e=>by
 obtain ⟨i,j,rfl,rfl,e⟩:=il e;obtain ⟨hc,e⟩:=b7 e;cases e;exact ⟨_,_,rfl,rfl,hc,rfl⟩
theorem qe:OpR X (g9 .BitAnd) (rD X.K t6):=wW Yi fun a b d e=>by
 obtain ⟨i,j,rfl,rfl,e⟩:=il e;cases e;exact ⟨_,_,rfl,rfl,rfl⟩
theorem Ug:OpR X (g9 .BitOr) (rD X.K orD):=wW abi fun a b d e=>by
 obtain ⟨i,j,rfl,rfl,e⟩:=il e;cases e;exact ⟨_,_,rfl,rfl,rfl⟩
theorem ZJ:OpR X (g9 .BitXor) (rD X.K Sw):=wW Xh fun a b d e=>by
 obtain ⟨i,j,rfl,rfl,e⟩:=il e;cases e;exact ⟨_,_,rfl,rfl,rfl⟩
theorem zV:OpR X (gE .Lt) (rD X.K ltD):=Hm abl fun a b d e=>by
 obtain ⟨i,j,rfl,rfl,e⟩:=il e;cases e;exact ⟨_,_,rfl,rfl,rfl⟩
theorem aaH:OpR X (gE .LtE) (rD X.K leD):=Hm aaD fun a b d e=>by
 obtain ⟨i,j,rfl,rfl,e⟩:=il e;cases e;exact ⟨_,_,rfl,rfl,rfl⟩
theorem qX:OpR X (gE .Gt) (rD X.K gtD):=Hm aba fun a b d e=>by
 obtain ⟨i,j,rfl,rfl,e⟩:=il e;cases e;exact ⟨_,_,rfl,rfl,rfl⟩
theorem o4 (hu:X.A.units+64 < nV):OpR X (gE .Eq) (rD X.K eqD):=by
 intro pins s σ H x y v u Q I rx ry hq
 obtain ⟨A,d1,d2,d,e,ha,p1,p2,k⟩:=hq
 obtain ⟨⟨h1,h2⟩,e⟩:=b7 e
 cases e
 exact Zb hu pins s σ H x y v u Q I rx ry ⟨d1,d2,p1.is ha h1,p2.is ha h2,h1,h2,k _ A H (aM.refl ha) (Rp.bool.mpr rfl)⟩
theorem yW (hu:X.A.units+64 < nV):OpR X (gE .NotEq) (rD X.K neD):=by
 intro pins s σ H x y v u Q I rx ry hq
 obtain ⟨A,d1,d2,d,e,ha,p1,p2,k⟩:=hq
 obtain ⟨⟨h1,h2⟩,e⟩:=b7 e
 cases e
 exact aaj hu pins s σ H x y v u Q I rx ry ⟨d1,d2,p1.is ha h1,p2.is ha h2,h1,h2,k _ A H (aM.refl ha) (Rp.bool.mpr rfl)⟩
theorem Pk.isNone {K:af}{A H:Hp}{d:ae}{x:V} (ha:aC A H) (p:Pk K A H d x):decide (x=V.non)=YC d:=by
 cases d with
 | none=>rw[p.none];rfl
 | bool b=>rw[p.bool];rfl
 | int b=>rw[p.int];rfl
 | str b=>rw[p.str];rfl
 | list b=>obtain ⟨q,vs,rfl,_⟩:=p.list ha;rfl
 | tuple b=>obtain ⟨q,vs,rfl,_⟩:=p.tuple ha;rfl
 | dict b=>obtain ⟨q,u,rfl,_⟩:=p.dict ha;rfl
noncomputable def Lb:ae→ae→Res ae
 | .bool a,.bool b=>.ok (.bool (!(a == b)))
 | _,_=>.bad
theorem JB:OpR X (gE .IsNot) (rD X.K Lb):=by
 intro pins s σ H x y v u Q I rx ry hq
 obtain ⟨A,d1,d2,d,e,ha,p1,p2,k⟩:=hq
 cases d1 with
 | bool a=>
  cases d2 with
  | bool b=>
   cases e
   rw[p1.bool] at rx;rw[p2.bool] at ry
   cases rx;cases ry
   refine wpAny_isNot_plain rfl ⟨.bl (!(a == b)),H,I,?_,k _ A H (aM.refl ha) (Rp.bool.mpr rfl)⟩
   cases a <;> cases b <;> rfl
  | _=>cases e
 | _=>cases e
theorem Mp:OpR X (gE .Is) (rD X.K vz):=by
 intro pins s σ H x y v u Q I rx ry hq
 obtain ⟨A,d1,d2,d,e,ha,p1,p2,k⟩:=hq
 cases d2 with
 | none=>
  have e':=Res.ok.inj e
  subst e'
  exact Yr pins s σ H x y v u Q I rx ry ⟨p2.none,by rw[p1.isNone ha];exact k _ A H (aM.refl ha) (Rp.bool.mpr rfl)⟩
 | _=>cases e
noncomputable def abj (K:af):R2:=fun x y H Q=>∃l b xs zs,x = .ref l∧y = .ref b∧SqL K H l xs∧SqL K H b zs∧xs.length+zs.length≤bg∧∀p,H p=none→Q (.ref p) (upd H p (.lst (xs++zs)))
theorem Ja:OpR X (g9 .Add) (abj X.K):=by
 intro pins s σ H x y v u Q I rx ry h
 obtain ⟨l,b,xs,zs,rfl,rfl,hH,hB,hz,q⟩:=h
 cases rx
 cases ry
 obtain ⟨its,r,pl,_⟩:=I.list hH
 obtain ⟨its2,r2,pl2,_⟩:=I.list hB
 have hl:=r.length
 have hl2:=r2.length
 obtain ⟨⟨cls,dd,data,sl⟩,ho,hc,n,hd⟩:=pl.isList
 obtain ⟨⟨cls2,dd2,data2,sl2⟩,ho2,hc2,n2,hd2⟩:=pl2.isList
 simp only at hc hd hc2 hd2
 subst hc hd hc2 hd2
 have ea:its.toArray++its2.toArray=(its++its2).toArray:=by simp
 refine yy ⟨_,ho,rfl⟩ ⟨_,ho2,rfl⟩ noFill_list_add seq_list_add PySem.F.slot_list_add PySem.F.entry_list_add (PySem.F.args_list_add_2 _ _) (list_addW l b its.toArray its2.toArray n n2 dd dd2 sl sl2 (by simp only[bE];omega)) ⟨ho,ho2,?_⟩
 rw[ea]
 exact ⟨.ref _,_,I.aaA (t':=s.toks) (r.append r2) (by rw[aw];omega),rfl,q _ I.fresh⟩
theorem Qo:OpR X (g9 .Add) (fun x y H Q=>∃a b ys,x = .ref a∧y = .ref b∧SqT X.K H a []∧SqT X.K H b ys∧Q (.ref b) H):=by
 intro pins s σ H x y v u Q I rx ry h
 obtain ⟨a,b,ys,rfl,rfl,ha,hb,q⟩:=h
 cases rx
 cases ry
 obtain ⟨its,r1,p1,_⟩:=I.tuple ha
 obtain ⟨its2,r2,p2,_⟩:=I.tuple hb
 cases r1
 obtain ⟨⟨cls,dd,data,sl⟩,ho,hc,n,hd⟩:=id p1
 obtain ⟨⟨cls2,dd2,data2,sl2⟩,ho2,hc2,n2,hd2⟩:=id p2
 simp only at hc hd hc2 hd2
 subst hc hd hc2 hd2
 exact yy ⟨_,ho,rfl⟩ ⟨_,ho2,rfl⟩ xA seq_tuple_add qS qr (pS _ _)
  (tuple_addW0 a b _ its2.toArray n n2 dd dd2 sl sl2 rfl) ⟨ho,ho2,⟨.ref b,H,I,rfl,q⟩⟩
theorem mJ:OpR X (g9 .Add) (rD X.K gK):=by
 intro pins s σ H x y v u Q I rx ry hq
 obtain ⟨A,d1,d2,d,e,ha,p1,p2,k⟩:=hq
 cases d1 with
 | int i=>
  cases d2 with
  | int j=>cases e;exact Za pins s σ H x y v u Q I rx ry ⟨i,j,p1.int,p2.int,k _ A H (aM.refl ha) (Rp.int.mpr rfl)⟩
  | bool j=>cases e;exact Nv pins s σ H x y v u Q I rx ry ⟨i,j,p1.int,p2.bool,k _ A H (aM.refl ha) (Rp.int.mpr rfl)⟩
  | _=>cases e
 | str i=>
  cases d2 with
  | str j=>
   obtain ⟨hc,e⟩:=b7 e
   cases e
   exact K4 pins s σ H x y v u Q I rx ry ⟨i,j,p1.str,p2.str,hc,k _ A H (aM.refl ha) (Rp.str.mpr rfl)⟩
  | _=>cases e
 | list i=>
  cases d2 with
  | list j=>
   obtain ⟨hc,e⟩:=b7 e
   cases e
   obtain ⟨l1,xs,e1,h1,q1⟩:=p1.list ha
   obtain ⟨l2,ys,e2,h2,q2⟩:=p2.list ha
   refine Ja pins s σ H x y v u Q I rx ry ⟨l1,l2,xs,ys,e1,e2,h1,h2,by rw[← q1.length,← q2.length];exact hc,fun p hp=>?_⟩
   have g:=aM.new (o:=.lst (xs++ys)) ha hp
   exact k _ _ _ g (Rp.list.mpr ⟨p,_,rfl,SqL.of bw,(aB.mono g.aa _ q1).append (aB.mono g.aa _ q2)⟩)
  | _=>cases e
 | tuple i=>
  cases d2 with
  | tuple j=>
   obtain ⟨hc,e⟩:=b7 e
   cases e
   obtain ⟨l1,xs,e1,h1,q1⟩:=p1.tuple ha
   obtain ⟨l2,ys,e2,h2,q2⟩:=p2.tuple ha
   by_cases hne:i=[]
   · subst hne
     have ex:xs=[]:=nr q1.length.symm
     subst ex
     refine Qo pins s σ H x y v u Q I rx ry ⟨l1,l2,ys,e1,e2,h1,h2,?_⟩
     rw[n4] at k
     refine k _ A H (aM.refl ha) ?_
     have:=p2.j5 (fun _ z=>nomatch z) (fun _ z=>nomatch z)
     rw[e2] at this
     exact this
   refine Uw pins s σ H x y v u Q I rx ry ⟨l1,l2,xs,ys,e1,e2,h1,h2,fun z=>?_,by rw[← q1.length,← q2.length];exact hc,fun z=>?_,fun z p hp=>?_⟩
   · subst z
     have:=q1.length
     exact hne (nr this)
   · subst z
     have e0:j=[]:=nr q2.length
     subst e0
     rw[fb] at k
     refine k _ A H (aM.refl ha) ?_
     have:=p1.j5 (fun _ z=>nomatch z) (fun _ z=>nomatch z)
     rw[e1] at this
     exact this
   · have g:=aM.new (o:=.tup (xs++ys)) ha hp
     exact k _ _ _ g (Rp.tuple.mpr ⟨p,_,rfl,SqT.of bw,(aB.mono g.aa _ q1).append (aB.mono g.aa _ q2)⟩)
  | _=>cases e
 | _=>cases e
noncomputable def Bm:ae→ae→Res ae
 | .list a,.list b=>gd (a.length+b.length≤bg) (.ok (.list (a++b)))
 | _,_=>.bad
theorem PK:OpR X (g9 .Add) (rDF X.K Bm):=by
 intro pins s σ H x y v u Q I rx ry hq
 obtain ⟨A,d1,d2,d,e,ha,p1,p2,k⟩:=hq
 cases d1 with
 | list i=>
  cases d2 with
  | list j=>
   obtain ⟨hc,e⟩:=b7 e
   cases e
   obtain ⟨l1,xs,e1,h1,q1⟩:=p1.list ha
   obtain ⟨l2,ys,e2,h2,q2⟩:=p2.list ha
   refine Ja pins s σ H x y v u Q I rx ry ⟨l1,l2,xs,ys,e1,e2,h1,h2,by rw[← q1.length,← q2.length];exact hc,fun p hp=>?_⟩
   exact k _ _ _ (aM.lay ha hp) ⟨p,_,rfl,hp,bw,ha.free hp,.inl ⟨_,_,rfl,rfl,q1.append q2⟩⟩
  | _=>cases e
 | _=>cases e
noncomputable def aa5:R2:=fun x y H Q=>∃l k xs,x = .ref l∧y = .int k∧Rd H l (.lst xs) ∧ -(2^63)≤k∧k < 2^63∧xs.length*k.toNat≤bg ∧
 ∀p,H p=none→Q (.ref p) (upd H p (.lst (cK k.toNat xs).flatten))
theorem V6:OpR X (g9 .Mult) aa5:=by
 intro pins s σ H x y v u Q I rx ry h
 obtain ⟨l,k,xs,rfl,rfl,hH,h1,h2,hz,q⟩:=h
 cases rx
 obtain ⟨t,rfl⟩:=ry
 obtain ⟨z,its,n,r,e⟩:=hH.ok I.hok
 have hl:=r.length
 have hlen:its.toArray.size*k.toNat≤bg:=by rw[bE,← hl];exact hz
 have adu:¬ its.toArray.size*k.toNat > (2^63 - 1) / 8:=by
  have:(bg:Nat)≤(2^63 - 1) / 8:=by decide
  omega
 have hfit:¬ (!Builtin.List.listFitsIndex k)=true:=by
  rw[fitsIndex_both h1 h2]
  exact i6
 have KZ:¬ ij (its.toArray.size*k.toNat)=true:=by
  rw[Hb hlen]
  exact i6
 have hnew:AI (fun x1 x2=>x1++x2) #[] (cK (if its.toArray.isEmpty=true then 0 else k.toNat) its.toArray)=(cK k.toNat its).flatten.toArray:=by
  have f0:∀m:Nat,AI (fun x1 x2=>x1++x2) #[] (cK m its.toArray)=(cK m its).flatten.toArray:=fun m=>by
   have:=foldl_rep its m []
   rw[n4] at this
   exact this
  rw[f0]
  cases its with
  | nil=>simp
  | cons a r'=>rw[if_neg (by simp)]
 refine wpAny_binaryOp_repeat_ref (T := "list") (U := "int") (by decide) ⟨_,e,rfl⟩ (fun s'=>typeIs_int s' k t) noFill_list_mul F.fills_int_mul F.slot_int_rmul repeat_list F.slot_int_index.lookup
  (ve F.slot_int_rmul (typeIs_int s k t) F.entry_int_rmul (F.args_int_rmul_2 _ _) (int___rmul___int_list k t l its.toArray n)
   ⟨e,rfl,⟨_,e,rfl⟩,ve F.slot_list_mul ⟨_,e,rfl⟩ F.entry_list_mul (F.args_list_mul_2 _ _) (AutoListH.list___mul___list_int_3 l its.toArray n k t hfit adu KZ) ⟨e,?_⟩⟩)
 rw[hnew]
 exact ⟨.ref _,_,I.aaA (t':=s.toks) (r.rep k.toNat) (by rw[len_rep,Nat.mul_comm];exact hz),rfl,q _ I.fresh⟩
theorem aB.reps {K:af}{A:Hp}{ds:List ae}{vs:List V} (h:aB K A ds vs) (k:Nat):aB K A (cK k ds).flatten (cK k vs).flatten:=by
 induction k with
 | zero=>exact aB.nil.mpr rfl
 | succ k ih=>rw[hX,hX,kR,kR];exact h.append ih
theorem wC:OpR X (g9 .Mult) (rD X.K ym):=zc YB fun a b d e=>by
 obtain ⟨i,j,rfl,rfl,e⟩:=il e;obtain ⟨hc,e⟩:=b7 e;cases e;exact ⟨_,_,rfl,rfl,hc,rfl⟩
noncomputable def yq:ae→ae→Res ae
 | .list a,.int k=>gd (-(2^63)≤k∧k < 2^63∧a.length*k.toNat≤bg) (.ok (.list (cK k.toNat a).flatten))
 | _,_=>.bad
theorem N8 {O:List Fl}{m1 m2:ME}{a b:Expr}{pos:Pos} (ha:QE X a (tF X.K O m1)) (hb:QE X b (tP X.K O m2)):QE X (.BinOp a .Mult b pos) (tF X.K O (aq yq m1 m2)):=QE.imp (JQ V6 ha.h hb.h) fun σ H Q ao=>by
 obtain ⟨A,B,Γ,d,r,em,k⟩:=ao
 obtain ⟨d1,e1,em⟩:=Res.aA em
 obtain ⟨d2,e2,em⟩:=Res.aA em
 refine ⟨A,B,Γ,d1,r,e1,fun x A1 H1 g1 p1=>⟨A1,B,Γ,d2,r.grow g1,e2,fun y A2 H2 g2 p2=>?_⟩⟩
 cases d1 with
 | list i=>
  cases d2 with
  | int j=>
   obtain ⟨hc,em⟩:=b7 em
   cases em
   obtain ⟨l1,o,rfl,h0,h1,h2,⟨ds,xs,e3,rfl,q1⟩ | ⟨kvs,u,e3,_⟩⟩:=p1
   rotate_right
   · cases e3
   cases e3
   refine ⟨l1,j,xs,rfl,p2.int,.inl (g2.hh _ _ h1),hc.1,hc.2.1,by rw[← q1.length];exact hc.2.2,fun p hp=>?_⟩
   have gg:=g1.trans g2
   exact k _ _ _ (gg.trans (aM.lay g2.ah hp)) ⟨p,_,rfl,gg.hh.free hp,bw,g2.ah.free hp,.inl ⟨_,_,rfl,rfl,(aB.mono g2.aa _ q1).reps _⟩⟩
  | _=>cases em
 | _=>cases em
theorem aB.atI {K:af}{A:Hp}{ds:List ae}{vs:List V}{i:Int}{d:ae} (h:aB K A ds vs) (e:L2.atI ds i=some d):∃x,L2.atI vs i=some x∧Rp K A d x:=by
 unfold L2.atI at e ⊢
 rw[← h.length]
 cases q:ixN ds.length i with
 | none=>rw[q] at e;cases e
 | some j=>rw[q] at e;exact h.get' e
theorem Ei:IxR X (rD X.K ixD):=by
 intro value slice pins s σ H x y v u Q I rx ry hq hs
 obtain ⟨A,d1,d2,d,e,ha,p1,p2,k⟩:=hq
 cases d1 with
 | list ds=>
  cases d2 with
  | int i=>
   have e':(match L2.atI ds i with | some d=>Res.ok d | none=>.bad) = .ok d:=e
   cases q:L2.atI ds i with
   | none=>rw[q] at e';cases e'
   | some d0=>
    rw[q] at e'
    cases e'
    obtain ⟨l,vs,e1,h1,q2⟩:=p1.list ha
    obtain ⟨z,hz,rz⟩:=q2.atI q
    exact UJ value slice pins s σ H x y v u Q I rx ry ⟨l,vs,i,z,e1,p2.int,h1,hz,k _ A H (aM.refl ha) rz⟩ hs
  | _=>cases e
 | tuple ds=>
  cases d2 with
  | int i=>
   have e':(match L2.atI ds i with | some d=>Res.ok d | none=>.bad) = .ok d:=e
   cases q:L2.atI ds i with
   | none=>rw[q] at e';cases e'
   | some d0=>
    rw[q] at e'
    cases e'
    obtain ⟨l,vs,e1,h1,q2⟩:=p1.tuple ha
    obtain ⟨z,hz,rz⟩:=q2.atI q
    exact aao value slice pins s σ H x y v u Q I rx ry ⟨l,vs,i,z,e1,p2.int,h1,hz,k _ A H (aM.refl ha) rz⟩ hs
  | _=>cases e
 | _=>cases e
theorem aW {a b:Expr}{O:List Fl}{m1 m2:ME}{pos:Pos} (ha:QE X a (tP X.K O m1)) (hb:QE X b (tP X.K O m2)) (hs:Br b):QE X (.Subscript a b pos) (tE X.K O (aq ixD m1 m2)):=QE.imp (T4 Ei ha.h hb.h hs) fun _ _ _=>zE
end
noncomputable def evs:List ME→Ev→Res (List ae)
 | [],_=>.ok []
 | m::ms,Γ=>(m Γ).bind fun d=>(evs ms Γ).bind fun ds=>.ok (d::ds)
theorem oK:∀{ms:List ME}{Γ:Ev}{ds:List ae},evs ms Γ = .ok ds→ds.length=ms.length
 | [],_,_,h=>by cases h;rfl
 | m::ms,Γ,ds,h=>by
  obtain ⟨d,_,h⟩:=Res.aA h
  obtain ⟨r,e,h⟩:=Res.aA h
  cases h
  rw[cE,cE,oK e]
noncomputable def tAi (K:af) (O:List Fl) (ms:List ME):TA:=fun σ H Q=>∃A B Γ ds,aN K A B H O σ Γ∧evs ms Γ = .ok ds∧∀vs A' H',aM A H A' H'→aB K A' ds vs→Q vs H'
noncomputable def Ht (K:af) (A H:Hp):Fl→ae→V→Prop
 | .imm,d,v=>Rp K A d v
 | _,d,v=>Pk K A H d v
noncomputable def j6 (K:af) (A H:Hp):List Fl→List ae→List V→Prop
 | [],ds,vs=>ds=[]∧vs=[]
 | f::fs,ds,vs=>∃d r v s,ds=d::r∧vs=v::s∧Ht K A H f d v∧j6 K A H fs r s
noncomputable def tAr (K:af) (O:List Fl) (fs:List Fl) (ms:List ME):TA:=fun σ H Q=>∃A B Γ ds,aN K A B H O σ Γ∧evs ms Γ = .ok ds∧∀vs A' H',aM A H A' H'→j6 K A' H' fs ds vs→Q vs H'
section
variable {X:Cx}{K:af}{O:List Fl}{m:ME}{ms:List ME}{fs:List Fl}{e:Expr}{es:List Expr}{pos:Pos}
theorem aZ:QA X [] (tAi K O []):=QA.imp fQ fun σ H Q ao=>by
 obtain ⟨A,B,Γ,ds,r,em,k⟩:=ao
 cases em
 exact k [] A H (aM.refl r.a) (aB.nil.mpr rfl)
theorem aG (ha:QE X e (tE K O m)) (hr:QA X es (tAi K O ms)) (hs:noStar e=true:=by rfl):QA X (e::es) (tAi K O (m::ms)):=QA.imp (cA ha.h hr.h (bY hs)) fun σ H Q ao=>by
 obtain ⟨A,B,Γ,ds,r,em,k⟩:=ao
 obtain ⟨d,e1,em⟩:=Res.aA em
 obtain ⟨ds',e2,em⟩:=Res.aA em
 cases em
 exact ⟨A,B,Γ,d,r,e1,fun v A1 H1 g1 p1=>⟨A1,B,Γ,ds',r.grow g1,e2,fun vs A2 H2 g2 p2=>k (v::vs) A2 H2 (g1.trans g2) (aB.cons.mpr ⟨v,vs,rfl,Rp.mono g2.aa d p1,p2⟩)⟩⟩
theorem aU:QA X [] (tAr K O [] []):=QA.imp fQ fun σ H Q ao=>by
 obtain ⟨A,B,Γ,ds,r,em,k⟩:=ao
 cases em
 exact k [] A H (aM.refl r.a) ⟨rfl,rfl⟩
theorem rY (ha:QE X e (tE K O m)) (hr:QA X es (tAr K O fs ms)) (hs:noStar e=true:=by rfl):QA X (e::es) (tAr K O (.imm::fs) (m::ms)):=QA.imp (cA ha.h hr.h (bY hs)) fun σ H Q ao=>by
 obtain ⟨A,B,Γ,ds,r,em,k⟩:=ao
 obtain ⟨d,e1,em⟩:=Res.aA em
 obtain ⟨ds',e2,em⟩:=Res.aA em
 cases em
 exact ⟨A,B,Γ,d,r,e1,fun v A1 H1 g1 p1=>⟨A1,B,Γ,ds',r.grow g1,e2,fun vs A2 H2 g2 p2=>k (v::vs) A2 H2 (g1.trans g2) ⟨d,ds',v,vs,rfl,rfl,Rp.mono g2.aa d p1,p2⟩⟩⟩
theorem aJ (ha:QE X e (tP K O m)) (hr:QA X es (tAr K O fs ms)) (hs:noStar e=true:=by rfl):QA X (e::es) (tAr K O (.bor::fs) (m::ms)):=QA.imp (cA ha.h hr.h (bY hs)) fun σ H Q ao=>by
 obtain ⟨A,B,Γ,ds,r,em,k⟩:=ao
 obtain ⟨d,e1,em⟩:=Res.aA em
 obtain ⟨ds',e2,em⟩:=Res.aA em
 cases em
 exact ⟨A,B,Γ,d,r,e1,fun v A1 H1 g1 p1=>⟨A1,B,Γ,ds',r.grow g1,e2,fun vs A2 H2 g2 p2=>k (v::vs) A2 H2 (g1.trans g2) ⟨d,ds',v,vs,rfl,rfl,p1.mono g2.aa g2.hh,p2⟩⟩⟩
noncomputable def cY (ms:List ME):ME:=fun Γ=>(evs ms Γ).bind fun ds=>.ok (.tuple ds)
noncomputable def cL (ms:List ME):ME:=fun Γ=>(evs ms Γ).bind fun ds=>.ok (.list ds)
theorem cF {x1} (h:QA X es (tAi K O ms)) (hl:ms.length≤bg:=by first | decide | exact of_decide_eq_true rfl):QE X (.Tuple es x1 pos) (tE K O (cY ms)):=QE.imp (Ze h.h) fun σ H Q ao=>by
 obtain ⟨A,B,Γ,d,r,em,k⟩:=ao
 obtain ⟨ds,e1,em⟩:=Res.aA em
 cases em
 refine ⟨A,B,Γ,ds,r,e1,fun vs A1 H1 g1 p1=>⟨by rw[← p1.length,oK e1];exact hl,fun p hp=>?_⟩⟩
 have g:=aM.new (o:=.tup vs) g1.ah hp
 exact k _ _ _ (g1.trans g) (Rp.tuple.mpr ⟨p,vs,rfl,SqT.of bw,aB.mono g.aa ds p1⟩)
theorem cC (h:QA X es (tAi K O ms)) (hl:ms.length≤bg:=by first | decide | exact of_decide_eq_true rfl):QE X (.List es pos) (tF K O (cL ms)):=QE.imp (Xa h.h) fun σ H Q ao=>by
 obtain ⟨A,B,Γ,d,r,em,k⟩:=ao
 obtain ⟨ds,e1,em⟩:=Res.aA em
 cases em
 refine ⟨A,B,Γ,ds,r,e1,fun vs A1 H1 g1 p1=>⟨by rw[← p1.length,oK e1];exact hl,fun p hp=>?_⟩⟩
 exact k _ _ _ (g1.trans (aM.lay g1.ah hp)) ⟨p,_,rfl,g1.hh.free hp,bw,g1.ah.free hp,.inl ⟨ds,vs,rfl,rfl,p1⟩⟩
noncomputable def qw:List (Str×ME)→ME
 | []=>fun _=>.ok (.dict [])
 | (x,m)::r=>fun Γ=>(m Γ).bind fun d=>(qw r Γ).bind fun e=>match e with
  | .dict ds=>.ok (.dict ((.str x,d)::ds))
  | _=>.bad
theorem xj:QE X (.Dict [] [] pos) (tF K O (qw [])):=QE.imp R0 fun σ H Q ao=>by
 obtain ⟨A,B,Γ,d,r,em,k⟩:=ao
 cases em
 intro p hp
 exact k _ _ _ (aM.lay r.a hp) ⟨p,_,rfl,hp,bw,r.a.free hp,.inr ⟨_,_,rfl,rfl,aQ.nil.mpr rfl⟩⟩
theorem aa0 {op:UnaryOp}{f:ae→Res ae}{a:Expr}{r:V→Hp→VK→Prop} (ho:UnR X (unaryOp op) r) (hf:∀A H d1 d x (Q:VK),f d1 = .ok d→aC A H→Pk K A H d1 x→(∀v A' H',aM A H A' H'→Rp K A' d v→Q v H')→r x H Q)
 (ha:QE X a (tP K O m)):QE X (.UnaryOp op a pos) (tE K O (eUn f m)):=QE.imp (aaQ ho ha.h) fun σ H Q ao=>by
 obtain ⟨A,B,Γ,d,r,em,k⟩:=ao
 obtain ⟨d1,e1,em⟩:=Res.aA em
 exact ⟨A,B,Γ,d1,r,e1,fun v A1 H1 g1 p1=>hf A1 H1 d1 d v Q em g1.ah p1 fun v A' H' g p=>k v A' H' (g1.trans g) p⟩
noncomputable def eFn (f:List ae→Res ae) (ms:List ME):ME:=fun Γ=>(evs ms Γ).bind f
noncomputable def o5 (K:af) (A H:Hp) (ds:List ae) (vs:List V):Prop:=j6 K A H (ds.map fun _=>.bor) ds vs
noncomputable def rC (K:af) (f:List ae→Res ae):List V→Hp→VK→Prop:=fun vs H Q=>∃A ds d,f ds = .ok d∧aC A H∧o5 K A H ds vs∧∀v A' H',aM A H A' H'→Rp K A' d v→Q v H'
noncomputable def rCF (K:af) (f:List ae→Res ae):List V→Hp→VK→Prop:=fun vs H Q=>∃A ds d,f ds = .ok d∧aC A H∧o5 K A H ds vs∧∀v A' H',aM A H A' H'→rN K H A' H' d v→Q v H'
noncomputable def nW (ms:List ME):List Fl:=ms.map fun _=>.bor
theorem Oi {Γ:Ev}{ds:List ae} (h:evs ms Γ = .ok ds):nW ms=ds.map fun _=>.bor:=by
 have e:=oK h
 unfold nW
 rw[List.map_const',List.map_const',e]
theorem Uh {f:List ae→Res ae}{σ:L2.St}{H:Hp}{Q:VK} (h:tE K O (eFn f ms) σ H Q):tCB (rC K f) (tAr K O (nW ms) ms) σ H Q:=by
 obtain ⟨A,B,Γ,d,r,em,k⟩:=h
 obtain ⟨ds,e1,em⟩:=Res.aA em
 refine ⟨A,B,Γ,ds,r,e1,fun vs A1 H1 g1 p1=>⟨A1,ds,d,em,g1.ah,by unfold o5;rw[← Oi e1];exact p1,fun v A' H' g p=>k v A' H' (g1.trans g) p⟩⟩
theorem Uc {f:List ae→Res ae}{σ:L2.St}{H:Hp}{Q:VK} (h:tF K O (eFn f ms) σ H Q):tCB (rCF K f) (tAr K O (nW ms) ms) σ H Q:=by
 obtain ⟨A,B,Γ,d,r,em,k⟩:=h
 obtain ⟨ds,e1,em⟩:=Res.aA em
 refine ⟨A,B,Γ,ds,r,e1,fun vs A1 H1 g1 p1=>⟨A1,ds,d,em,g1.ah,by unfold o5;rw[← Oi e1];exact p1,fun v A' H' g p=>k v A' H' (g1.trans g) ?_⟩⟩
 obtain ⟨q,o,e,h1,h2⟩:=p
 exact ⟨q,o,e,g1.hh.free h1,h2⟩
variable {x:Str}{p:Pos}{id:String}{f:List ae→Res ae}
theorem eE (hc:dU X (.builtin id) (rC K f)) (hg:Gl X x) (hm:X.mg x=none) (hv:ee x=some (.builtin id)) (ha:QA X (e::es) (tAr K O (nW ms) ms)) (hn:x ≠ "__name__" := by decide) (hdb:(x == ("__debug__" : Str))=false:=by decide)
 (hs:noStar e=true:=by rfl) (hpl:fC es=true:=by rfl):QE X (.Call (.Name x p) (e::es) [] pos) (tE K O (eFn f ms)):=QE.imp (um hc hg hm hv ha.h hn hdb (bY hs) (g8 hpl)) fun _ _ _=>Uh
theorem QQ (hc:dU X (.builtin id) (rCF K f)) (hg:Gl X x) (hm:X.mg x=none) (hv:ee x=some (.builtin id)) (ha:QA X (e::es) (tAr K O (nW ms) ms)) (hn:x ≠ "__name__" := by decide) (hdb:(x == ("__debug__" : Str))=false:=by decide)
 (hs:noStar e=true:=by rfl) (hpl:fC es=true:=by rfl):QE X (.Call (.Name x p) (e::es) [] pos) (tF K O (eFn f ms)):=QE.imp (um hc hg hm hv ha.h hn hdb (bY hs) (g8 hpl)) fun _ _ _=>Uc
theorem Cz (hc:dU X (.type id) (rC K f)) (hg:Gl X x) (hm:X.mg x=none) (hv:ee x=some (.type id)) (ha:QA X (e::es) (tAr K O (nW ms) ms)) (hn:x ≠ "__name__" := by decide) (hdb:(x == ("__debug__" : Str))=false:=by decide)
 (hs:noStar e=true:=by rfl) (hpl:fC es=true:=by rfl):QE X (.Call (.Name x p) (e::es) [] pos) (tE K O (eFn f ms)):=QE.imp (Dh hc hg hm hv ha.h hn hdb (bY hs) (g8 hpl)) fun _ _ _=>Uh
theorem NZ (hc:dU X (.type id) (rCF K f)) (hg:Gl X x) (hm:X.mg x=none) (hv:ee x=some (.type id)) (ha:QA X (e::es) (tAr K O (nW ms) ms)) (hn:x ≠ "__name__" := by decide) (hdb:(x == ("__debug__" : Str))=false:=by decide)
 (hs:noStar e=true:=by rfl) (hpl:fC es=true:=by rfl):QE X (.Call (.Name x p) (e::es) [] pos) (tF K O (eFn f ms)):=QE.imp (Dh hc hg hm hv ha.h hn hdb (bY hs) (g8 hpl)) fun _ _ _=>Uc
end
theorem o5.nil {K:af}{A H:Hp}{vs:List V} (h:o5 K A H [] vs):vs=[]:=h.2
theorem o5.cons {K:af}{A H:Hp}{d:ae}{ds:List ae}{vs:List V} (h:o5 K A H (d::ds) vs):∃v r,vs=v::r∧Pk K A H d v∧o5 K A H ds r:=by
 obtain ⟨d',r',v,s,e1,e2,h1,h2⟩:=h
 cases e1
 exact ⟨v,s,e2,h1,h2⟩
noncomputable def lg:List ae→Res ae
 | [.list ds]=>.ok (.int ds.length)
 | [.tuple ds]=>.ok (.int ds.length)
 | [.str x]=>gd (x.length≤bg) (.ok (.int x.length))
 | _=>.bad
noncomputable def Ld:List ae→Res ae
 | [.list ds]=>.ok (.list ds)
 | [.tuple ds]=>.ok (.list ds)
 | _=>.bad
noncomputable def uY:List ae→Res ae
 | [.list ds]=>.ok (.tuple ds)
 | [.tuple ds]=>.ok (.tuple ds)
 | _=>.bad
noncomputable def minD:List ae→Res ae
 | [.int i,.int j]=>.ok (.int (if j < i then j else i))
 | _=>.bad
section
variable {X:Cx}
theorem vJ:dU X (.builtin "len") (rC X.K lg):=by
 intro pins s σ H xs us Q I r h
 obtain ⟨A,ds,d,e,ha,p,k⟩:=h
 match ds,e with
 | [.list es],e=>
  cases e
  obtain ⟨v,r',rfl,p1,p2⟩:=p.cons
  obtain rfl:=p2.nil
  obtain ⟨l,vs,rfl,h1,q1⟩:=p1.list ha
  exact vU pins s σ H _ us Q I r ⟨l,vs,rfl,.inl h1,by rw[← q1.length];exact k _ A H (aM.refl ha) (Rp.int.mpr rfl)⟩
 | [.tuple es],e=>
  cases e
  obtain ⟨v,r',rfl,p1,p2⟩:=p.cons
  obtain rfl:=p2.nil
  obtain ⟨l,vs,rfl,h1,q1⟩:=p1.tuple ha
  exact vU pins s σ H _ us Q I r ⟨l,vs,rfl,.inr h1,by rw[← q1.length];exact k _ A H (aM.refl ha) (Rp.int.mpr rfl)⟩
 | [.str x],e=>
  obtain ⟨hc,e⟩:=b7 e
  cases e
  obtain ⟨v,r',rfl,p1,p2⟩:=p.cons
  obtain rfl:=p2.nil
  exact Gy pins s σ H _ us Q I r ⟨x,by rw[p1.str],hc,k _ A H (aM.refl ha) (Rp.int.mpr rfl)⟩
theorem Vd:dU X (.type "list") (rCF X.K Ld):=by
 intro pins s σ H xs us Q I r h
 obtain ⟨A,ds,d,e,ha,p,k⟩:=h
 match ds,e with
 | [.list es],e=>
  cases e
  obtain ⟨v,r',rfl,p1,p2⟩:=p.cons
  obtain rfl:=p2.nil
  obtain ⟨l,vs,rfl,h1,q1⟩:=p1.list ha
  exact v7 pins s σ H _ us Q I r ⟨l,vs,rfl,.inl h1,fun q hq=>k _ A _ (aM.lay ha hq) ⟨q,_,rfl,hq,bw,ha.free hq,.inl ⟨_,_,rfl,rfl,q1⟩⟩⟩
 | [.tuple es],e=>
  cases e
  obtain ⟨v,r',rfl,p1,p2⟩:=p.cons
  obtain rfl:=p2.nil
  obtain ⟨l,vs,rfl,h1,q1⟩:=p1.tuple ha
  exact v7 pins s σ H _ us Q I r ⟨l,vs,rfl,.inr h1,fun q hq=>k _ A _ (aM.lay ha hq) ⟨q,_,rfl,hq,bw,ha.free hq,.inl ⟨_,_,rfl,rfl,q1⟩⟩⟩
theorem Gs:dU X (.type "tuple") (rC X.K uY):=by
 intro pins s σ H xs us Q I r h
 obtain ⟨A,ds,d,e,ha,p,k⟩:=h
 match ds,e with
 | [.list es],e=>
  cases e
  obtain ⟨v,r',rfl,p1,p2⟩:=p.cons
  obtain rfl:=p2.nil
  obtain ⟨l,vs,rfl,h1,q1⟩:=p1.list ha
  exact uW pins s σ H _ us Q I r ⟨l,vs,rfl,.inl ⟨h1,fun q hq=>by
   have g:=aM.new (o:=.tup vs) ha hq
   exact k _ _ _ g (Rp.tuple.mpr ⟨q,vs,rfl,SqT.of bw,aB.mono g.aa _ q1⟩)⟩⟩
 | [.tuple es],e=>
  cases e
  obtain ⟨v,r',rfl,p1,p2⟩:=p.cons
  obtain rfl:=p2.nil
  have p1':=p1.j5 (fun _ z=>nomatch z) (fun _ z=>nomatch z)
  obtain ⟨l,vs,rfl,h1,q1⟩:=p1.tuple ha
  exact uW pins s σ H _ us Q I r ⟨l,vs,rfl,.inr ⟨h1,k _ A H (aM.refl ha) p1'⟩⟩
theorem Qa (hc:X.calm=true):dU X (.builtin "min") (rC X.K minD):=by
 intro pins s σ H xs us Q I r h
 obtain ⟨A,ds,d,e,ha,p,k⟩:=h
 match ds,e with
 | [.int i,.int j],e=>
  cases e
  obtain ⟨v,r',rfl,p1,p0⟩:=p.cons
  obtain ⟨v2,r',rfl,p2,p3⟩:=p0.cons
  obtain rfl:=p3.nil
  exact Om hc pins s σ H _ us Q I r ⟨i,j,by rw[p1.int,p2.int],k _ A H (aM.refl ha) (Rp.int.mpr rfl)⟩
end
noncomputable def tyN:ae→String
 | .none => "NoneType"
 | .bool _ => "bool"
 | .int _ => "int"
 | .str _ => "str"
 | .list _ => "list"
 | .tuple _ => "tuple"
 | .dict _ => "dict"
noncomputable def pX (T:String) (d:ae):Bool:=tyN d == T||(T == "int" && tyN d == "bool")
noncomputable def rA (T:String) (a:ME):ME:=fun Γ=>(a Γ).bind fun d=>.ok (.bool (pX T d))
section
variable {K:af}
theorem yD (t:String):oy K (.type t) (.type t)=some true:=by unfold oy;rw[if_pos (by simp)]
theorem Hi {t T:String}{b:Bool} (hne:(om t == om T)=false) (h:(if ti T=true then (fastBuiltinMro t).map (·.contains (om T)) else none)=some b):oy K (.type t) (.type T)=some b:=by
 unfold oy ft
 rw[if_neg (by rw[hne];exact i6)]
 exact h
noncomputable def Aq (K:af) (T:String):Prop:=∀d:ae,oy K (.type (tyN d)) (.type T)=some (pX T d)
theorem Fq {T:String} (h:∀t∈["NoneType", "bool", "int", "str", "list", "tuple", "dict"],oy K (.type t) (.type T)=some (t == T||(T == "int" && t == "bool"))):Aq K T:=fun d=>h (tyN d) (by cases d <;> simp[tyN])
theorem VG:Aq K "int" := Fq fun t h=>by
 simp only[de,xC,or_false] at h
 rcases h with rfl | rfl | rfl | rfl | rfl | rfl | rfl <;> first | exact (yD _).trans (by decide +kernel) | exact Hi (by decide +kernel) (by decide +kernel)
theorem QX:Aq K "bool" := Fq fun t h=>by
 simp only[de,xC,or_false] at h
 rcases h with rfl | rfl | rfl | rfl | rfl | rfl | rfl <;> first | exact (yD _).trans (by decide +kernel) | exact Hi (by decide +kernel) (by decide +kernel)
theorem Cg:Aq K "tuple" := Fq fun t h=>by
 simp only[de,xC,or_false] at h
 rcases h with rfl | rfl | rfl | rfl | rfl | rfl | rfl <;> first | exact (yD _).trans (by decide +kernel) | exact Hi (by decide +kernel) (by decide +kernel)
end
section
variable {X:Cx}{O:List Fl}{m:ME}{a b:Expr}{p pos:Pos}{T:String}
noncomputable def aa9 (K:af) (T:String):List V→Hp→VK→Prop:=fun xs H Q=>∃x A d,xs=[x,.ty T]∧aC A H∧Pk K A H d x∧Q (.bl (pX T d)) H
theorem XF (hT:Aq X.K T):dU X (.builtin "isinstance") (aa9 X.K T):=by
 intro pins s σ H xs us Q I r h
 obtain ⟨x,A,d,rfl,ha,p1,q⟩:=h
 obtain ⟨u,c,rfl,rx,rc⟩:=Vals.two r
 cases rc
 have fin:∀tk,EP X pins σ Q (.bool (pX T d)) { s with toks:=tk }:=fun tk=>⟨.bl _,H,I.tok tk,rfl,q⟩
 have e:=hT d
 cases d with
 | none=>rw[p1.none] at rx;cases rx;exact md PySem.W.kitx_none I.kIn ox e (fun z=>nomatch z) fin
 | bool y=>rw[p1.bool] at rx;cases rx;exact md PySem.W.kitx_bool I.kIn ox e (fun z=>nomatch z) fin
 | int i=>rw[p1.int] at rx;obtain ⟨t,rfl⟩:=rx;exact md PySem.W.kitx_int I.kIn ox e (fun z=>nomatch z) fin
 | str y=>rw[p1.str] at rx;obtain ⟨t,rfl⟩:=rx;exact md PySem.W.kitx_str I.kIn ox e (fun z=>nomatch z) fin
 | list ds=>
  obtain ⟨l,vs,rfl,h1,q1⟩:=p1.list ha
  cases rx
  obtain ⟨its,_,pl,_⟩:=I.list h1
  obtain ⟨o,h2,h3,_⟩:=pl.isList
  exact md PySem.W.kitx_list I.kIn ⟨o,h2,h3⟩ e (fun z=>nomatch z) fin
 | tuple ds=>
  obtain ⟨l,vs,rfl,h1,q1⟩:=p1.tuple ha
  cases rx
  obtain ⟨its,_,⟨o,h2,h3,_⟩,_⟩:=I.tuple h1
  exact md PySem.W.kitx_tuple I.kIn ⟨o,h2,h3⟩ e (fun z=>nomatch z) fin
 | dict ds=>
  obtain ⟨l,kvs,rfl,h1,_⟩:=p1.dict ha
  cases rx
  obtain ⟨_,_,vs,_,hd⟩:kvs.length≤bg∧(l == kg)=false∧∃vs,KV kvs vs∧s.heap.DictOf (bD X.prog X.w) l vs:=m7 I.hok h1
  obtain ⟨o,_,_,h2,h3,_⟩:=hd
  exact md PySem.W.kitx_dict I.kIn ⟨o,h2,h3.1⟩ e (fun z=>nomatch z) fin
theorem zp (hT:Aq X.K T) (hg:Gl X "isinstance") (hm:X.mg "isinstance" = none) (ha:QE X a (tP X.K O m)) (hb:PE X b (tC (.ty T)))
 (h1:d5 (a::[b]) X.env=(false,eval a X.env)::d5 [b] X.env:=by rfl) (h2:d5 [b] X.env=(false,eval b X.env)::d5 [] X.env:=by rfl) (hpl:(lI pos (d5 [b] X.env)).any (·.1)=false:=by rfl) :
 QE X (.Call (.Name "isinstance" p) [a,b] [] pos) (tE X.K O (rA T m)):=
 QE.imp (um (XF hT) hg hm (show ee "isinstance" = some (.builtin "isinstance") by decide +kernel) (cA ha.h (cA hb fQ h2) h1) (by decide) (by decide) h1 hpl) fun σ H Q ao=>by
  obtain ⟨A,B,Γ,d,r,em,k⟩:=ao
  obtain ⟨d1,e1,em⟩:=Res.aA em
  cases em
  exact ⟨A,B,Γ,d1,r,e1,fun v A1 H1 g1 p1=>⟨v,A1,d1,rfl,g1.ah,p1,k _ A1 H1 g1 (Rp.bool.mpr rfl)⟩⟩
theorem xP {x:Str}{T:String}{pos:Pos} (hg:Gl X x) (hm:X.mg x=none) (hv:ee x=some (.type T)) (hn:x ≠ "__name__" := by decide) (hd:(x == ("__debug__" : Str))=false:=by decide):PE X (.Name x pos) (tC (.ty T)):=
 Wk (v:=.ty T) hg hm hv rfl hn hd
end
noncomputable def cutD (xs:List ae) (lo hi:Option Int):List ae:=(xs.drop (HT.sIx xs.length 0 lo)).take (HT.sIx xs.length xs.length hi - HT.sIx xs.length 0 lo)
noncomputable def MO:=Ev→Res (Option Int)
noncomputable def oJ:MO:=fun _=>.ok none
noncomputable def oX (m:ME):MO:=fun Γ=>(m Γ).bind fun d=>match d with
 | .int i=>.ok (some i)
 | _=>.bad
noncomputable def slD:ae→Option Int→Option Int→Res ae
 | .list ds,lo,hi=>.ok (.list (cutD ds lo hi))
 | .tuple ds,lo,hi=>.ok (.tuple (cutD ds lo hi))
 | _,_,_=>.bad
noncomputable def eSl (a:ME) (lo hi:MO):ME:=fun Γ=>(a Γ).bind fun d=>(lo Γ).bind fun l=>(hi Γ).bind fun h=>slD d l h
noncomputable def tO (K:af) (O:List Fl) (m:MO):TO:=fun σ H Q=>∃A B Γ o,aN K A B H O σ Γ∧m Γ = .ok o∧∀A' H',aM A H A' H'→Q o H'
theorem PO.imp {X:Cx}{e:Option Expr}{t t':TO} (h:PO X e t) (i:∀σ H Q,t' σ H Q→t σ H Q):PO X e t':=fun pins s σ H Q I q=>h pins s σ H Q I (i σ H Q q)
theorem QO.imp {X:Cx}{e:Option Expr}{t t':TO} (h:PO X e t) (i:∀σ H Q,t' σ H Q→t σ H Q):QO X e t':=⟨PO.imp h i⟩
section
variable {X:Cx}{O:List Fl}{m:ME}{lo hi:Option Expr}{ml mh:MO}{a e:Expr}{p pos p2:Pos}
theorem BZ:QO X none (tO X.K O oJ):=QO.imp W7 fun σ H Q ao=>by obtain ⟨A,B,Γ,o,r,em,k⟩:=ao;cases em;exact k A H (aM.refl r.a)
theorem Bo (h:QE X e (tP X.K O m)):QO X (some e) (tO X.K O (oX m)):=QO.imp (WT h.h) fun σ H Q ao=>by
 obtain ⟨A,B,Γ,o,r,em,k⟩:=ao
 obtain ⟨d,e1,em⟩:=Res.aA em
 cases d with
 | int i=>cases em;exact ⟨A,B,Γ,_,r,e1,fun v A1 H1 g1 p1=>⟨i,p1.int,k A1 H1 g1⟩⟩
 | _=>cases em
section
variable {prog:cc}{w:eK}{A:eI}{E:ag→ar→Prop}{s:ar}
open HT in
theorem xQ {t sl:Addr}{items:Array ag}{vl vu:ag}{lo hi:Option Int}{Q:ag→ar→Prop} (ht:uS s.heap t items) (hs:s.heap.IsSliceOf sl vl vu .none) (pl:yA vl lo) (pu:yA vu hi)
 (hw:sIx items.size 0 lo=0∧sIx items.size items.size hi=items.size) (h:Q (.ref t) s):cn (cx prog w) A (ua (.ref t) (.ref sl)) Q E s:=by
 obtain ⟨os,hos,hcs,hds⟩:=id hs
 have hTs:s.TypeIs (.ref sl) "slice" := ⟨os,hos,hcs⟩
 unfold ua
 try with_reducible refine jI ?_
 first | refine ai (ay ?_) | skip
 refine ai (wpAny_sequenceKey ht.typeIs (by decide) ?_)
 refine ai (nc (name:=lh "__getitem__") ht.typeIs fw
  (kD fw ht.typeIs entry_tuple_getitem ?_ (args_tuple_getitem _ _)))
 show cn _ _ (Builtin.Tuple.tupleItemsOf (.ref t) >>= _) _ _ s
 refine ai (tupleItemsOf_ ht ?_)
 refine ai (yB hTs ?_)
 rw[if_pos (by decide)]
 refine ai (pY hs pl pu ?_)
 show cn _ _ (if (((sIx items.size 0 lo:Nat):Int) == 0&&(1:Int) == 1&&(sIx items.size items.size hi - sIx items.size 0 lo) == items.size)=true then _ else _) _ _ s
 rw[hw.1,hw.2,if_pos (by simp)]
 refine ai ?_
 unfold Builtin.Tuple.tupleIsExact
 refine ai (yB ht.typeIs (ay ?_))
 rw[if_pos (by decide)]
 exact ai (nL (ay ⟨_,rfl,ay h⟩))
end
noncomputable def X5 (K:af):V→Option Int→Option Int→Hp→VK→Prop:=fun x lo hi H Q=>∃a xs,x = .ref a∧SqT K H a xs ∧
 (HT.sIx xs.length 0 lo=0∧HT.sIx xs.length xs.length hi=xs.length)∧Q (.ref a) H
theorem Wq:SlR X (X5 X.K):=by
 intro pins s σ H x v vl vu lo hi sl Q I rx hs pl pu h
 obtain ⟨a,xs,rfl,hx,hw,q⟩:=h
 cases rx
 obtain ⟨its,r,ht,hz⟩:=I.tuple hx
 have hlen:its.toArray.size=xs.length:=by rw[bE];exact r.length.symm
 refine ⟨"tuple",_,fw.lookup,ht.typeIs,?_⟩
 exact xQ ht hs pl pu (by rw[hlen];exact hw) ⟨.ref a,H,I,rfl,q⟩
theorem Q3 {ds:List ae}{lo hi:Option Int} (h:HT.sIx ds.length 0 lo=0∧HT.sIx ds.length ds.length hi=ds.length):cutD ds lo hi=ds:=by
 unfold cutD
 rw[h.1,h.2,vj,Nat.sub_zero,fS]
noncomputable def aeq (K:af):V→Option Int→Option Int→Hp→VK→Prop:=fun x lo hi H Q=>ZQ K x lo hi H Q∨aax K x lo hi H Q∨X5 K x lo hi H Q
theorem acU:SlR X (aeq X.K):=by
 intro pins s σ H x v vl vu lo hi sl Q I rx hs pl pu h
 rcases h with h | h | h
 · exact Wv pins s σ H x v vl vu lo hi sl Q I rx hs pl pu h
 · exact Xm pins s σ H x v vl vu lo hi sl Q I rx hs pl pu h
 · exact Wq pins s σ H x v vl vu lo hi sl Q I rx hs pl pu h
theorem aB.cut {K:af}{A:Hp}{ds:List ae}{vs:List V} (h:aB K A ds vs) (lo hi:Option Int):aB K A (cutD ds lo hi) (rJ vs lo hi):=by
 unfold cutD rJ
 rw[← h.length]
 exact (h.drop _).take _
theorem Kf (ha:QE X a (tP X.K O m)) (hl:QO X lo (tO X.K O ml)) (hh:QO X hi (tO X.K O mh)):QE X (.Subscript a (.Slice lo hi none p2) pos) (tE X.K O (eSl m ml mh)):=QE.imp (R4 acU ha.h hl.h hh.h) fun σ H Q ao=>by
 obtain ⟨A,B,Γ,d,r,em,k⟩:=ao
 obtain ⟨d1,e1,em⟩:=Res.aA em
 obtain ⟨l,e2,em⟩:=Res.aA em
 obtain ⟨h,e3,em⟩:=Res.aA em
 refine ⟨A,B,Γ,d1,r,e1,fun v A1 H1 g1 p1=>⟨A1,B,Γ,l,r.grow g1,e2,fun A2 H2 g2=>⟨A2,B,Γ,h,(r.grow g1).grow g2,e3,fun A3 H3 g3=>?_⟩⟩⟩
 have g:aM A H A3 H3:=(g1.trans g2).trans g3
 have p3:=p1.mono (g2.trans g3).aa (g2.trans g3).hh
 cases d1 with
 | list ds=>
  cases em
  obtain ⟨q,vs,rfl,h1,q1⟩:=p3.list g3.ah
  refine .inl ⟨q,vs,rfl,h1,fun t ht=>?_⟩
  have gn:=aM.new (o:=.lst (rJ vs l h)) g3.ah ht
  exact k _ _ _ (g.trans gn) (Rp.list.mpr ⟨t,_,rfl,SqL.of bw,aB.mono gn.aa _ (q1.cut l h)⟩)
 | tuple ds=>
  cases em
  have rp:=p3.j5 (fun _ z=>nomatch z) (fun _ z=>nomatch z)
  obtain ⟨q,vs,rfl,h1,q1⟩:=p3.tuple g3.ah
  by_cases hc:HT.sIx ds.length 0 l=0∧HT.sIx ds.length ds.length h=ds.length
  · refine .inr (.inr ⟨q,vs,rfl,h1,by rw[← q1.length];exact hc,?_⟩)
    rw[Q3 hc] at k
    exact k _ _ _ g rp
  refine .inr (.inl ⟨q,vs,rfl,h1,by rw[← q1.length];exact hc,fun t ht=>?_⟩)
  have gn:=aM.new (o:=.tup (rJ vs l h)) g3.ah ht
  exact k _ _ _ (g.trans gn) (Rp.tuple.mpr ⟨t,_,rfl,SqT.of bw,aB.mono gn.aa _ (q1.cut l h)⟩)
 | _=>cases em
end
theorem bJ {α:Type}{l:List α}{i:Nat}{x d:α} (h:i < l.length):(l.set i x).getD i d=x:=by
 rw[ax,ia h];rfl
theorem aL {α:Type}{l:List α}{i j:Nat}{x d:α} (h:i≠j):(l.set i x).getD j d=l.getD j d:=by
 rw[ax,ax,mw h]
section
variable {K:af}{A B H:Hp}{O:List Fl}{σ:L2.St}{Γ:Ev}{i:Nat}{d:ae}{v:V}
theorem aN.set (r:aN K A B H O σ Γ) (hi:i < Γ.length) (hO:i < O.length) (p:Rp K A d v):aN K A B H (O.set i .imm) (σ.set i (some v)) (Γ.set i (some d)):=by
 have hs:i < σ.length:=by rw[← r.len];exact hi
 refine ⟨r.a,r.b,by rw[fx,fx];exact r.len,fun j=>?_,fun j k hjk h1 h2 h3 h4=>?_⟩
 · by_cases hj:i=j
   · subst hj
     unfold fl gv sv
     rw[bJ hO,bJ hi,bJ hs]
     exact fun d' e=>⟨v,rfl,by cases e;exact p⟩
   · unfold fl gv sv
     rw[aL hj,aL hj,aL hj]
     exact r.slot j
 · have hj:i≠j:=fun z=>by subst z;unfold fl at h1;rw[bJ hO] at h1;cases h1
   have hk:i≠k:=fun z=>by subst z;unfold fl at h2;rw[bJ hO] at h2;cases h2
   unfold fl at h1 h2
   unfold gv at h3 h4
   rw[aL hj] at h1 h3
   rw[aL hk] at h2 h4
   unfold sv
   rw[aL hj,aL hk]
   exact r.sep j k hjk h1 h2 h3 h4
theorem aN.adN {p:Addr}{o:HO} (r:aN K A B H O σ Γ) (hi:i < Γ.length) (hO:i < O.length) (h1:H p=some o) (h2:A p=none) (h3:B p=none) (h4:gZ K A d o)
 (hn:∀j,isO (fl O j)=true→gv Γ j≠none→sv σ j≠some (.ref p)):aN K A B H (O.set i .own) (σ.set i (some (.ref p))) (Γ.set i (some d)):=by
 have hs:i < σ.length:=by rw[← r.len];exact hi
 refine ⟨r.a,r.b,by rw[fx,fx];exact r.len,fun j=>?_,fun j k hjk q1 q2 q3 q4=>?_⟩
 · by_cases hj:i=j
   · subst hj
     unfold fl gv sv
     rw[bJ hO,bJ hi,bJ hs]
     exact fun d' e=>⟨_,rfl,by cases e;exact ⟨p,o,rfl,h1,h2,h3,h4⟩⟩
   · unfold fl gv sv
     rw[aL hj,aL hj,aL hj]
     exact r.slot j
 · unfold fl at q1 q2
   unfold gv at q3 q4
   unfold sv
   by_cases hj:i=j
   · subst hj
     have hk:i≠k:=hjk
     rw[aL hk] at q2 q4
     rw[bJ hs,aL hk]
     exact fun z=>hn k q2 q4 z.symm
   · rw[aL hj] at q1 q3
     rw[aL hj]
     by_cases hk:i=k
     · subst hk
       rw[bJ hs]
       exact hn j q1 q3
     · rw[aL hk] at q2 q4
       rw[aL hk]
       exact r.sep j k hjk q1 q2 q3 q4
theorem aN.pF (r:aN K A B H O σ Γ) {j:Nat} (h1:isO (fl O j)=true) (h2:gv Γ j≠none):∃d p o,gv Γ j=some d∧sv σ j=some (.ref p)∧H p=some o∧A p=none∧B p=none∧gZ K A d o:=by
 cases e:gv Γ j with
 | none=>exact absurd e h2
 | some d=>
  obtain ⟨v,e1,q⟩:=r.slot j d e
  cases hf:fl O j with
  | imm=>rw[hf] at h1;cases h1
  | bor=>rw[hf] at h1;cases h1
  | own=>
   rw[hf] at q
   obtain ⟨p,o,rfl,q⟩:=q
   exact ⟨d,p,o,rfl,e1,q⟩
  | fix p0=>
   rw[hf] at q
   obtain ⟨_,p,o,rfl,q⟩:=q
   exact ⟨d,p,o,rfl,e1,q⟩
  | exc C=>rw[hf] at h1;cases h1
  | nst b=>rw[hf] at h1;cases h1
theorem aN.fresh {A' H':Hp} (r:aN K A B H O σ Γ) (g:aM A H A' H') {p:Addr}{o:HO} (hi:i < Γ.length) (hO:i < O.length) (h0:H p=none) (h1:H' p=some o) (h2:A' p=none) (h4:gZ K A' d o) :
 aN K A' B H' (O.set i .own) (σ.set i (some (.ref p))) (Γ.set i (some d)):=by
 refine (r.grow g).adN hi hO h1 h2 (r.b.free h0) h4 fun j q1 q2 z=>?_
 obtain ⟨d',p',o',e1,e2,e3,_⟩:=r.pF q1 q2
 rw[e2] at z
 cases z
 rw[h0] at e3
 cases e3
theorem aN.freeze (r:aN K A B H O σ Γ) (hi:fl O i = .own) (hO:i < O.length):∃A',aC A A'∧New A A' B∧aN K A' B H (O.set i .imm) σ Γ:=by
 by_cases hg:gv Γ i=none
 · refine ⟨A,aC.refl _,fun _ h _=>h,r.a,r.b,r.len,fun j=>?_,fun j k hjk h1 h2 h3 h4=>?_⟩
   · by_cases hj:i=j
     · subst hj
       intro d e
       rw[hg] at e
       cases e
     · unfold fl
       rw[aL hj]
       exact r.slot j
   · have hj:i≠j:=fun z=>by subst z;exact h3 hg
     have hk:i≠k:=fun z=>by subst z;exact h4 hg
     unfold fl at h1 h2
     rw[aL hj] at h1
     rw[aL hk] at h2
     exact r.sep j k hjk h1 h2 h3 h4
 · have hiO:isO (fl O i)=true:=by rw[hi];rfl
   obtain ⟨d,p,o,e1,e2,h1,h2,h3,h4⟩:=r.pF hiO hg
   have s:aC A (upd A p o):=aC.new h2 o
   refine ⟨upd A p o,s,fun q n1 n2=>?_,fun b u q=>?_,r.b,r.len,fun j=>?_,fun j k hjk q1 q2 q3 q4=>?_⟩
   · have hq:q≠p:=fun z=>n2 (z ▸ h3)
     rw[aK hq];exact n1
   · by_cases hb:b=p
     · subst hb;rw[bw] at q;rw[h1];exact q
     · rw[aK hb] at q;exact r.a b u q
   · by_cases hj:i=j
     · subst hj
       unfold fl
       rw[bJ hO]
       intro d' e'
       rw[e1] at e'
       cases e'
       refine ⟨_,e2,?_⟩
       exact h4.share s
     · unfold fl
       rw[aL hj]
       intro d' e'
       obtain ⟨v',e'',q⟩:=r.slot j d' e'
       refine ⟨v',e'',?_⟩
       cases hf:fl O j with
       | imm=>rw[hf] at q;unfold fl at hf;rw[hf];exact Rp.mono s d' q
       | bor=>rw[hf] at q;unfold fl at hf;rw[hf];exact Pk.mono s (aC.refl _) q
       | own=>
        rw[hf] at q
        have hf':=hf
        unfold fl at hf
        rw[hf]
        obtain ⟨p',o',rfl,g1,g2,g3,g4⟩:=q
        refine ⟨p',o',rfl,g1,?_,g3,g4.mono s⟩
        have hne:p'≠p:=fun z=>by
         refine r.sep i j hj hiO (by rw[hf'];rfl) hg (by rw[e'];simp) ?_
         rw[e2,e'',z]
        rw[aK hne];exact g2
       | fix p0=>
        rw[hf] at q
        have hf':=hf
        unfold fl at hf
        rw[hf]
        obtain ⟨q0,p',o',rfl,g1,g2,g3,g4⟩:=q
        refine ⟨q0,p',o',rfl,g1,?_,g3,g4.mono s⟩
        have hne:p'≠p:=fun z=>by
         refine r.sep i j hj hiO (by rw[hf'];rfl) hg (by rw[e'];simp) ?_
         rw[e2,e'',z]
        rw[aK hne];exact g2
       | exc C=>
        rw[hf] at q
        unfold fl at hf
        rw[hf]
        obtain ⟨p',ob,w1,w2,w3⟩:=q
        exact ⟨p',ob,w1,s _ _ w2,w3⟩
       | nst b=>
        rw[hf] at q
        unfold fl at hf
        rw[hf]
        intro z
        obtain ⟨p',xs,kvs,w1,w2,w3,w4,w5,w6⟩:=q z
        refine ⟨p',xs,kvs,w1,w2,w3,?_,w5,w6.mono s⟩
        have hne:p'≠p:=fun z=>by subst z;rw[h1] at w3;exact h4.nx w3
        rw[aK hne];exact w4
   · have hj:i≠j:=fun z=>by subst z;unfold fl at q1;rw[bJ hO] at q1;cases q1
     have hk:i≠k:=fun z=>by subst z;unfold fl at q2;rw[bJ hO] at q2;cases q2
     unfold fl at q1 q2
     rw[aL hj] at q1
     rw[aL hk] at q2
     exact r.sep j k hjk q1 q2 q3 q4
theorem aN.change {p:Addr}{o o':HO}{d':ae} (r:aN K A B H O σ Γ) (hi:isO (fl O i)=true) (hl:i < Γ.length) (he:gv Γ i≠none) (hs:sv σ i=some (.ref p)) (h1:H p=some o) (h4:gZ K A d' o') :
 aN K A B (upd H p o') O σ (Γ.set i (some d')):=by
 obtain ⟨d,p',o0,e1,e2,g1,g2,g3,g4⟩:=r.pF hi he
 rw[hs] at e2
 cases e2
 refine ⟨fun b u q=>?_,fun b u q=>?_,by rw[fx];exact r.len,fun j=>?_,fun j k hjk q1 q2 q3 q4=>?_⟩
 · have hb:b≠p:=fun z=>by rw[z,g2] at q;cases q
   rw[aK hb];exact r.a b u q
 · have hb:b≠p:=fun z=>by rw[z,g3] at q;cases q
   rw[aK hb];exact r.b b u q
 · by_cases hj:i=j
   · subst hj
     unfold gv
     rw[bJ hl]
     intro d'' e
     cases e
     refine ⟨_,hs,?_⟩
     cases hf:fl O i with
     | imm=>rw[hf] at hi;cases hi
     | bor=>rw[hf] at hi;cases hi
     | own=>exact ⟨p,o',rfl,bw,g2,g3,h4⟩
     | fix p0=>
      obtain ⟨v',ev,q⟩:=r.slot i d e1
      rw[hf] at q
      rw[hs] at ev
      cases ev
      exact ⟨q.1,p,o',rfl,bw,g2,g3,h4⟩
     | exc C=>rw[hf] at hi;cases hi
     | nst b=>rw[hf] at hi;cases hi
   · unfold gv
     rw[aL hj]
     intro d'' e''
     obtain ⟨v',ev,q⟩:=r.slot j d'' e''
     refine ⟨v',ev,?_⟩
     cases hf:fl O j with
     | imm=>rw[hf] at q;exact q
     | bor=>rw[hf] at q;exact q
     | own=>
      rw[hf] at q
      obtain ⟨p',o',rfl,u1,u2,u3,u4⟩:=q
      refine ⟨p',o',rfl,?_,u2,u3,u4⟩
      have hne:p'≠p:=fun z=>by
       refine r.sep i j hj hi (by rw[hf];rfl) he (by show gv Γ j≠none;unfold gv;rw[e''];simp) ?_
       rw[hs,ev,z]
      rw[aK hne];exact u1
     | fix p0=>
      rw[hf] at q
      obtain ⟨q0,p',o',rfl,u1,u2,u3,u4⟩:=q
      refine ⟨q0,p',o',rfl,?_,u2,u3,u4⟩
      have hne:p'≠p:=fun z=>by
       refine r.sep i j hj hi (by rw[hf];rfl) he (by show gv Γ j≠none;unfold gv;rw[e''];simp) ?_
       rw[hs,ev,z]
      rw[aK hne];exact u1
     | exc C=>rw[hf] at q;exact q
     | nst b=>
      rw[hf] at q
      intro z
      obtain ⟨p',xs,kvs,w1,w2,w3,w4,w5,w6⟩:=q z
      have hne:p'≠p:=fun z=>by subst z;rw[g1] at w3;exact g4.nx w3
      exact ⟨p',xs,kvs,w1,w2,by rw[aK hne];exact w3,w4,w5,w6⟩
 · have h3:gv Γ j≠none:=by
    by_cases hj:i=j
    · subst hj;exact he
    · unfold gv at q3 ⊢;rw[aL hj] at q3;exact q3
   have h4':gv Γ k≠none:=by
    by_cases hk:i=k
    · subst hk;exact he
    · unfold gv at q4 ⊢;rw[aL hk] at q4;exact q4
   exact r.sep j k hjk q1 q2 h3 h4'
theorem aN.weak {Γ':Ev} (r:aN K A B H O σ Γ) (hl:Γ'.length=Γ.length) (h:∀j,gv Γ' j=none∨gv Γ' j=gv Γ j):aN K A B H O σ Γ':=by
 have h':∀j,gv Γ' j≠none→gv Γ j≠none:=fun j n=>by
  rcases h j with z | z
  · exact absurd z n
  · rw[← z];exact n
 refine ⟨r.a,r.b,hl.trans r.len,fun j d e=>?_,fun j k hjk q1 q2 q3 q4=>r.sep j k hjk q1 q2 (h' j q3) (h' k q4)⟩
 rcases h j with z | z
 · rw[z] at e;cases e
 · rw[z] at e;exact r.slot j d e
end
noncomputable def clr (l:List Nat) (Γ:Ev):Ev:=l.foldl (fun Γ i=>Γ.set i none) Γ
theorem Aa:∀(l:List Nat) (Γ:Ev),(clr l Γ).length=Γ.length∧∀j,gv (clr l Γ) j=none∨gv (clr l Γ) j=gv Γ j
 | [],Γ=>⟨rfl,fun _=>.inr rfl⟩
 | i::l,Γ=>by
  obtain ⟨h1,h2⟩:=Aa l (Γ.set i none)
  refine ⟨h1.trans (fx ..),fun j=>?_⟩
  rcases h2 j with z | z
  · exact .inl z
  · by_cases hj:i=j
    · subst hj
      left
      show gv (clr l (Γ.set i none)) i=none
      rw[z]
      unfold gv
      rw[ax]
      by_cases hi:i < Γ.length
      · rw[ia hi];rfl
      · rw[eT (by rw[fx];omega)];rfl
    · right
      show gv (clr l (Γ.set i none)) j=gv Γ j
      rw[z]
      unfold gv
      exact aL hj
theorem aN.clr {K:af}{A B H:Hp}{O:List Fl}{σ:L2.St}{Γ:Ev} (r:aN K A B H O σ Γ) (l:List Nat):aN K A B H O σ (L3.clr l Γ):=r.weak (Aa l Γ).1 (Aa l Γ).2
inductive Rm where
 | f | t | m (p:Addr)
noncomputable def Xc (K:af) (rm:Rm) (B A' H':Hp) (d:ae) (v:V):Prop:=match rm with
 | .f=>Rp K A' d v
 | .t=>rN K B A' H' d v
 | .m p=>∃d1 dm o,d = .tuple [d1,dm]∧Rp K A' d1 v∧H' p=some o∧A' p=none∧gZ K A' dm o
noncomputable def ni (K:af) (rm:Rm) (Ol O':List Fl) (A B:Hp) (D:Ends):Out→Prop
 | .nx Γ'=>∀σ' A' H',aN K A' B H' O' σ' Γ'→aC A A'→New A A' B→D.nx σ' H'
 | .bk Γ'=>∀σ' A' H',aN K A' B H' Ol σ' Γ'→aC A A'→New A A' B→D.bk σ' H'
 | .ct Γ'=>∀σ' A' H',aN K A' B H' Ol σ' Γ'→aC A A'→New A A' B→D.ct σ' H'
 | .rt d=>∀v A' H',aC A' H'→aC B H'→aC A A'→New A A' B→Xc K rm B A' H' d v→D.rt v H'
noncomputable def tS (K:af) (rm:Rm) (Ol O O':List Fl) (m:MS):TS:=fun D σ H=>∃A B Γ o,aN K A B H O σ Γ∧m Γ = .ok o∧ni K rm Ol O' A B D o
section
variable {K:af}{rm:Rm}{Ol O O':List Fl}{A B A1 H H1:Hp}{D:Ends}{o:Out}
theorem ni.sub (sa:aC A A1) (nw:New A A1 B) (h:ni K rm Ol O' A B D o):ni K rm Ol O' A1 B D o:=by
 cases o with
 | nx Γ=>exact fun σ' A' H' r s n=>h σ' A' H' r (sa.trans s) (nw.trans n)
 | bk Γ=>exact fun σ' A' H' r s n=>h σ' A' H' r (sa.trans s) (nw.trans n)
 | ct Γ=>exact fun σ' A' H' r s n=>h σ' A' H' r (sa.trans s) (nw.trans n)
 | rt d=>exact fun v A' H' s1 s2 s n=>h v A' H' s1 s2 (sa.trans s) (nw.trans n)
theorem aM.nB (g:aM A H A1 H1) (b:aC B H):New A A1 B:=g.nw.mono b
end
noncomputable def cN:MS:=fun Γ=>.ok (.nx Γ)
noncomputable def aO (a b:MS):MS:=fun Γ=>(a Γ).bind fun o=>match o with
 | .nx Γ'=>b Γ'
 | .rt d=>.ok (.rt d)
 | .bk Γ'=>.ok (.bk Γ')
 | .ct Γ'=>.ok (.ct Γ')
noncomputable def aY (i:Nat) (m:ME):MS:=fun Γ=>(m Γ).bind fun d=>gd (i < Γ.length) (.ok (.nx (Γ.set i (some d))))
noncomputable def sIf (c:ME) (a b:MS):MS:=fun Γ=>(c Γ).bind fun x=>match x with
 | .bool true=>a Γ
 | .bool false=>b Γ
 | _=>.bad
noncomputable def bQ (m:ME):MS:=fun Γ=>(m Γ).bind fun d=>.ok (.rt d)
noncomputable def sEx (m:ME):MS:=fun Γ=>(m Γ).bind fun _=>.ok (.nx Γ)
noncomputable def lr:MS:=fun _=>.bad
section
variable {X:Cx}{K:af}{rm:Rm}{Ol O O1 O2 O':List Fl}{m:ME}{m1 m2:MS}{e c:Expr}{st:Stmt}{rest a b:List Stmt}{pos:Pos}
theorem cM:QSs X [] (tS K rm Ol O O cN):=QSs.imp Wa fun D σ H ao=>by
 obtain ⟨A,B,Γ,o,r,em,k⟩:=ao
 cases em
 exact k σ A H r (aC.refl _) fun _ h _=>h
theorem aF (h1:QS X st (tS K rm Ol O O1 m1)) (h2:QSs X rest (tS K rm Ol O1 O2 m2)):QSs X (st::rest) (tS K rm Ol O O2 (aO m1 m2)):=QSs.imp (yf h1.h h2.h) fun D σ H ao=>by
 obtain ⟨A,B,Γ,o,r,em,k⟩:=ao
 obtain ⟨o1,e1,em⟩:=Res.aA em
 cases o1 with
 | nx Γ1=>exact ⟨A,B,Γ,_,r,e1,fun σ' A' H' r' sa nw=>⟨A',B,Γ1,o,r',em,k.sub sa nw⟩⟩
 | rt d=>cases em;exact ⟨A,B,Γ,_,r,e1,k⟩
 | bk d=>cases em;exact ⟨A,B,Γ,_,r,e1,k⟩
 | ct d=>cases em;exact ⟨A,B,Γ,_,r,e1,k⟩
theorem aH (h1:QS X st (tS K rm Ol O O1 m1)):QSs X [st] (tS K rm Ol O O1 m1):=⟨JK h1.h⟩
theorem Ew (i:Nat) {O2:List Fl} (h:QS X st (tS K rm Ol O2 O' m1)) (hO:O.set i .imm=O2:=by rfl) (hi:fl O i = .own:=by rfl) (hl:i < O.length:=by exact of_decide_eq_true rfl):QS X st (tS K rm Ol O O' m1):=QS.imp (hO ▸ h.h) fun D σ H ao=>by
 obtain ⟨A,B,Γ,o,r,em,k⟩:=ao
 obtain ⟨A',sa,nw,r'⟩:=r.freeze hi hl
 exact ⟨A',B,Γ,o,r',em,k.sub sa nw⟩
theorem Qt {te:TE}{i:Nat} (h:∀σ H Q,tE K O m σ H Q→te σ H Q) (hl:i < O.length) {D:Ends}{σ:L2.St}{H:Hp} (q:tS K rm Ol O (O.set i .imm) (aY i m) D σ H):G3 te (zG i) D σ H:=by
 obtain ⟨A,B,Γ,o,r,em,k⟩:=q
 obtain ⟨d,e1,em⟩:=Res.aA em
 obtain ⟨hi,em⟩:=b7 em
 cases em
 refine h σ H _ ⟨A,B,Γ,d,r,e1,fun v A' H' g p=>?_⟩
 exact k _ A' H' ((r.grow g).set hi hl p) g.aa (g.nB r.b)
theorem vy {te:TE}{i:Nat} (h:∀σ H Q,tF K O m σ H Q→te σ H Q) (hl:i < O.length) {D:Ends}{σ:L2.St}{H:Hp} (q:tS K rm Ol O (O.set i .own) (aY i m) D σ H):G3 te (zG i) D σ H:=by
 obtain ⟨A,B,Γ,o,r,em,k⟩:=q
 obtain ⟨d,e1,em⟩:=Res.aA em
 obtain ⟨hi,em⟩:=b7 em
 cases em
 refine h σ H _ ⟨A,B,Γ,d,r,e1,fun v A' H' g p=>?_⟩
 obtain ⟨p,o,rfl,h0,h1,h2,h4⟩:=p
 exact k _ A' H' (r.fresh g hi hl h0 h1 h2 h4) g.aa (g.nB r.b)
theorem bA (i:Nat) {O2:List Fl}{x:Str}{pos':Pos} (hN:X.N.Nodup) (hi:X.N[i]?=some x) (hx:Loc X.env.scope x) (he:QE X e (tE K O m)) (hl:i < O.length:=by exact of_decide_eq_true rfl) (hs:kr e (some (.Name x pos')) pos.line X.env=pure false:=by rfl)
 (hf:X.fn x=true∨X.env.scope.names.lookup x=some .local:=by first | exact .inl rfl | exact .inr rfl | assumption) (hO:O.set i .imm=O2:=by rfl):QS X (.Assign [.Name x pos'] e pos) (tS K rm Ol O O2 (aY i m)):=
 hO ▸ QS.imp (PL hN hi hx he.h hs hf) fun D σ H=>Qt (fun _ _ _ z=>z) hl
theorem fB (i:Nat) {O2:List Fl}{x:Str}{pos':Pos} (hN:X.N.Nodup) (hi:X.N[i]?=some x) (hx:Loc X.env.scope x) (he:QE X e (tF K O m)) (hl:i < O.length:=by exact of_decide_eq_true rfl) (hs:kr e (some (.Name x pos')) pos.line X.env=pure false:=by rfl)
 (hf:X.fn x=true∨X.env.scope.names.lookup x=some .local:=by first | exact .inl rfl | exact .inr rfl | assumption) (hO:O.set i .own=O2:=by rfl):QS X (.Assign [.Name x pos'] e pos) (tS K rm Ol O O2 (aY i m)):=
 hO ▸ QS.imp (PL hN hi hx he.h hs hf) fun D σ H=>vy (fun _ _ _ z=>z) hl
theorem cD (hc:QT X c (tT K O m)) (ha:QSs X a (tS K rm Ol O O' m1)) (hb:QSs X b (tS K rm Ol O O' m2)):QS X (.If c a b pos) (tS K rm Ol O O' (sIf m m1 m2)):=QS.imp (T8 hc.h ha.h hb.h) fun D σ H ao=>by
 obtain ⟨A,B,Γ,o,r,em,k⟩:=ao
 obtain ⟨d1,e1,em⟩:=Res.aA em
 cases d1 with
 | bool bb=>
  refine ⟨A,B,Γ,bb,r,e1,fun A1 H1 g1=>?_⟩
  cases bb with
  | true=>exact wJ ⟨A1,B,Γ,o,r.grow g1,em,k.sub g1.aa (g1.nB r.b)⟩
  | false=>exact wB ⟨A1,B,Γ,o,r.grow g1,em,k.sub g1.aa (g1.nB r.b)⟩
 | _=>cases em
theorem bW (he:QE X e (tE K O m)):QS X (.Return (some e) pos) (tS K .f Ol O O' (bQ m)):=QS.imp (GC he.h) fun D σ H ao=>by
 obtain ⟨A,B,Γ,o,r,em,k⟩:=ao
 obtain ⟨d1,e1,em⟩:=Res.aA em
 cases em
 exact ⟨A,B,Γ,d1,r,e1,fun v A' H' g p=>k v A' H' g.ah (r.b.trans g.hh) g.aa (g.nB r.b) p⟩
theorem Ju (he:QE X e (tF K O m)):QS X (.Return (some e) pos) (tS K .t Ol O O' (bQ m)):=QS.imp (GC he.h) fun D σ H ao=>by
 obtain ⟨A,B,Γ,o,r,em,k⟩:=ao
 obtain ⟨d1,e1,em⟩:=Res.aA em
 cases em
 refine ⟨A,B,Γ,d1,r,e1,fun v A' H' g p=>k v A' H' g.ah (r.b.trans g.hh) g.aa (g.nB r.b) ?_⟩
 obtain ⟨q,o,e,h1,h2⟩:=p
 exact ⟨q,o,e,r.b.free h1,h2⟩
theorem wX (i:Nat) {x:Str}{p:Pos} (hi:fl O i = .own:=by rfl) (hN:X.N[i]?=some x:=by rfl) (hv:Vis X.env.scope x:=by first | exact cb rfl | exact fq (cb rfl) | exact fq (fq rfl)) (hd:(x == ("__debug__" : Str))=false:=by decide)
 (hcd:(x == ("__classdict__" : Str))=false:=by decide):QS X (.Return (some (.Name x p)) pos) (tS K .t Ol O O' (bQ (aj i))):=QS.imp (GC (du hN hv hd hcd)) fun D σ H ao=>by
 obtain ⟨A,B,Γ,o,r,em,k⟩:=ao
 obtain ⟨d1,e1,em⟩:=Res.aA em
 cases em
 obtain ⟨v,e2,q⟩:=r.slot i d1 (pg e1)
 rw[hi] at q
 refine ⟨v,dq e2,k v A H r.a r.b (aC.refl _) (fun _ h _=>h) ?_⟩
 obtain ⟨p,o,e,h1,h2,h3,h4⟩:=q
 exact ⟨p,o,e,h3,h1,h2,h4⟩
theorem pW:QS X st (tS K rm Ol O O' lr):=QS.imp Hr fun D σ H ao=>by obtain ⟨A,B,Γ,o,r,em,k⟩:=ao;cases em
theorem aaE (he:QE X e (tP K O m)) (hs:kr e none pos.line X.env=pure false:=by rfl):QS X (.Expr e pos) (tS K rm Ol O O (sEx m)):=QS.imp (pq he.h hs) fun D σ H ao=>by
 obtain ⟨A,B,Γ,o,r,em,k⟩:=ao
 obtain ⟨d1,e1,em⟩:=Res.aA em
 cases em
 exact ⟨A,B,Γ,d1,r,e1,fun v A' H' g p=>k σ A' H' (r.grow g) g.aa (g.nB r.b)⟩
end
noncomputable def spF (K:af) (fs:List Fl) (rm:Rm) (f:List ae→Res ae):Sp:=fun vs H Q _=>∃A ds d,aC A H∧j6 K A H fs ds vs∧f ds = .ok d∧∀v A' H',aM A H A' H'→Xc K rm H A' H' d v→Q v H'
theorem j6.length {K:af}{A H:Hp}:∀{fs:List Fl}{ds:List ae}{vs:List V},j6 K A H fs ds vs→vs.length=fs.length∧ds.length=fs.length
 | [],ds,vs,h=>by obtain ⟨rfl,rfl⟩:=h;exact ⟨rfl,rfl⟩
 | f::fs,ds,vs,h=>by
  obtain ⟨d,r,v,s,rfl,rfl,_,h⟩:=h
  have:=h.length
  exact ⟨by rw[cE,cE,this.1],by rw[cE,cE,this.2]⟩
noncomputable def bz (f:List ae→Res ae) (ms:List ME):ME:=fun Γ=>(evs ms Γ).bind f
section
variable {X:Cx}{k:Nat}{x:Str}{ps:List Str}{fs:List Fl}{f:List ae→Res ae}{O:List Fl}{ms:List ME}{p pos:Pos}{e:Expr}{es:List Expr}
theorem bN (F:Def X.prog X.w X.K X.mg X.base k x ps (spF X.K fs .f f)) (hr:cJ k X.A) (hg:Gl X x) (ha:QA X (e::es) (tAr X.K O fs ms)) (hdb:(x == ("__debug__" : Str))=false:=by decide)
 (he:noStar e=true:=by rfl) (hpl:fC es=true:=by rfl):QE X (.Call (.Name x p) (e::es) [] pos) (tE X.K O (bz f ms)):=
 QE.imp (FZ F hr hg ha.h hdb (bY he) (g8 hpl)) fun σ H Q ao=>by
  obtain ⟨A,B,Γ,d,r,em,k⟩:=ao
  obtain ⟨ds,e1,em⟩:=Res.aA em
  refine ⟨A,B,Γ,ds,r,e1,fun vs A1 H1 g1 p1=>?_⟩
  show spF X.K fs .f f (vs++[]) H1 Q E0
  rw[fb]
  exact ⟨A1,ds,d,g1.ah,p1,em,fun v A' H' g p=>k v A' H' (g1.trans g) p⟩
theorem lL (F:Def X.prog X.w X.K X.mg X.base k x ps (spF X.K fs .t f)) (hr:cJ k X.A) (hg:Gl X x) (ha:QA X (e::es) (tAr X.K O fs ms)) (hdb:(x == ("__debug__" : Str))=false:=by decide)
 (he:noStar e=true:=by rfl) (hpl:fC es=true:=by rfl):QE X (.Call (.Name x p) (e::es) [] pos) (tF X.K O (bz f ms)):=
 QE.imp (FZ F hr hg ha.h hdb (bY he) (g8 hpl)) fun σ H Q ao=>by
  obtain ⟨A,B,Γ,d,r,em,k⟩:=ao
  obtain ⟨ds,e1,em⟩:=Res.aA em
  refine ⟨A,B,Γ,ds,r,e1,fun vs A1 H1 g1 p1=>?_⟩
  show spF X.K fs .t f (vs++[]) H1 Q E0
  rw[fb]
  refine ⟨A1,ds,d,g1.ah,p1,em,fun v A' H' g p=>k v A' H' (g1.trans g) ?_⟩
  obtain ⟨q,o,e,h1,h2⟩:=p
  exact ⟨q,o,e,g1.hh.free h1,h2⟩
end
noncomputable def fnR (n:Nat) (m:MS) (ds:List ae):Res ae:=(m (ds.map some++cK (n - ds.length) none)).bind fun o=>match o with
 | .rt d=>.ok d
 | _=>.bad
section
variable {P:cc}{w:eK}{K:af}{mg:Str→Option ag}{base:Heap}
theorem lA {fs O:List Fl}{N:List Str}{A H:Hp}:∀{ds:List ae}{vs:List V},aC A H→j6 K A H fs ds vs→(∀i,i < fs.length→(fl O i = .imm∧fl fs i = .imm)∨fl O i = .bor)→fs.length≤N.length →
 aN K A H H O (L2.start N vs) (ds.map some++cK (N.length - ds.length) none):=by
 intro ds vs ha h hO hn
 have hl:=h.length
 have one:∀(fs:List Fl) (ds:List ae) (vs:List V),j6 K A H fs ds vs→∀i d,ds[i]?=some d→∃v,vs[i]?=some v∧Ht K A H (fl fs i) d v:=by
  intro fs
  induction fs with
  | nil=>intro ds vs h i d e;obtain ⟨rfl,rfl⟩:=h;simp at e
  | cons f fs ih=>
   intro ds vs h i d e
   obtain ⟨d0,r,v,s,rfl,rfl,h1,h⟩:=h
   match i with
   | 0=>simp at e;subst e;exact ⟨v,rfl,h1⟩
   | i+1=>
    obtain ⟨v',h2,h3⟩:=ih r s h i d (by simpa using e)
    exact ⟨v',by simpa using h2,h3⟩
 have gvN:∀i,gv (ds.map some++cK (N.length - ds.length) none) i=ds[i]?:=fun i=>by
  unfold gv
  rw[ax]
  rcases kq i ds.length with h | h
  · rw[eh (by simpa using h),cp,aI h];rfl
  · rw[dt (by simpa using h),i7,eT h]
    split <;> rfl
 have svN:∀i v,vs[i]?=some v→sv (L2.start N vs) i=some v:=fun i v e=>by
  unfold sv L2.start
  rw[ax]
  have h:i < vs.length:=(br.mp e).1
  rw[eh (by simpa using h),cp,e];rfl
 refine ⟨ha,aC.refl _,?_,fun i d e=>?_,fun i j hij h1 h2 h3 h4=>?_⟩
 · unfold L2.start
   rw[aw,aw,av,av,df,df]
   omega
 · rw[gvN] at e
   obtain ⟨v,e1,q⟩:=one fs ds vs h i d e
   refine ⟨v,svN i v e1,?_⟩
   have hi:i < fs.length:=by rw[← hl.2];exact (br.mp e).1
   rcases hO i hi with ⟨z,z'⟩ | z
   · rw[z];rw[z'] at q;exact q
   · rw[z]
     cases hf:fl fs i with
     | imm=>rw[hf] at q;exact .inl q
     | bor=>rw[hf] at q;exact q
     | own=>rw[hf] at q;exact q
     | fix p0=>rw[hf] at q;exact q
     | exc C=>rw[hf] at q;exact q
     | nst b=>rw[hf] at q;exact q
 · rw[gvN] at h3
   have hi:i < fs.length:=by
    rw[← hl.2]
    rcases kq i ds.length with h | h
    · exact h
    · exact absurd (eT h) h3
   rcases hO i hi with ⟨z,_⟩ | z <;> rw[z] at h1 <;> cases h1
theorem U5 {x:Str}{st:Stmt}{fa:Addr}{fd:mm}{N ps:List Str}{k:Nat}{fs O O' Ol:List Fl}{rm:Rm}{m:MS} (F:Fun K x x st fa fd) (S:bc N ps (az st)) (hf:fs.length=ps.length) (hn:ps.length≤N.length)
 (hO:∀i,i < fs.length→(fl O i = .imm∧fl fs i = .imm)∨fl O i = .bor)
 (hbody:∀(f:Addr) (cdv:ag) (A:eI) (outer:List Env) (s:ar) (H:Hp) (E:XK),cJ k (A.deeper (kP x (az st) s.heap.objs.size f cdv)) →
  QSs (lX CX0 P w K mg base N x (az st) f cdv A outer s H E).nox (aP st) (tS K rm Ol O O' m)):n8 P w K mg base CX0 (k+1) fa fd ps (spF K fs rm (fnR N.length m)):=by
 refine F.ok S (fun vs H Q E h=>?_) (fun cdv A outer s H vs Q E hr h=>?_)
 · obtain ⟨A,ds,d,_,h,_⟩:=h
   rw[h.length.1,hf]
 · obtain ⟨A',ds,d,ha,h,em,q⟩:=h
   obtain ⟨o,e1,em⟩:=Res.aA em
   cases o with
   | rt d'=>
    cases em
    refine ⟨_,(hbody fa cdv A outer s H E hr).h,A',H,_,_,lA ha h hO (by omega),e1,fun v A2 H2 s1 s2 sa nw rv=>q v A2 H2 ⟨sa,s2,s1,nw⟩ rv⟩
   | _=>cases em
theorem cz {x:Str}{st:Stmt}{N ps:List Str}{k:Nat}{fs O O' Ol:List Fl}{rm:Rm}{m:MS} (F:At K mg x st ps) (S:bc N ps (az st)) (hf:fs.length=ps.length) (hn:ps.length≤N.length)
 (hO:∀i,i < fs.length→(fl O i = .imm∧fl fs i = .imm)∨fl O i = .bor)
 (hbody:∀(f:Addr) (cdv:ag) (A:eI) (outer:List Env) (s:ar) (H:Hp) (E:XK),cJ k (A.deeper (kP x (az st) s.heap.objs.size f cdv)) →
  QSs (lX CX0 P w K mg base N x (az st) f cdv A outer s H E).nox (aP st) (tS K rm Ol O O' m)):Def P w K mg base (k+1) x ps (spF K fs rm (fnR N.length m)):=by
 refine F.ok S (fun vs H Q E h=>?_) (fun f cdv A outer s H vs Q E hr h=>?_)
 · obtain ⟨A,ds,d,_,h,_⟩:=h
   rw[h.length.1,hf]
 · obtain ⟨A',ds,d,ha,h,em,q⟩:=h
   obtain ⟨o,e1,em⟩:=Res.aA em
   cases o with
   | rt d'=>
    cases em
    refine ⟨_,(hbody f cdv A outer s H E hr).h,A',H,_,_,lA ha h hO (by omega),e1,fun v A2 H2 s1 s2 sa nw rv=>q v A2 H2 ⟨sa,s2,s1,nw⟩ rv⟩
   | _=>cases em
end
noncomputable abbrev MI:=Ev→Res (List ae)
structure ue (K:af) (A B:Hp) (J:It) (xs:List ae):Prop where
 go:∀i H,aC A H→aC B H→i < xs.length→J.go i H
 stop:∀H,aC A H→aC B H→J.stop xs.length H
 yld:∀i A2 H x H',aC A A2→aC A2 H→aC B H→i < xs.length→J.yld i H x H'→∃A' d,xs[i]?=some d∧aM A2 H A' H'∧Rp K A' d x
noncomputable def tI (K:af) (O:List Fl) (it:MI):TI:=fun σ H R=>∃A B Γ xs,aN K A B H O σ Γ∧it Γ = .ok xs∧∀J A1 H1,aM A H A1 H1→ue K A1 B J xs→R J H1
noncomputable def tIc (K:af) (O:List Fl) (it:MI):TI:=fun σ H R=>∃A B Γ xs,aN K A B H O σ Γ∧it Γ = .ok xs∧∀J A1 H1,aM A H A1 H1→ue K A1 H1 J xs→R J H1
noncomputable def tQ (K:af) (O:List Fl) (m:ME):TE:=fun σ H Q=>∃A B Γ d,aN K A B H O σ Γ∧m Γ = .ok d∧∀v A' H',aM A H A' H'→Pk K A' B d v→Q v H'
section
variable {X:Cx}{K:af}{O:List Fl}{m:ME}{e:Expr}{pos:Pos}
theorem sq (h:QE X e (tE K O m)):QE X e (tQ K O m):=QE.imp h.h fun σ H Q ao=>by obtain ⟨A,B,Γ,d,r,em,k⟩:=ao;exact ⟨A,B,Γ,d,r,em,fun v A' H' g p=>k v A' H' g (.inl p)⟩
theorem qm (i:Nat) {x:Str} (hi:isO (fl O i)=false:=by rfl) (hN:X.N[i]?=some x:=by rfl) (hv:Vis X.env.scope x:=by first | exact cb rfl | exact fq (cb rfl) | exact fq (fq rfl)) (hd:(x == ("__debug__" : Str))=false:=by decide)
 (hcd:(x == ("__classdict__" : Str))=false:=by decide) (hx:isX (fl O i)=false:=by rfl):QE X (.Name x pos) (tQ K O (aj i)):=QE.imp (du hN hv hd hcd) fun σ H Q ao=>by
 obtain ⟨A,B,Γ,d,r,em,k⟩:=ao
 obtain ⟨v,e1,q⟩:=r.slot i d (pg em)
 refine ⟨v,dq e1,k v A H (aM.refl r.a) ?_⟩
 cases hf:fl O i with
 | imm=>rw[hf] at q;exact .inl q
 | bor=>rw[hf] at q;exact q
 | own=>rw[hf] at hi;cases hi
 | fix p0=>rw[hf] at hi;cases hi
 | exc C=>rw[hf] at hx;cases hx
 | nst b=>rw[hf] at hx;cases hx
end
theorem Pk.Xx {K:af}{A B H:Hp}{ds:List ae}{v:V} (h:Pk K A B (.list ds) v):∃p vs,v = .ref p∧aB K A ds vs∧∀H,aC A H→aC B H→SqL K H p vs:=by
 rcases h with h | ⟨p,vs,ds',e1,e2,h1,h2⟩ | ⟨_,_,_,_,e2,_⟩
 · obtain ⟨a,vs,e,h1,h2⟩:=Rp.list.mp h
   exact ⟨a,vs,e,h2,fun H s _=>s.seq h1⟩
 · cases e2
   exact ⟨p,vs,e1,h2,fun H _ s=>s.seq h1⟩
 · cases e2
theorem Pk.qg {K:af}{A B H:Hp}{ds:List ae}{v:V} (h:Pk K A B (.tuple ds) v):∃p vs,v = .ref p∧aB K A ds vs∧∀H,aC A H→SqT K H p vs:=by
 obtain ⟨a,vs,e,h1,h2⟩:=Rp.tuple.mp (h.j5 (fun _ z=>nomatch z) (fun _ z=>nomatch z))
 exact ⟨a,vs,e,h2,fun H s=>s.qg h1⟩
section
variable {K:af}{A B:Hp}{ds:List ae}{vs:List V}{p:Addr}
theorem Va (hr:aB K A ds vs) (hq:∀H,aC A H→aC B H→SqL K H p vs):ue K A B (Itl K p) ds:=by
 have hl:=hr.length
 refine ⟨fun i H s1 s2 hi=>?_,fun H s1 s2=>⟨vs,hq H s1 s2,by omega⟩,fun i A2 H x H' sa s1 s2 hi y=>?_⟩
 · exact ⟨vs,vs[i]'(by omega),hq H s1 s2,aI _⟩
 · obtain ⟨rfl,y⟩:=y
   have e:=y vs (hq H' (sa.trans s1) s2)
   obtain ⟨d,e1,q⟩:=hr.get e
   exact ⟨A2,d,e1,aM.refl s1,Rp.mono sa d q⟩
theorem Zq (hr:aB K A ds vs) (hq:∀H,aC A H→SqT K H p vs):ue K A B (Itt K p) ds:=by
 have hl:=hr.length
 refine ⟨fun i H s1 s2 hi=>?_,fun H s1 s2=>⟨vs,hq H s1,by omega⟩,fun i A2 H x H' sa s1 s2 hi y=>?_⟩
 · exact ⟨vs,vs[i]'(by omega),hq H s1,aI _⟩
 · obtain ⟨rfl,y⟩:=y
   have e:=y vs (hq H' (sa.trans s1))
   obtain ⟨d,e1,q⟩:=hr.get e
   exact ⟨A2,d,e1,aM.refl s1,Rp.mono sa d q⟩
theorem Hf (lo:Int) (n:Nat):ue K A B (Itr lo n) ((fh n).map fun i=>ae.int (lo+(i:Nat))):=by
 have hl:((fh n).map fun i=>ae.int (lo+(i:Nat))).length=n:=by rw[av,fE]
 refine ⟨fun i H _ _ hi=>(by rw[hl] at hi;exact hi),fun H _ _=>(by rw[hl];exact aE _),fun i A2 H x H' sa s1 s2 hi y=>?_⟩
 obtain ⟨rfl,rfl⟩:=y
 rw[hl] at hi
 exact ⟨A2,.int (lo+(i:Nat)),by rw[cp,ku hi];rfl,aM.refl s1,Rp.int.mpr rfl⟩
theorem XD (hr:aB K A ds vs) (hq:∀H,aC A H→aC B H→SqL K H p vs):ue K A B (Itv K p vs.length) ds.reverse:=by
 have hl:=hr.length
 refine ⟨fun i H s1 s2 hi=>?_,fun H s1 s2=>?_,fun i A2 H x H' sa s1 s2 hi y=>?_⟩
 · rw[gz,hl] at hi
   exact ⟨hi,vs,vs[vs.length - 1 - i]'(by omega),hq H s1 s2,aI _⟩
 · rw[gz,hl];rfl
 · rw[gz,hl] at hi
   obtain ⟨rfl,y⟩:=y
   have e:=y vs (hq H' (sa.trans s1) s2)
   have e':vs.reverse[i]?=some x:=by rw[List.getElem?_reverse hi];exact e
   obtain ⟨d,e1,q⟩:=hr.reverse.get e'
   exact ⟨A2,d,e1,aM.refl s1,Rp.mono sa d q⟩
end
noncomputable def itL (m:ME):MI:=fun Γ=>(m Γ).bind fun d=>match d with
 | .list ds=>.ok ds
 | .tuple ds=>.ok ds
 | _=>.bad
noncomputable def jX (m:ME):MI:=fun Γ=>(m Γ).bind fun d=>match d with
 | .int j=>gd (-(2^62)≤j∧j < 2^62) (.ok ((fh j.toNat).map fun i=>ae.int (0+(i:Nat))))
 | _=>.bad
noncomputable def itV (m:ME):MI:=fun Γ=>(m Γ).bind fun d=>match d with
 | .list ds=>.ok ds.reverse
 | _=>.bad
section
variable {X:Cx}{O:List Fl}{m m':ME}{e a b tg:Expr}{pos p:Pos}
noncomputable def ad9 (K:af) (tl:TE):TI:=fun σ H R=>tl σ H fun x H1=>∃a,x = .ref a∧(((∃xs,SqL K H1 a xs)∧R (Itl K a) H1)∨((∃xs,SqT K H1 a xs)∧R (Itt K a) H1))
theorem Od {l:Expr}{tl:TE} (hl:PE X l tl):PI X tg l (ad9 X.K tl):=by
 intro pins s σ H R I h
 refine thn (hl pins s σ H _ I h) fun v s1 ao=>?_
 obtain ⟨x,H1,I1,r1,q1⟩:=ao
 obtain ⟨a,e,q1⟩:=q1
 subst e
 cases r1
 rcases q1 with ⟨⟨xs,hq⟩,q⟩ | ⟨⟨xs,hq⟩,q⟩
 · obtain ⟨its,rv,p,hz⟩:=I1.list hq
   refine wpAny_pyIter_list p.isList ?_
   refine ⟨s1.heap.objs.size,[s1.heap.objs.size],_,_,H1,rfl,I1.kept (t':=s1.toks) fun b o e=>aS _ e,Oj a _,⟨_,d4 _ rfl,rfl,rfl⟩,fun b hb=>?_,q⟩
   have e:b=s1.heap.objs.size:=by simpa using hb
   subst e
   exact I1.sY (aE _) (I1.hok.fresh (aE _))
 · obtain ⟨its,rv,p,hz⟩:=I1.tuple hq
   refine wpAny_pyIter_tuple (show s1.heap.IsTuple a its.toArray from p) ?_
   refine ⟨s1.heap.objs.size,[s1.heap.objs.size],_,_,H1,rfl,I1.kept (t':=s1.toks) fun b o e=>aS _ e,J8 a _,⟨_,d4 _ rfl,rfl,rfl⟩,fun b hb=>?_,q⟩
   have e:b=s1.heap.objs.size:=by simpa using hb
   subst e
   exact I1.sY (aE _) (I1.hok.fresh (aE _))
theorem Jy {K:af}{A B H1:Hp}{d:ae}{v:V}{R:It→Hp→Prop}{xs:List ae} (sa:aC A H1) (sb:aC B H1) (p:Pk K A B d v) (e:(match d with | .list ds=>Res.ok ds | .tuple ds=>.ok ds | _=>.bad) = .ok xs)
 (k:∀J,ue K A B J xs→R J H1):∃a,v = .ref a∧(((∃xs,SqL K H1 a xs)∧R (Itl K a) H1)∨((∃xs,SqT K H1 a xs)∧R (Itt K a) H1)):=by
 cases d with
 | list ds=>
  cases e
  obtain ⟨q,vs,rfl,h2,h1⟩:=p.Xx (H:=H1)
  exact ⟨q,rfl,.inl ⟨⟨vs,h1 H1 sa sb⟩,k _ (Va h2 h1)⟩⟩
 | tuple ds=>
  cases e
  obtain ⟨q,vs,rfl,h2,h1⟩:=p.qg (H:=H1)
  exact ⟨q,rfl,.inr ⟨⟨vs,h1 H1 sa⟩,k _ (Zq h2 h1)⟩⟩
 | _=>cases e
theorem kE (h:QE X e (tQ X.K O m)):QI X tg e (tI X.K O (itL m)):=QI.imp (Od h.h) fun σ H R ao=>by
 obtain ⟨A,B,Γ,xs,r,em,k⟩:=ao
 obtain ⟨d,e1,em⟩:=Res.aA em
 refine ⟨A,B,Γ,d,r,e1,fun v A1 H1 g1 p1=>Jy g1.ah (r.b.trans g1.hh) p1 em fun J hj=>k J A1 H1 g1 hj⟩
theorem zM (h:QE X e (tP X.K O m)):QI X tg e (tIc X.K O (itL m)):=QI.imp (Od h.h) fun σ H R ao=>by
 obtain ⟨A,B,Γ,xs,r,em,k⟩:=ao
 obtain ⟨d,e1,em⟩:=Res.aA em
 refine ⟨A,B,Γ,d,r,e1,fun v A1 H1 g1 p1=>Jy g1.ah (aC.refl _) p1 em fun J hj=>k J A1 H1 g1 hj⟩
theorem jC (hg:Gl X "range") (hm:X.mg "range" = none) (ha:QE X a (tP X.K O m)) (hs:d5 [a] X.env=[(false,eval a X.env)]:=by rfl):QI X tg (.Call (.Name "range" p) [a] [] pos) (tI X.K O (jX m)):=
 QI.imp (CJ hg hm (cA ha.h fQ hs) hs) fun σ H R ao=>by
  obtain ⟨A,B,Γ,xs,r,em,k⟩:=ao
  obtain ⟨d,e1,em⟩:=Res.aA em
  cases d with
  | int j=>
   obtain ⟨hc,em⟩:=b7 em
   cases em
   exact ⟨A,B,Γ,_,r,e1,fun v A1 H1 g1 p1=>⟨j,by rw[p1.int],hc.1,hc.2,k _ A1 H1 g1 (Hf 0 _)⟩⟩
  | _=>cases em
theorem qL (hg:Gl X "range") (hm:X.mg "range" = none) (ha:QE X a (tP X.K O m)) (hs:d5 [a] X.env=[(false,eval a X.env)]:=by rfl):QI X tg (.Call (.Name "range" p) [a] [] pos) (tIc X.K O (jX m)):=
 QI.imp (CJ hg hm (cA ha.h fQ hs) hs) fun σ H R ao=>by
  obtain ⟨A,B,Γ,xs,r,em,k⟩:=ao
  obtain ⟨d,e1,em⟩:=Res.aA em
  cases d with
  | int j=>
   obtain ⟨hc,em⟩:=b7 em
   cases em
   exact ⟨A,B,Γ,_,r,e1,fun v A1 H1 g1 p1=>⟨j,by rw[p1.int],hc.1,hc.2,k _ A1 H1 g1 (Hf 0 _)⟩⟩
  | _=>cases em
theorem Y5 (hg:Gl X "reversed") (hm:X.mg "reversed" = none) (ha:QE X a (tQ X.K O m)) (hs:d5 [a] X.env=[(false,eval a X.env)]:=by rfl):QI X tg (.Call (.Name "reversed" p) [a] [] pos) (tI X.K O (itV m)):=
 QI.imp (YZ hg hm (cA ha.h fQ hs) hs) fun σ H R ao=>by
  obtain ⟨A,B,Γ,xs,r,em,k⟩:=ao
  obtain ⟨d,e1,em⟩:=Res.aA em
  cases d with
  | list ds=>
   cases em
   refine ⟨A,B,Γ,_,r,e1,fun v A1 H1 g1 p1=>?_⟩
   obtain ⟨q,vs,rfl,h2,h1⟩:=p1.Xx (H:=H1)
   exact ⟨q,vs,rfl,h1 H1 g1.ah (r.b.trans g1.hh),k _ A1 H1 g1 (XD h2 h1)⟩
  | _=>cases em
variable {elts:List Expr}{tpos:Pos}
end
noncomputable abbrev MG:=ae→Ev→Res Ev
noncomputable def gN (i:Nat):MG:=fun d Γ=>gd (i < Γ.length) (.ok (Γ.set i (some d)))
noncomputable def gTs:List MG→List ae→Ev→Res Ev
 | [],[],Γ=>.ok Γ
 | g::gs,d::ds,Γ=>(g d Γ).bind fun Γ'=>gTs gs ds Γ'
 | _,_,_=>.bad
noncomputable def gT (gs:List MG):MG:=fun d Γ=>match d with
 | .tuple ds=>gTs gs ds Γ
 | _=>.bad
noncomputable def ph (is:List Nat) (σ σ':L2.St):Prop:=σ'.length=σ.length∧∀j,j∉is→σ'[j]?=σ[j]?
theorem ph.trans {is js:List Nat}{σ σ' σ'':L2.St} (h:ph is σ σ') (h':ph js σ' σ''):ph (is++js) σ σ'':=
 ⟨h'.1.trans h.1,fun j hj=>(h'.2 j fun z=>hj (cy _ z)).trans (h.2 j fun z=>hj (ff _ z))⟩
noncomputable def tG (K:af) (O O':List Fl) (is:List Nat) (g:MG):TG:=fun v σ H Q=>∃A B Γ d Γ',aN K A B H O σ Γ∧Rp K A d v∧g d Γ = .ok Γ'∧∀σ',aN K A B H O' σ' Γ'→ph is σ σ'→Q σ' H
noncomputable def tGs (K:af) (O O':List Fl) (is:List Nat) (gs:List MG):TGs:=fun vs σ H Q=>∃A B Γ ds Γ',aN K A B H O σ Γ∧aB K A ds vs∧gTs gs ds Γ = .ok Γ'∧∀σ',aN K A B H O' σ' Γ'→ph is σ σ'→Q σ' H
theorem PG.imp {X:Cx}{tg:Expr}{t t':TG} (h:PG X tg t) (i:∀v σ H Q,t' v σ H Q→t v σ H Q):PG X tg t':=fun pins s σ H v u Q I r q=>h pins s σ H v u Q I r (i v σ H Q q)
theorem PGs.imp {X:Cx}{tg:List Expr}{t t':TGs} (h:PGs X tg t) (i:∀v σ H Q,t' v σ H Q→t v σ H Q):PGs X tg t':=fun pins s σ H v u Q I r q=>h pins s σ H v u Q I r (i v σ H Q q)
theorem QG.imp {X:Cx}{tg:Expr}{t t':TG} (h:PG X tg t) (i:∀v σ H Q,t' v σ H Q→t v σ H Q):QG X tg t':=⟨PG.imp h i⟩
theorem QGs.imp {X:Cx}{tg:List Expr}{t t':TGs} (h:PGs X tg t) (i:∀v σ H Q,t' v σ H Q→t v σ H Q):QGs X tg t':=⟨PGs.imp h i⟩
theorem yL:∀{gs:List MG}{ds:List ae}{Γ Γ':Ev},gTs gs ds Γ = .ok Γ'→ds.length=gs.length
 | [],[],_,_,_=>rfl
 | g::gs,d::ds,Γ,Γ',h=>by
  obtain ⟨Γ1,_,h⟩:=Res.aA h
  rw[cE,cE,yL h]
section
variable {X:Cx}{O O1 O2 O':List Fl}{is js:List Nat}{g:MG}{gs:List MG}{e:Expr}{es:List Expr}{pos:Pos}
theorem bu (i:Nat) {O2:List Fl}{x:Str} (hN:X.N.Nodup) (hi:X.N[i]?=some x) (hx:Loc X.env.scope x) (hl:i < O.length:=by exact of_decide_eq_true rfl) (hf:X.fn x=true∨X.env.scope.names.lookup x=some .local:=by first | exact .inl rfl | exact .inr rfl | assumption) (hO:O.set i .imm=O2:=by rfl) :
 QG X (.Name x pos) (tG X.K O O2 [i] (gN i)):=hO ▸ QG.imp (UW hN hi hx hf) fun v σ H Q ao=>by
 obtain ⟨A,B,Γ,d,Γ',r,p,em,k⟩:=ao
 obtain ⟨hi,em⟩:=b7 em
 cases em
 exact k _ (r.set hi hl p) ⟨fx ..,fun j hj=>mw (fun z=>hj (by rw[z];exact cf))⟩
theorem rT:QGs X [] (tGs X.K O O [] []):=QGs.imp U0 fun vs σ H Q ao=>by
 obtain ⟨A,B,Γ,ds,Γ',r,p,em,k⟩:=ao
 cases ds with
 | nil=>cases em;exact ⟨aB.nil.mp p,k σ r ⟨rfl,fun _ _=>rfl⟩⟩
 | cons d ds=>cases em
theorem gM (h1:QG X e (tG X.K O O1 is g)) (h2:QGs X es (tGs X.K O1 O2 js gs)) (hs:(lx (e::es) X.env).map (·.2)=xc e X.env::(lx es X.env).map (·.2):=by rfl):QGs X (e::es) (tGs X.K O O2 (is++js) (g::gs)):=by
 refine QGs.imp (Tf h1.h h2.h ?_) fun vs σ H Q ⟨A,B,Γ,ds,Γ',r,p,em,k⟩=>?_
 · exact hs
 · cases ds with
   | nil=>cases em
   | cons d ds=>
    obtain ⟨Γ1,e1,em⟩:=Res.aA em
    obtain ⟨v,r',rfl,p1,p2⟩:=aB.cons.mp p
    exact ⟨v,r',rfl,A,B,Γ,d,Γ1,r,p1,e1,fun σ' r2 y=>⟨A,B,Γ1,ds,Γ',r2,p2,em,fun σ2 r3 y2=>k σ2 r3 (y.trans y2)⟩⟩
theorem vm {k:Nat}{n:Nat} (hc:X.calm=true) (h:QGs X es (tGs X.K O O' is gs)) (hgs:gs.length=n:=by rfl)
 (hn:(lx es X.env).length=n:=by rfl) (hst:(lx es X.env).findIdx? (·.1)=none:=by rfl):QG X (.Tuple es k pos) (tG X.K O O' is (gT gs)):=QG.imp (aae hc h.h hn hst) fun v σ H Q ao=>by
 obtain ⟨A,B,Γ,d,Γ',r,p,em,k⟩:=ao
 cases d with
 | tuple ds=>
  have p':=Rp.tuple.mp p
  obtain ⟨a,vs,rfl,h1,h2⟩:=p'
  exact ⟨a,vs,rfl,r.a.qg h1,by rw[← h2.length,← hgs];exact yL em,A,B,Γ,ds,Γ',r,h2,em,k⟩
 | _=>cases em
end
noncomputable def Qq (g:MG) (m:ME):MS:=fun Γ=>(m Γ).bind fun d=>(g d Γ).bind fun Γ'=>.ok (.nx Γ')
section
variable {X:Cx}{rm:Rm}{Ol O O':List Fl}{is:List Nat}{g:MG}{m:ME}{tg e:Expr}{pos:Pos}
theorem Xo (he:QE X e (tE X.K O m)) (hg:QG X tg (tG X.K O O' is g)) (hs:swapsWithSole [tg] e pos.line X.env=pure false:=by rfl) (hw:swappedStores [tg] e X.env=pure none:=by rfl) (h1:(lx [tg] X.env).map (·.2)=[xc tg X.env]:=by rfl):QS X (.Assign [tg] e pos) (tS X.K rm Ol O O' (Qq g m)):=by
 refine QS.imp (Ov he.h hg.h hs hw h1) fun D σ H ao=>?_
 obtain ⟨A,B,Γ,o,r,em,k⟩:=ao
 obtain ⟨d,e1,em⟩:=Res.aA em
 obtain ⟨Γ',e2,em⟩:=Res.aA em
 cases em
 exact ⟨A,B,Γ,d,r,e1,fun v A' H' g p=>⟨A',B,Γ,d,Γ',r.grow g,p,e2,fun σ' r' _=>k σ' A' H' r' g.aa (g.nB r.b)⟩⟩
end
noncomputable def xK (O Oe:List Fl) (cl:List Nat):Bool:=Oe.length == O.length&&(fh O.length).all fun j=>decide (fl Oe j=fl O j)||cl.contains j
theorem Sy {O Oe:List Fl}{cl:List Nat} (h:xK O Oe cl=true) (j:Nat):fl Oe j=fl O j∨j∈cl:=by
 unfold xK at h
 rw[dS,sd] at h
 rcases kq j O.length with hj | hj
 · have:=h.2 j (iX.mpr hj)
   rw[tf] at this
   rcases this with z | z
   · exact .inl (of_decide_eq_true z)
   · exact .inr (by simpa using z)
 · left
   unfold fl
   rw[ax,ax,eT hj,eT (by rw[show Oe.length=O.length by simpa using h.1];exact hj)]
theorem Gq:∀(l:List Nat) (Γ:Ev) (j:Nat),j∈l→gv (clr l Γ) j=none
 | i::l,Γ,j,h=>by
  by_cases hj:j∈l
  · exact Gq l (Γ.set i none) j hj
  · have e:j=i:=by
     rcases de.mp h with z | z
     · exact z
     · exact absurd z hj
    subst e
    rcases (Aa l (Γ.set j none)).2 j with z | z
    · exact z
    · show gv (clr l (Γ.set j none)) j=none
      rw[z]
      unfold gv
      rw[ax]
      by_cases hi:j < Γ.length
      · rw[ia hi];rfl
      · rw[eT (by rw[fx];omega)];rfl
theorem aN.jA {K:af}{A B H:Hp}{O Oe:List Fl}{σ:L2.St}{Γ:Ev}{cl:List Nat} (hE:xK O Oe cl=true) (r:aN K A B H Oe σ Γ):aN K A B H O σ (L3.clr cl Γ):=by
 have r':=r.clr cl
 have hf:∀j,gv (L3.clr cl Γ) j≠none→fl O j=fl Oe j:=fun j n=>by
  rcases Sy hE j with z | z
  · exact z.symm
  · exact absurd (Gq cl Γ j z) n
 refine ⟨r'.a,r'.b,r'.len,fun j d e=>?_,fun i j hij h1 h2 h3 h4=>r'.sep i j hij (by rw[← hf i h3];exact h1) (by rw[← hf j h4];exact h2) h3 h4⟩
 have:=r'.slot j d e
 rw[hf j (by rw[e];simp)]
 exact this
noncomputable def forR (g:MG) (cl:List Nat) (b:MS):List ae→Ev→Res Out
 | [],Γ=>.ok (.nx Γ)
 | x::xs,Γ=>(g x Γ).bind fun Γ1=>(b Γ1).bind fun o=>match o with
  | .nx Γ2=>forR g cl b xs (clr cl Γ2)
  | .ct Γ2=>forR g cl b xs (clr cl Γ2)
  | .bk Γ2=>.ok (.nx (clr cl Γ2))
  | .rt d=>.ok (.rt d)
noncomputable def eG (it:MI) (g:MG) (cl:List Nat) (b:MS):MS:=fun Γ=>(it Γ).bind fun xs=>forR g cl b xs Γ
section
variable {X:Cx}{rm:Rm}{Ol O:List Fl}{is:List Nat}{g:MG}{it:MI}{cl:List Nat}{mb:MS}{tg iter:Expr}{body:List Stmt}{pos:Pos}
theorem dJ (hp:As (cx X.prog X.w) X.A X.env X.xe) (hc:X.calm=true) (cl:List Nat) {Oe:List Fl} (hi:QI X tg iter (tI X.K O it)) (hg:QG X tg (tG X.K O O is g)) (hb:QSs X body (tS X.K rm Oe O Oe mb)) (hE:xK O Oe cl=true)
 (hs:∀x,kn iter X.env x=pure x:=by intro _;rfl):QS X (.For tg iter body [] pos) (tS X.K rm Ol O O (eG it g cl mb)):=by
 refine QS.imp (OD hp hc hi.h hg.h hb.h hs) fun D σ H ao=>?_
 obtain ⟨A,B,Γ,o,r,em,k⟩:=ao
 obtain ⟨xs,e1,em⟩:=Res.aA em
 refine ⟨A,B,Γ,xs,r,e1,fun J A1 H1 g1 hj=>?_⟩
 refine ⟨fun i n σ' H'=>n=xs.length - i∧i≤xs.length∧∃A2 Γ2,aN X.K A2 B H' O σ' Γ2∧aC A A2∧New A A2 B∧aC A1 A2∧forR g cl mb (xs.drop i) Γ2 = .ok o,⟨xs.length,rfl,iE _,A1,Γ,r.grow g1,g1.aa,g1.nB r.b,aC.refl _,em⟩,?_⟩
 rintro i n σ' H' ⟨rfl,hi.h,A2,Γ2,r2,sa,nw,s12,e2⟩
 by_cases hlt:i < xs.length
 · refine .inr ⟨hj.go i H' (s12.trans r2.a) r2.b hlt,fun σ'' H''=>i+1≤xs.length∧∃A3 Γ3,aN X.K A3 B H'' O σ'' Γ3∧aC A A3∧New A A3 B∧aC A1 A3∧forR g cl mb (xs.drop (i+1)) Γ3 = .ok o,?_,fun x H3 y=>?_⟩
   · rintro σ'' H'' ⟨h1,A3,Γ3,h2⟩
     exact ⟨xs.length - (i+1),by omega,rfl,h1,A3,Γ3,h2⟩
   · obtain ⟨A3,d,ed,g3,p3⟩:=hj.yld i A2 H' x H3 s12 r2.a r2.b hlt y
     have hd:xs.drop i=d::xs.drop (i+1):=by
      rw[iN hlt]
      rw[aI hlt] at ed
      cases ed
      rfl
     rw[hd] at e2
     obtain ⟨Γ3,e3,e2⟩:=Res.aA e2
     obtain ⟨o3,e4,e2⟩:=Res.aA e2
     have sa3:=sa.trans g3.aa
     have nw3:New A A3 B:=nw.trans (g3.nB r2.b)
     refine ⟨A3,B,Γ2,d,Γ3,r2.grow g3,p3,e3,fun σ4 r4 _=>⟨A3,B,Γ3,o3,r4,e4,?_⟩⟩
     have sb:∀{D':Ends},ni X.K rm Ol O A B D' o→ni X.K rm Ol O A3 B D' o:=fun h=>h.sub sa3 nw3
     cases o3 with
     | nx Γ4=>exact fun σ5 A5 H5 r5 s5 n5=>⟨hlt,A5,clr cl Γ4,r5.jA hE,sa3.trans s5,nw3.trans n5,s12.trans (g3.aa.trans s5),e2⟩
     | ct Γ4=>exact fun σ5 A5 H5 r5 s5 n5=>⟨hlt,A5,clr cl Γ4,r5.jA hE,sa3.trans s5,nw3.trans n5,s12.trans (g3.aa.trans s5),e2⟩
     | bk Γ4=>
      cases e2
      exact fun σ5 A5 H5 r5 s5 n5=>k σ5 A5 H5 (r5.jA hE) (sa3.trans s5) (nw3.trans n5)
     | rt d'=>
      cases e2
      exact fun v A5 H5 q1 q2 s5 n5 rv=>k v A5 H5 q1 q2 (sa3.trans s5) (nw3.trans n5) rv
 · have e:i=xs.length:=by omega
   subst e
   rw[xD] at e2
   cases e2
   exact .inl ⟨hj.stop H' (s12.trans r2.a) r2.b,k σ' A2 H' r2 sa nw⟩
end
noncomputable def whR (c:ME) (cl:List Nat) (b:MS):Nat→Ev→Res Out
 | 0,_=>.bad
 | n+1,Γ=>(c Γ).bind fun x=>match x with
  | .bool true=>(b Γ).bind fun o=>match o with
   | .nx Γ2=>whR c cl b n (clr cl Γ2)
   | .ct Γ2=>whR c cl b n (clr cl Γ2)
   | .bk Γ2=>.ok (.nx (clr cl Γ2))
   | .rt d=>.ok (.rt d)
  | .bool false=>.ok (.nx Γ)
  | _=>.bad
noncomputable def kI (fuel:Nat) (c:ME) (cl:List Nat) (b:MS):MS:=fun Γ=>whR c cl b fuel Γ
section
variable {X:Cx}{rm:Rm}{Ol O:List Fl}{cl:List Nat}{c:Expr}{mc:ME}{mb:MS}{body:List Stmt}{pos:Pos}
theorem Hd (hp:As (cx X.prog X.w) X.A X.env X.xe) (fuel:Nat) (cl:List Nat) {Oe:List Fl} (hc:QT X c (tT X.K O mc)) (hb:QSs X body (tS X.K rm Oe O Oe mb)) (hE:xK O Oe cl=true):QS X (.While c body [] pos) (tS X.K rm Ol O O (kI fuel mc cl mb)):=by
 refine QS.imp (Qd hp hc.h hb.h) fun D σ H ao=>?_
 obtain ⟨A,B,Γ,o,r,em,k⟩:=ao
 refine ⟨fun n σ' H'=>∃A2 Γ2,aN X.K A2 B H' O σ' Γ2∧aC A A2∧New A A2 B∧whR mc cl mb n Γ2 = .ok o,⟨fuel,A,Γ,r,aC.refl _,fun _ h _=>h,em⟩,?_⟩
 rintro n σ' H' ⟨A2,Γ2,r2,sa,nw,e2⟩
 cases n with
 | zero=>cases e2
 | succ n=>
  obtain ⟨x,e3,e2⟩:=Res.aA e2
  cases x with
  | bool bb=>
   refine ⟨A2,B,Γ2,bb,r2,e3,fun A3 H3 g3=>?_⟩
   have sa3:=sa.trans g3.aa
   have nw3:New A A3 B:=nw.trans (g3.nB r2.b)
   cases bb with
   | false=>
    cases e2
    exact wB (k σ' A3 H3 (r2.grow g3) sa3 nw3)
   | true=>
    obtain ⟨o3,e4,e2⟩:=Res.aA e2
    refine wJ ⟨fun σ'' H''=>∃A2 Γ2,aN X.K A2 B H'' O σ'' Γ2∧aC A A2∧New A A2 B∧whR mc cl mb n Γ2 = .ok o,fun σ'' H'' h=>⟨n,se _,h⟩,A3,B,Γ2,o3,r2.grow g3,e4,?_⟩
    cases o3 with
    | nx Γ4=>exact fun σ5 A5 H5 r5 s5 n5=>⟨A5,clr cl Γ4,r5.jA hE,sa3.trans s5,nw3.trans n5,e2⟩
    | ct Γ4=>exact fun σ5 A5 H5 r5 s5 n5=>⟨A5,clr cl Γ4,r5.jA hE,sa3.trans s5,nw3.trans n5,e2⟩
    | bk Γ4=>cases e2;exact fun σ5 A5 H5 r5 s5 n5=>k σ5 A5 H5 (r5.jA hE) (sa3.trans s5) (nw3.trans n5)
    | rt d'=>cases e2;exact fun v A5 H5 q1 q2 s5 n5 rv=>k v A5 H5 q1 q2 (sa3.trans s5) (nw3.trans n5) rv
  | _=>cases e2
end
noncomputable def oM (g:MG) (c:ME) (e:ME) (Γ:Ev):List ae→Res (List ae)
 | []=>.ok []
 | x::xs=>(g x Γ).bind fun Γ1=>(c Γ1).bind fun t=>match t with
  | .bool true=>(e Γ1).bind fun d=>(oM g c e Γ xs).bind fun ds=>.ok (d::ds)
  | .bool false=>oM g c e Γ xs
  | _=>.bad
noncomputable def fK (nt:Nat) (ix:List Nat) (Γ:Ev):Ev:=cK nt none++ix.map (gv Γ)
noncomputable def bfl:Fl→Fl
 | .own=>.bor
 | .fix _=>.bor
 | .nst _=>.nst false
 | f=>f
noncomputable def km (nt:Nat) (ix:List Nat) (O:List Fl):List Fl:=cK nt .imm++ix.map fun i=>bfl (fl O i)
noncomputable def cP (it:MI) (g:MG) (c e:ME) (nt:Nat) (ix:List Nat):ME:=fun Γ=>(it Γ).bind fun xs=>gd (xs.length < bg) ((oM g c e (fK nt ix Γ) xs).bind fun ds=>.ok (.list ds))
section
variable {K:af}{A B H:Hp}{O:List Fl}{σ:L2.St}{Γ:Ev}
theorem V3 {σ:L2.St}{i:Nat}:(σ[i]?).join=sv σ i:=by
 unfold sv
 rw[ax]
 cases σ[i]? with
 | none=>rfl
 | some o=>rfl
theorem qC {α:Type}{os:List α}{ix:List Nat}{f:Nat→α}{d:α} (j:Nat):(os++ix.map f).getD j d=if j < os.length then os.getD j d else match ix[j - os.length]? with | some i=>f i | none=>d:=by
 rw[ax]
 split
 · rename_i h
   rw[eh h,ax]
 · rename_i h
   rw[dt (by omega),cp]
   cases ix[j - os.length]? <;> rfl
theorem aN.block (r:aN K A B H O σ Γ) {os:List (Option V)}{nt:Nat} (ho:os.length=nt) (ix:List Nat):aN K A H H (km nt ix O) (os++ix.map fun i=>(σ[i]?).join) (fK nt ix Γ):=by
 have fN:∀j,isO (fl (km nt ix O) j)=false:=fun j=>by
  unfold fl km
  rw[qC,df]
  split
  · rw[ax,i7]
    split <;> rfl
  · cases ix[j - nt]? with
    | none=>rfl
    | some i=>simp only;unfold bfl;cases fl O i <;> rfl
 refine ⟨r.a,aC.refl _,?_,fun j d e=>?_,fun i j _ h1 _ _ _=>absurd (h1.symm.trans (fN i)) Bool.noConfusion⟩
 · unfold fK
   rw[aw,aw,df,av,av,ho]
 · unfold gv fK at e
   rw[qC,df] at e
   split at e
   · rw[ax,i7] at e
     split at e <;> cases e
   · rename_i hj
     cases q:ix[j - nt]? with
     | none=>rw[q] at e;cases e
     | some i=>
      rw[q] at e
      obtain ⟨v,e1,sl⟩:=r.slot i d e
      refine ⟨v,?_,?_⟩
      · unfold sv
        rw[qC,if_neg (by omega),ho,q]
        show (σ[i]?).join=some v
        rw[V3];exact e1
      · have ef:fl (km nt ix O) j=bfl (fl O i):=by
         unfold fl km
         rw[qC,df,if_neg hj,q]
        rw[ef]
        cases hf:fl O i with
        | imm=>rw[hf] at sl;exact sl
        | bor=>rw[hf] at sl;exact Pk.mono (aC.refl _) r.b sl
        | own=>rw[hf] at sl;exact Own.pk sl
        | fix p0=>rw[hf] at sl;exact Own.pk sl.2
        | exc C=>rw[hf] at sl;exact sl
        | nst b=>exact fun z=>nomatch z
end
theorem pH.imp {X:Cx}{ifs:List Expr}{t t':TT} (h:pH X ifs t) (i:∀σ H Q,t' σ H Q→t σ H Q):pH X ifs t':=fun pins s σ H Q I q=>h pins s σ H Q I (i σ H Q q)
theorem vp.imp {X:Cx}{ifs:List Expr}{t t':TT} (h:pH X ifs t) (i:∀σ H Q,t' σ H Q→t σ H Q):vp X ifs t':=⟨pH.imp h i⟩
theorem gQ {X:Cx}{O:List Fl}:vp X [] (tT X.K O (eC (.bool true))):=vp.imp Tg fun σ H Q ao=>by
 obtain ⟨A,B,Γ,b,r,em,k⟩:=ao
 cases em;exact k A H (aM.refl r.a)
theorem RX {X:Cx}{O:List Fl}{c:Expr}{m:ME} (h:QT X c (tT X.K O m)):vp X [c] (tT X.K O m):=⟨Qx h.h⟩
section
variable {K:af}{O Ob:List Fl}{tn:List Str}{ix:List Nat}{it:MI}{g:MG}{mc me:ME}
theorem yo (hOb:Ob=km tn.length ix O) {nt:Nat} (hnt:nt=tn.length) {O1:List Fl}{is:List Nat} (his:∀j∈is,j < tn.length) {σ:L2.St}{H:Hp}{Q:VK} (h:tF K O (cP it g mc me nt ix) σ H Q):zq tn ix (tIc K O it) (tG K Ob O1 is g) (tT K O1 mc) (tE K O1 me) σ H Q:=by
 subst hOb hnt
 obtain ⟨A,B,Γ,d,r,em,k⟩:=h
 obtain ⟨xs,e1,em⟩:=Res.aA em
 obtain ⟨hz,em⟩:=b7 em
 obtain ⟨ds,e2,em⟩:=Res.aA em
 cases em
 refine ⟨A,B,Γ,xs,r,e1,fun J A1 H1 g1 hj D hD=>?_⟩
 have r1:=r.grow g1
 have hAD:A1 D=none:=g1.ah.free hD
 refine ⟨fun i n σb acc H2=>n=xs.length - i∧i≤xs.length∧acc.length≤i∧(∃os:List (Option V),os.length=tn.length∧σb=os++ix.map fun i=>(σ[i]?).join)∧∃A2,aC A1 A2∧New A1 A2 H1∧aC A2 H2∧aC H1 H2∧A2 D=none∧H2 D=some (.lst acc) ∧
  ∃ds1 ds2,ds=ds1++ds2∧aB K A2 ds1 acc∧oM g mc me (fK tn.length ix Γ) (xs.drop i) = .ok ds2,⟨xs.length,rfl,iE _,iE _,⟨_,df,rfl⟩,A1,aC.refl _,fun _ h _=>h,g1.ah.trans (aC.new hD _),aC.new hD _,hAD,bw,[],ds,rfl,aB.nil.mpr rfl,e2⟩,?_⟩
 rintro i n σb acc H2 ⟨rfl,hi,hacc,⟨os,ho,rfl⟩,A2,sa,nw,s2,sh,a2,hD2,ds1,ds2,rfl,rp,e3⟩
 refine ⟨hD2,?_⟩
 by_cases hlt:i < xs.length
 · refine .inr ⟨hj.go i H2 (sa.trans s2) sh hlt,by omega,fun x H3 y=>?_⟩
   obtain ⟨A3,dx,ed,g3,p3⟩:=hj.yld i A2 H2 x H3 sa s2 sh hlt y
   have hd:xs.drop i=dx::xs.drop (i+1):=by
    rw[iN hlt]
    rw[aI hlt] at ed
    cases ed
    rfl
   rw[hd] at e3
   obtain ⟨Γ1,e4,e3⟩:=Res.aA e3
   obtain ⟨t,e5,e3⟩:=Res.aA e3
   have rb:aN K A3 H3 H3 (km tn.length ix O) (os++ix.map fun i=>(σ[i]?).join) (fK tn.length ix Γ):=by
    have rr:aN K A3 B H3 O σ Γ:=by
     refine ⟨g3.ah,r1.b.trans (sh.trans g3.hh),r1.len,fun j=>?_,r1.sep⟩
     intro d' e'
     obtain ⟨v',e'',q⟩:=r1.slot j d' e'
     refine ⟨v',e'',?_⟩
     cases hf:fl O j with
     | imm=>rw[hf] at q;exact Rp.mono (sa.trans g3.aa) d' q
     | bor=>rw[hf] at q;exact Pk.mono (sa.trans g3.aa) (aC.refl _) q
     | own=>
      rw[hf] at q
      obtain ⟨p',o',rfl,u1,u2,u3,u4⟩:=q
      have n1:A2 p'=none:=nw p' u2 (by rw[u1];simp)
      exact ⟨p',o',rfl,g3.hh _ _ (sh _ _ u1),g3.nw p' n1 (by rw[sh _ _ u1];simp),u3,u4.mono (sa.trans g3.aa)⟩
     | fix p0=>
      rw[hf] at q
      obtain ⟨q0,p',o',rfl,u1,u2,u3,u4⟩:=q
      have n1:A2 p'=none:=nw p' u2 (by rw[u1];simp)
      exact ⟨q0,p',o',rfl,g3.hh _ _ (sh _ _ u1),g3.nw p' n1 (by rw[sh _ _ u1];simp),u3,u4.mono (sa.trans g3.aa)⟩
     | exc C=>
      rw[hf] at q
      obtain ⟨p',ob,w1,w2,w3⟩:=q
      exact ⟨p',ob,w1,(sa.trans g3.aa) _ _ w2,w3⟩
     | nst b=>
      rw[hf] at q
      intro z
      obtain ⟨p',xs,kvs,w1,w2,w3,w4,w5,w6⟩:=q z
      have n1:A2 p'=none:=nw p' w4 (by rw[w3];simp)
      exact ⟨p',xs,kvs,w1,w2,g3.hh _ _ (sh _ _ w3),g3.nw p' n1 (by rw[sh _ _ w3];simp),w5,w6.mono (sa.trans g3.aa)⟩
    exact rr.block ho ix
   refine ⟨A3,H3,_,dx,Γ1,rb,p3,e4,fun σ4 r4 y4=>?_⟩
   have hos:∃os':List (Option V),os'.length=tn.length∧σ4=os'++ix.map fun i=>(σ[i]?).join:=by
    have hl4:σ4.length=tn.length+ix.length:=by rw[y4.1,aw,av,ho]
    refine ⟨σ4.take tn.length,by rw[eM];omega,List.ext_getElem? fun j=>?_⟩
    rcases kq j tn.length with hj | hj
    · rw[eh (by rw[eM];omega),mE hj]
    · rw[y4.2 j (fun z=>absurd (his j z) (by omega)),dt (by omega),dt (by rw[eM];omega),eM,ho]
      congr 1
      omega
   cases t with
   | bool bb=>
    refine ⟨A3,H3,Γ1,bb,r4,e5,fun A4 H4 g4=>?_⟩
    have nw4:New A1 A4 H1:=nw.trans ((g3.trans g4).nw.mono sh)
    have hD4:H4 D=some (.lst acc):=g4.hh _ _ (g3.hh _ _ hD2)
    have a4:A4 D=none:=(g3.trans g4).nw D a2 (by rw[hD2];simp)
    cases bb with
    | false=>
     refine wB ⟨xs.length - (i+1),by omega,rfl,hlt,by omega,hos,A4,sa.trans (g3.trans g4).aa,nw4,g4.ah,sh.trans (g3.trans g4).hh,a4,hD4,ds1,ds2,rfl,aB.mono (g3.trans g4).aa _ rp,e3⟩
    | true=>
     obtain ⟨dv,e6,e3⟩:=Res.aA e3
     obtain ⟨ds3,e7,e3⟩:=Res.aA e3
     cases e3
     refine wJ ⟨A4,H3,Γ1,dv,r4.grow g4,e6,fun v A5 H5 g5 p5=>?_⟩
     have gg:=(g3.trans g4).trans g5
     have hD5:H5 D=some (.lst acc):=g5.hh _ _ hD4
     have a5:A5 D=none:=gg.nw D a2 (by rw[hD2];simp)
     refine ⟨hD5,xs.length - (i+1),by omega,rfl,hlt,by rw[aw,eP];omega,hos,A5,sa.trans gg.aa,nw.trans (gg.nw.mono sh),fun b u q=>?_,?_,a5,bw,ds1++[dv],ds3,by rw[eS];rfl,(aB.mono gg.aa _ rp).append (aB.one p5),e7⟩
     · have hb:b≠D:=fun z=>by rw[z,a5] at q;cases q
       rw[aK hb];exact g5.ah b u q
     · exact (sh.trans gg.hh).up hD
   | _=>cases e3
 · have e:i=xs.length:=by omega
   subst e
   rw[xD] at e3
   cases e3
   rw[fb] at k
   refine .inl ⟨hj.stop H2 (sa.trans s2) sh,k _ A2 H2 ⟨g1.aa.trans sa,g1.hh.trans sh,s2,fun p n1 n2=>nw p (g1.nw p n1 n2) (aC.ne g1.hh n2)⟩ ⟨D,_,rfl,g1.hh.free hD,hD2,a2,.inl ⟨ds1,acc,rfl,rfl,rp⟩⟩⟩
end
section
variable {X:Cx}{O Ob O1:List Fl}{scope:nk}{tn:List Str}{ix is:List Nat}{it:MI}{g:MG}{mc me:ME}{elt tg iter:Expr}{ifs:List Expr}{pos:Pos}{nt:Nat}
theorem jP (tn:List Str) (ix:List Nat) (S:gG X scope ix=true) (hc:X.calm=true) (hOb:Ob=km tn.length ix O) (hnt:nt=tn.length) (his:∀j∈is,j < tn.length) (hi:QI X tg iter (tIc X.K O it))
 (hg:∀cl C s₂ H₂ fp,QG (X.comp scope tn ix cl C s₂ H₂ fp) tg (tG X.K Ob O1 is g)) (ht:∀cl C s₂ H₂ fp,vp (X.comp scope tn ix cl C s₂ H₂ fp) ifs (tT X.K O1 mc)) (he:∀cl C s₂ H₂ fp,QE (X.comp scope tn ix cl C s₂ H₂ fp) elt (tE X.K O1 me))
 (hs:∀x,kn iter X.env x=pure x:=by intro _;rfl):QE X (.ListComp elt [⟨tg,iter,ifs,0⟩] scope pos) (tF X.K O (cP it g mc me nt ix)):=
 QE.imp (W5 S hc hi.h (fun cl C s₂ H₂ fp=>(hg cl C s₂ H₂ fp).h) (fun cl C s₂ H₂ fp=>(ht cl C s₂ H₂ fp).h) (fun cl C s₂ H₂ fp=>(he cl C s₂ H₂ fp).h) hs) fun σ H Q h=>yo hOb hnt his h
theorem VN (i:Nat) {O2:List Fl} (tn:List Str) (ix:List Nat) {rm:Rm}{Ol:List Fl}{y:Str}{py spos:Pos} (hN:X.N.Nodup) (hiN:X.N[i]?=some y) (hy:Loc X.env.scope y) (S:gG X scope ix=true) (hc:X.calm=true) (hOb:Ob=km tn.length ix O) (hnt:nt=tn.length) (his:∀j∈is,j < tn.length) (hi:QI X tg iter (tIc X.K O it))
 (hg:∀cl C s₂ H₂ fp,QG (X.comp scope tn ix cl C s₂ H₂ fp) tg (tG X.K Ob O1 is g)) (ht:∀cl C s₂ H₂ fp,vp (X.comp scope tn ix cl C s₂ H₂ fp) ifs (tT X.K O1 mc)) (he:∀cl C s₂ H₂ fp,QE (X.comp scope tn ix cl C s₂ H₂ fp) elt (tE X.K O1 me))
 (hl:i < O.length:=by exact of_decide_eq_true rfl) (hsw:kr (.ListComp elt [⟨tg,iter,ifs,0⟩] scope pos) (some (.Name y py)) spos.line X.env=pure true:=by rfl)
 (hf:X.fn y=true∨X.env.scope.names.lookup y=some .local:=by first | exact .inl rfl | exact .inr rfl | assumption)
 (hs:∀x,kn iter X.env x=pure x:=by intro _;rfl) (hO:O.set i .own=O2:=by rfl):QS X (.Assign [.Name y py] (.ListComp elt [⟨tg,iter,ifs,0⟩] scope pos) spos) (tS X.K rm Ol O O2 (aY i (cP it g mc me nt ix))):=
 hO ▸ QS.imp (Jk hN hiN hy S hc hi.h (fun cl C s₂ H₂ fp=>(hg cl C s₂ H₂ fp).h) (fun cl C s₂ H₂ fp=>(ht cl C s₂ H₂ fp).h) (fun cl C s₂ H₂ fp=>(he cl C s₂ H₂ fp).h) hsw hf hs) fun D σ H=>vy (fun σ H Q h=>yo hOb hnt his h) hl
end
noncomputable def oH (i:Nat) (m:ME):MS:=fun Γ=>(m Γ).bind fun d=>match gv Γ i with
 | some (.list ds)=>gd (ds.length < bg∧i < Γ.length) (.ok (.nx (Γ.set i (some (.list (ds++[d]))))))
 | _=>.bad
noncomputable def vL (i:Nat) (m:ME):MS:=fun Γ=>(m Γ).bind fun d=>match gv Γ i,d with
 | some (.list ds),.list es=>gd (ds.length+es.length≤bg∧i < Γ.length) (.ok (.nx (Γ.set i (some (.list (ds++es))))))
 | _,_=>.bad
noncomputable def Hj (i:Nat):MS:=fun Γ=>match gv Γ i with
 | some (.list ds)=>gd (i < Γ.length) (.ok (.nx (Γ.set i (some (.list [])))))
 | _=>.bad
section
variable {X:Cx}{rm:Rm}{Ol O:List Fl}{m m':ME}{e a b:Expr}{pos p apos cpos:Pos}
theorem qx {K:af}{A B H:Hp}{σ:L2.St}{Γ:Ev}{i:Nat}{ds:List ae} (r:aN K A B H O σ Γ) (hi:isO (fl O i)=true) (he:gv Γ i=some (.list ds)):∃q vs,sv σ i=some (.ref q)∧H q=some (.lst vs)∧aB K A ds vs:=by
 obtain ⟨d,q,o,e1,e2,h1,h2,h3,⟨ds',vs,rfl,rfl,h4⟩ | ⟨kvs,u,rfl,rfl,h4⟩⟩:=r.pF hi (by rw[he];simp)
 rotate_right
 · rw[he] at e1;cases e1
 rw[he] at e1
 cases e1
 exact ⟨q,vs,e2,h1,h4⟩
theorem vP (i:Nat) {x:Str} (he:QE X e (tE X.K O m)) (hi:isO (fl O i)=true:=by rfl) (hN:X.N[i]?=some x:=by rfl) (hv:Vis X.env.scope x:=by first | exact cb rfl | exact fq (cb rfl) | exact fq (fq rfl)) (hd:(x == ("__debug__" : Str))=false:=by decide)
 (hcd:(x == ("__classdict__" : Str))=false:=by decide) (hbase:jS (.Name x p) "append" X.env (eval (.Name x p) X.env)=eval (.Name x p) X.env:=by rfl)
 (hfew:((lI cpos (d5 (e::[]) X.env)).all (fun x=>!x.1)&&(zv cpos (sL [] X.env)).all (fun x=>x.1.isSome)
  && decide ((e::[]).length+([]:List qc).length+(if ([]:List qc).isEmpty then 0 else 1) < 30))=true:=by rfl)
 (hline:(apos.endLine == cpos.line)=true:=by rfl) (hs:d5 (e::[]) X.env=(false,eval e X.env)::d5 [] X.env:=by rfl) (hplain:(lI cpos (d5 [] X.env)).any (·.1)=false:=by rfl)
 (hsw:kr (.Call (.Attribute (.Name x p) "append" apos) [e] [] cpos) none pos.line X.env=pure false:=by rfl) :
 QS X (.Expr (.Call (.Attribute (.Name x p) "append" apos) [e] [] cpos) pos) (tS X.K rm Ol O O (oH i m)):=by
 refine QS.imp (pq (Lq kS PySem.F.slot_list_append PySem.F.type_list_append Df (du hN hv hd hcd) (cA he.h fQ hs) hbase hfew hline hs hplain) hsw) fun D σ H ao=>?_
 obtain ⟨A,B,Γ,o,r,em,k⟩:=ao
 obtain ⟨d,e1,em⟩:=Res.aA em
 cases hg:gv Γ i with
 | none=>rw[hg] at em;cases em
 | some dl=>
  rw[hg] at em
  cases dl with
  | list ds=>
   obtain ⟨⟨hc,hlt⟩,em⟩:=b7 em
   cases em
   obtain ⟨q,vs,e2,h1,h4⟩:=qx r hi hg
   refine ⟨.ref q,dq e2,.inl ⟨rfl,vs,SqL.of h1⟩,A,B,Γ,d,r,e1,fun v A1 H1 g1 p1=>⟨q,vs,v,rfl,rfl,g1.hh _ _ h1,by rw[← h4.length];exact hc,?_⟩⟩
   exact k σ A1 _ ((r.grow g1).change hi hlt (by rw[hg];simp) e2 (g1.hh _ _ h1) (.inl ⟨_,_,rfl,rfl,(aB.mono g1.aa _ h4).append (aB.one p1)⟩)) g1.aa (g1.nB r.b)
  | _=>cases em
noncomputable def QV:V→List V→Hp→VK→Prop:=fun x vs H Q=>∃l b xs zs,x = .ref l∧vs=[.ref b]∧H l=some (.lst xs)∧Rd H b (.lst zs)∧xs.length+zs.length≤bg∧Q .non (upd H l (.lst (xs++zs)))
theorem Km:MtM X "list.extend" QV:=by
 intro pins s σ H x vs v us Q I rx rv h
 obtain ⟨l,b,xs,zs,rfl,rfl,hH,hB,hz,q⟩:=h
 cases rx
 obtain ⟨u,rfl,ru⟩:=rv.one
 cases ru
 obtain ⟨z,its,n,r,hl,e⟩:=I.FQ hH
 obtain ⟨z2,its2,n2,r2,e2⟩:=hB.ok I.hok
 have hl2:=r2.length
 have hsz:its.toArray.size+its2.toArray.size≤bg:=by rw[bE,bE];omega
 have KZ:¬ (!its.toArray.isEmpty&&ij (its.toArray.size+its2.toArray.size))=true:=by
  rw[Hb hsz,rf]
  exact i6
 refine ve oa ⟨_,e,rfl⟩ F.entry_list_extend (F.args_list_extend_2 _ _)
  (AutoSeq1.list_extend_list_list_0 l its.toArray n b its2.toArray n2 KZ (by rw[bE];omega) (by omega)) ⟨e,e2,?_⟩
 refine ⟨.non,_,I.Gu (its':=its++its2) hH e (by simp) (r.append r2) ?_,rfl,q⟩
 rw[aw]
 omega
theorem XQ (i:Nat) {x:Str} (he:QE X e (tF X.K O m)) (hi:isO (fl O i)=true:=by rfl) (hN:X.N[i]?=some x:=by rfl) (hv:Vis X.env.scope x:=by first | exact cb rfl | exact fq (cb rfl) | exact fq (fq rfl)) (hd:(x == ("__debug__" : Str))=false:=by decide)
 (hcd:(x == ("__classdict__" : Str))=false:=by decide) (hbase:jS (.Name x p) "extend" X.env (eval (.Name x p) X.env)=eval (.Name x p) X.env:=by rfl)
 (hfew:((lI cpos (d5 (e::[]) X.env)).all (fun x=>!x.1)&&(zv cpos (sL [] X.env)).all (fun x=>x.1.isSome)
  && decide ((e::[]).length+([]:List qc).length+(if ([]:List qc).isEmpty then 0 else 1) < 30))=true:=by rfl)
 (hline:(apos.endLine == cpos.line)=true:=by rfl) (hs:d5 (e::[]) X.env=(false,eval e X.env)::d5 [] X.env:=by rfl) (hplain:(lI cpos (d5 [] X.env)).any (·.1)=false:=by rfl)
 (hsw:kr (.Call (.Attribute (.Name x p) "extend" apos) [e] [] cpos) none pos.line X.env=pure false:=by rfl) :
 QS X (.Expr (.Call (.Attribute (.Name x p) "extend" apos) [e] [] cpos) pos) (tS X.K rm Ol O O (vL i m)):=by
 refine QS.imp (pq (Lq kS oa xk Km (du hN hv hd hcd) (cA he.h fQ hs) hbase hfew hline hs hplain) hsw) fun D σ H ao=>?_
 obtain ⟨A,B,Γ,o,r,em,k⟩:=ao
 obtain ⟨d,e1,em⟩:=Res.aA em
 cases hg:gv Γ i with
 | none=>rw[hg] at em;cases em
 | some dl=>
  rw[hg] at em
  cases dl with
  | list ds=>
   cases d with
   | list es=>
    obtain ⟨⟨hc,hlt⟩,em⟩:=b7 em
    cases em
    obtain ⟨q,vs,e2,h1,h4⟩:=qx r hi hg
    refine ⟨.ref q,dq e2,.inl ⟨rfl,vs,SqL.of h1⟩,A,B,Γ,_,r,e1,fun v A1 H1 g1 p1=>?_⟩
    obtain ⟨q2,o2,rfl,h0,h5,h7,⟨es',us,e3,rfl,h6⟩ | ⟨_,_,e3,_⟩⟩:=p1
    rotate_right
    · cases e3
    cases e3
    refine ⟨q,q2,vs,us,rfl,rfl,g1.hh _ _ h1,.inl h5,by rw[← h4.length,← h6.length];exact hc,?_⟩
    exact k σ A1 _ ((r.grow g1).change hi hlt (by rw[hg];simp) e2 (g1.hh _ _ h1) (.inl ⟨_,_,rfl,rfl,(aB.mono g1.aa _ h4).append h6⟩)) g1.aa (g1.nB r.b)
   | _=>cases em
  | _=>cases em
end
noncomputable def intsOf:List ae→Option (List Int)
 | []=>some []
 | .int i::ds=>(intsOf ds).map (i :: ·)
 | _::_=>none
theorem Ck:∀{ds:List ae}{ns:List Int},intsOf ds=some ns→ds=ns.map ae.int
 | [],ns,h=>by cases h;rfl
 | .int i::ds,ns,h=>by
  unfold intsOf at h
  cases e:intsOf ds with
  | none=>rw[e] at h;cases h
  | some ms=>rw[e] at h;cases h;rw[Ck e];rfl
@[simp] theorem Kp (ns:List Int):intsOf (ns.map ae.int)=some ns:=by
 induction ns with
 | nil=>rfl
 | cons n ns ih=>rw[dy,intsOf,ih];rfl
noncomputable def GP:List ae→Res ae
 | [.list ds]=>match intsOf ds with
  | some ns=>.ok (.int ns.sum)
  | none=>.bad
 | _=>.bad
theorem aB.Y8 {K:af}{A:Hp}:∀{ns:List Int}{vs:List V},aB K A (ns.map ae.int) vs→vs=ns.map V.int
 | [],vs,h=>by rw[oS,aB.nil] at h;exact h
 | n::ns,vs,h=>by
  rw[dy,aB.cons] at h
  obtain ⟨v,r,rfl,h1,h2⟩:=h
  rw[Rp.int.mp h1,h2.Y8];rfl
theorem Ca:∀{ns:List Int}{us:List ag},Vals (ns.map V.int) us→sm us ns
 | [],_,.nil=>.nil
 | n::ns,_,.cons r t=>by
  obtain ⟨tk,rfl⟩:=r
  exact .cons n tk (Ca t)
section
variable {X:Cx}
theorem MF (hc:X.calm=true):dU X (.builtin "sum") (rC X.K GP):=by
 intro pins s σ H xs us Q I r h
 obtain ⟨A,ds,d,e,ha,p,k⟩:=h
 match ds,e with
 | [.list es],e=>
  have e':(match intsOf es with | some ns=>Res.ok (ae.int ns.sum) | none=>.bad) = .ok d:=e
  cases hn:intsOf es with
  | none=>rw[hn] at e';cases e'
  | some ns=>
   rw[hn] at e'
   cases e'
   obtain rfl:=Ck hn
   obtain ⟨v,r',rfl,p1,p2⟩:=p.cons
   obtain rfl:=p2.nil
   obtain ⟨l,vs,rfl,h1,q1⟩:=p1.list ha
   obtain rfl:=q1.Y8
   obtain ⟨u,rfl,rx⟩:=Vals.one r
   cases rx
   obtain ⟨its,rv,pl,hz⟩:=I.list h1
   have hi:=Ca rv
   have hall:AllInts its.toArray:=hi.allInts
   obtain ⟨ys,ey⟩:=hall.items
   have e2:=nums_intItems ys
   refine sum_intListG (xs:=ys) (I.ok.hd hc) (by rw[← ey];exact pl.isList) fun h' tk t' hk=>?_
   have e3:numsOf (intItems ys).toList=ns:=by
    rw[← ey]
    exact hi.numsOf
   rw[e2] at e3
   rw[preSum_eq,g6 (by simp),e3]
   exact ⟨.int ns.sum,H,I.kept (t':=tk) hk,⟨t',rfl⟩,k _ A H (aM.refl ha) (Rp.int.mpr rfl)⟩
end
theorem Lz {K:af}{H:Hp}{a:Addr}{ns:List Int}{f:List ae→Res ae}{fg:Fl}{E:XK} (hm:f [.list (ns.map ae.int)] = .ok (.bool true)) (hS:SqL K H a (ns.map V.int)):spF K [fg] .f f [.ref a] H (fun v _=>v = .bl true) E:=by
 refine ⟨H,[.list (ns.map ae.int)],.bool true,aC.refl _,⟨_,_,_,_,rfl,rfl,?_,rfl,rfl⟩,hm,fun v A' H' g p=>(Rp.bool (K:=K) (A:=A')).mp p⟩
 have q:Rp K H (.list (ns.map ae.int)) (.ref a):=Rp.list.mpr ⟨a,_,rfl,hS,aB.ints⟩
 cases fg with
 | imm=>exact q
 | bor=>exact .inl q
 | own=>exact .inl q
 | fix p0=>exact .inl q
 | exc C=>exact .inl q
 | nst b=>exact .inl q
end L3
namespace L2
open PySem PyProof.Rows
structure Mv (lo hi:Nat) (st st':eo):Prop where
 kind:kindOf st'=kindOf st
 failed:ly st'=ly st
 pend:fi st'=fi st
 perm:(bo st').Perm (bo st)
 out:∀i,i < lo∨hi≤i→K (bo st') i=K (bo st) i
structure Sk (st:eo):Prop where
 kind:kindOf st=pT
 failed:ly st=none
 keys:IntKeys (bo st)
noncomputable def Seg (a:Array fk) (lo hi:Nat):Prop:=∀i j,lo≤i→i≤j→j < hi→K a i≤K a j
noncomputable def Dsc (a:Array fk) (lo hi:Nat):Prop:=∀i j,lo≤i→i≤j→j < hi→K a j≤K a i
theorem Mv.refl (lo hi:Nat) (st:eo):Mv lo hi st st:=⟨rfl,rfl,rfl,.refl _,fun _ _=>rfl⟩
theorem Mv.trans {lo hi:Nat}{a b c:eo} (x:Mv lo hi a b) (y:Mv lo hi b c):Mv lo hi a c:=
 ⟨y.kind.trans x.kind,y.failed.trans x.failed,y.pend.trans x.pend,y.perm.trans x.perm,fun i h=>(y.out i h).trans (x.out i h)⟩
theorem Mv.wide {lo hi lo' hi':Nat}{a b:eo} (x:Mv lo hi a b) (h1:lo'≤lo) (h2:hi≤hi'):Mv lo' hi' a b:=
 ⟨x.kind,x.failed,x.pend,x.perm,fun i h=>x.out i (by omega)⟩
theorem Mv.size {lo hi:Nat}{a b:eo} (x:Mv lo hi a b):(bo b).size=(bo a).size:=x.perm.size_eq
theorem keys_perm {a b:Array fk} (h:a.Perm b) (k:IntKeys b):IntKeys a:=fun p hp=>k p ((vn.mp h).mem_iff.mp hp)
theorem Mv.sk {lo hi:Nat}{a b:eo} (x:Mv lo hi a b) (k:Sk a):Sk b:=⟨x.kind.trans k.kind,x.failed.trans k.failed,keys_perm x.perm k.keys⟩
theorem Mv.arr {lo hi:Nat}{st:eo}{xs:Array fk} (hp:xs.Perm (bo st)) (ho:∀i,i < lo∨hi≤i→K xs i=K (bo st) i):Mv lo hi st (setArr st xs):=⟨rfl,rfl,rfl,hp,ho⟩
theorem Z5 {a:Array fk} (h:IntKeys a) {i:Nat} (hi:i < a.size):∃t q,a[i]?=some (.int (K a i) t,q):=by
 obtain ⟨n,t,hn⟩:=h a[i] (by simp)
 refine ⟨t,a[i].2,?_⟩
 rw[getElem?_pos a i hi]
 have e:K a i=n:=by unfold K;rw[getElem?_pos a i hi];simp only[hn];rfl
 rw[e]
 exact congrArg some (Prod.ext hn rfl)
section
variable {prog:cc}{w:eK}{A:eI}{E:ag→ar→Prop}{s:ar}
theorem vN {st:eo}{i j:Nat}{Q:Option Bool→eo→Prop} (k:Sk st) (hi:i < (bo st).size) (hj:j < (bo st).size)
 (h:Q (some (decide (K (bo st) i < K (bo st) j))) st):wpS (cx prog w) A E s (ltAt' i j) Q st:=by
 obtain ⟨t,p,e1⟩:=Z5 k.keys hi
 obtain ⟨u,q,e2⟩:=Z5 k.keys hj
 exact wpS_ltAt k.kind e1 e2 h
theorem wV {st:eo}{x y:fk}{Q:Option Bool→eo→Prop} (k:kindOf st=pT) (hx:∃n t,x.1 = .int n t) (hy:∃n t,y.1 = .int n t)
 (h:Q (some (decide (i8 x.1 < i8 y.1))) st):wpS (cx prog w) A E s (lt' x y) Q st:=by
 obtain ⟨a,t,e1⟩:=hx
 obtain ⟨b,u,e2⟩:=hy
 rw[lt'_eq]
 refine bt (wo ?_)
 rw[k,keyLt'_oneType,e1,e2]
 rw[e1,e2] at h
 exact bt (xE (pV (oneLt_int ⟨rfl,cq h⟩)))
theorem cU {st:eo}{a:Array fk}{i:Nat}{Q:fk→eo→Prop} (hi:i < a.size) (h:Q a[i] st):wpS (cx prog w) A E s (ng a i) Q st:=by
 rw[elem'_eq,getElem?_pos a i hi]
 exact cq h
theorem Wt {st:eo}{lo n ok:Nat}{Q:Bool→eo→Prop} (k:Sk st) (hn:lo+n≤(bo st).size) (hok:ok≤n) (hs:Seg (bo st) lo (lo+ok))
 (h:∀st',Mv lo (lo+n) st st'→Seg (bo st') lo (lo+n)→Q true st'):wpS (cx prog w) A E s (binarySort' lo n ok) Q st:=by
 rw[binarySort'_eq]
 refine bt (nh (ib (I:=fun k c b=>c=(none,())∧Mv lo (lo+n) st b∧Seg (bo b) lo (lo+min k n))
  (Q:=fun c b=>c=(none,())∧Mv lo (lo+n) st b∧Seg (bo b) lo (lo+n)) ?step ?fin ?init) ?post)
 case post=>
  rintro c b ⟨rfl,m,g⟩
  exact cq (h b m g)
 case init=>
  refine ⟨rfl,.refl _ _ _,fun i j hi hij hj=>?_⟩
  by_cases h1:ok=0
  · have:i=j:=by omega
    subst this;exact iS _
  · exact hs i j hi hij (by omega)
 case fin=>
  rintro c b ⟨hc,m,g⟩
  rw[show min (max (max ok 1) n) n=n by omega] at g
  exact ⟨hc,m,g⟩
 case step=>
  rintro x c b hax hxn ⟨rfl,m,g⟩
  rw[show min x n=x by omega] at g
  have kb:=m.sk k
  have sz:=m.size
  refine bt (nh (ib (I:=fun y c b'=>b'=b∧∃l r,c=(none,l,r)∧l≤r∧r≤x∧r - l≤x - y ∧
   (∀i,i < l→K (bo b) (lo+i)≤K (bo b) (lo+x))∧(∀i,r≤i→i < x→K (bo b) (lo+x) < K (bo b) (lo+i)))
   (Q:=fun c b'=>b'=b∧∃l r,c=(none,l,r)∧l≤x ∧
    (∀i,i < l→K (bo b) (lo+i)≤K (bo b) (lo+x))∧(∀i,l≤i→i < x→K (bo b) (lo+x) < K (bo b) (lo+i))) ?istep ?ifin ?iinit) ?ipost)
  case iinit=>exact ⟨rfl,0,x,rfl,by omega,by omega,by omega,fun i hi=>by omega,fun i h1 h2=>by omega⟩
  case ifin=>
   rintro c b' ⟨rfl,l,r,rfl,q1,q2,q3,q4,q5⟩
   have:l=r:=by omega
   subst this
   exact ⟨rfl,l,l,rfl,q2,q4,q5⟩
  case istep=>
   rintro y c b' _ hyx ⟨rfl,l,r,rfl,q1,q2,q3,q4,q5⟩
   dsimp only
   by_cases hge:l≥r
   · rw[if_pos hge]
     have:l=r:=by omega
     subst this
     exact cq ⟨rfl,l,l,rfl,q2,q4,q5⟩
   · rw[if_neg hge]
     refine bt (vN kb (by omega) (by omega) ?_)
     by_cases hl:K (bo b') (lo+x) < K (bo b') (lo+(l+r) / 2)
     · simp only[hl,decide_true,if_true]
       refine cq ⟨rfl,l,(l+r) / 2,rfl,by omega,by omega,by omega,q4,fun i h1 h2=>?_⟩
       exact Int.lt_of_lt_of_le hl (g _ _ (by omega) (by omega) (by omega))
     · simp only[hl,decide_false,fF,if_false]
       refine cq ⟨rfl,(l+r) / 2+1,r,rfl,by omega,by omega,by omega,fun i h1=>?_,q5⟩
       exact hY (g (lo+i) (lo+(l+r) / 2) (by omega) (by omega) (by omega)) (y8.mp hl)
  case ipost=>
   rintro c b' ⟨rfl,l,r,rfl,q1,q4,q5⟩
   show wpS _ _ _ _ (do moveDown' (lo+x) (lo+l);pure (i5 (none,()))) _ _
   rw[moveDown'_eq]
   have hks:lo+x < (bo b').size:=by omega
   have KB:∀i,K (bubble (bo b') (lo+x) (lo+x - (lo+l))) i=if i=lo+l then K (bo b') (lo+x) else if lo+l < i∧i≤lo+x then K (bo b') (i - 1) else K (bo b') i:=by
    intro i
    rw[K_bubble hks (by omega),show lo+x - (lo+x - (lo+l))=lo+l by omega]
   refine bt (sf (cq ⟨rfl,m.trans (.arr (bubble_perm _ _ _) fun i hi=>?_),?_⟩))
   · rw[KB,if_neg (by omega),if_neg (by omega)]
   rw[show min (x+1) n=x+1 by omega]
   intro i j hi hij hj
   show K (bubble (bo b') (lo+x) (lo+x - (lo+l))) i≤K (bubble (bo b') (lo+x) (lo+x - (lo+l))) j
   rw[KB,KB]
   have q4':∀i,lo≤i→i < lo+l→K (bo b') i≤K (bo b') (lo+x):=fun i h1 h2=>by have:=q4 (i - lo) (by omega);rwa [show lo+(i - lo)=i by omega] at this
   have q5':∀i,lo+l≤i→i < lo+x→K (bo b') (lo+x) < K (bo b') i:=fun i h1 h2=>by have:=q5 (i - lo) (by omega) (by omega);rwa [show lo+(i - lo)=i by omega] at this
   repeat' split
   all_goals first
    | (exfalso;omega)
    | exact iS _
    | exact q4' _ (by omega) (by omega)
    | exact fI (q5' _ (by omega) (by omega))
    | exact g _ _ (by omega) (by omega) (by omega)
theorem zZ {st:eo}{i j:Nat}{Q:Unit→eo→Prop} (h:Q () (setArr st (xl (bo st) i j ((j - i) / 2)))) :
 wpS (cx prog w) A E s (sC i j) Q st:=by
 rw[reverseSlice'_eq];exact sf h
theorem Mv.rev {lo hi i j:Nat}{st:eo} (h1:lo≤i) (h2:j≤hi) (h3:j≤(bo st).size):Mv lo hi st (setArr st (xl (bo st) i j ((j - i) / 2))):=
 .arr (mirror_perm _ _ _ _) fun k hk=>by rw[K_mirror h3,if_neg (by omega)]
noncomputable def upL (lo a n:Nat):StateT eo Sem (Option (Option Nat)×Nat):=
 forIn [a:n] (none,a) fun _ c=>do
  match ← ltAt' (lo+c.snd) (lo+c.snd - 1) with
  | some b=>if b=true then pure (.done (none,c.snd)) else pure (.yield (none,c.snd+1))
  | _=>pure (.done (some none,c.snd))
noncomputable def upE (lo a n:Nat):StateT eo Sem (Option Nat):=do
 sC lo (lo+a)
 let c ← upL lo a n
 match c.fst with
 | some r=>pure r
 | none=>pure (some c.snd)
noncomputable def dnL (lo a n:Nat):StateT eo Sem (Option (Option Nat)×Nat×Nat):=
 forIn [a:n] (none,a,0) fun _ c=>do
  match ← ltAt' (lo+c.snd.fst) (lo+c.snd.fst - 1) with
  | some b=>
   if b=true then
    if c.snd.snd > 0 then do
     sC (lo+c.snd.fst - (c.snd.snd+1)) (lo+c.snd.fst)
     pure (.yield (none,c.snd.fst+1,0))
    else pure (.yield (none,c.snd.fst+1,0))
   else do
    match ← ltAt' (lo+c.snd.fst - 1) (lo+c.snd.fst) with
    | some b'=>if b'=true then pure (.done (none,c.snd.fst,c.snd.snd)) else pure (.yield (none,c.snd.fst+1,c.snd.snd+1))
    | _=>pure (.done (some none,c.snd.fst,c.snd.snd))
  | _=>pure (.done (some none,c.snd.fst,c.snd.snd))
noncomputable def dnE (lo a n:Nat):StateT eo Sem (Option Nat):=do
 liftM (rule "list.sort.descending-run")
 let c ← dnL lo (a+1) n
 match c.fst with
 | some r=>pure r
 | none=>
  if c.snd.snd > 0 then do
   sC (lo+c.snd.fst - (c.snd.snd+1)) (lo+c.snd.fst)
   upE lo c.snd.fst n
  else upE lo c.snd.fst n
theorem Jz {st:eo}{lo a n:Nat}{Q:Option (Option Nat)×Nat→eo→Prop} (k:Sk st) (hn:lo+n≤(bo st).size) (ha:1≤a) (han:a≤n) (hs:Seg (bo st) lo (lo+a))
 (h:∀m,a≤m→m≤n→Seg (bo st) lo (lo+m)→(m=n∨K (bo st) (lo+m) < K (bo st) (lo+m - 1))→Q (none,m) st):wpS (cx prog w) A E s (upL lo a n) Q st:=by
 unfold upL
 refine ib (I:=fun x c b=>b=st∧c=(none,x)∧Seg (bo st) lo (lo+x)) ?step ?fin ⟨rfl,rfl,hs⟩
 case fin=>
  rintro c b ⟨rfl,rfl,g⟩
  rw[show max a n=n by omega] at g ⊢
  exact h n han (aE _) g (.inl rfl)
 case step=>
  rintro x c b hax hxn ⟨rfl,rfl,g⟩
  dsimp only
  refine bt (vN k (by omega) (by omega) ?_)
  by_cases hl:K (bo b) (lo+x) < K (bo b) (lo+x - 1)
  · simp only[hl,decide_true,if_true]
    exact cq (h x hax (by omega) g (.inr hl))
  · simp only[hl,decide_false,fF,if_false]
    refine cq ⟨rfl,rfl,fun i j hi hij hj=>?_⟩
    by_cases hjx:j < lo+x
    · exact g i j hi hij hjx
    · have hj':j=lo+x:=by omega
      subst hj'
      by_cases hi':i=lo+x
      · subst hi';exact iS _
      · exact hY (g i (lo+x - 1) hi (by omega) (by omega)) (y8.mp hl)
theorem JL {st:eo}{lo a n:Nat}{Q:Option Nat→eo→Prop} (k:Sk st) (hn:lo+n≤(bo st).size) (ha:1≤a) (han:a≤n) (hs:Dsc (bo st) lo (lo+a))
 (h:∀m st',Mv lo (lo+n) st st'→1≤m→m≤n→Seg (bo st') lo (lo+m)→Q (some m) st'):wpS (cx prog w) A E s (upE lo a n) Q st:=by
 unfold upE
 refine bt (zZ ?_)
 have m1:Mv lo (lo+n) st (setArr st (xl (bo st) lo (lo+a) ((lo+a - lo) / 2))):=.rev (aE _) (by omega) (by omega)
 refine bt (Jz (m1.sk k) (by rw[m1.size];exact hn) ha han ?_ fun m q1 q2 q3 _=>cq (h m _ m1 (by omega) q2 q3))
 intro i j hi hij hj
 show K (xl (bo st) lo (lo+a) ((lo+a - lo) / 2)) i≤K (xl (bo st) lo (lo+a) ((lo+a - lo) / 2)) j
 rw[K_mirror (by omega),K_mirror (by omega),if_pos (by omega),if_pos (by omega)]
 exact hs _ _ (by omega) (by omega) (by omega)
theorem WX {st:eo}{lo a n:Nat}{Q:Option (Option Nat)×Nat×Nat→eo→Prop} (k:Sk st) (hn:lo+n≤(bo st).size) (ha:1≤a) (han:a≤n) (hs:Dsc (bo st) lo (lo+a))
 (h:∀m e st',Mv lo (lo+n) st st'→a≤m→m≤n→Dsc (bo st') lo (lo+m)→e+1≤m→(∀i,lo+m - (e+1)≤i→i < lo+m→K (bo st') i=K (bo st') (lo+m - 1))→Q (none,m,e) st') :
 wpS (cx prog w) A E s (dnL lo a n) Q st:=by
 unfold dnL
 refine ib (I:=fun x c b=>∃e,c=(none,x,e)∧Mv lo (lo+n) st b∧Dsc (bo b) lo (lo+x)∧e+1≤x ∧
  (∀i,lo+x - (e+1)≤i→i < lo+x→K (bo b) i=K (bo b) (lo+x - 1))) ?step ?fin ⟨0,rfl,.refl _ _ _,hs,by omega,fun i h1 h2=>by congr 1;omega⟩
 case fin=>
  rintro c b ⟨e,rfl,m,g,q1,q2⟩
  rw[show max a n=n by omega] at g q1 q2 ⊢
  exact h n e b m han (aE _) g q1 q2
 case step=>
  rintro x c b hax hxn ⟨e,rfl,m,g,q1,q2⟩
  dsimp only
  have sz:=m.size
  refine bt (vN (m.sk k) (by omega) (by omega) ?_)
  by_cases hl:K (bo b) (lo+x) < K (bo b) (lo+x - 1)
  · simp only[hl,decide_true,if_true]
    have one:∀xs:Array fk,(∀k,K xs k=K (bo b) k)→Dsc xs lo (lo+(x+1)):=by
     intro xs hk i j hi hij hj
     rw[hk,hk]
     by_cases hjx:j < lo+x
     · exact g i j hi hij hjx
     · have hj':j=lo+x:=by omega
       subst hj'
       by_cases hi':i=lo+x
       · subst hi';exact iS _
       · exact hY (fI hl) (g i (lo+x - 1) hi (by omega) (by omega))
    by_cases he:e > 0
    · rw[if_pos he]
      refine bt (zZ (cq ⟨0,rfl,m.trans (.rev (by omega) (by omega) (by omega)),one _ (rg (by omega) q2),by omega,fun i h1 h2=>by congr 1;omega⟩))
    · rw[if_neg he]
      exact cq ⟨0,rfl,m,one _ (fun _=>rfl),by omega,fun i h1 h2=>by congr 1;omega⟩
  · simp only[hl,decide_false,fF,if_false]
    refine bt (vN (m.sk k) (by omega) (by omega) ?_)
    by_cases hg:K (bo b) (lo+x - 1) < K (bo b) (lo+x)
    · simp only[hg,decide_true,if_true]
      exact cq (h x e b m hax (by omega) g q1 q2)
    · simp only[hg,decide_false,fF,if_false]
      have hx:K (bo b) (lo+x)=K (bo b) (lo+x - 1):=by omega
      refine cq ⟨e+1,rfl,m,fun i j hi hij hj=>?_,by omega,fun i h1 h2=>?_⟩
      · by_cases hjx:j < lo+x
        · exact g i j hi hij hjx
        · have hj':j=lo+x:=by omega
          subst hj'
          by_cases hi':i=lo+x
          · subst hi';exact iS _
          · rw[hx];exact g i (lo+x - 1) hi (by omega) (by omega)
      · rw[show lo+(x+1) - 1=lo+x by omega]
        by_cases hix:i=lo+x
        · subst hix;rfl
        · rw[hx];exact q2 i (by omega) (by omega)
theorem JH {st:eo}{lo a n:Nat}{Q:Option Nat→eo→Prop} (k:Sk st) (hn:lo+n≤(bo st).size) (han:a+1≤n) (hs:Dsc (bo st) lo (lo+(a+1)))
 (h:∀m st',Mv lo (lo+n) st st'→1≤m→m≤n→Seg (bo st') lo (lo+m)→Q (some m) st'):wpS (cx prog w) A E s (dnE lo a n) Q st:=by
 unfold dnE
 refine bt (xE (nL ⟨rfl,?_⟩))
 refine bt (WX k hn (by omega) han hs fun m e b mv q1 q2 g q3 q4=>?_)
 dsimp only
 have sz:=mv.size
 by_cases he:e > 0
 · rw[if_pos he]
   have m2:Mv lo (lo+n) b (setArr b (xl (bo b) (lo+m - (e+1)) (lo+m) ((lo+m - (lo+m - (e+1))) / 2))):=.rev (by omega) (by omega) (by omega)
   refine bt (zZ (JL (m2.sk (mv.sk k)) (by rw[m2.size];omega) (by omega) q2 ?_ fun m' b' m3=>h m' b' (mv.trans (m2.trans m3))))
   intro i j hi hij hj
   show K (xl (bo b) _ _ _) j≤K (xl (bo b) _ _ _) i
   rw[rg (by omega) q4,rg (by omega) q4]
   exact g i j hi hij hj
 · rw[if_neg he]
   exact JL (mv.sk k) (by omega) (by omega) q2 g fun m' b' m3=>h m' b' (mv.trans m3)
local macro_rules | `(tactic| walk_at "up_eq")=>`(tactic| (refine congrArg (_ >>= ·) (funext fun _=>?_);refine congrArg (_ >>= ·) (funext fun c=>?_);obtain ⟨r,m⟩:=c;cases r <;> rfl))
local macro_rules | `(tactic| walk_at "dn_eq")=>`(tactic| (refine congrArg (_ >>= ·) (funext fun c=>?_);obtain ⟨r,m,e⟩:=c;cases r with
 | some r=>rfl
 | none=>(dsimp only;split;(refine congrArg (_ >>= ·) (funext fun _=>?_);walk_at "up_eq");walk_at "up_eq")))
theorem run_eq (lo n:Nat):countRun' lo n=(do
 let c ← upL lo 1 n
 match c.fst with
 | some r=>pure r
 | none=>
  if (c.snd == n)=true then pure (some c.snd)
  else if c.snd > 1 then do
   match ← ltAt' lo (lo+c.snd - 1) with
   | some b=>if b=true then pure (some c.snd) else do
    sC lo (lo+c.snd)
    dnE lo c.snd n
   | _=>pure none
  else dnE lo c.snd n):=by
 rw[countRun'_eq]
 refine congrArg (_ >>= ·) (funext fun c=>?_)
 obtain ⟨r,m⟩:=c
 cases r with
 | some r=>rfl
 | none=>
  dsimp only
  split
  · rfl
  · split
    · refine congrArg (_ >>= ·) (funext fun x=>?_)
      cases x with
      | none=>rfl
      | some b=>
       dsimp only
       split
       · rfl
       · refine congrArg (_ >>= ·) (funext fun _=>?_)
         refine congrArg (_ >>= ·) (funext fun _=>?_)
         walk_at "dn_eq"
    · refine congrArg (_ >>= ·) (funext fun _=>?_)
      walk_at "dn_eq"
theorem V2 {st:eo}{lo n:Nat}{Q:Option Nat→eo→Prop} (k:Sk st) (hn:lo+n≤(bo st).size) (h1:1≤n)
 (h:∀m st',Mv lo (lo+n) st st'→1≤m→m≤n→Seg (bo st') lo (lo+m)→Q (some m) st') :
 wpS (cx prog w) A E s (countRun' lo n) Q st:=by
 rw[run_eq]
 refine bt (Jz k hn (aE 1) h1 (fun i j hi hij hj=>by
  have:i=j:=by omega
  subst this;exact iS _) fun m q1 q2 g q3=>?_)
 dsimp only
 by_cases hm:m=n
 · rw[if_pos (by simpa using hm)]
   exact cq (h m st (.refl _ _ _) q1 q2 g)
 · rw[if_neg (by simpa using hm)]
   have hl:=q3.resolve_left hm
   by_cases hgt:m > 1
   · rw[if_pos hgt]
     refine bt (vN k (by omega) (by omega) ?_)
     by_cases hr:K (bo st) lo < K (bo st) (lo+m - 1)
     · simp only[hr,decide_true,if_true]
       exact cq (h m st (.refl _ _ _) q1 q2 g)
     · simp only[hr,decide_false,fF,if_false]
       have all:∀k,lo≤k→k < lo+m→K (bo st) k=K (bo st) (lo+m - 1):=by
        intro k u1 u2
        have a1:=g lo k (by omega) u1 u2
        have a2:=g k (lo+m - 1) u1 (by omega) (by omega)
        omega
       have m1:Mv lo (lo+n) st (setArr st (xl (bo st) lo (lo+m) ((lo+m - lo) / 2))):=.rev (aE _) (by omega) (by omega)
       refine bt (zZ (JH (m1.sk k) (by rw[m1.size];exact hn) (by omega) ?_ fun m' b' m3=>h m' b' (m1.trans m3)))
       intro i j hi hij hj
       show K (xl (bo st) _ _ _) j≤K (xl (bo st) _ _ _) i
       rw[rg (by omega) all,rg (by omega) all]
       by_cases hjn:j < lo+m
       · rw[all i (by omega) (by omega),all j (by omega) hjn];exact iS _
       · have hj':j=lo+m:=by omega
         subst hj'
         by_cases hi':i=lo+m
         · subst hi';exact iS _
         · rw[all i (by omega) (by omega)];exact fI hl
   · rw[if_neg hgt]
     have hm1:m=1:=by omega
     subst hm1
     refine JH k hn (by omega) ?_ h
     intro i j hi hij hj
     by_cases hi':i=j
     · subst hi';exact iS _
     · have hi0:i=lo:=by omega
       have hj1:j=lo+1:=by omega
       subst hi0;subst hj1
       exact fI hl
end
noncomputable def gal:Bool→fk→Array fk→Nat→Nat→Nat→StateT eo Sem (Option Nat):=sortPriv% PySem.Builtin.gallop
noncomputable def bey (left:Bool) (key:fk) (arr:Array fk) (i:Nat):StateT eo Sem (Option Bool):=do
 let x ← ng arr i
 if left then lt' x key else return (← lt' key x).map (!·)
theorem Yz (left:Bool) (key:fk) (arr:Array fk) (base n hint:Nat):gal left key arr base n hint=(do
 let mut p:=0
 let mut q:=1
 let mut u:=0
 let mut v:=0
 let some r ← bey left key arr (base+hint) | return none
 if r then
  let top:=n - hint
  for _ in [0:n] do
   if q≥top then break
   let some r ← bey left key arr (base+(hint+q)) | return none
   if !r then break
   p:=q
   q:=2*q+1
  u:=hint+p+1
  v:=hint+min q top
 else
  let top:=hint+1
  for _ in [0:n] do
   if q≥top then break
   let some r ← bey left key arr (base+(hint - q)) | return none
   if r then break
   p:=q
   q:=2*q+1
  u:=hint+1 - min q top
  v:=hint - p
 for _ in [0:n] do
  if u≥v then break
  let m:=u+(v - u) / 2
  let some r ← bey left key arr (base+m) | return none
  if r then u:=m+1 else v:=m
 return some v):=rfl
noncomputable def byd (left:Bool) (x y:Int):Bool:=if left then decide (y < x) else decide (y≤x)
section
variable {prog:cc}{w:eK}{A:eI}{E:ag→ar→Prop}{s:ar}
theorem wY {st:eo}{left:Bool}{key:fk}{arr:Array fk}{i:Nat}{Q:Option Bool→eo→Prop} (k:kindOf st=pT) (hk:∃n t,key.1 = .int n t) (ha:IntKeys arr) (hi:i < arr.size)
 (h:Q (some (byd left (i8 key.1) (K arr i))) st):wpS (cx prog w) A E s (bey left key arr i) Q st:=by
 unfold bey
 refine bt (cU hi ?_)
 have e:K arr i=i8 arr[i].1:=by unfold K;rw[getElem?_pos arr i hi]
 rw[e] at h
 have hx:=ha arr[i] (by simp)
 cases left with
 | true=>exact wV k hx hk h
 | false=>
  refine bt (wV k hk hx (cq ?_))
  have:(!decide (i8 key.1 < i8 arr[i].1))=byd false (i8 key.1) (i8 arr[i].1):=by
   unfold byd
   rw[if_neg (by simp),← decide_not]
   exact decide_eq_decide.mpr y8
  show Q (some (!decide (i8 key.1 < i8 arr[i].1))) st
  rw[this]
  exact h
set_option hygiene false in
local macro_rules | `(tactic| walk_at "gal_end")=>`(tactic| (
 refine bt (nh (ib (I:=fun x c b=>b=st0∧∃u v,c=(none,u,v)∧u≤v∧v≤n∧v - u≤n - x∧(∀i,i < u→byd left (i8 key.1) (K arr (base+i))=true)∧(∀i,v≤i→i < n→byd left (i8 key.1) (K arr (base+i))=false))
  (Q:=fun c b=>b=st0∧∃v,c=(none,v,v)∧v≤n∧(∀i,i < v→byd left (i8 key.1) (K arr (base+i))=true)∧(∀i,v≤i→i < n→byd left (i8 key.1) (K arr (base+i))=false)) ?aaR ?aeC ⟨rfl,_,_,rfl,huv,hvn,by omega,hu,hv⟩) ?aaX)
 case aaX=>
  rintro c b ⟨rfl,v,rfl,q1,q2,q3⟩
  exact cq (h v q1 q2 q3)
 case aeC=>
  rintro c b ⟨rfl,u,v,rfl,q1,q2,q3,q4,q5⟩
  have:u=v:=by omega
  subst this
  exact ⟨rfl,u,rfl,q2,q4,q5⟩
 case aaR=>
  rintro x c b _ hx ⟨rfl,u,v,rfl,q1,q2,q3,q4,q5⟩
  dsimp only
  by_cases hge:u≥v
  · rw[if_pos hge]
    have:u=v:=by omega
    subst this
    exact cq ⟨rfl,u,rfl,q2,q4,q5⟩
  · rw[if_neg hge]
    refine bt (wY k hk ha (by omega) ?_)
    dsimp only
    cases hP:byd left (i8 key.1) (K arr (base+(u+(v - u) / 2))) with
    | true=>
     rw[if_pos rfl]
     exact cq ⟨rfl,u+(v - u) / 2+1,v,rfl,by omega,q2,by omega,fun i hi=>up i (u+(v - u) / 2) (by omega) (by omega) hP,q5⟩
    | false=>
     rw[if_neg (by simp)]
     exact cq ⟨rfl,u,u+(v - u) / 2,rfl,by omega,by omega,by omega,q4,fun i h1 h2=>dn (u+(v - u) / 2) i h1 h2 hP⟩))
theorem o9 {st:eo}{left:Bool}{key:fk}{arr:Array fk}{base n hint:Nat}{Q:Option Nat→eo→Prop} (k:kindOf st=pT) (hk:∃n t,key.1 = .int n t) (ha:IntKeys arr)
 (hb:base+n≤arr.size) (hh:hint < n) (hs:Seg arr base (base+n))
 (h:∀v,v≤n→(∀i,i < v→byd left (i8 key.1) (K arr (base+i))=true)→(∀i,v≤i→i < n→byd left (i8 key.1) (K arr (base+i))=false)→Q (some v) st) :
 wpS (cx prog w) A E s (gal left key arr base n hint) Q st:=by
 have up:∀i j,i≤j→j < n→byd left (i8 key.1) (K arr (base+j))=true→byd left (i8 key.1) (K arr (base+i))=true:=by
  intro i j hij hj hP
  have:=hs (base+i) (base+j) (by omega) (by omega) (by omega)
  unfold byd at hP ⊢
  cases left <;> simp at hP ⊢ <;> omega
 have dn:∀i j,i≤j→j < n→byd left (i8 key.1) (K arr (base+i))=false→byd left (i8 key.1) (K arr (base+j))=false:=by
  intro i j hij hj hP
  cases hq:byd left (i8 key.1) (K arr (base+j)) with
  | false=>rfl
  | true=>rw[up i j hij hj hq] at hP;cases hP
 rw[Yz]
 dsimp only
 refine bt (wY k hk ha (by omega) ?_)
 dsimp only
 cases hP:byd left (i8 key.1) (K arr (base+hint)) with
 | true=>
  rw[if_pos rfl]
  refine bt (nh (ib (I:=fun x c b=>b=st∧∃p q,c=(none,p,q)∧p < q∧x+1≤q∧p < n - hint∧byd left (i8 key.1) (K arr (base+(hint+p)))=true)
   (Q:=fun c b=>b=st∧∃p q,c=(none,p,q)∧p < q∧p < n - hint∧byd left (i8 key.1) (K arr (base+(hint+p)))=true∧(q < n - hint→byd left (i8 key.1) (K arr (base+(hint+q)))=false)) ?step ?fin ⟨rfl,0,1,rfl,by omega,by omega,by omega,hP⟩) ?post)
  case post=>
   rintro c b ⟨rfl,p,q,rfl,q1,q2,q3,q4⟩
   have huv:hint+p+1≤hint+min q (n - hint):=by omega
   have hvn:hint+min q (n - hint)≤n:=by omega
   have hu:∀i,i < hint+p+1→byd left (i8 key.1) (K arr (base+i))=true:=fun i hi=>up i (hint+p) (by omega) (by omega) q3
   have hv:∀i,hint+min q (n - hint)≤i→i < n→byd left (i8 key.1) (K arr (base+i))=false:=fun i h1 h2=>dn (hint+q) i (by omega) h2 (q4 (by omega))
   clear q1 q2 q3 q4
   dsimp only
   generalize hst:b=st0 at *
   walk_at "gal_end"
  case fin=>
   rintro c b ⟨rfl,p,q,rfl,q1,q2,q3,q4⟩
   exact ⟨rfl,p,q,rfl,q1,q3,q4,fun h=>by omega⟩
  case step=>
   rintro x c b _ hx ⟨rfl,p,q,rfl,q1,q2,q3,q4⟩
   dsimp only
   by_cases hge:q≥n - hint
   · rw[if_pos hge]
     exact cq ⟨rfl,p,q,rfl,q1,q3,q4,fun h=>by omega⟩
   · rw[if_neg hge]
     refine bt (wY k hk ha (by omega) ?_)
     dsimp only
     cases hR:byd left (i8 key.1) (K arr (base+(hint+q))) with
     | true=>
      rw[if_neg (by simp)]
      exact cq ⟨rfl,q,2*q+1,rfl,by omega,by omega,by omega,hR⟩
     | false=>
      rw[if_pos (by simp)]
      exact cq ⟨rfl,p,q,rfl,q1,q3,q4,fun _=>hR⟩
 | false=>
  rw[if_neg (by simp)]
  refine bt (nh (ib (I:=fun x c b=>b=st∧∃p q,c=(none,p,q)∧p < q∧x+1≤q∧p < hint+1∧byd left (i8 key.1) (K arr (base+(hint - p)))=false)
   (Q:=fun c b=>b=st∧∃p q,c=(none,p,q)∧p < q∧p < hint+1∧byd left (i8 key.1) (K arr (base+(hint - p)))=false∧(q < hint+1→byd left (i8 key.1) (K arr (base+(hint - q)))=true)) ?step ?fin ⟨rfl,0,1,rfl,by omega,by omega,by omega,hP⟩) ?post)
  case post=>
   rintro c b ⟨rfl,p,q,rfl,q1,q2,q3,q4⟩
   have huv:hint+1 - min q (hint+1)≤hint - p:=by omega
   have hvn:hint - p≤n:=by omega
   have hu:∀i,i < hint+1 - min q (hint+1)→byd left (i8 key.1) (K arr (base+i))=true:=fun i hi=>up i (hint - q) (by omega) (by omega) (q4 (by omega))
   have hv:∀i,hint - p≤i→i < n→byd left (i8 key.1) (K arr (base+i))=false:=fun i h1 h2=>dn (hint - p) i (by omega) h2 q3
   clear q1 q2 q3 q4
   dsimp only
   generalize hst:b=st0 at *
   walk_at "gal_end"
  case fin=>
   rintro c b ⟨rfl,p,q,rfl,q1,q2,q3,q4⟩
   exact ⟨rfl,p,q,rfl,q1,q3,q4,fun h=>by omega⟩
  case step=>
   rintro x c b _ hx ⟨rfl,p,q,rfl,q1,q2,q3,q4⟩
   dsimp only
   by_cases hge:q≥hint+1
   · rw[if_pos hge]
     exact cq ⟨rfl,p,q,rfl,q1,q3,q4,fun h=>by omega⟩
   · rw[if_neg hge]
     refine bt (wY k hk ha (by omega) ?_)
     dsimp only
     cases hR:byd left (i8 key.1) (K arr (base+(hint - q))) with
     | true=>
      rw[if_pos rfl]
      exact cq ⟨rfl,p,q,rfl,q1,q3,q4,fun _=>hR⟩
     | false=>
      rw[if_neg (by simp)]
      exact cq ⟨rfl,q,2*q+1,rfl,by omega,by omega,by omega,hR⟩
end
section
variable {α:Type}{le:α→α→Prop}
structure Jn (le:α→α→Prop) (A B L:List α) (i j:Nat):Prop where
 perm:L.Perm (A.take i++B.take j)
 srt:L.Pairwise le
 la:∀x∈L,∀y∈A.drop i,le x y
 lb:∀x∈L,∀y∈B.drop j,le x y
theorem Jn.swap {A B L:List α}{i j:Nat} (h:Jn le A B L i j):Jn le B A L j i:=
 ⟨h.perm.trans kz,h.srt,h.lb,h.la⟩
theorem Jn.step {A B L:List α}{i j k:Nat} (h:Jn le A B L i j) (sA:A.Pairwise le) (hk:∀x∈(A.drop i).take k,∀y∈B.drop j,le x y):Jn le A B (L++(A.drop i).take k) (i+k) j:=by
 have e:(A.drop i).take k++A.drop (i+k)=A.drop i:=by rw[← zC,ip]
 have sD:(A.drop i).Pairwise le:=sA.sublist (wq _ _)
 rw[← e] at sD
 obtain ⟨s1,s2,s3⟩:=oz.mp sD
 refine ⟨?_,oz.mpr ⟨h.srt,s1,fun x hx y hy=>h.la x hx y (kQ hy)⟩,fun x hx y hy=>?_,fun x hx y hy=>?_⟩
 · rw[List.take_add,eS]
   refine (h.perm.append_right _).trans ?_
   rw[eS]
   exact kz.append_left _
 · rcases eJ.mp hx with hx | hx
   · exact h.la x hx y (by rw[← e];exact cy _ hy)
   · exact s3 x hx y hy
 · rcases eJ.mp hx with hx | hx
   · exact h.lb x hx y hy
   · exact hk x hx y hy
theorem Jn.fin {A B L:List α}{i j:Nat} (h:Jn le A B L i j) (sA:A.Pairwise le) (sB:B.Pairwise le) (hk:∀x∈A.drop i,∀y∈B.drop j,le x y) :
 (L++A.drop i++B.drop j).Perm (A++B)∧(L++A.drop i++B.drop j).Pairwise le:=by
 constructor
 · have h1:(L++A.drop i++B.drop j).Perm ((A.take i++B.take j)++A.drop i++B.drop j):=(h.perm.append_right _).append_right _
   refine h1.trans ?_
   have h2:(A++B)=(A.take i++A.drop i)++(B.take j++B.drop j):=by rw[ip,ip]
   rw[h2,eS,eS,eS]
   refine List.Perm.append_left _ ?_
   rw[← eS,← eS]
   exact kz.append_right _
 · refine oz.mpr ⟨oz.mpr ⟨h.srt,sA.sublist (wq _ _),h.la⟩,sB.sublist (wq _ _),fun x hx y hy=>?_⟩
   rcases eJ.mp hx with hx | hx
   · exact h.lb x hx y hy
   · exact hk x hx y hy
theorem Jn.first {A B:List α}{b:α} (hb:B[0]?=some b) (sB:B.Pairwise le) (hba:∀x∈A,le b x):Jn le A B [b] 0 1:=by
 cases B with
 | nil=>simp at hb
 | cons c B=>
  simp at hb
  subst hb
  refine ⟨by simp,by simp,fun x hx y hy=>?_,fun x hx y hy=>?_⟩
  · simp at hx;subst hx;exact hba y (by simpa using hy)
  · simp at hx;subst hx;exact (kH.mp sB).1 y (by simpa using hy)
end
noncomputable def setG:Nat→StateT eo Sem Unit:=sortPriv% PySem.Builtin.setMinGallop
noncomputable def mLo:Array fk→Array fk→StateT eo Sem (Array fk):=sortPriv% PySem.Builtin.mergeLo
noncomputable def mHi:Array fk→Array fk→StateT eo Sem (Array fk):=sortPriv% PySem.Builtin.mergeHi
theorem aad (a b:Array fk):mLo a b=(do
 rule "list.sort.merge-lo"
 let t:=a.size+b.size
 let e1 (o:Array fk) (i j:Nat):=o++a.extract i a.size++b.extract j b.size
 let e2 (o:Array fk) (i j:Nat):=o++b.extract j b.size++a.extract i a.size
 let mut o:Array fk:=#[← ng b 0]
 let mut i:=0
 let mut j:=1
 if j == b.size then return e1 o i j
 if i+1 == a.size then return e2 o i j
 let mut g:=gallopOf (← get)
 for _ in [0:t] do
  let mut p:=0
  let mut q:=0
  for _ in [0:t] do
   let some r ← lt' (← ng b j) (← ng a i) | return e1 o i j
   if r then
    o:=o.push (← ng b j);j:=j+1;q:=q+1;p:=0
    if j == b.size then return e1 o i j
    if q≥g then break
   else
    o:=o.push (← ng a i);i:=i+1;p:=p+1;q:=0
    if i+1 == a.size then return e2 o i j
    if p≥g then break
  rule "list.sort.gallop"
  g:=g+1
  for _ in [0:t] do
   if g > 1 then g:=g - 1
   setG g
   let some k ← gal false (← ng b j) a i (a.size - i) 0 | return e1 o i j
   p:=k
   if k > 0 then
    o:=o++a.extract i (i+k);i:=i+k
    if i+1 == a.size then return e2 o i j
    if i == a.size then return e1 o i j
   o:=o.push (← ng b j);j:=j+1
   if j == b.size then return e1 o i j
   let some k ← gal true (← ng a i) b j (b.size - j) 0 | return e1 o i j
   q:=k
   if k > 0 then
    o:=o++b.extract j (j+k);j:=j+k
    if j == b.size then return e1 o i j
   o:=o.push (← ng a i);i:=i+1
   if i+1 == a.size then return e2 o i j
   if p < 7&&q < 7 then break
  g:=g+1
  setG g
 unsupported "internal:list.sort.merge-bound"):=rfl
section
variable {prog:cc}{w:eK}{A:eI}{E:ag→ar→Prop}{s:ar}
theorem ud {st:eo}{g:Nat}{Q:Unit→eo→Prop} (h:Q () (eo.mk' (kindOf st) (bo st) (fi st) g (ly st))):wpS (cx prog w) A E s (setG g) Q st:=by
 show wpS _ _ _ _ (modify fun s=>eo.mk' (kindOf s) (bo s) (fi s) g (ly s)) _ _
 exact sf h
end
noncomputable def leK (p q:fk):Prop:=i8 p.1≤i8 q.1
noncomputable def Rs (a b r:Array fk):Prop:=r.toList.Perm (a.toList++b.toList)∧r.toList.Pairwise leK
noncomputable def Sg (st st':eo):Prop:=kindOf st'=kindOf st∧bo st'=bo st∧fi st'=fi st∧ly st'=ly st
theorem iz {a:Array fk}{i:Nat} (hi:i < a.size):K a i=i8 a[i].1:=by unfold K;rw[getElem?_pos a i hi]
theorem Seg.pw {a:Array fk} (h:Seg a 0 a.size):a.toList.Pairwise leK:=by
 rw[vF]
 intro i j hi hj hij
 have hi':i < a.size:=by simpa using hi
 have hj':j < a.size:=by simpa using hj
 have:=h i j (by omega) (by omega) hj'
 rw[iz hi',iz hj'] at this
 simpa[leK] using this
theorem Zm {a:Array fk} (h:a.toList.Pairwise leK):Seg a 0 a.size:=by
 intro i j _ hij hj
 by_cases e:i=j
 · subst e;exact iS _
 · rw[vF] at h
   have:=h i j (by simpa using (by omega:i < a.size)) (by simpa using hj) (by omega)
   rw[iz (by omega),iz hj]
   simpa[leK] using this
theorem qI {a:Array fk}{i:Nat}{y:fk} (h:y∈a.toList.drop i):∃x,i≤x∧x < a.size∧i8 y.1=K a x:=by
 obtain ⟨n,hn,rfl⟩:=i9.mp h
 have hn':i+n < a.size:=by simp at hn;omega
 refine ⟨i+n,by omega,hn',?_⟩
 rw[iz hn']
 simp
theorem qP {a:Array fk}{i k:Nat}{y:fk} (h:y∈(a.toList.drop i).take k):∃x,i≤x∧x < i+k∧x < a.size∧i8 y.1=K a x:=by
 obtain ⟨n,hn,rfl⟩:=i9.mp h
 have hn':n < k∧i+n < a.size:=by simp at hn;omega
 refine ⟨i+n,by omega,by omega,hn'.2,?_⟩
 rw[iz hn'.2]
 simp
section
variable {a b o:Array fk}{i j k:Nat}
theorem Fg (h:Jn leK a.toList b.toList o.toList i j) (sa:Seg a 0 a.size) (sb:Seg b 0 b.size) (hj:j < b.size) (hk:∀x,i≤x→x < i+k→K a x≤K b j):Jn leK a.toList b.toList (o++a.extract i (i+k)).toList (i+k) j:=by
 have e:(o++a.extract i (i+k)).toList=o.toList++(a.toList.drop i).take k:=by simp[fm]
 rw[e]
 refine h.step sa.pw fun x hx y hy=>?_
 obtain ⟨u,u1,u2,u3,u4⟩:=qP hx
 obtain ⟨v,v1,v2,v3⟩:=qI hy
 unfold leK
 rw[u4,v3]
 exact hY (hk u u1 u2) (sb j v (iE _) v1 v2)
theorem Zy (h:Jn leK a.toList b.toList o.toList i j) (sa:Seg a 0 a.size) (sb:Seg b 0 b.size) (hi:i < a.size) (hk:∀x,j≤x→x < j+k→K b x≤K a i):Jn leK a.toList b.toList (o++b.extract j (j+k)).toList i (j+k):=
 (Fg h.swap sb sa hi hk).swap
theorem Rt {i:Nat} (hi:i < a.size):o.push a[i]=o++a.extract i (i+1):=by
 apply si.mp
 simp[fm,iN,hi]
theorem Ha (h:Jn leK a.toList b.toList o.toList i j) (sa:Seg a 0 a.size) (sb:Seg b 0 b.size) (hj:j < b.size) (hi:i < a.size) (hk:K a i≤K b j):Jn leK a.toList b.toList (o.push a[i]).toList (i+1) j:=by
 rw[Rt hi]
 exact Fg h sa sb hj fun x h1 h2=>by rw[show x=i by omega];exact hk
theorem MT (h:Jn leK a.toList b.toList o.toList i j) (sa:Seg a 0 a.size) (sb:Seg b 0 b.size) (hi:i < a.size) (hj:j < b.size) (hk:K b j≤K a i):Jn leK a.toList b.toList (o.push b[j]).toList i (j+1):=
 (Ha h.swap sb sa hi hj hk).swap
theorem zm (h:Jn leK a.toList b.toList o.toList i j) (sa:Seg a 0 a.size) (sb:Seg b 0 b.size) (he:i=a.size∨j=b.size):Rs a b (o++a.extract i a.size++b.extract j b.size):=by
 have e:(o++a.extract i a.size++b.extract j b.size).toList=o.toList++a.toList.drop i++b.toList.drop j:=by
  simp[fm,g6]
 unfold Rs
 rw[e]
 refine h.fin sa.pw sb.pw fun x hx y hy=>?_
 rcases he with rfl | rfl
 · rw[nN (by simp)] at hx;cases hx
 · rw[nN (by simp)] at hy;cases hy
theorem Eg (h:Jn leK a.toList b.toList o.toList i j) (sa:Seg a 0 a.size) (sb:Seg b 0 b.size) (he:i+1=a.size) (hl:∀x,x < b.size→K b x≤K a (a.size - 1)):Rs a b (o++b.extract j b.size++a.extract i a.size):=by
 have e:(o++b.extract j b.size++a.extract i a.size).toList=o.toList++b.toList.drop j++a.toList.drop i:=by
  simp[fm,g6]
 unfold Rs
 rw[e]
 have f:=h.swap.fin sb.pw sa.pw fun x hx y hy=>by
  obtain ⟨u,u1,u2,u3⟩:=qI hx
  obtain ⟨v,v1,v2,v3⟩:=qI hy
  unfold leK
  rw[u3,v3,show v=a.size - 1 by omega]
  exact hl u u2
 exact ⟨f.1.trans kz,f.2⟩
end
theorem xJ {x y:Int}:byd true x y=true↔y < x:=by simp[byd]
theorem yP {x y:Int}:byd false x y=true↔y≤x:=by simp[byd]
theorem wF {x y:Int}:byd true x y=false↔x≤y:=by simp[byd]
theorem zU {x y:Int}:byd false x y=false↔x < y:=by simp[byd]
theorem Seg.sub {a:Array fk}{lo hi lo' hi':Nat} (h:Seg a lo hi) (h1:lo≤lo') (h2:hi'≤hi):Seg a lo' hi':=fun i j q1 q2 q3=>h i j (by omega) q2 (by omega)
section
variable {prog:cc}{w:eK}{A:eI}{E:ag→ar→Prop}{s:ar}
theorem Uo {β:Type}{c:Prop} [Decidable c] {g1 g2:Nat}{R:Nat→StateT eo Sem β}{Q:β→eo→Prop}{st:eo} (h:∀g,wpS (cx prog w) A E s (setG g >>= fun _=>R g) Q st) :
 wpS (cx prog w) A E s (if c then setG g1 >>= fun _=>R g1 else setG g2 >>= fun _=>R g2) Q st:=by
 split
 · exact h g1
 · exact h g2
theorem zR {β:Type}{m m':StateT eo Sem β}{Q:β→eo→Prop}{st:eo} (e:m=m') (h:wpS (cx prog w) A E s m Q st):wpS (cx prog w) A E s m' Q st:=e ▸ h
noncomputable abbrev LoT:=Option (Array fk)×Array fk×Nat×Nat×Nat×Nat×Nat
noncomputable def loC (a b o:Array fk) (i j g p q:Nat):StateT eo Sem (ForInStep LoT):=do
 let y ← ng a i
 if (i+1+1 == a.size)=true then pure (.done (some (o.push y++b.extract j b.size++a.extract (i+1) a.size),o.push y,i+1,j,g,p,q))
 else if (decide (p < 7)&&decide (q < 7))=true then pure (.done (none,o.push y,i+1,j,g,p,q))
 else pure (.yield (none,o.push y,i+1,j,g,p,q))
noncomputable def loB (a b o:Array fk) (i j g p q:Nat):StateT eo Sem (ForInStep LoT):=do
 let x ← ng b j
 if (j+1 == b.size)=true then pure (.done (some (o.push x++a.extract i a.size++b.extract (j+1) b.size),o.push x,i,j+1,g,p,q))
 else do
  let y ← ng a i
  let z ← gal true y b (j+1) (b.size - (j+1)) 0
  match z with
  | some k=>
   if k > 0 then
    if (j+1+k == b.size)=true then pure (.done (some (o.push x++b.extract (j+1) (j+1+k)++a.extract i a.size++b.extract (j+1+k) b.size),o.push x++b.extract (j+1) (j+1+k),i,j+1+k,g,p,k))
    else loC a b (o.push x++b.extract (j+1) (j+1+k)) i (j+1+k) g p k
   else loC a b (o.push x) i (j+1) g p k
  | _=>pure (.done (some (o.push x++a.extract i a.size++b.extract (j+1) b.size),o.push x,i,j+1,g,p,q))
theorem Jl {st:eo}{a b o:Array fk}{i j g p q X:Nat}{Q:ForInStep LoT→eo→Prop} (sa:Seg a 0 a.size) (sb:Seg b 0 b.size) (hl:∀x,x < b.size→K b x≤K a (a.size - 1))
 (J:Jn leK a.toList b.toList o.toList i j) (h1:i+1 < a.size) (h2:j < b.size) (h3:X≤i+j) (hk:K a i≤K b j) (hd:∀r o i j g p q,Rs a b r→Q (.done (some r,o,i,j,g,p,q)) st)
 (hx:∀o i j g p q,Jn leK a.toList b.toList o.toList i j→i+1 < a.size→j < b.size→X≤i+j→Q (.done (none,o,i,j,g,p,q)) st∧Q (.yield (none,o,i,j,g,p,q)) st) :
 wpS (cx prog w) A E s (loC a b o i j g p q) Q st:=by
 unfold loC
 refine bt (cU (wx h1) ?_)
 have J5:=Ha J sa sb h2 (wx h1) hk
 by_cases c5:i+1+1=a.size
 · rw[if_pos (by simpa using c5)]
   exact cq (hd _ _ _ _ _ _ _ (Eg J5 sa sb c5 hl))
 · rw[if_neg (by simpa using c5)]
   have z:=hx (o.push a[i]) (i+1) j g p q J5 (Nat.lt_of_le_of_ne h1 c5) h2 (by omega)
   split
   · exact cq z.1
   · exact cq z.2
theorem JG {st:eo}{a b o:Array fk}{i j g p q X:Nat}{Q:ForInStep LoT→eo→Prop} (hkd:kindOf st=pT) (ka:IntKeys a) (kb:IntKeys b) (sa:Seg a 0 a.size) (sb:Seg b 0 b.size) (hl:∀x,x < b.size→K b x≤K a (a.size - 1))
 (J:Jn leK a.toList b.toList o.toList i j) (h1:i+1 < a.size) (h2:j < b.size) (h3:X≤i+j) (hk:K b j≤K a i) (hd:∀r o i j g p q,Rs a b r→Q (.done (some r,o,i,j,g,p,q)) st)
 (hx:∀o i j g p q,Jn leK a.toList b.toList o.toList i j→i+1 < a.size→j < b.size→X≤i+j→Q (.done (none,o,i,j,g,p,q)) st∧Q (.yield (none,o,i,j,g,p,q)) st) :
 wpS (cx prog w) A E s (loB a b o i j g p q) Q st:=by
 unfold loB
 have hi:=wx h1
 refine bt (cU h2 ?_)
 have J3:=MT J sa sb hi h2 hk
 by_cases c3:j+1=b.size
 · rw[if_pos (by simpa using c3)]
   exact cq (hd _ _ _ _ _ _ _ (zm J3 sa sb (.inr c3)))
 · rw[if_neg (by simpa using c3)]
   have h2':j+1 < b.size:=Nat.lt_of_le_of_ne h2 c3
   refine bt (cU hi ?_)
   refine bt (o9 hkd (ka _ (by simp)) kb (by omega) (by omega) (sb.sub (iE _) (by omega)) fun k' w1 w2 w3=>?_)
   dsimp only
   rw[← iz hi] at w2 w3
   have J4':=Zy (k:=k') J3 sa sb hi (fun x q1 q2=>by have:=xJ.mp (w2 (x - (j+1)) (by omega));rw[show j+1+(x - (j+1))=x by omega] at this;omega)
   split
   · by_cases c6:j+1+k'=b.size
     · rw[if_pos (by simpa using c6)]
       exact cq (hd _ _ _ _ _ _ _ (zm J4' sa sb (.inr c6)))
     · rw[if_neg (by simpa using c6)]
       exact Jl sa sb hl J4' h1 (by omega) (by omega) (wF.mp (w3 k' (aE _) (by omega))) hd hx
   · exact Jl sa sb hl J3 h1 h2' (by omega) (wF.mp (w3 0 (by omega) (by omega))) hd hx
theorem Wr {st:eo}{a b:Array fk}{Q:Array fk→eo→Prop} (hk:kindOf st=pT) (ka:IntKeys a) (kb:IntKeys b) (sa:Seg a 0 a.size) (sb:Seg b 0 b.size)
 (ha:1≤a.size) (hb:1≤b.size) (hba:K b 0≤K a 0) (hl:∀x,x < b.size→K b x≤K a (a.size - 1)) (h:∀r st',Sg st st'→Rs a b r→Q r st'):wpS (cx prog w) A E s (mLo a b) Q st:=by
 rw[aad]
 dsimp only
 refine bt (xE (nL ⟨rfl,?_⟩))
 refine bt (cU (by omega) ?_)
 have J0:Jn leK a.toList b.toList (#[b[0]]:Array fk).toList 0 1:=by
  refine Jn.first (b:=b[0]) ?_ sb.pw fun x hx=>?_
  · simp
  · obtain ⟨u,u1,u2,u3⟩:=qI (i:=0) (by simpa using hx)
    unfold leK
    rw[u3,← iz (by omega)]
    exact hY hba (sa 0 u (by omega) (by omega) u2)
 have S0:Sg st st:=⟨rfl,rfl,rfl,rfl⟩
 by_cases c1:1=b.size
 · rw[if_pos (by simpa using c1)]
   exact cq (h _ _ S0 (zm J0 sa sb (.inr c1)))
 rw[if_neg (by simpa using c1)]
 by_cases c2:0+1=a.size
 · rw[if_pos (by simpa using c2)]
   exact cq (h _ _ S0 (Eg J0 sa sb c2 hl))
 rw[if_neg (by simpa using c2)]
 refine bt (wo ?_)
 refine bt (nh (ib (I:=fun x c b'=>Sg st b'∧∃o i j g,c=(none,o,i,j,g)∧Jn leK a.toList b.toList o.toList i j∧i+1 < a.size∧j < b.size∧x+1≤i+j)
  (Q:=fun c b'=>Sg st b'∧∃r o i j g,c=(some r,o,i,j,g)∧Rs a b r) ?step ?fin ⟨S0,_,_,_,_,rfl,J0,by omega,by omega,by omega⟩) ?post)
 case post=>
  rintro c b' ⟨S1,r,o,i,j,g,rfl,hr⟩
  exact cq (h _ _ S1 hr)
 case fin=>
  rintro c b' ⟨S1,o,i,j,g,rfl,J,q1,q2,q3⟩
  omega
 case step=>
  rintro x c b' _ hx ⟨S1,o,i,j,g,rfl,J,q1,q2,q3⟩
  dsimp only
  refine bt (nh (ib (I:=fun y c b'=>Sg st b'∧∃o i j p q,c=(none,o,i,j,p,q)∧Jn leK a.toList b.toList o.toList i j∧i+1 < a.size∧j < b.size∧x+1+y≤i+j)
   (Q:=fun c b'=>Sg st b'∧((∃o i j p q,c=(none,o,i,j,p,q)∧Jn leK a.toList b.toList o.toList i j∧i+1 < a.size∧j < b.size∧x+2≤i+j)∨∃r o i j p q,c=(some r,o,i,j,p,q)∧Rs a b r)) ?step1 ?Rr ⟨S1,_,_,_,_,_,rfl,J,by omega,by omega,by omega⟩) ?Mf)
  case Rr=>
   rintro c b' ⟨S2,o,i,j,p,q,rfl,J,q1,q2,q3⟩
   exact ⟨S2,.inl ⟨_,_,_,_,_,rfl,J,q1,q2,by omega⟩⟩
  case step1=>
   rintro y c b' _ hy ⟨S2,o,i,j,p,q,rfl,J,q1,q2,q3⟩
   dsimp only
   refine bt (cU (by omega) ?_)
   refine bt (cU (by omega) ?_)
   refine bt (wV (S2.1.trans hk) (kb _ (by simp)) (ka _ (by simp)) ?_)
   rw[← iz (by omega),← iz (by omega)]
   dsimp only
   by_cases c3:K b j < K a i
   · rw[if_pos (by simpa using c3)]
     refine bt (cU (by omega) ?_)
     have J2:=MT J sa sb (by omega) (by omega) (fI c3)
     by_cases c4:j+1=b.size
     · rw[if_pos (by simpa using c4)]
       exact cq ⟨S2,.inr ⟨_,_,_,_,_,_,rfl,zm J2 sa sb (.inr c4)⟩⟩
     · rw[if_neg (by simpa using c4)]
       split
       · exact cq ⟨S2,.inl ⟨_,_,_,_,_,rfl,J2,by omega,by omega,by omega⟩⟩
       · exact cq ⟨S2,_,_,_,_,_,rfl,J2,by omega,by omega,by omega⟩
   · rw[if_neg (by simpa using c3)]
     refine bt (cU (by omega) ?_)
     have J2:=Ha J sa sb (by omega) (by omega) (y8.mp c3)
     by_cases c4:i+1+1=a.size
     · rw[if_pos (by simpa using c4)]
       exact cq ⟨S2,.inr ⟨_,_,_,_,_,_,rfl,Eg J2 sa sb c4 hl⟩⟩
     · rw[if_neg (by simpa using c4)]
       split
       · exact cq ⟨S2,.inl ⟨_,_,_,_,_,rfl,J2,by omega,by omega,by omega⟩⟩
       · exact cq ⟨S2,_,_,_,_,_,rfl,J2,by omega,by omega,by omega⟩
  case Mf=>
   rintro c b' ⟨S2,⟨o,i,j,p,q,rfl,J,q1,q2,q3⟩ | ⟨r,o,i,j,p,q,rfl,hr⟩⟩
   rotate_left
   · exact cq ⟨S2,_,_,_,_,_,rfl,hr⟩
   dsimp only
   refine bt (xE (nL ⟨rfl,?_⟩))
   refine bt (nh (ib (I:=fun y c b'=>Sg st b'∧∃o i j g p q,c=(none,o,i,j,g,p,q)∧Jn leK a.toList b.toList o.toList i j∧i+1 < a.size∧j < b.size∧x+2≤i+j)
    (Q:=fun c b'=>Sg st b'∧((∃o i j g p q,c=(none,o,i,j,g,p,q)∧Jn leK a.toList b.toList o.toList i j∧i+1 < a.size∧j < b.size∧x+2≤i+j)∨∃r o i j g p q,c=(some r,o,i,j,g,p,q)∧Rs a b r)) ?KH ?fin2 ⟨S2,_,_,_,_,_,_,rfl,J,by omega,by omega,by omega⟩) ?post2)
   case fin2=>
    rintro c b' ⟨S2,o,i,j,g,p,q,rfl,J,q1,q2,q3⟩
    exact ⟨S2,.inl ⟨_,_,_,_,_,_,rfl,J,q1,q2,q3⟩⟩
   case post2=>
    rintro c b' ⟨S2,⟨o,i,j,g,p,q,rfl,J,q1,q2,q3⟩ | ⟨r,o,i,j,g,p,q,rfl,hr⟩⟩
    · exact bt (ud (cq ⟨S2,_,_,_,_,rfl,J,by omega,by omega,by omega⟩))
    · exact cq ⟨S2,_,_,_,_,_,rfl,hr⟩
   case KH=>
    rintro y c b' _ hy ⟨S2',o,i,j,g,p,q,rfl,J,q1,q2,q3⟩
    dsimp only
    generalize hg1:g - 1=g1
    apply Uo
    intro g'
    refine bt (ud ?_)
    have S2:Sg st (eo.mk' (kindOf b') (bo b') (fi b') g' (ly b')):=S2'
    refine bt (cU (by omega) ?_)
    refine bt (o9 (S2.1.trans hk) (kb _ (by simp)) ka (by omega) (by omega) (sa.sub (by omega) (by omega)) fun k v1 v2 v3=>?_)
    dsimp only
    rw[← iz (by omega)] at v2 v3
    have J2':=Fg (k:=k) J sa sb (by omega) (fun x h1 h2=>by have:=yP.mp (v2 (x - i) (by omega));rw[show i+(x - i)=x by omega] at this;omega)
    by_cases c1:k > 0
    · rw[if_pos c1]
      by_cases c2:i+k+1=a.size
      · rw[if_pos (by simpa using c2)]
        exact cq ⟨S2,.inr ⟨_,_,_,_,_,_,_,rfl,Eg J2' sa sb c2 hl⟩⟩
      · rw[if_neg (by simpa using c2)]
        by_cases c7:i+k=a.size
        · rw[if_pos (by simpa using c7)]
          exact cq ⟨S2,.inr ⟨_,_,_,_,_,_,_,rfl,zm J2' sa sb (.inl c7)⟩⟩
        · rw[if_neg (by simpa using c7)]
          refine zR (m:=loB a b (o++a.extract i (i+k)) (i+k) j g' k q) (by kernel_rfl) (JG (X:=x+2) (S2.1.trans hk) ka kb sa sb hl J2' (by omega) q2 (by omega) (fI (zU.mp (v3 k (aE _) (by omega)))) (fun r _ _ _ _ _ _ hr=>⟨S2,.inr ⟨_,_,_,_,_,_,_,rfl,hr⟩⟩) fun o i j g p q z1 z2 z3 z4=>⟨⟨S2,.inl ⟨_,_,_,_,_,_,rfl,z1,z2,z3,z4⟩⟩,S2,_,_,_,_,_,_,rfl,z1,z2,z3,z4⟩)
    · rw[if_neg c1]
      refine zR (m:=loB a b o i j g' k q) (by kernel_rfl) (JG (X:=x+2) (S2.1.trans hk) ka kb sa sb hl J q1 q2 q3 (fI (zU.mp (v3 0 (by omega) (by omega)))) (fun r _ _ _ _ _ _ hr=>⟨S2,.inr ⟨_,_,_,_,_,_,_,rfl,hr⟩⟩) fun o i j g p q z1 z2 z3 z4=>⟨⟨S2,.inl ⟨_,_,_,_,_,_,rfl,z1,z2,z3,z4⟩⟩,S2,_,_,_,_,_,_,rfl,z1,z2,z3,z4⟩)
end
theorem Xf (a b:Array fk):mHi a b=(do
 rule "list.sort.merge-hi"
 let t:=a.size+b.size
 let e1 (o:Array fk) (i j:Nat):=a.extract 0 i++b.extract 0 j++o.reverse
 let e2 (o:Array fk) (i j:Nat):=b.extract 0 j++a.extract 0 i++o.reverse
 let mut i:=a.size - 1
 let mut j:=b.size
 let mut o:Array fk:=#[← ng a i]
 if i == 0 then return e1 o i j
 if j == 1 then return e2 o i j
 let mut g:=gallopOf (← get)
 for _ in [0:t] do
  let mut p:=0
  let mut q:=0
  for _ in [0:t] do
   let some r ← lt' (← ng b (j - 1)) (← ng a (i - 1)) | return e1 o i j
   if r then
    i:=i - 1;o:=o.push (← ng a i);p:=p+1;q:=0
    if i == 0 then return e1 o i j
    if p≥g then break
   else
    j:=j - 1;o:=o.push (← ng b j);q:=q+1;p:=0
    if j == 1 then return e2 o i j
    if q≥g then break
  rule "list.sort.gallop"
  g:=g+1
  for _ in [0:t] do
   if g > 1 then g:=g - 1
   setG g
   let some z ← gal false (← ng b (j - 1)) a 0 i (i - 1) | return e1 o i j
   let k:=i - z
   p:=k
   if k > 0 then
    o:=o++(a.extract z i).reverse;i:=z
    if i == 0 then return e1 o i j
   j:=j - 1;o:=o.push (← ng b j)
   if j == 1 then return e2 o i j
   let some z ← gal true (← ng a (i - 1)) b 0 j (j - 1) | return e1 o i j
   let k:=j - z
   q:=k
   if k > 0 then
    o:=o++(b.extract z j).reverse;j:=z
    if j == 1 then return e2 o i j
    if j == 0 then return e1 o i j
   i:=i - 1;o:=o.push (← ng a i)
   if i == 0 then return e1 o i j
   if p < 7&&q < 7 then break
  g:=g+1
  setG g
 unsupported "internal:list.sort.merge-bound"):=rfl
noncomputable def geK (p q:fk):Prop:=leK q p
noncomputable def Jh (a b o:Array fk) (i j:Nat):Prop:=Jn geK a.toList.reverse b.toList.reverse o.toList (a.size - i) (b.size - j)
theorem Seg.wp {a:Array fk} (h:Seg a 0 a.size):a.toList.reverse.Pairwise geK:=List.pairwise_reverse.mpr h.pw
theorem mZ {a:Array fk}{i:Nat} (hi:i≤a.size):a.toList.reverse.drop (a.size - i)=(a.toList.take i).reverse:=by
 rw[List.drop_reverse]
 congr 2
 simp
 omega
theorem Gn {a:Array fk}{i z:Nat} (hi:i≤a.size) (hz:z≤i):(a.toList.reverse.drop (a.size - i)).take (i - z)=(a.extract z i).reverse.toList:=by
 rw[mZ hi,List.take_reverse,Array.toList_reverse,oB]
 congr 1
 have e:(a.toList.take i).length - (i - z)=z:=by simp;omega
 rw[e,fm,List.drop_take]
theorem wL {a:Array fk}{i:Nat}{y:fk} (h:y∈(a.toList.take i).reverse):∃x,x < i∧x < a.size∧i8 y.1=K a x:=by
 obtain ⟨x,_,h1,h2,h3⟩:=qP (i:=0) (k:=i) (by simpa using h)
 exact ⟨x,by omega,h2,h3⟩
section
variable {a b o:Array fk}{i j z:Nat}
theorem GK (h:Jh a b o i j) (sa:Seg a 0 a.size) (sb:Seg b 0 b.size) (hi:i≤a.size) (hj:j≤b.size) (hj1:1≤j) (hz:z≤i) (hk:∀x,z≤x→x < i→K b (j - 1)≤K a x):Jh a b (o++(a.extract z i).reverse) z j:=by
 have e:(o++(a.extract z i).reverse).toList=o.toList++(a.toList.reverse.drop (a.size - i)).take (i - z):=by rw[Gn hi hz];simp
 unfold Jh
 rw[e,show a.size - z=a.size - i+(i - z) by omega]
 refine Jn.step h sa.wp fun x hx y hy=>?_
 rw[Gn hi hz] at hx
 rw[mZ hj] at hy
 obtain ⟨u,u1,u2,u3,u4⟩:=qP (a:=a) (i:=z) (k:=i - z) (y:=x) (by simpa[fm] using hx)
 obtain ⟨v,v1,v2,v3⟩:=wL hy
 unfold geK leK
 rw[u4,v3]
 exact hY (sb v (j - 1) (iE _) (by omega) (by omega)) (hk u u1 (by omega))
theorem Jh.swap (h:Jh a b o i j):Jh b a o j i:=Jn.swap h
theorem Zg (h:Jh a b o i j) (sa:Seg a 0 a.size) (sb:Seg b 0 b.size) (hi:i≤a.size) (hj:j≤b.size) (hi1:1≤i) (hz:z≤j) (hk:∀x,z≤x→x < j→K a (i - 1)≤K b x):Jh a b (o++(b.extract z j).reverse) i z:=
 (GK h.swap sb sa hj hi hi1 hz hk).swap
theorem RW (hi:i < a.size):o.push a[i]=o++(a.extract i (i+1)).reverse:=by
 apply si.mp
 simp[fm,iN,hi]
theorem zH (h:Jh a b o i j) (sa:Seg a 0 a.size) (sb:Seg b 0 b.size) (hi:i≤a.size) (hj:j≤b.size) (hj1:1≤j) (hi1:1≤i) (hp:i - 1 < a.size) (hk:K b (j - 1)≤K a (i - 1)):Jh a b (o.push a[i - 1]) (i - 1) j:=by
 rw[RW hp,show i - 1+1=i by omega]
 exact GK h sa sb hi hj hj1 (by omega) fun x h1 h2=>by rw[show x=i - 1 by omega];exact hk
theorem Nx (h:Jh a b o i j) (sa:Seg a 0 a.size) (sb:Seg b 0 b.size) (hi:i≤a.size) (hj:j≤b.size) (hi1:1≤i) (hj1:1≤j) (hp:j - 1 < b.size) (hk:K a (i - 1)≤K b (j - 1)):Jh a b (o.push b[j - 1]) i (j - 1):=
 (zH h.swap sb sa hj hi hi1 hj1 hp hk).swap
theorem hfin (h:Jh a b o i j) (sa:Seg a 0 a.size) (sb:Seg b 0 b.size) (hi:i≤a.size) (hj:j≤b.size) (hk:∀x y,x < i→y < j→K a x≤K b y):Rs a b (a.extract 0 i++b.extract 0 j++o.reverse):=by
 have f:=Jn.fin h.swap sb.wp sa.wp fun x hx y hy=>by
  rw[mZ hj] at hx
  rw[mZ hi] at hy
  obtain ⟨u,u1,u2,u3⟩:=wL hx
  obtain ⟨v,v1,v2,v3⟩:=wL hy
  unfold geK leK
  rw[u3,v3]
  exact hk v u v1 u1
 rw[mZ hj,mZ hi] at f
 have e:(a.extract 0 i++b.extract 0 j++o.reverse).toList=(o.toList++(b.toList.take j).reverse++(a.toList.take i).reverse).reverse:=by
  simp[fm]
 unfold Rs
 rw[e]
 refine ⟨(w9 _).trans (f.1.trans ?_),List.pairwise_reverse.mpr f.2⟩
 exact ((w9 _).append (w9 _)).trans kz
theorem yQ (h:Jh a b o i j) (sa:Seg a 0 a.size) (sb:Seg b 0 b.size) (hi:i≤a.size) (hj:j≤b.size) (he:i=0∨j=0):Rs a b (a.extract 0 i++b.extract 0 j++o.reverse):=
 hfin h sa sb hi hj fun x y hx hy=>by omega
theorem Rs.swap {r:Array fk} (h:Rs b a r):Rs a b r:=⟨h.1.trans kz,h.2⟩
theorem Ef (h:Jh a b o i j) (sa:Seg a 0 a.size) (sb:Seg b 0 b.size) (hi:i≤a.size) (hj:j≤b.size) (he:j=1) (hba:∀x,x < a.size→K b 0≤K a x):Rs a b (b.extract 0 j++a.extract 0 i++o.reverse):=
 (hfin h.swap sb sa hj hi fun x y hx hy=>by rw[show x=0 by omega];exact hba y (by omega)).swap
end
section
variable {prog:cc}{w:eK}{A:eI}{E:ag→ar→Prop}{s:ar}
noncomputable abbrev HiT:=Option (Array fk)×Nat×Nat×Array fk×Nat×Nat×Nat
noncomputable def hiC (a b o:Array fk) (i j g p q:Nat):StateT eo Sem (ForInStep HiT):=do
 let y ← ng a (i - 1)
 if (i - 1 == 0)=true then pure (.done (some (a.extract 0 (i - 1)++b.extract 0 j++(o.push y).reverse),i - 1,j,o.push y,g,p,q))
 else if (decide (p < 7)&&decide (q < 7))=true then pure (.done (none,i - 1,j,o.push y,g,p,q))
 else pure (.yield (none,i - 1,j,o.push y,g,p,q))
noncomputable def hiB (a b o:Array fk) (i j g p q:Nat):StateT eo Sem (ForInStep HiT):=do
 let x ← ng b (j - 1)
 if (j - 1 == 1)=true then pure (.done (some (b.extract 0 (j - 1)++a.extract 0 i++(o.push x).reverse),i,j - 1,o.push x,g,p,q))
 else do
  let y ← ng a (i - 1)
  let z ← gal true y b 0 (j - 1) (j - 1 - 1)
  match z with
  | some z=>
   if j - 1 - z > 0 then
    if (z == 1)=true then pure (.done (some (b.extract 0 z++a.extract 0 i++(o.push x++(b.extract z (j - 1)).reverse).reverse),i,z,o.push x++(b.extract z (j - 1)).reverse,g,p,j - 1 - z))
    else if (z == 0)=true then pure (.done (some (a.extract 0 i++b.extract 0 z++(o.push x++(b.extract z (j - 1)).reverse).reverse),i,z,o.push x++(b.extract z (j - 1)).reverse,g,p,j - 1 - z))
    else hiC a b (o.push x++(b.extract z (j - 1)).reverse) i z g p (j - 1 - z)
   else hiC a b (o.push x) i (j - 1) g p (j - 1 - z)
  | _=>pure (.done (some (a.extract 0 i++b.extract 0 (j - 1)++(o.push x).reverse),i,j - 1,o.push x,g,p,q))
theorem JC {st:eo}{a b o:Array fk}{i j g p q X:Nat}{Q:ForInStep HiT→eo→Prop} (sa:Seg a 0 a.size) (sb:Seg b 0 b.size)
 (J:Jh a b o i j) (h1:1≤i) (h2:i≤a.size) (h3:2≤j) (h4:j≤b.size) (h5:X+i+j≤a.size+b.size) (hk:K b (j - 1)≤K a (i - 1)) (hd:∀r i j o g p q,Rs a b r→Q (.done (some r,i,j,o,g,p,q)) st)
 (hx:∀i j o g p q,Jh a b o i j→1≤i→i≤a.size→2≤j→j≤b.size→X+i+j≤a.size+b.size→Q (.done (none,i,j,o,g,p,q)) st∧Q (.yield (none,i,j,o,g,p,q)) st) :
 wpS (cx prog w) A E s (hiC a b o i j g p q) Q st:=by
 unfold hiC
 have hi:i - 1 < a.size:=by omega
 refine bt (cU hi ?_)
 have J5:=zH J sa sb h2 h4 (Nat.le_of_succ_le h3) h1 hi hk
 by_cases c5:i - 1=0
 · rw[if_pos (by simpa using c5)]
   exact cq (hd _ _ _ _ _ _ _ (yQ J5 sa sb (gy hi) h4 (.inl c5)))
 · rw[if_neg (by simpa using c5)]
   have z:=hx (i - 1) j (o.push a[i - 1]) g p q J5 (Nat.pos_of_ne_zero c5) (gy hi) h3 h4 (by omega)
   split
   · exact cq z.1
   · exact cq z.2
theorem JN {st:eo}{a b o:Array fk}{i j g p q X:Nat}{Q:ForInStep HiT→eo→Prop} (hkd:kindOf st=pT) (ka:IntKeys a) (kb:IntKeys b) (sa:Seg a 0 a.size) (sb:Seg b 0 b.size) (hba:∀x,x < a.size→K b 0≤K a x)
 (J:Jh a b o i j) (h1:1≤i) (h2:i≤a.size) (h3:2≤j) (h4:j≤b.size) (h5:X+i+j≤a.size+b.size) (hk:K a (i - 1)≤K b (j - 1)) (hd:∀r i j o g p q,Rs a b r→Q (.done (some r,i,j,o,g,p,q)) st)
 (hx:∀i j o g p q,Jh a b o i j→1≤i→i≤a.size→2≤j→j≤b.size→X+i+j≤a.size+b.size→Q (.done (none,i,j,o,g,p,q)) st∧Q (.yield (none,i,j,o,g,p,q)) st) :
 wpS (cx prog w) A E s (hiB a b o i j g p q) Q st:=by
 unfold hiB
 have hi:i - 1 < a.size:=by omega
 have hj:j - 1 < b.size:=by omega
 refine bt (cU hj ?_)
 have J3:=Nx J sa sb h2 h4 h1 (Nat.le_of_succ_le h3) hj hk
 by_cases c3:j - 1=1
 · rw[if_pos (by simpa using c3)]
   exact cq (hd _ _ _ _ _ _ _ (Ef J3 sa sb h2 (gy hj) c3 hba))
 · rw[if_neg (by simpa using c3)]
   refine bt (cU hi ?_)
   refine bt (o9 hkd (ka _ (by simp)) kb (by omega) (by omega) (sb.sub (aE _) (by omega)) fun z' w1 w2 w3=>?_)
   dsimp only
   rw[← iz hi] at w2 w3
   simp only[y9] at w2 w3
   have J4':=Zg (z:=z') J3 sa sb h2 (gy hj) h1 w1 (fun x h1 h2=>wF.mp (w3 x h1 h2))
   split
   · by_cases c6:z'=1
     · rw[if_pos (by simpa using c6)]
       exact cq (hd _ _ _ _ _ _ _ (Ef J4' sa sb h2 (by omega) c6 hba))
     · rw[if_neg (by simpa using c6)]
       by_cases c8:z'=0
       · rw[if_pos (by simpa using c8)]
         exact cq (hd _ _ _ _ _ _ _ (yQ J4' sa sb h2 (by omega) (.inr c8)))
       · rw[if_neg (by simpa using c8)]
         exact JC sa sb J4' h1 h2 (by omega) (by omega) (by omega) (fI (xJ.mp (w2 (z' - 1) (by omega)))) hd hx
   · exact JC sa sb J3 h1 h2 (by omega) (by omega) (by omega) (fI (xJ.mp (w2 (j - 1 - 1) (by omega)))) hd hx
theorem Us {st:eo}{a b:Array fk}{Q:Array fk→eo→Prop} (hk:kindOf st=pT) (ka:IntKeys a) (kb:IntKeys b) (sa:Seg a 0 a.size) (sb:Seg b 0 b.size)
 (ha:1≤a.size) (hb:1≤b.size) (hba:∀x,x < a.size→K b 0≤K a x) (hl:K b (b.size - 1)≤K a (a.size - 1)) (h:∀r st',Sg st st'→Rs a b r→Q r st'):wpS (cx prog w) A E s (mHi a b) Q st:=by
 rw[Xf]
 dsimp only
 refine bt (xE (nL ⟨rfl,?_⟩))
 refine bt (cU (by omega) ?_)
 have J0:Jh a b #[a[a.size - 1]] (a.size - 1) b.size:=by
  have z:Jh a b #[] a.size b.size:=by
   unfold Jh
   exact ⟨by simp,by simp,fun x hx=>by simp at hx,fun x hx=>by simp at hx⟩
  have:=zH z sa sb (aE _) (aE _) hb ha (by omega) hl
  simpa using this
 have S0:Sg st st:=⟨rfl,rfl,rfl,rfl⟩
 by_cases c1:a.size - 1=0
 · rw[if_pos (by simpa using c1)]
   exact cq (h _ _ S0 (yQ J0 sa sb (by omega) (by omega) (.inl c1)))
 rw[if_neg (by simpa using c1)]
 by_cases c2:b.size=1
 · rw[if_pos (by simpa using c2)]
   exact cq (h _ _ S0 (Ef J0 sa sb (by omega) (by omega) c2 hba))
 rw[if_neg (by simpa using c2)]
 refine bt (wo ?_)
 refine bt (nh (ib (I:=fun x c b'=>Sg st b'∧∃i j o g,c=(none,i,j,o,g)∧Jh a b o i j∧1≤i∧i≤a.size∧2≤j∧j≤b.size∧x+1+i+j≤a.size+b.size)
  (Q:=fun c b'=>Sg st b'∧∃r i j o g,c=(some r,i,j,o,g)∧Rs a b r) ?step ?fin ⟨S0,_,_,_,_,rfl,J0,by omega,by omega,by omega,by omega,by omega⟩) ?post)
 case post=>
  rintro c b' ⟨S1,r,i,j,o,g,rfl,hr⟩
  exact cq (h _ _ S1 hr)
 case fin=>
  rintro c b' ⟨S1,i,j,o,g,rfl,J,q1,q2,q3,q4,q5⟩
  omega
 case step=>
  rintro x c b' _ hx ⟨S1,i,j,o,g,rfl,J,q1,q2,q3,q4,q5⟩
  dsimp only
  refine bt (nh (ib (I:=fun y c b'=>Sg st b'∧∃i j o p q,c=(none,i,j,o,p,q)∧Jh a b o i j∧1≤i∧i≤a.size∧2≤j∧j≤b.size∧x+1+y+i+j≤a.size+b.size)
   (Q:=fun c b'=>Sg st b'∧((∃i j o p q,c=(none,i,j,o,p,q)∧Jh a b o i j∧1≤i∧i≤a.size∧2≤j∧j≤b.size∧x+2+i+j≤a.size+b.size)∨∃r i j o p q,c=(some r,i,j,o,p,q)∧Rs a b r)) ?step1 ?Rr ⟨S1,_,_,_,_,_,rfl,J,by omega,by omega,by omega,by omega,by omega⟩) ?Mf)
  case Rr=>
   rintro c b' ⟨S2,i,j,o,p,q,rfl,J,q1,q2,q3,q4,q5⟩
   exact ⟨S2,.inl ⟨_,_,_,_,_,rfl,J,q1,q2,q3,q4,by omega⟩⟩
  case step1=>
   rintro y c b' _ hy ⟨S2,i,j,o,p,q,rfl,J,q1,q2,q3,q4,q5⟩
   dsimp only
   refine bt (cU (by omega) ?_)
   refine bt (cU (by omega) ?_)
   refine bt (wV (S2.1.trans hk) (kb _ (by simp)) (ka _ (by simp)) ?_)
   rw[← iz (by omega),← iz (by omega)]
   dsimp only
   by_cases c3:K b (j - 1) < K a (i - 1)
   · rw[if_pos (by simpa using c3)]
     refine bt (cU (by omega) ?_)
     have J2:=zH J sa sb q2 q4 (by omega) q1 (by omega) (fI c3)
     by_cases c4:i - 1=0
     · rw[if_pos (by simpa using c4)]
       exact cq ⟨S2,.inr ⟨_,_,_,_,_,_,rfl,yQ J2 sa sb (by omega) (by omega) (.inl c4)⟩⟩
     · rw[if_neg (by simpa using c4)]
       split
       · exact cq ⟨S2,.inl ⟨_,_,_,_,_,rfl,J2,by omega,by omega,by omega,by omega,by omega⟩⟩
       · exact cq ⟨S2,_,_,_,_,_,rfl,J2,by omega,by omega,by omega,by omega,by omega⟩
   · rw[if_neg (by simpa using c3)]
     refine bt (cU (by omega) ?_)
     have J2:=Nx J sa sb q2 q4 q1 (by omega) (by omega) (y8.mp c3)
     by_cases c4:j - 1=1
     · rw[if_pos (by simpa using c4)]
       exact cq ⟨S2,.inr ⟨_,_,_,_,_,_,rfl,Ef J2 sa sb (by omega) (by omega) c4 hba⟩⟩
     · rw[if_neg (by simpa using c4)]
       split
       · exact cq ⟨S2,.inl ⟨_,_,_,_,_,rfl,J2,by omega,by omega,by omega,by omega,by omega⟩⟩
       · exact cq ⟨S2,_,_,_,_,_,rfl,J2,by omega,by omega,by omega,by omega,by omega⟩
  case Mf=>
   rintro c b' ⟨S2,⟨i,j,o,p,q,rfl,J,q1,q2,q3,q4,q5⟩ | ⟨r,i,j,o,p,q,rfl,hr⟩⟩
   rotate_left
   · exact cq ⟨S2,_,_,_,_,_,rfl,hr⟩
   dsimp only
   refine bt (xE (nL ⟨rfl,?_⟩))
   refine bt (nh (ib (I:=fun y c b'=>Sg st b'∧∃i j o g p q,c=(none,i,j,o,g,p,q)∧Jh a b o i j∧1≤i∧i≤a.size∧2≤j∧j≤b.size∧x+2+i+j≤a.size+b.size)
    (Q:=fun c b'=>Sg st b'∧((∃i j o g p q,c=(none,i,j,o,g,p,q)∧Jh a b o i j∧1≤i∧i≤a.size∧2≤j∧j≤b.size∧x+2+i+j≤a.size+b.size)∨∃r i j o g p q,c=(some r,i,j,o,g,p,q)∧Rs a b r)) ?KH ?fin2 ⟨S2,_,_,_,_,_,_,rfl,J,by omega,by omega,by omega,by omega,by omega⟩) ?post2)
   case fin2=>
    rintro c b' ⟨S2,i,j,o,g,p,q,rfl,J,q1,q2,q3,q4,q5⟩
    exact ⟨S2,.inl ⟨_,_,_,_,_,_,rfl,J,q1,q2,q3,q4,q5⟩⟩
   case post2=>
    rintro c b' ⟨S2,⟨i,j,o,g,p,q,rfl,J,q1,q2,q3,q4,q5⟩ | ⟨r,i,j,o,g,p,q,rfl,hr⟩⟩
    · exact bt (ud (cq ⟨S2,_,_,_,_,rfl,J,by omega,by omega,by omega,by omega,by omega⟩))
    · exact cq ⟨S2,_,_,_,_,_,rfl,hr⟩
   case KH=>
    rintro y c b' _ hy ⟨S2',i,j,o,g,p,q,rfl,J,q1,q2,q3,q4,q5⟩
    dsimp only
    generalize hg1:g - 1=g1
    apply Uo
    intro g'
    refine bt (ud ?_)
    have S2:Sg st (eo.mk' (kindOf b') (bo b') (fi b') g' (ly b')):=S2'
    refine bt (cU (by omega) ?_)
    refine bt (o9 (S2.1.trans hk) (kb _ (by simp)) ka (by omega) (by omega) (sa.sub (by omega) (by omega)) fun z v1 v2 v3=>?_)
    dsimp only
    rw[← iz (by omega)] at v2 v3
    simp only[y9] at v2 v3
    have J2':=GK (z:=z) J sa sb q2 q4 (by omega) v1 (fun x h1 h2=>fI (zU.mp (v3 x h1 h2)))
    by_cases c1:i - z > 0
    · rw[if_pos c1]
      by_cases c2:z=0
      · rw[if_pos (by simpa using c2)]
        exact cq ⟨S2,.inr ⟨_,_,_,_,_,_,_,rfl,yQ J2' sa sb (by omega) q4 (.inl c2)⟩⟩
      · rw[if_neg (by simpa using c2)]
        exact zR (m:=hiB a b (o++(a.extract z i).reverse) z j g' (i - z) q) (by kernel_rfl) (JN (X:=x+2) (S2.1.trans hk) ka kb sa sb hba J2' (by omega) (by omega) q3 q4 (by omega) (yP.mp (v2 (z - 1) (by omega))) (fun r _ _ _ _ _ _ hr=>⟨S2,.inr ⟨_,_,_,_,_,_,_,rfl,hr⟩⟩) fun i j o g p q z1 z2 z3 z4 z5 z6=>⟨⟨S2,.inl ⟨_,_,_,_,_,_,rfl,z1,z2,z3,z4,z5,z6⟩⟩,S2,_,_,_,_,_,_,rfl,z1,z2,z3,z4,z5,z6⟩)
    · rw[if_neg c1]
      exact zR (m:=hiB a b o i j g' (i - z) q) (by kernel_rfl) (JN (X:=x+2) (S2.1.trans hk) ka kb sa sb hba J q1 q2 q3 q4 q5 (yP.mp (v2 (i - 1) (by omega))) (fun r _ _ _ _ _ _ hr=>⟨S2,.inr ⟨_,_,_,_,_,_,_,rfl,hr⟩⟩) fun i j o g p q z1 z2 z3 z4 z5 z6=>⟨⟨S2,.inl ⟨_,_,_,_,_,_,rfl,z1,z2,z3,z4,z5,z6⟩⟩,S2,_,_,_,_,_,_,rfl,z1,z2,z3,z4,z5,z6⟩)
end
theorem Xl (i:Nat):mergeAt' i=(do
 let z ← get
 let (some (u,m,pw),some (v,n,_)):=((fi z)[i]?,(fi z)[i+1]?) | unsupported "internal:list.sort.pending"
 set (setPending z (((fi z).setIfInBounds i (u,m+n,pw)).eraseIdxIfInBounds (i+1)))
 let some k ← gal false (← ng (bo z) v) (bo z) u m 0 | return false
 let (u,m):=(u+k,m - k)
 if m == 0 then return true
 let some n ← gal true (← ng (bo z) (u+m - 1)) (bo z) v n (n - 1) | return false
 if n == 0 then return true
 let x:=(bo z).extract u v
 let y:=(bo z).extract v (v+n)
 let r ← if m≤n then mLo x y else mHi x y
 modify fun z=>setArr z (r.toList.zipIdx.foldl (fun a (p,j)=>a.setIfInBounds (u+j) p) (bo z))
 return (ly (← get)).isNone):=rfl
section
variable {prog:cc}{w:eK}{A:eI}{E:ag→ar→Prop}{s:ar}
theorem Vu {st st':eo}{Q:PUnit→eo→Prop} (h:Q ⟨⟩ st'):wpS (cx prog w) A E s (set st':StateT eo Sem PUnit) Q st:=by
 unfold wpS;rw[StateT.run_set];exact ay ⟨rfl,h⟩
end
theorem Hn {u:Nat}:∀(l:List fk) (n:Nat) (a:Array fk),u+n+l.length≤a.size →
 ((l.zipIdx n).foldl (fun a (x:fk×Nat)=>a.setIfInBounds (u+x.2) x.1) a).toList=a.toList.take (u+n)++l++a.toList.drop (u+n+l.length)
 | [],n,a,h=>by simp
 | p::l,n,a,h=>by
  rw[List.zipIdx_cons,nX]
  have hl:(p::l).length=l.length+1:=rfl
  rw[hl] at h ⊢
  rw[Hn l (n+1) _ (by rw[Array.size_setIfInBounds];omega),Array.toList_setIfInBounds]
  have hlen:u+n < a.toList.length:=by simp;omega
  have e1:(a.toList.set (u+n) p).take (u+(n+1))=a.toList.take (u+n)++[p]:=by
   rw[show u+(n+1)=u+n+1 by omega,rh,List.take_set_of_le (aE _)]
   simp[List.getElem?_set,hlen]
   omega
  have e2:(a.toList.set (u+n) p).drop (u+(n+1)+l.length)=a.toList.drop (u+n+(l.length+1)):=by
   rw[List.drop_set_of_lt (by omega),show u+(n+1)+l.length=u+n+(l.length+1) by omega]
  rw[e1,e2]
  simp
theorem zz {a:Array fk}{i:Nat}:K a i=(match a.toList[i]? with | some p=>i8 p.1 | none=>0):=by unfold K;rw[rS];cases a[i]? <;> rfl
theorem kO {a:Array fk}{u v x:Nat} (hx:u+x < v) (hv:v≤a.size):K (a.extract u v) x=K a (u+x):=by
 rw[iz (by simp;omega),iz (by omega)]
 simp
theorem uz {a:Array fk}{u v:Nat} (k:IntKeys a):IntKeys (a.extract u v):=fun p hp=>k p (by
 rw[oB,fm] at hp
 exact List.mem_of_mem_drop (kQ hp))
theorem Q0 {a r a':Array fk}{u v e:Nat} (huv:u≤v) (hve:v≤e) (he:e≤a.size) (hr:Rs (a.extract u v) (a.extract v e) r)
 (ha':a'.toList=a.toList.take u++r.toList++a.toList.drop e) :
 a'.Perm a∧(∀t,t < u∨e≤t→K a' t=K a t)∧Seg a' u e∧(∀t,u≤t→t < e→∃t',u≤t'∧t' < e∧K a' t=K a t'):=by
 have hlr:r.toList.length=e - u:=by rw[hr.1.length_eq];simp;omega
 have exl:(a.extract u v).toList++(a.extract v e).toList=(a.toList.drop u).take (e - u):=by
  rw[oB,oB,fm,fm]
  rw[show e - u=(v - u)+(e - v) by omega,List.take_add,zC,show u+(v - u)=v by omega]
 have hp:r.toList.Perm ((a.toList.drop u).take (e - u)):=by rw[← exl];exact hr.1
 have hlt:(a.toList.take u).length=u:=by simp;omega
 have ea:a.toList=a.toList.take u++(a.toList.drop u).take (e - u)++a.toList.drop e:=by
  have:=ip (e - u) (a.toList.drop u)
  rw[zC,show u+(e - u)=e by omega] at this
  rw[eS,this,ip]
 have ab7:∀t,t < u∨e≤t→K a' t=K a t:=by
  intro t ht
  rw[zz,zz,ha']
  congr 1
  rcases ht with ht | ht
  · rw[eS,eh (by omega),mE ht]
  · rw[dt (by rw[aw];omega),List.getElem?_drop]
    congr 1
    rw[aw];omega
 have Kin:∀t,u≤t→t < e→K a' t=K r (t - u):=by
  intro t h1 h2
  rw[zz,zz,ha']
  congr 1
  rw[eS,dt (by omega),hlt,eh (by omega)]
 have sr:=Zm hr.2
 have hrs:r.size=e - u:=by rw[← hlr];simp
 refine ⟨vn.mpr ?_,ab7,fun i j hi hij hj=>?_,fun t h1 h2=>?_⟩
 · rw[ha']
   conv=>rhs;rw[ea]
   exact (hp.append_left _).append_right _
 · rw[Kin i hi (by omega),Kin j (by omega) hj]
   exact sr _ _ (iE _) (by omega) (by omega)
 · rw[Kin t h1 h2]
   have hm:r[t - u]'(by omega)∈(a.toList.drop u).take (e - u):=hp.mem_iff.mp (by simp)
   obtain ⟨x,x1,x2,x3,x4⟩:=qP hm
   exact ⟨x,x1,by omega,by rw[iz (by omega),x4]⟩
theorem Tu {a a':Array fk}{u y v e f:Nat} (huy:y≤v) (hz:e≤f) (low:∀t,u≤t→t < y→K a t≤K a v) (top:∀t,y≤t→t < v+e→K a v≤K a t∧K a t≤K a (v - 1)) (high:∀t,v+e≤t→t < v+f→K a (v - 1)≤K a t)
 (hvm:K a v≤K a (v - 1)) (s1:Seg a u v) (s2:Seg a v (v+f)) (p2:∀t,t < y∨v+e≤t→K a' t=K a t) (p3:Seg a' y (v+e)) (p4:∀t,y≤t→t < v+e→∃t',y≤t'∧t' < v+e∧K a' t=K a t'):Seg a' u (v+f):=by
 intro i j hi hij hj
 by_cases i1:i < y
 · rw[p2 i (.inl i1)]
   by_cases j1:j < y
   · rw[p2 j (.inl j1)];exact s1 i j hi hij (d6 j1 huy)
   · by_cases j2:j < v+e
     · obtain ⟨t,t1,t2,t3⟩:=p4 j (mM.mp j1) j2
       rw[t3]
       exact hY (low i hi i1) (top t t1 t2).1
     · rw[p2 j (.inr (mM.mp j2))]
       exact hY (low i hi i1) (hY hvm (high j (mM.mp j2) hj))
 · have i1:=mM.mp i1
   by_cases j2:j < v+e
   · exact p3 i j i1 hij j2
   · have j2:=mM.mp j2
     rw[p2 j (.inr j2)]
     by_cases i2:i < v+e
     · obtain ⟨t,t1,t2,t3⟩:=p4 i i1 i2
       rw[t3]
       exact hY (top t t1 t2).2 (high j j2 hj)
     · rw[p2 i (.inr (mM.mp i2))]
       exact s2 i j (eR (Nat.le_add_right _ _) (mM.mp i2)) hij hj
theorem Sh {l1 l2:List (Nat×Nat×Nat)}{x y z:Nat×Nat×Nat}:(((l1++x::y::l2).toArray.setIfInBounds l1.length z).eraseIdxIfInBounds (l1.length+1))=(l1++z::l2).toArray:=by
 apply si.mp
 rw[List.setIfInBounds_toArray]
 have:(l1++x::y::l2).set l1.length z=l1++z::y::l2:=by simp
 rw[this]
 rw[Array.eraseIdxIfInBounds,dif_pos (by simp)]
 simp[List.eraseIdx_append_of_length_le]
section
variable {prog:cc}{w:eK}{A:eI}{E:ag→ar→Prop}{s:ar}
theorem VB {st:eo}{l1 l2:List (Nat×Nat×Nat)}{u m pw v n q:Nat}{Q:Bool→eo→Prop} (k:Sk st) (hp:fi st=(l1++(u,m,pw)::(v,n,q)::l2).toArray)
 (hv:v=u+m) (hm:1≤m) (hn:1≤n) (hs:v+n≤(bo st).size) (s1:Seg (bo st) u (u+m)) (s2:Seg (bo st) v (v+n))
 (h:∀st',Sk st'→fi st'=(l1++(u,m+n,pw)::l2).toArray→(bo st').Perm (bo st)→(∀t,t < u∨v+n≤t→K (bo st') t=K (bo st) t)→Seg (bo st') u (u+(m+n))→Q true st') :
 wpS (cx prog w) A E s (mergeAt' l1.length) Q st:=by
 rw[Xl]
 refine bt (wo ?_)
 have g1:(fi st)[l1.length]?=some (u,m,pw):=by rw[hp];simp
 have g2:(fi st)[l1.length+1]?=some (v,n,q):=by rw[hp];simp
 rw[g1,g2]
 dsimp only
 refine bt (Vu ?_)
 rw[hp,Sh]
 generalize Ln:setPending st (l1++(u,m+n,pw)::l2).toArray=b
 have b1:kindOf b=pT:=by rw[← Ln];exact k.kind
 have b2:bo b=bo st:=by rw[← Ln]
 have b3:ly b=none:=by rw[← Ln];exact k.failed
 have b4:fi b=(l1++(u,m+n,pw)::l2).toArray:=by rw[← Ln]
 have kb:Sk b:=⟨b1,b3,by rw[b2];exact k.keys⟩
 refine bt (cU (by omega) ?_)
 refine bt (o9 b1 (k.keys _ (by simp)) k.keys (by omega) (by omega) s1 fun z w1 w2 w3=>?_)
 dsimp only
 rw[← iz (by omega)] at w2 w3
 by_cases c1:m - z=0
 · rw[if_pos (by simpa using c1)]
   refine cq (h b kb b4 (by rw[b2]) (fun t _=>by rw[b2]) ?_)
   rw[b2]
   intro i j hi hij hj
   by_cases hjv:j < v
   · exact s1 i j hi hij (by omega)
   · by_cases hiv:i < v
     · have:=yP.mp (w2 (i - u) (by omega))
       rw[show u+(i - u)=i by omega] at this
       exact hY this (s2 v j (by omega) (by omega) (by omega))
     · exact s2 i j (by omega) hij (by omega)
 · rw[if_neg (by simpa using c1)]
   refine bt (cU (by omega) ?_)
   refine bt (o9 b1 (k.keys _ (by simp)) k.keys (by omega) (by omega) s2 fun z' x1 x2 x3=>?_)
   dsimp only
   rw[← iz (by omega),show u+z+(m - z) - 1=v - 1 by omega] at x2 x3
   by_cases c2:z'=0
   · rw[if_pos (by simpa using c2)]
     refine cq (h b kb b4 (by rw[b2]) (fun t _=>by rw[b2]) ?_)
     rw[b2]
     intro i j hi hij hj
     by_cases hjv:j < v
     · exact s1 i j hi hij (by omega)
     · by_cases hiv:i < v
       · have h0:=wF.mp (x3 0 (by omega) (by omega))
         exact hY (s1 i (v - 1) hi (by omega) (by omega)) (hY h0 (s2 (v+0) j (by omega) (by omega) (by omega)))
       · exact s2 i j (by omega) hij (by omega)
   · rw[if_neg (by simpa using c2)]
     have hz:z < m:=by omega
     have Kq:K (bo st) v < K (bo st) (u+z):=zU.mp (w3 z (aE _) hz)
     have y1:((bo st).extract (u+z) v).size=m - z:=by simp;omega
     have y2:((bo st).extract v (v+z')).size=z':=by simp;omega
     have sx:Seg ((bo st).extract (u+z) v) 0 ((bo st).extract (u+z) v).size:=by
      intro i j _ hij hj
      rw[kO (by omega) (by omega),kO (by omega) (by omega)]
      exact s1 _ _ (by omega) (by omega) (by omega)
     have sy:Seg ((bo st).extract v (v+z')) 0 ((bo st).extract v (v+z')).size:=by
      intro i j _ hij hj
      rw[kO (by omega) (by omega),kO (by omega) (by omega)]
      exact s2 _ _ (by omega) (by omega) (by omega)
     have fin:∀r st',Sg b st'→Rs ((bo st).extract (u+z) v) ((bo st).extract v (v+z')) r →
      wpS (cx prog w) A E s (do
       modify fun z0=>setArr z0 (r.toList.zipIdx.foldl (fun a (p:fk×Nat)=>a.setIfInBounds (u+z+p.2) p.1) (bo z0))
       let x ← get
       pure (ly x).isNone) Q st':=by
      intro r st' S hr
      refine bt (sf (bt (wo ?_)))
      obtain ⟨S1,S2,S3,S4⟩:=S
      have ef:ly st'=none:=S4.trans b3
      have hr':r.toList.length=(m - z)+z':=by rw[hr.1.length_eq];simp;omega
      have fp:=Hn (u:=u+z) r.toList 0 (bo st') (by rw[S2,b2,hr'];omega)
      rw[S2,b2,hr',show u+z+0=u+z by omega,show u+z+(m - z+z')=v+z' by omega] at fp
      obtain ⟨p1,p2,p3,p4⟩:=Q0 (by omega) (by omega) (by omega) hr fp
      rw[S2,b2]
      refine cq ?_
      show Q (ly st').isNone _
      rw[ef]
      refine h _ ⟨S1.trans b1,ef,keys_perm p1 k.keys⟩ (S3.trans b4) p1 (fun t ht=>p2 t (by omega)) ?_
      have top:∀t,u+z≤t→t < v+z'→K (bo st) v≤K (bo st) t∧K (bo st) t≤K (bo st) (v - 1):=by
       intro t h1 h2
       by_cases htv:t < v
       · exact ⟨hY (fI Kq) (s1 (u+z) t (by omega) h1 (by omega)),s1 t (v - 1) (by omega) (by omega) (by omega)⟩
       · have:=xJ.mp (x2 (t - v) (by omega))
         rw[show v+(t - v)=t by omega] at this
         exact ⟨s2 v t (by omega) (by omega) (by omega),fI this⟩
      have low:∀t,u≤t→t < u+z→K (bo st) t≤K (bo st) v:=by
       intro t h1 h2
       have:=yP.mp (w2 (t - u) (by omega))
       rwa [show u+(t - u)=t by omega] at this
      have high:∀t,v+z'≤t→t < v+n→K (bo st) (v - 1)≤K (bo st) t:=by
       intro t h1 h2
       have:=wF.mp (x3 (t - v) (by omega) (by omega))
       rwa [show v+(t - v)=t by omega] at this
      have hvm:K (bo st) v≤K (bo st) (v - 1):=hY (fI Kq) (s1 (u+z) (v - 1) (by omega) (by omega) (by omega))
      generalize (AI (fun a (p:fk×Nat)=>a.setIfInBounds (u+z+p.2) p.1) (bo st) r.toList.zipIdx)=a' at p1 p2 p3 p4 ⊢
      rw[show u+(m+n)=v+n by omega]
      exact Tu (show u+z≤v by omega) x1 low top high hvm (by rw[hv];exact s1) s2 p2 p3 p4
     split
     · refine bt (Wr b1 (uz k.keys) (uz k.keys) sx sy (by omega) (by omega) ?_ ?_ fin)
       · rw[kO (by omega) (by omega),kO (by omega) (by omega)]
         exact fI Kq
       · intro x hx
         rw[kO (by omega) (by omega),kO (by omega) (by omega),show u+z+(((bo st).extract (u+z) v).size - 1)=v - 1 by omega]
         exact fI (xJ.mp (x2 x (by omega)))
     · refine bt (Us b1 (uz k.keys) (uz k.keys) sx sy (by omega) (by omega) ?_ ?_ fin)
       · intro x hx
         rw[kO (by omega) (by omega),kO (by omega) (by omega)]
         exact hY (fI Kq) (s1 (u+z) (u+z+x) (by omega) (by omega) (by omega))
       · rw[kO (by omega) (by omega),kO (by omega) (by omega),show u+z+(((bo st).extract (u+z) v).size - 1)=v - 1 by omega]
         exact fI (xJ.mp (x2 _ (by omega)))
end
noncomputable def Rn (a:Array fk):Nat→List (Nat×Nat×Nat)→Nat→Prop
 | lo,[],hi=>lo=hi
 | lo,(u,n,_)::r,hi=>u=lo∧1≤n∧Seg a u (u+n)∧Rn a (u+n) r hi
theorem Rn.le {a:Array fk}:∀{p:List (Nat×Nat×Nat)}{lo hi:Nat},Rn a lo p hi→lo+p.length≤hi
 | [],lo,hi,h=>by have:lo=hi:=h;simp;omega
 | (u,n,q)::r,lo,hi,⟨h1,h2,h3,h4⟩=>by have:=Rn.le h4;simp;omega
theorem Rn.same {a a':Array fk}:∀{p:List (Nat×Nat×Nat)}{lo hi:Nat},Rn a lo p hi→(∀t,lo≤t→t < hi→K a' t=K a t)→Rn a' lo p hi
 | [],lo,hi,h,_=>h
 | (u,n,q)::r,lo,hi,⟨h1,h2,h3,h4⟩,hk=>by
  have:=Rn.le h4
  refine ⟨h1,h2,fun i j hi hij hj=>?_,Rn.same h4 fun t t1 t2=>hk t (by omega) t2⟩
  rw[hk i (by omega) (by omega),hk j (by omega) (by omega)]
  exact h3 i j hi hij hj
theorem Rn.append {a:Array fk}:∀{p r:List (Nat×Nat×Nat)}{lo hi:Nat},Rn a lo (p++r) hi↔∃m,Rn a lo p m∧Rn a m r hi
 | [],r,lo,hi=>⟨fun h=>⟨lo,rfl,h⟩,fun ao=>by obtain ⟨m,h1,h2⟩:=ao;have:lo=m:=h1;subst this;exact h2⟩
 | (u,n,q)::p,r,lo,hi=>by
  constructor
  · rintro ⟨h1,h2,h3,h4⟩
    obtain ⟨m,h5,h6⟩:=Rn.append.mp h4
    exact ⟨m,⟨h1,h2,h3,h5⟩,h6⟩
  · rintro ⟨m,⟨h1,h2,h3,h5⟩,h6⟩
    exact ⟨h1,h2,h3,Rn.append.mpr ⟨m,h5,h6⟩⟩
section
variable {prog:cc}{w:eK}{A:eI}{E:ag→ar→Prop}{s:ar}
theorem Jb {st:eo}{p:List (Nat×Nat×Nat)}{i hi:Nat}{Q:Bool→eo→Prop} (k:Sk st) (hp:fi st=p.toArray) (hR:Rn (bo st) 0 p hi) (hh:hi≤(bo st).size) (hi1:i+1 < p.length)
 (h:∀st' p',Sk st'→fi st'=p'.toArray→(bo st').Perm (bo st)→Rn (bo st') 0 p' hi→p'.length+1=p.length→(∀t,hi≤t→K (bo st') t=K (bo st) t)→Q true st') :
 wpS (cx prog w) A E s (mergeAt' i) Q st:=by
 obtain ⟨l1,x,y,l2,e,el⟩:∃l1 x y l2,p=l1++x::y::l2∧l1.length=i:=by
  refine ⟨p.take i,p[i],p[i+1],p.drop (i+2),?_,by simp;omega⟩
  rw[zd,zd,ip]
 obtain ⟨u,m,pw⟩:=x
 obtain ⟨v,n,q⟩:=y
 subst e
 subst el
 obtain ⟨c,r1,⟨h1,h2,h3,h4,h5,h6,r2⟩⟩:=Rn.append.mp hR
 have l2e:=r2.le
 have l1e:=r1.le
 refine VB k hp h4 h2 h5 (by omega) h3 h6 fun st' k' hp' pm out sg=>h st' _ k' hp' pm ?_ (by simp only[aw,cE];omega) fun t ht=>out t (by omega)
 refine Rn.append.mpr ⟨c,r1.same fun t _ ht=>out t (by omega),h1,by omega,sg,?_⟩
 rw[show u+(m+n)=v+n by omega]
 exact r2.same fun t ht _=>out t (by omega)
structure Gd (st:eo) (lo:Nat) (b:eo):Prop where
 sk:Sk b
 perm:(bo b).Perm (bo st)
 runs:∃p,fi b=p.toArray∧Rn (bo b) 0 p lo
theorem Rn.modify {a:Array fk}{f:Nat×Nat×Nat→Nat×Nat×Nat} (hf:∀x,(f x).1=x.1∧(f x).2.1=x.2.1):∀{p:List (Nat×Nat×Nat)}{i lo hi:Nat},Rn a lo p hi→Rn a lo (p.modify i f) hi
 | [],i,lo,hi,h=>by cases i <;> exact h
 | (u,n,q)::r,0,lo,hi,⟨h1,h2,h3,h4⟩=>by
  obtain ⟨e1,e2⟩:=hf (u,n,q)
  rw[List.modify_zero_cons]
  generalize f (u,n,q)=y at e1 e2
  obtain ⟨u',n',q'⟩:=y
  dsimp only at e1 e2
  subst e1
  subst e2
  exact ⟨h1,h2,h3,h4⟩
 | (u,n,q)::r,i+1,lo,hi,⟨h1,h2,h3,h4⟩=>by
  rw[List.modify_succ_cons]
  exact ⟨h1,h2,h3,Rn.modify hf h4⟩
theorem Gd.modify {st b:eo}{lo i:Nat}{f:Nat×Nat×Nat→Nat×Nat×Nat} (g:Gd st lo b) (hf:∀x,(f x).1=x.1∧(f x).2.1=x.2.1):Gd st lo (setPending b ((fi b).modify i f)):=by
 obtain ⟨p,e,r⟩:=g.runs
 refine ⟨⟨g.sk.kind,g.sk.failed,g.sk.keys⟩,g.perm,p.modify i f,?_,r.modify hf⟩
 show (fi b).modify i f=_
 rw[e]
 apply si.mp
 simp
theorem Gd.push {st b:eo}{lo n:Nat} (g:Gd st lo b) (hs:Seg (bo b) lo (lo+n)) (hn:1≤n):Gd st (lo+n) (setPending b ((fi b).push (lo,n,0))):=by
 obtain ⟨p,e,r⟩:=g.runs
 refine ⟨⟨g.sk.kind,g.sk.failed,g.sk.keys⟩,g.perm,p++[(lo,n,0)],?_,Rn.append.mpr ⟨lo,r,rfl,hn,hs,rfl⟩⟩
 show (fi b).push _=_
 rw[e]
 simp
set_option hygiene false in
local macro_rules | `(tactic| walk_at "runs_end")=>`(tactic| (
 refine bt (wo ?_)
 cases hbk:(fi b2).back? with
 | none=>
  refine bt (sf (cq ⟨lo+n,rfl,by omega,by omega,g2.push sg2 (by omega)⟩))
 | some t=>
  obtain ⟨s1,n1,q0⟩:=t
  dsimp only
  refine bt (nh (ib (I:=fun y c b3=>c=(none,())∧Gd st lo b3∧Seg (bo b3) lo (lo+n)) (Q:=fun c b3=>c=(none,())∧Gd st lo b3∧Seg (bo b3) lo (lo+n)) ?istep (fun _ _ hh=>hh) ⟨rfl,g2,sg2⟩) ?ipost)
  case ipost=>
   rintro c b3 ⟨rfl,g3,sg3⟩
   have g4:=g3.modify (i:=(fi b3).size - 1) (f:=fun x=>(x.1,x.2.1,power' (bo st).size (2*s1+n1) (2*s1+n1+n1+n) (bo st).size)) (fun x=>⟨rfl,rfl⟩)
   exact bt (sf (bt (sf (cq ⟨lo+n,rfl,by omega,by omega,g4.push sg3 (by omega)⟩))))
  case istep=>
   rintro y c b3 _ hy ⟨rfl,g3,sg3⟩
   refine bt (wo ?_)
   obtain ⟨p,ep,rp⟩:=g3.runs
   by_cases hz:(fi b3).size > 1
   · rw[if_pos hz]
     have hz2:(fi b3).size - 2 < (fi b3).size:=by omega
     rw[getElem?_pos (fi b3) _ hz2]
     generalize (fi b3)[(fi b3).size - 2]=t3
     obtain ⟨t1,t2,older⟩:=t3
     dsimp only
     split
     · exact cq ⟨rfl,g3,sg3⟩
     · have hpl:(fi b3).size=p.length:=by rw[ep];simp
       have sz3:(bo b3).size=(bo st).size:=g3.perm.size_eq
       refine bt (Jb g3.sk ep rp (by omega) (by omega) fun b4 p' k4 e4 pm4 r4 _ out=>?_)
       rw[if_neg (by simp)]
       refine cq ⟨rfl,⟨k4,pm4.trans g3.perm,p',e4,r4⟩,fun i j hi hij hj=>?_⟩
       rw[out i (by omega),out j (by omega)]
       exact sg3 i j hi hij hj
   · rw[if_neg hz]
     exact cq ⟨rfl,g3,sg3⟩))
theorem WK {st:eo}{Q:Unit→eo→Prop} (k:Sk st) (hp:fi st=#[]) (h2:2≤(bo st).size)
 (h:∀st',(bo st').Perm (bo st)→ly st'=none→SortedTo (bo st') (bo st).size→Q () st'):wpS (cx prog w) A E s sortRuns' Q st:=by
 rw[sortRuns'_eq]
 refine bt (wo ?_)
 dsimp only
 generalize hmr:minRun' (bo st).size (bo st).size 0=mr
 refine bt (nh (ib (I:=fun x c b=>∃lo,c=(none,lo)∧x≤lo∧lo≤(bo st).size∧Gd st lo b)
  (Q:=fun c b=>c=(none,(bo st).size)∧Gd st (bo st).size b) ?step ?fin ⟨0,rfl,by omega,by omega,k,.refl _,[],hp,rfl⟩) ?post)
 case fin=>
  rintro c b ⟨lo,rfl,q1,q2,g⟩
  have:lo=(bo st).size:=by omega
  subst this
  exact ⟨rfl,g⟩
 case step=>
  rintro x c b _ hx ⟨lo,rfl,q1,q2,g⟩
  dsimp only
  by_cases c1:lo≥(bo st).size
  · rw[if_pos c1]
    have:lo=(bo st).size:=by omega
    subst this
    exact cq ⟨rfl,g⟩
  · rw[if_neg c1]
    have sz:(bo b).size=(bo st).size:=g.perm.size_eq
    refine bt (V2 g.sk (by omega) (by omega) fun m b1 mv m1 m2 sg=>?_)
    dsimp only
    have keep:∀{b2:eo},Mv lo (bo st).size b b2→Gd st lo b2:=fun {b2} mv=>by
     obtain ⟨p,ep,rp⟩:=g.runs
     exact ⟨mv.sk g.sk,mv.perm.trans g.perm,p,mv.pend.trans ep,rp.same fun t _ ht=>mv.out t (by omega)⟩
    have mv':Mv lo (bo st).size b b1:=mv.wide (by omega) (by omega)
    by_cases c2:m < mr
    · rw[if_pos c2]
      refine bt (xE (nL ⟨rfl,?_⟩))
      refine bt (Wt (mv.sk g.sk) (by rw[mv.size];omega) (by omega) sg fun b2 mv2 sg2=>?_)
      rw[if_neg (by simp)]
      have g2:=keep (mv'.trans (mv2.wide (aE _) (by omega)))
      have hn1:1≤min ((bo st).size - lo) mr:=by omega
      have hn2:lo+min ((bo st).size - lo) mr≤(bo st).size:=by omega
      generalize min ((bo st).size - lo) mr=n at *
      walk_at "runs_end"
    · rw[if_neg c2]
      have g2:=keep mv'
      generalize b1=b2 at *
      have sg2:=sg
      have hn1:1≤m:=by omega
      have hn2:lo+m≤(bo st).size:=by omega
      generalize m=n at *
      walk_at "runs_end"
 case post=>
  rintro c b ⟨rfl,g⟩
  dsimp only
  have sz:(bo b).size=(bo st).size:=g.perm.size_eq
  refine bt (nh (ib (I:=fun x c b=>c=(none,())∧Sk b∧(bo b).Perm (bo st)∧∃p,fi b=p.toArray∧Rn (bo b) 0 p (bo st).size∧p.length≤max 1 ((bo st).size - x))
   (Q:=fun c b=>c=(none,())∧Sk b∧(bo b).Perm (bo st)∧∃p,fi b=p.toArray∧Rn (bo b) 0 p (bo st).size∧p.length≤1) ?abd ?ac5 ?abf) ?abz)
  case abf=>
   obtain ⟨p,ep,rp⟩:=g.runs
   have:=rp.le
   exact ⟨rfl,g.sk,g.perm,p,ep,rp,by omega⟩
  case ac5=>
   rintro c b ⟨hc,k',pm,p,ep,rp,hl⟩
   exact ⟨hc,k',pm,p,ep,rp,by omega⟩
  case abz=>
   rintro c b ⟨rfl,k',pm,p,ep,rp,hl⟩
   refine cq (h b pm k'.failed fun i j hij hj=>?_)
   match p,rp,hl with
   | [],rp,_=>have:0=(bo st).size:=rp;omega
   | [(u,n,q)],⟨h1,h3,h4,h5⟩,_=>
    have h6:u+n=(bo st).size:=h5
    exact h4 i j (by omega) hij (by omega)
  case abd=>
   rintro x c b _ hx ⟨rfl,k',pm,p,ep,rp,hl⟩
   refine bt (wo ?_)
   have hpl:(fi b).size=p.length:=by rw[ep];simp
   by_cases c3:(fi b).size≤1
   · rw[if_pos c3]
     exact cq ⟨rfl,k',pm,p,ep,rp,by omega⟩
   · rw[if_neg c3]
     refine bt (Jb k' ep rp (by rw[pm.size_eq];exact aE _) ?hidx fun b4 p' k4 e4 pm4 r4 hl4 out=>?abu)
     case abu=>
      rw[if_neg (by simp)]
      exact cq ⟨rfl,k4,pm4.trans pm,p',e4,r4,by omega⟩
     case hidx=>
      repeat' split
      all_goals omega
end
section
variable {prog:cc}{w:eK}{A:eI}{E:ag→ar→Prop}{s:ar}
theorem Pa {a:Addr}{vs:List ag}{ns:List Int}{n:Nat}{P:Fin→ar→Prop} (ho:s.heap.get? a=some (og "list" vs.toArray n))
 (hI:sm vs ns) (hz:vs.length≤bg)
 (h:∀(out:Array ag) (ns':List Int),sm out.toList ns'→ns'.Perm ns→ns'.Pairwise (· ≤ ·)→P (.done (.ret .none)) { s with heap:=sortedHeap s.heap a vs out }) :
 cn (cx prog w) A (Builtin.«list.sort» ⟨[.ref a],[]⟩) P E s:=by
 by_cases h2:vs.length < 2
 · exact list_sort_tree ho hI (by omega) h
 rw[list_sort_plain]
 have ha:=dP ho
 refine ai (listItems_at ho rfl ?_)
 refine ai (listUpdate_at ho rfl ?_ (by simpa using hz) (by simp))
 obtain ⟨e1,g1⟩:∃e1,(s.heap.update a (ot fun _=>#[])).get? a=some (og "list" #[] e1):=⟨_,get?_update_seq ho (fun _=>#[])⟩
 refine ai (seqEpoch_at g1 rfl (ai (wpAny_newTuple (ai (wpAny_newList (jI ?_))))))
 have g2:(((s.heap.update a (ot fun _=>#[])).push (og "tuple" vs.toArray 0)).push (og "list" #[] 0)).get? a=some (og "list" #[] e1):=
  aS _ (aS _ g1)
 show cn (cx prog w) A _ P E { s with heap:=((s.heap.update a (ot fun _=>#[])).push (og "tuple" vs.toArray 0)).push (og "list" #[] 0) }
 dsimp only
 have hs:¬ vs.toArray.size < 2:=by simpa using h2
 rw[if_neg hs,if_neg hs]
 have hkk:keyKind' vs.toArray=pure pT:=by
  match vs,h2,hI with
  | [],h2,_=>simp at h2
  | [_],h2,_=>simp at h2
  | v₁::v₂::rest,_,hI=>exact keyKind_ints hI
 rw[hkk]
 refine ai (ay ?_)
 have all:=WK (prog:=prog) (w:=w) (A:=A) (E:=E) (s:={ s with heap:=((s.heap.update a (ot fun _=>#[])).push (og "tuple" vs.toArray 0)).push (og "list" #[] 0) })
  (st:=eo.mk' pT (vs.toArray.zip vs.toArray) #[] 7 none)
  (Q:=fun _ st'=>(bo st').Perm (pairsOf vs)∧ly st'=none∧SortedTo (bo st') (pairsOf vs).size)
  ⟨rfl,rfl,hI.intKeys⟩ rfl (by show 2≤(pairsOf vs).size;rw[pairsOf_size];omega) (fun st' q1 q2 q3=>⟨q1,q2,q3⟩)
 refine ai (gc all ?_ fun _ _ e=>e)
 rintro ⟨⟨⟩,st'⟩ s' ⟨rfl,hp,hf,hsr⟩
 dsimp only
 refine ai (seqEpoch_at g2 rfl (ai (listUpdate_at g2 rfl ?_ (by simp) (by rw[Array.size_map,hp.size_eq,pairsOf_size];omega))))
 rw[hf]
 simp only[bne_self_eq_false,fF,if_false]
 obtain ⟨ns',r1,r2,r3⟩:=sorted_out hI hp hsr
 exact ay (h _ ns' r1 r2 r3)
end
end L2
namespace L3
open PySem PySem.Spec PyProof.Rows L2
noncomputable def insI (x:Int):List Int→List Int
 | []=>[x]
 | y::ys=>if x≤y then x::y::ys else y::insI x ys
noncomputable def srt:List Int→List Int
 | []=>[]
 | x::xs=>insI x (srt xs)
theorem insI_perm (x:Int):∀ys:List Int,(insI x ys).Perm (x::ys)
 | []=>.refl _
 | y::ys=>by
  unfold insI
  by_cases h:x≤y
  · rw[if_pos h]
  · rw[if_neg h]
    exact ((insI_perm x ys).cons y).trans (.swap ..)
theorem lz:∀xs:List Int,(srt xs).Perm xs
 | []=>.refl _
 | x::xs=>(insI_perm x (srt xs)).trans ((lz xs).cons x)
theorem yc (x:Int):∀{ys:List Int},ys.Pairwise (· ≤ ·)→(insI x ys).Pairwise (· ≤ ·)
 | [],_=>List.pairwise_singleton _ _
 | y::ys,h=>by
  unfold insI
  have hy:=(kH.mp h)
  by_cases hxy:x≤y
  · rw[if_pos hxy]
    refine kH.mpr ⟨fun z hz=>?_,h⟩
    rcases de.mp hz with rfl | hz
    · exact hxy
    · exact hY hxy (hy.1 z hz)
  · rw[if_neg hxy]
    refine kH.mpr ⟨fun z hz=>?_,yc x hy.2⟩
    rcases de.mp ((insI_perm x ys).mem_iff.mp hz) with rfl | hz
    · omega
    · exact hy.1 z hz
theorem tL:∀xs:List Int,(srt xs).Pairwise (· ≤ ·)
 | []=>.nil
 | x::xs=>yc x (tL xs)
theorem xU:∀{xs ys:List Int},xs.Perm ys→xs.Pairwise (· ≤ ·)→ys.Pairwise (· ≤ ·)→xs=ys
 | [],ys,p,_,_=>(List.nil_perm.mp p).symm ▸ rfl
 | x::xs,[],p,_,_=>absurd p.length_eq (by simp)
 | x::xs,y::ys,p,hx,hy=>by
  have hx':=kH.mp hx
  have hy':=kH.mp hy
  have h1:y≤x:=by
   rcases de.mp (p.mem_iff.mp cf) with e | e
   · omega
   · exact hy'.1 x e
  have h2:x≤y:=by
   rcases de.mp (p.mem_iff.mpr cf) with e | e
   · omega
   · exact hx'.1 y e
  have e:x=y:=by omega
  subst e
  rw[xU (p.cons_inv) hx'.2 hy'.2]
theorem vQ:∀{us:List ag}{ns:List Int},sm us ns→Vals (ns.map V.int) us
 | _,_,.nil=>.nil
 | _,_,.cons n t h=>.cons ⟨t,rfl⟩ (vQ h)
section
variable {X:Cx}
end
open Classical in
noncomputable def eqR (h:Heap) (x:ae) (y:ag):Bool:=if q:∃d as,Reads h y d as∧d.canLay0=true then fA (Classical.choose q) x else false
theorem Pg {h:Heap}{x d:ae}{y:ag}{as:List Addr} (r:Reads h y d as) (hd:d.canLay0=true):eqR h x y=fA d x:=by
 unfold eqR
 have q:∃d as,Reads h y d as∧d.canLay0=true:=⟨d,as,r,hd⟩
 rw[dif_pos q]
 obtain ⟨as',r',c'⟩:=Classical.choose_spec q
 rw[(PySem.Reads.unique r' d as r).1]
theorem anyR {h:Heap}{x:ae}:∀{us:List ag}{ds:List ae}{as:List Addr},ReadsAll h us ds as→dA ds=true→us.any (eqR h x)=ds.any fun d=>fA d x
 | _,_,_,.nil,_=>rfl
 | _,_,_,.cons r rs,c=>by
  rw[dA,dS] at c
  rw[lp,lp,Pg r c.1,anyR rs c.2]
theorem Xe {h:Heap}:∀{us:List ag}{ds:List ae}{as:List Addr}{u:ag},ReadsAll h us ds as→u∈us→∃d as,d∈ds∧Reads h u d as
 | _,_,_,u,.nil,m=>nomatch m
 | _,_,_,u,.cons (d:=d) r rs,m=>by
  rcases de.mp m with rfl | m
  · exact ⟨_,_,cf,r⟩
  · obtain ⟨d',as,h1,h2⟩:=Xe rs m
    exact ⟨d',as,bq _ h1,h2⟩
noncomputable def inB (a:ae) (ds:List ae):Bool:=ds.any fun y=>fA y a
noncomputable def inX:ae→ae→Res ae
 | a,.list ds=>gd (eD a=true∧ds.all eD=true) (.ok (.bool (inB a ds)))
 | a,.tuple ds=>gd (eD a=true∧ds.all eD=true) (.ok (.bool (inB a ds)))
 | _,_=>.bad
noncomputable def Pu:ae→ae→Res ae
 | a,.list ds=>gd (eD a=true∧ds.all eD=true) (.ok (.bool (!inB a ds)))
 | a,.tuple ds=>gd (eD a=true∧ds.all eD=true) (.ok (.bool (!inB a ds)))
 | _,_=>.bad
theorem Ac:∀{ds:List ae},ds.all eD=true→dA ds=true
 | [],_=>by rw[dA]
 | d::ds,h=>by
  rw[List.all_cons,dS] at h
  rw[dA,ll h.1,Ac h.2];rfl
theorem GF {d:ae} (h:eD d=true):d.depth≤64:=by
 unfold eD at h
 rw[dS] at h
 exact of_decide_eq_true h.2
section
variable {X:Cx}
theorem zL {pins:List (Addr×Obj)}{s:ar}{σ:L2.St}{H A:Hp}{d1:ae}{ds:List ae}{x:V}{v:ag}{vs:List V}{its:List ag} (hu:X.A.units+66 < nV) (I:Inv X pins σ H s) (rx:RelV x v) (ha:aC A H)
 (p1:Pk X.K A H d1 x) (f1:eD d1=true) (f2:ds.all eD=true) (q2:aB X.K A ds vs) (r:Vals vs its) :
 (∀y,y∈its.toArray→SeqAt.EqAt X.A.in1 s y v (eqR s.heap d1 y))∧its.toArray.any (eqR s.heap d1)=inB d1 ds:=by
 obtain ⟨as,r1⟩:=Is.reads I d1 (p1.is ha f1) rx
 obtain ⟨bs,r2⟩:=dh.reads I ds (dh.mono ha ds (aB.is ds (Ac f2) q2)) r
 refine ⟨fun y hy=>?_,by rw[List.any_toArray,anyR r2 (Ac f2)];rfl⟩
 obtain ⟨d,cs,hd,ry⟩:=Xe r2 (by simpa using hy)
 have hs:eD d=true:=sd.mp f2 d hd
 rw[Pg ry (ll hs)]
 refine SeqAt.eqAt_reads d d1 X.A.in1 s y v cs as ry r1 (ll hs) (ll f1) ?_
 have:=GF hs
 have e:X.A.in1.units=X.A.units+1:=rfl
 have:=Nat.min_le_left d.depth d1.depth
 omega
theorem MN (hu:X.A.units+66 < nV):OpR X (gE .In) (rD X.K inX):=by
 intro pins s σ H x y v u Q I rx ry hq
 obtain ⟨A,d1,d2,d,e,ha,p1,p2,k⟩:=hq
 cases d2 with
 | list ds=>
  obtain ⟨⟨f1,f2⟩,e⟩:=b7 e
  have e':=Res.ok.inj e
  subst e'
  obtain ⟨l,vs,rfl,h1,q2⟩:=p2.list ha
  cases ry
  obtain ⟨its,r,pl,hz⟩:=I.list h1
  obtain ⟨w1,w2⟩:=zL hu I rx ha p1 f1 f2 q2 r
  refine SeqAt.in_listAt (eqR s.heap d1) pl.isList w1 ?_
  rw[w2]
  exact ⟨.bl _,H,I,rfl,k _ A H (aM.refl ha) (Rp.bool.mpr rfl)⟩
 | tuple ds=>
  obtain ⟨⟨f1,f2⟩,e⟩:=b7 e
  have e':=Res.ok.inj e
  subst e'
  obtain ⟨l,vs,rfl,h1,q2⟩:=p2.tuple ha
  cases ry
  obtain ⟨its,r,pl,hz⟩:=I.tuple h1
  obtain ⟨w1,w2⟩:=zL hu I rx ha p1 f1 f2 q2 r
  refine SeqAt.in_tupleAt (eqR s.heap d1) (show s.heap.IsTuple l its.toArray from pl) w1 ?_
  rw[w2]
  exact ⟨.bl _,H,I,rfl,k _ A H (aM.refl ha) (Rp.bool.mpr rfl)⟩
 | _=>cases e
theorem CW (hu:X.A.units+66 < nV):OpR X (gE .NotIn) (rD X.K Pu):=by
 intro pins s σ H x y v u Q I rx ry hq
 obtain ⟨A,d1,d2,d,e,ha,p1,p2,k⟩:=hq
 cases d2 with
 | list ds=>
  obtain ⟨⟨f1,f2⟩,e⟩:=b7 e
  have e':=Res.ok.inj e
  subst e'
  obtain ⟨l,vs,rfl,h1,q2⟩:=p2.list ha
  cases ry
  obtain ⟨its,r,pl,hz⟩:=I.list h1
  obtain ⟨w1,w2⟩:=zL hu I rx ha p1 f1 f2 q2 r
  refine SeqAt.notIn_listAt (eqR s.heap d1) pl.isList w1 ?_
  rw[w2]
  exact ⟨.bl _,H,I,rfl,k _ A H (aM.refl ha) (Rp.bool.mpr rfl)⟩
 | tuple ds=>
  obtain ⟨⟨f1,f2⟩,e⟩:=b7 e
  have e':=Res.ok.inj e
  subst e'
  obtain ⟨l,vs,rfl,h1,q2⟩:=p2.tuple ha
  cases ry
  obtain ⟨its,r,pl,hz⟩:=I.tuple h1
  obtain ⟨w1,w2⟩:=zL hu I rx ha p1 f1 f2 q2 r
  refine SeqAt.notIn_tupleAt (eqR s.heap d1) (show s.heap.IsTuple l its.toArray from pl) w1 ?_
  rw[w2]
  exact ⟨.bl _,H,I,rfl,k _ A H (aM.refl ha) (Rp.bool.mpr rfl)⟩
 | _=>cases e
end
theorem _root_.L2.cJ.cG {k:Nat}{A:eI} (r:cJ k A):A.units+66 < nV:=by have:=r.un;omega
noncomputable def b8 (key:Key):List (ae×ae)→Option ae
 | []=>none
 | (k,d)::r=>if bB k=some key then some d else b8 key r
noncomputable def qu (key:Key):List (ae×ae)→Bool
 | []=>false
 | (k,_)::r=>if bB k=some key then true else qu key r
noncomputable def An (key:Key) (x:ae):List (ae×ae)→List (ae×ae)
 | []=>[]
 | (k,d)::r=>(if bB k=some key then (k,x) else (k,d))::An key x r
noncomputable def ig (kd:ae) (key:Key) (x:ae) (kvs:List (ae×ae)):List (ae×ae):=if qu key kvs=true then An key x kvs else kvs++[(kd,x)]
theorem lM {k:ae}{key key':Key} (h:bB k=some key'):bB k=some key↔key'=key:=by rw[h];simp
section
variable {K:af}{A:Hp}{key:Key}
theorem aQ.look:∀{kvs:List (ae×ae)}{u:List (Key×V)},aQ K A kvs u→(∀d,b8 key kvs=some d→∃v,jw u key=some v∧Rp K A d v)∧(b8 key kvs=none→jw u key=none)
 | [],u,h=>by
  rw[aQ.nil] at h;subst h
  exact ⟨fun d e=>(nomatch e),fun _=>rfl⟩
 | (k,d)::r,u,h=>by
  obtain ⟨key',v,u',rfl,hk,hd,hr⟩:=aQ.cons.mp h
  unfold b8
  by_cases e:bB k=some key
  · have e':=(lM hk).mp e
    rw[if_pos e]
    exact ⟨fun d' z=>by cases z;exact ⟨v,uc (p:=(key',v)) e',hd⟩,fun z=>(nomatch z)⟩
  · have e':¬ key'=key:=fun z=>e ((lM hk).mpr z)
    rw[if_neg e,uf (p:=(key',v)) e']
    exact aQ.look hr
theorem aQ.has:∀{kvs:List (ae×ae)}{u:List (Key×V)},aQ K A kvs u→(u.any fun kv=>decide (kv.1=key))=qu key kvs
 | [],u,h=>by rw[aQ.nil] at h;subst h;rfl
 | (k,d)::r,u,h=>by
  obtain ⟨key',v,u',rfl,hk,hd,hr⟩:=aQ.cons.mp h
  unfold qu
  rw[lp,aQ.has hr]
  by_cases e:bB k=some key
  · rw[if_pos e,decide_eq_true ((lM hk).mp e)];rfl
  · rw[if_neg e,decide_eq_false fun z=>e ((lM hk).mpr z)];rfl
theorem aQ.set {x:ae}{w:V} (hx:Rp K A x w):∀{kvs:List (ae×ae)}{u:List (Key×V)},aQ K A kvs u→aQ K A (An key x kvs) (u.map fun kv=>if kv.1=key then (kv.1,w) else kv)
 | [],u,h=>by rw[aQ.nil] at h;subst h;exact aQ.nil.mpr rfl
 | (k,d)::r,u,h=>by
  obtain ⟨key',v,u',rfl,hk,hd,hr⟩:=aQ.cons.mp h
  unfold An
  rw[dy]
  by_cases e:bB k=some key
  · rw[if_pos e,if_pos ((lM hk).mp e)]
    exact aQ.cons.mpr ⟨key',w,_,rfl,hk,hx,aQ.set hx hr⟩
  · rw[if_neg e,if_neg fun z=>e ((lM hk).mpr z)]
    exact aQ.cons.mpr ⟨key',v,_,rfl,hk,hd,aQ.set hx hr⟩
theorem aQ.snoc {kd x:ae}{w:V} (hk:bB kd=some key) (hx:Rp K A x w):∀{kvs:List (ae×ae)}{u:List (Key×V)},aQ K A kvs u→aQ K A (kvs++[(kd,x)]) (u++[(key,w)])
 | [],u,h=>by rw[aQ.nil] at h;subst h;exact aQ.cons.mpr ⟨key,w,[],rfl,hk,hx,aQ.nil.mpr rfl⟩
 | (k,d)::r,u,h=>by
  obtain ⟨key',v,u',rfl,hk',hd,hr⟩:=aQ.cons.mp h
  exact aQ.cons.mpr ⟨key',v,_,rfl,hk',hd,aQ.snoc hk hx hr⟩
theorem aQ.put {kd x:ae}{w:V}{kvs:List (ae×ae)}{u:List (Key×V)} (hk:bB kd=some key) (hx:Rp K A x w) (h:aQ K A kvs u):aQ K A (ig kd key x kvs) (putK u key w):=by
 unfold ig putK
 rw[h.has]
 by_cases e:qu key kvs=true
 · rw[if_pos e,if_pos e];exact h.set hx
 · rw[if_neg e,if_neg e];exact h.snoc hk hx
theorem aQ.length:∀{kvs:List (ae×ae)}{u:List (Key×V)},aQ K A kvs u→kvs.length=u.length
 | [],u,h=>by rw[aQ.nil] at h;subst h;rfl
 | (k,d)::r,u,h=>by
  obtain ⟨key',v,u',rfl,_,_,hr⟩:=aQ.cons.mp h
  rw[cE,cE,aQ.length hr]
end
noncomputable def inY:ae→ae→Res ae
 | a,.dict kvs=>match bB a with
  | some key=>.ok (.bool (b8 key kvs).isSome)
  | none=>.bad
 | a,b=>inX a b
noncomputable def ir:ae→ae→Res ae
 | a,.dict kvs=>match bB a with
  | some key=>.ok (.bool (!(b8 key kvs).isSome))
  | none=>.bad
 | a,b=>Pu a b
section
variable {X:Cx}
theorem Pk.key {K:af}{A H:Hp}{d:ae}{v:V}{key:Key} (p:Pk K A H d v) (h:bB d=some key):v=kV key:=by
 cases d with
 | int i=>cases h;exact p.int
 | str x=>cases h;exact p.str
 | _=>cases h
theorem aQ.some {K:af}{A:Hp}{kvs:List (ae×ae)}{u:List (Key×V)}{key:Key} (h:aQ K A kvs u):(jw u key).isSome=(b8 key kvs).isSome:=by
 have:=h.look (key:=key)
 cases e:b8 key kvs with
 | none=>rw[this.2 e];rfl
 | some d=>obtain ⟨v,e1,_⟩:=this.1 d e;rw[e1];rfl
theorem aan (hu:X.A.units+66 < nV):OpR X (gE .In) (rD X.K inY):=by
 intro pins s σ H x y v u Q I rx ry hq
 obtain ⟨A,d1,d2,d,e,ha,p1,p2,k⟩:=hq
 cases d2 with
 | dict kvs=>
  have e:(match bB d1 with | some key=>Res.ok (ae.bool (b8 key kvs).isSome) | none=>.bad) = .ok d:=e
  cases hk:bB d1 with
  | none=>rw[hk] at e;cases e
  | some key=>
   rw[hk] at e
   cases e
   obtain ⟨l,w,rfl,h1,h2⟩:=p2.dict ha
   cases ry
   rw[p1.key hk] at rx
   exact acK (by omega) I ((cb ⟨_,key,h1,rfl,rfl⟩)) rx fun s' I'=>⟨.bl _,H,I',rfl,k _ A H (aM.refl ha) (Rp.bool.mpr (by rw[h2.some]))⟩
 | list ds=>exact MN hu pins s σ H x y v u Q I rx ry ⟨A,d1,.list ds,d,e,ha,p1,p2,k⟩
 | tuple ds=>exact MN hu pins s σ H x y v u Q I rx ry ⟨A,d1,.tuple ds,d,e,ha,p1,p2,k⟩
 | _=>cases e
theorem jF (hu:X.A.units+66 < nV):OpR X (gE .NotIn) (rD X.K ir):=by
 intro pins s σ H x y v u Q I rx ry hq
 obtain ⟨A,d1,d2,d,e,ha,p1,p2,k⟩:=hq
 cases d2 with
 | dict kvs=>
  have e:(match bB d1 with | some key=>Res.ok (ae.bool (!(b8 key kvs).isSome)) | none=>.bad) = .ok d:=e
  cases hk:bB d1 with
  | none=>rw[hk] at e;cases e
  | some key=>
   rw[hk] at e
   cases e
   obtain ⟨l,w,rfl,h1,h2⟩:=p2.dict ha
   cases ry
   rw[p1.key hk] at rx
   exact Wm (by omega) I ((cb ⟨_,key,h1,rfl,rfl⟩)) rx fun s' I'=>⟨.bl _,H,I',rfl,k _ A H (aM.refl ha) (Rp.bool.mpr (by rw[h2.some]))⟩
 | list ds=>exact CW hu pins s σ H x y v u Q I rx ry ⟨A,d1,.list ds,d,e,ha,p1,p2,k⟩
 | tuple ds=>exact CW hu pins s σ H x y v u Q I rx ry ⟨A,d1,.tuple ds,d,e,ha,p1,p2,k⟩
 | _=>cases e
end
noncomputable def jH (i:Nat) (mk mv:ME):MS:=fun Γ=>(mv Γ).bind fun x=>(mk Γ).bind fun kd=>match gv Γ i with
 | some (.dict kvs)=>match bB kd with
  | some key=>gd (kvs.length < bg∧i < Γ.length) (.ok (.nx (Γ.set i (some (.dict (ig kd key x kvs))))))
  | none=>.bad
 | _=>.bad
section
variable {X:Cx}{rm:Rm}{Ol O:List Fl}{m m':ME}{e a b:Expr}{pos p apos cpos:Pos}
theorem uO {K:af}{A B H:Hp}{σ:L2.St}{Γ:Ev}{i:Nat}{kvs:List (ae×ae)} (r:aN K A B H O σ Γ) (hi:isO (fl O i)=true) (he:gv Γ i=some (.dict kvs)):∃q u,sv σ i=some (.ref q)∧H q=some (.dK u)∧aQ K A kvs u:=by
 obtain ⟨d,q,o,e1,e2,h1,h2,h3,⟨ds',vs,rfl,rfl,h4⟩ | ⟨kvs,u,rfl,rfl,h4⟩⟩:=r.pF hi (by rw[he];simp)
 · rw[he] at e1;cases e1
 · rw[he] at e1
   cases e1
   exact ⟨q,u,e2,h1,h4⟩
theorem Rp.key {K:af}{A:Hp}{d:ae}{v:V}{key:Key} (p:Rp K A d v) (h:bB d=some key):v=kV key:=Pk.key (H:=A) (.inl p) h
theorem wQ (i:Nat) {x:Str}{xp tpos:Pos} (hu:X.A.units+66 < nV) (ha:QE X a (tE X.K O m)) (he:QE X e (tE X.K O m')) (hi:isO (fl O i)=true:=by rfl) (hN:X.N[i]?=some x:=by rfl) (hv:Vis X.env.scope x:=by first | exact cb rfl | exact fq (cb rfl) | exact fq (fq rfl)) (hd:(x == ("__debug__" : Str))=false:=by decide)
 (hcd:(x == ("__classdict__" : Str))=false:=by decide) (hs:kr e (some (.Subscript (.Name x xp) a tpos)) pos.line X.env=pure false:=by rfl) :
 QS X (.Assign [.Subscript (.Name x xp) a tpos] e pos) (tS X.K rm Ol O O (jH i m m')):=by
 refine QS.imp (Jc (by omega) (du hN hv hd hcd) ha.h he.h hs) fun D σ H ao=>?_
 obtain ⟨A,B,Γ,o,r,em,k⟩:=ao
 obtain ⟨d,e1,em⟩:=Res.aA em
 obtain ⟨kd,e2,em⟩:=Res.aA em
 cases hg:gv Γ i with
 | none=>rw[hg] at em;cases em
 | some dl=>
  rw[hg] at em
  cases dl with
  | dict kvs=>
   have em':(match bB kd with | some key=>gd (kvs.length < bg∧i < Γ.length) (Res.ok (Out.nx (Γ.set i (some (.dict (ig kd key d kvs)))))) | none=>.bad) = .ok o:=em
   cases hk:bB kd with
   | none=>rw[hk] at em';cases em'
   | some key=>
    rw[hk] at em'
    obtain ⟨⟨hz,hlt⟩,em'⟩:=b7 em'
    cases em'
    obtain ⟨q,u,e3,h2,h4⟩:=uO r hi hg
    refine ⟨A,B,Γ,d,r,e1,fun v A1 H1 g1 p1=>⟨.ref q,dq e3,A1,B,Γ,_,r.grow g1,e2,fun w A2 H2 g2 p2=>?_⟩⟩
    have gg:=g1.trans g2
    refine ⟨q,_,rfl,by rw[Rp.key p2 hk];exact Bq.k (gg.hh _ _ h2) (by rw[← h4.length];exact hz),?_⟩
    exact k σ A2 _ ((r.grow gg).change hi hlt (by rw[hg];simp) e3 (gg.hh _ _ h2) (.inr ⟨_,_,rfl,rfl,aQ.put hk (Rp.mono g2.aa _ p1) (aQ.mono gg.aa _ h4)⟩)) gg.aa (gg.nB r.b)
  | _=>cases em
end
noncomputable def ixY:ae→ae→Res ae
 | .dict kvs,a=>match bB a with
  | some key=>match b8 key kvs with
   | some d=>.ok d
   | none=>.bad
  | none=>.bad
 | a,b=>ixD a b
section
variable {X:Cx}
theorem WR:IxR X (fun x y H Q=>∃a v,x = .ref a∧yz H a y (some v)∧X.A.units+1 < nV∧Q v H):=by
 intro value slice pins s σ H x y v u Q I rx ry h hs
 obtain ⟨a,w,rfl,g,hu,q⟩:=h
 cases rx
 have hT:=HX I g
 unfold xi
 refine ai ?_
 rw[getitemInPython_of_ne hT.not_modules]
 refine ai (qf hT vS.lookup ?_)
 have fin:cn (cx X.prog X.w) X.A (wd slice false (.ref a) u) (fun r s₃=>cn (cx X.prog X.w) X.A (letTemporaryGo value (.ref a) r >>= fun _=>pure r) (EP X pins σ Q) X.xe s₃) X.xe s:=by
  rw[hs]
  exact wpAny_operating (gc (Ou hu I g ry fun w' s' I' rw'=>(⟨w,H,I',rw',q⟩:EP X pins σ Q w' s')) (fun r s₃ h₃=>ai (wpAny_letTemporaryGo (ay h₃))) fun _ _ x=>x)
 first
  | exact ay (ai fin)
  | exact ai (ay (ai fin))
  | exact ai fin
theorem Zz (hu:X.A.units+66 < nV):IxR X (rD X.K ixY):=by
 intro value slice pins s σ H x y v u Q I rx ry hq hs
 obtain ⟨A,d1,d2,d,e,ha,p1,p2,k⟩:=hq
 cases d1 with
 | dict kvs=>
  have e:(match bB d2 with | some key=>(match b8 key kvs with | some d=>Res.ok d | none=>.bad) | none=>.bad) = .ok d:=e
  cases hk:bB d2 with
  | none=>rw[hk] at e;cases e
  | some key=>
   rw[hk] at e
   have e:(match b8 key kvs with | some d=>Res.ok d | none=>.bad) = .ok d:=e
   cases hl:b8 key kvs with
   | none=>rw[hl] at e;cases e
   | some d0=>
    rw[hl] at e
    cases e
    obtain ⟨l,w,rfl,h1,h2⟩:=p1.dict ha
    obtain ⟨v0,ev,rv⟩:=(h2.look (key:=key)).1 d hl
    refine WR value slice pins s σ H _ y v u Q I rx ry ⟨l,v0,rfl,?_,by omega,k _ A H (aM.refl ha) rv⟩ hs
    rw[p2.key hk,← ev]
    exact (.inl ⟨_,_,h1,rfl,rfl⟩)
 | list ds=>exact Ei value slice pins s σ H x y v u Q I rx ry ⟨A,.list ds,d2,d,e,ha,p1,p2,k⟩ hs
 | tuple ds=>exact Ei value slice pins s σ H x y v u Q I rx ry ⟨A,.tuple ds,d2,d,e,ha,p1,p2,k⟩ hs
 | str ds=>exact Ei value slice pins s σ H x y v u Q I rx ry ⟨A,.str ds,d2,d,e,ha,p1,p2,k⟩ hs
 | _=>cases e
theorem mD {a b:Expr}{O:List Fl}{m1 m2:ME}{pos:Pos} (hu:X.A.units+66 < nV) (ha:QE X a (tP X.K O m1)) (hb:QE X b (tP X.K O m2)) (hs:Br b):QE X (.Subscript a b pos) (tE X.K O (aq ixY m1 m2)):=QE.imp (T4 (Zz hu) ha.h hb.h hs) fun _ _ _=>zE
end
noncomputable def m8:List (ae×ae)→Option (List Int)
 | []=>some []
 | (.int k,_)::r=>(m8 r).map (k :: ·)
 | _=>none
theorem GJ {K:af}{A:Hp}:∀{kvs:List (ae×ae)}{ns:List Int}{u:List (Key×V)},m8 kvs=some ns→aQ K A kvs u→u.map (·.1)=ns.map mi
 | [],ns,u,h,r=>by cases h;rw[aQ.nil.mp r];rfl
 | (.int k,d)::rest,ns,u,h,r=>by
  have h:(m8 rest).map (k :: ·)=some ns:=h
  cases e:m8 rest with
  | none=>rw[e] at h;cases h
  | some ms=>
   rw[e] at h;cases h
   obtain ⟨key,v,u',rfl,hk,_,r'⟩:=aQ.cons.mp r
   cases hk
   rw[dy,dy,GJ e r']
 | (.none,d)::rest,ns,u,h,r=>by cases h
 | (.bool _,d)::rest,ns,u,h,r=>by cases h
 | (.str _,d)::rest,ns,u,h,r=>by cases h
 | (.list _,d)::rest,ns,u,h,r=>by cases h
 | (.tuple _,d)::rest,ns,u,h,r=>by cases h
 | (.dict _,d)::rest,ns,u,h,r=>by cases h
theorem Vb {u:List (Key×V)}{vs:List (Key×ag)} (r:KV u vs):vs.map (·.1)=u.map (·.1):=by
 unfold KV at r
 induction r with
 | nil=>rfl
 | cons h t ih=>rw[dy,dy,ih,h.1]
theorem W0 {P:cc}{w:eK}{i:Int}{v:ag} (h:(bD P w).is (.inl i) v=true):∃t,v = .int i t:=by
 rw[Ks] at h
 cases v <;> simp_all [qH,Value.isInt]
theorem rO:∀{vs:List ag}{ns:List Int},vs.length=ns.length→(∀(j:Nat) (v:ag),vs[j]?=some v→∃n t,ns[j]?=some n∧v = .int n t)→sm vs ns
 | [],[],_,_=>.nil
 | [],_::_,h,_=>by simp at h
 | _::_,[],h,_=>by simp at h
 | v::vs,n::ns,h,g=>by
  obtain ⟨n',t,e,rfl⟩:=g 0 v rfl
  obtain rfl:n=n':=Option.some.inj e
  exact .cons n t (rO (by simpa using h) fun j v hv=>g (j+1) v (by simpa using hv))
section
variable {X:Cx}
theorem Fz (hc:X.calm=true):dU X (.builtin "sorted") (fun xs H Q=>∃p u ns,xs=[.ref p]∧Rd H p (.dK u)∧u.map (·.1)=ns.map mi∧ns.length < 3000∧∀l,H l=none→Q (.ref l) (upd H l (.lst ((srt ns).map V.int)))):=by
 intro pins s σ H xs us Q I r h
 obtain ⟨p,u,ns,rfl,he,hk,h64,q⟩:=h
 obtain ⟨z,rfl,rx⟩:=vals1 r
 cases rx
 obtain ⟨hz,hsys,vs,kv,dd⟩:=m7 I.hok he
 obtain ⟨ep,hat⟩:=dd.dictAt
 have hks:=(Vb kv).trans hk
 have hln:vs.length=ns.length:=by have:=congrArg List.length hks;rw[av,av] at this;exact this
 have small:vs.length≤bg:=by rw[hln];exact gy (y0 h64 (by decide))
 refine (Calls.call_function_entry kind_sorted plain_sorted entry_sorted (args_sorted1 _) ?_);unfold Builtin.«sorted»
 refine ai (m:=checkCount "sorted" 1 1 _) (ay (ai (PySem.W.kdu_collect (A:=X.A.in1) (PySem.W.kdl_dict (knd:=bD X.prog X.w) (kvs:=vs) (ep:=ep) hsys) (I.ok.hd hc) hat small fun h' tk acc hkeep hacc=>?_)))
 have hl:acc.toList.length=ns.length:=by rw[pj,hacc.1,hln]
 have hI:sm acc.toList ns:=rO hl fun j v hv=>by
  obtain ⟨k,x,e1,e2⟩:=hacc.2 j v (by rw[← rS];exact hv)
  have e3:(ns.map mi)[j]?=some k:=by rw[← hks,cp,e1];rfl
  rw[cp] at e3
  cases e4:ns[j]? with
  | none=>rw[e4] at e3;cases e3
  | some n=>
   rw[e4] at e3;cases e3
   obtain ⟨t,rfl⟩:=W0 e2
   exact ⟨n,t,rfl,rfl⟩
 have hoL:(h'.push (og "list" acc.toList.toArray 0)).get? h'.objs.size=some (og "list" acc.toList.toArray 0):=d4 _ rfl
 have I1:L2.Inv X pins σ H { s with heap:=h',toks:=tk }:=I.kept hkeep
 refine ai (wpAny_newList (ai (jI (kD slot_list_sort ⟨_,hoL,rfl⟩ entry_list_sort (Pa hoL hI (gy (d6 (show _ < 3000 by omega) (by decide))) fun out ns' a1 a2 a3=>⟨_,rfl,ay ⟨_,rfl,?_⟩⟩) (args_list_sort _)))) (by rw[hl];exact gy (y0 h64 (by decide))))
 have e:ns'=srt ns:=xU (a2.trans (lz ns).symm) a3 (tL ns)
 subst e
 obtain ⟨c,hc'⟩:=sortedHeap_at (out:=out) hoL
 refine ⟨.ref h'.objs.size,_,I1.laid (a:=h'.objs.size) (o:=.lst ((srt ns).map V.int)) (h':=sortedHeap (h'.push (og "list" acc.toList.toArray 0)) h'.objs.size acc.toList out) (t':=tk) (fun b o e=>?_) (aE _) ?_,rfl,q _ (I1.hok.fresh (aE _))⟩
 · have hb:b < h'.objs.size:=dP e
   rw[sortedHeap_old (gL hb) (by rw[size_push'];exact Nat.lt_succ_of_lt hb)]
   exact aS _ e
 · refine ⟨?_,out.toList,c,vQ a1,by simpa[og] using hc'⟩
   rw[av,(lz ns).length_eq]
   exact gy (y0 h64 (by decide))
noncomputable def Ae:List ae→Res ae
 | [.dict kvs]=>match m8 kvs with
  | some ns=>gd (ns.length < 3000) (.ok (.list ((srt ns).map ae.int)))
  | none=>.bad
 | _=>.bad
theorem J6 (hc:X.calm=true):dU X (.builtin "sorted") (rCF X.K Ae):=by
 intro pins s σ H xs us Q I r h
 obtain ⟨A,ds,d,e,ha,p,k⟩:=h
 match ds,e with
 | [.dict kvs],e=>
  have e:(match m8 kvs with | some ns=>gd (ns.length < 3000) (.ok (.list ((srt ns).map ae.int))) | none=>.bad)=Res.ok d:=e
  cases hn:m8 kvs with
  | none=>rw[hn] at e;cases e
  | some ns=>
   rw[hn] at e
   obtain ⟨hz,e⟩:=b7 e
   cases e
   obtain ⟨v,r',rfl,p1,p2⟩:=p.cons
   obtain rfl:=p2.nil
   obtain ⟨l,u,rfl,h1,q1⟩:=p1.dict ha
   exact Fz hc pins s σ H _ us Q I r ⟨l,u,ns,rfl,h1,GJ hn q1,hz,fun q hq=>k _ A _ (aM.lay ha hq) ⟨q,_,rfl,hq,bw,ha.free hq,.inl ⟨_,_,rfl,rfl,aB.ints⟩⟩⟩
end
noncomputable def rem (H:Hp) (p:Addr):Hp:=fun b=>if b=p then none else H b
theorem Eo {H:Hp}{p:Addr}:rem H p p=none:=if_pos rfl
theorem sS {H:Hp}{p b:Addr} (h:b≠p):rem H p b=H b:=if_neg h
theorem U7 {H:Hp}{p:Addr}:aC (rem H p) H:=fun b o e=>by
 by_cases h:b=p
 · subst h;rw[Eo] at e;cases e
 · rw[sS h] at e;exact e
theorem pL {B H:Hp}{p:Addr} (s:aC B H) (hp:B p=none):aC B (rem H p):=fun b o e=>by
 have h:b≠p:=fun z=>by rw[z,hp] at e;cases e
 rw[sS h];exact s b o e
section
variable {K:af}{A B H A' H':Hp}{O:List Fl}{σ:L2.St}{Γ:Ev}{i:Nat}
theorem aaM {Γ:Ev}{i:Nat} (h:gv Γ i≠none):i < Γ.length:=by
 rcases kq i Γ.length with z | z
 · exact z
 · exact absurd (by unfold gv;rw[ax,eT z];rfl) h
theorem aN.YL {p:Addr}{o':HO}{dm:ae} (r:aN K A B H O σ Γ) (hi:isO (fl O i)=true) (he:gv Γ i≠none) (hs:sv σ i=some (.ref p)) (sa:aC A A') (ah:aC A' H') (hk:∀b u,b≠p→H b=some u→H' b=some u) (nw:New A A' H)
 (ap:A' p=none) (hp:H' p=some o') (ho:gZ K A' dm o'):aN K A' B H' O σ (Γ.set i (some dm)):=by
 obtain ⟨d,p',o0,e1,e2,g1,g2,g3,g4⟩:=r.pF hi he
 rw[hs] at e2
 cases e2
 have hl:=aaM he
 refine ⟨ah,fun b u q=>?_,by rw[fx];exact r.len,fun j=>?_,fun j k hjk q1 q2 q3 q4=>?_⟩
 · have hb:b≠p:=fun z=>by rw[z,g3] at q;cases q
   exact hk b u hb (r.b b u q)
 · by_cases hj:i=j
   · subst hj
     unfold gv
     rw[bJ hl]
     intro d'' e
     cases e
     refine ⟨_,hs,?_⟩
     cases hf:fl O i with
     | imm=>rw[hf] at hi;cases hi
     | bor=>rw[hf] at hi;cases hi
     | own=>exact ⟨p,o',rfl,hp,ap,g3,ho⟩
     | fix p0=>
      obtain ⟨v',ev,q⟩:=r.slot i d e1
      rw[hf] at q
      rw[hs] at ev
      cases ev
      exact ⟨q.1,p,o',rfl,hp,ap,g3,ho⟩
     | exc C=>rw[hf] at hi;cases hi
     | nst b=>rw[hf] at hi;cases hi
   · unfold gv
     rw[aL hj]
     intro d'' e''
     obtain ⟨v',ev,q⟩:=r.slot j d'' e''
     refine ⟨v',ev,?_⟩
     have hne:isO (fl O j)=true→∀p',v' = .ref p'→p'≠p:=fun hf p' ez z=>by
      refine r.sep i j hj hi hf he (by show gv Γ j≠none;unfold gv;rw[e''];simp) ?_
      rw[hs,ev,ez,z]
     cases hf:fl O j with
     | imm=>rw[hf] at q;exact Rp.mono sa d'' q
     | bor=>rw[hf] at q;exact Pk.mono sa (aC.refl _) q
     | own=>
      rw[hf] at q
      obtain ⟨p',o',rfl,u1,u2,u3,u4⟩:=q
      exact ⟨p',o',rfl,hk _ _ (hne (by rw[hf];rfl) p' rfl) u1,nw p' u2 (by rw[u1];simp),u3,u4.mono sa⟩
     | fix p0=>
      rw[hf] at q
      obtain ⟨q0,p',o',rfl,u1,u2,u3,u4⟩:=q
      exact ⟨q0,p',o',rfl,hk _ _ (hne (by rw[hf];rfl) p' rfl) u1,nw p' u2 (by rw[u1];simp),u3,u4.mono sa⟩
     | exc C=>
      rw[hf] at q
      obtain ⟨p',ob,w1,w2,w3⟩:=q
      exact ⟨p',ob,w1,sa _ _ w2,w3⟩
     | nst b=>
      rw[hf] at q
      intro z
      obtain ⟨p',xs,kvs,w1,w2,w3,w4,w5,w6⟩:=q z
      have hn:p'≠p:=fun z=>by subst z;rw[g1] at w3;exact g4.nx w3
      exact ⟨p',xs,kvs,w1,w2,hk _ _ hn w3,nw p' w4 (by rw[w3];simp),w5,w6.mono sa⟩
 · have h3:gv Γ j≠none:=by
    by_cases hj:i=j
    · subst hj;exact he
    · unfold gv at q3 ⊢;rw[aL hj] at q3;exact q3
   have h4':gv Γ k≠none:=by
    by_cases hk:i=k
    · subst hk;exact he
    · unfold gv at q4 ⊢;rw[aL hk] at q4;exact q4
   exact r.sep j k hjk q1 q2 h3 h4'
end
inductive MA where
 | imm | bor | var (i:Nat) | new
noncomputable def Lh (K:af) (A B:Hp) (σ:L2.St) (Γ:Ev) (H0 H:Hp):MA→ae→V→Prop
 | .imm,d,v=>Rp K A d v
 | .bor,d,v=>Pk K A B d v
 | .var i,d,v=>sv σ i=some v∧gv Γ i=some d
 | .new,d,v=>∃p o,v = .ref p∧H0 p=none∧H p=some o∧A p=none∧gZ K A d o
noncomputable def nu (K:af) (A B:Hp) (σ:L2.St) (Γ:Ev) (H0 H:Hp):List MA→List ae→List V→Prop
 | [],ds,vs=>ds=[]∧vs=[]
 | a::as,ds,vs=>∃d r v s,ds=d::r∧vs=v::s∧Lh K A B σ Γ H0 H a d v∧nu K A B σ Γ H0 H as r s
section
variable {K:af}{A B H H0 A' H':Hp}{σ:L2.St}{Γ:Ev}
theorem nu.base (s:aC H0 H):∀{as:List MA}{ds:List ae}{vs:List V},nu K A B σ Γ H H' as ds vs→nu K A B σ Γ H0 H' as ds vs
 | [],ds,vs,h=>h
 | a::as,ds,vs,h=>by
  obtain ⟨d,r,v,t,rfl,rfl,h1,h2⟩:=h
  refine ⟨d,r,v,t,rfl,rfl,?_,nu.base s h2⟩
  cases a with
  | new=>obtain ⟨p,o,e,h0,q⟩:=h1;exact ⟨p,o,e,s.free h0,q⟩
  | imm=>exact h1
  | bor=>exact h1
  | var i=>exact h1
theorem nu.len:∀{as:List MA}{ds:List ae}{vs:List V},nu K A B σ Γ H0 H as ds vs→ds.length=as.length∧vs.length=as.length
 | [],ds,vs,h=>by obtain ⟨rfl,rfl⟩:=h;exact ⟨rfl,rfl⟩
 | a::as,ds,vs,h=>by
  obtain ⟨d,r,v,t,rfl,rfl,_,h2⟩:=h
  have:=h2.len
  exact ⟨by rw[cE,cE,this.1],by rw[cE,cE,this.2]⟩
theorem nu.get:∀{as:List MA}{ds:List ae}{vs:List V}{i:Nat}{d:ae}{v:V}{a:MA},nu K A B σ Γ H0 H as ds vs→as[i]?=some a→ds[i]?=some d→vs[i]?=some v→Lh K A B σ Γ H0 H a d v
 | [],ds,vs,i,d,v,a,h,ea,ed,ev=>by simp at ea
 | b::as,ds,vs,i,d,v,a,h,ea,ed,ev=>by
  obtain ⟨d0,r,v0,t,rfl,rfl,h1,h2⟩:=h
  match i with
  | 0=>simp at ea ed ev;subst ea;subst ed;subst ev;exact h1
  | i+1=>exact h2.get (by simpa using ea) (by simpa using ed) (by simpa using ev)
end
noncomputable def tAm (K:af) (O:List Fl) (as:List MA) (ms:List ME):TA:=fun σ H Q=>∃A B Γ ds,aN K A B H O σ Γ∧evs ms Γ = .ok ds∧∀vs A' H',aM A H A' H'→nu K A' B σ Γ H H' as ds vs→Q vs H'
section
variable {X:Cx}{K:af}{O:List Fl}{m:ME}{ms:List ME}{as:List MA}{e:Expr}{es:List Expr}{pos:Pos}
theorem Gx:QA X [] (tAm K O [] []):=QA.imp fQ fun σ H Q ao=>by
 obtain ⟨A,B,Γ,ds,r,em,k⟩:=ao
 cases em
 exact k [] A H (aM.refl r.a) ⟨rfl,rfl⟩
theorem sE (ha:QE X e (tE K O m)) (hr:QA X es (tAm K O as ms)) (hs:noStar e=true:=by rfl):QA X (e::es) (tAm K O (.imm::as) (m::ms)):=QA.imp (cA ha.h hr.h (bY hs)) fun σ H Q ao=>by
 obtain ⟨A,B,Γ,ds,r,em,k⟩:=ao
 obtain ⟨d,e1,em⟩:=Res.aA em
 obtain ⟨ds',e2,em⟩:=Res.aA em
 cases em
 exact ⟨A,B,Γ,d,r,e1,fun v A1 H1 g1 p1=>⟨A1,B,Γ,ds',r.grow g1,e2,fun vs A2 H2 g2 p2=>k (v::vs) A2 H2 (g1.trans g2) ⟨d,ds',v,vs,rfl,rfl,Rp.mono g2.aa d p1,p2.base g1.hh⟩⟩⟩
theorem G8 (i:Nat) {x:Str} (hr:QA X es (tAm K O as ms)) (hN:X.N[i]?=some x:=by rfl) (hv:Vis X.env.scope x:=by first | exact cb rfl | exact fq (cb rfl) | exact fq (fq rfl)) (hd:(x == ("__debug__" : Str))=false:=by decide)
 (hcd:(x == ("__classdict__" : Str))=false:=by decide):QA X (.Name x pos::es) (tAm K O (.var i::as) (aj i::ms)):=QA.imp (cA (du hN hv hd hcd) hr.h (bY rfl)) fun σ H Q ao=>by
 obtain ⟨A,B,Γ,ds,r,em,k⟩:=ao
 obtain ⟨d,e1,em⟩:=Res.aA em
 obtain ⟨ds',e2,em⟩:=Res.aA em
 cases em
 obtain ⟨v,e3,_⟩:=r.slot i d (pg e1)
 exact ⟨v,dq e3,A,B,Γ,ds',r,e2,fun vs A2 H2 g2 p2=>k (v::vs) A2 H2 g2 ⟨d,ds',v,vs,rfl,rfl,⟨e3,pg e1⟩,p2⟩⟩
end
noncomputable def spM (K:af) (fs:List Fl) (j:Nat) (f:List ae→Res ae):Sp:=fun vs H Q _=>∃A B ds d dm p o,aC A H∧aC B H∧vs.length=fs.length∧ds.length=fs.length∧vs[j]?=some (.ref p)∧H p=some o∧A p=none∧B p=none ∧
 (∀e,ds[j]?=some e→gZ K A e o)∧(∀(i:Nat) e v,i≠j→ds[i]?=some e→vs[i]?=some v→Ht K A B (fl fs i) e v)∧f ds = .ok (.tuple [d,dm]) ∧
 ∀v A' H' o',aC A A'→aC A' H'→(∀b u,b≠p→H b=some u→H' b=some u)→New A A' H→A' p=none→H' p=some o'→gZ K A' dm o'→Rp K A' d v→Q v H'
noncomputable def kOk:MA→Fl→Bool
 | .imm,.imm=>true
 | .imm,.bor=>true
 | .bor,.bor=>true
 | _,_=>false
theorem Lh.adl {K:af}{A B H0 H:Hp}{σ:L2.St}{Γ:Ev}{a:MA}{f:Fl}{d:ae}{v:V} (h:Lh K A B σ Γ H0 H a d v) (hk:kOk a f=true):Ht K A B f d v:=by
 cases a <;> cases f <;> first | exact h | exact .inl h | cases hk
noncomputable def Lk:ae→Option (ae×ae)
 | .tuple [d,dm]=>some (d,dm)
 | _=>none
noncomputable def tM (K:af) (O:List Fl) (i:Nat) (f:List ae→Res ae) (ms:List ME):TE:=fun σ H Q=>∃A B Γ ds d dm,aN K A B H O σ Γ∧evs ms Γ = .ok ds∧f ds = .ok (.tuple [d,dm]) ∧
 ∀v A' H',aN K A' B H' O σ (Γ.set i (some dm))→aC A A'→New A A' B→Rp K A' d v→Q v H'
section
variable {X:Cx}{k:Nat}{x:Str}{ps:List Str}{fs:List Fl}{j:Nat}{f:List ae→Res ae}{O:List Fl}{as:List MA}{ms:List ME}{p pos:Pos}{e:Expr}{es:List Expr}
theorem Bg (i:Nat) (F:Def X.prog X.w X.K X.mg X.base k x ps (spM X.K fs j f)) (hr:cJ k X.A) (hg:Gl X x) (ha:QA X (e::es) (tAm X.K O as ms)) (hj:as[j]?=some (.var i)) (hi:isO (fl O i)=true) (hlen:as.length=fs.length) (hfs:∀l,l < fs.length→l≠j→kOk (as.getD l .new) (fl fs l)=true)
 (hdb:(x == ("__debug__" : Str))=false:=by decide) (he:noStar e=true:=by rfl) (hpl:fC es=true:=by rfl):QE X (.Call (.Name x p) (e::es) [] pos) (tM X.K O i f ms):=
 QE.imp (FZ F hr hg ha.h hdb (bY he) (g8 hpl)) fun σ H Q ao=>by
  obtain ⟨A,B,Γ,ds,d,dm,r,e1,e2,k⟩:=ao
  refine ⟨A,B,Γ,ds,r,e1,fun vs A1 H1 g1 p1=>?_⟩
  show spM X.K fs j f (vs++[]) H1 Q E0
  rw[fb]
  have hl:=p1.len
  have r1:=r.grow g1
  have hjl:j < as.length:=(br.mp hj).1
  have hdj:ds[j]?=some ds[j]:=aI (by omega)
  have hvj:vs[j]?=some vs[j]:=aI (by omega)
  obtain ⟨hs,hg'⟩:sv σ i=some vs[j]∧gv Γ i=some ds[j]:=p1.get hj hdj hvj
  have hgn:gv Γ i≠none:=by rw[hg'];simp
  obtain ⟨d',p',o,u1,u2,u3,u4,u5,u6⟩:=r1.pF hi hgn
  rw[hs] at u2
  rw[hg'] at u1
  have u1:ds[j]=d':=Option.some.inj u1
  have u2:vs[j] = .ref p':=Option.some.inj u2
  refine ⟨A1,B,ds,d,dm,p',o,g1.ah,r1.b,by omega,by omega,by rw[hvj,u2],u3,u4,u5,fun z hz=>?_,fun l z v hlj hz hv=>?_,e2,fun v A2 H2 o2 s1 s2 s3 s4 s5 s6 s7 s8=>?_⟩
  · rw[hdj] at hz
    rw[← Option.some.inj hz,u1];exact u6
  · have hll:l < as.length:=by have:=(br.mp hz).1;omega
    have ea:as[l]?=some (as.getD l .new):=by rw[ax,aI hll];rfl
    exact (p1.get ea hz hv).adl (hfs l (by omega) hlj)
  · exact k v A2 H2 (r1.YL hi hgn (by rw[hs,u2]) s1 s2 s3 s4 s5 s6 s7) (g1.aa.trans s1) ((g1.nB r.b).trans (s4.mono r1.b)) s8
end
theorem W6 {t:ae}{d dm:ae} (h:Lk t=some (d,dm)):t = .tuple [d,dm]:=by
 unfold Lk at h
 split at h
 · cases h;rfl
 · cases h
section
variable {X:Cx}{K:af}{rm:Rm}{Ol O O':List Fl}{f:List ae→Res ae}{ms:List ME}{m:ME}{e:Expr}{pos:Pos}
end
section
variable {P:cc}{w:eK}{K:af}{mg:Str→Option ag}{base:Heap}
theorem zJ {fs O:List Fl}{N:List Str}{A B H:Hp}{ds:List ae}{vs:List V}{j:Nat}{p:Addr}{o:HO} (ha:aC A H) (hb:aC B H) (hv:vs.length=fs.length) (hd:ds.length=fs.length) (hj:vs[j]?=some (.ref p)) (hp:H p=some o) (ap:A p=none) (bp:B p=none)
 (hown:∀e,ds[j]?=some e→gZ K A e o) (hargs:∀(i:Nat) e v,i≠j→ds[i]?=some e→vs[i]?=some v→Ht K A B (fl fs i) e v) (hOj:fl O j = .fix p) (hO:∀i,i < fs.length→i≠j→(fl O i = .imm∧fl fs i = .imm)∨fl O i = .bor) (hn:fs.length≤N.length) :
 aN K A (rem H p) H O (L2.start N vs) (ds.map some++cK (N.length - ds.length) none):=by
 have gvN:∀i,gv (ds.map some++cK (N.length - ds.length) none) i=ds[i]?:=fun i=>by
  unfold gv
  rw[ax]
  rcases kq i ds.length with h | h
  · rw[eh (by simpa using h),cp,aI h];rfl
  · rw[dt (by simpa using h),i7,eT h]
    split <;> rfl
 have svN:∀i v,vs[i]?=some v→sv (L2.start N vs) i=some v:=fun i v e=>by
  unfold sv L2.start
  rw[ax]
  have h:i < vs.length:=(br.mp e).1
  rw[eh (by simpa using h),cp,e];rfl
 have isj:∀i,i < fs.length→isO (fl O i)=true→i=j:=fun i hi h=>by
  rcases Classical.em (i=j) with z | z
  · exact z
  · rcases hO i hi z with ⟨q,_⟩ | q <;> rw[q] at h <;> cases h
 refine ⟨ha,U7,?_,fun i d e=>?_,fun i l hil h1 h2 h3 h4=>?_⟩
 · unfold L2.start
   rw[aw,aw,av,av,df,df]
   omega
 · rw[gvN] at e
   have hi:i < fs.length:=by rw[← hd];exact (br.mp e).1
   by_cases z:i=j
   · subst z
     exact ⟨_,svN i _ hj,by rw[hOj];exact ⟨rfl,p,o,rfl,hp,ap,Eo,hown d e⟩⟩
   · have ev:vs[i]?=some vs[i]:=aI (by omega)
     refine ⟨_,svN i _ ev,?_⟩
     have q:=hargs i d _ z e ev
     rcases hO i hi z with ⟨z1,z2⟩ | z1
     · rw[z1];rw[z2] at q;exact q
     · rw[z1]
       cases hf:fl fs i with
       | imm=>rw[hf] at q;exact .inl q
       | bor=>rw[hf] at q;exact Pk.mono (aC.refl _) (pL hb bp) q
       | own=>rw[hf] at q;exact Pk.mono (aC.refl _) (pL hb bp) q
       | fix p0=>rw[hf] at q;exact Pk.mono (aC.refl _) (pL hb bp) q
       | exc C=>rw[hf] at q;exact Pk.mono (aC.refl _) (pL hb bp) q
       | nst b=>rw[hf] at q;exact Pk.mono (aC.refl _) (pL hb bp) q
 · rw[gvN] at h3 h4
   have hi:i < fs.length:=by
    rw[← hd]
    rcases kq i ds.length with h | h
    · exact h
    · exact absurd (eT h) h3
   have hl:l < fs.length:=by
    rw[← hd]
    rcases kq l ds.length with h | h
    · exact h
    · exact absurd (eT h) h4
   exact absurd ((isj i hi h1).trans (isj l hl h2).symm) hil
end
section
variable {K:af}{A B H:Hp}{O:List Fl}{σ:L2.St}{Γ:Ev}
end
section
variable {K:af}{O Ob O1:List Fl}{tn:List Str}{ix is:List Nat}{it:MI}{g:MG}{f:List ae→Res ae}{ms:List ME}
end
section
variable {X:Cx}{O Ob O1 Ol O':List Fl}{scope:nk}{is:List Nat}{it:MI}{g:MG}{m1:ME}{f:List ae→Res ae}{ms:List ME}{e1 elt tg iter:Expr}{nt:Nat}
end
abbrev K7:List ag:=[.type "ValueError",.type "Exception",.type "BaseException",.type "object"]
noncomputable abbrev vD (K:af) (C:Addr):Prop:=AB K C K7 "ValueError.__new__" = true
theorem Uv {K:af}{h:Heap}{C:Addr} (X:K.In h) (q:vD K C):∃bm N nm qn bs hdct sn sub ab col dd k0 k1 k2 k3 k5 mN,
 h.get? C=some (excClassObj nm qn C N bs bm hdct sn sub ab col dd k0 k1 k2 k3 k5 "ValueError.__new__")∧h.Ns N mN∧mN "__init__" = none∧OwnTail h K7 bm:=by
 have q:AB K C K7 "ValueError.__new__" = true:=q
 unfold AB at q
 cases e:K.lookup C with
 | none=>rw[e] at q;cases q
 | some ob=>
  rw[e] at q
  split at q
  · rename_i heq
    cases heq
    rename_i dd cd sl
    split at q
    · rename_i C' bm k0 k1 k2 k3 n k5 hm hs
      simp only[dS,beq_iff_eq,xa] at q
      obtain ⟨⟨⟨⟨⟨q1,q2⟩,q3⟩,q4⟩,q5⟩,q6⟩:=q
      subst q1 q2
      obtain ⟨nm,bs,mro,nsA,qn,hd,sn,sub,ab,col,del⟩:=cd
      have hm:mro = .ref C'::bm:=hm
      have q3:del=false:=q3
      subst hm q3
      obtain ⟨l⟩:=sl
      have hs:l=[k0,k1,k2,k3,some (.builtin "ValueError.__new__"),k5]:=hs
      subst hs
      exact ⟨bm,nsA,nm,qn,bs,hd,sn,sub,ab,col,dd,k0,k1,k2,k3,k5,_,X _ _ e,.of_isNs (PySem.W.isNs_of_in X q5),PySem.W.nsMap_none_of_in X q5 q6,PySem.W.tail_of_in X q4⟩
    · cases q
  · cases q
noncomputable def rW (X:Cx) (C:Addr) (XE:Hp→Prop):Prop:=∀(pins:List (Addr×Obj)) (σ:L2.St) (H:Hp) (s:ar) (h':Heap) (e:Addr) (vs:List ag),L2.Inv X pins σ H s→Heap.MadeExcOf s.heap h' e (.ref C) vs→XE H→X.xe (.ref e) { s with heap:=h' }
section
variable {X:Cx}
theorem R8 {x:Str}{C:Addr}{e:Expr}{te:TE}{np cpos pos:Pos}{XE:Hp→Prop} (hc:X.calm=true) (hg:Gl X x) (hm:X.mg x=some (.ref C)) (hC:vD X.K C) (he:PE X e te) (hx:rW X C XE)
 (hs:d5 (e::[]) X.env=(false,eval e X.env)::d5 [] X.env) (hd:(x == ("__debug__" : Str))=false:=by decide) :
 PS X (.Raise (some (.Call (.Name x np) [e] [] cpos)) none pos) (fun D σ H=>te σ H fun v H1=>XE H1∧[v].length=1):=by
 intro pins s σ H D I h
 obtain ⟨bm,N,nm,qn,bs,hdct,sn,sub,ab,col,dd,k0,k1,k2,k3,k5,mN,h1,h2,h3,h4⟩:=Uv I.ok.mod.kin hC
 refine wpAny_Raise_call_subT (C:=C) (nm:=nm) (q:=qn) (N:=N) (bs:=bs) (bm:=bm) (hdct:=hdct) (sn:=sn) (sub:=sub) (ab:=ab) (col:=col) (dd:=dd) (k0:=k0) (k1:=k1) (k2:=k2) (k3:=k3) (k5:=k5) PySem.F.excBase_ValueError (mN:=mN) (h4.hasType (by decide +kernel)) (I.ok.hd hc) (by rw[hs];rfl) h3 (lH I hg hm ⟨rfl,?_⟩ hd)
 have hp:=cA he fQ hs cpos pins s σ H (fun vs H2=>XE H2∧vs.length=1) I h
 rw[hs] at hp ⊢
 refine oq (thn hp fun us s2 z=>?_)
 obtain ⟨vs,H2,I2,r,q,hl⟩:=z
 refine ⟨rfl,by rw[← r.length,hl];decide,I2.bk _ _ h1,h2.keeps I2.bk,h4.keeps I2.bk,fun h' ea hm'=>hx pins σ H2 s2 h' ea us I2 hm' q⟩
end
noncomputable def CXE (P:cc) (w:eK):CXT:=fun outer H s E e s'=>∃(ea t C:Addr) (B:Heap) (H':Hp),e = .ref ea∧s'.os=s.os∧t9 s'.gens∧rk B outer ea (.ref C) (.ref t) s'.heap ∧
 (∀b o,s.heap.get? b=some o→b∉frs outer→H b=none→B.get? b=some o)∧HOk P w H' B∧Un (frs outer) [] H H' s.heap s'.heap∧E (.ref C) none H'
theorem gA {base h:Heap}{l:List Env} (F:h.FunFrames base l) {b:Addr} (hb:b∈frs l):∃o,h.get? b=some o∧∀vs,o.data ≠ .fields vs:=(F.mem hb).2
theorem zX {P:cc}{w:eK}{K:af}{mg:Str→Option ag}{base:Heap}{N:List Str}{qual:Str}{scope:nk}{f:Addr}{cd:ag}{A:eI}{outer:List Env}{s:ar}{H:Hp}{E:XK}{C:Addr} :
 rW (lX (CXE P w) P w K mg base N qual scope f cd A outer s H E) C (fun H1=>E (.ref C) none H1):=by
 intro pins σ H1 s2 h' e vs I hm hE
 have Sq:s2.heap.FunFrames base (kP qual scope s.heap.objs.size f cd::outer):=I.stack
 have hfree:∀b∈frs (kP qual scope s.heap.objs.size f cd::outer),H1 b=none:=I.Bd
 have hbase:Un (frs outer) [] H H1 s.heap s2.heap:=I.base
 have hloc:s.heap.objs.size≤(kP qual scope s.heap.objs.size f cd).locals:=I.ok.above
 have hin:∀b,b∈frs (kP qual scope s.heap.objs.size f cd::outer)→b=s.heap.objs.size∨b∈frs outer:=fun b hb=>by
  have hb:b∈(kP qual scope s.heap.objs.size f cd::outer).filterMap (·.frame):=hb
  obtain ⟨en,he,hf⟩:=gp.mp hb
  rcases de.mp he with rfl | he
  · left;exact (Option.some.inj hf).symm
  · right;exact gp.mpr ⟨en,he,hf⟩
 let B:=PySem.W.hideAll s2.heap (frs (kP qual scope s.heap.objs.size f cd::outer))
 have hB:∀b o,s2.heap.get? b=some o→b∉frs (kP qual scope s.heap.objs.size f cd::outer)→B.get? b=some o:=fun b o e n=>PySem.W.hideAll_get _ e n
 have old:∀b o,s.heap.get? b=some o→b∉frs outer→b∉frs (kP qual scope s.heap.objs.size f cd::outer):=fun b o e n z=>by
  rcases hin b z with q | q
  · subst q;exact absurd (dP e) (g7 _)
  · exact n q
 show cn (cx P w) _ (leaving (kP qual scope s.heap.objs.size f cd) (.ref e)) _ _ _
 refine wpAny_leaves_madeW (base:=B) (h:=s2.heap) (L:=s.heap.objs.size) (cls:=.ref C) I.ok.frames rfl (fun b o q=>PySem.W.of_hideAll _ q) (PySem.W.funFrames_hide Sq fun en he a ha=>gp.mpr ⟨en,he,ha⟩) hm fun h'' t x1 x2 x3 x4=>?_
 have toB:HOk P w H1 B:=fun a o ea=>((I.hok a o ea).stay (H':=H1) (h':=B) (fun b u hb hu=>hB b u hu fun z=>by
  have:=hfree b z
  rcases hb with rfl | hb
  · rw[ea] at this;cases this
  · rw[hb] at this;cases this) (fun _ q=>q) fun _ _ q=>q)
 refine ⟨e,t,C,B,H1,rfl,I.os,I.bare,x1,fun b o eb n hn=>hB b o (hbase.keep b o eb hn n (by simp)) (old b o eb n),toB,⟨fun b o eb hn n _=>x1.1 _ _ (hB b o (hbase.keep b o eb hn n (by simp)) (old b o eb n)),fun b o eb hn hb _=>?_,fun b o eb hn _=>hbase.free b o eb hn (by simp),fun b o eb _=>?_,hbase.tups,hbase.jW,hbase.jo⟩,hE⟩
 · obtain ⟨sl,q⟩:=hbase.slot b o eb hn hb (by simp)
   have hbs:b∈frs (kP qual scope s.heap.objs.size f cd::outer):=by
    obtain ⟨en,he,hf⟩:=gp.mp (show b∈outer.filterMap (·.frame) from hb)
    exact gp.mpr ⟨en,bq _ he,hf⟩
   obtain ⟨o',ho',hd⟩:=gA Sq hbs
   rw[q] at ho'
   cases ho'
   obtain ⟨sl',q'⟩:=x4 b _ (hm.keeps b _ q) hd
   exact ⟨sl',q'⟩
 · obtain ⟨o',q⟩:=hbase.there b o eb (by simp)
   by_cases hb:b∈frs (kP qual scope s.heap.objs.size f cd::outer)
   · obtain ⟨o2,ho2,hd⟩:=gA Sq hb
     obtain ⟨sl',q'⟩:=x4 b _ (hm.keeps b _ ho2) hd
     exact ⟨_,q'⟩
   · exact ⟨o',x1.1 _ _ (hB b o' q hb)⟩
noncomputable abbrev MZ:=Ev→Res Str
noncomputable def zNo:MZ:=fun _=>.bad
noncomputable def vd (c:Str):MZ:=fun _=>.ok c
noncomputable def lY (m1:MS) (z1 z2:MZ):MZ:=fun Γ=>match m1 Γ with
 | .ok (.nx Γ')=>z2 Γ'
 | _=>z1 Γ
noncomputable def zIf (c:ME) (z1 z2:MZ):MZ:=fun Γ=>(c Γ).bind fun x=>match x with
 | .bool true=>z1 Γ
 | .bool false=>z2 Γ
 | _=>.bad
noncomputable def tZ (K:af) (O:List Fl) (XE:Str→Hp→Prop) (z:MZ):TS:=fun D σ H=>∃A B Γ c,aN K A B H O σ Γ∧z Γ = .ok c∧∀A' H',aC A' H'→aC B H'→aC A A'→New A A' B→XE c H'
section
variable {X:Cx}{K:af}{rm:Rm}{Ol O O1 O2:List Fl}{XE:Str→Hp→Prop}{m1:MS}{m:ME}{z z1 z2:MZ}{c:Expr}{st:Stmt}{rest a b:List Stmt}{pos:Pos}
theorem abx:QS X st (tZ K O XE zNo):=QS.imp Hr fun D σ H ao=>by obtain ⟨A,B,Γ,c,r,em,k⟩:=ao;cases em
theorem vZ:QSs X rest (tZ K O XE zNo):=QSs.imp CK fun D σ H ao=>by obtain ⟨A,B,Γ,c,r,em,k⟩:=ao;cases em
theorem QH {x msg:Str}{j}{C:Addr}{np p2 cpos pos:Pos} (hc:X.calm=true) (hg:Gl X x) (hm:X.mg x=some (.ref C)) (hC:vD X.K C) (hx:rW X C (XE x)) (hd:(x == ("__debug__" : Str))=false:=by decide) :
 QS X (.Raise (some (.Call (.Name x np) [.Constant (.str msg) j p2] [] cpos)) none pos) (tZ K O XE (vd x)):=QS.imp (R8 hc hg hm hC Nz hx rfl hd) fun D σ H ao=>by
 obtain ⟨A,B,Γ,c,r,em,k⟩:=ao
 cases em
 exact ⟨k A H r.a r.b (aC.refl _) fun _ h _=>h,rfl⟩
theorem sJ (h1:QS X st (tS K rm Ol O O1 m1)) (h1z:QS X st (tZ K O XE z1)) (h2z:QSs X rest (tZ K O1 XE z2)):QSs X (st::rest) (tZ K O XE (lY m1 z1 z2)):=by
 refine ⟨fun pins s σ H D I h=>?_⟩
 obtain ⟨A,B,Γ,c,r,em,k⟩:=h
 have em:(match m1 Γ with | .ok (.nx Γ')=>z2 Γ' | _=>z1 Γ) = .ok c:=em
 by_cases hq:∃Γ',m1 Γ = .ok (.nx Γ')
 · obtain ⟨Γ',hq⟩:=hq
   rw[hq] at em
   exact yf h1.h h2z.h pins s σ H D I ⟨A,B,Γ,_,r,hq,fun σ' A' H' r' sa nw=>⟨A',B,Γ',c,r',em,fun A2 H2 q1 q2 q3 q4=>k A2 H2 q1 q2 (sa.trans q3) (nw.trans q4)⟩⟩
 · have em:z1 Γ = .ok c:=by
    revert em
    split
    · rename_i Γ' e;exact absurd ⟨Γ',e⟩ hq
    · exact id
   exact yf h1z.h (CK (X:=X)) pins s σ H D I ⟨A,B,Γ,c,r,em,k⟩
theorem T6 (hc:QT X c (tT K O m)) (ha:QSs X a (tZ K O XE z1)) (hb:QSs X b (tZ K O XE z2)):QS X (.If c a b pos) (tZ K O XE (zIf m z1 z2)):=QS.imp (T8 hc.h ha.h hb.h) fun D σ H ao=>by
 obtain ⟨A,B,Γ,c,r,em,k⟩:=ao
 obtain ⟨d1,e1,em⟩:=Res.aA em
 cases d1 with
 | bool bb=>
  refine ⟨A,B,Γ,bb,r,e1,fun A1 H1 g1=>?_⟩
  cases bb with
  | true=>exact wJ ⟨A1,B,Γ,c,r.grow g1,em,fun A2 H2 q1 q2 q3 q4=>k A2 H2 q1 q2 (g1.aa.trans q3) ((g1.nB r.b).trans q4)⟩
  | false=>exact wB ⟨A1,B,Γ,c,r.grow g1,em,fun A2 H2 q1 q2 q3 q4=>k A2 H2 q1 q2 (g1.aa.trans q3) ((g1.nB r.b).trans q4)⟩
 | _=>cases em
end
noncomputable def spZ (K:af) (fs:List Fl) (cl:Str→Addr) (zf:List ae→Res Str):Sp:=fun vs H _ E=>∃A ds c,aC A H∧j6 K A H fs ds vs∧zf ds = .ok c∧∀A' H',aM A H A' H'→E (.ref (cl c)) none H'
noncomputable def fnZ (n:Nat) (z:MZ) (ds:List ae):Res Str:=z (ds.map some++cK (n - ds.length) none)
structure DefX (P:cc) (w:eK) (K:af) (mg:Str→Option ag) (base:Heap) (k:Nat) (x:Str) (ps:List Str) (sp:Sp):Prop where
 ex:∃f fd,n8 P w K mg base (CXE P w) k f fd ps sp∧Binds K fd ps []∧cS K (.ref f)=true∧mg x=some (.ref f)
section
variable {P:cc}{w:eK}{K:af}{mg:Str→Option ag}{base:Heap}
theorem VV {x:Str}{st:Stmt}{N ps:List Str}{k:Nat}{fs O:List Fl}{cl:Str→Addr}{z:MZ} (F:At K mg x st ps) (S:bc N ps (az st)) (hf:fs.length=ps.length) (hn:ps.length≤N.length)
 (hO:∀i,i < fs.length→(fl O i = .imm∧fl fs i = .imm)∨fl O i = .bor)
 (hbody:∀(f:Addr) (cdv:ag) (A:eI) (outer:List Env) (s:ar) (H:Hp) (E:XK),cJ k (A.deeper (kP x (az st) s.heap.objs.size f cdv)) →
  QSs (lX (CXE P w) P w K mg base N x (az st) f cdv A outer s H E) (aP st) (tZ K O (fun c H1=>E (.ref (cl c)) none H1) z)):DefX P w K mg base (k+1) x ps (spZ K fs cl (fnZ N.length z)):=by
 obtain ⟨f,fd,F,b,m⟩:=F.ex
 obtain ⟨oc,od,kV,doc,pm,an,cdv,ct,osl,rfl,lk,hcd⟩:=F.ex
 refine ⟨f,_,Ly lk hcd S (fun vs H Q E h=>?_) (fun A outer s H vs Q E hr h=>?_),b,F.kp,m⟩
 · obtain ⟨A,ds,c,_,h,_⟩:=h
   rw[h.length.1,hf]
 · obtain ⟨A',ds,c,ha,h,em,q⟩:=h
   exact ⟨_,(hbody f cdv A outer s H E hr).h,A',H,_,c,lA ha h hO (by omega),em,fun A2 H2 q1 q2 q3 q4=>q A2 H2 ⟨q3,q2,q1,q4⟩⟩
end
theorem Dj {P:cc}{w:eK}{H:Hp}{h:Heap}{a:Addr}{o:HO} (ok:HOk P w H h) (e:H a=some o):∃u,h.get? a=some u:=by
 have x:=ok a o e
 cases o with
 | lst xs=>obtain ⟨_,_,_,_,e⟩:=x;exact ⟨_,e⟩
 | tup xs=>obtain ⟨_,_,_,p⟩:=x;obtain ⟨o,e,_⟩:=p;exact ⟨_,e⟩
 | dK kvs=>obtain ⟨_,_,_,_,o,_,_,e,_⟩:=x;exact ⟨_,e⟩
 | dT kvs=>obtain ⟨_,_,_,_,o,_,_,e,_⟩:=x;exact ⟨_,e⟩
 | set S n=>obtain ⟨o,_,_,_,e,_⟩:=x;exact ⟨_,e⟩
 | ins C dx fs=>obtain ⟨_,_,_,e,_⟩:=x;exact ⟨_,e⟩
 | own y=>obtain ⟨_,e⟩:=x;exact ⟨_,e⟩
 | xd fs=>obtain ⟨_,⟨_,_,_,e,_⟩,_⟩:=x;exact ⟨_,e⟩
 | rng lo hi=>obtain ⟨_,_,_,e⟩:=x;exact ⟨_,e⟩
 | frz ob u=>obtain ⟨e,_⟩:=x;exact ⟨_,e⟩
 | tbl q=>obtain ⟨_,e,_⟩:=x;exact ⟨_,e⟩
 | met f y=>exact ⟨_,(show h.get? a=some _ from x)⟩
 | ext φ=>obtain ⟨_,⟨_,e⟩,_⟩:=x;exact ⟨_,e⟩
section
variable {X:Cx}{pins:List (Addr×Obj)}{σ:L2.St}{H:Hp}{s:ar}{O:List Fl}{Γ:Ev}{A B:Hp}
theorem aby {k:Nat}{f:Str}{ps:List Str}{fs:List Fl}{cl:Str→Addr}{zf:List ae→Res Str}{ms:List ME}{p pos:Pos}{e:Expr}{es:List Expr}{ds:List ae}{c:Str}{Ex:ag→ar→Prop}
 (I:L2.Inv X pins σ H s) (F:DefX X.prog X.w X.K X.mg X.base k f ps (spZ X.K fs cl zf)) (hr:cJ k X.A) (hg:Gl X f) (ha:QA X (e::es) (tAr X.K O fs ms)) (hnx:∀er s',¬ X.xe er s') (r:aN X.K A B H O σ Γ) (e1:evs ms Γ = .ok ds) (ez:zf ds = .ok c)
 (k:∀er s' s1 H1 A1,L2.Inv X pins σ H1 s1→aM A H A1 H1→CXE X.prog X.w X.stack H1 s1 (fun cv _ H'=>cv = .ref (cl c)∧∃A',aM A1 H1 A' H') er s'→Ex er s')
 (hdb:(f == ("__debug__" : Str))=false:=by decide) (he:noStar e=true:=by rfl) (hpl:fC es=true:=by rfl) :
 cn (cx X.prog X.w) X.A (eval (.Call (.Name f p) (e::es) [] pos) X.env) (fun _ _=>False) Ex s:=by
 obtain ⟨fa,fd,F,hb,kp,hm⟩:=F.ex
 refine nE (lH I hg hm ?_ hdb)
 refine PySem.W.callWith_K (h₀:=X.base) I.ok.mod.kin kp (gc (ha.h pos pins s σ H (fun vs H1=>∃A1,aM A H A1 H1∧j6 X.K A1 H1 fs ds vs) I ⟨A,B,Γ,ds,r,e1,fun vs A1 H1 g p=>⟨A1,g,p⟩⟩) (fun us s1 z=>?_) fun er s' z=>absurd z (hnx er s')) (bY he) (g8 hpl)
 obtain ⟨vs,H1,I1,rv,A1,g1,p1⟩:=z
 refine ⟨I1.kIn,?_⟩
 have hl:us.length=ps.length:=by
  rw[← rv.length]
  exact F.len vs H1 (fun _ _=>False) (fun _ _ _=>True) ⟨A1,ds,c,g1.ah,p1,ez,fun _ _ _=>trivial⟩
 refine yk (yv (F.run X.A X.stack s1 H1 ⟨us,[]⟩ us vs (fun _ _=>False) (fun cv _ H'=>cv = .ref (cl c)∧∃A',aM A1 H1 A' H') hr I1.env0 (by have:=hb s1 us I1.kIn (by rw[fb];exact hl);rw[fb] at this;exact this) rv ⟨A1,ds,c,g1.ah,p1,ez,fun A' H' g=>⟨rfl,A',g⟩⟩) fun rr s' hq=>?_)
 cases rr with
 | error er=>exact k er s' s1 H1 A1 I1 g1 hq
 | ok fl=>
  cases fl with
  | ret u=>obtain ⟨v,H',_,_,_,_,_,q⟩:=hq;exact q.elim
  | next=>exact hq.elim
  | brk=>exact hq.elim
  | cont=>exact hq.elim
end
structure bK (K:af) (C Ci:Addr):Prop where
 cls:(mP K Ci).isSome=true
 base:i3 K (.ref Ci) (.type "BaseException")=some true
 no:i3 K (.ref C) (.ref Ci)=some false
section
variable {M:zk}{A:eI}{E:ag→ar→Prop}{K:af}
theorem mH {h:Heap}{Ci:Addr} (X:K.In h) (e:(mP K Ci).isSome=true):j3 M h (isType (.ref Ci)) true:=by
 unfold mP at e
 split at e
 · rename_i c' d' cd' sl' ho
   intro A' Q' E' s' k q
   unfold isType loadHead
   exact ai (wpAny_loadPart (k _ _ (X _ _ ho)) (ay q))
 · cases e
theorem Ul {C:Addr}:∀(cs:List Addr) {s:ar}{Q:PUnit→ar→Prop},K.In s.heap→(∀c∈cs,bK K C c)→Q AJ s→cn M A (forIn (cs.map eL) AJ fun c __s=>do
 let __do_lift ← isExcClass c
 if (
  !__do_lift)=true then do
  rule "try.except-non-exception-class"
  raiseErrorWords "TypeError" "catching classes that do not inherit from BaseException is not allowed"
  pure (i5 AJ)
  else pure (i5 AJ)) Q E s
 | [],s,Q,X,hc,h=>ay h
 | c::cs,s,Q,X,hc,h=>by
  have n:=hc c cf
  rw[dy,kU]
  refine ai (ai ?_)
  unfold isExcClass
  refine ai ((mH X n.cls).at ?_)
  rw[if_pos rfl]
  refine (iO X n.base).at ?_
  show cn _ _ (if (!true)=true then _ else _) _ _ _
  rw[if_neg (by decide)]
  refine ay ?_
  exact Ul cs X (fun d hd=>hc d (bq _ hd)) h
theorem Ui {C:Addr}:∀(cs:List Addr) {s:ar}{Q:Option Bool×Unit→ar→Prop},K.In s.heap→(∀c∈cs,bK K C c)→Q (none,()) s→cn M A (forIn (cs.map eL) ((none:Option Bool),()) fun c __s=>do
 let __do_lift ← isSubtype (.ref C) c
 if __do_lift=true then pure (ForInStep.done (some true,())) else pure (i5 (none,()))) Q E s
 | [],s,Q,X,hc,h=>ay h
 | c::cs,s,Q,X,hc,h=>by
  have n:=hc c cf
  rw[dy,kU]
  refine ai (ai ((iO X n.no).at ?_))
  rw[if_neg (by decide)]
  refine ay ?_
  exact Ui cs X (fun d hd=>hc d (bq _ hd)) h
theorem HY {s:ar}{ea tp C:Addr}{ob o:Obj}{cs:List Addr}{n:Nat}{Q:Bool→ar→Prop} (X:K.In s.heap) (he:s.heap.get? ea=some ob) (hcl:ob.cls = .ref C) (ho:s.heap.get? tp=some o) (hc:o.cls = .type "tuple") (hd:o.data = .seq (cs.map eL).toArray n) (hn:∀c∈cs,bK K C c) (h:Q false s) :
 cn M A (vv (.ref ea) (.ref tp)) Q E s:=by
 unfold vv
 refine ai (xI ⟨o,ho,hc⟩ isSubtype_tuple_tuple ?_)
 dsimp only;rw[if_pos rfl]
 refine ai (oC ho hd ?_)
 dsimp only[Option.getD_some,Option.getD]
 refine ai (ay (ai (Ul (C:=C) cs X hn ?_)))
 have ty:j3 M s.heap (typeOf (eL ea)) (.ref C):=by
  intro A' Q' E' s' k q
  unfold typeOf
  exact ai (wpAny_loadPart (k _ _ he) (ay (by rw[hcl];exact q)))
 refine ai (ty.at (ai (Ui (C:=C) cs X hn ?_)))
 exact ay h
theorem cQ {h:Heap}{ea C:Addr}{ob:Obj} (he:h.get? ea=some ob) (hcl:ob.cls = .ref C):j3 M h (typeOf (eL ea)) (.ref C):=by
 intro A' Q' E' s' k q
 unfold typeOf
 exact ai (wpAny_loadPart (k _ _ he) (ay (by rw[hcl];exact q)))
theorem Vp {prog:cc}{w:eK}{s:ar}{ea C:Addr}{ob:Obj}{c:ag}{Q:ag→ar→Prop} (X:K.In s.heap) (he:s.heap.get? ea=some ob) (hcl:ob.cls = .ref C) (hk:ft K (.ref C) c=some true) (hne:(eL C == c)=false) (h:∀tk,Q (.bool true) { s with toks:=tk }) :
 cn (cx prog w) A (call (.builtin "isinstance") [.ref ea,c]) Q E s:=by
 refine zh (S:=fun _ R s=>(K.In s.heap∧s.heap.get? ea=some ob)∧∀tk,R (.ok (.ret (.bool true))) { s with toks:=tk }) (fun prog w A R s hs=>xS ?_ (by intro z;cases z)) ⟨⟨X,he⟩,h⟩
 obtain ⟨h0,g,d,tt,os⟩:=s
 obtain ⟨⟨X',he'⟩,hq⟩:=hs
 unfold Builtin.«isinstance.nested»
 refine ai ((cQ he' hcl).at ?_)
 rw[if_neg (by rw[hne];decide)]
 obtain ⟨hty,his,hsub⟩:=PySem.W.kit_cls (M:=cx prog w) X' hk
 have li:j3 (cx prog w) h0 (sj (.ref ea) c) true:=(cQ he' hcl).andThen hsub
 refine ai (hty.at ?_)
 rw[if_pos (by decide)]
 open PySem.W in (k_delta "plainIsInstance")
 refine ai (ai (his.at ?_));simp only[xo,fF,if_false]
 refine ai (li.at ?_);simp only[if_true]
 first
  | exact ay (ay (hq tt))
  | exact ay (hq tt)
  | exact ai (ay (ay (hq tt)))
end
section
variable {X:Cx}{pins:List (Addr×Obj)}{σ:L2.St}{H:Hp}{s:ar}{ea:Addr}{ob:Obj}
end
section
variable {X:Cx}{pins:List (Addr×Obj)}{σ:L2.St}{H:Hp}{s:ar}
theorem Vh {M:zk}{A:eI}{E:ag→ar→Prop}{i:Nat}{x:Str}{v:V}{Q:Unit→ar→Prop} (I:L2.Inv X pins σ H s) (hN:X.N.Nodup) (hi:X.N[i]?=some x) (hk:X.env.scope.names.lookup x=some .local) (hv:σ[i]?=some (some v))
 (h:∀s',L2.Inv X pins (σ.set i none) H s'→Q () s'):cn M A (unbindName X.env x) Q E s:=by
 obtain ⟨m,hn,hl⟩:=id I.loc
 have cne:=I.cne
 have hcls:(X.env.scope.kind == .class||(X.env.scope.kind == .module&&X.env.locals != X.env.globals))=false:=by rw[I.ok.kind];rfl
 obtain ⟨u,_,lk⟩:=hl i x v hi hv (.inl hk)
 have hm:m x=some u:=by
  rcases lk with ⟨_,q⟩ | ⟨q,_⟩
  · exact q
  · have:X.env.scope.names.lookup x=some .cell∨X.env.scope.names.lookup x=some .free:=q
    rw[hk] at this
    rcases this with z | z <;> cases z
 obtain ⟨oL,_,_,hoL,_⟩:=id hn
 refine wpAny_unbindName_local hk hn hm hcls fun h' u' hn' hs=>?_
 have far:∀b o,X.s₀.heap.get? b=some o→b≠X.env.locals:=fun b o e=>gL (d6 (dP e) I.ok.above)
 have tr:HOk X.prog X.w H h':=fun b ob e=>(I.hok b ob e).stay (fun c w' hc q=>(hs.2 c (by
  rintro rfl
  rcases hc with rfl | hc
  · rw[I.free] at e;cases e
  · rw[I.free] at hc;cases hc)).trans q) (fun _ q=>q) fun _ _ q=>q
 refine h _ ⟨I.ok,I.os,I.bare,⟨fun b o e n hb hx=>(hs.2 b (far b o e)).trans (I.base.keep b o e n hb hx),fun b o e n hb hx=>?_,I.base.free,fun b o e hx=>?_,I.base.tups,I.base.jW,I.base.jo⟩,⟨_,hn',fun j y v' e1 e2 e3=>?_⟩,fun y c e=>?_,I.free,I.fZ,fun p hp=>?_,tr,by rw[fx];exact I.len⟩
 · obtain ⟨sl,e1⟩:=I.base.slot b o e n hb hx
   exact ⟨sl,(hs.2 b (far b o e)).trans e1⟩
 · obtain ⟨o',e1⟩:=I.base.there b o e hx
   exact ⟨o',(hs.2 b (far b o e)).trans e1⟩
 · by_cases hj:j=i
   · subst hj
     rw[ia (br.mp hv).1] at e2
     cases e2
   · rw[mw (oP hj)] at e2
     obtain ⟨u2,r',q⟩:=hl j y v' e1 e2 e3
     refine ⟨u2,r',?_⟩
     rcases q with ⟨k,e⟩ | ⟨k,c,e,z⟩
     · refine .inl ⟨k,?_⟩
       have:y≠x:=fun e=>hj (yK hN e1 (e ▸ hi))
       simp[this,e]
     · exact .inr ⟨k,c,e,z.sameBut hs (cne y c e)⟩
 · obtain ⟨w',z⟩:=I.cell y c e
   exact ⟨w',z.sameBut hs (cne y c e)⟩
 · obtain ⟨e,n,ne,nf,d⟩:=I.pin p hp
   exact ⟨(hs.2 p.1 ne).trans e,n,ne,nf,d⟩
inductive lq (X:Cx):List Expr→List Addr→Prop where
 | nil:lq X [] []
 | cons {x:Str}{p:Pos}{C:Addr}{es:List Expr}{cs:List Addr} (hg:Gl X x) (hm:X.mg x=some (.ref C)) (hd:(x == ("__debug__" : Str))=false) (t:lq X es cs):lq X (.Name x p::es) (C::cs)
theorem yM {E:ag→ar→Prop}{pos:Pos} (I:L2.Inv X pins σ H s):∀{es:List Expr}{cs:List Addr}{Q:List ag→ar→Prop},lq X es cs→Q (cs.map eL) s→cn (cx X.prog X.w) X.A (spliced (lI pos (d5 es X.env))) Q E s
 | _,_,Q,.nil,h=>qE h
 | _,_,Q,.cons (x:=x) (p:=p) (es:=es) hg hm hd t,h=>by
  rw[bY (e:=.Name x p) (es:=es) rfl]
  exact kB (lH I hg hm (yM I t h) hd)
end
theorem Nk {B h h':Heap}{l:List Env}{ea:Addr}{cls a0:ag} (f:rk B l ea cls a0 h) (k:∀b o,h.get? b=some o→h'.get? b=some o):rk B l ea cls a0 h':=by
 obtain ⟨f1,f2,f3,oe,vs,T,oT,ts,e1,e2,e3,e4,e5,e6,e7,e8,e9⟩:=f
 exact ⟨fun b o e=>k _ _ (f1 b o e),f2,f3.of_keeps fun b o e _=>⟨o,k _ _ e,rfl⟩,oe,vs,T,oT,ts,k _ _ e1,e2,e3,e4,e5,e6,k _ _ e7,e8,e9⟩
section
variable {X:Cx}{pins:List (Addr×Obj)}{σ:L2.St}{H:Hp}{s:ar}
end
section
variable {X:Cx}{ea C:Addr}{ob:Obj}
end
section
variable {X:Cx}{k:Nat}{fn:Str}{ps:List Str}{fs:List Fl}{f:List ae→Res ae}{zf:List ae→Res Str}{O Ol:List Fl}{rm:Rm}{ms:List ME}{pf pc pos px pa:Pos}{e:Expr}{es:List Expr}
end
noncomputable def wR (K:af) (C:Addr):List Addr→Prop
 | []=>True
 | c::cs=>bK K C c∧wR K C cs
theorem wR.all {K:af}{C:Addr}:∀{cs:List Addr},wR K C cs→∀c∈cs,bK K C c
 | [],_,c,hc=>nomatch hc
 | d::cs,h,c,hc=>by
  rcases de.mp hc with rfl | hc
  · exact h.1
  · exact wR.all h.2 c hc
theorem t7 {K:af}{t:ag}{C:Addr}{b:Bool} (h1:(mP K C).isSome=true) (h2:vx K (.ref C)=some (.type "type")) (h3:i3 K t (.ref C)=some b):ft K t (.ref C)=some b:=by
 unfold ft
 show (if ((mP K C).isSome&&vx K (.ref C) == some (.type "type"))=true then i3 K t (.ref C) else none)=some b
 rw[if_pos (by rw[h1,h2];exact beq_self_eq_true _),h3]
theorem Dm {K:af}{t:ag}{T:String}{b:Bool} (hm:ti T=true) (h3:i3 K t (.type T)=some b):ft K t (.type T)=some b:=by
 unfold ft
 show (if ti T=true then i3 K t (.type T) else none)=some b
 rw[if_pos hm,h3]
theorem zu:ti "ValueError" = true:=by decide +kernel
theorem Pk.isL {K:af}{A H:Hp}{d:ae}{v:V} (ha:aC A H) (c:d.canLay0=true) (h:Pk K A H d v):Is K H d v:=by
 rcases h with h | ⟨p,vs,ds',e1,e2,h1,h2⟩ | ⟨p,u,kvs,e1,e2,h1,h2⟩
 rotate_right
 · subst e2
   rw[eW] at c
   cases c
 · exact Is.mono ha d (Rp.is d c h)
 · subst e2
   rw[Is]
   rw[eW] at c
   exact ⟨p,vs,e1,h1,dh.mono ha ds' (aB.is ds' c h2)⟩
end L3
namespace L2
open PySem PySem.Spec PyProof.Rows
open Builtin Builtin.Str
theorem Di:Manifest.owners.lookup (String.ofList ['d','e','s','r','e','v','e','r'].reverse)=some Manifest.sig_reversed:=by kernel_rfl
theorem iY:Slot "reversed" "__next__" "reversed.__next__" :=
 .of (owner := "reversed") (n := "__next__") (by rw[tj,oi];kernel_rfl) (by decide +kernel) (by decide +kernel) (by decide +kernel)
  (by first | exact .inl (by decide +kernel) | exact .inr (by decide +kernel)) (by rw[rl];kernel_rfl)
theorem rP:entryFor table "reversed.__next__" = some Builtin.«reversed.__next__» := entryFor_of_tree (by kernel_rfl)
theorem qU (a:ag):argsOk "reversed.__next__" ⟨[a],[]⟩:=by
 unfold argsOk;rw[signature?_of (id := "reversed.__next__") (n:=['_','_','t','x','e','n','_','_']) (o:=['d','e','s','r','e','v','e','r']) (by kernel_rfl) Di];kernel_rfl
theorem uX:Slot "reversed" "__iter__" "reversed.__iter__" :=
 .of (owner := "reversed") (n := "__iter__") (by rw[tj,oi];kernel_rfl) (by decide +kernel) (by decide +kernel) (by decide +kernel)
  (by first | exact .inl (by decide +kernel) | exact .inr (by decide +kernel)) (by rw[rl];kernel_rfl)
theorem za (a:ag):argsOk "reversed.__iter__" ⟨[a],[]⟩:=by
 unfold argsOk;rw[signature?_of (id := "reversed.__iter__") (n:=['_','_','r','e','t','i','_','_']) (o:=['d','e','s','r','e','v','e','r']) (by kernel_rfl) Di];kernel_rfl
theorem Bw:entryFor table "reversed.__iter__" = some Builtin.«dict_keyiterator.__iter__» :=
 entryFor_alias (id' := "dict_keyiterator.__iter__") (by kernel_rfl) (by first | rfl | decide +kernel | (unfold String.splitOn;simp +decide [String.splitOnAux])) (by decide +kernel) (by kernel_rfl)
theorem DN:Slot "reversed" "__init__" "object.__init__" :=
 .of (owner := "object") (n := "__init__") (by rw[tj,oi];kernel_rfl) (by decide +kernel) (by decide +kernel) (by decide +kernel)
  (by first | exact .inl (by decide +kernel) | exact .inr (by decide +kernel)) (by rw[rl];kernel_rfl)
theorem KY:TypeCalled "reversed" "reversed.__new__" "object.__init__" :=
 ⟨by decide +kernel,by decide +kernel,⟨_,_,F.mro_reversed⟩,madeBy_type F.mro_reversed F.lookup_reversed_new (by decide +kernel),by decide +kernel,by rw[rl];kernel_rfl,DN⟩
theorem yF:typeLookup (.type "tuple") "__reversed__" = pure none:=by rw[tj,oi];kernel_rfl
theorem sub_tuple_dict:isSubtype (.type "tuple") (.type "dict")=pure false:=by rw[rl];kernel_rfl
noncomputable def Ek (l:Addr) (i:Int):Obj:={ cls:=.type "reversed",data:=.fields #[.ref l,pv i] }
noncomputable def lQ (h:Heap) (a l:Addr) (i:Int):Prop:=∃o,h.get? a=some o∧o.cls = .type "reversed" ∧ o.data = .fields #[.ref l,pv i]
theorem lQ.typeIs {s:ar}{a l:Addr}{i:Int} (x:lQ s.heap a l i):s.TypeIs (.ref a) "reversed" := let ⟨o,ho,hc,_⟩:=x;⟨o,ho,hc⟩
theorem lQ.at {h h':Heap}{a l:Addr}{i:Int} (x:lQ h a l i) (e:∀o,h.get? a=some o→h'.get? a=some o):lQ h' a l i:=let ⟨o,ho,r⟩:=x;⟨o,e _ ho,r⟩
theorem Eb (l:Addr) (items:Array ag) (hfit:(items.size:Int) < 2^63):Meets (Builtin.«reversed.__new__» ⟨[.type "reversed",.ref l],[]⟩) (fun _ R s=>uS s.heap l items ∧
 R (.ok (.ret (.ref s.heap.objs.size))) { s with heap:=s.heap.push (Ek l ((items.size:Int) - 1)),toks:=s.toks+1+1 }):=
 .of_wp fun prog w A R s h=>by
  obtain ⟨ht,h⟩:=h
  unfold Builtin.«reversed.__new__»
  refine ai (ny (newClass_reversed _) ?_)
  try dsimp only
  refine ai (ny (a:=()) (by first | rfl | kernel_rfl) ?_)
  refine ai (ny (a:=()) (by first | rfl | kernel_rfl) ?_)
  try dsimp only
  refine ai (qf ht.typeIs yF ?_)
  try dsimp only
  refine ai ?_
  show cn _ _ (sj (.ref l) (.type "dict") >>= _) _ _ s
  refine ai (xI ht.typeIs sub_tuple_dict ?_)
  show cn _ _ (specialOf (.ref l) (lh "__getitem__") >>= _) _ _ s
  refine ai (qf ht.typeIs fw.lookup ?_)
  try dsimp only
  rw[if_pos (by decide)]
  refine ay ?_
  show cn _ _ (call (.builtin "len") [.ref l] >>= _) _ _ s
  refine ai (len_tuple ht hfit ?_)
  refine ai (ny (a:=some (items.size:Int)) rfl ?_)
  try dsimp only
  refine ai ?_
  show cn _ _ (newObj (.type "reversed") (.fields #[.ref l,pv ((items.size:Int) - 1)])) _ _ _
  exact ko (ay ⟨_,rfl,h⟩)
section
variable {prog:cc}{w:eK}{A:eI}{E:ag→ar→Prop}{s:ar}
theorem Ru {l:Addr}{items:Array ag}{Q:ag→ar→Prop} (ht:uS s.heap l items) (hfit:(items.size:Int) < 2^63)
 (h:Q (.ref s.heap.objs.size) { s with heap:=s.heap.push (Ek l ((items.size:Int) - 1)),toks:=s.toks+1+1 }):cn (cx prog w) A (call (.type "reversed") [.ref l]) Q E s:=
 callType_new KY (by decide) (F.typeCall_reversed_1 _) (F.newCall_reversed_1 _) (fun obj=>F.args_object_init_2 obj _) F.entry_reversed_new (Eb l items hfit)
  ⟨ht,⟨_,d4 _ rfl,rfl⟩,h⟩
theorem sV {it l:Addr}{i:Nat}{items:Array ag}{x:ag}{Q:Option ag→ar→Prop} (hit:lQ s.heap it l (i:Int)) (hl:uS s.heap l items) (hfit:(items.size:Int) < 2^63) (hx:items[i]?=some x)
 (hQ:∀h',lQ h' it l ((i:Int) - 1)→x9 it s.heap h'→Q (some x) { s with heap:=h',toks:=s.toks+1 }):cn (cx prog w) A (yb (.ref it)) Q E s:=by
 obtain ⟨o,ho,hc,hd⟩:=id hit
 have hi:i < items.size:=(vE.mp hx).1
 unfold yb
 refine ai (pV (nc (name:=lh "__next__") hit.typeIs iY
  (kD iY hit.typeIs rP ?_ (qU _))))
 unfold Builtin.«reversed.__next__»
 refine ai (ny (a:=(eL it,[])) rfl ?_)
 try dsimp only
 refine ai (oo ho hd (x:=.ref l) rfl ?_)
 refine ai (oo ho hd (x:=pv (i:Int)) rfl ?_)
 show cn _ _ (if (i:Int) < 0 then _ else _) _ _ s
 rw[if_neg (by omega)]
 show cn _ _ (specialOf (.ref l) (lh "__getitem__") >>= _) _ _ s
 refine ai (qf hl.typeIs fw.lookup ?_)
 show cn _ _ (mkInt (i:Int) >>= _) _ _ s
 refine ai (wpAny_mkInt ?_)
 refine ai (pV (getItem_tuple (s:={ s with toks:=s.toks+1 }) hl (by omega) (by omega) (by unfold seqIndex?;simp only[if_neg (show ¬ ((i:Nat):Int) < 0 by omega)];rw[if_pos (by simp;omega)];simp) hx ?_))
 try dsimp only
 refine ai (oo (s:={ s with toks:=s.toks+1 }) ho hd (x:=pv (i:Int)) rfl ?_)
 show cn _ _ (setField (.ref it) 1 (pv ((i:Int) - 1)) >>= _) _ _ _
 refine ai (wpAny_setField (s:={ s with toks:=s.toks+1 }) ho hd (by simp) ?_)
 refine ay ⟨x,rfl,ay (hQ _ ?_ (mT ..))⟩
 exact ⟨_,Heap.get?_update_self _ ho (Obj.isFreed_of_fields (qq hd _)),(Obj.cls_mapFields ..).trans hc,by
  rw[qq hd];simp⟩
theorem uM {it l:Addr}{Q:Option ag→ar→Prop} (hh:A.handled=none) (hit:lQ s.heap it l (-1))
 (hQ:∀h',Heap.ExtBut it s.heap h'→Q none { s with heap:=h' }):cn (cx prog w) A (yb (.ref it)) Q E s:=by
 obtain ⟨o,ho,hc,hd⟩:=id hit
 unfold yb
 refine ai (pV (nc (name:=lh "__next__") hit.typeIs iY
  (kD iY hit.typeIs rP ?_ (qU _))))
 unfold Builtin.«reversed.__next__»
 refine ai (ny (a:=(eL it,[])) rfl ?_)
 try dsimp only
 refine ai (oo ho hd (x:=.ref l) rfl ?_)
 refine ai (oo ho hd (x:=pv (-1)) rfl ?_)
 show cn _ _ (if (-1:Int) < 0 then _ else _) _ _ s
 rw[if_pos (by decide)]
 refine ai (nL ?_)
 refine ai ?_
 show cn _ _ (setField (.ref it) 1 (pv (-1)) >>= _) _ _ _
 refine ai (wpAny_setField ho hd (by simp) ?_)
 have ho2:(s.heap.update it (Obj.mapFields fun x=>x.setIfInBounds 1 (pv (-1)))).get? it=some _:=Heap.get?_update_self _ ho (Obj.isFreed_of_fields (qq hd _))
 refine wpAny_setField (s:={ s with heap:=s.heap.update it (Obj.mapFields fun x=>x.setIfInBounds 1 (pv (-1))) }) ho2 (qq hd _) (by simp) ?_
 unfold SmallTypes.stopIteration
 refine ai ?_
 show cn _ _ (newExc (.type "StopIteration") [] >>= _) _ _ _
 refine ai ?_
 simp only[newExc,newTuple]
 refine ai (ko ?_ (by size_fits))
 refine ai (m:=firstArgMember _ _) (ny (a:=ag.none) (by first | rfl | (simp only[firstArgMember];rfl)) ?_)
 refine ko ?_ (by size_fits)
 simp only[raiseNew]
 refine ai (wpAny_handled ?_)
 first | rw[show A.in1.handled=none from hh] | rw[hh]
 refine ai (ay (wpAny_throw ?_))
 refine ai (xI (T := "StopIteration") (b:=true) ⟨_,d4 _ rfl,rfl⟩ isSubtype_stop ?_)
 refine ay (hQ _ ((((mT ..).trans (mT ..)).extBut.push _).push _))
theorem pK {it l:Addr}{i:Int}{Q:ag→ar→Prop} (hit:lQ s.heap it l i) (h:Q (.ref it) s):cn (cx prog w) A (pyIter (.ref it)) Q E s:=by
 refine wpAny_pyIter_slot hit.typeIs uX (kD uX hit.typeIs Bw ?_ (za _))
 show cn _ _ (ret (.ref it)) _ _ s
 exact ay ⟨_,rfl, "reversed",_,hit.typeIs,iY.lookup,h⟩
end
noncomputable def R3 (K:af) (a:Addr) (n:Nat):It:=
 ⟨fun i H=>i < n∧∃xs x,SqT K H a xs∧xs[n - 1 - i]?=some x,fun i H x H'=>H'=H∧∀xs,SqT K H a xs→xs[n - 1 - i]?=some x,fun i _=>i=n⟩
theorem Qe {P:cc}{w:eK}{K:af}{tg:Expr} (a it:Addr) (n:Nat):Turn P w K tg (R3 K a n) [it] it (fun i h=>lQ h it a ((n:Int) - 1 - (i:Nat))) where
 mem:=by simp
 obj:=fun i h st b hb=>by
  have e:b=it:=by simpa using hb
  subst e
  obtain ⟨o,e,c,d⟩:=st
  exact ⟨o,e,fun v z=>by rw[d] at z;cases z⟩
 keep:=fun i h h' st k=>st.at fun o e=>k it (by simp) o e
 item:=by
  intro X hP hw hK hc i pins s σ H E I hf st hg
  subst hP hw hK
  obtain ⟨hi,xs,x,hq,hx⟩:=hg
  obtain ⟨its,rv,p,hz⟩:=I.tuple hq
  obtain ⟨u,hu,ru⟩:=rv.get hx
  obtain ⟨f0,f1,f2,f3,f4,f5⟩:=hf it (by simp)
  have e:(n:Int) - 1 - (i:Nat)=((n - 1 - i:Nat):Int):=by omega
  rw[e] at st
  have hfit:((its.toArray.size:Nat):Int) < 2^63:=by
   have:=rv.length
   rw[PySem.sizeLine_eq] at hz
   rw[bE];omega
  refine sV st p hfit (x:=u) (by simpa using hu) fun h' st' sb=>?_
  have e2:((n - 1 - i:Nat):Int) - 1=(n:Int) - 1 - ((i+1:Nat):Int):=by omega
  rw[e2] at st'
  have I1:Inv X pins σ H { s with heap:=h',toks:=s.toks+1 }:=I.turned (t':=s.toks+1) (fun b o hb e=>(sb.2 b hb).trans e) f0 f1 f3 f4 f5
  obtain ⟨o,e,c,d⟩:=id st'
  exact ⟨u,rfl,tV (s:={ s with heap:=h',toks:=s.toks+1 }) e c d (by decide) ⟨x,H,I1,ru,⟨rfl,fun ys hy=>by rw[I.CQ hy hq];exact hx⟩,st',fun b hb=>(hf b hb).1⟩⟩
 done:=by
  intro X hP hw hK hc i pins s σ H E I hf st hg
  subst hP hw hK
  have hg':i=n:=hg
  subst hg'
  obtain ⟨f0,f1,f2,f3,f4,f5⟩:=hf it (by simp)
  have e:(i:Int) - 1 - (i:Nat) = -1:=by omega
  rw[e] at st
  exact uM (I.ok.hd hc) st fun h' eb=>⟨rfl,I.turned (t':=s.toks) (fun b o hb e=>eb b o hb e) f0 f1 f3 f4 f5⟩
 self:=fun _ _ _ _ _ st h=>pK st h
section
variable {X:Cx}{tg:Expr}
noncomputable def adS (K:af) (ta:TA):TI:=fun σ H R=>ta σ H fun vs H1=>∃a xs,vs=[.ref a]∧SqT K H1 a xs∧R (R3 K a xs.length) H1
theorem aav {a:Expr}{ta:TA}{p pos:Pos} (hg:Gl X "reversed") (hm:X.mg "reversed" = none) (ha:PA X [a] ta) (hs:d5 [a] X.env=[(false,eval a X.env)]:=by rfl):PI X tg (.Call (.Name "reversed" p) [a] [] pos) (adS X.K ta):=by
 intro pins s σ H R I h
 refine Call_ (nY I hg hm boot_reversed (jv (thn (ha pos pins s σ H _ I h) fun us s1 ao=>?_) hs rfl))
 obtain ⟨vs,H1,I1,r1,q1⟩:=ao
 obtain ⟨l,xs,e,hq,q⟩:=q1
 subst e
 obtain ⟨u,rfl,ru⟩:=Vals.one r1
 cases ru
 obtain ⟨its,rv,pl,hz⟩:=I1.tuple hq
 have hfit:((its.toArray.size:Nat):Int) < 2^63:=by
  have:=rv.length
  rw[PySem.sizeLine_eq] at hz
  rw[bE];omega
 refine Ru pl hfit ?_
 have hit:lQ (s1.heap.push (Ek l (((its.toArray.size:Nat):Int) - 1))) s1.heap.objs.size l ((xs.length:Int) - 1 - ((0:Nat):Int)):=by
  have e1:((its.toArray.size:Nat):Int) - 1=(xs.length:Int) - 1 - ((0:Nat):Int):=by
   have:=rv.length
   rw[bE];omega
  rw[e1]
  exact ⟨_,d4 _ rfl,rfl,rfl⟩
 refine pK (s:={ s1 with heap:=_,toks:=s1.toks+1+1 }) hit ?_
 refine ⟨s1.heap.objs.size,[s1.heap.objs.size],_,_,H1,rfl,I1.kept (t':=s1.toks+1+1) fun b o e=>aS _ e,Qe l _ xs.length,hit,fun b hb=>?_,q⟩
 have e:b=s1.heap.objs.size:=by simpa using hb
 subst e
 exact I1.sY (aE _) (I1.hok.fresh (aE _))
end
end L2
namespace L3
open PySem PySem.Spec PyProof.Rows L2
theorem Xk {K:af}{A B:Hp}{ds:List ae}{vs:List V}{p:Addr} (hr:aB K A ds vs) (hq:∀H,aC A H→SqT K H p vs):ue K A B (R3 K p vs.length) ds.reverse:=by
 have hl:=hr.length
 refine ⟨fun i H s1 s2 hi=>?_,fun H s1 s2=>?_,fun i A2 H x H' sa s1 s2 hi y=>?_⟩
 · rw[gz,hl] at hi
   exact ⟨hi,vs,vs[vs.length - 1 - i]'(by omega),hq H s1,aI _⟩
 · rw[gz,hl];rfl
 · rw[gz,hl] at hi
   obtain ⟨rfl,y⟩:=y
   have e:=y vs (hq H' (sa.trans s1))
   have e':vs.reverse[i]?=some x:=by rw[List.getElem?_reverse hi];exact e
   obtain ⟨d,e1,q⟩:=hr.reverse.get e'
   exact ⟨A2,d,e1,aM.refl s1,Rp.mono sa d q⟩
noncomputable def K9 (m:ME):MI:=fun Γ=>(m Γ).bind fun d=>match d with
 | .tuple ds=>.ok ds.reverse
 | _=>.bad
section
variable {X:Cx}{O:List Fl}{m m':ME}{e a b tg:Expr}{pos p:Pos}
theorem ZX (hg:Gl X "reversed") (hm:X.mg "reversed" = none) (ha:QE X a (tP X.K O m)) (hs:d5 [a] X.env=[(false,eval a X.env)]:=by rfl):QI X tg (.Call (.Name "reversed" p) [a] [] pos) (tIc X.K O (K9 m)):=
 QI.imp (aav hg hm (cA ha.h fQ hs) hs) fun σ H R ao=>by
  obtain ⟨A,B,Γ,xs,r,em,k⟩:=ao
  obtain ⟨d,e1,em⟩:=Res.aA em
  cases d with
  | tuple ds=>
   cases em
   refine ⟨A,B,Γ,_,r,e1,fun v A1 H1 g1 p1=>?_⟩
   obtain ⟨q,vs,rfl,h2,h1⟩:=p1.qg (H:=H1)
   exact ⟨q,vs,rfl,h1 H1 g1.ah,k _ A1 H1 g1 (Xk h2 h1)⟩
  | _=>cases em
end
noncomputable def xx (i:Nat) (g:MG):MS:=fun Γ=>match gv Γ i with
 | some (.list ds)=>match ds[ds.length - 1]? with
  | some d=>gd (i < Γ.length) ((g d (Γ.set i (some (.list (ds.take (ds.length - 1)))))).bind fun Γ'=>.ok (.nx Γ'))
  | none=>.bad
 | _=>.bad
section
variable {X:Cx}{rm:Rm}{Ol O O':List Fl}{is:List Nat}{g:MG}{tg:Expr}{p apos cpos pos:Pos}
theorem Vy (i:Nat) {x:Str} (hG:QG X tg (tG X.K O O' is g)) (hi:isO (fl O i)=true:=by rfl) (hN:X.N[i]?=some x:=by rfl) (hv:Vis X.env.scope x:=by first | exact cb rfl | exact fq (cb rfl) | exact fq (fq rfl)) (hd:(x == ("__debug__" : Str))=false:=by decide)
 (hcd:(x == ("__classdict__" : Str))=false:=by decide) (hbase:jS (.Name x p) "pop" X.env (eval (.Name x p) X.env)=eval (.Name x p) X.env:=by rfl)
 (hline:(apos.endLine == cpos.line)=true:=by rfl)
 (hs:swapsWithSole [tg] (.Call (.Attribute (.Name x p) "pop" apos) [] [] cpos) pos.line X.env=pure false:=by rfl) (hw:swappedStores [tg] (.Call (.Attribute (.Name x p) "pop" apos) [] [] cpos) X.env=pure none:=by rfl) (h1:(lx [tg] X.env).map (·.2)=[xc tg X.env]:=by rfl) :
 QS X (.Assign [tg] (.Call (.Attribute (.Name x p) "pop" apos) [] [] cpos) pos) (tS X.K rm Ol O O' (xx i g)):=by
 refine QS.imp (Ov (O8 kS PySem.F.slot_list_pop PySem.F.type_list_pop ZS (du hN hv hd hcd) hbase hline) hG.h hs hw h1) fun D σ H ao=>?_
 obtain ⟨A,B,Γ,o,r,em,k⟩:=ao
 have em':(match gv Γ i with
  | some (.list ds)=>match ds[ds.length - 1]? with
   | some d=>gd (i < Γ.length) ((g d (Γ.set i (some (.list (ds.take (ds.length - 1)))))).bind fun Γ'=>Res.ok (Out.nx Γ'))
   | none=>.bad
  | _=>.bad) = .ok o:=em
 cases hg:gv Γ i with
 | none=>rw[hg] at em';cases em'
 | some dl=>
  rw[hg] at em'
  cases dl with
  | list ds=>
   replace em':(match ds[ds.length - 1]? with
    | some d=>gd (i < Γ.length) ((g d (Γ.set i (some (.list (ds.take (ds.length - 1)))))).bind fun Γ'=>Res.ok (Out.nx Γ'))
    | none=>.bad) = .ok o:=em'
   cases hd':ds[ds.length - 1]? with
   | none=>rw[hd'] at em';cases em'
   | some d=>
    rw[hd'] at em'
    obtain ⟨hlt,em'⟩:=b7 em'
    obtain ⟨Γ',e2',em'⟩:=Res.aA em'
    cases em'
    obtain ⟨q,vs,e2,h1,h4⟩:=qx r hi hg
    obtain ⟨y,hy,ry⟩:=h4.get' hd'
    have hll:=h4.length
    rw[hll] at hy
    have ht:=h4.take (ds.length - 1)
    rw[hll] at ht
    refine ⟨.ref q,dq e2,.inl ⟨rfl,vs,SqL.of h1⟩,q,vs,y,rfl,rfl,h1,hy,?_⟩
    rw[List.dropLast_eq_take]
    refine ⟨A,B,_,d,Γ',r.change hi hlt (by rw[hg];simp) e2 h1 (.inl ⟨_,_,rfl,rfl,?_⟩),ry,e2',fun σ' r' _=>k σ' A _ r' (aC.refl _) ((aM.refl r.a).nB r.b)⟩
    rw[hll]
    exact ht
  | _=>cases em'
end
end L3
namespace L2
open PySem PySem.Spec PyProof.Rows
end L2
namespace L3
open PySem PySem.Spec PyProof.Rows L2
section
variable {X:Cx}{k:Nat}{x:Str}{ps:List Str}{fs:List Fl}{f:List ae→Res ae}{O:List Fl}{ms:List ME}{p pos:Pos}{e:Expr}{es:List Expr}
end
section
variable {X:Cx}{K:af}{rm:Rm}{Ol O O':List Fl}{m1 m2:MS}{sts:List Stmt}
end
end L3
namespace L2
open PySem PySem.Spec PyProof.Rows
noncomputable def JZ (lo c:Int) (n:Nat):It:=⟨fun i _=>i < n,fun i H x H'=>H'=H∧x = .int (lo+i*c),fun i _=>n≤i⟩
theorem HQ {P:cc}{w:eK}{K:af}{tg:Expr} (it:Addr) (lo c:Int) (n:Nat):Turn P w K tg (JZ lo c n) [it] it (fun i h=>zo h it (lo+(i:Nat)*c) ((n:Int) - (i:Nat)) c) where
 mem:=by simp
 obj:=fun i h st b hb=>by
  have e:b=it:=by simpa using hb
  subst e
  exact ⟨_,st,fun v z=>by
   have z':Data.fields _=Data.cell v:=z
   cases z'⟩
 keep:=fun i h h' st k=>k it (by simp) _ st
 item:=by
  intro X hP hw hK hc i pins s σ H E I hf st hg
  subst hP hw hK
  obtain ⟨f0,f1,f2,f3,f4,f5⟩:=hf it (by simp)
  have W:=Walks.range (prog:=X.prog) (w:=X.w) (I.ok.hd hc) it lo c n
  refine W.item i s _ _ hg st fun v h' tk hv st' kk=>?_
  obtain ⟨t,rfl⟩:=hv
  have I1:Inv X pins σ H { s with heap:=h',toks:=tk }:=I.turned (fun b o hb e=>kk b o (by simpa using hb) e) f0 f1 f3 f4 f5
  refine ⟨_,rfl,tV (s:={ s with heap:=h',toks:=tk }) (n := "range_iterator") st' rfl rfl (by decide) ⟨.int (lo+i*c),H,I1,⟨t,rfl⟩,⟨rfl,rfl⟩,st',fun b hb=>(hf b hb).1⟩⟩
 done:=by
  intro X hP hw hK hc i pins s σ H E I hf st hg
  subst hP hw hK
  obtain ⟨f0,f1,f2,f3,f4,f5⟩:=hf it (by simp)
  exact wpAny_pyNext_range_end (I.ok.hd hc) st (by have:n≤i:=hg;omega) fun h' eb=>⟨rfl,I.turned (t':=s.toks) (fun b o hb e=>eb b o hb e) f0 f1 f3 f4 f5⟩
 self:=fun _ _ _ _ _ st h=>wpAny_pyIter_rangeiter st h
section
variable {X:Cx}{tg:Expr}
theorem PJ {pins:List (Addr×Obj)}{σ:St}{H:Hp}{s:ar}{R:It→Hp→Prop}{E:ag→ar→Prop}{lo hi c:Int}{t u v:Tok}{tk:Nat} (I:Inv X pins σ H s) (hs:iP lo hi c=true) (h0:0≤dQ lo hi c)
 (q:R (JZ lo c (dQ lo hi c).toNat) H):cn (cx X.prog X.w) X.A (pyIter (.ref s.heap.objs.size)) (PIE X pins σ tg R) E { s with heap:=s.heap.push { cls:=.type "range",data:=.fields #[.int lo t,.int hi u,.int c v] },toks:=tk }:=by
 refine wpAny_pyIter_range (IsRange.new ..) hs ?_
 have I1:Inv X pins σ H { s with heap:=s.heap.push { cls:=.type "range",data:=.fields #[.int lo t,.int hi u,.int c v] },toks:=tk }:=I.kept fun b o e=>aS _ e
 refine ⟨(s.heap.push { cls:=.type "range",data:=.fields #[.int lo t,.int hi u,.int c v] }).objs.size,[(s.heap.push { cls:=.type "range",data:=.fields #[.int lo t,.int hi u,.int c v] }).objs.size],_,_,H,rfl,
  I1.kept (t':=tk) fun b o e=>aS _ e,HQ _ lo c (dQ lo hi c).toNat,?_,fun b hb=>?_,q⟩
 · have e1:lo+((0:Nat):Int)*c=lo:=by simp
   have e2:(((dQ lo hi c).toNat:Nat):Int) - ((0:Nat):Int)=dQ lo hi c:=by omega
   show zo _ _ (lo+((0:Nat):Int)*c) ((((dQ lo hi c).toNat:Nat):Int) - ((0:Nat):Int)) c
   rw[e1,e2]
   exact d4 _ rfl
 · have e:b=(s.heap.push { cls:=.type "range",data:=.fields #[.int lo t,.int hi u,.int c v] }).objs.size:=by simpa using hb
   subst e
   exact I1.sY (aE _) (I1.hok.fresh (aE _))
noncomputable def aaT (ta:TA):TI:=fun σ H R=>ta σ H fun vs H1=>∃i j c:Int,vs=[.int i,.int j,.int c]∧(c≠0∧c.natAbs < 1073741824∧iP i j c=true∧0≤dQ i j c)∧R (JZ i c (dQ i j c).toNat) H1
theorem Mt {a b c:Expr}{ta:TA}{p pos:Pos} (hg:Gl X "range") (hm:X.mg "range" = none) (ha:PA X [a,b,c] ta) (hs:d5 [a,b,c] X.env=[(false,eval a X.env),(false,eval b X.env),(false,eval c X.env)]:=by rfl) (hs2:d5 [b,c] X.env=[(false,eval b X.env),(false,eval c X.env)]:=by rfl) :
 PI X tg (.Call (.Name "range" p) [a,b,c] [] pos) (aaT ta):=by
 intro pins s σ H R I h
 refine Call_ (nY I hg hm boot_range (jv (thn (ha pos pins s σ H _ I h) fun us s1 ao=>?_) (by rw[hs,hs2]) (by rw[hs2];rfl)))
 obtain ⟨vs,H1,I1,r1,q1⟩:=ao
 obtain ⟨i,j,k,e,⟨q0,q1,q2,q3⟩,q⟩:=q1
 subst e
 cases r1 with
 | cons r rr=>
  cases rr with
  | cons r' rr=>
   cases rr with
   | cons r'' rr=>
    cases rr
    obtain ⟨t,rfl⟩:=r
    obtain ⟨t',rfl⟩:=r'
    obtain ⟨t'',rfl⟩:=r''
    exact call_range_3 q0 (PJ I1 q2 q3 q) (.inl (yi q1))
end
end L2
namespace L3
open PySem PySem.Spec PyProof.Rows L2
section
variable {X:Cx}{O:List Fl}{m m' m'':ME}{e a b c tg:Expr}{pos p:Pos}{K:af}{A B:Hp}
theorem PQ (lo c:Int) (n:Nat):ue K A B (JZ lo c n) ((fh n).map fun i=>ae.int (lo+(i:Nat)*c)):=by
 have hl:((fh n).map fun i=>ae.int (lo+(i:Nat)*c)).length=n:=by rw[av,fE]
 refine ⟨fun i H _ _ hi=>(by rw[hl] at hi;exact hi),fun H _ _=>(by rw[hl];exact aE _),fun i A2 H x H' sa s1 s2 hi y=>?_⟩
 obtain ⟨rfl,rfl⟩:=y
 rw[hl] at hi
 exact ⟨A2,.int (lo+(i:Nat)*c),by rw[cp,ku hi];rfl,aM.refl s1,Rp.int.mpr rfl⟩
noncomputable def Gi (d d' d'':ae):Res (List ae):=match d,d',d'' with
 | .int i,.int j,.int c=>gd (c≠0∧c.natAbs < 1073741824∧iP i j c=true∧0≤dQ i j c) (.ok ((fh (dQ i j c).toNat).map fun k=>ae.int (i+(k:Nat)*c)))
 | _,_,_=>.bad
noncomputable def Q6 (m m' m'':ME):MI:=fun Γ=>(m Γ).bind fun d=>(m' Γ).bind fun d'=>(m'' Γ).bind fun d''=>Gi d d' d''
theorem VM {d d' d'':ae}{xs:List ae} (h:Gi d d' d'' = .ok xs):∃i j c:Int,d = .int i∧d' = .int j∧d'' = .int c∧(c≠0∧c.natAbs < 1073741824∧iP i j c=true∧0≤dQ i j c)∧xs=(fh (dQ i j c).toNat).map fun k=>ae.int (i+(k:Nat)*c):=by
 unfold Gi at h
 split at h
 · obtain ⟨hc,em⟩:=b7 h
   cases em
   exact ⟨_,_,_,rfl,rfl,rfl,hc,rfl⟩
 · cases h
theorem Ny (hg:Gl X "range") (hm:X.mg "range" = none) (ha:QE X a (tP X.K O m)) (hb:QE X b (tP X.K O m')) (hc:QE X c (tP X.K O m'')) (hs:d5 [a,b,c] X.env=[(false,eval a X.env),(false,eval b X.env),(false,eval c X.env)]:=by rfl) (hs2:d5 [b,c] X.env=[(false,eval b X.env),(false,eval c X.env)]:=by rfl) (hs3:d5 [c] X.env=[(false,eval c X.env)]:=by rfl) :
 QI X tg (.Call (.Name "range" p) [a,b,c] [] pos) (tIc X.K O (Q6 m m' m'')):=
 QI.imp (Mt hg hm (cA ha.h (cA hb.h (cA hc.h fQ hs3) (by rw[hs2,hs3])) (by rw[hs,hs2])) hs hs2) fun σ H R ao=>by
  obtain ⟨A,B,Γ,xs,r,em,k⟩:=ao
  obtain ⟨d,e1,em⟩:=Res.aA em
  obtain ⟨d',e2,em⟩:=Res.aA em
  obtain ⟨d'',e3,em⟩:=Res.aA em
  obtain ⟨i,j,s,rfl,rfl,rfl,hc,rfl⟩:=VM em
  exact ⟨A,B,Γ,_,r,e1,fun v A1 H1 g1 p1=>⟨A1,B,Γ,_,r.grow g1,e2,fun v' A2 H2 g2 p2=>⟨A2,B,Γ,_,(r.grow g1).grow g2,e3,fun v'' A3 H3 g3 p3=>⟨i,j,s,by rw[p1.int,p2.int,p3.int],hc,k _ A3 H3 ((g1.trans g2).trans g3) (PQ i s _)⟩⟩⟩⟩
noncomputable def Zj:ae→Res ae
 | .int a=>.ok (.int (h9 a))
 | _=>.bad
theorem YQ {a:Expr} (ha:QE X a (tP K O m)):QE X (.UnaryOp .Invert a pos) (tE K O (eUn Zj m)):=aa0 aak (fun A H d1 d x Q e hA p k=>by
 cases d1 with
 | int i=>cases e;exact ⟨i,p.int,k _ A H (aM.refl hA) (Rp.int.mpr rfl)⟩
 | _=>cases e) ha
end
end L3
namespace L2
open PySem
end L2
namespace L2
open PySem PySem.Spec PyProof.Rows
section
variable {P:cc}{w:eK}{A:eI}{E:ag→ar→Prop}{s:ar}
end
section
variable {P:cc}{w:eK}{A:eI}{R:AH→ar→Prop}{I:Addr}{fp wr:List Addr}{G:Array u7→Array u7→Prop}{n:Nat}{Pv:Nat→ag→Prop}{St:Nat→ar→Prop}
end
section
variable {P:cc}{w:eK}{A:eI}{E:ag→ar→Prop}{s:ar}
end
section
variable {P:cc}{w:eK}{A:eI}{E:ag→ar→Prop}{s:ar}
end
section
variable {X:Cx}{pins:List (Addr×Obj)}{σ:St}{H:Hp}{s s':ar}
variable {e:Expr}{ta:TA}{p pos:Pos}
end
end L2
namespace L3
open PySem PySem.Spec PyProof.Rows L2
section
variable {X:Cx}{O:List Fl}{m:ME}{e:Expr}{p p2 pos pos2:Pos}
end
end L3
namespace L2
open PySem PySem.Spec PyProof.Rows
section
variable {P:cc}{w:eK}{A:eI}{E:ag→ar→Prop}{s:ar}
end
section
variable {P:cc}{w:eK}{A:eI}{E:ag→ar→Prop}{s:ar}
end
section
variable {P:cc}{w:eK}{A:eI}{E:ag→ar→Prop}{s:ar}
end
section
variable {P:cc}{w:eK}{A:eI}{E:ag→ar→Prop}{s:ar}
end
section
variable {X:Cx}{a b:Expr}{pos:Pos}
end
end L2
namespace L3
open PySem PySem.Spec PyProof.Rows L2
section
variable {X:Cx}{O:List Fl}{m m':ME}{e e':Expr}{p p2 p3 pos pos2 afe afc:Pos}
end
end L3
namespace L2
open PySem PySem.Spec PyProof.Rows
section
variable {P:cc}{w:eK}{A:eI}{E:ag→ar→Prop}{s:ar}
theorem Tv {l b:Addr}{xs ys:Array ag}{n n2:Nat}{o:Obj}{Q:ag→ar→Prop} (e:s.heap.get? l=some { cls:=.type "list",dict:=none,data:=.seq xs n,slots:=#[] }) (e2:s.heap.get? b=some o) (hc:o.cls = .type "list") (hd:o.data = .seq ys n2) (hz:xs.size+ys.size≤bg)
 (h:Q .none { s with heap:=s.heap.update l (ot (· ++ ys)) }):cn (cx P w) A (call (.builtin "list.extend") [.ref l,.ref b]) Q E s:=by
 refine kD oa ⟨_,e,rfl⟩ F.entry_list_extend ?_ (F.args_list_extend_2 _ _)
 unfold Builtin.«list.extend»
 refine ai (ny (a:=(eL l,eL b)) rfl ?_)
 dsimp only
 unfold Builtin.List.listExtendWith
 refine ai (yB (T := "list") ⟨_,e2,hc⟩ ?_)
 rw[show (Builtin.List.listSameRef (.ref l) (.ref b)||om "list" == om "list" || om "list" == om "tuple")=true by simp]
 simp only[if_true]
 unfold Builtin.List.listItems
 refine ai (ai (oC e2 hd (ay (ai (ai (oC e rfl (ay ?_)))))))
 rw[show (!xs.isEmpty&&ij (xs.size+ys.size))=false by
  rw[show ij (xs.size+ys.size)=false from by unfold ij;exact decide_eq_false (by omega)]
  exact rf _]
 simp only[fF,if_false]
 refine ai ?_
 show cn _ _ (updateSeq l (· ++ ys)) _ _ _
 refine tm e rfl (ay ⟨_,rfl,h⟩) (by omega) (by show (xs++ys).size≤_;rw[Array.size_append];omega)
end
end L2
namespace L3
open PySem PySem.Spec PyProof.Rows L2
section
variable {X:Cx}{rm:Rm}{Ol O:List Fl}{m m':ME}{e a b:Expr}{pos p apos cpos:Pos}
noncomputable def QR (K:af):V→List V→Hp→VK→Prop:=fun x vs H Q=>∃l b xs zs,x = .ref l∧vs=[.ref b]∧H l=some (.lst xs)∧SqL K H b zs∧xs.length+zs.length≤bg∧Q .non (upd H l (.lst (xs++zs)))
theorem Ky:MtM X "list.extend" (QR X.K):=by
 intro pins s σ H x vs v us Q I rx rv h
 obtain ⟨l,b,xs,zs,rfl,rfl,hH,hB,hz,q⟩:=h
 cases rx
 obtain ⟨u,rfl,ru⟩:=rv.one
 cases ru
 obtain ⟨z,its,n,r,hl,e⟩:=I.FQ hH
 obtain ⟨its2,r2,⟨o2,n2,e2,hc2,_,hd2⟩,z2⟩:=I.list hB
 have hl2:=r2.length
 refine Tv e e2 hc2 hd2 (by rw[bE,bE];omega) ?_
 refine ⟨.non,_,I.Gu (its':=its++its2) (t':=s.toks) hH e (by simp) (r.append r2) ?_,rfl,q⟩
 rw[aw]
 omega
theorem UT (i:Nat) {x:Str} (he:QE X e (tE X.K O m)) (hi:isO (fl O i)=true:=by rfl) (hN:X.N[i]?=some x:=by rfl) (hv:Vis X.env.scope x:=by first | exact cb rfl | exact fq (cb rfl) | exact fq (fq rfl)) (hd:(x == ("__debug__" : Str))=false:=by decide)
 (hcd:(x == ("__classdict__" : Str))=false:=by decide) (hbase:jS (.Name x p) "extend" X.env (eval (.Name x p) X.env)=eval (.Name x p) X.env:=by rfl)
 (hfew:((lI cpos (d5 (e::[]) X.env)).all (fun x=>!x.1)&&(zv cpos (sL [] X.env)).all (fun x=>x.1.isSome)
  && decide ((e::[]).length+([]:List qc).length+(if ([]:List qc).isEmpty then 0 else 1) < 30))=true:=by rfl)
 (hline:(apos.endLine == cpos.line)=true:=by rfl) (hs:d5 (e::[]) X.env=(false,eval e X.env)::d5 [] X.env:=by rfl) (hplain:(lI cpos (d5 [] X.env)).any (·.1)=false:=by rfl)
 (hsw:kr (.Call (.Attribute (.Name x p) "extend" apos) [e] [] cpos) none pos.line X.env=pure false:=by rfl) :
 QS X (.Expr (.Call (.Attribute (.Name x p) "extend" apos) [e] [] cpos) pos) (tS X.K rm Ol O O (vL i m)):=by
 refine QS.imp (pq (Lq kS oa xk Ky (du hN hv hd hcd) (cA he.h fQ hs) hbase hfew hline hs hplain) hsw) fun D σ H ao=>?_
 obtain ⟨A,B,Γ,o,r,em,k⟩:=ao
 obtain ⟨d,e1,em⟩:=Res.aA em
 cases hg:gv Γ i with
 | none=>rw[hg] at em;cases em
 | some dl=>
  rw[hg] at em
  cases dl with
  | list ds=>
   cases d with
   | list es=>
    obtain ⟨⟨hc,hlt⟩,em⟩:=b7 em
    cases em
    obtain ⟨q,vs,e2,h1,h4⟩:=qx r hi hg
    refine ⟨.ref q,dq e2,.inl ⟨rfl,vs,SqL.of h1⟩,A,B,Γ,_,r,e1,fun v A1 H1 g1 p1=>?_⟩
    obtain ⟨q2,us,rfl,h5,h6⟩:=Rp.list.mp p1
    refine ⟨q,q2,vs,us,rfl,rfl,g1.hh _ _ h1,h5.elim (fun z=>.inl (aC.rd g1.ah z)) .inr,by rw[← h4.length,← h6.length];exact hc,?_⟩
    exact k σ A1 _ ((r.grow g1).change hi hlt (by rw[hg];simp) e2 (g1.hh _ _ h1) (.inl ⟨_,_,rfl,rfl,(aB.mono g1.aa _ h4).append h6⟩)) g1.aa (g1.nB r.b)
   | _=>cases em
  | _=>cases em
end
noncomputable def fnN (n:Nat) (m:MS) (ds:List ae):Res ae:=(m (ds.map some++cK (n - ds.length) none)).bind fun o=>match o with
 | .rt d=>.ok d
 | .nx _=>.ok .none
 | _=>.bad
section
variable {P:cc}{w:eK}{K:af}{mg:Str→Option ag}{base:Heap}
theorem Vl {x:Str}{st:Stmt}{N ps:List Str}{k:Nat}{fs O O' Ol:List Fl}{rm:Rm}{m:MS} (F:At K mg x st ps) (S:bc N ps (az st)) (hf:fs.length=ps.length) (hn:ps.length≤N.length)
 (hO:∀i,i < fs.length→(fl O i = .imm∧fl fs i = .imm)∨fl O i = .bor)
 (hbody:∀(f:Addr) (cdv:ag) (A:eI) (outer:List Env) (s:ar) (H:Hp) (E:XK),cJ k (A.deeper (kP x (az st) s.heap.objs.size f cdv)) →
  QSs (lX CX0 P w K mg base N x (az st) f cdv A outer s H E).nox (aP st) (tS K .f Ol O O' m)) (hrm:rm = .f):Def P w K mg base (k+1) x ps (spF K fs rm (fnN N.length m)):=by
 subst hrm
 refine F.ok S (fun vs H Q E h=>?_) (fun f cdv A outer s H vs Q E hr h=>?_)
 · obtain ⟨A,ds,d,_,h,_⟩:=h
   rw[h.length.1,hf]
 · obtain ⟨A',ds,d,ha,h,em,q⟩:=h
   obtain ⟨o,e1,em⟩:=Res.aA em
   cases o with
   | rt d'=>
    cases em
    refine ⟨_,(hbody f cdv A outer s H E hr).h,A',H,_,_,lA ha h hO (by omega),e1,fun v A2 H2 s1 s2 sa nw rv=>q v A2 H2 ⟨sa,s2,s1,nw⟩ rv⟩
   | nx Γ'=>
    cases em
    refine ⟨_,(hbody f cdv A outer s H E hr).h,A',H,_,_,lA ha h hO (by omega),e1,fun σ2 A2 H2 r2 sa nw=>q .non A2 H2 ⟨sa,r2.b,r2.a,nw⟩ (show Rp K A2 .none .non from Rp.none.mpr rfl)⟩
   | _=>cases em
end
section
variable {X:Cx}{D:List (Str×ae)}
end
section
variable {X:Cx}{D:List (Str×ae)}{O:List Fl}
end
section
variable {X:Cx}{O:List Fl}{ks:List (Option Expr)}{vs:List Expr}{R:List (Str×ME)}
end
section
variable {X:Cx}{O Ol:List Fl}{rm:Rm}{a e:Expr}{m m':ME}{pos:Pos}
end
section
variable {K:af}{A:Hp}{key:iy}{kvs:List (ae×ae)}{us:List (iy×V)}
end
section
variable {K:af}{A B H:Hp}{O:List Fl}{σ:L2.St}{Γ:Ev}{i:Nat}
end
section
variable {X:Cx}{rm:Rm}{Ol O:List Fl}{m m':ME}{e a b:Expr}{pos:Pos}{i:Nat}{x:Str}{xp tpos:Pos}
end
end L3
namespace L2
open PySem PySem.Spec PyProof.Rows
section
variable {prog:cc}{w:eK}{A:eI}{E:ag→ar→Prop}{s:ar}
end
section
variable {X:Cx}{pos:Pos}
end
end L2
namespace L3
open PySem PySem.Spec PyProof.Rows L2
section
variable {X:Cx}{O O':List Fl}{is:List Nat}{gs:List MG}{es:List Expr}{pos:Pos}
end
end L3
namespace L2
open PySem PySem.Spec PyProof.Rows
open Builtin Builtin.Str
section
variable {X:Cx}
end
end L2
namespace L3
open PySem PySem.Spec PyProof.Rows L2
section
variable {X:Cx}{O:List Fl}{m m':ME}{a b:Expr}{pos p:Pos}{K:af}{A B:Hp}{ds es:List ae}{vs ws:List V}{q q':Addr}
variable {elts:List Expr}{tpos:Pos}
end
end L3
namespace L2
open PySem PySem.Spec PyProof.Rows PySem.Calls
section
variable {prog:cc}{w:eK}{A:eI}{E:ag→ar→Prop}{s:ar}
end
end L2
namespace L2
open PySem PySem.Spec PyProof.Rows
section
variable {X:Cx}{pins:List (Addr×Obj)}{σ:St}{H:Hp}{s s':ar}{e:Expr}{ta:TA}{p pos:Pos}
end
end L2
namespace L3
open PySem PySem.Spec PyProof.Rows L2
section
variable {X:Cx}{O:List Fl}{m:ME}{e:Expr}{p p2 pos pos2:Pos}
noncomputable def uy:List ae→Res ae
 | [.dict kvs]=>.ok (.int kvs.length)
 | _=>.bad
theorem aQ.len {K:af}{A:Hp}:∀{kvs:List (ae×ae)}{u:List (Key×V)},aQ K A kvs u→kvs.length=u.length
 | [],u,h=>by rw[aQ.nil.mp h];rfl
 | (k,d)::r,u,h=>by
  obtain ⟨key,v,u',rfl,_,_,h⟩:=aQ.cons.mp h
  rw[cE,cE,aQ.len h]
theorem BX:dU X (.builtin "len") (rC X.K uy):=by
 intro pins s σ H xs us Q I r h
 obtain ⟨A,ds,d,e,ha,p,k⟩:=h
 match ds,e with
 | [.dict kvs],e=>
  cases e
  obtain ⟨v,r',rfl,p1,p2⟩:=p.cons
  obtain rfl:=p2.nil
  obtain ⟨l,u,rfl,h1,q1⟩:=p1.dict ha
  obtain ⟨z,rfl,rx⟩:=vals1 r
  cases rx
  exact abt I h1 fun t s' I'=>⟨.int kvs.length,H,I',⟨t,by rw[q1.len]⟩,k _ A H (aM.refl ha) (Rp.int.mpr rfl)⟩
end
end L3
namespace L2
open PySem PySem.Spec PyProof.Rows
open AutoSeq1 (wpAny_loadPart')
section
variable {prog:cc}{w:eK}{A:eI}{E:ag→ar→Prop}{s:ar}
end
end L2
namespace L3
open PySem PySem.Spec PyProof.Rows L2
section
variable {X:Cx}
end
theorem len0 {α:Type}{P:List α→Prop} (h:P []) (us:List α) (e:us.length=0):P us:=by
 rw[qB.mp e];exact h
theorem Yl {α:Type}{P:List α→Prop} (h:∀a0,P [a0]) (us:List α) (e:us.length=1):P us:=by
 cases us with
 | nil=>cases e
 | cons a r=>exact len0 (P:=fun r=>P (a::r)) (h a) r (Nat.succ.inj e)
theorem Xp {α:Type}{P:List α→Prop} (h:∀a0 a1,P [a0,a1]) (us:List α) (e:us.length=2):P us:=by
 cases us with
 | nil=>cases e
 | cons a r=>exact Yl (P:=fun r=>P (a::r)) (fun b0=>h a b0) r (Nat.succ.inj e)
theorem Z4 {α:Type}{P:List α→Prop} (h:∀a0 a1 a2,P [a0,a1,a2]) (us:List α) (e:us.length=3):P us:=by
 cases us with
 | nil=>cases e
 | cons a r=>exact Xp (P:=fun r=>P (a::r)) (fun b0 b1=>h a b0 b1) r (Nat.succ.inj e)
theorem adb {α:Type}{P:List α→Prop} (h:∀a0 a1 a2 a3,P [a0,a1,a2,a3]) (us:List α) (e:us.length=4):P us:=by
 cases us with
 | nil=>cases e
 | cons a r=>exact Z4 (P:=fun r=>P (a::r)) (fun b0 b1 b2=>h a b0 b1 b2) r (Nat.succ.inj e)
theorem uF {x:Str}{st:Stmt}{ps:List Str} (h:∀(kV doc pm:ag) (an:Option Addr) (cdv ct:ag) (a0:ag),kN (b9 x x (aR st) (aP st) (az st) .none kV doc pm an cdv ct) ⟨[a0],[]⟩=pure (ps.zip [a0])) (hp:ps.length=1) :
 ∀(kV doc pm:ag) (an:Option Addr) (cdv ct:ag) (us:List ag),us.length=ps.length→kN (b9 x x (aR st) (aP st) (az st) .none kV doc pm an cdv ct) ⟨us,[]⟩=pure (ps.zip us):=fun kV doc pm an cdv ct us hl=>
 Yl (P:=fun us=>kN (b9 x x (aR st) (aP st) (az st) .none kV doc pm an cdv ct) ⟨us,[]⟩=pure (ps.zip us)) (h kV doc pm an cdv ct) us (hl.trans hp)
theorem oG {x:Str}{st:Stmt}{ps:List Str} (h:∀(kV doc pm:ag) (an:Option Addr) (cdv ct:ag) (a0 a1:ag),kN (b9 x x (aR st) (aP st) (az st) .none kV doc pm an cdv ct) ⟨[a0,a1],[]⟩=pure (ps.zip [a0,a1])) (hp:ps.length=2) :
 ∀(kV doc pm:ag) (an:Option Addr) (cdv ct:ag) (us:List ag),us.length=ps.length→kN (b9 x x (aR st) (aP st) (az st) .none kV doc pm an cdv ct) ⟨us,[]⟩=pure (ps.zip us):=fun kV doc pm an cdv ct us hl=>
 Xp (P:=fun us=>kN (b9 x x (aR st) (aP st) (az st) .none kV doc pm an cdv ct) ⟨us,[]⟩=pure (ps.zip us)) (h kV doc pm an cdv ct) us (hl.trans hp)
theorem Bx {x:Str}{st:Stmt}{ps:List Str} (h:∀(kV doc pm:ag) (an:Option Addr) (cdv ct:ag) (a0 a1 a2:ag),kN (b9 x x (aR st) (aP st) (az st) .none kV doc pm an cdv ct) ⟨[a0,a1,a2],[]⟩=pure (ps.zip [a0,a1,a2])) (hp:ps.length=3) :
 ∀(kV doc pm:ag) (an:Option Addr) (cdv ct:ag) (us:List ag),us.length=ps.length→kN (b9 x x (aR st) (aP st) (az st) .none kV doc pm an cdv ct) ⟨us,[]⟩=pure (ps.zip us):=fun kV doc pm an cdv ct us hl=>
 Z4 (P:=fun us=>kN (b9 x x (aR st) (aP st) (az st) .none kV doc pm an cdv ct) ⟨us,[]⟩=pure (ps.zip us)) (h kV doc pm an cdv ct) us (hl.trans hp)
theorem aef {x:Str}{st:Stmt}{ps:List Str} (h:∀(kV doc pm:ag) (an:Option Addr) (cdv ct:ag) (a0 a1 a2 a3:ag),kN (b9 x x (aR st) (aP st) (az st) .none kV doc pm an cdv ct) ⟨[a0,a1,a2,a3],[]⟩=pure (ps.zip [a0,a1,a2,a3])) (hp:ps.length=4) :
 ∀(kV doc pm:ag) (an:Option Addr) (cdv ct:ag) (us:List ag),us.length=ps.length→kN (b9 x x (aR st) (aP st) (az st) .none kV doc pm an cdv ct) ⟨us,[]⟩=pure (ps.zip us):=fun kV doc pm an cdv ct us hl=>
 adb (P:=fun us=>kN (b9 x x (aR st) (aP st) (az st) .none kV doc pm an cdv ct) ⟨us,[]⟩=pure (ps.zip us)) (h kV doc pm an cdv ct) us (hl.trans hp)
section
variable {X:Cx}{O:List Fl}{m mk:ME}{a st:Expr}{p2 pos:Pos}{te ts:TE}
end
section
variable {X:Cx}{pins:List (Addr×Obj)}{σ:L2.St}{H:Hp}{s:ar}{ea:Addr}{ob:Obj}
theorem X8 (I:L2.Inv X pins σ H s) (h1:s.heap.get? ea=some ob) (h2:H ea=none) (h3:ea≠X.env.locals) (h5:∀v,ob.data ≠ .cell v) (h6:∀p∈X.pn++pins,p.1≠ea) (h7:X.s₀.heap.get? ea=none):L2.Inv X pins σ (upd H ea (.frz ob (.own 0))) s:=by
 have ne:∀b o,H b=some o→b≠ea:=fun b o e z=>by rw[z,h2] at e;cases e
 refine ⟨I.ok,I.os,I.bare,⟨I.base.keep,I.base.slot,fun b o e n hx=>?_,I.base.there,fun b xs e=>?_,fun b o u e=>?_,fun b ps e=>?_⟩,I.loc,I.cell,?_,fun x c e=>?_,fun p hp=>?_,fun b o e=>?_,I.len⟩
 · rw[aK (fun z=>by rw[z,h7] at e;cases e)]
   exact I.base.free b o e n hx
 · have:=I.base.tups b xs e
   rw[aK (ne b _ this)]
   exact this
 · have:=I.base.jW b o u e
   rw[aK (ne b _ this)]
   exact this
 · have:=I.base.jo b ps e
   rw[aK (ne b _ this)]
   exact this
 · rw[aK (oP h3)]
   exact I.free
 · have hc:c≠ea:=fun z=>by
    obtain ⟨v,o,q1,q2⟩:=I.cell x c e
    rw[z,h1] at q1
    cases q1
    exact h5 _ q2
   rw[aK hc]
   exact I.fZ x c e
 · obtain ⟨q1,q2,q3⟩:=I.pin p hp
   exact ⟨q1,by rw[aK (h6 p hp)];exact q2,q3⟩
 · by_cases hb:b=ea
   · subst hb
     rw[bw] at e
     cases e
     exact ⟨h1,_,h1⟩
   · rw[aK hb] at e
     exact (I.hok b o e).stay (fun c u _ q=>q) (fun c q=>by rw[aK (ne c _ q)];exact q) fun c xs q=>by rw[aK (ne c _ q)];exact q
end
noncomputable abbrev Cx.inM (X:Cx) (ea:Addr):Cx:={ X with A:=X.A.mark (some (.ref ea)),calm:=false,xe:=fun _ _=>False }
section
variable {X:Cx}{pins:List (Addr×Obj)}{σ:L2.St}{H:Hp}{s:ar}{ea:Addr}
theorem sW (I:L2.Inv X pins σ H s):L2.Inv (Cx.inM X ea) pins σ H s:=
 ⟨⟨I.ok.mod,I.ok.kind,I.ok.glob,I.ok.blt,I.ok.above,I.ok.inj,I.ok.has,I.ok.cab,(fun z=>nomatch z),I.ok.frames,I.ok.stk,I.ok.exf,I.ok.bs,I.ok.bsz,I.ok.By,I.ok.FN,I.ok.ou,I.ok.frf,I.ok.tabs⟩,I.os,I.bare,I.base,I.loc,I.cell,I.free,I.fZ,I.pin,I.hok,I.len⟩
theorem pB (ok:X.Ok) (I:L2.Inv (Cx.inM X ea) pins σ H s):L2.Inv X pins σ H s:=
 ⟨ok,I.os,I.bare,I.base,I.loc,I.cell,I.free,I.fZ,I.pin,I.hok,I.len⟩
end
section
variable {M:zk}{A:eI}{E:ag→ar→Prop}{K:af}
structure kZ (K:af) (C T:Addr):Prop where
 cls:(mP K T).isSome=true
 typ:vx K (.ref T)=some (.type "type")
 base:i3 K (.ref T) (.type "BaseException")=some true
 yes:i3 K (.ref C) (.ref T)=some true
theorem CV {s:ar}{ea C T:Addr}{ob:Obj}{Q:Bool→ar→Prop} (X:K.In s.heap) (he:s.heap.get? ea=some ob) (hcl:ob.cls = .ref C) (h:kZ K C T) (q:Q true s) :
 cn M A (vv (.ref ea) (.ref T)) Q E s:=by
 have nt:j3 M s.heap (sj (.ref T) (.type "tuple")) false:=(PySem.W.looks_typeIn X h.typ).andThen (iO X (show i3 [] (.type "type") (.type "tuple")=some false by decide +kernel))
 unfold vv
 refine ai (nt.at ?_)
 dsimp only;rw[if_neg (by decide)]
 refine ai (ay ?_)
 rw[kU]
 refine ai (ai (ai ?_))
 unfold isExcClass
 refine ai ((mH X h.cls).at ?_)
 rw[if_pos rfl]
 refine (iO X h.base).at ?_
 show cn _ _ (if (!true)=true then _ else _) _ _ _
 rw[if_neg (by decide)]
 refine ay ?_
 refine ay ?_
 refine ai ((cQ he hcl).at ?_)
 rw[kU]
 refine ai (ai (ai ((iO X h.yes).at ?_)))
 rw[if_pos rfl]
 exact ay (ay (ay q))
end
section
variable {X:Cx}{pins:List (Addr×Obj)}{σ:L2.St}{H:Hp}{s:ar}
end
end L3
namespace L3
open PySem PySem.Spec PySem.Calls PyProof.Rows L2 Builtin Builtin.ObjectAttr Builtin.Getset_descriptor
structure jO (K:af) (C:Addr):Prop where
 ga:zD K (.ref C) "__getattribute__" = some (some (.builtin "BaseException.__getattribute__"))
 hk:zD K (.ref C) "__getattr__" = some none
 cl:zD K (.ref C) "__class__" = some (some (.builtin "object.__class__"))
 gt:PySem.W.specialIn K (.builtin "object.__class__") "__get__" = some (some (.builtin "getset_descriptor.__get__"))
 tk:PySem.W.takesIn K (.builtin "object.__class__")=some true
 ob:PySem.W.mroIn K C (.type "object")=some true
 bx:PySem.W.mroIn K C (.type "BaseException")=some true
 cs:(mP K C).isSome=true
section
variable {prog:cc}{w:eK}{A:eI}{E:ag→ar→Prop}{s:ar}{K:af}{x C:Addr}{ob:Obj}
theorem Tt {tp:ag}{R:AH→ar→Prop} (X:K.In s.heap) (he:s.heap.get? x=some ob) (hcl:ob.cls = .ref C) (h:jO K C) (q:R (.ok (.ret (.ref C))) s) :
 wb (cx prog w) A (.call (.builtin "getset_descriptor.__get__") ⟨[.builtin "object.__class__",.ref x,tp],[]⟩) R s:=by
 obtain ⟨hp,gs,dr,tt,os⟩:=s
 have ty:=cQ (M:=cx prog w) he hcl
 have mr:=PySem.W.looks_mroIn (M:=cx prog w) X h.ob
 refine codeAny_call_builtin PySem.W.KF.slot_gs.plain PySem.W.KF.entry_gs (PySem.W.KF.slot_gs.check _ _ _ _ _ _ _ _ PySem.W.KF.type_class (PySem.W.KF.args_gs _ _ _) ?_)
 unfold Builtin.«getset_descriptor.__get__»;unfold descrGet;rw[PySem.W.dga_obj];refine ai (ay ?_)
 unfold descrGetter;unfold descrCheckInstance;unfold descrNameAndClass sj;simp only[PySem.W.KF.owner_class];repeat lk
 refine ⟨Code.quiet_builtin _ (by decide +kernel),tw PySem.W.KF.entry_class ?_⟩
 unfold Builtin.«object.__class__»;unfold shownTypeOf;repeat lk
 exact q
theorem Mq {M:zk} (X:K.In s.heap) (h:jO K C):j3 M s.heap (find (.ref x) (.ref C) "__class__") (.bind (.builtin "getset_descriptor.__get__") (.builtin "object.__class__")):=by
 have a1:=sN (M:=M) X h.cl
 have a2:j3 M s.heap (getOf (some (.builtin "object.__class__"))) (some (.builtin "getset_descriptor.__get__")):=PySem.W.looks_specialIn X h.gt
 have a3:=PySem.W.looks_takesIn (M:=M) X h.tk
 have a4:j3 M s.heap (dataDescriptor? (some (.builtin "object.__class__")) (some (.builtin "getset_descriptor.__get__"))) (some (.builtin "getset_descriptor.__get__",.builtin "object.__class__")):=a3.andThen PySem.W.Looks.now
 exact a1.andThen (a2.andThen (a4.andThen (PySem.W.Looks.tag PySem.W.Looks.now)))
theorem Wo {tk:Tok}{Q:Fin→ar→Prop} (X:K.In s.heap) (he:s.heap.get? x=some ob) (hcl:ob.cls = .ref C) (h:jO K C) (q:Q (.done (.ret (.ref C))) s) :
 cn (cx prog w) A (Builtin.«object.__getattribute__» ⟨[.ref x,.str "__class__" tk],[]⟩) Q E s:=by
 obtain ⟨hp,gs,dr,tt,os⟩:=s
 have ty:=cQ (M:=cx prog w) he hcl
 have fd:=Mq (M:=cx prog w) (x:=x) (s:=⟨hp,gs,dr,tt,os⟩) X h
 unfold Builtin.«object.__getattribute__»
 refine ai (ay ?_)
 refine ai (ay ?_)
 refine ai (ty.at (ai (fd.at ?_)))
 show cn _ _ (bindTo _ _ _ _) _ _ _
 unfold bindTo
 refine ai (jI (yk (Tt X he hcl h ?_)))
 exact ay q
theorem K3 {M:zk}{nv:ag}{Q:Unit→ar→Prop} (X:K.In s.heap) (he:s.heap.get? x=some ob) (hcl:ob.cls = .ref C) (h:jO K C) (q:Q () s) :
 cn M A (checkBuiltinCall "BaseException.__getattribute__" ⟨[.ref x,nv],[]⟩) Q E s:=by
 have isb:j3 M s.heap (sj (.ref x) (.type "BaseException")) true:=(cQ (M:=M) he hcl).andThen (PySem.W.looks_mroIn X h.bx)
 have k1:builtinKind "BaseException.__getattribute__" = some .slot:=by decide +kernel
 have k2:splitId "BaseException.__getattribute__" = some ("BaseException", "__getattribute__"):=by decide +kernel
 have k3:=F.args_bexc_ga (.ref x) nv
 simp only[checkBuiltinCall,k1,k2]
 refine ai (isb.at ?_)
 repeat (first | assumption | wp_step)
theorem Qs {Q:Option ag→ar→Prop} (X:K.In s.heap) (he:s.heap.get? x=some ob) (hcl:ob.cls = .ref C) (h:jO K C) (q:Q (some (.ref C)) { s with toks:=s.toks+1 }) :
 cn (cx prog w) A (getAttr? (.ref x) "__class__") Q E s:=by
 obtain ⟨hp,gs,dr,tt,os⟩:=s
 have ty:=cQ (M:=cx prog w) he hcl
 have l1:=sN (M:=cx prog w) X h.ga
 have l2:=sN (M:=cx prog w) X h.hk
 unfold getAttr? getAttrBy? getAttrBy
 refine ai (wpAny_mkText (ai (pV (jI (ai (ty.at (ai (l1.at ?_))))))))
 show cn _ _ (getAttrByItsOwn _ _ _ _ _ _) _ _ _
 unfold getAttrByItsOwn hookBefore
 refine ai ?_
 show cn _ _ (typeLookup (.ref C) "__getattr__") _ _ _
 refine l2.at (ai (pV (jI ?_)))
 show cn _ _ (boundAndCalled _ _ _) _ _ _
 unfold boundAndCalled
 rw[F.excAttr_ValueError.ga.bind (.ref x)]
 refine ai (ay (yk (codeAny_call_builtin F.excAttr_ValueError.ga.plain F.entry_bexc_ga (K3 X he hcl h (Wo X he hcl h ?_)))))
 exact ay (ay q)
end
end L3
namespace L3
open PySem PySem.Spec PySem.Calls PyProof.Rows L2 Builtin Builtin.ObjectAttr
section
variable {prog:cc}{w:eK}{A:eI}{E:ag→ar→Prop}{s:ar}{K:af}{x C:Addr}{ob:Obj}{c:ag}{Q:ag→ar→Prop}
theorem Wj (X:K.In s.heap) (he:s.heap.get? x=some ob) (hcl:ob.cls = .ref C) (t:jO K C) (hk:ft K (.ref C) c=some false) (hne:(eL C == c)=false) (h:∀tk,Q (.bool false) { s with toks:=tk }) :
 cn (cx prog w) A (call (.builtin "isinstance") [.ref x,c]) Q E s:=by
 refine zh (S:=fun _ R s=>(K.In s.heap∧s.heap.get? x=some ob)∧∀tk,R (.ok (.ret (.bool false))) { s with toks:=tk }) (fun prog w A R s hs=>xS ?_ (by intro z;cases z)) ⟨⟨X,he⟩,h⟩
 obtain ⟨h0,g,d,tt,os⟩:=s
 obtain ⟨⟨X',he'⟩,hq⟩:=hs
 unfold Builtin.«isinstance.nested»
 refine ai ((cQ he' hcl).at ?_)
 rw[if_neg (by rw[hne];decide)]
 obtain ⟨hty,his,hsub⟩:=PySem.W.kit_cls (M:=cx prog w) X' hk
 have li:j3 (cx prog w) h0 (sj (.ref x) c) false:=(cQ he' hcl).andThen hsub
 refine ai (hty.at ?_)
 rw[if_pos (by decide)]
 open PySem.W in (k_delta "plainIsInstance")
 refine ai (ai (his.at ?_));simp only[xo,fF,if_false]
 refine ai (li.at ?_);simp only[fF,if_false]
 refine ai (Qs X' he' hcl t (ai ((mH X' t.cs).at ?_)))
 simp only[xo,fF,if_false]
 refine ai (nL (hsub.at ?_))
 first
  | exact ay (hq _)
  | exact ay (ay (hq _))
  | exact ai (ay (ay (hq _)))
theorem SN (he:s.heap.get? x=some ob) (hcl:ob.cls = .ref C) (h:∀tk,Q (.bool true) { s with toks:=tk }) :
 cn (cx prog w) A (call (.builtin "isinstance") [.ref x,.ref C]) Q E s:=by
 refine zh (S:=fun _ R s=>s.heap.get? x=some ob∧∀tk,R (.ok (.ret (.bool true))) { s with toks:=tk }) (fun prog w A R s hs=>xS ?_ (by intro z;cases z)) ⟨he,h⟩
 obtain ⟨h0,g,d,tt,os⟩:=s
 obtain ⟨he',hq⟩:=hs
 unfold Builtin.«isinstance.nested»
 refine ai ((cQ he' hcl).at ?_)
 rw[if_pos (by simp)]
 exact ai (nL (ay (hq tt)))
end
inductive IsB (K:af) (C:Addr):ag→Bool→Prop where
 | self:IsB K C (.ref C) true
 | yes {c:ag} (hk:ft K (.ref C) c=some true) (hne:(eL C == c)=false):IsB K C c true
 | no {c:ag} (t:jO K C) (hk:ft K (.ref C) c=some false) (hne:(eL C == c)=false):IsB K C c false
noncomputable def eX (i:Nat) (d:ae):ME:=fun Γ=>match gv Γ i with
 | some _=>.ok d
 | none=>.bad
section
variable {X:Cx}{C:Addr}{O:List Fl}{K:af}
theorem aa4 {i:Nat}{d e:ae}{Γ:Ev} (h:eX i d Γ = .ok e):e=d∧∃m,gv Γ i=some m:=by
 unfold eX at h
 cases q:gv Γ i with
 | none=>rw[q] at h;cases h
 | some m=>rw[q] at h;cases h;exact ⟨rfl,m,rfl⟩
theorem Ow {cv:V}{c:ag}{b:Bool} (hb:IsB X.K C c b) (hr:∀u,RelV cv u→u=c):dU X (.builtin "isinstance") (fun xs H Q=>∃p ob,xs=[.ref p,cv]∧H p=some (.frz ob (.own 0))∧ob.cls = .ref C∧Q (.bl b) H):=by
 intro pins s σ H xs us Q I r h
 obtain ⟨p,ob,rfl,hp,hcl,q⟩:=h
 obtain ⟨u1,u2,rfl,r1,r2⟩:=r.two
 cases r1
 cases hr _ r2
 have he:s.heap.get? p=some ob:=(I.hok p _ hp).1
 cases hb with
 | self=>exact SN he hcl fun tk=>⟨.bl true,H,I.tok _,rfl,q⟩
 | yes hk hne=>exact Vp (K:=X.K) I.kIn he hcl hk hne fun tk=>⟨.bl true,H,I.tok _,rfl,q⟩
 | no t hk hne=>exact Wj (K:=X.K) I.kIn he hcl t hk hne fun tk=>⟨.bl false,H,I.tok _,rfl,q⟩
theorem vO (i:Nat) {b:Expr}{cv:V}{c:ag}{bb:Bool}{x:Str}{p1 p2 pos:Pos} (hi:fl O i = .exc C) (hb:IsB X.K C c bb) (hr:∀u,RelV cv u→u=c) (hgi:Gl X "isinstance") (hmi:X.mg "isinstance" = none) (hc:PE X b (tC cv)) (hN:X.N[i]?=some x:=by rfl)
 (hv:Vis X.env.scope x:=by first | exact cb rfl | exact fq (cb rfl) | exact fq (fq rfl)) (hd:(x == ("__debug__" : Str))=false:=by decide) (hcd:(x == ("__classdict__" : Str))=false:=by decide) (h2:noStar b=true:=by rfl) :
 QE X (.Call (.Name "isinstance" p1) [.Name x p2,b] [] pos) (tE X.K O (eX i (.bool bb))):=
 QE.imp (um (Ow hb hr) hgi hmi (show ee "isinstance" = some (.builtin "isinstance") by decide +kernel) (cA (du (i:=i) hN hv hd hcd) (cA hc fQ (bY h2)) (bY rfl)) (by decide) (by decide) (bY rfl) (g8 (by simp[fC,h2]))) fun σ H Q h=>by
  obtain ⟨A,B,Γ,d,r,em,k⟩:=h
  obtain ⟨rfl,m,hm⟩:=aa4 em
  obtain ⟨v,ev,q⟩:=r.slot i m hm
  rw[hi] at q
  obtain ⟨p,ob,rfl,hA,hcl⟩:=q
  exact ⟨.ref p,dq ev,p,ob,rfl,r.a _ _ hA,hcl,k _ A H (aM.refl r.a) (Rp.bool.mpr rfl)⟩
end
section
variable {P:cc}{w:eK}{K:af}{mg:Str→Option ag}{base:Heap}
end
section
variable {X:Cx}{C:Addr}{O:List Fl}{k:Nat}{fn:Str}{ps:List Str}{f:List ae→Res ae}
end
end L3
namespace L3
open PySem PySem.Spec PyProof.Rows L2
theorem aN.aed {K:af}{A B H:Hp}{O:List Fl}{σ:L2.St}{Γ:Ev}{i:Nat}{C:Addr}{d:ae}{v:V} (r:aN K A B H O σ Γ) (hi:i < Γ.length) (hO:i < O.length) (p:Yh A C v):aN K A B H (O.set i (.exc C)) (σ.set i (some v)) (Γ.set i (some d)):=by
 have hs:i < σ.length:=by rw[← r.len];exact hi
 refine ⟨r.a,r.b,by rw[fx,fx];exact r.len,fun j=>?_,fun j k hjk h1 h2 h3 h4=>?_⟩
 · by_cases hj:i=j
   · subst hj
     unfold fl gv sv
     rw[bJ hO,bJ hi,bJ hs]
     exact fun d' e=>⟨v,rfl,p⟩
   · unfold fl gv sv
     rw[aL hj,aL hj,aL hj]
     exact r.slot j
 · have hj:i≠j:=fun z=>by subst z;unfold fl at h1;rw[bJ hO] at h1;cases h1
   have hk:i≠k:=fun z=>by subst z;unfold fl at h2;rw[bJ hO] at h2;cases h2
   unfold fl at h1 h2
   unfold gv at h3 h4
   rw[aL hj] at h1 h3
   rw[aL hk] at h2 h4
   unfold sv
   rw[aL hj,aL hk]
   exact r.sep j k hjk h1 h2 h3 h4
noncomputable def Ed (zf:List ae→Res Str) (ms:List ME):MZ:=fun Γ=>(evs ms Γ).bind zf
section
variable {X:Cx}{k:Nat}{fn:Str}{ps:List Str}{fs:List Fl}{zf:List ae→Res Str}{O Ol:List Fl}{rm:Rm}{ms:List ME}{pf pc pos px pa:Pos}{e:Expr}{es:List Expr}{C:Addr}
end
section
variable {X:Cx}{O O1 O' Ol:List Fl}{rm:Rm}{C TA:Addr}{st:Stmt}{rest:List Stmt}{m1 mn mx:MS}{z:MZ}{T en yn:Str}{np pos2 px pe pa pos:Pos}
end
section
variable {X:Cx}{pins:List (Addr×Obj)}{σ:L2.St}{H:Hp}{s:ar}
end
section
variable {X:Cx}{O O1 Ol:List Fl}{rm:Rm}{C TA:Addr}{st:Stmt}{m1:MS}{z:MZ}{T yn:Str}{kj}{np pos2 px pe pa pos:Pos}
end
section
variable {X:Cx}{pins:List (Addr×Obj)}{σ:L2.St}{H A B:Hp}{s:ar}{Γ:Ev}{O:List Fl}
end
section
variable {X:Cx}{k:Nat}{fn:Str}{ps:List Str}{fs:List Fl}{cl:Str→Addr}{zf:List ae→Res Str}{O Ol:List Fl}{rm:Rm}{ms:List ME}{pf pc pos px pa:Pos}{e tg:Expr}{es:List Expr}{XE:Str→Hp→Prop}{body:List Stmt}
end
section
variable {X:Cx}{rm:Rm}{O:List Fl}{is:List Nat}{g:MG}{it:MI}{cl:List Nat}{mb:MS}{zb:MZ}{tg iter:Expr}{body:List Stmt}{pos:Pos}{XE:Str→Hp→Prop}
end
section
variable {X:Cx}{O:List Fl}{m:ME}{e:Expr}{p p2 pos pos2:Pos}
end
end L3
namespace PySem
open Sem (wp)
section
variable {prog:cc}{w:eK}{A:eI}{E:ag→ar→Prop}{s:ar}
end
end PySem
namespace L2
open PySem PySem.Spec PyProof.Rows
section
variable {P:cc}{w:eK}{A:eI}{E:ag→ar→Prop}{s:ar}
end
section
variable {P:cc}{w:eK}{A:eI}{R:AH→ar→Prop}{I:Addr}{fp wr:List Addr}{G:Array u7→Array u7→Prop}{n:Nat}{Pv:Nat→ag→Prop}{St:Nat→ar→Prop}
end
section
variable {P:cc}{w:eK}{A:eI}{E:ag→ar→Prop}{s:ar}
end
end L2
namespace L3
open PySem PySem.Spec PyProof.Rows L2
section
variable {X:Cx}{O:List Fl}{m:ME}{e:Expr}{ta:TA}{p p2 pos pos2:Pos}
end
section
variable {K:af}{A B H:Hp}{O:List Fl}{σ:L2.St}{Γ:Ev}{q:Nat}{p:Addr}
end
section
variable {X:Cx}{rm:Rm}{Ol O:List Fl}{is:List Nat}{g:MG}{cl:List Nat}{mb:MS}{tg:Expr}{body:List Stmt}{pos py:Pos}{y:Str}
end
noncomputable def rF (c:ME) (cl:List Nat) (b:MS) (zb:MZ):Nat→MZ
 | 0,_=>.bad
 | n+1,Γ=>(c Γ).bind fun x=>match x with
  | .bool true=>(match b Γ with
   | .ok (.nx Γ2)=>rF c cl b zb n (clr cl Γ2)
   | _=>zb Γ)
  | _=>.bad
noncomputable def ZV (fuel:Nat) (c:ME) (cl:List Nat) (b:MS) (zb:MZ):MZ:=fun Γ=>rF c cl b zb fuel Γ
section
variable {X:Cx}{rm:Rm}{O:List Fl}{cl:List Nat}{mb:MS}{mc:ME}{zb:MZ}{c:Expr}{body:List Stmt}{pos:Pos}{XE:Str→Hp→Prop}
end
section
variable {X:Cx}{k:Nat}{fn:Str}{ps:List Str}{fs:List Fl}{cl:Str→Addr}{zf:List ae→Res Str}{O:List Fl}{ms:List ME}{pf pc pa px:Pos}{e ix:Expr}{es:List Expr}{XE:Str→Hp→Prop}
end
section
variable {X:Cx}{k:Nat}{fn:Str}{ps:List Str}{fs:List Fl}{f:List ae→Res ae}{zf:List ae→Res Str}{O Ol:List Fl}{rm:Rm}{ms:List ME}{pf pc pos px pa:Pos}{e:Expr}{es:List Expr}
end
section
variable {X:Cx}{O:List Fl}{C:Addr}{ce:Expr}{a:Stmt}{rest:List Stmt}{m:ME}{z z1 z2:MZ}{pos:Pos}
end
section
variable {X:Cx}{rm:Rm}{Ol O O1 O':List Fl}{C TA:Addr}{sts rest:List Stmt}{m1 mn mx:MS}{z:MZ}{T en yn:Str}{np pe px pa pos pos2:Pos}
end
section
variable {X:Cx}{rm:Rm}{Ol O:List Fl}{m:ME}{e:Expr}{p q p1 pos apos cpos afb ae9 ae8:Pos}{j1}
end
section
variable {X:Cx}{k:Nat}{fn:Str}{ps:List Str}{fs:List Fl}{cl:Str→Addr}{zf:List ae→Res Str}{O:List Fl}{ms:List ME}{pf pc pa px pl:Pos}{e b:Expr}{es:List Expr}{XE:Str→Hp→Prop}{C:Addr}
end
end L3
namespace L2
open PySem PySem.Spec PyProof.Rows
theorem P0 {P:cc}{w:eK}{K:af}{mg mb:Str→Option ag}{CX:CXT}{k:Nat}{fa a:Addr}{fd:mm}{x:Str}{sp:Sp}{s₁:ar}{vs:List ag}{ns:List Int}
 (KX:K.In s₁.heap) (hns:s₁.heap.Ns ba mg) (hb:s₁.heap.Ns qo mb) (hbb:∀x:Str,x ≠ "__name__" → mb x=ee x) (hlim:s₁.heap.NoLimit) (hg:s₁.gens=#[]) (hbm:∃bm ob,mg "__builtins__" = some (.ref bm)∧bm≠qo∧s₁.heap.get? bm=some ob∧ob.cls = .type "module" ∧ ob.dict=some qo∧ob.data = .plain)
 (hT:∀T,TabAt K mg T→s₁.heap.get? T=some { cls:=.none,data:=.fields #[] }∧K.lookup T=none)
 (ha:s₁.heap.get? a=some { cls:=.type "list",data:=.seq vs.toArray }) (hi:sm vs ns) (hl:ns.length≤bg) (hr:cJ k Au)
 (F:∀base:Heap,K.In base→base.Ns ba mg→n8 P w K mg base CX k fa fd [x] sp) (hbind:∀(s:ar) (u:ag),BindsTo s fd ⟨[u],[]⟩ [(x,u)])
 (hsp:∀H:Hp,SqL K H a (ns.map V.int)→sp [.ref a] H (fun v _=>v = .bl true) fun _ _ _=>False)
 (hCX:∀H e s',CX [] H s₁ (fun _ _ _=>False) e s'→False) :
 wb (cx P w) Au (.call (.ref fa) ⟨[.ref a],[]⟩) (fun r s'=>r = .ok (.ret (.bool true))∧OldK s₁.heap s'.heap∧s'.os=s₁.os∧t9 s'.gens) s₁:=by
 have rv:=Cm hi
 have lenV:=hi.length
 have aT:∀T,TabAt K mg T→T≠a:=fun T h z=>by
  have:=(hT T h).1
  rw[z,ha] at this
  cases this
 have core:∀H:Hp,(∀b,H b=none∨(∃o xs,H b=some (.frz o (.lst xs)))∨(H b=some (.tbl gR)∧TabAt K mg b))→(∀T,TabAt K mg T→H T=some (.tbl gR))→SqL K H a (ns.map V.int)→HOk P w H s₁.heap→(∀b,H b≠none→b=a∨TabAt K mg b)→(H a≠none→K.lookup a=none) →
  wb (cx P w) Au (.call (.ref fa) ⟨[.ref a],[]⟩) (fun r s'=>r = .ok (.ret (.bool true))∧OldK s₁.heap s'.heap∧s'.os=s₁.os∧t9 s'.gens) s₁:=by
  intro H hO hTT hS hok hA hK
  have Ai:∀{b:Addr}{o:Obj},s₁.heap.get? b=some o→H b=none→(uh s₁.heap H).get? b=some o:=fun e n=>Rg e n
  have noA:∀{b:Addr}{o:Obj}{es:Array DictEntry}{ep:Nat},s₁.heap.get? b=some o→o.data = .dict es ep→H b=none:=fun {b o es ep} e d=>by
   cases q:H b with
   | none=>rfl
   | some u=>
    rcases hA b (by rw[q];simp) with e' | e'
    · subst e'
      rw[ha] at e;cases e
      have d':Data.seq vs.toArray _=Data.dict es ep:=d
      cases d'
    · rw[(hT b e').1] at e;cases e
      have d':Data.fields #[]=Data.dict es ep:=d
      cases d'
  have nsK:∀{b:Addr}{m:Str→Option ag},s₁.heap.Ns b m→(uh s₁.heap H).Ns b m:=fun {b m} ⟨o,es,ep,e,d,r⟩=>⟨o,es,ep,Ai e (noA e d),d,r⟩
  have hKb:K.In (uh s₁.heap H):=fun b o e=>Ai (KX b o e) (by
   cases q:H b with
   | none=>rfl
   | some u=>
    rcases hA b (by rw[q];simp) with e' | e'
    · subst e'
      rw[hK (by rw[q];simp)] at e;cases e
    · rw[(hT b e').2] at e;cases e)
  have hM:Mod K mg (uh s₁.heap H):=⟨hKb,nsK hns,⟨mb,nsK hb,hbb⟩,let ⟨mc,h1,h2⟩:=hlim;⟨mc,nsK h1,h2⟩,by
   obtain ⟨bm,ob,b1,b2,b3,b4,b5⟩:=hbm
   refine ⟨bm,ob,b1,b2,Ai b3 ?_,b4,b5⟩
   cases q:H bm with
   | none=>rfl
   | some u=>
    rcases hA bm (by rw[q];simp) with e' | e'
    · rw[e',ha] at b3
      cases b3
      have b4:om "list" = .type "module" := b4
      injection b4 with z
      exact absurd z (by decide)
    · rw[(hT bm e').1] at b3;cases b3;cases b4⟩
  have e0:K1 P w K mg (uh s₁.heap H) Au [] s₁ H:=⟨rfl,hM,fun b o e=>Vj e,Nat.le_of_eq (Oq _ _),trivial,fun b hb=>absurd (show b∈([]:List Addr) from hb) (by simp),hok,.of_eq hg,hTT⟩
  refine yv ((F _ hKb (nsK hns)).run Au [] s₁ H ⟨[.ref a],[]⟩ [.ref a] [.ref a] _ _ hr e0 (hbind s₁ (.ref a)) (.cons rfl .nil) (hsp H hS)) fun r s' h=>?_
  cases r with
  | error e=>exact (hCX H e s' h).elim
  | ok fl=>
   cases fl with
   | next=>exact kT h
   | brk=>exact kT h
   | cont=>exact kT h
   | ret u=>
    obtain ⟨v,H',os,bare,un,hok',r',q⟩:=h
    have q':v = .bl true:=q
    subst q'
    obtain rfl:u=ag.bool true:=r'
    have tabs:∀b,H b=some (.tbl gR)→∃ps,s'.heap.get? b=some { cls:=.none,data:=.fields ps }:=fun b z=>by
     obtain ⟨ps,e,_⟩:=hok' b _ (un.jo b _ z)
     exact ⟨ps,e⟩
    refine ⟨rfl,⟨fun b o e=>?_,fun b o e=>un.there b o e (by simp)⟩,os,bare⟩
    cases q:H b with
    | none=>exact .inl (un.keep b o e q (by intro z;exact absurd (show b∈([]:List Addr) from z) (by simp)) (by simp))
    | some u=>
     rcases hO b with z | ⟨ob,xs,z⟩ | ⟨z,zt⟩
     · rw[q] at z;cases z
     · have z2:=un.jW b ob _ z
       obtain ⟨e1,_⟩:=hok b _ z
       obtain ⟨e2,_⟩:=hok' b _ z2
       rw[e] at e1;cases e1
       exact .inl e2
     · obtain ⟨ps,e2⟩:=tabs b z
       have e3:=(hT b zt).1
       rw[e] at e3
       cases e3
       obtain ⟨f,o,fd',c,t1,t2,t3,t4,t5⟩:=zt
       obtain ⟨oc,vc,_,_,_,_,_,_,_,c1,c2,c3,c4,_⟩:=PySem.W.codeHd_of_K KX t5
       exact .inr (.inl ⟨⟨c,oc,vc,c1,c2,c3,c4⟩,rfl,#[],ps,rfl,by rw[Array.empty_append];exact e2⟩)
 have Xi:∀T,TabAt K mg T→∀H:Hp,dF P w H s₁.heap T (.tbl gR):=fun T h H=>⟨#[],(hT T h).1,trivial,fun pos cv z=>nomatch z⟩
 have dec:∀T,Decidable (TabAt K mg T):=fun T=>Classical.propDecidable _
 cases hk:K.lookup a with
 | some o=>
  have e:=KX a o hk
  rw[ha] at e
  cases e
  refine core (fun b=>if TabAt K mg b then some (.tbl gR) else none) (fun b=>?_) (fun T h=>if_pos h) (.inr ⟨_,vs.toArray,_,hk,rfl,rfl,rfl,by rw[bE,lenV];exact hl,by simpa using rv⟩) (fun b u z=>?_) (fun b z=>?_) fun z=>?_
  · by_cases h:TabAt K mg b
    · exact .inr (.inr ⟨if_pos h,h⟩)
    · exact .inl (if_neg h)
  · by_cases h:TabAt K mg b
    · have z':=(if_pos h).symm.trans z
      cases z'
      exact Xi b h _
    · have z':=(if_neg h).symm.trans z
      cases z'
  · by_cases h:TabAt K mg b
    · exact .inr h
    · exact absurd (if_neg h) z
  · exact absurd (if_neg fun h=>aT a h rfl) z
 | none=>
  refine core (fun b=>if b=a then some (.frz { cls:=.type "list",data:=.seq vs.toArray } (.lst (ns.map V.int))) else if TabAt K mg b then some (.tbl gR) else none) (fun b=>?_) (fun T h=>(if_neg (aT T h)).trans (if_pos h)) (.inl (.inr ⟨{ cls:=.type "list",data:=.seq vs.toArray },if_pos rfl⟩)) (fun b u z=>?_) (fun b z=>?_) fun _=>hk
  · by_cases hb:b=a
    · exact .inr (.inl ⟨_,_,if_pos hb⟩)
    · by_cases h:TabAt K mg b
      · exact .inr (.inr ⟨(if_neg hb).trans (if_pos h),h⟩)
      · exact .inl ((if_neg hb).trans (if_neg h))
  · by_cases hb:b=a
    · have z':=(if_pos hb).symm.trans z
      cases z'
      subst hb
      exact ⟨ha,by rw[av];exact hl,vs,_,rv,ha⟩
    · by_cases h:TabAt K mg b
      · have z':=((if_neg hb).trans (if_pos h)).symm.trans z
        cases z'
        exact Xi b h _
      · have z':=((if_neg hb).trans (if_neg h)).symm.trans z
        cases z'
  · by_cases hb:b=a
    · exact .inl hb
    · by_cases h:TabAt K mg b
      · exact .inr h
      · exact absurd ((if_neg hb).trans (if_neg h)) z
theorem Kw {K:af}{c P Q:Addr} (h:iF K c P=true) (g:iF K c Q=true):P=Q:=by
 unfold iF at h g
 split at h
 · rename_i vs _ hk
   rw[hk] at g
   simp only[dS] at h g
   have h1:=h.1.1.1.1.1
   have g1:=g.1.1.1.1.1
   split at h1
   · rename_i P' e
     rw[e] at g1
     exact (beq_iff_eq.mp h1).symm.trans (beq_iff_eq.mp g1)
   · cases h1
 · cases h
noncomputable def nU (K:af) (f P:Addr):Bool:=(match K.lookup f with
 | some ⟨_,_,.func fd,_⟩=>(match fd.code with
  | .ref c=>iF K c P
  | _=>false)
 | _=>false)&&(K.lookup P).isNone
theorem VR {K:af}{mg:Str→Option ag}{f P:Addr} (hm:mg "ways" = some (.ref f)) (h:nU K f P=true):∀T,TabAt K mg T→T=P∧K.lookup T=none:=by
 rintro T ⟨f',o,fd,c,t1,t2,t3,t4,t5⟩
 rw[hm] at t1
 cases t1
 unfold nU at h
 rw[dS] at h
 obtain ⟨h1,h2⟩:=h
 rw[t2] at h1
 obtain ⟨oc,od,da,sl⟩:=o
 have t3:da = .func fd:=t3
 subst t3
 have h1:(match fd.code with
  | .ref c=>iF K c P
  | _=>false)=true:=h1
 rw[t4] at h1
 have e:=Kw t5 h1
 subst e
 exact ⟨rfl,by simpa using h2⟩
theorem QJ {l:sM}{n k:Nat}{q:cc}{loose:List Str}{XP:(Str→Option ag)→Heap→Prop}{d:DefRec}{K:Params→af}{as:List Addr}{e:∀P,as=(K P).map (·.1)}{T:Addr}{CX:eK→CXT}{sp:eK→Sp}{x:Str}
 (hn:l.most=some n) (hn2:n≤bg) (hdf:d.params.defaults=[]) (hr:cJ k Au)
 (F:∀(w:eK) (mg:Str→Option ag) (fa:Addr) (h:Heap),(K w.params).In h→h.Ns ba mg→mg d.name=some (.ref fa) →
  ∃fd:mm,(∀(s:ar) (u:ag),BindsTo s fd ⟨[u],[]⟩ [(x,u)])∧(∃f,mg "ways" = some (.ref f)∧nU (K w.params) f T=true) ∧
   ∀base:Heap,(K w.params).In base→base.Ns ba mg→n8 l.prog w (K w.params) mg base (CX w) k fa fd [x] (sp w))
 (hsp:∀(w:eK) (H:Hp) (a:Addr) (ns:List Int),ns.length≤n→SqL (K w.params) H a (ns.map V.int)→sp w [.ref a] H (fun v _=>v = .bl true) fun _ _ _=>False)
 (hCX:∀(w:eK) (H:Hp) (s:ar) (e:ag) (s':ar),CX w [] H s (fun _ _ _=>False) e s'→False) :
 PySem.W.WalkO q loose XP (PySem.W.kmHook K as e [T]).says l.row.toRowW d [] (fun f vs=>PySem.call f vs):=by
 refine Att.Hw hn hdf fun w s₀ s₁ mg mb fa o pm cd doc a vs ns G Y ho hd hcd hmg hobj hints hlen hg=>?_
 have KX:=PySem.W.km_in_of Y
 obtain ⟨fd,hb,⟨f,hf,ht⟩,hF⟩:=F w mg fa _ KX G.T.g hmg
 refine P0 KX G.T.g G.T.b G.T.builtins G.T.nolimit hg G.T.bmain (fun P h=>?_) hobj hints (eR hlen hn2) hr hF hb (fun H hS=>hsp w H a ns hlen hS) fun H e s'=>hCX w H s₁ e s'
 obtain ⟨e1,e2⟩:=VR hf ht P h
 subst e1
 exact ⟨PySem.W.km_tabs_of Y P (by simp),e2⟩
noncomputable def Kept (h h':Heap):Prop:=∀b o,h.get? b=some o→h'.get? b=some o
theorem Kept.trans {a b c:Heap} (x:Kept a b) (y:Kept b c):Kept a c:=fun p o e=>y p o (x p o e)
theorem Kept.push {h:Heap} (o:Obj):Kept h (h.push o):=fun _ _ e=>aS _ e
noncomputable def Tells (s:ar) (h:Heap) (n:Int) (x:ag) (s':ar):Prop:=∃h2 tk2 t,x = .int n t∧s'={ s with heap:=h2,toks:=tk2 }∧Kept h h2
section
variable {prog:cc}{w:eK}{A:eI}{E:ag→ar→Prop}{s:ar}{hA:Heap}{K:Type} [DecidableEq K] {knd:KeyKind prog w K}{kvs:List (K×ag)}{ep:Nat}{d q I S:Addr}{R:AH→ar→Prop}
noncomputable def zW (knd:KeyKind prog w K) (kvs:List (K×ag)) (i:Nat) (v:ag):Prop:=∃k x,kvs[i]?=some (k,x)∧knd.is k v=true
noncomputable def Lr (kf:Nat→Int) (i j:Nat):Prop:=∀l,l < j→kf i≤kf l∧(l < i→kf i < kf l)
theorem S5 (kf:Nat→Int) (hh:A.handled=none) (hm:hA.DictAt knd d kvs ep) (hI:hA.get? I=none) (hS:hA.get? S=none) (hIS:S≠I)
 (turn:∀i key,zW knd kvs i key→∀h tk,Kept hA h→cn (cx prog w) A.in1 (call (.ref q) [key]) (Tells s h (kf i)) (fun _ _=>False) { s with heap:=h,toks:=tk })
 (hR:∀i v h' tk',i < kvs.length→zW knd kvs i v→Lr kf i kvs.length→Kept hA h'→R (.ok (.ret v)) { s with heap:=h',toks:=tk' }) :
 ∀(r j i:Nat) (h:Heap) (tk:Nat) (vb:ag) (tb:Tok) (c:Nat),kvs.length - j=r→j≤kvs.length→Kept hA h→h.get? S=some (og "list" #[vb,.int (kf i) tb] c)→h.IsKeyIter I d j kvs.length ep →
  zW knd kvs i vb→i < j→Lr kf i j→wb (cx prog w) A (.builtin "min.loop" ⟨[.ref I,.ref q,.ref S],[]⟩) R { s with heap:=h,toks:=tk }:=by
 have nm:(toString "min" ++ toString ".loop" : String) = "min.loop" := by decide
 have hd:hA.get? d≠none:=by
  obtain ⟨o,es,ho,_⟩:=hm
  rw[ho];simp
 have dI:d≠I:=fun z=>hd (z ▸ hI)
 have W:=Walks.dictKeys (prog:=prog) (w:=w) (knd:=knd) (A:=A.in1) hh I d dI kvs ep
 have off:∀{h h':Heap}{b:Addr},Kept hA h→hA.get? b=none→(∀a o,a≠b→h.get? a=some o→h'.get? a=some o)→Kept hA h':=fun k n x a o e=>x a o (fun z=>by rw[z,n] at e;cases e) (k a o e)
 have dAt:∀{h:Heap},Kept hA h→h.DictAt knd d kvs ep:=fun k=>hm.at' fun o e=>k d o e
 have upS:∀{h:Heap} (f:Array ag→Array ag) (a:Addr) (o:Obj),a≠S→h.get? a=some o→(h.update S (ot f)).get? a=some o:=fun f a o ne e=>((mT ..).2 a ne).trans e
 intro r
 induction r with
 | zero=>
  intro j i h tk vb tb c hr hj kp hs it hv hij hb
  have hjn:j=kvs.length:=by omega
  subst hjn
  refine tw ro ?_
  rw[sP iL _]
  show cn _ _ (seqItems? (.ref S) >>= _) _ _ _
  refine ai (oC hs rfl ?_)
  show cn _ _ (tryCatch (yb (.ref I)) _ >>= _) _ _ _
  refine ai (oD (W.done _ _ _ ⟨it,dAt kp⟩ fun h' tk' k'=>?_))
  have k1:∀a o,a≠I→h.get? a=some o→h'.get? a=some o:=fun a o ne e=>k' a o (by simpa using ne) e
  show cn _ _ (updateSeq S (fun _=>#[]) >>= _) _ _ _
  refine ai (tm (k1 S _ hIS hs) rfl (ai (zI (ay ?_))))
  exact hR i vb _ _ hij hv hb (off (off kp hI k1) hS (upS _))
 | succ r ih=>
  intro j i h tk vb tb c hr hj kp hs it hv hij hb
  refine tw ro ?_
  rw[sP iL _]
  show cn _ _ (seqItems? (.ref S) >>= _) _ _ _
  refine ai (oC hs rfl ?_)
  show cn _ _ (tryCatch (yb (.ref I)) _ >>= _) _ _ _
  refine ai (oD (W.item j _ _ _ (by omega) ⟨it,dAt kp⟩ fun v h' tk' hP st k'=>?_))
  have k1:∀a o,a≠I→h.get? a=some o→h'.get? a=some o:=fun a o ne e=>k' a o (by simpa using ne) e
  have kp1:=off kp hI k1
  show cn _ _ (tryCatch (Ap [v] (call (.ref q) [v])) _ >>= _) _ _ _
  refine ai (oD (jI (gc (turn j v hP h' tk' kp1) (fun x s2 he=>?_) fun _ _ z=>z.elim)))
  obtain ⟨h2,tk2,t2,rfl,rfl,k2⟩:=he
  have kp2:=kp1.trans k2
  have hs2:=k2 S _ (k1 S _ hIS hs)
  have it2:h2.IsKeyIter I d (j+1) kvs.length ep:=st.1.at fun o e=>k2 _ _ e
  show cn _ _ (tryCatch (Ap [v,.int (kf j) t2] (richCompare .Lt (.int (kf j) t2) (.int (kf i) tb) >>= _)) _ >>= _) _ _ _
  refine ai (oD (jI (ai (CmpOf.ints_lt (prog:=prog) (w:=w) (A:=A.in1) (P:=fun i v=>∃t,v = .int (kf i) t) kf (fun _ _ y=>y) j i _ _ _ _ _ ⟨t2,rfl⟩ ⟨tb,rfl⟩ ?_))))
  refine ai (jI (ki (ai (zI (ay ?_)))))
  by_cases lt:kf j < kf i
  · simp only[lt,decide_true,if_true]
    refine ai (tm hs2 rfl (ai (zI ?_)))
    rw[nm]
    refine ay ⟨xt iL _,ih (j+1) j _ _ v t2 _ (by omega) (by omega) (off kp2 hS (upS _)) (get?_update_seq hs2 fun _=>#[v,.int (kf j) t2]) (it2.at fun o e=>upS _ _ _ (oP hIS) e) hP (se _) fun l hl=>?_⟩
    by_cases e:l=j
    · subst e;exact ⟨iS _,fun z=>absurd z (g7 _)⟩
    · have:=(hb l (by omega)).1
      exact ⟨by omega,fun _=>by omega⟩
  · simp only[lt,decide_false,fF,if_false]
    refine ai (zI ?_)
    rw[nm]
    refine ay ⟨xt iL _,ih (j+1) i _ _ vb tb c (by omega) (by omega) kp2 hs2 it2 hv (by omega) fun l hl=>?_⟩
    by_cases e:l=j
    · subst e;exact ⟨by omega,fun z=>by omega⟩
    · exact hb l (by omega)
theorem Rb (a v:ag):argsOk "min" ⟨[a],[(lh "key",v)]⟩:=by unfold argsOk;kernel_rfl
theorem Qn (kf:Nat→Int) (hh:A.handled=none) (hsm:(d == kg)=false) (hm:s.heap.DictAt knd d kvs ep) (hn:0 < kvs.length) {Q:ag→ar→Prop}
 (turn:∀i key,zW knd kvs i key→∀h tk,Kept s.heap h→cn (cx prog w) A.in1 (call (.ref q) [key]) (Tells s h (kf i)) (fun _ _=>False) { s with heap:=h,toks:=tk })
 (hQ:∀i v h' tk',i < kvs.length→zW knd kvs i v→Lr kf i kvs.length→Kept s.heap h'→Q v { s with heap:=h',toks:=tk' }) :
 cn (cx prog w) A (call (.builtin "min") [.ref d] [(lh "key",.ref q)]) Q E s:=by
 have nm:(toString "min" ++ toString ".loop" : String) = "min.loop" := by decide
 refine kmk_tree PySem.F.kind_min PySem.F.plain_min PySem.F.entry_min (Rb _ _) ?_
 show cn _ _ (Builtin.Builtins.bindParams "min" ["key", "default"] 0 ⟨[],[(lh "key",.ref q)]⟩ >>= _) _ _ s
 refine ai (ny (show Builtin.Builtins.bindParams "min" ["key", "default"] 0 ⟨[],[(lh "key",.ref q)]⟩=pure [some (.ref q),none] from rfl) (ai (ay (ai (wpAny_pyIter_dict hsm hm ?_)))))
 refine ai (wpAny_newList ?_ (iE _))
 rw[nm]
 generalize hoI:({ cls:=.type "dict_keyiterator",data:=.fields #[.ref d,.int 0 0,.int kvs.length 0,.int ep 0] }:Obj)=oI
 have gI:(s.heap.push oI).get? s.heap.objs.size=some oI:=d4 _ (by rw[← hoI];rfl)
 have zS:(s.heap.push oI).objs.size=s.heap.objs.size+1:=by rw[ow]
 have kp:Kept s.heap ((s.heap.push oI).push (og "list" #[] 0)):=(Kept.push _).trans (Kept.push _)
 have it0:((s.heap.push oI).push (og "list" #[] 0)).IsKeyIter s.heap.objs.size d 0 kvs.length ep:=⟨oI,Kept.push _ _ _ gI,by rw[← hoI],by rw[← hoI];rfl⟩
 have gS:((s.heap.push oI).push (og "list" #[] 0)).get? (s.heap.push oI).objs.size=some (og "list" #[] 0):=d4 _ rfl
 have hI:s.heap.get? s.heap.objs.size=none:=sF (aE _)
 have hS:s.heap.get? (s.heap.push oI).objs.size=none:=sF (by rw[zS];omega)
 have hIS:(s.heap.push oI).objs.size≠s.heap.objs.size:=by rw[zS];omega
 generalize (s.heap.push oI).objs.size=S at gS hS hIS
 generalize s.heap.objs.size=I at it0 hI hIS
 generalize (s.heap.push oI).push (og "list" #[] 0)=h at kp it0 gS
 refine ay ⟨xt iL _,?_⟩
 have hd:s.heap.get? d≠none:=by
  obtain ⟨o,es,ho,_⟩:=hm
  rw[ho];simp
 have dI:d≠I:=fun z=>hd (z ▸ hI)
 have W:=Walks.dictKeys (prog:=prog) (w:=w) (knd:=knd) (A:=A.in1) hh I d dI kvs ep
 have off:∀{h h':Heap}{b:Addr},Kept s.heap h→s.heap.get? b=none→(∀a o,a≠b→h.get? a=some o→h'.get? a=some o)→Kept s.heap h':=fun k n x a o e=>x a o (fun z=>by rw[z,n] at e;cases e) (k a o e)
 have upS:∀{h:Heap} (f:Array ag→Array ag) (a:Addr) (o:Obj),a≠S→h.get? a=some o→(h.update S (ot f)).get? a=some o:=fun f a o ne e=>((mT ..).2 a ne).trans e
 refine tw ro ?_
 rw[sP iL _]
 show cn _ _ (seqItems? (.ref S) >>= _) _ _ _
 refine ai (oC gS rfl ?_)
 show cn _ _ (tryCatch (yb (.ref I)) _ >>= _) _ _ _
 refine ai (oD (W.item 0 _ _ _ hn ⟨it0,hm.at' fun o e=>kp d o e⟩ fun v h' tk' hP st k'=>?_))
 have k1:∀a o,a≠I→h.get? a=some o→h'.get? a=some o:=fun a o ne e=>k' a o (by simpa using ne) e
 have kp1:=off kp hI k1
 show cn _ _ (tryCatch (Ap [v] (call (.ref q) [v])) _ >>= _) _ _ _
 refine ai (oD (jI (gc (turn 0 v hP h' tk' kp1) (fun x s2 he=>?_) fun _ _ z=>z.elim)))
 obtain ⟨h2,tk2,t2,rfl,rfl,k2⟩:=he
 have hs2:=k2 S _ (k1 S _ hIS gS)
 show cn _ _ (updateSeq S (fun _=>#[v,.int (kf 0) t2]) >>= _) _ _ _
 refine ai (tm hs2 rfl ?_)
 rw[nm]
 refine ay ⟨xt iL _,S5 kf hh hm hI hS hIS turn hQ _ 1 0 _ _ v t2 _ rfl hn (off (kp1.trans k2) hS (upS _)) (get?_update_seq hs2 fun _=>#[v,.int (kf 0) t2]) ((st.1.at fun o e=>k2 _ _ e).at fun o e=>upS _ _ _ (oP hIS) e) hP (by decide) fun l hl=>?_⟩
 have e:l=0:=by omega
 subst e
 exact ⟨iS _,fun z=>absurd z (g7 _)⟩
end
end L2
namespace L2
open PySem PySem.Spec PySem.W PyProof.Rows
section
variable {prog:cc}{w:eK}{A:eI}{E:ag→ar→Prop}{s:ar}
theorem Gm {x:Str}{p:Pos}:Su (.Name x p):=fun _ _=>rfl
theorem Ig {i:Int}{j:Nat}{p:Pos}:Su (.Constant (.int i) j p):=fun _ _=>rfl
theorem Qv {env:Env}{x y:Str}{p1 p2 p3 p4 p5:Pos}{j:Nat}{m:Str→Option ag}{key:ag}{c d a:Addr}{f:Key→Option ag}{k:Key}{its:Array ag}{n:Int}{t:Tok}{Q:ag→ar→Prop}
 (hk:env.scope.kind = .function) (hx:env.kindOf x=some .local) (hy:env.kindOf y=some .free) (hc:env.cells.lookup y=some c) (hn:s.heap.Ns env.locals m) (hm:m x=some key) (hcell:s.heap.IsCell c (some (.ref d)))
 (hd:s.heap.MapOf (bD prog w) d f) (hkey:(bD prog w).is k key=true) (hv:f k=some (.ref a)) (ht:uS s.heap a its) (h0:its[0]?=some (.int n t)) (hsz:its.size≤bg)
 (hdx:(x == ("__debug__" : Str))=false) (hdy:(y == ("__debug__" : Str))=false) (hcy:(y == ("__classdict__" : Str))=false) (h:∀tk,Q (.int n t) { s with toks:=tk }) :
 cn (cx prog w) A (eval (.Subscript (.Subscript (.Name y p1) (.Name x p2) p3) (.Constant (.int 0) j p4) p5) env) Q E s:=by
 refine Jo (T := "tuple") PySem.F.slot_tuple_getitem.lookup Ig ?_
 refine Jo (T := "dict") vS.lookup Gm ?_
 refine ya (wpAny_loadName_free hk hy hc hcell ?_ hcy) hdy
 refine ya (wpAny_loadName_local hk hx hn hm ?_) hdx
 refine ⟨hd.typeIs,wpAny_getItem_of hkey hd hv (wpAny_Constant_int ?_)⟩
 have hl:=rZ
 refine ⟨ht.typeIs,getItem_tuple (j:=0) ht (by decide) (by decide) ?_ h0 (h _)⟩
 have:0 < its.size:=(vE.mp h0).1
 unfold seqIndex?
 simp[this]
structure Ue (h:Heap) (qual:Str) (params:uu) (body:Expr) (scope:nk) (clos:List (Str×Addr)) (pm ctv:ag) (q c':Addr):Prop where
 aeW:h.get? q=some (AA "<lambda>" qual params body scope clos pm c' ctv)
 code:h.CodeRec (.ref c') qual
theorem Gj {h h':Heap}{cv:ag}{q:Str} (k:Kept h h') (x:h.CodeRec cv q):h'.CodeRec cv q:=by
 obtain ⟨c,oc,vs,tq,e,ho,hd,hq⟩:=x
 exact ⟨c,oc,vs,tq,e,k _ _ ho,hd,hq⟩
theorem JT {h h':Heap}{a:Addr}{its:Array ag} (k:Kept h h') (x:uS h a its):uS h' a its:=by
 obtain ⟨o,e,r⟩:=x
 exact ⟨o,k _ _ e,r⟩
theorem S8 {hA h:Heap}{tk:Nat}{qual:Str}{params:uu}{scope:nk}{clos:List (Str×Addr)}{pm ctv:ag}{q c':Addr}{x y:Str}{p1 p2 p3 p4 p5:Pos}{j:Nat}{key:ag}{c d a:Addr}{vs:List (Key×ag)}{k:Key}{its:Array ag}{n:Int}{t:Tok}
 (L:Ue hA qual params (.Subscript (.Subscript (.Name y p1) (.Name x p2) p3) (.Constant (.int 0) j p4) p5) scope clos pm ctv q c') (kp:Kept hA h) (hroom:A.depth < recursionLimit) (hlim:hA.NoLimit)
 (hbind:kN (kla_fn "<lambda>" qual params (.Subscript (.Subscript (.Name y p1) (.Name x p2) p3) (.Constant (.int 0) j p4) p5) scope clos pm (.ref c') ctv) ⟨[key],[]⟩=pure [(x,key)])
 (hco:scope.isCoroutine=false) (hgen:scope.isGenerator=false) (hk:scope.kind = .function) (hce:∀z∈scope.names,z.2 ≠ .cell) (hx:scope.names.lookup x=some .local) (hy:scope.names.lookup y=some .free) (hc:clos.lookup y=some c)
 (hcell:hA.IsCell c (some (.ref d))) (hd:hA.DictOf (bD prog w) d vs) (hkey:(bD prog w).is k key=true) (hv:qV vs k=some (.ref a)) (ht:uS hA a its) (h0:its[0]?=some (.int n t)) (hsz:its.size≤bg)
 (hdx:(x == ("__debug__" : Str))=false) (hdy:(y == ("__debug__" : Str))=false) (hcy:(y == ("__classdict__" : Str))=false) :
 cn (cx prog w) A (call (.ref q) [key]) (Tells s h n) (fun _ _=>False) { s with heap:=h,toks:=tk }:=by
 refine yk (kla_callFunE hroom (kp _ _ L.aeW) rfl hco hgen rfl (Gj kp L.code) ?_)
 rw[hbind]
 refine ay (wpAny_newFunctionEnv hce (fun z hz=>by rw[be.mp hz];exact hx) (fun h1 hns hsb=>?_) hk)
 have k1:Kept h h1:=fun b o e=>hsb.extBut b o (gL (dP e)) (aS _ e)
 have kA:=kp.trans k1
 refine ⟨hlim.keeps kA,kla_codeExpr ?_⟩
 refine Qv (c:=c) (d:=d) (a:=a) (f:=qV vs) (k:=k) (its:=its) (key:=key) hk hx hy hc hns (by simp) ?_ ?_ hkey hv (JT kA ht) h0 hsz hdx hdy hcy fun tk'=>⟨_,_,t,rfl,rfl,k1⟩
 · obtain ⟨o,e,r⟩:=hcell
   exact ⟨o,kA _ _ e,r⟩
 · obtain ⟨o,es,ep,e,r⟩:=hd
   exact Heap.DictOf.mapOf ⟨o,es,ep,kA _ _ e,r⟩
end
theorem Nq {pos:Pos}{a b c cv:ag}:∀(l:List ag),TriplesOk l→uk pos (l++[a,b,c])=some cv→uk pos l=some cv∨cv=c:=by
 intro l
 fun_induction TriplesOk l with
 | case1=>
  intro _ h
  right
  rw[n4] at h
  unfold uk at h
  split at h
  · rename_i e
    cases e
    split at h
    · exact (Option.some.inj h).symm
    · unfold uk at h;cases h
  · cases h
 | case2 line u col v c2 rest ih=>
  intro ht h
  rw[kK,kK,kK] at h
  unfold uk at h ⊢
  split at h
  · rename_i hc
    rw[if_pos hc]
    exact .inl h
  · rename_i hc
    rw[if_neg hc]
    exact ih ht h
 | case3=>intro ht;exact ht.elim
section
variable {X:Cx}{pins:List (Addr×Obj)}{σ:St}{H:Hp}{s:ar}
theorem Rx {cd P:Addr}{params:uu}{body:Expr}{scope:nk}{clos:List (Str×Addr)}{pos:Pos}{Q:ag→ar→Prop}{E:ag→ar→Prop} (I:Inv X pins σ H s) (hcode:X.env.code = .ref cd) (hhd:iF X.K cd P=true) (hT:TabAt X.K X.mg P)
 (hq:X.env.qual ++ "<lambda>" = gR) (hcl:vi scope X.env=pure clos) (hdef:defaultsOf params X.env=([],[]))
 (h:∀q c' ctv H' s',Inv X pins σ H' s'→(H'=H∨(H c'=none∧H'=upd H c' (.own P)))→Ue s'.heap gR params body scope clos ((X.mg "__name__").getD .none) ctv q c'→(∀b o,b≠P→s.heap.get? b=some o→s'.heap.get? b=some o)→Q (.ref q) s') :
 cn (cx X.prog X.w) X.A (eval (.Lambda params body scope pos) X.env) Q E s:=by
 refine kla_eval hdef ?_
 rw[hq]
 have hH:H P=some (.tbl gR):=I.base.jo _ _ (I.ok.tabs P hT)
 obtain ⟨ps,hP,ht,hcs⟩:=I.hok P _ hH
 have C:=codeHd_of_K I.kIn hhd
 have hg:=I.mod.glob.keeps I.bk
 obtain ⟨bm,ob,b1,b2,b3,b4,b5,b6⟩:=I.mod.bmain
 have b3:=I.bk _ _ b3
 have bP:bm≠P:=fun z=>by rw[z,hP] at b3;cases b3;cases b4
 have gP:ba≠P:=fun z=>by
  obtain ⟨o,es,ep,e,hd,_⟩:=hg
  rw[z,hP] at e;cases e;cases hd
 have bG:bm≠ba:=fun z=>by
  obtain ⟨o,es,ep,e,hd,_⟩:=hg
  rw[← z,b3] at e;cases e;rw[b6] at hd;cases hd
 have hb:s.heap.BuiltinsAt X.mg P:=⟨bm,ob,b1,b2,bG,bP,b3,b4,b5,b6⟩
 cases hf:uk pos ps.toList with
 | some cv=>
  obtain ⟨c',oc,vs,t,rfl,hown,ho,hd,hq1⟩:=hcs pos cv hf
  refine kla_makeFunctionHit hcl I.ok.glob hg hcode C hP ht hf hb fun ctv h' tk hk hsz=>?_
  have keep:∀b o,s.heap.get? b=some o→(h'.push (AA "<lambda>" gR params body scope clos ((X.mg "__name__").getD .none) c' ctv)).get? b=some o:=fun b o e=>aS _ (hk b o e)
  exact h _ c' ctv H _ (I.un (Un.kept keep) (I.hok.kept keep)) (.inl rfl) ⟨d4 _ rfl,⟨c',oc,vs,t,rfl,keep _ _ ho,hd,hq1⟩⟩ fun b o _ e=>keep b o e
 | none=>
  refine kla_makeFunction hcl I.ok.glob hg hcode C hP ht hf gP hb fun c' ctv h' tk hx hge hlt hrec htb=>?_
  have hc0:H c'=none:=I.hok.fresh hge
  have nP:∀{b:Addr},H b=none→b≠P:=fun n z=>by rw[z,hH] at n;cases n
  have nC:∀{b:Addr}{o:HO},H b=some o→b≠c':=fun e z=>by rw[z,hc0] at e;cases e
  have old:∀b o,b≠P→s.heap.get? b=some o→(h'.push (AA "<lambda>" gR params body scope clos ((X.mg "__name__").getD .none) c' ctv)).get? b=some o:=fun b o ne e=>aS _ (hx b o ne e)
  have tb2:(h'.push (AA "<lambda>" gR params body scope clos ((X.mg "__name__").getD .none) c' ctv)).get? P=some (tabObj (ps++#[pv pos.line,pv pos.col,.ref c'])):=aS _ htb
  obtain ⟨c2,oc,vs,t,ec,ho,hd,hq1⟩:=hrec
  cases ec
  have ho2:(h'.push (AA "<lambda>" gR params body scope clos ((X.mg "__name__").getD .none) c' ctv)).get? c'=some oc:=aS _ ho
  have un:Un X.fs [] H (upd H c' (.own P)) s.heap (h'.push (AA "<lambda>" gR params body scope clos ((X.mg "__name__").getD .none) c' ctv)):=by
   refine ⟨fun b o e n _ _=>old b o (nP n) e,fun b o e n _ _=>⟨o.slots,old b o (nP n) e⟩,fun b o e n _=>?_,fun b o e _=>?_,fun b xs e=>?_,fun b o u e=>?_,fun b q e=>?_⟩
   · rw[aK (gL (d6 (dP e) hge))];exact n
   · by_cases z:b=P
     · rw[z];exact ⟨_,tb2⟩
     · exact ⟨o,old b o z e⟩
   · rw[aK (nC e)];exact e
   · rw[aK (nC e)];exact e
   · rw[aK (nC e)];exact e
  have hok:HOk X.prog X.w (upd H c' (.own P)) (h'.push (AA "<lambda>" gR params body scope clos ((X.mg "__name__").getD .none) c' ctv)):=fun b o e=>by
   by_cases z:b=c'
   · subst z
     rw[bw] at e
     cases e
     exact ⟨oc,ho2⟩
   · rw[aK z] at e
     have ho':∀b2 a,H b2=some (.own a)→upd H c' (.own P) b2=some (.own a):=fun b2 a q=>by rw[aK (nC q)];exact q
     by_cases zP:b=P
     · subst zP
       rw[hH] at e
       cases e
       have el:(ps++#[pv pos.line,pv pos.col,eL c']).toList=ps.toList++[pv pos.line,pv pos.col,.ref c']:=by simp
       refine ⟨_,tb2,by rw[el];exact TriplesOk_snoc _ _ _ _ ht,fun pos2 cv hv=>?_⟩
       rw[el] at hv
       rcases Nq _ ht hv with hv | hv
       · obtain ⟨c3,ob3,vs3,t3,e1,e2,e3,e4,e5⟩:=hcs pos2 cv hv
         exact ⟨c3,ob3,vs3,t3,e1,ho' _ _ e2,old _ _ (fun z=>by rw[z,hH] at e2;cases e2) e3,e4,e5⟩
       · exact ⟨c',oc,vs,t,hv,bw,ho2,hd,hq1⟩
     · refine (I.hok b o e).stay (fun b2 u hb2 q=>old b2 u ?_ q) (fun b2 q=>ho' b2 b q) fun b2 xs q=>by rw[aK (nC q)];exact q
       rcases hb2 with rfl | hb2
       · exact zP
       · exact fun z=>by rw[z,hH] at hb2;cases hb2
  exact h _ c' ctv _ _ (I.un un hok) (.inr ⟨hc0,rfl⟩) ⟨d4 _ rfl,⟨c',oc,vs,t,rfl,ho2,hd,hq1⟩⟩ old
end
theorem zF {κ:Type} [DecidableEq κ]:∀{vs:List (κ×ag)}{i:Nat}{k:κ}{x:ag},(vs.map (·.1)).Nodup→vs[i]?=some (k,x)→qV vs k=some x
 | [],i,k,x,_,e=>by simp at e
 | (k0,x0)::vs,i,k,x,hn,e=>by
  unfold qV
  rw[dy,lT] at hn
  match i with
  | 0=>
   have e:=Option.some.inj e
   cases e
   rw[List.find?_cons_of_pos (by simp)];rfl
  | i+1=>
   have e:vs[i]?=some (k,x):=by simpa using e
   have hne:k0≠k:=fun z=>hn.1 (by
    rw[z]
    exact dc.mpr ⟨_,gX e,rfl⟩)
   rw[List.find?_cons_of_neg (by simpa using hne)]
   exact zF hn.2 e
theorem Paired.getL {α β:Type}{F:α→β→Prop}:∀{l₁:List α}{l₂:List β}{i:Nat}{b:β},qk F l₁ l₂→l₂[i]?=some b→∃a,l₁[i]?=some a∧F a b
 | _,_,i,b,.nil,e=>by simp at e
 | _,_,0,b,.cons r t,e=>by cases (Option.some.inj e);exact ⟨_,rfl,r⟩
 | _,_,i+1,b,.cons r t,e=>Paired.getL (i:=i) t (by simpa using e)
noncomputable def aeP (K:af) (i:Nat):TE:=fun σ H Q=>∃(d:Addr) (kvs:List (Key×V)) (cs:Nat→Int),σ[i]?=some (some (.ref d))∧H d=some (.dK kvs)∧0 < kvs.length∧(∀l k v,kvs[l]?=some (k,v)→∃a xs,v = .ref a∧SqT K H a (.int (cs l)::xs)) ∧
 ∀l k v H',kvs[l]?=some (k,v)→Lr cs l kvs.length→aC H H'→Q (kV k) H'
theorem Iu {x y:Str}{c:Addr}{scope:nk}{env:Env} (hs:scope.names=[(x,.local),(y,.free)]) (hc:env.cells.lookup y=some c):vi scope env=pure [(y,c)]:=by
 unfold vi
 rw[hs]
 simp[cellOf,hc]
theorem JR {P:cc}{w:eK}{k:Key}{u:ag} (h:(bD P w).is k u=true):RelV (kV k) u:=by
 cases k with
 | inl i=>exact Value.isInt_shape h
 | inr x=>exact Value.isStrOf_shape h
section
variable {X:Cx}
theorem Nj {i k:Nat}{x y:Str}{cd P:Addr}{params:uu}{scope:nk}{j:Nat}{p p1 q1 q2 q3 q4 q5 Rq kp pos:Pos}
 (hN:X.N[i]?=some y) (hv:X.env.kindOf y=some .cell) (hr:cJ k X.A) (hcode:X.env.code = .ref cd) (hhd:iF X.K cd P=true) (hT:TabAt X.K X.mg P) (hq:X.env.qual ++ "<lambda>" = gR)
 (hg:Gl X "min") (hm:X.mg "min" = none) (hs:scope.names=[(x,.local),(y,.free)]) (hco:scope.isCoroutine=false) (hgen:scope.isGenerator=false) (hk:scope.kind = .function) (hdef:defaultsOf params X.env=([],[]))
 (hbind:∀(pm cv ctv key:ag) (clos:List (Str×Addr)) (body:Expr),kN (kla_fn "<lambda>" gR params body scope clos pm cv ctv) ⟨[key],[]⟩=pure [(x,key)]) (hxy:(y == x)=false)
 (hdx:(x == ("__debug__" : Str))=false) (hdy:(y == ("__debug__" : Str))=false) (hcy:(y == ("__classdict__" : Str))=false) :
 PE X (.Call (.Name "min" p) [.Name y p1] [⟨some "key",.Lambda params (.Subscript (.Subscript (.Name y q1) (.Name x q2) q3) (.Constant (.int 0) j q4) q5) scope Rq,kp⟩] pos) (aeP X.K i):=by
 intro pins s σ H Q I h
 obtain ⟨d,kvs,cs,hσ,hd,hn,aaZ,hQ⟩:=h
 have Zn:Vis X.env.scope y:=.inr (.inl hv)
 refine nE (nY I hg hm (u:=.builtin "min") rfl ?_)
 refine callWith_kw ?_
 have hpa:PA X [.Name y p1] _:=cA (du hN Zn hdy hcy) fQ
 refine thn (hpa pos pins s σ H (fun vs H1=>vs=[.ref d]∧H1=H) I ⟨.ref d,hσ,rfl,rfl⟩) fun us s1 ao=>?_
 obtain ⟨vs,H1,I1,rv,hvs,hH1⟩:=ao
 subst hvs
 subst hH1
 obtain ⟨u,us',rfl,ru,rn⟩:∃u us',us=u::us'∧u=eL d∧us'=[]:=by
  cases rv with
  | cons r t=>cases t;exact ⟨_,_,rfl,r,rfl⟩
 subst ru
 subst rn
 obtain ⟨c,hc⟩:=I1.ok.has y (.inl hv)
 refine kws_cons (Rx I1 hcode hhd hT hq (Iu hs hc) hdef fun q c' ctv H' s' I' hH' L hkeep=>kws_nil ?_)
 have sH:aC H1 H':=by
  rcases hH' with rfl | ⟨z,rfl⟩
  · exact aC.refl _
  · exact fun b o e=>by rw[aK (fun y=>by rw[y,z] at e;cases e)];exact e
 have hd':=sH _ _ hd
 obtain ⟨zl,hsm,vs,rel,dd⟩:=I'.hok d _ hd'
 obtain ⟨od,es,ep,e1,e2,e3,e4,e5,e6⟩:=id dd
 have hat:s'.heap.DictAt (bD X.prog X.w) d vs ep:=⟨od,es,e1,e2,e3,e4,e5,e6⟩
 have hl:=rel.length
 have hcell:s'.heap.IsCell c (some (.ref d)):=by
  obtain ⟨m,hn',hloc⟩:=I'.loc
  obtain ⟨u,ru,l⟩:=hloc i y (.ref d) hN hσ Zn
  obtain rfl:u=eL d:=ru
  rcases l with ⟨l1,_⟩ | ⟨_,c2,l2,l3⟩
  · rw[hv] at l1;cases l1
  · rw[hc] at l2;cases l2;exact l3
 refine Qn (knd:=bD X.prog X.w) (kvs:=vs) (ep:=ep) cs hr.hd hsm hat (by omega) (fun l key hkey h tk kp=>?_) fun l v h' tk' hlt hkey hb kp=>?_
 · obtain ⟨k,x',hx,his⟩:=hkey
   obtain ⟨⟨k2,v2⟩,g1,g2,g3⟩:=Paired.getL rel hx
   have g2:k2=k:=g2
   subst g2
   obtain ⟨a,xs,ev,hq2⟩:=aaZ l k2 v2 g1
   have ev:v2 = .ref a:=ev
   subst ev
   obtain rfl:x'=eL a:=g3
   obtain ⟨its,rr,ht,hz⟩:=I'.tuple (sH.qg hq2)
   obtain ⟨t,its',rfl⟩:∃t its',its=ag.int (cs l) t::its':=by
    cases rr with
    | cons r t=>obtain ⟨t',rfl⟩:=r;exact ⟨_,_,rfl⟩
   have hz2:=rr.length
   refine S8 (c:=c) (d:=d) (a:=a) (k:=k2) (vs:=vs) (its:=(ag.int (cs l) t::its').toArray) (t:=t) L kp (by have:=hr.dp;show X.A.depth < _;omega) I'.nolimit (hbind _ _ _ _ _ _) hco hgen hk ?_ ?_ ?_ (by simp) hcell dd his (zF e6 hx) ht (by simp) (by rw[bE,← hz2];exact hz) hdx hdy hcy
   · intro z hz
     rw[hs] at hz
     rcases de.mp hz with rfl | hz
     · intro z;cases z
     · rw[be.mp hz];intro z;cases z
   · rw[hs];simp
   · rw[hs]
     unfold we
     rw[hxy]
     simp[we]
 · obtain ⟨k,x',hx,his⟩:=hkey
   obtain ⟨⟨k2,v2⟩,g1,g2,g3⟩:=Paired.getL rel hx
   have g2:k2=k:=g2
   subst g2
   rw[← hl] at hb
   exact ⟨kV k2,H',I'.un (Un.kept kp) (I'.hok.kept kp),JR his,hQ l k2 v2 H' g1 hb sH⟩
end
end L2
namespace L3
open PySem PySem.Spec PyProof.Rows L2
noncomputable def cg:ae→Option Int
 | .tuple (.int c::_)=>some c
 | _=>none
noncomputable def ik (k:ae) (c:Int):List (ae×ae)→Res ae
 | []=>.ok k
 | (k',d)::r=>match cg d with
  | some c'=>if c' < c then ik k' c' r else ik k c r
  | none=>.bad
noncomputable def iU:List (ae×ae)→Res ae
 | []=>.bad
 | (k,d)::r=>match cg d with
  | some c=>ik k c r
  | none=>.bad
noncomputable def zN (i:Nat):ME:=fun Γ=>match gv Γ i with
 | some (.dict kvs)=>iU kvs
 | _=>.bad
theorem uL:∀{r:List (ae×ae)}{k:ae}{c:Int}{k2:ae},ik k c r = .ok k2→(∀q∈r,(cg q.2).isSome=true) ∧
 ((k2=k∧∀(l:Nat) (q:ae×ae) (c':Int),r[l]?=some q→cg q.2=some c'→c≤c')∨∃(l:Nat) (q:ae×ae) (c':Int),r[l]?=some q∧cg q.2=some c'∧k2=q.1∧c' < c∧∀(l2:Nat) (q2:ae×ae) (c2:Int),r[l2]?=some q2→cg q2.2=some c2→c'≤c2∧(l2 < l→c' < c2))
 | [],k,c,k2,h=>by
  cases h
  exact ⟨fun _ q=>(nomatch q),.inl ⟨rfl,fun l q c' e=>by simp at e⟩⟩
 | (k',d)::r,k,c,k2,h=>by
  unfold ik at h
  cases hc:cg d with
  | none=>rw[hc] at h;cases h
  | some c'=>
   rw[hc] at h
   have h:(if c' < c then ik k' c' r else ik k c r) = .ok k2:=h
   by_cases lt:c' < c
   · rw[if_pos lt] at h
     obtain ⟨h1,h2⟩:=uL h
     refine ⟨fun q hq=>?_,.inr ?_⟩
     · rcases de.mp hq with rfl | hq
       · show (cg d).isSome=true;rw[hc];rfl
       · exact h1 q hq
     · rcases h2 with ⟨rfl,h2⟩ | ⟨l,q,c3,e1,e2,e3,e4,e5⟩
       · refine ⟨0,(k2,d),c',rfl,hc,rfl,lt,fun l2 q2 c2 f1 f2=>?_⟩
         match l2 with
         | 0=>
          cases (Option.some.inj f1)
          have f2:cg d=some c2:=f2
          rw[hc] at f2;cases f2
          exact ⟨iS _,fun z=>absurd z (g7 _)⟩
         | l2+1=>exact ⟨h2 l2 q2 c2 (by simpa using f1) f2,fun z=>absurd z (mf _)⟩
       · refine ⟨l+1,q,c3,by simpa using e1,e2,e3,Int.lt_trans e4 lt,fun l2 q2 c2 f1 f2=>?_⟩
         match l2 with
         | 0=>
          cases (Option.some.inj f1)
          have f2:cg d=some c2:=f2
          rw[hc] at f2;cases f2
          exact ⟨fI e4,fun _=>e4⟩
         | l2+1=>
          have:=e5 l2 q2 c2 (by simpa using f1) f2
          exact ⟨this.1,fun z=>this.2 (by omega)⟩
   · rw[if_neg lt] at h
     obtain ⟨h1,h2⟩:=uL h
     refine ⟨fun q hq=>?_,?_⟩
     · rcases de.mp hq with rfl | hq
       · show (cg d).isSome=true;rw[hc];rfl
       · exact h1 q hq
     · rcases h2 with ⟨rfl,h2⟩ | ⟨l,q,c3,e1,e2,e3,e4,e5⟩
       · refine .inl ⟨rfl,fun l2 q2 c2 f1 f2=>?_⟩
         match l2 with
         | 0=>
          cases (Option.some.inj f1)
          have f2:cg d=some c2:=f2
          rw[hc] at f2;cases f2
          omega
         | l2+1=>exact h2 l2 q2 c2 (by simpa using f1) f2
       · refine .inr ⟨l+1,q,c3,by simpa using e1,e2,e3,e4,fun l2 q2 c2 f1 f2=>?_⟩
         match l2 with
         | 0=>
          cases (Option.some.inj f1)
          have f2:cg d=some c2:=f2
          rw[hc] at f2;cases f2
          exact ⟨by omega,fun _=>by omega⟩
         | l2+1=>
          have:=e5 l2 q2 c2 (by simpa using f1) f2
          exact ⟨this.1,fun z=>this.2 (by omega)⟩
theorem zT {kvs:List (ae×ae)}{k:ae} (h:iU kvs = .ok k):(∀q∈kvs,(cg q.2).isSome=true)∧∃(l:Nat) (q:ae×ae) (c:Int),kvs[l]?=some q∧cg q.2=some c∧k=q.1∧∀(l2:Nat) (q2:ae×ae) (c2:Int),kvs[l2]?=some q2→cg q2.2=some c2→c≤c2∧(l2 < l→c < c2):=by
 match kvs,h with
 | (k0,d)::r,h=>
  have h:(match cg d with
   | some c=>ik k0 c r
   | none=>.bad) = .ok k:=h
  cases hc:cg d with
  | none=>rw[hc] at h;cases h
  | some c=>
   rw[hc] at h
   obtain ⟨h1,h2⟩:=uL h
   refine ⟨fun q hq=>?_,?_⟩
   · rcases de.mp hq with rfl | hq
     · show (cg d).isSome=true;rw[hc];rfl
     · exact h1 q hq
   · rcases h2 with ⟨rfl,h2⟩ | ⟨l,q,c3,e1,e2,e3,e4,e5⟩
     · refine ⟨0,(k,d),c,rfl,hc,rfl,fun l2 q2 c2 f1 f2=>?_⟩
       match l2 with
       | 0=>
        cases (Option.some.inj f1)
        have f2:cg d=some c2:=f2
        rw[hc] at f2;cases f2
        exact ⟨iS _,fun z=>absurd z (g7 _)⟩
       | l2+1=>exact ⟨h2 l2 q2 c2 (by simpa using f1) f2,fun z=>absurd z (mf _)⟩
     · refine ⟨l+1,q,c3,by simpa using e1,e2,e3,fun l2 q2 c2 f1 f2=>?_⟩
       match l2 with
       | 0=>
        cases (Option.some.inj f1)
        have f2:cg d=some c2:=f2
        rw[hc] at f2;cases f2
        exact ⟨fI e4,fun _=>e4⟩
       | l2+1=>
        have:=e5 l2 q2 c2 (by simpa using f1) f2
        exact ⟨this.1,fun z=>this.2 (by omega)⟩
theorem uR {K:af}{A:Hp}:∀{kvs:List (ae×ae)}{u:List (Key×V)}{l:Nat}{key:Key}{v:V},aQ K A kvs u→u[l]?=some (key,v)→∃k d,kvs[l]?=some (k,d)∧bB k=some key∧Rp K A d v
 | [],u,l,key,v,h,e=>by rw[aQ.nil.mp h] at e;simp at e
 | (k,d)::r,u,l,key,v,h,e=>by
  obtain ⟨key',v',u',rfl,h1,h2,h3⟩:=aQ.cons.mp h
  match l with
  | 0=>cases (Option.some.inj e);exact ⟨k,d,rfl,h1,h2⟩
  | l+1=>
   obtain ⟨k2,d2,e2,h4⟩:=uR h3 (l:=l) (by simpa using e)
   exact ⟨k2,d2,by simpa using e2,h4⟩
section
variable {X:Cx}{O:List Fl}
theorem Qw {K:af}{A:Hp}{d:ae}{v:V}{c:Int} (h:Rp K A d v) (hc:cg d=some c):∃a xs,v = .ref a∧SqT K A a (.int c::xs):=by
 unfold cg at hc
 split at hc
 · cases hc
   obtain ⟨a,vs,rfl,h1,h2⟩:=Rp.tuple.mp h
   obtain ⟨v,r,rfl,h3,_⟩:=aB.cons.mp h2
   rw[Rp.int.mp h3] at h1
   exact ⟨a,r,rfl,h1⟩
 · cases hc
theorem Wl {k:Nat}{x y:Str}{cd P:Addr}{params:uu}{scope:nk}{j:Nat}{p p1 q1 q2 q3 q4 q5 Rq kp pos:Pos} (i:Nat) (hi:isO (fl O i)=true)
 (hN:X.N[i]?=some y) (hv:X.env.kindOf y=some .cell) (hr:cJ k X.A) (hcode:X.env.code = .ref cd) (hhd:iF X.K cd P=true) (hT:TabAt X.K X.mg P) (hq:X.env.qual ++ "<lambda>" = gR)
 (hg:Gl X "min") (hm:X.mg "min" = none) (hs:scope.names=[(x,.local),(y,.free)]) (hco:scope.isCoroutine=false) (hgen:scope.isGenerator=false) (hk:scope.kind = .function) (hdef:defaultsOf params X.env=([],[]))
 (hbind:∀(pm cv ctv key:ag) (clos:List (Str×Addr)) (body:Expr),kN (PySem.W.kla_fn "<lambda>" gR params body scope clos pm cv ctv) ⟨[key],[]⟩=pure [(x,key)]) (hxy:(y == x)=false:=by decide)
 (hdx:(x == ("__debug__" : Str))=false:=by decide) (hdy:(y == ("__debug__" : Str))=false:=by decide) (hcy:(y == ("__classdict__" : Str))=false:=by decide) :
 QE X (.Call (.Name "min" p) [.Name y p1] [⟨some "key",.Lambda params (.Subscript (.Subscript (.Name y q1) (.Name x q2) q3) (.Constant (.int 0) j q4) q5) scope Rq,kp⟩] pos) (tE X.K O (zN i)):=
 QE.imp (Nj hN hv hr hcode hhd hT hq hg hm hs hco hgen hk hdef hbind hxy hdx hdy hcy) fun σ H Q ao=>by
  obtain ⟨A,B,Γ,d,r,em,kk⟩:=ao
  unfold zN at em
  cases hgv:gv Γ i with
  | none=>rw[hgv] at em;cases em
  | some dl=>
   rw[hgv] at em
   cases dl with
   | dict kvs=>
    have em:iU kvs = .ok d:=em
    obtain ⟨q,u,e1,h1,h2⟩:=uO r hi hgv
    obtain ⟨hall,l0,w0,c0,f1,f2,f3,f4⟩:=zT em
    have hlen:=h2.len
    have cost:∀l key v,u[l]?=some (key,v)→∃(w:ae×ae) (c:Int),kvs[l]?=some w∧cg w.2=some c∧bB w.1=some key∧Rp X.K A w.2 v:=fun l key v e=>by
     obtain ⟨k1,d1,g1,g2,g3⟩:=uR h2 e
     obtain ⟨c,hc⟩:=fy.mp (hall _ (gX g1))
     exact ⟨(k1,d1),c,g1,hc,g2,g3⟩
    refine ⟨q,u,fun l=>((kvs[l]?).bind fun w=>cg w.2).getD 0,dq e1,h1,?_,fun l key v e=>?_,fun l key v H' e hb sH=>?_⟩
    · rw[← hlen]
      exact nS (iE _) (br.mp f1).1
    · obtain ⟨w,c,g1,g2,g3,g4⟩:=cost l key v e
      obtain ⟨a,xs,rfl,hq⟩:=Qw g4 g2
      refine ⟨a,xs,rfl,r.a.qg ?_⟩
      show SqT X.K A a (.int (((kvs[l]?).bind fun w=>cg w.2).getD 0)::xs)
      rw[g1]
      show SqT X.K A a (.int ((cg w.2).getD 0)::xs)
      rw[g2];exact hq
    · obtain ⟨w,c,g1,g2,g3,g4⟩:=cost l key v e
      have hl:l < kvs.length:=(br.mp g1).1
      have hl0:l0 < kvs.length:=(br.mp f1).1
      have cl:((kvs[l]?).bind fun w=>cg w.2).getD 0=c:=by rw[g1];show (cg w.2).getD 0=c;rw[g2];rfl
      have cl0:((kvs[l0]?).bind fun w=>cg w.2).getD 0=c0:=by rw[f1];show (cg w0.2).getD 0=c0;rw[f2];rfl
      have b1:=hb l0 (by omega)
      have b1:((kvs[l]?).bind fun w=>cg w.2).getD 0≤((kvs[l0]?).bind fun w=>cg w.2).getD 0∧(l0 < l→((kvs[l]?).bind fun w=>cg w.2).getD 0 < ((kvs[l0]?).bind fun w=>cg w.2).getD 0):=b1
      rw[cl,cl0] at b1
      have b2:=f4 l w c g1 g2
      have el:l=l0:=by
       rcases Nat.lt_trichotomy l l0 with z | z | z
       · have:=b2.2 z;omega
       · exact z
       · have:=b1.2 z;omega
      subst el
      rw[f1] at g1
      cases g1
      refine kk _ A H' ⟨aC.refl _,sH,r.a.trans sH,fun _ h _=>h⟩ ?_
      rw[f3]
      cases hw:w0.1 with
      | int n=>rw[hw] at g3;cases g3;exact Rp.int.mpr rfl
      | str z=>rw[hw] at g3;cases g3;exact Rp.str.mpr rfl
      | _=>rw[hw] at g3;cases g3
   | _=>cases em
end
noncomputable def vG (i:Nat) (f:List ae→Res ae) (ms:List ME):MS:=fun Γ=>(evs ms Γ).bind fun ds=>(f ds).bind fun r=>match Lk r with
 | some (_,dm)=>.ok (.nx (Γ.set i (some dm)))
 | none=>.bad
section
variable {X:Cx}{K:af}{rm:Rm}{Ol O O':List Fl}{f:List ae→Res ae}{ms:List ME}{m:ME}{e:Expr}{pos:Pos}
theorem Gv (i:Nat) (he:QE X e (tM K O i f ms)) (hs:kr e none pos.line X.env=pure false:=by rfl):QS X (.Expr e pos) (tS K rm Ol O O (vG i f ms)):=QS.imp (pq he.h hs) fun D σ H ao=>by
 obtain ⟨A,B,Γ,o,r,em,k⟩:=ao
 obtain ⟨ds,e1,em⟩:=Res.aA em
 obtain ⟨t,e2,em⟩:=Res.aA em
 cases h:Lk t with
 | none=>rw[h] at em;cases em
 | some q=>
  obtain ⟨d,dm⟩:=q
  rw[h] at em
  cases em
  rw[W6 h] at e2
  exact ⟨A,B,Γ,ds,d,dm,r,e1,e2,fun v A' H' r' sa nw p=>k _ A' H' r' sa nw⟩
end
noncomputable def Qu (n j:Nat) (m:MS) (ds:List ae):Res ae:=(m (ds.map some++cK (n - ds.length) none)).bind fun o=>match o with
 | .rt d=>.ok d
 | .nx Γ=>match gv Γ j with
  | some dm=>.ok (.tuple [.none,dm])
  | none=>.bad
 | _=>.bad
section
variable {P:cc}{w:eK}{K:af}{mg:Str→Option ag}{base:Heap}
theorem Tp {x:Str}{st:Stmt}{N ps:List Str}{k:Nat}{fs Ol:List Fl}{O O':Addr→List Fl}{j:Nat}{m:MS} (F:At K mg x st ps) (S:bc N ps (az st)) (hf:fs.length=ps.length) (hn:ps.length≤N.length)
 (hOj:∀p,fl (O p) j = .fix p) (hO:∀p i,i < fs.length→i≠j→(fl (O p) i = .imm∧fl fs i = .imm)∨fl (O p) i = .bor) (abS:∀p,fl (O' p) j = .fix p)
 (hbody:∀(p:Addr) (f:Addr) (cdv:ag) (A:eI) (outer:List Env) (s:ar) (H:Hp) (E:XK),cJ k (A.deeper (kP x (az st) s.heap.objs.size f cdv)) →
  QSs (lX CX0 P w K mg base N x (az st) f cdv A outer s H E).nox (aP st) (tS K (.m p) Ol (O p) (O' p) m)):Def P w K mg base (k+1) x ps (spM K fs j (Qu N.length j m)):=by
 refine F.ok S (fun vs H Q E h=>?_) (fun f cdv A outer s H vs Q E hr h=>?_)
 · obtain ⟨_,_,_,_,_,_,_,_,_,h,_⟩:=h
   rw[h,hf]
 · obtain ⟨A',B,ds,d,dm,p,o,ha,hb,hv,hd,hj,hp,ap,bp,hown,hargs,em,q⟩:=h
   obtain ⟨out,e1,em⟩:=Res.aA em
   cases out with
   | rt d'=>
    cases em
    refine ⟨_,(hbody p f cdv A outer s H E hr).h,A',rem H p,_,_,zJ ha hb hv hd hj hp ap bp hown hargs (hOj p) (hO p) (by omega),e1,fun v A2 H2 s1 s2 sa nw rv=>?_⟩
    obtain ⟨d1,dm1,o1,ed,r1,r2,r3,r4⟩:=rv
    cases ed
    refine q v A2 H2 o1 sa s1 (fun b u hbp hu=>s2 b u (by rw[sS hbp];exact hu)) (fun b q1 q2=>?_) r3 r2 r4 r1
    by_cases z:b=p
    · subst z;exact r3
    · exact nw b q1 (by rw[sS z];exact q2)
   | nx Γ'=>
    cases hg:gv Γ' j with
    | none=>
     have em:(match gv Γ' j with | some dm=>Res.ok (ae.tuple [.none,dm]) | none=>.bad) = .ok (ae.tuple [d,dm]):=em
     rw[hg] at em;cases em
    | some dm1=>
     have em:(match gv Γ' j with | some dm=>Res.ok (ae.tuple [.none,dm]) | none=>.bad) = .ok (.tuple [d,dm]):=em
     rw[hg] at em
     cases em
     refine ⟨_,(hbody p f cdv A outer s H E hr).h,A',rem H p,_,_,zJ ha hb hv hd hj hp ap bp hown hargs (hOj p) (hO p) (by omega),e1,fun σ2 A2 H2 r2 sa nw=>?_⟩
     obtain ⟨v',ev,sl⟩:=r2.slot j dm hg
     rw[abS p] at sl
     obtain ⟨rfl,p',o',e',h1,h2,_,h4⟩:=sl
     cases e'
     refine q .non A2 H2 o' sa r2.a (fun b u hbp hu=>r2.b b u (by rw[sS hbp];exact hu)) (fun b q1 q2=>?_) h2 h1 h4 (Rp.none.mpr rfl)
     by_cases z:b=p
     · subst z;exact h2
     · exact nw b q1 (by rw[sS z];exact q2)
   | _=>cases em
end
noncomputable def mK (key:Key) (kvs:List (ae×ae)):List (ae×ae):=kvs.filter fun kv=>!decide (bB kv.1=some key)
theorem Dn {K:af}{A:Hp}{key:Key}:∀{kvs:List (ae×ae)}{u:List (Key×V)},aQ K A kvs u→aQ K A (mK key kvs) (qR u key)
 | [],u,h=>by rw[aQ.nil] at h;subst h;exact aQ.nil.mpr rfl
 | (k,d)::r,u,h=>by
  obtain ⟨key',v,u',rfl,hk,hd,hr⟩:=aQ.cons.mp h
  have ih:=Dn (key:=key) hr
  unfold mK qR at ih ⊢
  by_cases e:bB k=some key
  · have ek:key'=key:=(lM hk).mp e
    rw[iA (by simp[e]),iA (by simp[ek])]
    exact ih
  · have ek:¬ key'=key:=fun z=>e ((lM hk).mpr z)
    rw[ja (by simp[e]),ja (by simp[ek])]
    exact aQ.cons.mpr ⟨key',v,_,rfl,hk,hd,ih⟩
noncomputable def sI (i j t:Nat):MS:=fun Γ=>match gv Γ t,gv Γ i,gv Γ j with
 | some kd,some (.dict fs),some (.dict ws)=>(match bB kd with
  | some key=>(match b8 key ws with
   | some d=>gd (fs.length < bg∧i < Γ.length∧j < Γ.length) (.ok (.nx ((Γ.set j (some (.dict (mK key ws)))).set i (some (.dict (ig kd key d fs))))))
   | none=>.bad)
  | none=>.bad)
 | _,_,_=>.bad
section
variable {X:Cx}{rm:Rm}{Ol O:List Fl}{pos:Pos}
theorem Nt (i j t:Nat) {x y z:Str}{xp tp2 tpos yp ap apos cpos:Pos} (hu:X.A.units+66 < nV) (hij:i≠j) (hti:t≠i) (htj:t≠j) (hi:isO (fl O i)=true:=by rfl) (hj:isO (fl O j)=true:=by rfl) (ht:fl O t = .imm:=by rfl)
 (hNx:X.N[i]?=some x:=by rfl) (hNy:X.N[j]?=some y:=by rfl) (hNz:X.N[t]?=some z:=by rfl)
 (hvx:Vis X.env.scope x:=by first | exact cb rfl | exact fq (cb rfl) | exact fq (fq rfl)) (hvy:Vis X.env.scope y:=by first | exact cb rfl | exact fq (cb rfl) | exact fq (fq rfl)) (hvz:Vis X.env.scope z:=by first | exact cb rfl | exact fq (cb rfl) | exact fq (fq rfl))
 (hdx:(x == ("__debug__" : Str))=false:=by decide) (hcx:(x == ("__classdict__" : Str))=false:=by decide) (hdy:(y == ("__debug__" : Str))=false:=by decide) (hcy:(y == ("__classdict__" : Str))=false:=by decide) (hdz:(z == ("__debug__" : Str))=false:=by decide) (hcz:(z == ("__classdict__" : Str))=false:=by decide)
 (hm:M1 X (.Name y yp) "pop" apos (.Name z ap) cpos:=by exact ⟨rfl,rfl,rfl,rfl⟩)
 (hs:kr (.Call (.Attribute (.Name y yp) "pop" apos) [.Name z ap] [] cpos) (some (.Subscript (.Name x xp) (.Name z tp2) tpos)) pos.line X.env=pure false:=by rfl) :
 QS X (.Assign [.Subscript (.Name x xp) (.Name z tp2) tpos] (.Call (.Attribute (.Name y yp) "pop" apos) [.Name z ap] [] cpos) pos) (tS X.K rm Ol O O (sI i j t)):=by
 refine QS.imp (Jc (by omega) (du hNx hvx hdx hcx) (du hNz hvz hdz hcz) (Q7 (du hNy hvy hdy hcy) (du hNz hvz hdz hcz) hm) hs) fun D σ H ao=>?_
 obtain ⟨A,B,Γ,o,r,em,k⟩:=ao
 unfold sI at em
 cases gt:gv Γ t with
 | none=>rw[gt] at em;cases em
 | some kd=>
  cases gi:gv Γ i with
  | none=>rw[gt,gi] at em;cases em
  | some di=>
   cases gj:gv Γ j with
   | none=>rw[gt,gi,gj] at em;cases di <;> cases em
   | some dj=>
    rw[gt,gi,gj] at em
    cases di with
    | dict fs=>
     cases dj with
     | dict ws=>
      have em:(match bB kd with
       | some key=>(match b8 key ws with
        | some d=>gd (fs.length < bg∧i < Γ.length∧j < Γ.length) (Res.ok (Out.nx ((Γ.set j (some (.dict (mK key ws)))).set i (some (.dict (ig kd key d fs))))))
        | none=>.bad)
       | none=>.bad) = .ok o:=em
      cases hk:bB kd with
      | none=>rw[hk] at em;cases em
      | some key=>
       rw[hk] at em
       have em:(match b8 key ws with
        | some d=>gd (fs.length < bg∧i < Γ.length∧j < Γ.length) (Res.ok (Out.nx ((Γ.set j (some (.dict (mK key ws)))).set i (some (.dict (ig kd key d fs))))))
        | none=>.bad) = .ok o:=em
       cases hl:b8 key ws with
       | none=>rw[hl] at em;cases em
       | some d=>
        rw[hl] at em
        obtain ⟨⟨hz,hli,hlj⟩,em⟩:=b7 em
        cases em
        obtain ⟨vt,et,st⟩:=r.slot t kd gt
        rw[ht] at st
        have vk:vt=kV key:=Rp.key st hk
        obtain ⟨qj,uj,ej,hj2,rj⟩:=uO r hj gj
        obtain ⟨v,lv,rv⟩:=(rj.look (key:=key)).1 d hl
        have r1:=r.change (d':=.dict (mK key ws)) (o':=.dK (qR uj key)) hj hlj (by rw[gj];simp) ej hj2 (.inr ⟨_,_,rfl,rfl,Dn rj⟩)
        have gi1:gv (Γ.set j (some (.dict (mK key ws)))) i=some (.dict fs):=by
         have:=gi
         unfold gv at this ⊢
         rw[aL (oP hij)];exact this
        obtain ⟨qi,ui,ei,hi2,ri⟩:=uO r1 hi gi1
        refine ⟨.ref qj,dq ej,qj,rfl,.inl ⟨uj,.inl hj2⟩,vt,dq et,uj,key,v,hj2,vk,lv,.ref qi,dq ei,vt,dq et,qi,_,rfl,by rw[vk];exact Bq.k hi2 (by rw[← ri.length];exact hz),?_⟩
        exact k σ A _ (r1.change hi (by rw[fx];exact hli) (by rw[gi1];simp) ei hi2 (.inr ⟨_,_,rfl,rfl,aQ.put hk rv ri⟩)) (aC.refl _) (fun _ h _=>h)
     | _=>cases em
    | _=>cases em
end
end L3
namespace L2
open PySem PySem.Spec PyProof.Rows
section
variable {X:Cx}{pins:List (Addr×Obj)}{σ:St}{H:Hp}{s:ar}{d:Addr}{u:List (Key×V)}
theorem Inv.adV (I:Inv X pins σ H s) (h:H d=some (.dK u)):∃o,Inv X pins σ (upd H d (.frz o (.dK u))) s:=by
 have hd:=I.hok d _ h
 obtain ⟨z,hsm,vs,rel,o,es,ep,e1,e2⟩:=id hd
 have ne:∀{b:Addr},H b=none→b≠d:=fun hn y=>by rw[y,h] at hn;cases hn
 have nd:∀{b:Addr}{x:HO},H b=some x→x ≠ .dK u→b≠d:=fun hb hx y=>by rw[y,h] at hb;exact hx (Option.some.inj hb).symm
 refine ⟨o,⟨I.ok,I.os,I.bare,⟨I.base.keep,I.base.slot,fun b ob q n hx=>?_,I.base.there,fun b xs q=>?_,fun b ob u' q=>?_,fun b q' q=>?_⟩,I.loc,I.cell,?_,fun x c q=>?_,fun q hq=>?_,fun b ob q=>?_,I.len⟩⟩
 · have:=I.base.free b ob q n hx
   rw[aK (ne this)];exact this
 · have:=I.base.tups b xs q
   rw[aK (nd this (by intro z;cases z))];exact this
 · have:=I.base.jW b ob u' q
   rw[aK (nd this (by intro z;cases z))];exact this
 · have:=I.base.jo b q' q
   rw[aK (nd this (by intro z;cases z))];exact this
 · rw[aK (ne I.free)];exact I.free
 · rw[aK (ne (I.fZ x c q))];exact I.fZ x c q
 · obtain ⟨q1,q2,q3⟩:=I.pin q hq
   exact ⟨q1,by rw[aK (ne q2)];exact q2,q3⟩
 · have ho:∀c a,H c=some (.own a)→upd H d (.frz o (.dK u)) c=some (.own a):=fun c a q=>by rw[aK (nd q (by intro z;cases z))];exact q
   have ht:∀c xs,H c=some (.tup xs)→upd H d (.frz o (.dK u)) c=some (.tup xs):=fun c xs q=>by rw[aK (nd q (by intro z;cases z))];exact q
   by_cases hb:b=d
   · subst hb
     rw[bw] at q
     cases q
     exact ⟨e1,hd.stay (fun _ _ _ e=>e) (fun c q=>ho c _ q) ht⟩
   · rw[aK hb] at q
     exact (I.hok b ob q).stay (fun _ _ _ e=>e) (fun c q=>ho c _ q) ht
theorem Inv.Z7 {o:Obj} (I:Inv X pins σ H s) (h:H d=some (.frz o (.dK u))) (hb0:∀o u,X.H₀ d≠some (.frz o u)):Inv X pins σ (upd H d (.dK u)) s:=by
 have ne:∀{b:Addr},H b=none→b≠d:=fun hn y=>by rw[y,h] at hn;cases hn
 have nd:∀{b:Addr}{x:HO},H b=some x→x ≠ .frz o (.dK u)→b≠d:=fun hb hx y=>by rw[y,h] at hb;exact hx (Option.some.inj hb).symm
 refine ⟨I.ok,I.os,I.bare,⟨I.base.keep,I.base.slot,fun b ob q n hx=>?_,I.base.there,fun b xs q=>?_,fun b ob u' q=>?_,fun b q' q=>?_⟩,I.loc,I.cell,?_,fun x c q=>?_,fun q hq=>?_,fun b ob q=>?_,I.len⟩
 · have:=I.base.free b ob q n hx
   rw[aK (ne this)];exact this
 · have:=I.base.tups b xs q
   rw[aK (nd this (by intro z;cases z))];exact this
 · have:=I.base.jW b ob u' q
   rw[aK (fun z=>by rw[z] at q;exact hb0 _ _ q)];exact this
 · have:=I.base.jo b q' q
   rw[aK (nd this (by intro z;cases z))];exact this
 · rw[aK (ne I.free)];exact I.free
 · rw[aK (ne (I.fZ x c q))];exact I.fZ x c q
 · obtain ⟨q1,q2,q3⟩:=I.pin q hq
   exact ⟨q1,by rw[aK (ne q2)];exact q2,q3⟩
 · have ho:∀c a,H c=some (.own a)→upd H d (.dK u) c=some (.own a):=fun c a q=>by rw[aK (nd q (by intro z;cases z))];exact q
   have ht:∀c xs,H c=some (.tup xs)→upd H d (.dK u) c=some (.tup xs):=fun c xs q=>by rw[aK (nd q (by intro z;cases z))];exact q
   by_cases hb:b=d
   · subst hb
     rw[bw] at q
     cases q
     exact (I.hok b _ h).2.stay (fun _ _ _ e=>e) (fun c q=>ho c _ q) ht
   · rw[aK hb] at q
     exact (I.hok b ob q).stay (fun _ _ _ e=>e) (fun c q=>ho c _ q) ht
end
noncomputable def Itk (d:Addr) (o:Obj) (u:List (Key×V)):It:=⟨fun i H=>H d=some (.frz o (.dK u))∧i < u.length,fun i H x H'=>H'=H∧∃k v,u[i]?=some (k,v)∧x=kV k,fun i H=>H d=some (.frz o (.dK u))∧u.length≤i⟩
theorem oR {X:Cx}{pins:List (Addr×Obj)}{σ:St}{H:Hp}{s:ar}{d:Addr}{o:Obj}{u:List (Key×V)}{es:Array DictEntry}{ep:Nat} (I:Inv X pins σ H s) (h:H d=some (.frz o (.dK u))) (ho:o.data = .dict es ep) :
 (d == kg)=false∧∃vs,KV u vs∧s.heap.DictAt (bD X.prog X.w) d vs ep:=by
 obtain ⟨e0,z,hsm,vs,rel,o',es',ep',e1,e2,e3,e4⟩:=I.hok d _ h
 rw[e0] at e1
 cases e1
 rw[ho] at e3
 cases e3
 exact ⟨hsm,vs,rel,o,es,e0,e2,ho,e4⟩
theorem M3 {P:cc}{w:eK}{K:af}{tg:Expr}{d it:Addr}{o:Obj}{u:List (Key×V)}{es:Array DictEntry}{ep:Nat} (ho:o.data = .dict es ep):Turn P w K tg (Itk d o u) [it] it (fun i h=>h.IsKeyIter it d i u.length ep) where
 mem:=by simp
 obj:=fun i h st b hb=>by
  have e:b=it:=by simpa using hb
  subst e
  obtain ⟨o,e,c,d⟩:=st
  exact ⟨o,e,fun v z=>by rw[d] at z;cases z⟩
 keep:=fun i h h' st k=>st.at fun o e=>k it (by simp) o e
 item:=by
  intro X hP hw hK hc i pins s σ H E I hf st hg
  subst hP hw hK
  obtain ⟨hd,hi⟩:=hg
  obtain ⟨hsm,vs,rel,hat⟩:=oR I hd ho
  have hl:=rel.length
  obtain ⟨⟨k,x⟩,hx⟩:∃q,vs[i]?=some q:=⟨vs[i],aI (by omega)⟩
  obtain ⟨⟨k2,v2⟩,g1,g2,g3⟩:=Paired.getL rel hx
  have g2:k2=k:=g2
  subst g2
  obtain ⟨f0,f1,f2,f3,f4,f5⟩:=hf it (by simp)
  rw[hl] at st
  refine wpAny_pyNext_dict_item st hat hx fun key h' hkey st' sb=>?_
  have I1:Inv X pins σ H { s with heap:=h' }:=I.turned (t':=s.toks) (fun b o hb e=>(sb.2 b hb).trans e) f0 f1 f3 f4 f5
  obtain ⟨o2,e,c,dd⟩:=id st'
  exact ⟨key,rfl,tV (s:={ s with heap:=h' }) e c dd (by decide) ⟨kV k2,H,I1,JR hkey,⟨rfl,k2,v2,g1,rfl⟩,by rw[hl];exact st',fun b hb=>(hf b hb).1⟩⟩
 done:=by
  intro X hP hw hK hc i pins s σ H E I hf st hg
  subst hP hw hK
  obtain ⟨hd,hi⟩:=hg
  obtain ⟨hsm,vs,rel,hat⟩:=oR I hd ho
  have hl:=rel.length
  obtain ⟨f0,f1,f2,f3,f4,f5⟩:=hf it (by simp)
  rw[hl] at st
  exact wpAny_pyNext_dict_end (I.ok.hd hc) st hat (by simp;omega) fun h' eb=>⟨rfl,I.turned (t':=s.toks) (fun b o hb e=>eb b o hb e) f0 f1 f3 f4 f5⟩
 self:=fun _ _ _ _ _ st h=>wpAny_pyIter_keyiter st h
noncomputable def abr (te:TE):TI:=fun σ H R=>te σ H fun x H1=>∃d o u,x = .ref d∧H1 d=some (.frz o (.dK u))∧R (Itk d o u) H1
theorem VP {X:Cx}{tg l:Expr}{te:TE} (hl:PE X l te):PI X tg l (abr te):=by
 intro pins s σ H R I h
 refine thn (hl pins s σ H _ I h) fun v s1 ao=>?_
 obtain ⟨x,H1,I1,r1,d,o,u,ex,hd,hR⟩:=ao
 subst ex
 obtain rfl:v=eL d:=r1
 obtain ⟨e0,z,hsm,vs,rel,o',es,ep,e1,e2,e3,e4⟩:=I1.hok d _ hd
 rw[e0] at e1
 cases e1
 have hl:=rel.length
 refine wpAny_pyIter_dict hsm (kvs:=vs) (ep:=ep) ⟨o,es,e0,e2,e3,e4⟩ ?_
 have kp:∀b ob,s1.heap.get? b=some ob→(s1.heap.push { cls:=.type "dict_keyiterator",data:=.fields #[.ref d,.int 0 0,.int vs.length 0,.int ep 0] }).get? b=some ob:=fun b ob e=>aS _ e
 refine ⟨s1.heap.objs.size,[s1.heap.objs.size],_,Itk d o u,H1,rfl,I1.un (t':=s1.toks) (Un.kept kp) (I1.hok.kept kp),M3 e3,⟨_,d4 _ rfl,rfl,by rw[hl];rfl⟩,fun b hb=>?_,hR⟩
 rw[be.mp hb]
 exact I1.sY (aE _) (I1.hok.fresh (aE _))
end L2
namespace L3
open PySem PySem.Spec PyProof.Rows L2
noncomputable def sw (d:Addr) (y:HO) (F:Hp):Hp:=fun b=>if b=d then (F b).map fun _=>y else F b
theorem jJ {d b:Addr}{y:HO}{F:Hp} (h:b≠d):sw d y F b=F b:=if_neg h
theorem qK {d:Addr}{y z:HO}{F:Hp} (h:F d=some z):sw d y F d=some y:=by unfold sw;rw[if_pos rfl,h];rfl
theorem d8 {d b:Addr}{y:HO}{F:Hp}:sw d y F b=none↔F b=none:=by
 unfold sw
 split
 · exact Option.map_eq_none_iff
 · exact Iff.rfl
theorem Oh {d:Addr}{y z:HO}{F:Hp} (h:F d=some z):sw d y F=upd F d y:=by
 funext b
 unfold sw upd
 split
 · rename_i e;subst e;rw[h];rfl
 · rfl
theorem BV {d:Addr}{y:HO}{A H:Hp} (s:aC A H):aC (sw d y A) (sw d y H):=fun b o e=>by
 by_cases hb:b=d
 · subst hb
   cases q:A b with
   | none=>rw[d8.mpr q] at e;cases e
   | some z=>rw[qK q] at e;cases e;exact qK (s _ _ q)
 · rw[jJ hb] at e ⊢;exact s _ _ e
noncomputable def IsU (u:List (Key×V)) (z:HO):Prop:=z = .dK u∨∃o,z = .frz o (.dK u)
theorem IsU.rd {u u':List (Key×V)}{z:HO}{A:Hp}{d:Addr} (h:A d=some z) (i:IsU u z) (r:Rd A d (.dK u')):u'=u:=by
 rcases i with rfl | ⟨o,rfl⟩ <;> rcases r with r | ⟨o',r⟩ <;> rw[h] at r <;> cases r <;> rfl
theorem IsU.of {u:List (Key×V)}{z:HO}{A:Hp}{d:Addr} (h:A d=some z) (i:IsU u z):Rd A d (.dK u):=by
 rcases i with rfl | ⟨o,rfl⟩
 · exact .inl h
 · exact .inr ⟨o,h⟩
section
variable {K:af}{d:Addr}{u:List (Key×V)}{y:HO}
noncomputable def AtU (F:Hp) (d:Addr) (u:List (Key×V)):Prop:=∀z,F d=some z→IsU u z
theorem NT {F:Hp}{a:Addr}{xs:List V} (h:AtU F d u) (r:SqL K F a xs):SqL K (sw d y F) a xs:=by
 rcases r with (e | ⟨o,e⟩) | k
 · exact .inl (.inl (by rw[jJ (fun q=>by subst q;rcases h _ e with z | ⟨_,z⟩ <;> cases z)];exact e))
 · exact .inl (.inr ⟨o,by rw[jJ (fun q=>by subst q;rcases h _ e with z | ⟨_,z⟩ <;> cases z)];exact e⟩)
 · exact .inr k
theorem Nu {F:Hp}{a:Addr}{xs:List V} (h:AtU F d u) (r:SqT K F a xs):SqT K (sw d y F) a xs:=by
 rcases r with (e | ⟨o,e⟩) | k
 · exact .inl (.inl (by rw[jJ (fun q=>by subst q;rcases h _ e with z | ⟨_,z⟩ <;> cases z)];exact e))
 · exact .inl (.inr ⟨o,by rw[jJ (fun q=>by subst q;rcases h _ e with z | ⟨_,z⟩ <;> cases z)];exact e⟩)
 · exact .inr k
theorem Nr {F:Hp}{a:Addr}{w:List (Key×V)} (h:AtU F d u) (hy:IsU u y) (r:Rd F a (.dK w)):Rd (sw d y F) a (.dK w):=by
 by_cases q:a=d
 · subst q
   obtain ⟨z,e⟩:∃z,F a=some z:=by rcases r with e | ⟨o,e⟩ <;> exact ⟨_,e⟩
   rw[IsU.rd e (h _ e) r]
   exact hy.of (qK e)
 · rcases r with e | ⟨o,e⟩
   · exact .inl (by rw[jJ q];exact e)
   · exact .inr ⟨o,by rw[jJ q];exact e⟩
mutual
theorem zA {A:Hp} (h:AtU A d u) (hy:IsU u y):∀(x:ae) {v:V},Rp K A x v→Rp K (sw d y A) x v
 | .none,v,r=>by rw[Rp] at r ⊢;exact r
 | .bool _,v,r=>by rw[Rp] at r ⊢;exact r
 | .int _,v,r=>by rw[Rp] at r ⊢;exact r
 | .str _,v,r=>by rw[Rp] at r ⊢;exact r
 | .list ds,v,r=>by
  rw[Rp] at r ⊢
  obtain ⟨a,vs,h1,h2,h3⟩:=r
  exact ⟨a,vs,h1,NT h h2,pP h hy ds h3⟩
 | .tuple ds,v,r=>by
  rw[Rp] at r ⊢
  obtain ⟨a,vs,h1,h2,h3⟩:=r
  exact ⟨a,vs,h1,Nu h h2,pP h hy ds h3⟩
 | .dict kvs,v,r=>by
  rw[Rp] at r ⊢
  obtain ⟨a,w,h1,h2,h3⟩:=r
  exact ⟨a,w,h1,Nr h hy h2,wZ h hy kvs h3⟩
theorem pP {A:Hp} (h:AtU A d u) (hy:IsU u y):∀(ds:List ae) {vs:List V},aB K A ds vs→aB K (sw d y A) ds vs
 | [],vs,r=>by rw[aB] at r ⊢;exact r
 | x::ds,vs,r=>by
  rw[aB] at r ⊢
  obtain ⟨v,t,h1,h2,h3⟩:=r
  exact ⟨v,t,h1,zA h hy x h2,pP h hy ds h3⟩
theorem wZ {A:Hp} (h:AtU A d u) (hy:IsU u y):∀(kvs:List (ae×ae)) {w:List (Key×V)},aQ K A kvs w→aQ K (sw d y A) kvs w
 | [],w,r=>by rw[aQ] at r ⊢;exact r
 | (k,x)::t,w,r=>by
  rw[aQ] at r ⊢
  obtain ⟨key,v,w',h1,h2,h3,h4⟩:=r
  exact ⟨key,v,w',h1,h2,zA h hy x h3,wZ h hy t h4⟩
end
theorem abq {A B:Hp}{x:ae}{v:V} (hA:AtU A d u) (hB:AtU B d u) (hy:IsU u y) (p:Pk K A B x v):Pk K (sw d y A) (sw d y B) x v:=by
 rcases p with p | ⟨p,vs,ds,e1,e2,h1,h2⟩ | ⟨p,w,kvs,e1,e2,h1,h2⟩
 · exact .inl (zA hA hy x p)
 · exact .inr (.inl ⟨p,vs,ds,e1,e2,NT hB h1,pP hA hy ds h2⟩)
 · exact .inr (.inr ⟨p,w,kvs,e1,e2,Nr hB hy h1,wZ hA hy kvs h2⟩)
theorem Je {A:Hp}{x:ae}{o:HO} (hA:AtU A d u) (hy:IsU u y) (h:gZ K A x o):gZ K (sw d y A) x o:=by
 rcases h with ⟨ds,vs,e1,e2,h⟩ | ⟨kvs,w,e1,e2,h⟩
 · exact .inl ⟨ds,vs,e1,e2,pP hA hy ds h⟩
 · exact .inr ⟨kvs,w,e1,e2,wZ hA hy kvs h⟩
theorem aaz {A:Hp}{kvs:List (ae×ae)}{xs:List (iy×Addr×ag)} (hA:AtU A d u) (hy:IsU u y) (h:RpN K A kvs xs):RpN K (sw d y A) kvs xs:=by
 obtain ⟨us,h1,h2⟩:=h
 exact ⟨us,h1.keeps fun b ys q=>Nu hA q,Paired.yr h2 fun _ _ z=>⟨z.1,zA hA hy _ z.2⟩⟩
theorem AtU.sub {A H:Hp} (s:aC A H) (h:AtU H d u):AtU A d u:=fun z e=>h z (s _ _ e)
theorem aN.sw {A B H:Hp}{O:List Fl}{σ:L2.St}{Γ:Ev} (r:aN K A B H O σ Γ) (hH:AtU H d u) (hd:A d≠none∨B d≠none) (hy:IsU u y):aN K (sw d y A) (sw d y B) (sw d y H) O σ Γ:=by
 have hA:=hH.sub r.a
 have hB:=hH.sub r.b
 have nd:∀{p:Addr},A p=none→B p=none→p≠d:=fun a b z=>by
  subst z
  rcases hd with q | q
  · exact q a
  · exact q b
 refine ⟨BV r.a,BV r.b,r.len,fun i x e=>?_,r.sep⟩
 obtain ⟨v,ev,q⟩:=r.slot i x e
 refine ⟨v,ev,?_⟩
 cases hf:fl O i with
 | imm=>rw[hf] at q;exact zA hA hy x q
 | bor=>rw[hf] at q;exact abq hA hB hy q
 | own=>
  rw[hf] at q
  obtain ⟨p,o,rfl,h1,h2,h3,h4⟩:=q
  exact ⟨p,o,rfl,by rw[jJ (nd h2 h3)];exact h1,d8.mpr h2,d8.mpr h3,Je hA hy h4⟩
 | fix p0=>
  rw[hf] at q
  obtain ⟨q0,p,o,rfl,h1,h2,h3,h4⟩:=q
  exact ⟨q0,p,o,rfl,by rw[jJ (nd h2 h3)];exact h1,d8.mpr h2,d8.mpr h3,Je hA hy h4⟩
 | exc C=>
  rw[hf] at q
  obtain ⟨p,ob,h1,h2,h3⟩:=q
  exact ⟨p,ob,h1,by rw[jJ (fun z=>by subst z;rcases hA _ h2 with z | ⟨_,z⟩ <;> cases z)];exact h2,h3⟩
 | nst b=>
  rw[hf] at q
  intro z
  obtain ⟨p,xs,kvs,h1,h2,h3,h4,h5,h6⟩:=q z
  exact ⟨p,xs,kvs,h1,h2,by rw[jJ (nd h4 h5)];exact h3,d8.mpr h4,d8.mpr h5,aaz hA hy h6⟩
theorem Jq {F:Hp}{y z:HO} (h:∀x,F d=some x→x=z):sw d z (sw d y F)=F:=by
 funext b
 by_cases q:b=d
 · subst q
   cases e:F b with
   | none=>exact d8.mpr (d8.mpr e)
   | some x=>rw[qK (qK e),h x e]
 · rw[jJ q,jJ q]
theorem aac {A A' B:Hp}{y z:HO} (h:New (sw d y A) A' (sw d y B)):New A (sw d z A') B:=fun p h1 h2=>d8.mpr (h p (d8.mpr h1) (fun e=>h2 (d8.mp e)))
theorem S7 {A A':Hp}{y z:HO} (h:aC (sw d y A) A') (hz:∀x,A d=some x→x=z):aC A (sw d z A'):=by
 have:=BV (d:=d) (y:=z) h
 rw[Jq hz] at this
 exact this
end
noncomputable def Qi (σ:L2.St) (H:Hp) (i:Nat):Prop:=∃d o u,sv σ i=some (.ref d)∧H d=some (.frz o (.dK u))
noncomputable def itK (i:Nat):MI:=fun Γ=>match gv Γ i with
 | some (.dict kvs)=>.ok (kvs.map (·.1))
 | _=>.bad
noncomputable def Z6 (K:af) (O:List Fl) (i:Nat) (it:MI):TI:=fun σ H R=>Qi σ H i∧tIc K O it σ H R
noncomputable def tSz (K:af) (rm:Rm) (Ol O O':List Fl) (i:Nat) (m:MS):TS:=fun D σ H=>Qi σ H i∧tS K rm Ol O O' m D σ H
noncomputable def isR:Fl→Bool
 | .imm=>true
 | .bor=>true
 | _=>false
theorem vq {K:af}{A B H:Hp}{O:List Fl}{σ:L2.St}{Γ:Ev}{i:Nat}{kvs:List (ae×ae)} (r:aN K A B H O σ Γ) (hi:isR (fl O i)=true) (hg:gv Γ i=some (.dict kvs)) :
 ∃d u z,sv σ i=some (.ref d)∧H d=some z∧IsU u z∧(A d≠none∨B d≠none)∧aQ K A kvs u:=by
 obtain ⟨v,ev,q⟩:=r.slot i _ hg
 have go:∀{F:Hp}{d:Addr}{u:List (Key×V)},aC F H→Rd F d (.dK u)→F d≠none∧∃z,H d=some z∧IsU u z:=fun s rd=>by
  rcases rd with e | ⟨o,e⟩
  · exact ⟨by rw[e];simp,_,s _ _ e,.inl rfl⟩
  · exact ⟨by rw[e];simp,_,s _ _ e,.inr ⟨o,rfl⟩⟩
 have p:Pk K A B (.dict kvs) v:=by
  cases hf:fl O i with
  | imm=>rw[hf] at q;exact .inl q
  | bor=>rw[hf] at q;exact q
  | _=>rw[hf] at hi;cases hi
 rcases p with p | ⟨p,vs,ds,e1,e2,h1,h2⟩ | ⟨p,w,kvs',e1,e2,h1,h2⟩
 · obtain ⟨d,u,rfl,h1,h2⟩:=Rp.dict.mp p
   obtain ⟨n,z,e,iu⟩:=go r.a h1
   exact ⟨d,u,z,ev,e,iu,.inl n,h2⟩
 · cases e2
 · cases e2
   subst e1
   obtain ⟨n,z,e,iu⟩:=go r.b h1
   exact ⟨p,w,z,ev,e,iu,.inr n,h2⟩
theorem Nb {Γ:Ev}{i:Nat}{xs:List ae} (h:itK i Γ = .ok xs):∃kvs,gv Γ i=some (.dict kvs)∧xs=kvs.map (·.1):=by
 unfold itK at h
 cases e:gv Γ i with
 | none=>rw[e] at h;cases h
 | some d=>
  rw[e] at h
  cases d with
  | dict kvs=>cases h;exact ⟨kvs,rfl,rfl⟩
  | _=>cases h
theorem M9 {K:af}{A:Hp}{k:ae}{key:Key} (h:bB k=some key):Rp K A k (kV key):=by
 cases k with
 | int i=>cases h;exact Rp.int.mpr rfl
 | str x=>cases h;exact Rp.str.mpr rfl
 | _=>cases h
section
variable {X:Cx}{O Ob O1:List Fl}{scope:nk}{is:List Nat}{it:MI}{g:MG}{mc me:ME}{elt tg iter:Expr}{ifs:List Expr}{pos:Pos}{nt:Nat}
theorem U6 (i:Nat) {x:Str} (hi:isR (fl O i)=true:=by rfl) (hN:X.N[i]?=some x:=by rfl) (hv:Vis X.env.scope x:=by first | exact cb rfl | exact fq (cb rfl) | exact fq (fq rfl)) (hd:(x == ("__debug__" : Str))=false:=by decide)
 (hcd:(x == ("__classdict__" : Str))=false:=by decide):QI X tg (.Name x pos) (Z6 X.K O i (itK i)):=
 QI.imp (VP (du hN hv hd hcd)) fun σ H R ⟨⟨d,o,u,e1,e2⟩,A,B,Γ,xs,r,em,k⟩=>by
  obtain ⟨kvs,hg,rfl⟩:=Nb em
  obtain ⟨d',u',z,f1,f2,f3,f4,f5⟩:=vq r hi hg
  rw[e1] at f1
  cases f1
  rw[e2] at f2
  cases f2
  have eu:u'=u:=by
   rcases f3 with z | ⟨o',z⟩ <;> cases z
   rfl
  subst eu
  have hl:=f5.len
  refine ⟨.ref d,dq e1,d,o,u',rfl,e2,k _ A H (aM.refl r.a) ⟨fun n H2 s1 s2 hn=>⟨s2 _ _ e2,by rw[av] at hn;omega⟩,fun H2 s1 s2=>⟨s2 _ _ e2,by rw[av];omega⟩,fun n A2 H2 v H3 sa s2 s3 hn hy=>?_⟩⟩
  obtain ⟨rfl,key,w,e3,rfl⟩:=hy
  obtain ⟨k1,d1,g1,g2,g3⟩:=uR f5 e3
  exact ⟨A2,k1,by rw[cp,g1];rfl,aM.refl s2,M9 g2⟩
theorem TV {st:Stmt}{rm:Rm}{Ol O':List Fl}{m:MS} (i:Nat) (hi:isR (fl O i)=true) (hm:∀Γ o,m Γ = .ok o→(∃kvs,gv Γ i=some (.dict kvs))∧∃Γ',o = .nx Γ') (h:QS X st (tSz X.K rm Ol O O' i m)):QS X st (tS X.K rm Ol O O' m):=by
 refine ⟨fun pins s σ H D I ⟨A,B,Γ,x,r,em,k⟩=>?_⟩
 obtain ⟨⟨kvs,hg⟩,Γ',rfl⟩:=hm Γ x em
 obtain ⟨d,u,z,f1,f2,f3,f4,f5⟩:=vq r hi hg
 rcases f3 with rfl | ⟨o,rfl⟩
 · obtain ⟨o,I1⟩:=I.adV f2
   have hH:AtU H d u:=fun z e=>by rw[f2] at e;cases e;exact .inl rfl
   have r1:=r.sw (y:=.frz o (.dK u)) hH f4 (.inr ⟨o,rfl⟩)
   rw[← Oh f2] at I1
   have eA:∀z,A d=some z→z = .dK u:=fun z e=>by have:=r.a _ _ e;rw[f2] at this;cases this;rfl
   have eB:∀z,B d=some z→z = .dK u:=fun z e=>by have:=r.b _ _ e;rw[f2] at this;cases this;rfl
   have hd1:sw d (.frz o (.dK u)) A d≠none∨sw d (.frz o (.dK u)) B d≠none:=by
    rcases f4 with q | q
    · exact .inl fun z=>q (d8.mp z)
    · exact .inr fun z=>q (d8.mp z)
   refine thn (h.h pins s σ _ ⟨fun σ' H'=>∃A',aN X.K A' (sw d (.frz o (.dK u)) B) H' O' σ' Γ'∧aC (sw d (.frz o (.dK u)) A) A'∧New (sw d (.frz o (.dK u)) A) A' (sw d (.frz o (.dK u)) B),fun _ _=>False,fun _ _=>False,fun _ _=>False⟩ I1 ⟨⟨d,o,u,f1,qK f2⟩,_,_,Γ,_,r1,em,fun σ' A' H' r' sa nw=>⟨A',r',sa,nw⟩⟩) fun fl s1 q=>?_
   cases fl with
   | next=>
    obtain ⟨σ',H',I2,A',r',sa,nw⟩:=q
    have fH:H' d=some (.frz o (.dK u)):=by
     rcases f4 with q | q
     · cases e:A d with
       | none=>exact absurd e q
       | some z=>exact r'.a _ _ (sa _ _ (qK e))
     · cases e:B d with
       | none=>exact absurd e q
       | some z=>exact r'.b _ _ (qK e)
    have hU:AtU H' d u:=fun z e=>by rw[fH] at e;cases e;exact .inr ⟨o,rfl⟩
    have I3:=I2.Z7 fH fun o' u' q=>by have:=I.base.jW _ _ _ q;rw[f2] at this;cases this
    rw[← Oh fH] at I3
    have r2:=r'.sw (y:=.dK u) hU (by
     rcases hd1 with q | q
     · left
       intro z
       cases e:sw d (.frz o (.dK u)) A d with
       | none=>exact q e
       | some x=>rw[sa _ _ e] at z;cases z
     · exact .inr q) (.inl rfl)
    rw[Jq eB] at r2
    exact ⟨σ',_,I3,k σ' _ _ r2 (S7 sa eA) (aac nw)⟩
   | ret v=>
    obtain ⟨_,_,_,_,_,z⟩:=q
    exact kT z
   | brk=>obtain ⟨_,_,_,z⟩:=q;exact kT z
   | cont=>obtain ⟨_,_,_,z⟩:=q;exact kT z
 · exact h.h pins s σ H D I ⟨⟨d,o,u,f1,f2⟩,A,B,Γ,_,r,em,k⟩
theorem Tc (q i:Nat) {O2:List Fl} (tn:List Str) (ix:List Nat) {rm:Rm}{Ol:List Fl}{y:Str}{py spos:Pos} (hri:isR (fl O q)=true) (hN:X.N.Nodup) (hiN:X.N[i]?=some y) (hy:Loc X.env.scope y) (S:gG X scope ix=true) (hc:X.calm=true) (hOb:Ob=km tn.length ix O) (hnt:nt=tn.length) (his:∀j∈is,j < tn.length) (hi:QI X tg iter (Z6 X.K O q (itK q)))
 (hg:∀cl C s₂ H₂ fp,QG (X.comp scope tn ix cl C s₂ H₂ fp) tg (tG X.K Ob O1 is g)) (ht:∀cl C s₂ H₂ fp,vp (X.comp scope tn ix cl C s₂ H₂ fp) ifs (tT X.K O1 mc)) (he:∀cl C s₂ H₂ fp,QE (X.comp scope tn ix cl C s₂ H₂ fp) elt (tE X.K O1 me))
 (hl:i < O.length:=by exact of_decide_eq_true rfl) (hsw:kr (.ListComp elt [⟨tg,iter,ifs,0⟩] scope pos) (some (.Name y py)) spos.line X.env=pure true:=by rfl)
 (hf:X.fn y=true∨X.env.scope.names.lookup y=some .local:=by first | exact .inl rfl | exact .inr rfl | assumption)
 (hs:∀x,kn iter X.env x=pure x:=by intro _;rfl) (hO:O.set i .own=O2:=by rfl):QS X (.Assign [.Name y py] (.ListComp elt [⟨tg,iter,ifs,0⟩] scope pos) spos) (tS X.K rm Ol O O2 (aY i (cP (itK q) g mc me nt ix))):=
 TV q hri (fun Γ o h=>by
  obtain ⟨x,e1,h⟩:=Res.aA h
  obtain ⟨xs,e2,_⟩:=Res.aA e1
  obtain ⟨kvs,e,_⟩:=Nb e2
  obtain ⟨_,h⟩:=b7 h
  cases h
  exact ⟨⟨kvs,e⟩,_,rfl⟩) (hO ▸ QS.imp (Jk hN hiN hy S hc hi.h (fun cl C s₂ H₂ fp=>(hg cl C s₂ H₂ fp).h) (fun cl C s₂ H₂ fp=>(ht cl C s₂ H₂ fp).h) (fun cl C s₂ H₂ fp=>(he cl C s₂ H₂ fp).h) hsw hf hs) fun D σ H h=>⟨h.1,vy (te:=zq tn ix (tIc X.K O (itK q)) (tG X.K Ob O1 is g) (tT X.K O1 mc) (tE X.K O1 me)) (fun σ' H' Q' z=>yo hOb hnt his z) hl h.2⟩)
end
end L3
namespace L3
open PySem PySem.Spec PyProof.Rows L2
section
variable {P:cc}{w:eK}{K:af}{mg:Str→Option ag}{base:Heap}
theorem U3 {st:Stmt}{N ps:List Str}{k:Nat}{fs O O' Ol:List Fl}{rm:Rm}{m:MS}{T:Addr} (F:At K mg "ways" st ps) (hT:TabAt K mg T) (S:bc N ps (az st)) (hf:fs.length=ps.length) (hn:ps.length≤N.length)
 (hO:∀i,i < fs.length→(fl O i = .imm∧fl fs i = .imm)∨fl O i = .bor)
 (hbody:∀(f cd:Addr) (A:eI) (outer:List Env) (s:ar) (H:Hp) (E:XK),iF K cd T=true→cJ k (A.deeper (kP "ways" (az st) s.heap.objs.size f (.ref cd))) →
  QSs (lX CX0 P w K mg base N "ways" (az st) f (.ref cd) A outer s H E).nox (aP st) (tS K rm Ol O O' m)):Def P w K mg base (k+1) "ways" ps (spF K fs rm (fnR N.length m)):=by
 obtain ⟨f,fd,F,b,hm⟩:=F.ex
 refine ⟨f,fd,?_,b,F.kp,hm⟩
 obtain ⟨oc,od,kV,doc,pm,an,cdv,ct,osl,rfl,lk,hcd⟩:=F.ex
 obtain ⟨f',o,fd',c,t1,t2,t3,t4,t5⟩:=hT
 rw[hm] at t1
 cases t1
 rw[lk] at t2
 cases t2
 have t3:Data.func (b9 "ways" "ways" (aR st) (aP st) (az st) .none kV doc pm an cdv ct) = .func fd':=t3
 cases t3
 have t4:cdv = .ref c:=t4
 subst t4
 refine Ly lk hcd S (fun vs H Q E h=>?_) fun A outer s H vs Q E hr h=>?_
 · obtain ⟨A,ds,d,_,h,_⟩:=h
   rw[h.length.1,hf]
 · obtain ⟨A',ds,d,ha,h,em,q⟩:=h
   obtain ⟨o,e1,em⟩:=Res.aA em
   cases o with
   | rt d'=>
    cases em
    exact ⟨_,(hbody f c A outer s H E t5 hr).h.nox,A',H,_,_,lA ha h hO (by omega),e1,fun v A2 H2 s1 s2 sa nw rv=>q v A2 H2 ⟨sa,s2,s1,nw⟩ rv⟩
   | _=>cases em
theorem R1 {f T:Addr} (hm:mg "ways" = some (.ref f)) (h:nU K f T=true):TabAt K mg T:=by
 unfold nU at h
 rw[dS] at h
 have h:=h.1
 split at h
 · rename_i oc od fd sl e
   split at h
   · rename_i c ec
     exact ⟨f,_,fd,c,hm,e,rfl,ec,h⟩
   · cases h
 · cases h
end
section
variable {X:Cx}
end
section
variable {X:Cx}{rm:Rm}{Ol O:List Fl}{pos p apos cpos:Pos}
theorem R7 (i:Nat) {x:Str} (hi:isO (fl O i)=true:=by rfl) (hN:X.N[i]?=some x:=by rfl) (hv:Vis X.env.scope x:=by first | exact cb rfl | exact fq (cb rfl) | exact fq (fq rfl)) (hd:(x == ("__debug__" : Str))=false:=by decide)
 (hcd:(x == ("__classdict__" : Str))=false:=by decide) (hbase:jS (.Name x p) "clear" X.env (eval (.Name x p) X.env)=eval (.Name x p) X.env:=by rfl) (hline:(apos.endLine == cpos.line)=true:=by rfl)
 (hsw:kr (.Call (.Attribute (.Name x p) "clear" apos) [] [] cpos) none pos.line X.env=pure false:=by rfl) :
 QS X (.Expr (.Call (.Attribute (.Name x p) "clear" apos) [] [] cpos) pos) (tS X.K rm Ol O O (Hj i)):=by
 refine QS.imp (pq (O8 kS PySem.F.slot_list_clear PySem.F.type_list_clear Q5 (du hN hv hd hcd) hbase hline) hsw) fun D σ H ao=>?_
 obtain ⟨A,B,Γ,o,r,em,k⟩:=ao
 unfold Hj at em
 cases hg:gv Γ i with
 | none=>rw[hg] at em;cases em
 | some dl=>
  rw[hg] at em
  cases dl with
  | list ds=>
   obtain ⟨hc,em⟩:=b7 em
   cases em
   obtain ⟨q,vs,e3,h1,h4⟩:=qx r hi hg
   refine ⟨.ref q,dq e3,.inl ⟨rfl,vs,SqL.of h1⟩,q,vs,rfl,rfl,h1,?_⟩
   exact k σ A _ (r.change hi hc (by rw[hg];simp) e3 h1 (.inl ⟨_,_,rfl,rfl,aB.nil.mpr rfl⟩)) (aC.refl _) (fun _ h _=>h)
  | _=>cases em
end
end L3
namespace L2
open PySem PySem.Spec PyProof.Rows
section
variable {P:cc}{w:eK}{A:eI}{E:ag→ar→Prop}{s:ar}
end
section
variable {P:cc}{w:eK}{A:eI}{R:AH→ar→Prop}{I:Addr}{fp wr:List Addr}{G:Array u7→Array u7→Prop}{n:Nat}{Pv:Nat→ag→Prop}{St:Nat→ar→Prop}
end
section
variable {P:cc}{w:eK}{A:eI}{E:ag→ar→Prop}{s:ar}
end
end L2
namespace L3
open PySem PySem.Spec PyProof.Rows L2
section
variable {X:Cx}{pins:List (Addr×Obj)}{σ:L2.St}{H:Hp}{s:ar}
end
section
variable {K:af}{A H:Hp}
end
noncomputable def Eh (mo mk mx:ME):ME:=fun Γ=>(mo Γ).bind fun x=>(mk Γ).bind fun kd=>(mx Γ).bind fun z=>match x with
 | .dict kvs=>(match bB kd with
  | some key=>.ok ((b8 key kvs).getD z)
  | none=>.bad)
 | _=>.bad
section
variable {X:Cx}{O:List Fl}{mo mk mx:ME}{o e f:Expr}{apos cpos:Pos}
theorem RJ {K:af}{A:Hp}{key:Key}{kvs:List (ae×ae)}{u:List (Key×V)}{z:ae}{y:V} (h:aQ K A kvs u) (hz:Rp K A z y):Rp K A ((b8 key kvs).getD z) ((jw u key).getD y):=by
 obtain ⟨h1,h2⟩:=h.look (key:=key)
 cases hl:b8 key kvs with
 | none=>rw[h2 hl];exact hz
 | some d=>
  obtain ⟨v,e,p⟩:=h1 d hl
  rw[e];exact p
theorem W8 (hu:X.A.units+66 < nV) (ho:QE X o (tP X.K O mo)) (he:QE X e (tE X.K O mk)) (hf:QE X f (tE X.K O mx)) (hm:M2 X o "get" apos e f cpos:=by exact ⟨rfl,rfl,rfl,rfl⟩):QE X (.Call (.Attribute o "get" apos) [e,f] [] cpos) (tE X.K O (Eh mo mk mx)):=
 QE.imp (R9 (by omega) ho.h he.h hf.h hm) fun σ H Q ao=>by
  obtain ⟨A,B,Γ,d,r,em,k⟩:=ao
  obtain ⟨d1,e1,em⟩:=Res.aA em
  obtain ⟨d2,e2,em⟩:=Res.aA em
  obtain ⟨d3,e3,em⟩:=Res.aA em
  refine ⟨A,B,Γ,d1,r,e1,fun v A1 H1 g1 p1=>?_⟩
  cases d1 with
  | dict kvs=>
   have em:(match bB d2 with
    | some key=>Res.ok ((b8 key kvs).getD d3)
    | none=>.bad) = .ok d:=em
   cases hk:bB d2 with
   | none=>rw[hk] at em;cases em
   | some key=>
    rw[hk] at em
    cases em
    obtain ⟨l,u,rfl,h1,h2⟩:=p1.dict g1.ah
    refine ⟨l,rfl,.inl ⟨u,h1⟩,A1,B,Γ,d2,r.grow g1,e2,fun y A2 H2 g2 p2=>⟨A2,B,Γ,d3,r.grow (g1.trans g2),e3,fun z A3 H3 g3 p3=>?_⟩⟩
    rw[p2.key hk]
    exact ⟨jw u key,.inl ⟨u,key,aC.rd g3.hh (aC.rd g2.hh h1),rfl,rfl⟩,k _ _ _ ((g1.trans g2).trans g3) (RJ (aQ.mono g3.aa kvs (h2.mono g2.aa kvs)) p3)⟩
  | _=>cases em
end
noncomputable def NX (m:MS):Prop:=∀Γ o,m Γ = .ok o→∃Γ',o = .nx Γ'
theorem aaJ {c:ME}{a b:MS} (ha:NX a) (hb:NX b):NX (sIf c a b):=fun Γ o h=>by
 unfold sIf at h
 obtain ⟨x,e1,h⟩:=Res.aA h
 cases x with
 | bool t=>cases t with
  | true=>exact ha Γ o h
  | false=>exact hb Γ o h
 | _=>cases h
theorem aag {i:Nat}{m m':ME}:NX (jH i m m'):=fun Γ o h=>by
 unfold jH at h
 obtain ⟨d,_,h⟩:=Res.aA h
 obtain ⟨d',_,h⟩:=Res.aA h
 split at h
 · split at h
   · obtain ⟨_,h⟩:=b7 h
     cases h
     exact ⟨_,rfl⟩
   · cases h
 · cases h
theorem Ji {g:MG}{cl:List Nat}{b:MS} (hb:NX b):∀{xs:List ae}{Γ:Ev}{o:Out},forR g cl b xs Γ = .ok o→∃Γ',o = .nx Γ'
 | [],Γ,o,h=>by cases h;exact ⟨_,rfl⟩
 | x::xs,Γ,o,h=>by
  rw[forR] at h
  obtain ⟨Γ1,_,h⟩:=Res.aA h
  obtain ⟨o1,e1,h⟩:=Res.aA h
  obtain ⟨Γ',rfl⟩:=hb Γ1 o1 e1
  exact Ji hb h
noncomputable def tIK (K:af) (O:List Fl) (i:Nat) (it:MI):TI:=fun σ H R=>Qi σ H i∧tI K O it σ H R
section
variable {X:Cx}{rm:Rm}{Ol O:List Fl}{is:List Nat}{g:MG}{cl:List Nat}{mb:MS}{tg iter:Expr}{body:List Stmt}{pos p:Pos}
end
end L3
namespace L2
open PySem PySem.Spec PyProof.Rows
noncomputable def Itd (d:Addr) (o:Obj) (u:List (Key×V)):It:=
 ⟨fun i H=>H d=some (.frz o (.dK u))∧i < u.length,fun i H x H'=>∃p k v,H p=none∧x = .ref p∧H'=upd H p (.tup [kV k,v])∧u[i]?=some (k,v),fun i H=>H d=some (.frz o (.dK u))∧u.length≤i⟩
theorem Vw:entryFor table "dict_itemiterator.__iter__" = some Builtin.«dict_keyiterator.__iter__» := entryFor_alias (id' := "dict_keyiterator.__iter__") (by kernel_rfl) rfl (by decide +kernel) (by kernel_rfl)
theorem Lp {P:cc}{w:eK}{A:eI}{E:ag→ar→Prop}{s:ar}{it d:Addr}{i n ep:Nat}{ok ov:ag}{Q:ag→ar→Prop} (hit:IsItemIter s.heap it d i n ep ok ov) (h:Q (.ref it) s):cn (cx P w) A (pyIter (.ref it)) Q E s:=by
 have hT:s.TypeIs (.ref it) "dict_itemiterator" := ⟨_,hit,rfl⟩
 refine wpAny_pyIter_slot hT p9 (kD p9 hT Vw ?_ (PySem.F.args_dict_itemiterator_iter_1 _))
 show cn _ _ (ret (.ref it)) _ _ s
 exact ay ⟨_,rfl, "dict_itemiterator",_,hT,PySem.F.slot_dict_itemiterator_next.lookup,h⟩
theorem Kz {P:cc}{w:eK}{K:af}{elts:List Expr}{x1}{tpos:Pos}{d it:Addr}{o:Obj}{u:List (Key×V)}{es:Array DictEntry}{ep:Nat} (ho:o.data = .dict es ep) :
 Turn P w K (.Tuple elts x1 tpos) (Itd d o u) [it] it (fun i h=>∃ok ov,IsItemIter h it d i u.length ep ok ov) where
 mem:=by simp
 obj:=fun i h st b hb=>by
  have e:b=it:=by simpa using hb
  subst e
  obtain ⟨ok,ov,e⟩:=st
  exact ⟨_,e,fun v z=>by cases z⟩
 keep:=fun i h h' st k=>by
  obtain ⟨ok,ov,e⟩:=st
  exact ⟨ok,ov,k it (by simp) _ e⟩
 item:=by
  intro X hP hw hK hc i pins s σ H E I hf st hg
  subst hP hw hK
  obtain ⟨ok,ov,st⟩:=st
  obtain ⟨hd,hi⟩:=hg
  obtain ⟨hsm,vs,rel,hat⟩:=oR I hd ho
  have hl:=rel.length
  obtain ⟨⟨k,x⟩,hx⟩:∃q,vs[i]?=some q:=⟨vs[i],aI (by omega)⟩
  obtain ⟨⟨k2,v2⟩,g1,g2,g3⟩:=Paired.getL rel hx
  have g2:k2=k:=g2
  subst g2
  have fz:=hf it (by simp)
  rw[hl] at st
  refine wpAny_pyNext_items_item st hat hx fun key h' hkey st' hN hsz hk=>?_
  refine ⟨_,rfl,?_⟩
  refine wpAny_letOwnedTupleGo_items (s:={ s with heap:=h' }) st' fun h2 hz2 sb2=>?_
  have hnew:H s.heap.objs.size=none:=I.hok.fresh (aE _)
  have hpz:s.heap.objs.size≠it:=Nat.ne_of_gt (dP st)
  have hN2:h2.get? s.heap.objs.size=some { cls:=.type "tuple",data:=.seq #[key,x] }:=sb2.extBut _ _ hpz hN
  have k3:∀c ob,s.heap.get? c=some ob→c∉[it]→h2.get? c=some ob:=fun c ob q hc=>sb2.extBut c ob (fun e=>hc (by simp[e])) (hk c ob (fun e=>hc (by simp[e])) q)
  have ge:∀c ob,H c=some ob→c∉[it]:=fun c ob q hc=>by
   have hc':c=it:=by simpa using hc
   subst hc'
   rw[fz.1] at q;cases q
  have un:Un (frs X.stack) [it] H (upd H s.heap.objs.size (.tup [kV k2,v2])) s.heap h2:=by
   have nb:∀b ob,s.heap.get? b=some ob→b≠s.heap.objs.size:=fun b ob q=>gL (dP q)
   refine ⟨fun b ob q n _ hc=>?_,fun b ob q n _ hc=>?_,fun b ob q n hc=>?_,fun b ob q hc=>?_,fun b ys q=>?_,fun b ob y q=>?_,fun b ps q=>?_⟩
   · exact k3 b ob q hc
   · exact ⟨ob.slots,k3 b ob q hc⟩
   · rw[aK (nb b ob q)];exact n
   · exact ⟨ob,k3 b ob q hc⟩
   · rw[aK (cV q hnew)];exact q
   · rw[aK (cV q hnew)];exact q
   · rw[aK (cV q hnew)];exact q
  have hok:HOk X.prog X.w (upd H s.heap.objs.size (.tup [kV k2,v2])) h2:=fun b ob q=>by
   by_cases hb:b=s.heap.objs.size
   · subst hb
     rw[bw] at q
     cases q
     exact ⟨by show 2≤bg;decide,[key,x],.cons (JR hkey) (.cons g3 .nil),⟨_,hN2,rfl,0,rfl⟩⟩
   · rw[aK hb] at q
     refine (I.hok b ob q).stay (fun c v hc q'=>?_) (fun c q'=>by rw[aK (cV q' hnew)];exact q') fun c ys q'=>by rw[aK (cV q' hnew)];exact q'
     rcases hc with rfl | hc
     · exact k3 c v q' (ge c _ q)
     · exact k3 c v q' (ge c _ hc)
  have I2:Inv X pins σ (upd H s.heap.objs.size (.tup [kV k2,v2])) { s with heap:=h2 }:=
   I.call' rfl un hok I.bare fun b hb=>by
    obtain ⟨f0,f1,f2,f3,f4,f5⟩:=hf b hb
    exact ⟨f3,f1,f4,f5⟩
  refine ⟨.ref s.heap.objs.size,_,I2,rfl,⟨_,k2,v2,hnew,rfl,rfl,g1⟩,⟨key,x,by rw[hl];exact hz2⟩,fun b hb=>?_⟩
  have hb':b=it:=by simpa using hb
  subst hb'
  rw[aK (oP hpz)];exact fz.1
 done:=by
  intro X hP hw hK hc i pins s σ H E I hf st hg
  subst hP hw hK
  obtain ⟨ok,ov,st⟩:=st
  obtain ⟨hd,hi⟩:=hg
  obtain ⟨hsm,vs,rel,hat⟩:=oR I hd ho
  have hl:=rel.length
  obtain ⟨f0,f1,f2,f3,f4,f5⟩:=hf it (by simp)
  rw[hl] at st
  exact wpAny_pyNext_items_end (I.ok.hd hc) st hat (by simp;omega) fun h' eb=>⟨rfl,I.turned (t':=s.toks) (fun b o hb e=>eb b o hb e) f0 f1 f3 f4 f5⟩
 self:=fun _ _ _ _ _ st h=>by
  obtain ⟨ok,ov,st⟩:=st
  exact Lp st h
noncomputable def X6 (te:TE):TI:=fun σ H R=>te σ H fun x H1=>∃d o u,x = .ref d∧H1 d=some (.frz o (.dK u))∧R (Itd d o u) H1
theorem RC {X:Cx}{l:Expr}{te:TE}{elts:List Expr}{x1}{tpos apos cpos:Pos} (hl:PE X l te) (hbase:jS l "items" X.env (eval l X.env)=eval l X.env:=by rfl) (hline:(apos.endLine == cpos.line)=true:=by rfl):PI X (.Tuple elts x1 tpos) (.Call (.Attribute l "items" apos) [] [] cpos) (X6 te):=by
 intro pins s σ H R I h
 refine wpAny_Call_method0_late hbase hline (thn (hl pins s σ H _ I h) fun v s1 ao=>?_)
 obtain ⟨x,H1,I1,r1,d,o,u,ex,hd,hR⟩:=ao
 subst ex
 obtain rfl:v=eL d:=r1
 obtain ⟨t1,t2,_⟩:=Hh I1 (.inl ⟨u,.inr ⟨o,hd⟩⟩)
 obtain ⟨e0,z,hsm,vs,rel,o',es,ep,e1,e2,e3,e4⟩:=I1.hok d _ hd
 rw[e0] at e1
 cases e1
 have hlen:=rel.length
 have dd:s1.heap.DictOf (bD X.prog X.w) d vs:=⟨o,es,ep,e0,e2,e3,e4⟩
 refine ⟨"dict", "dict.items",qA,x5,PySem.F.type_dict_items,t1,t2,lj rfl (PySem.evalArgs_none (y6 x5 t1 PySem.F.entry_dict_items (PySem.F.args_dict_items_1 _) (meets_dict_items (bD X.prog X.w) d hsm) ⟨⟨vs,dd⟩,?_⟩))⟩
 have hat:(s1.heap.push { cls:=.type "dict_items",data:=.fields #[.ref d] }).DictAt (bD X.prog X.w) d vs ep:=⟨o,es,aS _ e0,e2,e3,e4⟩
 refine wpAny_pyIter_items (knd:=bD X.prog X.w) (d:=d) (kvs:=vs) (ep:=ep) ⟨_,d4 _ rfl,rfl,rfl⟩ hat ?_
 have kp:∀b ob,s1.heap.get? b=some ob→((s1.heap.push { cls:=.type "dict_items",data:=.fields #[.ref d] }).push { cls:=.type "dict_itemiterator",data:=.fields #[.none,.bool false,.ref d,.int 0 0,.int vs.length 0,.int ep 0,.none,.none] }).get? b=some ob:=fun b ob e=>aS _ (aS _ e)
 have hsz:s1.heap.objs.size≤(s1.heap.push { cls:=.type "dict_items",data:=.fields #[.ref d] }).objs.size:=by rw[ow];omega
 refine ⟨_,[(s1.heap.push { cls:=.type "dict_items",data:=.fields #[.ref d] }).objs.size],_,Itd d o u,H1,rfl,I1.un (t':=s1.toks) (Un.kept kp) (I1.hok.kept kp),Kz e3,⟨.none,.none,by rw[hlen];exact d4 _ rfl⟩,fun b hb=>?_,hR⟩
 rw[be.mp hb]
 exact I1.sY hsz (I1.hok.fresh hsz)
end L2
namespace L3
open PySem PySem.Spec PyProof.Rows L2
noncomputable def itI (i:Nat):MI:=fun Γ=>match gv Γ i with
 | some (.dict kvs)=>.ok (kvs.map fun q=>ae.tuple [q.1,q.2])
 | _=>.bad
theorem NP {Γ:Ev}{i:Nat}{xs:List ae} (h:itI i Γ = .ok xs):∃kvs,gv Γ i=some (.dict kvs)∧xs=kvs.map fun q=>ae.tuple [q.1,q.2]:=by
 unfold itI at h
 cases e:gv Γ i with
 | none=>rw[e] at h;cases h
 | some d=>
  rw[e] at h
  cases d with
  | dict kvs=>cases h;exact ⟨kvs,rfl,rfl⟩
  | _=>cases h
section
variable {X:Cx}{rm:Rm}{Ol O:List Fl}{is:List Nat}{g:MG}{cl:List Nat}{mb:MS}{tg iter:Expr}{body:List Stmt}{pos p:Pos}{elts:List Expr}{tpos apos cpos:Pos}
theorem QL (i:Nat) {x1}{x:Str} (hi:isR (fl O i)=true:=by rfl) (hN:X.N[i]?=some x:=by rfl) (hv:Vis X.env.scope x:=by first | exact cb rfl | exact fq (cb rfl) | exact fq (fq rfl)) (hd:(x == ("__debug__" : Str))=false:=by decide)
 (hcd:(x == ("__classdict__" : Str))=false:=by decide) (hbase:jS (.Name x pos) "items" X.env (eval (.Name x pos) X.env)=eval (.Name x pos) X.env:=by rfl) (hline:(apos.endLine == cpos.line)=true:=by rfl) :
 QI X (.Tuple elts x1 tpos) (.Call (.Attribute (.Name x pos) "items" apos) [] [] cpos) (tIK X.K O i (itI i)):=
 QI.imp (RC (du hN hv hd hcd) hbase hline) fun σ H R ⟨⟨d,o,u,e1,e2⟩,A,B,Γ,xs,r,em,k⟩=>by
  obtain ⟨kvs,hg,rfl⟩:=NP em
  obtain ⟨d',u',z,f1,f2,f3,f4,f5⟩:=vq r hi hg
  rw[e1] at f1
  cases f1
  rw[e2] at f2
  cases f2
  have eu:u'=u:=by
   rcases f3 with z | ⟨o',z⟩ <;> cases z
   rfl
  subst eu
  have hl:=f5.len
  have st:∀H2,aC A H2→aC B H2→H2 d=some (.frz o (.dK u')):=fun H2 s1 s2=>by
   rcases f4 with q | q
   · cases e:A d with
     | none=>exact absurd e q
     | some z=>have:=r.a _ _ e;rw[e2] at this;cases this;exact s1 _ _ e
   · cases e:B d with
     | none=>exact absurd e q
     | some z=>have:=r.b _ _ e;rw[e2] at this;cases this;exact s2 _ _ e
  refine ⟨.ref d,dq e1,d,o,u',rfl,e2,k _ A H (aM.refl r.a) ⟨fun n H2 s1 s2 hn=>⟨st H2 s1 s2,by rw[av] at hn;omega⟩,fun H2 s1 s2=>⟨st H2 s1 s2,by rw[av];omega⟩,fun n A2 H2 v H3 sa s2 s3 hn hy=>?_⟩⟩
  obtain ⟨p,key,w,hp,rfl,rfl,e3⟩:=hy
  obtain ⟨k1,d1,g1,g2,g3⟩:=uR f5 e3
  have gr:=aM.new (o:=.tup [kV key,w]) s2 hp
  exact ⟨_,.tuple [k1,d1],by rw[cp,g1];rfl,gr,Rp.tuple.mpr ⟨p,_,rfl,SqT.of bw,aB.cons.mpr ⟨_,_,rfl,M9 g2,aB.one (Rp.mono (sa.trans gr.aa) d1 g3)⟩⟩⟩
theorem WM (i:Nat) (hri:isR (fl O i)=true) (hnx:NX mb) (hp:As (cx X.prog X.w) X.A X.env X.xe) (hc:X.calm=true) (cl:List Nat) {Oe:List Fl} (hi:QI X tg iter (tIK X.K O i (itI i))) (hg:QG X tg (tG X.K O O is g)) (hb:QSs X body (tS X.K rm Oe O Oe mb)) (hE:xK O Oe cl=true)
 (hs:∀x,kn iter X.env x=pure x:=by intro _;rfl):QS X (.For tg iter body [] pos) (tS X.K rm Ol O O (eG (itI i) g cl mb)):=by
 refine TV i hri (fun Γ o h=>?_) ?_
 · obtain ⟨xs,e1,h⟩:=Res.aA h
   obtain ⟨kvs,e,_⟩:=NP e1
   exact ⟨⟨kvs,e⟩,Ji hnx h⟩
 · skip
   refine QS.imp (OD hp hc hi.h hg.h hb.h hs) fun D σ H ⟨fz,A,B,Γ,o,r,em,k⟩=>⟨fz,?_⟩
   obtain ⟨xs,e1,em⟩:=Res.aA em
   refine ⟨A,B,Γ,xs,r,e1,fun J A1 H1 g1 hj=>?_⟩
   refine ⟨fun i n σ' H'=>n=xs.length - i∧i≤xs.length∧∃A2 Γ2,aN X.K A2 B H' O σ' Γ2∧aC A A2∧New A A2 B∧aC A1 A2∧forR g cl mb (xs.drop i) Γ2 = .ok o,⟨xs.length,rfl,iE _,A1,Γ,r.grow g1,g1.aa,g1.nB r.b,aC.refl _,em⟩,?_⟩
   rintro i n σ' H' ⟨rfl,hi',A2,Γ2,r2,sa,nw,s12,e2⟩
   by_cases hlt:i < xs.length
   · refine .inr ⟨hj.go i H' (s12.trans r2.a) r2.b hlt,fun σ'' H''=>i+1≤xs.length∧∃A3 Γ3,aN X.K A3 B H'' O σ'' Γ3∧aC A A3∧New A A3 B∧aC A1 A3∧forR g cl mb (xs.drop (i+1)) Γ3 = .ok o,?_,fun x H3 y=>?_⟩
     · rintro σ'' H'' ⟨h1,A3,Γ3,h2⟩
       exact ⟨xs.length - (i+1),by omega,rfl,h1,A3,Γ3,h2⟩
     · obtain ⟨A3,d,ed,g3,p3⟩:=hj.yld i A2 H' x H3 s12 r2.a r2.b hlt y
       have hd:xs.drop i=d::xs.drop (i+1):=by
        rw[iN hlt]
        rw[aI hlt] at ed
        cases ed
        rfl
       rw[hd] at e2
       obtain ⟨Γ3,e3,e2⟩:=Res.aA e2
       obtain ⟨o3,e4,e2⟩:=Res.aA e2
       have sa3:=sa.trans g3.aa
       have nw3:New A A3 B:=nw.trans (g3.nB r2.b)
       refine ⟨A3,B,Γ2,d,Γ3,r2.grow g3,p3,e3,fun σ4 r4 _=>⟨A3,B,Γ3,o3,r4,e4,?_⟩⟩
       have sb:∀{D':Ends},ni X.K rm Ol O A B D' o→ni X.K rm Ol O A3 B D' o:=fun h=>h.sub sa3 nw3
       cases o3 with
       | nx Γ4=>exact fun σ5 A5 H5 r5 s5 n5=>⟨hlt,A5,clr cl Γ4,r5.jA hE,sa3.trans s5,nw3.trans n5,s12.trans (g3.aa.trans s5),e2⟩
       | ct Γ4=>exact fun σ5 A5 H5 r5 s5 n5=>⟨hlt,A5,clr cl Γ4,r5.jA hE,sa3.trans s5,nw3.trans n5,s12.trans (g3.aa.trans s5),e2⟩
       | bk Γ4=>
        cases e2
        exact fun σ5 A5 H5 r5 s5 n5=>k σ5 A5 H5 (r5.jA hE) (sa3.trans s5) (nw3.trans n5)
       | rt d'=>
        cases e2
        exact fun v A5 H5 q1 q2 s5 n5 rv=>k v A5 H5 q1 q2 (sa3.trans s5) (nw3.trans n5) rv
   · have e:i=xs.length:=by omega
     subst e
     rw[xD] at e2
     cases e2
     exact .inl ⟨hj.stop H' (s12.trans r2.a) r2.b,k σ' A2 H' r2 sa nw⟩
end
noncomputable def clL:List (Str×Addr)→Str→Addr
 | [],_=>0
 | (n,a)::l,c=>if c=n then a else clL l c
theorem zY {n:Str}{a:Addr}{l:List (Str×Addr)}:clL ((n,a)::l) n=a:=if_pos rfl
theorem Oa {n c:Str}{a C:Addr}{l:List (Str×Addr)} (h:c≠n) (t:clL l c=C):clL ((n,a)::l) c=C:=(if_neg h).trans t
noncomputable def hsL:List (Str×MS)→Str→MS
 | [],_=>lr
 | (n,a)::l,c=>if c=n then a else hsL l c
structure XV (X:Cx) (O:List Fl) (cl:Str→Addr) (e:Expr) (z:MZ):Prop where
 h:∀(pins:List (Addr×Obj)) (s:ar) (σ:L2.St) (H A B:Hp) (Γ:Ev) (c:Str) (Ex:ag→ar→Prop),L2.Inv X pins σ H s→aN X.K A B H O σ Γ→z Γ = .ok c →
  (∀er s' s1 H1 A1,L2.Inv X pins σ H1 s1→aM A H A1 H1→CXE X.prog X.w X.stack H1 s1 (fun cv _ H'=>cv = .ref (cl c)∧∃A',aM A1 H1 A' H') er s'→Ex er s') →
  cn (cx X.prog X.w) X.A (eval e X.env) (fun _ _=>False) Ex s
structure XZ (X:Cx) (O:List Fl) (cl:Str→Addr) (st:Stmt) (z:MZ):Prop where
 h:∀(pins:List (Addr×Obj)) (s:ar) (σ:L2.St) (H A B:Hp) (Γ:Ev) (c:Str) (Ex:ag→ar→Prop),L2.Inv X pins σ H s→aN X.K A B H O σ Γ→z Γ = .ok c →
  (∀er s' s1 H1 A1,L2.Inv X pins σ H1 s1→aM A H A1 H1→CXE X.prog X.w X.stack H1 s1 (fun cv _ H'=>cv = .ref (cl c)∧∃A',aM A1 H1 A' H') er s'→Ex er s') →
  cn (cx X.prog X.w) X.A (exec st X.env) (fun _ _=>False) Ex s
section
variable {X:Cx}{k:Nat}{fn:Str}{ps:List Str}{fs:List Fl}{zf:List ae→Res Str}{O Ol:List Fl}{rm:Rm}{ms:List ME}{pf pc pos px pa:Pos}{e:Expr}{es:List Expr}{cl:Str→Addr}{z:MZ}
theorem V9 (hnx:∀er s',¬ X.xe er s') (F:DefX X.prog X.w X.K X.mg X.base k fn ps (spZ X.K fs cl zf)) (hr:cJ k X.A) (hg:Gl X fn) (ha:QA X (e::es) (tAr X.K O fs ms))
 (hdb:(fn == ("__debug__" : Str))=false:=by decide) (he:noStar e=true:=by rfl) (hpl:fC es=true:=by rfl):XV X O cl (.Call (.Name fn pf) (e::es) [] pc) (Ed zf ms):=⟨fun pins s σ H A B Γ c Ex I r ez k=>by
 obtain ⟨ds,e1,ez⟩:=Res.aA ez
 exact aby I F hr hg ha hnx r e1 ez k hdb he hpl⟩
theorem ZG {t:Str}{j x1}{p1:Pos} (h:XV X O cl e z) (he:noStar e=true:=by rfl):XV X O cl (.Tuple [.Constant (.str t) j p1,e] x1 pos) z:=⟨fun pins s σ H A B Γ c Ex I r ez k=>by
 refine tN ?_
 rw[bY (e:=.Constant (.str t) j p1) (es:=[e]) rfl]
 refine kB ?_
 refine Calls.Constant_str (k:=j) (pos:=p1) ?_
 rw[bY (e:=e) (es:=[]) he]
 exact kB (gc (h.h pins _ σ H A B Γ c Ex (I.tok _) r ez k) (fun _ _ z=>z.elim) fun _ _ z=>z)⟩
theorem Yv {xn:Str} (h:XV X O cl e z) (hs:kr e (some (.Name xn px)) pa.line X.env=pure false:=by rfl):XZ X O cl (.Assign [.Name xn px] e pa) z:=⟨fun pins s σ H A B Γ c Ex I r ez k=>
 wpAny_Assign_Name (gc (h.h pins s σ H A B Γ c Ex I r ez k) (fun v s1 z=>z.elim) fun er s1 z=>z) hs⟩
end
structure tU (K:af) (C T:Addr):Prop where
 cls:(mP K T).isSome=true
 typ:vx K (.ref T)=some (.type "type")
 base:i3 K (.ref T) (.type "BaseException")=some true
 no:i3 K (.ref C) (.ref T)=some false
section
variable {M:zk}{A:eI}{E:ag→ar→Prop}{K:af}
theorem Nf {s:ar}{ea C T:Addr}{ob:Obj}{Q:Bool→ar→Prop} (X:K.In s.heap) (he:s.heap.get? ea=some ob) (hcl:ob.cls = .ref C) (h:tU K C T) (q:Q false s) :
 cn M A (vv (.ref ea) (.ref T)) Q E s:=by
 have nt:j3 M s.heap (sj (.ref T) (.type "tuple")) false:=(PySem.W.looks_typeIn X h.typ).andThen (iO X (show i3 [] (.type "type") (.type "tuple")=some false by decide +kernel))
 unfold vv
 refine ai (nt.at ?_)
 dsimp only;rw[if_neg (by decide)]
 refine ai (ay ?_)
 rw[kU]
 refine ai (ai (ai ?_))
 unfold isExcClass
 refine ai ((mH X h.cls).at ?_)
 rw[if_pos rfl]
 refine (iO X h.base).at ?_
 show cn _ _ (if (!true)=true then _ else _) _ _ _
 rw[if_neg (by decide)]
 refine ay ?_
 refine ay ?_
 refine ai ((cQ he hcl).at ?_)
 rw[kU]
 refine ai (ai (ai ((iO X h.no).at ?_)))
 rw[if_neg (by decide)]
 exact ay (ay (ay q))
end
theorem aN.drop {K:af}{A B H:Hp}{O O1:List Fl}{σ:L2.St}{Γ:Ev}{i:Nat} (r:aN K A B H O σ Γ) (hO:O.set i .imm=O1):aN K A B H O1 (σ.set i none) (Γ.set i none):=by
 subst hO
 have g0:gv (Γ.set i none) i=none:=by
  unfold gv
  rw[ax]
  by_cases hi:i < Γ.length
  · rw[ia hi];rfl
  · rw[eT (by rw[fx];omega)];rfl
 refine ⟨r.a,r.b,by rw[fx,fx];exact r.len,fun j d e=>?_,fun j l hjl h1 h2 h3 h4=>?_⟩
 · have hj:i≠j:=fun z=>by rw[← z,g0] at e;cases e
   unfold fl sv
   unfold gv at e
   rw[aL hj] at e
   rw[aL hj,aL hj]
   exact r.slot j d e
 · have hj:i≠j:=fun z=>h3 (z ▸ g0)
   have hl:i≠l:=fun z=>h4 (z ▸ g0)
   unfold fl at h1 h2
   unfold gv at h3 h4
   rw[aL hj] at h1 h3
   rw[aL hl] at h2 h4
   unfold sv
   rw[aL hj,aL hl]
   exact r.sep j l hjl h1 h2 h3 h4
noncomputable def sAs (ie:Nat) (m:MS):MS:=fun Γ=>gd (ie < Γ.length) ((m (Γ.set ie (some (.str "exc")))).bind fun o=>match o with
 | .nx Γ'=>.ok (.nx (Γ'.set ie none))
 | .rt d=>.ok (.rt d)
 | _=>.bad)
inductive Hnd (X:Cx) (rm:Rm) (Ol O O1:List Fl) (C:Addr):List ke→MS→Prop
 | K8 {names:List Expr}{cs:List Addr}{x1}{tpos pos:Pos}{nm:Option Str}{body:List Stmt}{hs:List ke}{m:MS} (CN:lq X names cs) (hcs:cs.length≤bg) (hno:∀c∈cs,bK X.K C c) (t:Hnd X rm Ol O O1 C hs m):Hnd X rm Ol O O1 C (.ExceptHandler (some (.Tuple names x1 tpos)) nm body pos::hs) m
 | skip {T:Str}{TA:Addr}{np pos:Pos}{nm:Option Str}{body:List Stmt}{hs:List ke}{m:MS} (hg:Gl X T) (hm:X.mg T=some (.ref TA)) (hd:(T == ("__debug__" : Str))=false) (hno:tU X.K C TA) (t:Hnd X rm Ol O O1 C hs m):Hnd X rm Ol O O1 C (.ExceptHandler (some (.Name T np)) nm body pos::hs) m
 | hit {T:Str}{TA:Addr}{np pos:Pos}{b0:Stmt}{body:List Stmt}{hs:List ke}{m:MS} (hg:Gl X T) (hm:X.mg T=some (.ref TA)) (hd:(T == ("__debug__" : Str))=false) (hC:kZ X.K C TA) (hb:∀ea,QSs (Cx.inM X ea) (b0::body) (tS X.K rm Ol O O1 m)):Hnd X rm Ol O O1 C (.ExceptHandler (some (.Name T np)) none (b0::body) pos::hs) m
 | Lg (ie:Nat) {T en:Str}{TA:Addr}{np pos:Pos}{b0:Stmt}{body:List Stmt}{hs:List ke}{m:MS}{Ox:List Fl} (hg:Gl X T) (hm:X.mg T=some (.ref TA)) (hd:(T == ("__debug__" : Str))=false) (hC:kZ X.K C TA) (hie:X.N[ie]?=some en) (hle:X.env.scope.names.lookup en=some .local) (hi:ie < O.length) (hb:∀ea,QSs (Cx.inM X ea) (b0::body) (tS X.K rm Ol (O.set ie (.exc C)) Ox m)) (hO:Ox.set ie .imm=O1):Hnd X rm Ol O O1 C (.ExceptHandler (some (.Name T np)) (some en) (b0::body) pos::hs) (sAs ie m)
section
variable {X:Cx}{pins:List (Addr×Obj)}{σ:L2.St}{H:Hp}{s:ar}{rm:Rm}{Ol O O1:List Fl}{Γ:Ev}
theorem Bl {C:Addr}{D:Ends}{ea:Addr}{A' H' B:Hp}{s':ar}{o:Out}{P:Heap→Prop} (ok:X.Ok) (hN:X.N.Nodup)
 (inv:∀(h:Heap) (tk:Nat),P h→L2.Inv X pins σ H' { s' with heap:=h,toks:=tk })
 (inv2:∀(h:Heap) (tk:Nat) (ob:Obj),P h→h.get? ea=some ob→L2.Inv X pins σ (upd H' ea (.frz ob (.own 0))) { s' with heap:=h,toks:=tk })
 (exc:∀h,P h→∃ob,h.get? ea=some ob∧ob.cls = .ref C)
 (keep:∀h h',P h→(∀b o,h.get? b=some o→h'.get? b=some o)→P h')
 (again:∀(h:Heap) (tk:Nat) {M:zk}{A:eI}{E:ag→ar→Prop}{Q:Unit→ar→Prop},P h→(∀h',P h'→Q () { s' with heap:=h',toks:=tk })→cn M A (setFlight (.ref ea) none) Q E { s' with heap:=h,toks:=tk })
 (hea:H' ea=none) (r:aN X.K A' B H' O σ Γ) (k:ni X.K rm Ol O1 A' B D o) :
 ∀{hs:List ke}{m:MS},Hnd X rm Ol O O1 C hs m→∀(h:Heap) (tk:Nat),P h→m Γ = .ok o→cn (cx X.prog X.w) X.A (handleBy (.ref ea) X.env hs) (SP X pins D) X.xe { s' with heap:=h,toks:=tk }
 | _,_,.K8 (cs:=cs) CN hcs hno t,h,tk,p,em=>by
  obtain ⟨ob,eob,cob⟩:=exc h p
  have Im:L2.Inv (Cx.inM X ea) pins σ H' { s' with heap:=h,toks:=tk }:=sW (inv h tk p)
  have CN':∀{es:List Expr}{cs:List Addr},lq X es cs→lq (Cx.inM X ea) es cs:=fun {es cs} c=>by
   induction c with
   | nil=>exact .nil
   | cons hg hm hd t ih=>exact .cons hg hm hd ih
  refine pz (oj (tN (yM (X:=Cx.inM X ea) Im (CN' CN) ⟨by rw[av];exact hcs,?_⟩))) (by intro z;cases z)
  have kp:∀b o,h.get? b=some o→(h.push { cls:=.type "tuple",data:=.seq (cs.map eL).toArray }).get? b=some o:=fun b o e=>aS _ e
  have p6:=keep _ _ p kp
  exact HY (K:=X.K) (inv _ tk p6).kIn (kp _ _ eob) cob (d4 _ rfl) rfl rfl hno (Bl ok hN inv inv2 exc keep again hea r k t _ tk p6 em)
 | _,_,.skip hg hm hd hno t,h,tk,p,em=>by
  obtain ⟨ob,eob,cob⟩:=exc h p
  have Im:L2.Inv (Cx.inM X ea) pins σ H' { s' with heap:=h,toks:=tk }:=sW (inv h tk p)
  refine pz (oj (lH (X:=Cx.inM X ea) Im hg hm ?_ hd)) (by intro z;cases z)
  exact Nf (K:=X.K) Im.kIn eob cob hno (Bl ok hN inv inv2 exc keep again hea r k t h tk p em)
 | _,_,.hit hg hm hd hC hb,h,tk,p,em=>by
  obtain ⟨ob,eob,cob⟩:=exc h p
  have Im:L2.Inv (Cx.inM X ea) pins σ H' { s' with heap:=h,toks:=tk }:=sW (inv h tk p)
  refine pz (oj (lH (X:=Cx.inM X ea) Im hg hm ?_ hd)) (by intro z;cases z)
  refine CV (K:=X.K) Im.kIn eob cob hC (codeAny_handlers_suite (again h tk p fun h7 p7=>?_))
  have Im7:L2.Inv (Cx.inM X ea) pins σ H' { s' with heap:=h7,toks:=tk }:=sW (inv h7 tk p7)
  refine gc ((hb ea).h pins _ σ H' D Im7 ⟨A',B,Γ,o,r,em,k⟩) (fun f s9 z=>?_) fun _ _ z=>z.elim
  cases f with
  | next=>obtain ⟨σ9,H9,I9,q⟩:=z;exact ⟨σ9,H9,pB ok I9,q⟩
  | ret u=>obtain ⟨v,σ9,H9,I9,q⟩:=z;exact ⟨v,σ9,H9,pB ok I9,q⟩
  | brk=>obtain ⟨σ9,H9,I9,q⟩:=z;exact ⟨σ9,H9,pB ok I9,q⟩
  | cont=>obtain ⟨σ9,H9,I9,q⟩:=z;exact ⟨σ9,H9,pB ok I9,q⟩
 | _,_,.Lg (en:=en) (pos:=pos) (m:=m) (Ox:=Ox) ie hg hm hd hC hie hle hi hb hO,h,tk,p,em=>by
  obtain ⟨ob,eob,cob⟩:=exc h p
  have Im:L2.Inv (Cx.inM X ea) pins σ H' { s' with heap:=h,toks:=tk }:=sW (inv h tk p)
  refine pz (oj (lH (X:=Cx.inM X ea) Im hg hm ?_ hd)) (by intro z;cases z)
  refine CV (K:=X.K) Im.kIn eob cob hC (codeAny_handlers_suite_as (again h tk p fun h7 p7=>?_))
  obtain ⟨ob7,LC,ZW⟩:=exc h7 p7
  have Im7:L2.Inv (Cx.inM X ea) pins σ (upd H' ea (.frz ob7 (.own 0))) { s' with heap:=h7,toks:=tk }:=sW (inv2 h7 tk ob7 p7 LC)
  refine tD (X:=Cx.inM X ea) (v:=.ref ea) Im7 hN hie (.inl hle) rfl (fun s8 I8=>?_) (.inr hle)
  obtain ⟨hil,em⟩:=b7 em
  obtain ⟨o1,e1,em⟩:=Res.aA em
  have gg:aM A' H' (upd A' ea (.frz ob7 (.own 0))) (upd H' ea (.frz ob7 (.own 0))):=aM.new r.a hea
  have r2:=(r.grow gg).aed (i:=ie) (C:=C) (d:=.str "exc") (v:=.ref ea) hil hi ⟨ea,ob7,rfl,bw,ZW⟩
  have unb:∀(σ9:L2.St) (H9:Hp) (s9:ar) (Q:Unit→ar→Prop),L2.Inv X pins σ9 H9 s9→(∀s11,L2.Inv X pins (σ9.set ie none) H9 s11→Q () s11)→cn (cx X.prog X.w) X.A (do bindName X.env en .none;unbindBehindTheSuite X.env en pos) Q X.xe s9:=fun σ9 H9 s9 Q I9 q=>by
   have hlen:ie < σ9.length:=by rw[I9.len];exact (br.mp hie).1
   refine ai (bindName_ (tD (v:=.non) I9 hN hie (.inl hle) rfl (fun s10 I10=>?_) (.inr hle)))
   unfold unbindBehindTheSuite
   refine wpAny_onRaise (Vh (v:=.non) I10 hN hie hle (by rw[ia hlen]) fun s11 I11=>?_)
   rw[List.set_set] at I11
   exact q s11 I11
  refine gc ((hb ea).h pins s8 _ _ { nx:=fun σ9 H9=>∃A9 Γ9,o1 = .nx Γ9∧aN X.K A9 B H9 Ox σ9 Γ9∧aC A' A9∧New A' A9 B,rt:=fun v H9=>∃d,o1 = .rt d∧D.rt v H9 } I8 ⟨_,B,_,o1,r2,e1,?_⟩) (fun f s9 z=>?_) fun _ _ z=>z.elim
  · cases o1 with
    | nx Γ9=>exact fun σ9 A9 H9 r9 sa nw=>⟨A9,Γ9,rfl,r9,gg.aa.trans sa,(gg.nB r.b).trans nw⟩
    | rt d=>
     cases em
     exact fun v A9 H9 s1 s2 sa nw rv=>⟨d,rfl,k v A9 H9 s1 s2 (gg.aa.trans sa) ((gg.nB r.b).trans nw) rv⟩
    | bk _=>cases em
    | ct _=>cases em
  · cases f with
    | next=>
     obtain ⟨σ9,H9,I9,A9,Γ9,rfl,r9,sa,nw⟩:=z
     cases em
     exact unb σ9 H9 s9 _ (pB ok I9) fun s11 I11=>⟨_,H9,I11,k _ A9 H9 (r9.drop hO) sa nw⟩
    | ret u=>
     obtain ⟨v,σ9,H9,I9,rv,d,rfl,q⟩:=z
     exact unb σ9 H9 s9 _ (pB ok I9) fun s11 I11=>⟨v,_,H9,I11,rv,q⟩
    | brk=>obtain ⟨_,_,_,q⟩:=z;exact q.elim
    | cont=>obtain ⟨_,_,_,q⟩:=z;exact q.elim
theorem abk {C:Addr}{A1 B:Hp}{er:ag}{s':ar}{D:Ends}{o:Out}{hs:List ke}{m:MS} (hst:X.stack=X.env::X.outer) (hfm:X.env.frame=some X.env.locals) (hex:X.ex=[]) (hN:X.N.Nodup) (I:L2.Inv X pins σ H s)
 (h:CXE X.prog X.w X.stack H s (fun cv _ H'=>cv = .ref C∧∃A',aM A1 H A' H') er s') (r:aN X.K A1 B H O σ Γ) (k:ni X.K rm Ol O1 A1 B D o) (hh:Hnd X rm Ol O O1 C hs m) (em:m Γ = .ok o) :
 cn (cx X.prog X.w) X.A (noteFrame er X.env) (fun _ s₂=>cn (cx X.prog X.w) X.A (setFlight er none) (fun _ s₃=>cn (cx X.prog X.w) X.A (handleBy er X.env hs) (SP X pins D) X.xe s₃) X.xe s₂) X.xe s':=by
 obtain ⟨ea,t,C',Bh,H',rfl,os,bare,fly,inB,Y0,un,hC',A',gr⟩:=h
 cases hC'
 rw[hst] at fly
 have hfr:∀b∈frs X.stack,∃o,s'.heap.get? b=some o∧∀vs,o.data ≠ .fields vs:=fun b hb=>gA fly.2.2.1 (by rw[hst] at hb;exact hb)
 have inv:∀(h:Heap) (tk:Nat),rk Bh (X.env::X.outer) ea (.ref C) (.ref t) h→s'.heap.UpToSlots h→L2.Inv X pins σ H' { s' with heap:=h,toks:=tk }:=fun h5 tk yI up=>by
  have ZR:HOk X.prog X.w H' h5:=Y0.kept fun b u e=>yI.1 b u e
  refine I.call' (s':={ s' with heap:=h5,toks:=tk }) os ⟨fun b o e hn hb _=>yI.1 _ _ (inB b o e hb hn),fun b o e hn hb _=>?_,un.free,fun b o e hb=>?_,un.tups,un.jW,un.jo⟩ ZR bare fun b z=>absurd z (by simp)
  · obtain ⟨sl,q⟩:=un.slot b o e hn hb (by simp)
    obtain ⟨o',ho',hd⟩:=hfr b hb
    rw[q] at ho'
    cases ho'
    obtain ⟨sl',q'⟩:=up b _ q hd
    exact ⟨sl',q'⟩
  · by_cases hf:b∈frs X.stack
    · obtain ⟨o',ho',hd⟩:=hfr b hf
      obtain ⟨sl',q'⟩:=up b _ ho' hd
      exact ⟨_,q'⟩
    · cases hH:H b with
      | none=>exact ⟨o,yI.1 _ _ (inB b o e hf hH)⟩
      | some u=>exact Dj ZR (gr.hh b u hH)
 have hea:H' ea=none:=by
  cases q:H' ea with
  | none=>rfl
  | some u=>
   obtain ⟨o,z⟩:=Dj Y0 q
   rw[fly.2.1] at z;cases z
 have adR:H ea=none:=by
  cases q:H ea with
  | none=>rfl
  | some u=>rw[gr.hh ea u q] at hea;cases hea
 have exc:∀h,rk Bh (X.env::X.outer) ea (.ref C) (.ref t) h→∃ob,h.get? ea=some ob∧ob.cls = .ref C∧(∃vs,ob.data = .fields vs)∧∀b∈frs X.stack,ea≠b:=fun h5 yI=>by
  obtain ⟨f1,f2,f3,oe,vs,T,oT,ts,e1,e2,e3,_⟩:=yI
  refine ⟨oe,e1,e2.1,⟨vs,e3⟩,fun b hb z=>?_⟩
  subst z
  obtain ⟨o,ho,hd⟩:=gA f3 (by rw[hst] at hb;exact hb)
  rw[e1] at ho
  cases ho
  exact hd vs e3
 have nfr:∀b∈frs X.stack,ea≠b:=by
  obtain ⟨_,_,_,_,q⟩:=exc _ fly
  exact q
 have old:s.heap.get? ea=none:=by
  cases q:s.heap.get? ea with
  | none=>rfl
  | some o=>
   have:=inB ea o q (fun z=>nfr ea z rfl) adR
   rw[fly.2.1] at this;cases this
 have aeS:X.s₀.heap.get? ea=none:=by
  cases q:X.s₀.heap.get? ea with
  | none=>rfl
  | some o=>
   obtain ⟨o',z⟩:=I.base.there ea o q (by rw[hex];simp)
   rw[old] at z;cases z
 have hloc:ea≠X.env.locals:=nfr _ (by rw[hst];exact gp.mpr ⟨_,cf,hfm⟩)
 have hpin:∀p∈X.pn++pins,p.1≠ea:=fun p hp z=>by
  have:=(I.pin p hp).1
  rw[z,old] at this;cases this
 refine wpAny_looks_onW (by rw[I.ok.frames,hst]) hfm fly fun h4 aaB up4=>?_
 refine wpAny_landsW aaB fun h5 yI up5=>?_
 have r':=r.grow gr
 exact Bl (P:=fun h=>rk Bh (X.env::X.outer) ea (.ref C) (.ref t) h∧s'.heap.UpToSlots h) I.ok hN (fun h tk p=>inv h tk p.1 p.2)
  (fun h tk ob p e=>by
   obtain ⟨ob7,LC,ZW,⟨vs7,ada⟩,_⟩:=exc h p.1
   rw[e] at LC
   cases LC
   exact X8 (inv h tk p.1 p.2) e hea hloc (fun v z=>by rw[ada] at z;cases z) hpin aeS)
  (fun h p=>by obtain ⟨ob,e1,e2,_⟩:=exc h p.1;exact ⟨ob,e1,e2⟩)
  (fun h h' p kp=>⟨Nk p.1 kp,p.2.trans (Heap.UpToSlots.of_keeps kp)⟩)
  (fun h tk _ _ _ _ p q=>lands_againW p.1 fun h7 acA up7=>q h7 ⟨acA,p.2.trans up7⟩)
  hea r' (k.sub gr.aa (gr.nB r.b)) hh h5 s'.toks ⟨yI,up4.trans up5⟩ em
end
theorem Cu {X:Cx}{K:af}{O:List Fl}{E':XK}{x msg:Str}{j}{C:Addr}{cl:Str→Addr}{np p2 cpos pos:Pos} (hc:X.calm=true) (hg:Gl X x) (hm:X.mg x=some (.ref C)) (hC:vD X.K C) (hx:rW X C (fun H1=>E' (.ref C) none H1)) (hcl:cl x=C) (hd:(x == ("__debug__" : Str))=false:=by decide) :
 QS X (.Raise (some (.Call (.Name x np) [.Constant (.str msg) j p2] [] cpos)) none pos) (tZ K O (fun c H1=>E' (.ref (cl c)) none H1) (vd x)):=
 QH (XE:=fun c H1=>E' (.ref (cl c)) none H1) hc hg hm hC (by show rW X C (fun H1=>E' (.ref (cl x)) none H1);rw[hcl];exact hx) hd
noncomputable def xM (m1:MS) (z:MZ) (hs:Str→MS):MS:=fun Γ=>match m1 Γ with
 | .ok o=>.ok o
 | _=>(z Γ).bind fun c=>hs c Γ
inductive Bk (X:Cx) (rm:Rm) (Ol O O1:List Fl) (hs:List ke):List (Str×Addr)→List (Str×MS)→Prop
 | nil {la:List (Str×Addr)}:Bk X rm Ol O O1 hs la []
 | cons {c:Str}{C:Addr}{m:MS}{la:List (Str×Addr)}{lm:List (Str×MS)} (hc:clL la c=C) (h:Hnd X rm Ol O O1 C hs m) (t:Bk X rm Ol O O1 hs la lm):Bk X rm Ol O O1 hs la ((c,m)::lm)
section
variable {X:Cx}{rm:Rm}{Ol O O1:List Fl}{m1:MS}{z:MZ}{st:Stmt}{pos:Pos}
theorem Bk.at {hs:List ke}{la:List (Str×Addr)}{c:Str}:∀{lm:List (Str×MS)},Bk X rm Ol O O1 hs la lm→hsL lm c=lr∨Hnd X rm Ol O O1 (clL la c) hs (hsL lm c)
 | _,.nil=>.inl rfl
 | _,.cons (c:=c') (m:=m) (lm:=lm) hc h t=>by
  by_cases e:c=c'
  · subst e
    right
    show Hnd X rm Ol O O1 (clL la c) hs (if c=c then m else hsL lm c)
    rw[if_pos rfl,hc]
    exact h
  · show (if c=c' then m else hsL lm c)=lr∨Hnd X rm Ol O O1 (clL la c) hs (if c=c' then m else hsL lm c)
    rw[if_neg e]
    exact t.at
theorem Vg {h0:ke}{hs:List ke}{la:List (Str×Addr)}{lm:List (Str×MS)} (hnx:∀er s',¬ X.xe er s') (hst:X.stack=X.env::X.outer) (hfm:X.env.frame=some X.env.locals) (hex:X.ex=[]) (hN:X.N.Nodup)
 (hn:QS X st (tS X.K rm Ol O O1 m1)) (hz:XZ X O (clL la) st z) (hh:Bk X rm Ol O O1 (h0::hs) la lm):QS X (.Try [st] (h0::hs) [] [] pos) (tS X.K rm Ol O O1 (xM m1 z (hsL lm))):=by
 refine ⟨fun pins s σ H D I h=>?_⟩
 obtain ⟨A,B,Γ,o,r,em,k⟩:=h
 have em:(match m1 Γ with | .ok o=>.ok o | _=>(z Γ).bind fun c=>hsL lm c Γ)=Res.ok o:=em
 by_cases hq:∃o',m1 Γ = .ok o'
 · obtain ⟨o',hq⟩:=hq
   rw[hq] at em
   cases em
   refine wpAny_Try_except (gc (JK hn.h pins s σ H D I ⟨A,B,Γ,_,r,hq,k⟩) (fun fl s1 z=>?_) fun er s1 z=>absurd z (hnx er s1))
   cases fl with
   | next=>exact qa z
   | ret v=>exact z
   | brk=>exact z
   | cont=>exact z
 · have em:(z Γ).bind (fun c=>hsL lm c Γ) = .ok o:=by
    revert em
    split
    · rename_i o' e;exact absurd ⟨o',e⟩ hq
    · exact id
   obtain ⟨c,ez,em⟩:=Res.aA em
   rcases hh.at (c:=c) with hb | hb
   · rw[hb] at em;cases em
   · exact wpAny_Try_except (xy (gc (hz.h pins s σ H A B Γ c _ I r ez fun er s' s1 H1 A1 I1 g1 hx=>abk hst hfm hex hN I1 hx (r.grow g1) (k.sub g1.aa (g1.nB r.b)) hb em) (fun _ _ z=>z.elim) fun _ _ z=>z))
end
noncomputable def Ft (a b:ae):Res ae:=gd (a.canLay0=true∧b.canLay0=true∧min a.depth b.depth≤64) (.ok (.bool (!fA a b)))
theorem XN {X:Cx} (hu:X.A.units+64 < nV):OpR X (gE .NotEq) (rD X.K Ft):=by
 intro pins s σ H x y v u Q I rx ry hq
 obtain ⟨A,d1,d2,d,e,ha,p1,p2,k⟩:=hq
 obtain ⟨⟨h1,h2,h3⟩,e⟩:=b7 e
 cases e
 obtain ⟨as,r1⟩:=Is.reads I d1 (Pk.isL ha h1 p1) rx
 obtain ⟨bs,r2⟩:=Is.reads I d2 (Pk.isL ha h2 p2) ry
 exact SeqAt.compareNe_reads r1 r2 h1 h2 (by omega) ⟨.bl (!fA d1 d2),H,I,rfl,k _ A H (aM.refl ha) (Rp.bool.mpr rfl)⟩
end L3
namespace Gk
noncomputable def d7 (xs:List Int):Int:=xs.foldr (fun f n=>2*n+f) 0
theorem iQ (x:Int) (xs:List Int):d7 (x::xs)=2*d7 xs+x:=rfl
theorem q9:∀{xs:List Int},(∀x∈xs,0≤x)→0≤d7 xs
 | [],_=>iS 0
 | x::xs,h=>by
  have h1:=h x (by simp)
  have h2:=q9 fun y hy=>h y (bq _ hy)
  rw[iQ];omega
theorem N7 (xs:List Int) (y:Int):d7 (xs++[y])=d7 xs+2^xs.length*y:=by
 induction xs with
 | nil=>simp[d7]
 | cons x xs ih=>
  rw[kK,iQ,ih,iQ,cE,pb]
  have:(2:Int)^xs.length*2*y=2*(2^xs.length*y):=by rw[AK ((2:Int)^xs.length) 2,AC]
  rw[this];omega
theorem RQ (xs:List Int):xs.reverse.foldl (fun n f=>2*n+f) 0=d7 xs:=by
 rw[List.foldl_reverse];rfl
noncomputable def bf (b p:Int):Int:=b / 2^p.toNat % 2
theorem gf (b p:Int):bf b p=0∨bf b p=1:=by unfold bf;omega
theorem HB (b p:Int):0≤bf b p:=by unfold bf;omega
theorem WD (b p:Int):bf b p≤1:=by unfold bf;omega
noncomputable def lZ (k r:Nat):List Int:=(fh k).map fun j=>((r / 2^j % 2:Nat):Int)
theorem Du (k r:Nat):(lZ k r).length=k:=by simp[lZ]
theorem Ii (k r:Nat):lZ (k+1) r=lZ k r++[((r / 2^k % 2:Nat):Int)]:=by
 unfold lZ;rw[qh,dk];rfl
theorem Iw (k r:Nat):d7 (lZ k r)=((r % 2^k:Nat):Int):=by
 induction k with
 | zero=>simp[lZ,d7,Nat.mod_one]
 | succ k ih=>
  rw[Ii,N7,ih,Du,ub,Nat.mod_mul]
  have e:((2:Int)^k)=(((2^k:Nat)):Int):=by simp
  rw[e,← Int.natCast_mul];omega
theorem Af {k r:Nat} (h:r < 2^k):d7 (lZ k r)=(r:Int):=by
 rw[Iw,Nat.mod_eq_of_lt h]
noncomputable def iV (xs:List Int):Prop:=∀x∈xs,x=0∨x=1
theorem iV.nn {xs:List Int} (h:iV xs):∀x∈xs,0≤x:=fun x hx=>by rcases h x hx with z | z <;> omega
theorem iV.tail {x:Int}{xs:List Int} (h:iV (x::xs)):iV xs:=fun y hy=>h y (bq _ hy)
theorem iV.map {α:Type}{l:List α}{f:α→Int} (h:∀a∈l,f a=0∨f a=1):iV (l.map f):=fun x hx=>by
 obtain ⟨a,ha,rfl⟩:=dc.mp hx
 exact h a ha
theorem Bf:∀{xs:List Int},iV xs→d7 xs < 2^xs.length
 | [],_=>by decide
 | x::xs,h=>by
  have h1:=Bf h.tail
  have h2:=h x (by simp)
  rw[iQ,cE,pb]
  omega
theorem nM (b:Int):bf b 0=b % 2:=by unfold bf;simp
theorem nO (b:Int) (n:Nat):bf b ((n+1:Nat):Int)=bf (b / 2) (n:Nat):=by
 unfold bf
 rw[iq,iq,Nat.add_comm,Int.pow_add,Int.Ri ,← Int.ediv_ediv_of_nonneg (by decide)]
where
 Int.Ri:(2:Int)^1=2:=by decide
theorem G5:∀{xs:List Int}{r:Nat}{x:Int},iV xs→xs[r]?=some x→bf (d7 xs) (r:Nat)=x
 | [],r,x,_,h=>by simp at h
 | y::xs,0,x,h,e=>by
  have h2:=h y (by simp)
  have e':y=x:=by simpa using e
  rw[iQ]
  show bf (2*d7 xs+y) 0=x
  rw[nM]
  omega
 | y::xs,r+1,x,h,e=>by
  have h2:=h y (by simp)
  rw[iQ,nO]
  have e2:(2*d7 xs+y) / 2=d7 xs:=by omega
  rw[e2]
  exact G5 h.tail (by simpa using e)
noncomputable def tab (m:Nat) (f:Nat→Int):Int:=d7 ((fh m).map f)
theorem PN {m:Nat}{f:Nat→Int} (h:∀r,f r=0∨f r=1):iV ((fh m).map f):=iV.map fun a _=>h a
theorem yN {m:Nat}{f:Nat→Int} (h:∀r,f r=0∨f r=1):0≤tab m f:=q9 (PN h).nn
theorem Px {m:Nat}{f:Nat→Int} (h:∀r,f r=0∨f r=1):tab m f < 2^m:=by
 have:=Bf (PN (m:=m) h)
 rw[av,fE] at this
 exact this
theorem lE {m:Nat}{f g:Nat→Int} (e:∀r,r < m→f r=g r):tab m f=tab m g:=by
 unfold tab;congr 1;exact kX fun r hr=>e r (iX.mp hr)
noncomputable def jr (n j:Nat):Int:=tab (2^n) fun r=>bf (r:Nat) (j:Nat)
noncomputable def eF (b:Int) (ts:List Int) (n:Nat):Int:=tab (2^n) fun r=>bf b (d7 (ts.map fun t=>bf t (r:Nat)))
theorem Hg (n j:Nat):0≤jr n j:=yN fun _=>gf _ _
theorem Sd (n j:Nat):jr n j < 2^2^n:=Px fun _=>gf _ _
theorem Qy (r j:Nat):bf (r:Nat) (j:Nat)=((r / 2^j % 2:Nat):Int):=by
 unfold bf
 rw[iq]
 simp
end Gk
namespace Prog
open PySem L3
noncomputable def gO:List ae→Res ae:=fnR 3 (aO (aY 1 (eC (.int 1)))
 (aO (eG (jX (aj 0)) (gN 2) [2] (aY 1 (aq ym (eC (.int 2)) (aj 1))))
 (bQ (aj 1))))
noncomputable def jc:List ae→Res ae:=fnR 3 (aO (aY 1 (eC (.int 2)))
 (aO (eG (jX (aj 0)) (gN 2) [2] (aY 1 (aq ym (aj 1) (aj 1))))
 (bQ (aj 1))))
noncomputable def jt:List ae→Res ae:=fnR 1 (bQ (aq rG (bz jc [(aj 0)]) (eC (.int 1))))
noncomputable def uH:List ae→Res ae:=fnR 2 (bQ (aq t6 (aq Er (aj 0) (aj 1)) (eC (.int 1))))
noncomputable def j9:List ae→Res ae:=fnR 3 (aO (aY 1 (eC (.int 0)))
 (aO (eG (itV (aj 0)) (gN 2) [2] (aY 1 (aq gK (aq ym (eC (.int 2)) (aj 1)) (aj 2))))
 (bQ (aj 1))))
noncomputable def iZ:List ae→Res ae:=fnR 2 (bQ (bz j9 [(cP (jX (bz gO [(aj 0)])) (gN 0) (eC (.bool true)) (bz uH [(aj 0),(aj 1)]) 1 [1])]))
noncomputable def iH:List ae→Res ae:=fnR 1 (bQ (cP (jX (aj 0)) (gN 0) (eC (.bool true)) (bz iZ [(aj 1),(aj 0)]) 1 [0]))
noncomputable def nG:List ae→Res ae:=fnR 5 (aO (aY 3 (cP (jX (bz gO [(aq ixD (aj 0) (eC (.int 0)))])) (gN 0) (eC (.bool true)) (aq ym (aj 1) (bz uH [(aq ixD (aj 2) (eC (.int 1))),(aj 0)])) 1 [2,0]))
 (aO (eG (itL (aj 1)) (gN 4) [4] (aY 3 (cP (Q6 (eC (.int 0)) (eFn lg [(aj 3)]) (eC (.int 2))) (gN 0) (eC (.bool true)) (aq orD (aq t6 (aq ixD (aj 1) (aj 0)) (eUn Zj (aj 2))) (aq t6 (aq ixD (aj 1) (aq gK (aj 0) (eC (.int 1)))) (aj 2))) 1 [3,4])))
 (bQ (aq ixD (aj 3) (eC (.int 0))))))
noncomputable def qM:List ae→Res ae:=fnR 3 (bQ (bz nG [(aj 0),(aj 1),(bz jt [(aj 2)])]))
noncomputable def sO:List ae→Res ae:=fnR 4 (aO (aY 2 (eC (.int 1)))
 (aO (eG (jX (aj 1)) (gN 3) [3] (aY 2 (aq ym (aj 0) (aj 2))))
 (bQ (aj 2))))
noncomputable def iJ:List ae→Res ae:=fnR 2 (bQ (eFn GP [(cP (itL (aj 1)) (gN 0) (eC (.bool true)) (bz sO [(aj 1),(aq ixD (aj 0) (eC (.int 0)))]) 1 [0])]))
noncomputable def my:List ae→Res ae:=fnR 6 (aO (aY 1 (cL [(cL [])]))
 (aO (eG (itL (aj 0)) (gN 2) [2,3,4,5] (aO (aY 3 (cL []))
 (aO (eG (itL (aj 1)) (gN 4) [4,5] (eG (itL (aj 2)) (gN 5) [5] (oH 3 (aq gK (aj 4) (cL [(aj 5)])))))
 (aY 1 (aj 3)))))
 (bQ (aj 1))))
noncomputable def jb:List ae→Res ae:=fnR 5 (aO (aY 3 (cL []))
 (aO (eG (jX (aj 2)) (gN 4) [4] (vL 3 (bz my [(aq gK (aq gK (aq yq (cL [(aj 0)]) (aj 4)) (cL [(aj 1)])) (aq yq (cL [(aq gK (aj 0) (aj 1))]) (aq rG (aq rG (aj 2) (aj 4)) (eC (.int 1)))))])))
 (bQ (aj 3))))
noncomputable def cB:List ae→Res ae:=fnN 2 (sIf (eOr (aq gtD (aj 0) (eC (.int 128))) (aq gtD (bz iJ [(aj 0),(aj 1)]) (eC (.int 20000)))) lr cN)
noncomputable def iG:List ae→Res ae:=Qu 3 0 (sIf (eOr (aq ir (aj 1) (aj 0)) (aq ltD (aq ixD (aj 2) (eC (.int 0))) (aq ixD (aq ixY (aj 0) (aj 1)) (eC (.int 0))))) (jH 0 (aj 1) (aj 2)) cN)
noncomputable def iD:List ae→Res ae:=fnR 5 (aO (aY 2 (qw []))
 (aO (eG (itL (bz iH [(aj 1)])) (gN 3) [3] (vG 2 iG [(aj 2),(aj 3),(cY [(eC (.int 0)),(eC .none),(cY [])])]))
 (aO (eG (itL (aj 0)) (gN 4) [4] (sIf (aq eqD (aq ixD (aj 4) (eC (.int 0))) (eC (.int 0))) (vG 2 iG [(aj 2),(bz qM [(aj 4),(cL []),(aj 1)]),(cY [(eC (.int 1)),(aj 4),(cY [])])]) cN))
 (bQ (aj 2)))))
noncomputable def gW:List ae→Res ae:=fnR 9 (aO (aY 4 (cP (itK 0) (gN 0) (aq neD (aj 0) (aj 1)) (aj 0) 1 [1]))
 (aO (aY 5 (cL []))
 (aO (eG (itL (bz jb [(aj 4),(cL [(aj 1)]),(aq ixD (aj 2) (eC (.int 0)))])) (gN 6) [6,7,8] (aO (aY 7 (bz qM [(aj 2),(aj 6),(aj 3)]))
 (sIf (aq ir (aj 7) (aj 0)) (aO (aY 8 (aq gK (eC (.int 1)) (eFn GP [(cP (itL (aj 6)) (gN 0) (eC (.bool true)) (aq ixD (aq ixY (aj 1) (aj 0)) (eC (.int 0))) 1 [0])])))
 (oH 5 (cY [(aj 7),(cY [(aj 8),(aj 2),(eFn uY [(aj 6)])])]))) cN)))
 (bQ (aj 5)))))
noncomputable def cZ:List ae→Res ae:=fnR 8 (aO (aY 2 (qw []))
 (aO (aY 3 (bz iD [(aj 0),(aj 1)]))
 (aO (kI 1000000 (aq gtD (eFn uy [(aj 3)]) (eC (.int 0))) [4,5,6,7] (aO (aY 4 (zN 3))
 (aO (sI 2 3 4)
 (aO (sEx (bz cB [(eFn uy [(aj 2)]),(aj 0)]))
 (eG (itL (aj 0)) (gN 5) [5,6,7] (eG (itL (bz gW [(aj 2),(aj 4),(aj 5),(aj 1)])) (gT [(gN 6),(gN 7)]) [6,7] (vG 3 iG [(aj 3),(aj 6),(aj 7)])))))))
 (bQ (aj 2)))))
noncomputable def iT:List ae→Res ae:=fnR 5 (aO (aY 2 (qw []))
 (aO (eG (itI 0) (gT [(gN 3),(gN 4)]) [3,4] (sIf (aq vz (aq ixD (aj 4) (eC (.int 1))) (eC .none)) (jH 2 (aj 3) (eFn uy [(aj 2)])) (jH 2 (aj 3) (cY [(aq ixD (aj 4) (eC (.int 1))),(eFn uY [(cP (itL (aq ixD (aj 4) (eC (.int 2)))) (gN 0) (eC (.bool true)) (aq ixY (aj 1) (aj 0)) 1 [2])])]))))
 (bQ (aq ixY (aj 2) (aj 1)))))
noncomputable def rR:List ae→Res ae:=fnR 3 (aO (aY 2 (bz cZ [(aj 0),(aj 1)]))
 (bQ (cP (itL (eFn Ae [(aj 2)])) (gN 0) (eC (.bool true)) (cY [(aj 0),(aq ixD (aq ixY (aj 1) (aj 0)) (eC (.int 0)))]) 1 [2])))
noncomputable def cT:List ae→Res ae:=fnR 3 (aO (aY 2 (bz cZ [(aj 0),(aq ixD (aj 1) (eC (.int 0)))]))
 (aO (sIf (aq ir (aq ixD (aj 1) (eC (.int 1))) (aj 2)) lr cN)
 (aO (sIf (aq gtD (aq ixD (aq ixY (aj 2) (aq ixD (aj 1) (eC (.int 1)))) (eC (.int 0))) (eC (.int 300))) lr cN)
 (bQ (bz iT [(aj 2),(aq ixD (aj 1) (eC (.int 1)))])))))
end Prog
theorem L2.sizeLine_eq:bg=16777216:=by decide
namespace L3
open PySem L2
theorem Wb {o:Option ae}{Γ:Ev}:gv (o::Γ) 0=o:=rfl
theorem U8 {o:Option ae}{Γ:Ev}{i:Nat}:gv (o::Γ) (i+1)=gv Γ i:=rfl
theorem M7 {d:ae}{Γ:Ev}:aj 0 (some d::Γ) = .ok d:=rfl
theorem Np {o:Option ae}{Γ:Ev}{i:Nat}:aj (i+1) (o::Γ)=aj i Γ:=rfl
theorem Mx {d:ae}{Γ:Ev}:eC d Γ = .ok d:=rfl
theorem Gw {f:ae→ae→Res ae}{a b:ME}{Γ:Ev}:aq f a b Γ=(a Γ).bind fun x=>(b Γ).bind fun y=>f x y:=rfl
theorem Vo {f:ae→Res ae}{a:ME}{Γ:Ev}:eUn f a Γ=(a Γ).bind f:=rfl
theorem VH {f:List ae→Res ae}{ms:List ME}{Γ:Ev}:eFn f ms Γ=(evs ms Γ).bind f:=rfl
theorem nQ {f:List ae→Res ae}{ms:List ME}{Γ:Ev}:bz f ms Γ=(evs ms Γ).bind f:=rfl
theorem Wc {Γ:Ev}:evs [] Γ = .ok []:=rfl
theorem RG {m:ME}{ms:List ME}{Γ:Ev}:evs (m::ms) Γ=(m Γ).bind fun d=>(evs ms Γ).bind fun ds=>.ok (d::ds):=rfl
theorem SX {ms:List ME}{Γ:Ev}:cY ms Γ=(evs ms Γ).bind fun ds=>.ok (.tuple ds):=rfl
theorem QC {ms:List ME}{Γ:Ev}:cL ms Γ=(evs ms Γ).bind fun ds=>.ok (.list ds):=rfl
theorem Rc {T:String}{a:ME}{Γ:Ev}:rA T a Γ=(a Γ).bind fun d=>.ok (.bool (pX T d)):=rfl
noncomputable def bT (x:ae) (a b:Res ae):Res ae:=match x with
 | .bool true=>a
 | .bool false=>b
 | _=>.bad
noncomputable def bS (x:ae) (a b:Res Out):Res Out:=match x with
 | .bool true=>a
 | .bool false=>b
 | _=>.bad
theorem Jj {a b:Res ae}:bT (.bool true) a b=a:=rfl
theorem Rk {a b:Res ae}:bT (.bool false) a b=b:=rfl
theorem Vr {a b:Res Out}:bS (.bool true) a b=a:=rfl
theorem Ti {a b:Res Out}:bS (.bool false) a b=b:=rfl
theorem Ez {c:Bool}{a b:Res Out}:bS (.bool c) a b=if c=true then a else b:=by cases c <;> rfl
theorem G9 {a b:ME}{Γ:Ev}:q8 a b Γ=(a Γ).bind fun x=>bT x (b Γ) (.ok (.bool false)):=by
 unfold q8 bT;rfl
theorem Uy {a b:ME}{Γ:Ev}:eOr a b Γ=(a Γ).bind fun x=>bT x (.ok (.bool true)) (b Γ):=by
 unfold eOr;congr 1;funext x;cases x <;> first | rfl | (rename_i b;cases b <;> rfl)
noncomputable def aaq:ae→Res ae
 | .bool t=>.ok (.bool (!t))
 | _=>.bad
theorem S6 {t:Bool}:aaq (.bool t) = .ok (.bool (!t)):=rfl
theorem QB {a:ME}{Γ:Ev}:lW a Γ=(a Γ).bind aaq:=rfl
theorem WQ {a:ME}{lo hi:MO}{Γ:Ev}:eSl a lo hi Γ=(a Γ).bind fun d=>(lo Γ).bind fun l=>(hi Γ).bind fun h=>slD d l h:=rfl
theorem Ni {Γ:Ev}:oJ Γ = .ok none:=rfl
noncomputable def X7:ae→Res (Option Int)
 | .int i=>.ok (some i)
 | _=>.bad
theorem Rz {i:Int}:X7 (.int i) = .ok (some i):=rfl
theorem PB {m:ME}{Γ:Ev}:oX m Γ=(m Γ).bind X7:=rfl
noncomputable def K5 (b:MS):Out→Res Out
 | .nx Γ'=>b Γ'
 | .rt d=>.ok (.rt d)
 | .bk Γ'=>.ok (.bk Γ')
 | .ct Γ'=>.ok (.ct Γ')
theorem jM {b:MS}{Γ:Ev}:K5 b (.nx Γ)=b Γ:=rfl
theorem Vf {b:MS}{d:ae}:K5 b (.rt d) = .ok (.rt d):=rfl
theorem cW {a b:MS}{Γ:Ev}:aO a b Γ=(a Γ).bind (K5 b):=by
 unfold aO K5;rfl
theorem VD {α:Type}{r:Res α}:gd True r=r:=rfl
theorem uv {i:Nat}{m:ME}{Γ:Ev}:aY i m Γ=(m Γ).bind fun d=>gd (i < Γ.length) (.ok (.nx (Γ.set i (some d)))):=rfl
theorem xr {c:ME}{a b:MS}{Γ:Ev}:sIf c a b Γ=(c Γ).bind fun x=>bS x (a Γ) (b Γ):=by
 unfold sIf bS;rfl
theorem G7 {m:ME}{Γ:Ev}:bQ m Γ=(m Γ).bind fun d=>.ok (.rt d):=rfl
theorem Ry {Γ:Ev}:cN Γ = .ok (.nx Γ):=rfl
theorem Tj {g:MG}{m:ME}{Γ:Ev}:Qq g m Γ=(m Γ).bind fun d=>(g d Γ).bind fun Γ'=>.ok (.nx Γ'):=rfl
theorem Tn {it:MI}{g:MG}{cl:List Nat}{b:MS}{Γ:Ev}:eG it g cl b Γ=(it Γ).bind fun xs=>forR g cl b xs Γ:=rfl
noncomputable def fin:Out→Res ae
 | .rt d=>.ok d
 | _=>.bad
theorem Zk {d:ae}:fin (.rt d) = .ok d:=rfl
theorem Jf {n:Nat}{m:MS}{ds:List ae}:fnR n m ds=(m (ds.map some++cK (n - ds.length) none)).bind fin:=by
 unfold fnR;rfl
noncomputable def Xb:Out→Res ae
 | .rt d=>.ok d
 | .nx _=>.ok .none
 | _=>.bad
theorem Vn {Γ:Ev}:Xb (.nx Γ) = .ok .none:=rfl
theorem W4 {n:Nat}{m:MS}{ds:List ae}:fnN n m ds=(m (ds.map some++cK (n - ds.length) none)).bind Xb:=by
 unfold fnN;rfl
noncomputable def Qf (Γ:Ev) (i:Nat) (d:ae):Option ae→Res Out
 | some (.list ds)=>gd (ds.length < bg∧i < Γ.length) (.ok (.nx (Γ.set i (some (.list (ds++[d]))))))
 | _=>.bad
theorem Te {Γ:Ev}{i:Nat}{d:ae}{ds:List ae}:Qf Γ i d (some (.list ds))=gd (ds.length < bg∧i < Γ.length) (.ok (.nx (Γ.set i (some (.list (ds++[d])))))):=rfl
theorem Q8 {i:Nat}{m:ME}{Γ:Ev}:oH i m Γ=(m Γ).bind fun d=>Qf Γ i d (gv Γ i):=by
 unfold oH Qf;rfl
theorem yO {i:Nat}{d:ae}{Γ:Ev}:gN i d Γ=gd (i < Γ.length) (.ok (Γ.set i (some d))):=rfl
theorem Y6 {gs:List MG}{ds:List ae}{Γ:Ev}:gT gs (.tuple ds) Γ=gTs gs ds Γ:=rfl
theorem Wd {Γ:Ev}:gTs [] [] Γ = .ok Γ:=rfl
theorem QZ {g:MG}{gs:List MG}{d:ae}{ds:List ae}{Γ:Ev}:gTs (g::gs) (d::ds) Γ=(g d Γ).bind fun Γ'=>gTs gs ds Γ':=rfl
noncomputable def GQ:ae→Res (List ae)
 | .list ds=>.ok ds
 | .tuple ds=>.ok ds
 | _=>.bad
theorem Mj {ds:List ae}:GQ (.list ds) = .ok ds:=rfl
theorem Uu {m:ME}{Γ:Ev}:itL m Γ=(m Γ).bind GQ:=by
 unfold itL GQ;rfl
noncomputable def upN (n:Nat):List ae:=(fh n).map fun i=>ae.int (i:Nat)
noncomputable def Lx:ae→Res (List ae)
 | .int j=>gd (-(2^62)≤j∧j < 2^62) (.ok (upN j.toNat))
 | _=>.bad
theorem Rv {j:Int}:Lx (.int j)=gd (-(2^62)≤j∧j < 2^62) (.ok (upN j.toNat)):=rfl
theorem gY {n:Nat} (h:n < 2^62):Lx (.int (n:Nat)) = .ok (upN n):=by
 rw[Rv,bM (by omega),iq]
theorem Rf {m:ME}{Γ:Ev}:jX m Γ=(m Γ).bind Lx:=by
 unfold jX;congr 1;funext d
 cases d with
 | int j=>show gd _ _=gd _ _;congr 2;unfold upN;simp only[Int.zero_add]
 | _=>rfl
noncomputable def Qz:ae→Res (List ae)
 | .list ds=>.ok ds.reverse
 | _=>.bad
theorem Th {ds:List ae}:Qz (.list ds) = .ok ds.reverse:=rfl
theorem UL {m:ME}{Γ:Ev}:itV m Γ=(m Γ).bind Qz:=by
 unfold itV Qz;rfl
theorem Vz {Γ:Ev}:clr [] Γ=Γ:=rfl
theorem RB {i:Nat}{l:List Nat}{Γ:Ev}:clr (i::l) Γ=clr l (Γ.set i none):=rfl
theorem RZ {a b:Int}:gK (.int a) (.int b) = .ok (.int (a+b)):=rfl
theorem RD {a b:Int}:rG (.int a) (.int b) = .ok (.int (a - b)):=rfl
theorem Rw {a b:Int}:ym (.int a) (.int b)=gd (uE a b) (.ok (.int (a*b))):=rfl
theorem M4 {a b:Int}:qG (.int a) (.int b)=gd (Ao a b) (.ok (.int (a / b))):=rfl
theorem Ss {a b:Int}:j0 (.int a) (.int b)=gd (0 < b) (.ok (.int (a % b))):=rfl
theorem RT {a b:Int}:Er (.int a) (.int b)=gd (0≤b) (.ok (.int (a / 2^b.toNat))):=rfl
theorem R6 {a b:Int}:t6 (.int a) (.int b) = .ok (.int (gu a b)):=rfl
theorem UG {a b:Int}:orD (.int a) (.int b) = .ok (.int (i0 a b)):=rfl
theorem Ut {a b:Int}:ltD (.int a) (.int b) = .ok (.bool (decide (a < b))):=rfl
theorem Wu {a b:Int}:leD (.int a) (.int b) = .ok (.bool (decide (a≤b))):=rfl
theorem Wg {a b:Int}:gtD (.int a) (.int b) = .ok (.bool (decide (b < a))):=rfl
theorem oN {a:Int}:eD (.int a)=true:=by unfold eD;rw[eW,ae.depth];rfl
theorem VL {a b:Int}:eqD (.int a) (.int b) = .ok (.bool (decide (a=b))):=by
 unfold eqD;rw[bM ⟨oN,oN⟩,fA];congr 2
theorem Vm {a b:Int}:neD (.int a) (.int b) = .ok (.bool (!decide (a=b))):=by
 unfold neD;rw[bM ⟨oN,oN⟩,fA];congr 2
mutual
noncomputable def plain:ae→Bool
 | .int _=>true
 | .none=>true
 | .list ds=>gJ ds
 | .tuple ds=>gJ ds
 | .bool _=>false
 | .str _=>false
 | .dict _=>false
noncomputable def gJ:List ae→Bool
 | []=>true
 | d::ds=>plain d&&gJ ds
end
mutual
theorem Cw:∀(d:ae),plain d=true→d.canLay0=true
 | .int _,_=>by rw[eW]
 | .none,_=>by rw[eW]
 | .list ds,h=>by rw[eW];exact tK ds (by rw[plain] at h;exact h)
 | .tuple ds,h=>by rw[eW];exact tK ds (by rw[plain] at h;exact h)
 | .bool _,h=>by rw[plain] at h;cases h
 | .str _,h=>by rw[plain] at h;cases h
 | .dict _,h=>by rw[plain] at h;cases h
theorem tK:∀(ds:List ae),gJ ds=true→dA ds=true
 | [],_=>by rw[dA]
 | d::ds,h=>by
  rw[gJ,dS] at h
  rw[dA,Cw d h.1,tK ds h.2];rfl
end
mutual
theorem vC:∀(d e:ae),plain d=true→plain e=true→(fA d e=true↔d=e)
 | .int a,.int b,_,_=>by rw[fA];simp
 | .none,.none,_,_=>by rw[fA];simp
 | .list ds,.list es,h,g=>by
  rw[plain] at h g
  rw[fA,sZ ds es h g]
  exact ⟨fun z=>by rw[z],fun z=>by cases z;rfl⟩
 | .tuple ds,.tuple es,h,g=>by
  rw[plain] at h g
  rw[fA,sZ ds es h g]
  exact ⟨fun z=>by rw[z],fun z=>by cases z;rfl⟩
 | .int _,.none,_,_ | .int _,.list _,_,_ | .int _,.tuple _,_,_ | .none,.int _,_,_ | .none,.list _,_,_ | .none,.tuple _,_,_
 | .list _,.int _,_,_ | .list _,.none,_,_ | .list _,.tuple _,_,_ | .tuple _,.int _,_,_ | .tuple _,.none,_,_ | .tuple _,.list _,_,_=>by
  rw[fA];exact ⟨(fun z=>nomatch z),(fun z=>nomatch z)⟩
 | .bool _,_,h,_=>by rw[plain] at h;cases h
 | .str _,_,h,_=>by rw[plain] at h;cases h
 | .dict _,_,h,_=>by rw[plain] at h;cases h
 | _,.bool _,_,h=>by rw[plain] at h;cases h
 | _,.str _,_,h=>by rw[plain] at h;cases h
 | _,.dict _,_,h=>by rw[plain] at h;cases h
theorem sZ:∀(ds es:List ae),gJ ds=true→gJ es=true→(n9 ds es=true↔ds=es)
 | [],[],_,_=>by rw[n9];simp
 | [],_::_,_,_=>by rw[n9];simp
 | _::_,[],_,_=>by rw[n9];simp
 | d::ds,e::es,h,g=>by
  rw[gJ,dS] at h g
  rw[n9,dS,vC d e h.1 g.1,sZ ds es h.2 g.2]
  simp
end
theorem nH {d:ae} (h:plain d=true) (hd:d.depth≤64):eD d=true:=by
 unfold eD;rw[Cw d h,decide_eq_true hd];rfl
theorem M6 {a b:ae} (ha:plain a=true) (hb:plain b=true) (da:a.depth≤64) (db:b.depth≤64):(eqD a b = .ok (.bool true)↔a=b)∧(eqD a b = .ok (.bool false)↔a≠b)∧(neD a b = .ok (.bool true)↔a≠b)∧(neD a b = .ok (.bool false)↔a=b):=by
 unfold eqD neD
 rw[bM ⟨nH ha da,nH hb db⟩,bM ⟨nH ha da,nH hb db⟩]
 have h:=vC a b ha hb
 cases q:fA a b with
 | true=>have e:=h.mp q;simp[e]
 | false=>
  have e:a≠b:=fun z=>by rw[h.mpr z] at q;cases q
  simp[e]
theorem uK {a:ae} (ha:plain a=true) (da:a.depth≤64):neD a a = .ok (.bool false):=(M6 ha ha da da).2.2.2.mpr rfl
theorem xX:∀ns:List Int,gJ (ns.map ae.int)=true
 | []=>by rw[oS,gJ]
 | n::ns=>by rw[dy,gJ,plain,xX ns];rfl
theorem yd (ns:List Int):plain (.tuple (ns.map ae.int))=true:=by rw[plain];exact xX ns
theorem yx (ns:List Int):(ae.tuple (ns.map ae.int)).depth≤64:=by rw[ae.depth,yV];decide
noncomputable def jA (cl:List Nat):Out→Res Out
 | .nx Γ=>.ok (.nx (clr cl Γ))
 | .ct Γ=>.ok (.nx (clr cl Γ))
 | .bk Γ=>.ok (.bk (clr cl Γ))
 | .rt d=>.ok (.rt d)
theorem Ve {cl:List Nat}{Γ:Ev}:jA cl (.nx Γ) = .ok (.nx (clr cl Γ)):=rfl
noncomputable def Goes (r:Res Out) (P:Ev→Prop):Prop:=∃Γ,r = .ok (.nx Γ)∧P Γ
theorem Vc {Γ:Ev}{P:Ev→Prop}:Goes (.ok (.nx Γ)) P↔P Γ:=⟨fun ao=>by obtain ⟨Γ',e,h⟩:=ao;cases e;exact h,fun h=>⟨Γ,rfl,h⟩⟩
theorem Vx {g:MG}{cl:List Nat}{b:MS}{x:ae}{xs:List ae}{Γ Γ':Ev} (h:((g x Γ).bind b).bind (jA cl) = .ok (.nx Γ')):forR g cl b (x::xs) Γ=forR g cl b xs Γ':=by
 obtain ⟨o,h1,h2⟩:=Res.aA h
 obtain ⟨Γ1,h3,h4⟩:=Res.aA h1
 rw[forR,h3,Res.aV,h4,Res.aV]
 cases o <;> cases h2 <;> rfl
theorem FW {g:MG}{cl:List Nat}{b:MS} (I:Nat→Ev→Prop):∀{xs:List ae}{Γ:Ev},I 0 Γ →
 (∀i x Γ,xs[i]?=some x→I i Γ→Goes (((g x Γ).bind b).bind (jA cl)) (I (i+1)))→∃Γ',forR g cl b xs Γ = .ok (.nx Γ')∧I xs.length Γ':=by
 intro xs
 induction xs generalizing I with
 | nil=>intro Γ h0 _;exact ⟨Γ,rfl,h0⟩
 | cons x xs ih=>
  intro Γ h0 hs
  obtain ⟨Γ2,e,h2⟩:=hs 0 x Γ rfl h0
  obtain ⟨Γ',e3,h3⟩:=ih (fun i=>I (i+1)) h2 fun i y Γ hy h=>hs (i+1) y Γ (by simpa using hy) h
  refine ⟨Γ',?_,h3⟩
  rw[Vx e]
  exact e3
theorem Jr {g:MG}{cl:List Nat}{b:MS}{xs:List ae}{Γ:Ev} (S:Nat→Ev) (h0:Γ=S 0)
 (h:∀i x,xs[i]?=some x→((g x (S i)).bind b).bind (jA cl) = .ok (.nx (S (i+1)))):forR g cl b xs Γ = .ok (.nx (S xs.length)):=by
 obtain ⟨Γ',e,h'⟩:=FW (g:=g) (cl:=cl) (b:=b) (fun i Γ=>Γ=S i) (xs:=xs) (Γ:=Γ) h0 fun i x Γ hx hI=>by
  subst hI
  exact ⟨_,h i x hx,rfl⟩
 rw[e,h']
theorem cj {α:Type}{g:MG}{cl:List Nat}{b:MS}{xs:List ae}{Γ:Ev}{f:Out→Res α}{r:Res α} (S:Nat→Ev) (h0:Γ=S 0)
 (h:∀i x,xs[i]?=some x→((g x (S i)).bind b).bind (jA cl) = .ok (.nx (S (i+1)))) (k:f (.nx (S xs.length))=r):(forR g cl b xs Γ).bind f=r:=by
 rw[Jr S h0 h];exact k
theorem Res.bind_assoc {α β γ:Type}{r:Res α}{f:α→Res β}{g:β→Res γ}:(r.bind f).bind g=r.bind fun a=>(f a).bind g:=by cases r <;> rfl
theorem Cv {g:MG}{e:ME}{Γ:Ev} (F:ae→ae):∀{xs:List ae},(∀x∈xs,(g x Γ).bind e = .ok (F x))→oM g (eC (.bool true)) e Γ xs = .ok (xs.map F)
 | [],_=>rfl
 | x::xs,h=>by
  obtain ⟨Γ1,e1,e2⟩:=Res.aA (h x cf)
  rw[oM,e1,Res.aV,Mx,Res.aV]
  show (e Γ1).bind _=_
  rw[e2,Res.aV,Cv F fun y hy=>h y (bq _ hy)]
  rfl
theorem Cy {it:MI}{g:MG}{e:ME}{nt:Nat}{ix:List Nat}{Γ:Ev}{xs:List ae} (F:ae→ae) (hi:it Γ = .ok xs) (hz:xs.length < bg) (h:∀x∈xs,(g x (fK nt ix Γ)).bind e = .ok (F x)) :
 cP it g (eC (.bool true)) e nt ix Γ = .ok (.list (xs.map F)):=by
 unfold cP
 rw[hi,Res.aV,bM hz,Cv F h]
 rfl
theorem qO {it:MI}{g:MG}{e:ME}{nt:Nat}{ix:List Nat}{Γ:Ev}{n:Nat} (F:Nat→ae) (hi:it Γ = .ok (upN n)) (hz:n < bg) (h:∀i,i < n→(g (.int (i:Nat)) (fK nt ix Γ)).bind e = .ok (F i)) :
 cP it g (eC (.bool true)) e nt ix Γ = .ok (.list ((fh n).map F)):=by
 have e1:(upN n).map (fun d=>match d with | .int i=>F i.toNat | _=>.none)=(fh n).map F:=by
  unfold upN
  rw[hZ]
  refine kX fun i _=>?_
  show F ((i:Nat):Int).toNat=F i
  rw[iq]
 rw[← e1]
 refine Cy _ hi (by unfold upN;rw[av,fE];exact hz) fun x hx=>?_
 obtain ⟨i,hi,rfl⟩:=dc.mp hx
 show _=Res.ok (F ((i:Nat):Int).toNat)
 rw[iq]
 exact h i (iX.mp hi)
theorem zr {it:MI}{g:MG}{e:ME}{nt:Nat}{ix:List Nat}{Γ:Ev}{ns:List Int} (F:Int→ae) (hi:it Γ = .ok (ns.map ae.int)) (hz:ns.length < bg) (h:∀x∈ns,(g (.int x) (fK nt ix Γ)).bind e = .ok (F x)) :
 cP it g (eC (.bool true)) e nt ix Γ = .ok (.list (ns.map F)):=by
 have e1:(ns.map ae.int).map (fun d=>match d with | .int i=>F i | _=>.none)=ns.map F:=by
  rw[hZ];rfl
 rw[← e1]
 refine Cy _ hi (by rw[av];exact hz) fun x hx=>?_
 obtain ⟨i,hi,rfl⟩:=dc.mp hx
 exact h i hi
theorem mU {n i:Nat}{x:ae} (h:(upN n)[i]?=some x):i < n∧x = .int (i:Nat):=by
 unfold upN at h
 rw[cp] at h
 rcases kq i n with hi | hi
 · rw[ku hi] at h;exact ⟨hi,(Option.some.inj h).symm⟩
 · rw[eT (by rw[fE];exact hi)] at h;cases h
theorem jQ (n:Nat):(upN n).length=n:=by unfold upN;rw[av,fE]
theorem ints_get {ns:List Int}{i:Nat}{x:ae} (h:(ns.map ae.int)[i]?=some x):∃v,x = .int v∧ns[i]?=some v:=by
 rw[cp] at h
 cases e:ns[i]? with
 | none=>rw[e] at h;cases h
 | some v=>rw[e] at h;exact ⟨v,(Option.some.inj h).symm,rfl⟩
theorem LK {nt:Nat}{ix:List Nat}{Γ:Ev}:fK nt ix Γ=cK nt none++ix.map (gv Γ):=rfl
theorem d9 {ds:List ae}{i:Nat}{d:ae} (h:ds[i]?=some d):ixD (.list ds) (.int (i:Nat)) = .ok d:=by
 show (match L2.atI ds (i:Nat) with | some d=>Res.ok d | none=>.bad)=_
 rw[L2.Jw h]
theorem Dg {ds:List ae}{i:Nat}{d:ae} (h:ds[i]?=some d):ixD (.tuple ds) (.int (i:Nat)) = .ok d:=by
 show (match L2.atI ds (i:Nat) with | some d=>Res.ok d | none=>.bad)=_
 rw[L2.Jw h]
theorem CZ {ds:List ae}:lg [.list ds] = .ok (.int ds.length):=rfl
theorem J9 {ds:List ae}:lg [.tuple ds] = .ok (.int ds.length):=rfl
theorem La {ds:List ae}:Ld [.list ds] = .ok (.list ds):=rfl
theorem Ir {ds:List ae}:uY [.list ds] = .ok (.tuple ds):=rfl
theorem Mr {b:Bool}:wA (.bool b) = .ok (.bool b):=rfl
theorem IV {i:Int}:pX "int" (.int i)=true:=rfl
theorem DX {ds:List ae}:pX "int" (.tuple ds)=false:=rfl
theorem En {i:Int}:pX "bool" (.int i)=false:=rfl
theorem BP {ds:List ae}:pX "bool" (.tuple ds)=false:=rfl
theorem Ds {i:Int}:pX "tuple" (.int i)=false:=rfl
theorem zB {ds:List ae}:pX "tuple" (.tuple ds)=true:=rfl
theorem Ko {f g:ae→ae→Res ae}{a b c:ME}{Γ:Ev}:qz f g a b c Γ=(a Γ).bind fun x=>(b Γ).bind fun y=>(f x y).bind fun t=>bT t ((c Γ).bind fun z=>g y z) (.ok (.bool false)):=by
 unfold qz bT;rfl
theorem We (xs:List ae) (j:Nat):cutD xs none (some ((j:Nat):Int))=xs.take j:=by
 unfold cutD
 rw[HT.Fw,HT.Jv,vj,Nat.sub_zero]
 rcases Nat.le_total j xs.length with h | h
 · rw[tz h]
 · rw[x6 h,g6 (aE _),g6 h]
theorem Vs (xs:List ae) (j:Nat):cutD xs (some ((j:Nat):Int)) none=xs.drop j:=by
 unfold cutD
 rw[HT.Fw,HT.Jv]
 rcases Nat.le_total j xs.length with h | h
 · rw[tz h,g6 (by rw[oQ];exact aE _)]
 · rw[x6 h,nN (aE _),nN h,List.take_nil]
theorem Ms {ds:List ae}{j:Nat}:slD (.list ds) none (some ((j:Nat):Int)) = .ok (.list (ds.take j)):=by
 show Res.ok (ae.list (cutD ds none (some ((j:Nat):Int))))=_
 rw[We]
theorem Zh {ds:List ae}{j:Nat}:slD (.list ds) (some ((j:Nat):Int)) none = .ok (.list (ds.drop j)):=by
 show Res.ok (ae.list (cutD ds (some ((j:Nat):Int)) none))=_
 rw[Vs]
theorem Cp {a b:List ae} (h:a.length+b.length≤bg):gK (.list a) (.list b) = .ok (.list (a++b)):=bM h
theorem Dc {a b:List ae} (h:a.length+b.length≤bg):Bm (.list a) (.list b) = .ok (.list (a++b)):=bM h
theorem Cd {α:Type}{g:MG}{c e:ME}{Γ:Ev} (enc:α→ae) (p:α→Bool) (F:α→ae):∀{xs:List α},(∀a∈xs,(g (enc a) Γ).bind c = .ok (.bool (p a)))→(∀a∈xs,p a=true→(g (enc a) Γ).bind e = .ok (F a))→oM g c e Γ (xs.map enc) = .ok ((xs.filter p).map F)
 | [],_,_=>rfl
 | x::xs,h,h'=>by
  obtain ⟨Γ1,e1,e2⟩:=Res.aA (h x cf)
  rw[dy,oM,e1,Res.aV,e2,Res.aV]
  have ih:=Cd enc p F (fun y hy=>h y (bq _ hy)) (fun y hy=>h' y (bq _ hy))
  cases hp:p x with
  | true=>
   have e3:=h' x cf hp
   rw[e1,Res.aV] at e3
   show (e Γ1).bind _=_
   rw[e3,Res.aV,ih,ja hp]
   rfl
  | false=>
   show oM g c e Γ (xs.map enc)=_
   rw[ih,iA (by rw[hp];exact i6)]
theorem zg {α:Type}{it:MI}{g:MG}{c e:ME}{nt:Nat}{ix:List Nat}{Γ:Ev}{xs:List α} (enc:α→ae) (p:α→Bool) (F:α→ae) (hi:it Γ = .ok (xs.map enc)) (hz:xs.length < bg)
 (h:∀a∈xs,(g (enc a) (fK nt ix Γ)).bind c = .ok (.bool (p a))) (h':∀a∈xs,p a=true→(g (enc a) (fK nt ix Γ)).bind e = .ok (F a)):cP it g c e nt ix Γ = .ok (.list ((xs.filter p).map F)):=by
 unfold cP
 rw[hi,Res.aV,bM (by rw[av];exact hz),Cd enc p F h h']
 rfl
theorem qJ {α:Type}{it:MI}{g:MG}{e:ME}{nt:Nat}{ix:List Nat}{Γ:Ev}{xs:List α} (enc:α→ae) (F:α→ae) (hi:it Γ = .ok (xs.map enc)) (hz:xs.length < bg)
 (h:∀a∈xs,(g (enc a) (fK nt ix Γ)).bind e = .ok (F a)):cP it g (eC (.bool true)) e nt ix Γ = .ok (.list (xs.map F)):=by
 rw[zg enc (fun _=>true) F hi hz (fun a ha=>?_) fun a ha _=>h a ha,List.filter_eq_self.mpr fun _ _=>rfl]
 obtain ⟨Γ1,e1,e2⟩:=Res.aA (h a ha)
 rw[e1];rfl
theorem jj {α:Type}{enc:α→ae}{xs:List α}{i:Nat}{x:ae} (h:(xs.map enc)[i]?=some x):∃a,xs[i]?=some a∧x=enc a:=by
 rw[cp] at h
 cases e:xs[i]? with
 | none=>rw[e] at h;cases h
 | some v=>rw[e] at h;exact ⟨v,rfl,(Option.some.inj h).symm⟩
noncomputable def Gives {α:Type} (r:Res α) (P:α→Prop):Prop:=∃a,r = .ok a∧P a
theorem Ro {α:Type}{a:α}{P:α→Prop}:Gives (.ok a) P↔P a:=⟨fun ao=>by obtain ⟨b,e,h⟩:=ao;cases e;exact h,fun h=>⟨a,rfl,h⟩⟩
theorem J4 {α:Type}{g:MG}{cl:List Nat}{b:MS}{xs:List ae}{Γ:Ev}{f:Out→Res α}{P:α→Prop} (I:Nat→Ev→Prop) (h0:I 0 Γ)
 (h:∀i x Γ,xs[i]?=some x→I i Γ→Goes (((g x Γ).bind b).bind (jA cl)) (I (i+1))) (k:∀Γ,I xs.length Γ→Gives (f (.nx Γ)) P):Gives ((forR g cl b xs Γ).bind f) P:=by
 obtain ⟨Γ',e,h'⟩:=FW I h0 h
 rw[e];exact k Γ' h'
theorem aay {a:ae}{ds:List ae}:ixD (.tuple (a::ds)) (.int 0) = .ok a:=Dg (i:=0) rfl
theorem XS {a b:ae}{ds:List ae}:ixD (.tuple (a::b::ds)) (.int 1) = .ok b:=Dg (i:=1) rfl
noncomputable def dG (n:Nat) (b:Int):ae:=.tuple [.int (n:Nat),.int b]
noncomputable def dL (ns:List Int):ae:=.list (ns.map ae.int)
theorem ix0 {n:Nat}{b:Int}:ixD (dG n b) (.int 0) = .ok (.int (n:Nat)):=rfl
theorem ix1 {n:Nat}{b:Int}:ixD (dG n b) (.int 1) = .ok (.int b):=rfl
theorem Ur {ns:List Int}:lg [dL ns] = .ok (.int ns.length):=by unfold dL;rw[CZ,av]
theorem Wy {ns:List Int}:GQ (dL ns) = .ok (ns.map ae.int):=rfl
theorem uV {n:Nat}{b:Int}:plain (dG n b)=true:=yd [(n:Nat),b]
theorem Q9 {n:Nat}{b:Int}:(dG n b).depth≤64:=yx [(n:Nat),b]
end L3
namespace L3
open PySem L2
end L3
set_option hygiene false in
local macro_rules | `(tactic| walk_at "ev")=>`(tactic| simp (config:={ decide:=true,implicitDefEqProofs:=false }) only[L3.Jf,L3.W4,L3.cW,L3.jM,L3.Vf,L3.VD,L3.Th,L3.uv,L3.xr,L3.G7,L3.Ry,L3.Tj,L3.Tn,L3.Q8,L3.Te,L3.Wb,L3.U8,L3.M7,L3.Np,L3.Mx,L3.Gw,L3.Vo,L3.VH,L3.nQ,L3.Wc,L3.RG,L3.SX,L3.QC,L3.Rc,L3.G9,L3.Uy,L3.QB,L3.Ko,L3.Ms,L3.Zh,L3.IV,L3.DX,L3.En,L3.BP,L3.Ds,L3.zB,L3.S6,L3.WQ,L3.Ni,L3.PB,L3.Rz,L3.Uu,L3.Rf,L3.UL,L3.Mj,L3.yO,L3.Y6,L3.Wd,L3.QZ,L3.Vz,L3.Ve,L3.Vc,L3.Ro,L3.RB,L3.LK,L3.Res.aV,L3.Res.bind_assoc,L3.Zk,L3.Vn,L3.Jj,L3.Rk,L3.Vr,L3.Ti,L3.RZ,L3.RD,L3.Rw,L3.M4,L3.Ss,L3.RT,L3.R6,L3.UG,L3.Ut,L3.Wu,L3.Wg,L3.VL,L3.Vm,L3.aay,L3.XS,L3.ix0,L3.ix1,L3.Ur,L3.Wy,L3.CZ,L3.J9,L3.La,L3.Ir,L3.Mr,decide_false,decide_true,if_true,if_false,xo,Bool.not_false,and_true,true_and,dy,oS,cE,ma,av,fE,hX,List.replicate_zero,kK,n4,List.set_cons_zero,List.set_cons_succ,Nat.reduceSub,Nat.reduceAdd,y9])
set_option hygiene false in
local macro_rules | `(tactic| walk_at "gd")=>`(tactic| (rw[L3.bM (by first | omega (config:={}) | (unfold L2.uE;omega (config:={})) | (unfold L2.Ao;omega (config:={})) | (unfold L2.Yy;omega (config:={})) | (simp (config:={ decide:=true }) only[L2.sizeLine_eq,aw,av,fE,eM,oQ,cE,ma];omega (config:={})))]))
set_option hygiene false in
local macro_rules | `(tactic| walk_at "go")=>`(tactic| (repeat (first | walk_at "ev" | walk_at "gd")))
namespace Prog
open PySem L2 L3 Gk
theorem Ud {a p:Int} (hp:0≤p):uH [.int a,.int p] = .ok (.int (bf a p)):=by
 unfold uH
 walk_at "ev"
 rw[bM hp]
 walk_at "ev"
 rw[rq]
 rfl
theorem IK {xs:List Int}:j9 [dL xs] = .ok (.int (d7 xs)):=by
 unfold j9 dL
 walk_at "ev"
 refine cj (fun i=>[some (.list (xs.map ae.int)),some (.int ((xs.reverse.take i).foldl (fun n f=>2*n+f) 0)),none]) rfl (fun i x hx=>?_) ?_
 rotate_left
 · walk_at "ev"
   rw[gz,av,← gz,fS,RQ]
 · rw[← List.map_reverse] at hx
   obtain ⟨v,rfl,hv⟩:=ints_get hx
   walk_at "ev"
   rw[bM (.inl ⟨by decide,by decide⟩)]
   walk_at "ev"
   rw[rh,hv,mB]
   rfl
theorem xW {n:Nat} (hn:n≤100):gO [.int (n:Nat)] = .ok (.int (2^n)):=by
 unfold gO
 walk_at "ev"
 rw[gY (by omega)]
 walk_at "ev"
 refine cj (fun i=>[some (.int (n:Nat)),some (.int (2^i)),none]) rfl (fun i x hx=>?_) ?_
 · obtain ⟨_,rfl⟩:=mU hx
   walk_at "ev"
   rw[bM (.inl ⟨by decide,by decide⟩)]
   walk_at "ev"
   rw[show (2:Int)*2^i=2^(i+1) by rw[pb,AK]]
 · rw[jQ]
   walk_at "ev"
theorem Dt {n:Nat} (hn:n≤4):jc [.int (n:Nat)] = .ok (.int (2^2^n)):=by
 unfold jc
 walk_at "ev"
 rw[gY (by omega)]
 walk_at "ev"
 refine cj (fun i=>[some (.int (n:Nat)),some (.int (2^2^i)),none]) rfl (fun i x hx=>?_) ?_
 · obtain ⟨hi,rfl⟩:=mU hx
   walk_at "ev"
   have hb:(2:Int)^2^i≤65536∧0 < (2:Int)^2^i:=by
    have:i=0∨i=1∨i=2∨i=3:=by omega
    rcases this with rfl | rfl | rfl | rfl <;> decide
   rw[bM (.inl ⟨by omega,by omega⟩)]
   walk_at "ev"
   rw[show (2:Int)^2^i*2^2^i=2^2^(i+1) by rw[← Int.pow_add,ub];congr 1;omega]
 · rw[jQ]
   walk_at "ev"
theorem Gz {n:Nat} (hn:n≤4):jt [.int (n:Nat)] = .ok (.int (2^2^n - 1)):=by
 unfold jt
 walk_at "ev"
 rw[Dt hn]
 walk_at "ev"
theorem qN {n:Nat} (h:n≤4):2^n≤16:=by
 have:n=0∨n=1∨n=2∨n=3∨n=4:=by omega
 rcases this with rfl | rfl | rfl | rfl | rfl <;> decide
theorem Fp {n:Nat} (h:n≤4):Lx (.int (2^n)) = .ok (upN (2^n)):=by
 have e:((2:Int)^n)=(((2^n:Nat)):Int):=by simp
 have:=qN h
 rw[e,gY (by omega)]
theorem Fd {n:Nat} (h:n≤4):2^n < bg:=by
 have:=qN h
 exact nS this (by decide)
theorem size_le {n:Nat} (h:n≤100000):n < bg:=nS h (by decide)
theorem xG {n:Nat}{f:Nat→Int}:(fh n).map (fun i=>ae.int (f i))=((fh n).map f).map ae.int:=by rw[hZ];rfl
theorem DG {n j:Nat} (hn:n≤4):iZ [.int (n:Nat),.int (j:Nat)] = .ok (.int (jr n j)):=by
 unfold iZ
 walk_at "ev"
 rw[qO (n:=2^n) (fun i=>.int (bf (i:Nat) (j:Nat))) ?_ (Fd hn) fun i _=>?_]
 · walk_at "ev"
   rw[xG]
   exact (congrArg (fun r=>r.bind fun d=>Res.ok d) (IK (xs:=(fh (2^n)).map fun i=>bf (i:Nat) (j:Nat)))).trans rfl
 · walk_at "ev"
   rw[xW (by omega)]
   walk_at "ev"
   exact Fp hn
 · walk_at "ev"
   rw[Ud (by omega)]
theorem Av {n:Nat} (hn:n≤4):iH [.int (n:Nat)] = .ok (dL ((fh n).map fun j=>jr n j)):=by
 unfold iH
 walk_at "ev"
 rw[qO (n:=n) (fun j=>.int (jr n j)) ?_ (size_le (by omega)) fun i _=>?_]
 · walk_at "ev"
   rw[xG];rfl
 · walk_at "ev"
   exact gY (by omega)
 · walk_at "ev"
   rw[DG hn]
theorem j8 (x y:Int):gu x y / 2=gu (x / 2) (y / 2)∧gu x y % 2=(x % 2)*(y % 2):=by
 have h:=PySem.W.kbt_halves x y
 have hx:x % 2=0∨x % 2=1:=by omega
 have hy:y % 2=0∨y % 2=1:=by omega
 rcases hx with hx | hx <;> rcases hy with hy | hy <;> simp only[hx,hy] at h ⊢ <;> (try simp at h) <;> omega
theorem nA (x:Int):h9 x / 2=h9 (x / 2)∧h9 x % 2=1 - x % 2:=by
 unfold h9;omega
theorem uQ (x y:Int):i0 x y / 2=i0 (x / 2) (y / 2)∧i0 x y % 2=1 - (1 - x % 2)*(1 - y % 2):=by
 unfold i0
 obtain ⟨a1,a2⟩:=nA (gu (h9 x) (h9 y))
 obtain ⟨b1,b2⟩:=j8 (h9 x) (h9 y)
 obtain ⟨c1,c2⟩:=nA x
 obtain ⟨d1,d2⟩:=nA y
 rw[a1,a2,b1,b2,c1,c2,d1,d2]
 exact ⟨rfl,rfl⟩
noncomputable def vY (x y t:Int):Int:=i0 (gu x (h9 t)) (gu y t)
theorem Li (x y t:Int):vY x y t / 2=vY (x / 2) (y / 2) (t / 2)∧vY x y t % 2=if t % 2=1 then y % 2 else x % 2:=by
 unfold vY
 obtain ⟨a1,a2⟩:=uQ (gu x (h9 t)) (gu y t)
 obtain ⟨b1,b2⟩:=j8 x (h9 t)
 obtain ⟨c1,c2⟩:=j8 y t
 obtain ⟨d1,d2⟩:=nA t
 rw[a1,a2,b1,b2,c1,c2,d1,d2]
 refine ⟨rfl,?_⟩
 have ht:t % 2=0∨t % 2=1:=by omega
 rcases ht with ht | ht <;> rw[ht] <;> simp <;> omega
theorem vh (x:Int):gu 0 x=0:=by
 have:=PySem.W.kbt_mask' x 0
 simpa using this
theorem iW {W:Nat}{f:Nat→Int}:tab (W+1) f=2*tab W (fun r=>f (r+1))+f 0:=by
 unfold tab
 rw[List.range_succ_eq_map,dy,iQ,hZ]
 rfl
theorem Js {f g:Nat→Int} (t:Int) (hf:∀r,f r=0∨f r=1) (hg:∀r,g r=0∨g r=1):∀W:Nat,vY (tab W f) (tab W g) t=tab W fun r=>if bf t (r:Nat)=1 then g r else f r
 | 0=>by
  show vY 0 0 t=0
  unfold vY
  rw[vh,vh]
  rfl
 | W+1=>by
  have ih:=Js (f:=fun r=>f (r+1)) (g:=fun r=>g (r+1)) (t / 2) (fun r=>hf (r+1)) (fun r=>hg (r+1)) W
  rw[iW,iW,iW]
  have f0:=hf 0
  have g0:=hg 0
  obtain ⟨h1,h2⟩:=Li (2*tab W (fun r=>f (r+1))+f 0) (2*tab W (fun r=>g (r+1))+g 0) t
  rw[show (2*tab W (fun r=>f (r+1))+f 0) / 2=tab W (fun r=>f (r+1)) by omega,show (2*tab W (fun r=>g (r+1))+g 0) / 2=tab W (fun r=>g (r+1)) by omega,ih] at h1
  rw[show (2*tab W (fun r=>f (r+1))+f 0) % 2=f 0 by omega,show (2*tab W (fun r=>g (r+1))+g 0) % 2=g 0 by omega] at h2
  have e:(fun r:Nat=>if bf t ((r+1:Nat):Int)=1 then g (r+1) else f (r+1))=fun r:Nat=>if bf (t / 2) (r:Nat)=1 then g (r+1) else f (r+1):=by
   funext r;rw[nO]
  rw[e,show bf t ((0:Nat):Int)=t % 2 from nM t]
  omega
theorem qT (c:Int):∀W:Nat,tab W (fun _=>c)=(2^W - 1)*c
 | 0=>by simp[tab,d7]
 | W+1=>by
  rw[iW,qT c W,pb]
  have:(2^W*2 - 1)*c=2*((2^W - 1)*c)+c:=by
   rw[Int.sub_mul,Int.sub_mul,Int.mul_sub,AC,Int.mul_left_comm (2^W) 2 c];omega
  rw[this]
theorem mC {x:Int} (h0:0≤x) (h1:x < 4000):Builtin.Range.rangeFitsLong x=true:=by
 unfold Builtin.Range.rangeFitsLong
 rw[decide_eq_true (show -(2^63)≤x by omega),decide_eq_true (show x < 2^63 by omega)]
 rfl
theorem R5 {n:Nat} (h:n < 1000):Gi (.int 0) (.int ((2*n:Nat):Int)) (.int 2) = .ok ((fh n).map fun (k:Nat)=>ae.int (((2*k:Nat)):Int)):=by
 have e:dQ 0 ((2*n:Nat):Int) 2=(n:Nat):=by
  unfold dQ
  rw[if_pos (by decide)]
  split <;> omega
 have hs:iP 0 ((2*n:Nat):Int) 2=true:=by
  unfold iP
  rw[e,mC (by decide) (by decide),mC (by omega) (by omega),mC (by decide) (by decide),mC (by omega) (by omega),if_pos (by decide),mC (by omega) (by omega),Bool.or_true]
  rfl
 have e2:Gi (.int 0) (.int ((2*n:Nat):Int)) (.int 2)=gd ((2:Int)≠0∧(2:Int).natAbs < 1073741824∧iP 0 ((2*n:Nat):Int) 2=true∧0≤dQ 0 ((2*n:Nat):Int) 2) (.ok ((fh (dQ 0 ((2*n:Nat):Int) 2).toNat).map fun k=>ae.int (0+(k:Nat)*2))):=rfl
 have c3:(2:Int)≠0∧(2:Int).natAbs < 1073741824∧iP 0 ((2*n:Nat):Int) 2=true∧0≤dQ 0 ((2*n:Nat):Int) 2:=⟨by omega,by omega,hs,by rw[e];omega⟩
 refine e2.trans ((bM c3).trans ?_)
 rw[e,iq]
 refine congrArg Res.ok (kX fun k _=>congrArg ae.int ?_)
 omega
noncomputable def Fb (W N:Nat) (F:Int→Nat→Int):List Int:=(fh N).map fun p=>tab W (F (p:Nat))
theorem Ah {W N:Nat}{F:Int→Nat→Int}{p:Nat} (h:p < N):((Fb W N F).map ae.int)[p]?=some (.int (tab W (F (p:Nat)))):=by
 unfold Fb
 rw[hZ,cp,ku h]
 rfl
noncomputable def zj (t:Int) (F:Int→Nat→Int):Int→Nat→Int:=fun p r=>F (2*p+bf t (r:Nat)) r
noncomputable def jU:List Int→(Int→Nat→Int)→Int→Nat→Int
 | [],F=>F
 | t::ts,F=>jU ts (zj t F)
theorem GZ:∀{ts:List Int}{F:Int→Nat→Int},(∀p r,F p r=0∨F p r=1)→∀p r,jU ts F p r=0∨jU ts F p r=1
 | [],F,h=>h
 | t::ts,F,h=>GZ (ts:=ts) fun p r=>h _ r
theorem yR:∀{ts:List Int}{t:Int}{F:Int→Nat→Int},jU (ts++[t]) F=zj t (jU ts F)
 | [],t,F=>rfl
 | u::ts,t,F=>yR (ts:=ts)
theorem Fe:∀{ts:List Int}{F:Int→Nat→Int}{p:Int}{r:Nat},jU ts F p r=F (2^ts.length*p+d7 (ts.map fun t=>bf t (r:Nat))) r
 | [],F,p,r=>by show F p r=F (2^0*p+0) r;simp
 | t::ts,F,p,r=>by
  show jU ts (zj t F) p r=_
  rw[Fe]
  unfold zj
  rw[dy,iQ,cE,pb]
  congr 1
  rw[AK (2^ts.length) 2,AC]
  omega
theorem M5 {m W:Nat}{b:Int}{ts:List Int} (hl:ts.length=m) (hm:m≤4):nG [dG m b,dL ts,.int (2^W - 1)] = .ok (.int (tab W fun r=>bf b (d7 (ts.map fun t=>bf t (r:Nat))))):=by
 have hp:∀i,2^(m - i)≤16:=fun i=>by have:=qN (n:=m - i) (by omega);omega
 unfold nG
 walk_at "ev"
 rw[qO (n:=2^m) (fun p=>.int (tab W fun _=>bf b (p:Nat))) ?_ (Fd hm) fun i _=>?_]
 rotate_left
 · walk_at "ev"
   rw[xW (by omega)]
   walk_at "ev"
   exact Fp hm
 · walk_at "ev"
   rw[Ud (by omega)]
   walk_at "ev"
   have cm:uE (2^W - 1) (bf b (i:Nat)):=.inr ⟨by have:=HB b (i:Nat);omega,by have:=WD b (i:Nat);omega⟩
   rw[bM cm,qT]
 walk_at "ev"
 rw[xG]
 refine cj (fun i=>[some (dG m b),some (dL ts),some (.int (2^W - 1)),some (dL (Fb W (2^(m - i)) (jU (ts.take i) fun p r=>bf b p))),none]) rfl (fun i x hx=>?_) ?_
 rotate_left
 · rw[av,hl,rL,← hl,fS]
   unfold dL
   walk_at "ev"
   rw[show (ae.int 0) = .int ((0:Nat):Int) from rfl,d9 (Ah (by decide))]
   walk_at "ev"
   congr 2
   refine lE fun r hr=>?_
   rw[Fe]
   congr 1
   simp
 · obtain ⟨t,rfl,ht⟩:=ints_get hx
   have hi:i < ts.length:=(br.mp ht).1
   have e2:2^(m - i)=2*2^(m - (i+1)):=by rw[show m - i=(m - (i+1))+1 by omega,ub];omega
   have p16:=hp (i+1)
   have F01:∀p r,jU (ts.take i) (fun p r=>bf b p) p r=0∨jU (ts.take i) (fun p r=>bf b p) p r=1:=GZ fun p r=>gf b p
   walk_at "ev"
   rw[qJ (α:=Nat) (xs:=fh (2^(m - (i+1)))) (fun k=>.int ((2*k:Nat):Int)) (fun k=>.int (tab W (jU (ts.take (i+1)) (fun p r=>bf b p) (k:Nat)))) ?_ (size_le (by rw[fE];omega)) fun k hk=>?_]
   · walk_at "ev"
     rw[xG]
     rfl
   · unfold Q6
     walk_at "ev"
     rw[show (Fb W (2^(m - i)) (jU (ts.take i) fun p r=>bf b p)).length=2*2^(m - (i+1)) by unfold Fb;rw[av,fE,e2]]
     exact R5 (by omega)
   · have hk':=iX.mp hk
     unfold dL
     walk_at "ev"
     rw[d9 (Ah (by omega)),show ((2*k:Nat):Int)+1=((2*k+1:Nat):Int) by omega,d9 (Ah (by omega))]
     walk_at "ev"
     show Res.ok (ae.int (vY (tab W _) (tab W _) t))=_
     rw[Js t (F01 _) (F01 _)]
     congr 2
     refine lE fun r hr=>?_
     rw[rh,ht]
     show _=jU (ts.take i++[t]) _ _ _
     rw[yR]
     unfold zj
     rcases gf t (r:Nat) with h | h <;> rw[h]
     · rw[if_neg (by decide)];congr 1 <;> omega
     · rw[if_pos rfl];congr 1 <;> omega
theorem T5 {m:Nat}{b:Int}{ts:List Int}{n:Nat} (hl:ts.length=m) (hm:m≤4) (hn:n≤4):qM [dG m b,dL ts,.int (n:Nat)] = .ok (.int (eF b ts n)):=by
 unfold qM
 walk_at "ev"
 rw[Gz hn]
 walk_at "ev"
 rw[M5 hl hm]
 rfl
theorem abD (a:Int) {m:Int} (h:0 < m):∃n:Nat,a % m=(n:Nat)∧(n:Int) < m:=
 ⟨(a % m).toNat,by have:=Int.emod_nonneg a (show m≠0 by omega);omega,by have:=Int.emod_lt_of_pos a h;have:=Int.emod_nonneg a (show m≠0 by omega);omega⟩
theorem snoc_ind {α:Type}{P:List α→Prop} (h0:P []) (h:∀l a,P l→P (l++[a])) (l:List α):P l:=by
 have:∀k:Nat,∀l:List α,l.length=k→P l:=by
  intro k
  induction k with
  | zero=>intro l hl;rw[qB.mp hl];exact h0
  | succ k ih=>
   intro l hl
   have hne:l≠[]:=fun z=>by rw[z] at hl;cases hl
   rw[← List.dropLast_concat_getLast hne]
   exact h _ _ (ih _ (by rw[List.length_dropLast,hl];rfl))
 exact this _ l rfl
theorem U9 {ts:List Int}{k:Nat} (h:k < ts.length):ixD (dL ts) (.int (k:Nat)) = .ok (.int (ts.getD k 0)):=by
 unfold dL
 refine d9 (i:=k) ?_
 rw[cp,ax,aI h];rfl
theorem Cq {xs:List Int}:GP [.list (xs.map ae.int)] = .ok (.int xs.sum):=by
 show (match intsOf (xs.map ae.int) with | some ns=>Res.ok (ae.int ns.sum) | none=>.bad)=_
 rw[Kp]
theorem xZ {k:Nat}:∀{ds:List ae},(∀d∈ds,d.depth≤k)→ky ds≤k
 | [],_=>by rw[ky];exact iE _
 | d::ds,h=>by
  rw[ky]
  exact Nat.max_le.mpr ⟨h d cf,xZ fun e he=>h e (bq _ he)⟩
theorem vH {k:Nat}{ds:List ae} (h:∀d∈ds,d.depth≤k):(ae.tuple ds).depth≤k+1:=by
 rw[ae.depth]
 have:=xZ h
 omega
theorem Mh {ds:List ae} (h:∀d∈ds,plain d=true):gJ ds=true:=by
 induction ds with
 | nil=>rw[gJ]
 | cons d ds ih=>rw[gJ,h d cf,ih fun e he=>h e (bq _ he)];rfl
theorem xg {i:Int}:(ae.int i).depth≤0:=by rw[ae.depth];exact aE _
theorem O5 {n:Nat}{b:Int}:(dG n b).depth≤1:=vH (k:=0) fun d hd=>by
 rcases de.mp hd with rfl | hd
 · exact xg
 · rw[be.mp hd];exact xg
noncomputable def Z2 (b:Int) (ts:List Int) (w:Nat):Int:=tab w fun c=>bf b (d7 (ts.map fun t=>bf t (c:Nat)))
theorem take_snoc {α:Type}{l:List α}{i:Nat}{x:α} (h:l[i]?=some x):l.take (i+1)=l.take i++[x]:=by
 rw[List.take_succ,h];rfl
noncomputable def dT (m:Nat) (b:Int) (ds:List ae):ae:=.tuple [dG m b,.tuple ds]
noncomputable def dR (rs:List Int):ae:=.tuple (rs.map ae.int)
noncomputable def kW (rs:List Int) (ls:List (List Int)):List (List Int):=ls.flatMap fun c=>rs.map fun r=>c++[r]
theorem vR {rs:List Int}:∀ls:List (List Int),(kW rs ls).length=ls.length*rs.length
 | []=>by show 0=0*_;omega
 | c::ls=>by
  show ((rs.map fun r=>c++[r])++kW rs ls).length=_
  rw[aw,av,vR ls,cE,yY];omega
theorem KC {rs:List Int}{ls:List (List Int)}{c:List Int}:kW rs (ls++[c])=kW rs ls++rs.map fun r=>c++[r]:=by
 unfold kW
 rw[pE]
 show _++((rs.map fun r=>c++[r])++[])=_
 rw[fb]
theorem adJ {c:List Int}{r:Int} (h:c.length≤100):gK (dL c) (.list [.int r]) = .ok (dL (c++[r])):=by
 unfold dL
 rw[Cp (gy (size_le (by rw[av,eP];omega))),dk]
 rfl
theorem V4 {a:List ae}{k:Int} (h : -(2^63)≤k∧k < 2^63∧a.length*k.toNat≤bg):yq (.list a) (.int k) = .ok (.list (cK k.toNat a).flatten):=bM h
theorem rep1 {n:Nat}{x:ae} (hn:n≤100):yq (.list [x]) (.int (n:Nat)) = .ok (.list (cK n x)):=by
 rw[V4 ⟨by omega,by omega,by rw[iq,eP,Nat.one_mul];exact gy (size_le (by omega))⟩,iq]
 congr 2
 clear hn
 induction n with
 | zero=>rfl
 | succ n ih=>rw[hX,kR,ih,hX];rfl
noncomputable def cI (cs:List (List Int)):List (List Int):=cs.foldl (fun ls rs=>kW rs ls) [[]]
theorem sX (cs:List (List Int)) (rs:List Int):cI (cs++[rs])=kW rs (cI cs):=by unfold cI;rw[mB];rfl
theorem OJ {rs:List Int}{ls:List (List Int)}{c:List Int}:c∈kW rs ls↔∃d∈ls,∃r∈rs,c=d++[r]:=by
 unfold kW
 rw[kL]
 constructor
 · rintro ⟨d,hd,h⟩
   obtain ⟨r,hr,rfl⟩:=dc.mp h
   exact ⟨d,hd,r,hr,rfl⟩
 · rintro ⟨d,hd,r,hr,rfl⟩
   exact ⟨d,hd,dc.mpr ⟨r,hr,rfl⟩⟩
theorem qF {c:List Int}{cs:List (List Int)}:c∈cI cs↔c.length=cs.length∧∀i,i < cs.length→c.getD i 0∈cs.getD i []:=by
 induction cs using snoc_ind generalizing c with
 | h0=>
  constructor
  · intro h;rw[be.mp h];exact ⟨rfl,fun i hi=>absurd hi (mf _)⟩
  · rintro ⟨h,_⟩;rw[qB.mp h];exact be.mpr rfl
 | h cs rs ih=>
  rw[sX,OJ]
  constructor
  · rintro ⟨d,hd,r,hr,rfl⟩
    obtain ⟨h1,h2⟩:=ih.mp hd
    refine ⟨by rw[aw,aw,h1];rfl,fun i hi=>?_⟩
    rw[aw] at hi
    have hi:i < cs.length+1:=hi
    rcases kq i cs.length with q | q
    · have:=h2 i q
      rw[ax,ax] at this ⊢
      rw[eh (l₁:=d) (by omega),eh (l₁:=cs) q]
      exact this
    · have e:i=cs.length:=by omega
      subst e
      rw[ax,ax,dt (l₁:=d) (by omega),dt (l₁:=cs) (aE _),h1,rL]
      exact hr
  · rintro ⟨h1,h2⟩
    rw[aw] at h1
    have h1:c.length=cs.length+1:=h1
    have hl:cs.length < c.length:=by omega
    refine ⟨c.take cs.length,ih.mpr ⟨by rw[eM];omega,fun i hi=>?_⟩,c.getD cs.length 0,?_,?_⟩
    · have:=h2 i (by rw[aw];exact Nat.lt_succ_of_lt hi)
      rw[ax,ax] at this ⊢
      rw[eh hi] at this
      rw[List.getElem?_take,if_pos hi]
      exact this
    · have:=h2 cs.length (by rw[aw];exact se _)
      rw[ax (l:=cs++[rs]),dt (aE _),rL] at this
      exact this
    · rw[ax,aI hl]
      show c=c.take cs.length++[c[cs.length]]
      have e1:c.take (cs.length+1)=c.take cs.length++[c[cs.length]]:=by rw[rh,aI hl];rfl
      rw[← e1,g6 (by omega)]
theorem Ka {c:List Int}{cs:List (List Int)} (h:c∈cI cs):c.length=cs.length:=(qF.mp h).1
theorem CG {B:Nat}:∀{cs:List (List Int)},(∀rs∈cs,rs.length≤B)→(cI cs).length≤B^cs.length:=fun {cs}=>by
 induction cs using snoc_ind with
 | h0=>exact fun _=>aE _
 | h cs rs ih=>
  intro hb
  rw[sX,vR,aw]
  show _≤B^(cs.length+1)
  rw[ub]
  exact Nat.mul_le_mul (ih fun r hr=>hb r (ff _ hr)) (hb rs (by simp))
theorem Vv {n m:Nat} (hn:n≤100000) (hm:m≤4):sO [.int (n:Nat),.int (m:Nat)] = .ok (.int ((n^m:Nat):Int)):=by
 unfold sO
 walk_at "ev"
 rw[gY (by omega)]
 walk_at "ev"
 refine cj (fun i=>[some (.int (n:Nat)),some (.int (m:Nat)),some (.int ((n^i:Nat):Int)),none]) rfl (fun i x hx=>?_) ?_
 · obtain ⟨hi,rfl⟩:=mU hx
   have e:((n^(i+1):Nat):Int)=(n:Nat)*((n^i:Nat):Int):=by rw[ub,Nat.mul_comm,Int.natCast_mul]
   rw[e]
   generalize n^i=q
   walk_at "go"
 · rw[jQ]
   walk_at "ev"
noncomputable abbrev dGp (g:Nat×Int):ae:=dG g.1 g.2
theorem Jm {i:Nat}{m:ME}{Γ:Ev}{ds es:List ae} (hm:m Γ = .ok (.list es)) (hg:gv Γ i=some (.list ds)) (hl:ds.length+es.length≤bg) (hi:i < Γ.length):vL i m Γ = .ok (.nx (Γ.set i (some (.list (ds++es))))):=by
 unfold vL
 rw[hm]
 show (match gv Γ i,ae.list es with
  | some (.list ds),.list es=>gd (ds.length+es.length≤bg∧i < Γ.length) (.ok (Out.nx (Γ.set i (some (.list (ds++es))))))
  | _,_=>Res.bad)=_
 rw[hg]
 exact bM ⟨hl,hi⟩
noncomputable def dw (old fresh:List Int) (n p:Nat):List (List Int):=cK p old++[fresh]++cK (n - p - 1) (old++fresh)
noncomputable def jd (old fresh:List Int) (n:Nat):List (List Int):=(fh n).flatMap fun p=>cI (dw old fresh n p)
theorem gB {old fresh:List Int}{n p:Nat} (h:p < n):(dw old fresh n p).length=n:=by
 unfold dw
 rw[aw,aw,df,df,eP];omega
theorem wz {old fresh:List Int}{n p i:Nat} (h:p < n) (hi:i < n):(dw old fresh n p).getD i []=if i < p then old else if i=p then fresh else old++fresh:=by
 unfold dw
 rw[ax]
 rcases Nat.lt_trichotomy i p with q | q | q
 · rw[if_pos q,eS,eh (by rw[df];exact q),sQ q];rfl
 · subst q
   rw[if_neg (g7 _),if_pos rfl,eS,dt (by rw[df];exact aE _),df,rL];rfl
 · rw[if_neg (by omega),if_neg (by omega),dt (by rw[aw,df,eP];omega),aw,df,eP,sQ (by omega)];rfl
theorem pQ {old fresh c:List Int}{n:Nat} (h:c∈jd old fresh n):c.length=n∧∀x∈c,x∈old++fresh:=by
 obtain ⟨p,hp,h⟩:=kL.mp h
 have hp:=iX.mp hp
 obtain ⟨h1,h2⟩:=qF.mp h
 rw[gB hp] at h1 h2
 refine ⟨h1,fun x hx=>?_⟩
 obtain ⟨i,hi,rfl⟩:=i9.mp hx
 have:=h2 i (by omega)
 rw[wz hp (by omega),ax,aI hi] at this
 have this:c[i]∈if i < p then old else if i=p then fresh else old++fresh:=this
 split at this
 · exact ff _ this
 · split at this
   · exact cy _ this
   · exact this
theorem JW {old fresh c:List Int}{n:Nat} (hl:c.length=n) (hc:∀x∈c,x∈old++fresh) (hx:∃x∈c,x∉old):c∈jd old fresh n:=by
 have hlt:c.findIdx (fun x=>!decide (x∈old)) < c.length:=List.findIdx_lt_length.mpr (by
  obtain ⟨x,h1,h2⟩:=hx
  exact ⟨x,h1,by rw[decide_eq_false h2];rfl⟩)
 have hp:=List.findIdx_getElem (w:=hlt)
 refine kL.mpr ⟨c.findIdx (fun x=>!decide (x∈old)),iX.mpr (by omega),qF.mpr ⟨by rw[gB (by omega),hl],fun i hi=>?_⟩⟩
 rw[gB (by omega)] at hi
 rw[wz (by omega) hi,ax,aI (by omega)]
 show c[i]∈_
 have hin:=hc _ (List.getElem_mem (show i < c.length by omega))
 split
 · rename_i q
   have:=List.not_of_lt_findIdx q
   simp only[Bool.not_eq_true,Bool.not_eq_false'] at this
   exact of_decide_eq_true this
 · split
   · rename_i q
     subst q
     have hno:c[c.findIdx (fun x=>!decide (x∈old))]∉old:=by
      intro z
      rw[decide_eq_true z] at hp
      cases hp
     exact (eJ.mp hin).resolve_left hno
   · exact hin
theorem uq {a b:List ae} (h:a.length+b.length≤1000):gK (.list a) (.list b) = .ok (.list (a++b)):=Cp (gy (size_le (by omega)))
noncomputable def fO (n:Nat) (gs:List (Nat×Int)):Nat:=(gs.map fun g=>n^g.1).sum
theorem vX {n:Nat}{gs:List (Nat×Int)} (hn:n≤100000) (hg:gs.length≤100) (hm:∀g∈gs,g.1≤4):iJ [.int (n:Nat),.list (gs.map dGp)] = .ok (.int (fO n gs:Nat)):=by
 unfold iJ
 walk_at "ev"
 rw[qJ (xs:=gs) dGp (fun g=>.int ((n^g.1:Nat):Int)) ?_ (size_le (by omega)) fun g h=>?_]
 · walk_at "ev"
   rw[show gs.map (fun g=>ae.int ((n^g.1:Nat):Int))=(gs.map fun g=>((n^g.1:Nat):Int)).map ae.int by rw[hZ];rfl]
   have:∀ns:List Int,GP [.list (ns.map ae.int)] = .ok (.int ns.sum):=fun ns=>Cq
   rw[this]
   walk_at "ev"
   unfold fO
   congr 2
   induction gs with
   | nil=>rfl
   | cons g gs ih=>
    rw[dy,i4,dy,i4,zi,ih (by rw[cE] at hg;omega) fun q hq=>hm q (bq _ hq)]
 · walk_at "ev"
 · walk_at "ev"
   rw[Vv hn (hm g h)]
theorem Ib {n:Nat}{gs:List (Nat×Int)} (hn:n≤128) (hg:gs.length≤100) (hm:∀g∈gs,g.1≤4) (hc:fO n gs≤20000):cB [.int (n:Nat),.list (gs.map dGp)] = .ok .none:=by
 unfold cB
 walk_at "ev"
 rw[decide_eq_false (by omega)]
 walk_at "ev"
 rw[vX (by omega) hg hm]
 walk_at "ev"
 rw[decide_eq_false (by omega)]
 walk_at "ev"
theorem uP:∀{N:Nat}{l:List Int},l.Nodup→(∀x∈l,0≤x∧x < N)→l.length≤N
 | 0,l,hn,hb=>by
  cases l with
  | nil=>exact aE _
  | cons x l=>have:=hb x cf;omega
 | N+1,l,hn,hb=>by
  have h1:(l.erase (N:Int)).length≤N:=uP (hn.erase _) fun x hx=>by
   have hx:=(hn.mem_erase_iff).mp hx
   have:=hb x hx.2
   have hne:=hx.1
   omega
  by_cases hm:(N:Int)∈l
  · rw[List.length_erase_of_mem hm] at h1;omega
  · rw[List.erase_of_not_mem hm] at h1;omega
theorem lF {x:Int}{l:List Int}:x∈srt l↔x∈l:=(lz l).mem_iff
theorem Xq {m:ME}{Γ:Ev}{d:ae} (h:m Γ = .ok d):sEx m Γ = .ok (.nx Γ):=by unfold sEx;rw[h];rfl
theorem Ge {n B:Nat}{gs:List (Nat×Int)} (h:∀g∈gs,n^g.1≤B):fO n gs≤gs.length*B:=by
 unfold fO
 induction gs with
 | nil=>simp
 | cons g gs ih=>
  rw[dy,i4,cE,yY]
  have h1:=h g cf
  have h2:=ih fun q hq=>h q (bq _ hq)
  omega
theorem QF {n m i B:Nat} (h:n^m≤B) (hB:1≤B) (hi:i≤m):n^i≤B:=by
 by_cases h0:n=0
 · subst h0
   exact eR (by cases i with | zero=>exact aE _ | succ i=>rw[Nat.zero_pow (Nat.succ_pos i)];exact iE _) hB
 · exact eR (fo (Nat.pos_of_ne_zero h0) hi) h
theorem Il {enc:List Int→ae}{cs:List (List Int)} (he:∀rs,GQ (enc rs) = .ok (rs.map ae.int)) (hr:∀rs∈cs,rs.length≤256) (hm:cs.length≤4) (hL:∀i,i < cs.length→(cI (cs.take i)).length≤20000):my [.list (cs.map enc)] = .ok (.list ((cI cs).map dL)):=by
 unfold my
 walk_at "ev"
 refine cj (fun i=>[some (.list (cs.map enc)),some (.list ((cI (cs.take i)).map dL)),none,none,none,none]) rfl (fun i x hx=>?_) ?_
 · obtain ⟨rs,ers,rfl⟩:=jj hx
   have hi:=(br.mp ers).1
   have hrs:=hr rs (gX ers)
   have L0:=hL i hi
   walk_at "ev"
   refine cj (fun j=>[some (.list (cs.map enc)),some (.list ((cI (cs.take i)).map dL)),some (enc rs),some (.list ((kW rs ((cI (cs.take i)).take j)).map dL)),none,none]) rfl (fun j x hx=>?_) ?_
   · obtain ⟨c,ec,rfl⟩:=jj hx
     have hc:=Ka (gX ec)
     rw[eM] at hc
     have Lj:(kW rs ((cI (cs.take i)).take j)).length≤5200000:=by
      rw[vR,eM]
      exact eR (Nat.mul_le_mul (eR (r6 _ _) L0) hrs) (by decide)
     walk_at "ev"
     rw[he]
     walk_at "ev"
     refine cj (fun k=>[some (.list (cs.map enc)),some (.list ((cI (cs.take i)).map dL)),some (enc rs),some (.list ((kW rs ((cI (cs.take i)).take j)++(rs.take k).map fun r=>c++[r]).map dL)),some (dL c),none]) ?_ (fun k x hx=>?_) ?_
     · rw[zw,oS,fb]
     · obtain ⟨r,er,rfl⟩:=jj hx
       have hk:=(br.mp er).1
       walk_at "ev"
       rw[adJ (by omega)]
       walk_at "ev"
       rw[bM (nS (show _≤5300000 by rw[aw,av,eM];omega) (by decide))]
       walk_at "ev"
       rw[take_snoc er,dk (f:=fun r=>c++[r]),← eS,dk (f:=dL) (l₂:=List.map (fun r=>c++[r]) [r])]
       rfl
     · rw[av,fS]
       walk_at "ev"
       rw[take_snoc ec,KC]
   · rw[av,fS]
     walk_at "ev"
     rw[take_snoc ers,sX]
 · rw[av,fS]
   walk_at "ev"
theorem qW {old fresh rs:List Int}{n p:Nat} (h:rs∈dw old fresh n p):rs.length≤old.length+fresh.length:=by
 unfold dw at h
 rcases eJ.mp h with h | h
 · rcases eJ.mp h with h | h
   · rw[(List.mem_replicate.mp h).2];omega
   · rw[be.mp h];omega
 · rw[(List.mem_replicate.mp h).2,aw];exact aE _
theorem Pn {cs:List (List Int)}{B i:Nat} (hB:∀rs∈cs,rs.length≤B) (hp:B^cs.length≤20000) (hi:i≤cs.length):(cI (cs.take i)).length≤20000:=by
 have:=CG (B:=B) (cs:=cs.take i) (fun rs h=>hB rs (kQ h))
 rw[eM,tz hi] at this
 exact eR this (QF hp (by decide) hi)
theorem Fo {cs:List (List Int)}{B:Nat} (hB:∀rs∈cs,rs.length≤B) (hp:B^cs.length≤20000):(cI cs).length≤20000:=eR (CG hB) hp
theorem places_len {old fresh:List Int}{n:Nat} (hp:(old.length+fresh.length)^n≤20000):∀k,k≤n→(((fh k).flatMap fun p=>cI (dw old fresh n p))).length≤k*20000:=fun k=>by
 induction k with
 | zero=>intro _;simp
 | succ k ih=>
  intro hk
  rw[qh,pE,aw,yY]
  have h1:=ih (by omega)
  have h2:(cI (dw old fresh n k)).length≤20000:=Fo (fun rs h=>qW h) (by rw[gB (by omega)];exact hp)
  have e:([k].flatMap fun p=>cI (dw old fresh n p)).length=(cI (dw old fresh n k)).length:=by simp
  rw[e];omega
theorem BK {old fresh:List Int}{n:Nat} (hb:old.length+fresh.length≤128) (hn:n≤4) (hp:(old.length+fresh.length)^n≤20000):jb [dL old,dL fresh,.int (n:Nat)] = .ok (.list ((jd old fresh n).map dL)):=by
 unfold jb
 walk_at "ev"
 rw[gY (by omega)]
 walk_at "ev"
 refine cj (fun i=>[some (dL old),some (dL fresh),some (.int (n:Nat)),some (.list (((fh i).flatMap fun p=>cI (dw old fresh n p)).map dL)),none]) rfl (fun i x hx=>?_) ?_
 · obtain ⟨hi,rfl⟩:=mU hx
   have e1:(n:Int) - (i:Nat) - 1=((n - i - 1:Nat):Int):=by omega
   have ec:evs [aq gK (aq gK (aq yq (cL [aj 0]) (aj 4)) (cL [aj 1])) (aq yq (cL [aq gK (aj 0) (aj 1)]) (aq rG (aq rG (aj 2) (aj 4)) (eC (.int 1))))] [some (dL old),some (dL fresh),some (.int (n:Nat)),some (.list (((fh i).flatMap fun p=>cI (dw old fresh n p)).map dL)),some (.int (i:Nat))] = .ok [.list ((dw old fresh n i).map dL)]:=by
    walk_at "ev"
    rw[e1,rep1 (by omega)]
    walk_at "ev"
    rw[uq (by rw[df];show i+1≤1000;omega)]
    walk_at "ev"
    rw[show gK (dL old) (dL fresh) = .ok (dL (old++fresh)) by unfold dL;rw[uq (by rw[av,av];omega),dk]]
    walk_at "ev"
    rw[rep1 (by omega)]
    walk_at "ev"
    rw[uq (by rw[aw,df,df];show i+1+_≤1000;omega)]
    unfold dw
    rw[dk,dk,List.map_replicate,List.map_replicate]
    rfl
   have L0:=places_len hp i (by omega)
   have L1:(cI (dw old fresh n i)).length≤20000:=Fo (fun rs h=>qW h) (by rw[gB hi];exact hp)
   rw[yO]
   walk_at "ev"
   rw[Jm (ds:=((fh i).flatMap fun p=>cI (dw old fresh n p)).map dL) (es:=(cI (dw old fresh n i)).map dL) ?_ rfl ?_ (of_decide_eq_true rfl)]
   · walk_at "ev"
     rw[qh,pE,dk]
     simp
   · rw[nQ,ec,Res.aV]
     exact Il (enc:=dL) (fun rs=>rfl) (fun rs h=>eR (qW h) (by omega)) (by rw[gB hi];exact hn) (fun j hj=>Pn (B:=old.length+fresh.length) (fun rs h=>qW h) (by rw[gB hi];exact hp) (gy hj))
   · rw[av,av]
     exact eR (show _≤400000 by omega) (by decide)
 · rw[jQ]
   walk_at "ev"
   rfl
noncomputable def gH (n:Nat) (gs:List (Nat×Int)):Prop:=128 < n∨20000 < fO n gs
theorem Oo {n n':Nat} (h:n≤n') (gs:List (Nat×Int)):fO n gs≤fO n' gs:=by
 unfold fO
 induction gs with
 | nil=>exact aE _
 | cons g gs ih=>
  rw[dy,i4,dy,i4]
  exact Nat.add_le_add (na h _) ih
theorem Ql {n:Nat}{gs:List (Nat×Int)}{g:Nat×Int} (h:g∈gs):n^g.1≤fO n gs:=by
 unfold fO
 induction gs with
 | nil=>cases h
 | cons q gs ih=>
  rw[dy,i4]
  rcases de.mp h with rfl | h
  · omega
  · have:=ih h;omega
noncomputable def gtC:ME:=eOr (aq gtD (aj 0) (eC (.int 128))) (aq gtD (bz iJ [(aj 0),(aj 1)]) (eC (.int 20000)))
theorem VJ {n:Nat}{gs:List (Nat×Int)} (h:gH n gs) (hg:gs.length≤100) (hm:∀g∈gs,g.1≤4):gtC [some (.int (n:Nat)),some (.list (gs.map dGp))] = .ok (.bool true):=by
 unfold gtC
 walk_at "ev"
 by_cases hn:128 < n
 · rw[decide_eq_true (show (128:Int) < (n:Nat) by omega)]
   walk_at "ev"
 · rw[decide_eq_false (show ¬ (128:Int) < (n:Nat) by omega)]
   walk_at "ev"
   rw[vX (by omega) hg hm]
   walk_at "ev"
   rcases h with h | h
   · exact absurd h hn
   · rw[decide_eq_true (show (20000:Int) < (fO n gs:Nat) by omega)]
theorem aap {c:ME}{Γ:Ev} (h:c Γ = .ok (.bool true)):sIf c lr cN Γ = .bad:=by
 rw[xr,h];rfl
theorem Hz {n:Nat}{gs:List (Nat×Int)} (h:gH n gs) (hg:gs.length≤100) (hm:∀g∈gs,g.1≤4):cB [.int (n:Nat),.list (gs.map dGp)] = .bad:=by
 unfold cB
 show Res.bind (sIf gtC lr cN [some (.int (n:Nat)),some (.list (gs.map dGp))]) _=_
 rw[aap (VJ h hg hm)];rfl
section
variable {gs:List (Nat×Int)}{w:Nat}{rs old fresh:List Int}{d c:ae}
end
section
variable {gs:List (Nat×Int)}{w:Nat}{rs:List Int}
end
structure Way where
 c:Nat
 g:Option (Nat×Int)
 ts:List Int
noncomputable def gD:Option (Nat×Int)→ae
 | none=>.none
 | some g=>dGp g
noncomputable def wD (w:Way):ae:=.tuple [.int (w.c:Nat),gD w.g,dR w.ts]
noncomputable def kvW (ws:List (Int×Way)):List (ae×ae):=ws.map fun q=>(ae.int q.1,wD q.2)
noncomputable def lk (t:Int):List (Int×Way)→Option Way
 | []=>none
 | (k,w)::r=>if k=t then some w else lk t r
theorem KQ {t:Int}:∀ws:List (Int×Way),b8 (.inl t) (kvW ws)=(lk t ws).map wD
 | []=>rfl
 | (k,w)::r=>by
  show (if bB (.int k)=some (.inl t) then some (wD w) else b8 (.inl t) (kvW r))=_
  unfold lk
  by_cases h:k=t
  · subst h;rw[if_pos (show bB (.int k)=some (.inl k) from rfl),if_pos rfl];rfl
  · rw[if_neg (show ¬ bB (.int k)=some (.inl t) from fun z=>h (mi.inj (Option.some.inj z))),if_neg h]
    exact KQ r
theorem z7 {t:Int}{w:Way}:∀{ws:List (Int×Way)},lk t ws=some w→(t,w)∈ws
 | (k,w')::r,h=>by
  unfold lk at h
  by_cases e:k=t
  · rw[if_pos e] at h;cases h;subst e;exact cf
  · rw[if_neg e] at h;exact bq _ (z7 h)
theorem gq {t:Int}:∀{ws:List (Int×Way)},(lk t ws).isSome=true↔t∈ws.map (·.1)
 | []=>by simp[lk]
 | (k,w')::r=>by
  unfold lk
  by_cases e:k=t
  · rw[if_pos e];simp[e]
  · rw[if_neg e,gq (ws:=r)]
    simp[oP e]
theorem xm {t:Int}{ws:List (Int×Way)}:lk t ws=none↔t∉ws.map (·.1):=by
 rw[← gq]
 cases lk t ws <;> simp
theorem oO {t:Int}{w:Way}:∀{ws:List (Int×Way)},(ws.map (·.1)).Nodup→(t,w)∈ws→lk t ws=some w
 | (k,w')::r,hn,h=>by
  unfold lk
  rw[dy,lT] at hn
  rcases de.mp h with e | h
  · cases e;rw[if_pos rfl]
  · rw[if_neg (fun z=>hn.1 (by rw[show (k,w').1=t from z];exact dc.mpr ⟨_,h,rfl⟩))]
    exact oO hn.2 h
noncomputable def tu (t:Int) (w:Way) (ws:List (Int×Way)):List (Int×Way):=ws.map fun q=>if q.1=t then (q.1,w) else q
noncomputable def fc (t:Int) (w:Way) (ws:List (Int×Way)):List (Int×Way):=if (lk t ws).isSome=true then tu t w ws else ws++[(t,w)]
theorem Ph {t:Int}:∀ws:List (Int×Way),qu (.inl t) (kvW ws)=(lk t ws).isSome
 | []=>rfl
 | (k,w)::r=>by
  show (if bB (.int k)=some (.inl t) then true else qu (.inl t) (kvW r))=_
  unfold lk
  by_cases h:k=t
  · subst h;rw[if_pos (show bB (.int k)=some (.inl k) from rfl),if_pos rfl];rfl
  · rw[if_neg (show ¬ bB (.int k)=some (.inl t) from fun z=>h (mi.inj (Option.some.inj z))),if_neg h]
    exact Ph r
theorem MJ {t:Int}{w:Way}:∀ws:List (Int×Way),An (.inl t) (wD w) (kvW ws)=kvW (tu t w ws)
 | []=>rfl
 | (k,w')::r=>by
  show (if bB (.int k)=some (.inl t) then (ae.int k,wD w) else (.int k,wD w'))::An (.inl t) (wD w) (kvW r)=_
  rw[MJ r]
  show _=(ae.int (if k=t then (k,w) else (k,w')).1,wD (if k=t then (k,w) else (k,w')).2)::kvW (tu t w r)
  by_cases h:k=t
  · subst h;rw[if_pos (show bB (.int k)=some (.inl k) from rfl),if_pos rfl]
  · rw[if_neg (show ¬ bB (.int k)=some (.inl t) from fun z=>h (mi.inj (Option.some.inj z))),if_neg h]
theorem Ub {t:Int}{w:Way}{ws:List (Int×Way)}:ig (.int t) (.inl t) (wD w) (kvW ws)=kvW (fc t w ws):=by
 unfold ig fc
 rw[Ph]
 split
 · exact MJ ws
 · unfold kvW;rw[dk];rfl
noncomputable def bZ (ws:List (Int×Way)) (q:Int×Way):List (Int×Way):=match lk q.1 ws with
 | none=>fc q.1 q.2 ws
 | some w0=>if q.2.c < w0.c then fc q.1 q.2 ws else ws
theorem wM {ws:List (Int×Way)}:(kvW ws).length=ws.length:=by unfold kvW;rw[av]
theorem T7 {i:Nat}{m1 m2:ME}{Γ:Ev}{t:Int}{w:Way}{ws:List (Int×Way)} (h2:m2 Γ = .ok (wD w)) (h1:m1 Γ = .ok (.int t)) (hg:gv Γ i=some (.dict (kvW ws))) (hl:ws.length≤100000) (hi:i < Γ.length):jH i m1 m2 Γ = .ok (.nx (Γ.set i (some (.dict (kvW (fc t w ws)))))):=by
 unfold jH
 rw[h2,Res.aV,h1,Res.aV,hg]
 show gd ((kvW ws).length < bg∧i < Γ.length) (Res.ok (Out.nx (Γ.set i (some (.dict (ig (.int t) (.inl t) (wD w) (kvW ws)))))))=_
 rw[bM ⟨by rw[wM];exact size_le hl,hi⟩,Ub]
theorem xu {t:Int}{w:Way}{ws:List (Int×Way)} (h:lk t ws=some w):ixY (.dict (kvW ws)) (.int t) = .ok (wD w):=by
 show (match b8 (.inl t) (kvW ws) with
  | some d=>Res.ok d
  | none=>.bad)=_
 rw[KQ,h];rfl
theorem mV {t:Int}{ws:List (Int×Way)}:ir (.int t) (.dict (kvW ws)) = .ok (.bool (!(lk t ws).isSome)):=by
 show Res.ok (ae.bool (!(b8 (.inl t) (kvW ws)).isSome))=_
 rw[KQ,ra]
theorem uw {w:Way}:ixD (wD w) (.int 0) = .ok (.int (w.c:Nat)):=rfl
theorem Wf {ws:List (Int×Way)}{t:Int}{w:Way} (hl:ws.length≤100000):iG [.dict (kvW ws),.int t,wD w] = .ok (.tuple [.none,.dict (kvW (bZ ws (t,w)))]):=by
 unfold iG Qu
 show Res.bind (sIf _ _ _ [some (.dict (kvW ws)),some (.int t),some (wD w)]) _=_
 walk_at "ev"
 rw[mV]
 walk_at "ev"
 unfold bZ
 cases h:lk t ws with
 | none=>
  walk_at "ev"
  rw[show (!(none:Option Way).isSome)=true from rfl]
  walk_at "ev"
  rw[T7 (ws:=ws) (t:=t) (w:=w) rfl rfl rfl hl (of_decide_eq_true rfl)]
  rfl
 | some w0=>
  rw[show (!(some w0:Option Way).isSome)=false from rfl]
  walk_at "ev"
  rw[uw,xu h]
  walk_at "ev"
  rw[uw]
  walk_at "ev"
  show _=Res.ok (ae.tuple [.none,.dict (kvW (if w.c < w0.c then fc t w ws else ws))])
  by_cases lt:w.c < w0.c
  · rw[if_pos lt,decide_eq_true (show ((w.c:Nat):Int) < ((w0.c:Nat):Int) by omega)]
    walk_at "ev"
    rw[T7 (ws:=ws) (t:=t) (w:=w) rfl rfl rfl hl (of_decide_eq_true rfl)]
    rfl
  · rw[if_neg lt,decide_eq_false (show ¬ ((w.c:Nat):Int) < ((w0.c:Nat):Int) by omega)]
    walk_at "ev"
theorem yg {i:Nat}{ms:List ME}{Γ:Ev}{ws:List (Int×Way)}{t:Int}{w:Way} (h:evs ms Γ = .ok [.dict (kvW ws),.int t,wD w]) (hl:ws.length≤100000):vG i iG ms Γ = .ok (.nx (Γ.set i (some (.dict (kvW (bZ ws (t,w))))))):=by
 unfold vG
 rw[h,Res.aV,Wf hl]
 rfl
theorem S9 {ws:List (Int×Way)}{q:Int×Way}:(bZ ws q).length≤ws.length+1:=by
 have hp:(fc q.1 q.2 ws).length≤ws.length+1:=by
  unfold fc tu
  split
  · rw[av];omega
  · rw[aw];exact aE _
 unfold bZ
 split
 · exact hp
 · split
   · exact hp
   · omega
noncomputable def bF (n:Nat):List Int:=(fh n).map fun j=>jr n j
noncomputable def cX:Way:=⟨0,none,[]⟩
noncomputable def uI (n:Nat):List (Int×Way):=((bF n).map fun t=>(t,cX)).foldl bZ []
noncomputable def mG (gs:List (Nat×Int)) (n:Nat):List (Int×Way):=(gs.filter fun g=>decide (g.1=0)).map fun g=>(eF g.2 [] n,⟨1,some g,[]⟩)
noncomputable def lu (gs:List (Nat×Int)) (n:Nat):List (Int×Way):=(mG gs n).foldl bZ (uI n)
theorem uU:∀{qs ws:List (Int×Way)},(qs.foldl bZ ws).length≤ws.length+qs.length
 | [],ws=>aE _
 | q::qs,ws=>by
  rw[nX,cE]
  have h1:=uU (qs:=qs) (ws:=bZ ws q)
  have h2:=S9 (ws:=ws) (q:=q)
  omega
theorem Gp {gs:List (Nat×Int)}{n:Nat} (hn:n≤4) (hg:gs.length≤100):iD [.list (gs.map dGp),.int (n:Nat)] = .ok (.dict (kvW (lu gs n))):=by
 unfold iD
 walk_at "ev"
 rw[show qw [] [some (.list (gs.map dGp)),some (.int (n:Nat)),none,none,none] = .ok (.dict (kvW [])) from rfl]
 walk_at "ev"
 rw[Av hn]
 walk_at "ev"
 have hb:(bF n).length=n:=by unfold bF;rw[av,fE]
 refine cj (xs:=(bF n).map ae.int) (fun i=>[some (.list (gs.map dGp)),some (.int (n:Nat)),some (.dict (kvW ((((bF n).take i).map fun t=>(t,cX)).foldl bZ []))),none,none]) rfl (fun i x hx=>?_) ?_
 · obtain ⟨t,et,rfl⟩:=jj hx
   have hi:=(br.mp et).1
   have hl:=uU (qs:=((bF n).take i).map fun t=>(t,cX)) (ws:=[])
   rw[av,eM,ma] at hl
   rw[yO]
   show Res.bind (Res.bind (Res.ok ([some (.list (gs.map dGp)),some (.int (n:Nat)),some (.dict (kvW ((((bF n).take i).map fun t=>(t,cX)).foldl bZ []))),some (.int t),none]:Ev)) _) _=_
   rw[Res.aV,yg (ws:=(((bF n).take i).map fun t=>(t,cX)).foldl bZ []) (t:=t) (w:=cX) rfl (by omega),take_snoc et,dk,mB]
   rfl
 · rw[av,fS]
   walk_at "ev"
   refine cj (fun i=>[some (.list (gs.map dGp)),some (.int (n:Nat)),some (.dict (kvW ((mG (gs.take i) n).foldl bZ (uI n)))),none,none]) rfl (fun i x hx=>?_) ?_
   · obtain ⟨g,eg,rfl⟩:=jj hx
     have hi:=(br.mp eg).1
     have hl0:=uU (qs:=(bF n).map fun t=>(t,cX)) (ws:=[])
     rw[av,ma] at hl0
     have afd:(uI n).length≤n:=by show (((bF n).map fun t=>(t,cX)).foldl bZ []).length≤n;omega
     have hlc:(mG (gs.take i) n).length≤i:=by
      unfold mG
      rw[av]
      exact eR (rV _ _) (by rw[eM];exact Nat.min_le_left _ _)
     have hl:=uU (qs:=mG (gs.take i) n) (ws:=uI n)
     have hc:mG (gs.take (i+1)) n=mG (gs.take i) n++if g.1=0 then [(eF g.2 [] n,⟨1,some g,[]⟩)] else []:=by
      unfold mG
      rw[take_snoc eg,List.filter_append,dk]
      congr 1
      by_cases h:g.1=0
      · rw[ja (by simpa using h),if_pos h];rfl
      · rw[iA (by simpa using h),if_neg h];rfl
     rw[hc,mB]
     generalize (mG (gs.take i) n).foldl bZ (uI n)=ws at hl ⊢
     rw[yO]
     show Res.bind (Res.bind (Res.ok ([some (.list (gs.map dGp)),some (.int (n:Nat)),some (.dict (kvW ws)),none,some (dG g.1 g.2)]:Ev)) _) _=_
     rw[Res.aV]
     walk_at "ev"
     by_cases h:g.1=0
     · rw[decide_eq_true (show ((g.1:Nat):Int)=0 by omega),if_pos h]
       walk_at "ev"
       have ea:evs [(aj 2),(bz qM [(aj 4),(cL []),(aj 1)]),(cY [(eC (.int 1)),(aj 4),(cY [])])] [some (.list (gs.map dGp)),some (.int (n:Nat)),some (.dict (kvW ws)),none,some (dG g.1 g.2)] = .ok [.dict (kvW ws),.int (eF g.2 [] n),wD ⟨1,some g,[]⟩]:=by
        walk_at "ev"
        rw[show ae.list []=dL [] from rfl,T5 (by rw[h];rfl) (by omega) hn]
        walk_at "ev"
        rfl
       rw[yg ea (by omega)]
       rfl
     · rw[decide_eq_false (show ¬ ((g.1:Nat):Int)=0 by omega),if_neg h]
       walk_at "ev"
       rfl
   · rw[av,fS]
     walk_at "ev"
     rfl
noncomputable def aD (ws:List (Int×Way)):List Int:=ws.map (·.1)
noncomputable def bh (fs:List (Int×Way)) (t:Int):Nat:=((lk t fs).map (·.c)).getD 0
noncomputable def iR (fs:List (Int×Way)) (c:List Int):Nat:=(c.map fun p=>bh fs p).sum
noncomputable def jq (fs:List (Int×Way)) (t:Int):List Int:=(aD fs).filter fun k=>!decide (k=t)
noncomputable def oW (fs:List (Int×Way)) (g:Nat×Int) (n:Nat) (c:List Int):Option (Int×Way):=if (lk (eF g.2 c n) fs).isSome=true then none else some (eF g.2 c n,⟨1+iR fs c,some g,c⟩)
noncomputable def tY (fs:List (Int×Way)) (t:Int) (g:Nat×Int) (n:Nat):List (Int×Way):=(jd (jq fs t) [t] g.1).filterMap (oW fs g n)
noncomputable def qD (q:Int×Way):ae:=.tuple [.int q.1,wD q.2]
theorem Gr:∀ns:List Nat,(ns.map fun k=>((k:Nat):Int)).sum=((ns.sum:Nat):Int)
 | []=>rfl
 | k::ns=>by rw[dy,i4,Gr ns,i4,zi]
theorem Tq {fs:List (Int×Way)}{t:Int}{a b:ae}{q:List (Option ae)} (hl:fs.length≤128):cP (itK 0) (gN 0) (aq neD (aj 0) (aj 1)) (aj 0) 1 [1] (some (.dict (kvW fs))::some (.int t)::q) = .ok (dL (jq fs t)):=by
 rw[zg (xs:=aD fs) ae.int (fun k=>!decide (k=t)) ae.int ?_ (size_le (by unfold aD;rw[av];omega)) (fun k hk=>?_) fun k hk h=>?_]
 · rfl
 · show Res.ok ((kvW fs).map (·.1))=_
   unfold kvW aD
   rw[hZ,hZ];rfl
 · walk_at "ev"
 · walk_at "ev"
theorem X3 {α β:Type}{f:α→Option β}{a:α}:List.filterMap f [a]=(f a).toList:=by cases h:f a <;> simp[h]
theorem HF {fs:List (Int×Way)}{t:Int}{g:Nat×Int}{n:Nat} (hl:fs.length≤128) (hm:g.1≤4) (hn:n≤4) (ho:(jq fs t).length+1≤fs.length) (hp:fs.length^g.1≤20000) (ht:t∈aD fs) :
 gW [.dict (kvW fs),.int t,dG g.1 g.2,.int (n:Nat)] = .ok (.list ((tY fs t g n).map qD)):=by
 have hp':((jq fs t).length+[t].length)^g.1≤20000:=eR (na ho _) hp
 have hfl:(jd (jq fs t) [t] g.1).length≤80000:=by
  have:=places_len hp' g.1 (aE _)
  show ((fh g.1).flatMap fun p=>cI (dw (jq fs t) [t] g.1 p)).length≤_
  omega
 unfold gW
 walk_at "ev"
 rw[Tq (a:=.none) (b:=.none) hl]
 walk_at "ev"
 rw[show ae.list [.int t]=dL [t] from rfl,BK (by show (jq fs t).length+1≤128;omega) hm hp']
 walk_at "ev"
 refine cj (fun i=>[some (.dict (kvW fs)),some (.int t),some (dG g.1 g.2),some (.int (n:Nat)),some (dL (jq fs t)),some (.list ((((jd (jq fs t) [t] g.1).take i).filterMap (oW fs g n)).map qD)),none,none,none]) rfl (fun i x hx=>?_) ?_
 · obtain ⟨c,ec,rfl⟩:=jj hx
   have hi:=(br.mp ec).1
   obtain ⟨hcl,hcm⟩:=pQ (gX ec)
   have hck:∀p∈c,∃w,lk p fs=some w:=fun p hpc=>by
    have:p∈aD fs:=by
     rcases eJ.mp (hcm p hpc) with h | h
     · exact (kx.mp h).1
     · rw[be.mp h];exact ht
    exact fy.mp (gq.mpr this)
   walk_at "ev"
   rw[T5 hcl hm hn]
   walk_at "ev"
   rw[mV,take_snoc ec,List.filterMap_append]
   walk_at "ev"
   rw[X3]
   have hll:(((jd (jq fs t) [t] g.1).take i).filterMap (oW fs g n)).length≤80000:=eR (List.length_filterMap_le _ _) (by rw[eM];omega)
   generalize ((jd (jq fs t) [t] g.1).take i).filterMap (oW fs g n)=L at hll ⊢
   unfold oW
   by_cases h:(lk (eF g.2 c n) fs).isSome=true
   · rw[if_pos h,h]
     walk_at "ev"
     rw[show (none:Option (Int×Way)).toList=[] from rfl,fb]
   · rw[if_neg h,xb.mpr h]
     walk_at "ev"
     rw[qJ (xs:=c) ae.int (fun p=>.int ((bh fs p:Nat):Int)) ?_ (size_le (by omega)) fun p hpc=>?_]
     rotate_left
     · walk_at "ev"
     · obtain ⟨w,hw⟩:=hck p hpc
       walk_at "ev"
       rw[xu hw]
       walk_at "ev"
       rw[uw]
       unfold bh
       rw[hw];rfl
     walk_at "ev"
     rw[show c.map (fun p=>ae.int ((bh fs p:Nat):Int))=((c.map fun p=>bh fs p).map fun k=>((k:Nat):Int)).map ae.int by rw[hZ,hZ];rfl,Cq,Gr]
     walk_at "ev"
     rw[show uY [dL c] = .ok (dR c) from rfl]
     walk_at "ev"
     rw[bM (nS hll (by decide))]
     walk_at "ev"
     rw[dk,show (1:Int)+(((c.map fun p=>bh fs p).sum:Nat):Int)=((1+iR fs c:Nat):Int) by rw[zi];rfl]
     rfl
 · rw[av,fS]
   walk_at "ev"
   rfl
theorem Mm {t:Int}{w:Way}{ws:List (Int×Way)}:aD (tu t w ws)=aD ws:=by
 unfold aD tu
 rw[hZ]
 refine kX fun q _=>?_
 show (if q.1=t then (q.1,w) else q).1=q.1
 split <;> rfl
theorem O9 {t:Int}{w:Way}{ws:List (Int×Way)} (h:(aD ws).Nodup):(aD (fc t w ws)).Nodup:=by
 unfold fc
 split
 · rw[Mm];exact h
 · rename_i hn
   unfold aD
   rw[dk]
   refine fT.mpr ⟨h,by simp,fun a ha b hb e=>?_⟩
   have:b=t:=by simpa using hb
   subst this;subst e
   exact hn (gq.mpr ha)
theorem RP {t:Int}{w:Way}{ws:List (Int×Way)}{q:Int×Way} (h:q∈fc t w ws):(q∈ws∧q.1≠t)∨q=(t,w):=by
 unfold fc at h
 split at h
 · unfold tu at h
   obtain ⟨r,hr,e⟩:=dc.mp h
   by_cases z:r.1=t
   · rw[if_pos z] at e;subst e;exact .inr (by rw[z])
   · rw[if_neg z] at e;subst e;exact .inl ⟨hr,z⟩
 · rename_i hn
   rcases eJ.mp h with h | h
   · refine .inl ⟨h,fun z=>hn (gq.mpr ?_)⟩
     exact dc.mpr ⟨q,h,z⟩
   · exact .inr (be.mp h)
theorem G4 {t:Int}{w:Way}{ws:List (Int×Way)}:(t,w)∈fc t w ws:=by
 unfold fc
 split
 · rename_i h
   obtain ⟨w',hw⟩:=fy.mp h
   exact dc.mpr ⟨(t,w'),z7 hw,by rw[if_pos rfl]⟩
 · exact cy _ (be.mpr rfl)
theorem RL {t:Int}{w:Way}{ws:List (Int×Way)}{q:Int×Way} (h:q∈ws) (hn:q.1≠t):q∈fc t w ws:=by
 unfold fc
 split
 · exact dc.mpr ⟨q,h,by rw[if_neg hn]⟩
 · exact ff _ h
structure xq (ws:List (Int×Way)) (qs:List (Int×Way)) (ws':List (Int×Way)):Prop where
 nd:(aD ws').Nodup
 mem:∀q∈ws',q∈ws∨q∈qs
 old:∀q∈ws,∃w',(q.1,w')∈ws'∧w'.c≤q.2.c
 new:∀q∈qs,∃w',(q.1,w')∈ws'∧w'.c≤q.2.c
theorem Xz {ws:List (Int×Way)}{q:Int×Way} (h:(aD ws).Nodup):xq ws [q] (bZ ws q):=by
 obtain ⟨t,w⟩:=q
 have put:(∀w0,(t,w0)∈ws→w.c≤w0.c)→xq ws [(t,w)] (fc t w ws):=fun hw=>by
  refine ⟨O9 h,fun r hr=>?_,fun r hr=>?_,fun r hr=>?_⟩
  · rcases RP hr with z | z
    · exact .inl z.1
    · exact .inr (be.mpr z)
  · by_cases z:r.1=t
    · refine ⟨w,by rw[z];exact G4,hw r.2 ?_⟩
      rw[← z];exact hr
    · exact ⟨r.2,RL hr z,aE _⟩
  · rw[be.mp hr]
    exact ⟨w,G4,aE _⟩
 unfold bZ
 cases e:lk t ws with
 | none=>exact put fun w0 h0=>absurd (dc.mpr ⟨_,h0,rfl⟩) (xm.mp e)
 | some w0=>
  show xq ws [(t,w)] (if w.c < w0.c then fc t w ws else ws)
  by_cases lt:w.c < w0.c
  · rw[if_pos lt]
    refine put fun w1 h1=>?_
    have:=oO h h1
    rw[e] at this
    cases this
    omega
  · rw[if_neg lt]
    refine ⟨h,fun r hr=>.inl hr,fun r hr=>⟨r.2,hr,aE _⟩,fun r hr=>?_⟩
    rw[be.mp hr]
    exact ⟨w0,z7 e,kF lt⟩
theorem mW:∀{qs ws:List (Int×Way)},(aD ws).Nodup→xq ws qs (qs.foldl bZ ws)
 | [],ws,h=>⟨h,fun r hr=>.inl hr,fun r hr=>⟨r.2,hr,aE _⟩,fun r hr=>nomatch hr⟩
 | q::qs,ws,h=>by
  have a:=Xz (q:=q) h
  have b:=mW (qs:=qs) a.nd
  rw[nX]
  refine ⟨b.nd,fun r hr=>?_,fun r hr=>?_,fun r hr=>?_⟩
  · rcases b.mem r hr with z | z
    · rcases a.mem r z with y | y
      · exact .inl y
      · exact .inr (by rw[be.mp y];exact cf)
    · exact .inr (bq _ z)
  · obtain ⟨w1,h1,c1⟩:=a.old r hr
    obtain ⟨w2,h2,c2⟩:=b.old _ h1
    exact ⟨w2,h2,eR c2 c1⟩
  · rcases de.mp hr with rfl | hr
    · obtain ⟨w1,h1,c1⟩:=a.new _ (be.mpr rfl)
      obtain ⟨w2,h2,c2⟩:=b.old _ h1
      exact ⟨w2,h2,eR c2 c1⟩
    · exact b.new r hr
noncomputable def VW (gs:List (Nat×Int)) (n:Nat) (fs:List (Int×Way)) (q:Int×Way):Prop:=
 (q.2=cX∧q.1∈bF n)∨∃g∈gs,q.2.g=some g∧q.2.ts.length=g.1∧(∀p∈q.2.ts,p∈aD fs)∧eF g.2 q.2.ts n=q.1∧q.2.c=1+iR fs q.2.ts
theorem N6 {fs gs:List (Int×Way)}{t:Int} (h:t∈aD fs):lk t (fs++gs)=lk t fs:=by
 induction fs with
 | nil=>cases h
 | cons q fs ih=>
  obtain ⟨k,w⟩:=q
  show lk t ((k,w)::(fs++gs))=_
  unfold lk
  by_cases e:k=t
  · rw[if_pos e,if_pos e]
  · rw[if_neg e,if_neg e]
    refine ih ?_
    rcases de.mp h with z | z
    · exact absurd z.symm e
    · exact z
theorem vA {fs gs:List (Int×Way)}{c:List Int} (h:∀p∈c,p∈aD fs):iR (fs++gs) c=iR fs c:=by
 unfold iR
 congr 1
 refine kX fun p hp=>?_
 unfold bh
 rw[N6 (h p hp)]
theorem VW.app {gs:List (Nat×Int)}{n:Nat}{fs hs:List (Int×Way)}{q:Int×Way} (h:VW gs n fs q):VW gs n (fs++hs) q:=by
 rcases h with h | ⟨g,h1,h2,h3,h4,h5,h6⟩
 · exact .inl h
 · exact .inr ⟨g,h1,h2,h3,fun p hp=>by unfold aD;rw[dk];exact ff _ (h4 p hp),h5,by rw[vA h4];exact h6⟩
structure dD (gs:List (Nat×Int)) (n:Nat) (fs ws:List (Int×Way)):Prop where
 nd:(aD fs++aD ws).Nodup
 bd:∀t∈aD fs++aD ws,0≤t∧t < 2^2^n
 vf:∀(i:Nat) (q:Int×Way),fs[i]?=some q→VW gs n (fs.take i) q
 vw:∀q∈ws,VW gs n fs q
 inp:∀t∈bF n,∃w,(t,w)∈fs++ws∧w.c=0
 cl:∀g∈gs,∀c:List Int,c.length=g.1→(∀p∈c,p∈aD fs)→∃w,(eF g.2 c n,w)∈fs++ws∧w.c≤1+iR fs c
 mo:∀q∈fs,∀r∈ws,q.2.c≤r.2.c
theorem V0 {n:Nat}:∀t∈bF n,0≤t∧t < 2^2^n:=fun t ht=>by
 obtain ⟨j,_,rfl⟩:=dc.mp ht
 exact ⟨Hg _ _,Sd _ _⟩
theorem JM {b:Int}{ts:List Int}{n:Nat}:0≤eF b ts n∧eF b ts n < 2^2^n:=⟨yN fun _=>gf _ _,Px fun _=>gf _ _⟩
theorem VW.bd {gs:List (Nat×Int)}{n:Nat}{fs:List (Int×Way)}{q:Int×Way} (h:VW gs n fs q):0≤q.1∧q.1 < 2^2^n:=by
 rcases h with ⟨_,h⟩ | ⟨g,_,_,_,_,h,_⟩
 · exact V0 _ h
 · rw[← h];exact JM
theorem NK {gs:List (Nat×Int)}{n:Nat}:dD gs n [] (lu gs n):=by
 have a:xq [] ((bF n).map fun t=>(t,cX)) (uI n):=mW List.nodup_nil
 have b:xq (uI n) (mG gs n) (lu gs n):=mW a.nd
 have hm:∀q∈lu gs n,VW gs n [] q:=fun q hq=>by
  rcases b.mem q hq with h | h
  · rcases a.mem q h with h | h
    · cases h
    · obtain ⟨t,ht,rfl⟩:=dc.mp h
      exact .inl ⟨rfl,ht⟩
  · unfold mG at h
    obtain ⟨g,hg,rfl⟩:=dc.mp h
    obtain ⟨hg,h0⟩:=kx.mp hg
    exact .inr ⟨g,hg,rfl,(of_decide_eq_true h0).symm,(fun p hp=>nomatch hp),rfl,rfl⟩
 refine ⟨b.nd,fun t ht=>?_,fun i q e=>by simp at e,hm,fun t ht=>?_,fun g hg c hl hc=>?_,fun q hq=>nomatch hq⟩
 · obtain ⟨q,hq,rfl⟩:=dc.mp (show t∈aD (lu gs n) from ht)
   exact (hm q hq).bd
 · obtain ⟨w1,h1,c1⟩:=a.new (t,cX) (dc.mpr ⟨t,ht,rfl⟩)
   obtain ⟨w2,h2,c2⟩:=b.old _ h1
   have c1:w1.c≤0:=c1
   have c2:w2.c≤w1.c:=c2
   exact ⟨w2,h2,by omega⟩
 · have e:c=[]:=List.eq_nil_iff_forall_not_mem.mpr fun x hx=>nomatch hc x hx
   subst e
   obtain ⟨w,h1,c1⟩:=b.new (eF g.2 [] n,⟨1,some g,[]⟩) (dc.mpr ⟨g,kx.mpr ⟨hg,decide_eq_true hl.symm⟩,rfl⟩)
   exact ⟨w,h1,c1⟩
theorem NQ {old fresh c:List Int}{n:Nat} (h:c∈jd old fresh n):∃x∈c,x∈fresh:=by
 obtain ⟨p,hp,h⟩:=kL.mp h
 have hp:=iX.mp hp
 obtain ⟨h1,h2⟩:=qF.mp h
 rw[gB hp] at h1 h2
 have h3:=h2 p hp
 rw[wz hp hp,if_neg (g7 _),if_pos rfl] at h3
 refine ⟨_,?_,h3⟩
 rw[ax,aI (by omega)]
 exact List.getElem_mem _
noncomputable def eN (gs:List (Nat×Int)) (fs:List (Int×Way)) (t:Int) (n:Nat):List (Int×Way):=gs.flatMap fun g=>tY fs t g n
theorem Ay {fs:List (Int×Way)}{t:Int}:∀{c:List Int},t∈c→bh fs t≤iR fs c
 | a::c,h=>by
  unfold iR
  rw[dy,i4]
  rcases de.mp h with rfl | h
  · omega
  · have:=Ay (fs:=fs) h
    unfold iR at this
    omega
theorem dD.step {gs:List (Nat×Int)}{n:Nat}{fs ws:List (Int×Way)}{t:Int}{w:Way} (I:dD gs n fs ws) (h:(t,w)∈ws) (hmin:∀q∈ws,w.c≤q.2.c) :
 dD gs n (fs++[(t,w)]) ((eN gs (fs++[(t,w)]) t n).foldl bZ (ws.filter fun q=>!decide (q.1=t))):=by
 obtain ⟨nd,bd,vf,vw,inp,cl,mo⟩:=I
 have ndf:=(fT.mp nd).1
 have ndw:=(fT.mp nd).2.1
 have dis:=(fT.mp nd).2.2
 have htw:t∈aD ws:=dc.mpr ⟨_,h,rfl⟩
 have htf:t∉aD fs:=fun z=>dis t z t htw rfl
 have k1:aD (fs++[(t,w)])=aD fs++[t]:=by unfold aD;rw[dk];rfl
 have nd1:(aD (fs++[(t,w)])).Nodup:=by
  rw[k1]
  exact fT.mpr ⟨ndf,by simp,fun a ha b hb e=>by rw[be] at hb;subst hb;subst e;exact htf ha⟩
 have hf1:∀q,q∈ws.filter (fun q=>!decide (q.1=t))↔q∈ws∧q.1≠t:=fun q=>by simp
 have ad2:(aD (ws.filter fun q=>!decide (q.1=t))).Nodup:=by
  unfold aD
  exact List.Sublist.nodup (List.Sublist.map _ (List.filter_sublist)) ndw
 have O:=mW (qs:=eN gs (fs++[(t,w)]) t n) ad2
 have cw:bh (fs++[(t,w)]) t=w.c:=by
  unfold bh
  rw[oO nd1 (cy _ (be.mpr rfl))];rfl
 have hnew:∀q∈eN gs (fs++[(t,w)]) t n,∃g∈gs,∃c∈jd (jq (fs++[(t,w)]) t) [t] g.1,q=(eF g.2 c n,⟨1+iR (fs++[(t,w)]) c,some g,c⟩)∧eF g.2 c n∉aD (fs++[(t,w)]):=fun q hq=>by
  obtain ⟨g,hg,hq⟩:=kL.mp hq
  obtain ⟨c,hc,e⟩:=gp.mp hq
  unfold oW at e
  split at e
  · cases e
  · rename_i hs
    cases e
    exact ⟨g,hg,c,hc,rfl,fun z=>hs (gq.mpr z)⟩
 have hck:∀{g:Nat×Int}{c:List Int},c∈jd (jq (fs++[(t,w)]) t) [t] g.1→∀p∈c,p∈aD (fs++[(t,w)]):=fun hc p hp=>by
  rcases eJ.mp ((pQ hc).2 p hp) with z | z
  · exact (kx.mp z).1
  · rw[be.mp z,k1];exact cy _ (be.mpr rfl)
 have ad1:∀q∈eN gs (fs++[(t,w)]) t n,VW gs n (fs++[(t,w)]) q:=fun q hq=>by
  obtain ⟨g,hg,c,hc,rfl,_⟩:=hnew q hq
  exact .inr ⟨g,hg,rfl,(pQ hc).1,hck hc,rfl,rfl⟩
 have aau:∀q∈(eN gs (fs++[(t,w)]) t n).foldl bZ (ws.filter fun q=>!decide (q.1=t)),VW gs n (fs++[(t,w)]) q:=fun q hq=>by
  rcases O.mem q hq with z | z
  · exact (vw q ((hf1 q).mp z).1).app
  · exact ad1 q z
 have mv:∀{v:Int}{w':Way}{k:Nat},(v,w')∈fs++ws→w'.c≤k→∃w2,(v,w2)∈(fs++[(t,w)])++(eN gs (fs++[(t,w)]) t n).foldl bZ (ws.filter fun q=>!decide (q.1=t))∧w2.c≤k:=fun {v w' k} hv hk=>by
  rcases eJ.mp hv with z | z
  · exact ⟨w',ff _ (ff _ z),hk⟩
  · by_cases e:v=t
    · subst e
      have:=oO ndw z
      rw[oO ndw h] at this
      cases this
      exact ⟨w,ff _ (cy _ (be.mpr rfl)),hk⟩
    · obtain ⟨w2,h2,c2⟩:=O.old (v,w') ((hf1 _).mpr ⟨z,e⟩)
      exact ⟨w2,cy _ h2,eR c2 hk⟩
 refine ⟨?_,fun x hx=>?_,fun i q e=>?_,aau,fun x hx=>?_,fun g hg c hl hc=>?_,fun q hq r hr=>?_⟩
 · refine fT.mpr ⟨nd1,O.nd,fun a ha b hb e=>?_⟩
   subst e
   obtain ⟨q,hq,rfl⟩:=dc.mp hb
   rcases O.mem q hq with z | z
   · obtain ⟨z1,z2⟩:=(hf1 q).mp z
     rw[k1] at ha
     rcases eJ.mp ha with y | y
     · exact dis _ y _ (dc.mpr ⟨q,z1,rfl⟩) rfl
     · exact z2 (be.mp y)
   · obtain ⟨g,_,c,_,rfl,hn⟩:=hnew q z
     exact hn ha
 · rcases eJ.mp hx with z | z
   · rw[k1] at z
     rcases eJ.mp z with y | y
     · exact bd x (ff _ y)
     · rw[be.mp y];exact bd t (cy _ htw)
   · obtain ⟨q,hq,rfl⟩:=dc.mp z
     exact (aau q hq).bd
 · rcases kq i fs.length with hi | hi
   · rw[eh hi] at e
     rw[nz (gy hi)]
     exact vf i q e
   · have hi':i < (fs++[(t,w)]).length:=(br.mp e).1
     rw[aw] at hi'
     have hie:i=fs.length:=by
      have:i < fs.length+1:=hi'
      omega
     subst hie
     rw[dt (aE _),rL] at e
     have e:=Option.some.inj e
     subst e
     rw[nz (aE _),fS]
     exact vw _ h
 · obtain ⟨w',h1,h2⟩:=inp x hx
   obtain ⟨w2,h3,h4⟩:=mv (k:=0) h1 (by omega)
   exact ⟨w2,h3,by omega⟩
 · by_cases hall:∀p∈c,p∈aD fs
   · obtain ⟨w',h1,h2⟩:=cl g hg c hl hall
     rw[vA hall]
     exact mv h1 h2
   · have hx:∃x∈c,x∉aD fs:=vT fun z=>hall fun x hx=>vT fun z'=>z ⟨x,hx,z'⟩
     obtain ⟨x,hx,hxn⟩:=hx
     have hxt:x=t:=by
      have:=hc x hx
      rw[k1] at this
      rcases eJ.mp this with y | y
      · exact absurd y hxn
      · exact be.mp y
     subst hxt
     have hct:w.c≤iR (fs++[(x,w)]) c:=by rw[← cw];exact Ay hx
     have hno:x∉jq (fs++[(x,w)]) x:=fun z=>by
      have:=(kx.mp z).2
      simp at this
     have hcf:c∈jd (jq (fs++[(x,w)]) x) [x] g.1:=JW hl (fun p hp=>by
      by_cases e:p=x
      · exact cy _ (be.mpr e)
      · exact ff _ (kx.mpr ⟨hc p hp,by simp[e]⟩)) ⟨x,hx,hno⟩
     by_cases hv:(lk (eF g.2 c n) (fs++[(x,w)])).isSome=true
     · obtain ⟨w',hw'⟩:=fy.mp hv
       have hm:=z7 hw'
       refine ⟨w',ff _ hm,?_⟩
       rcases eJ.mp hm with z | z
       · have:=mo _ z _ h
         have:w'.c≤w.c:=this
         omega
       · have:=be.mp z
         cases this
         omega
     · obtain ⟨w2,h2,c2⟩:=O.new (eF g.2 c n,⟨1+iR (fs++[(x,w)]) c,some g,c⟩) (kL.mpr ⟨g,hg,gp.mpr ⟨c,hcf,by unfold oW;rw[if_neg hv]⟩⟩)
       exact ⟨w2,cy _ h2,c2⟩
 · have hq':q.2.c≤w.c:=by
    rcases eJ.mp hq with z | z
    · exact mo q z _ h
    · rw[be.mp z];exact aE _
   rcases O.mem r hr with z | z
   · exact eR hq' (hmin r ((hf1 r).mp z).1)
   · obtain ⟨g,_,c,hc,rfl,_⟩:=hnew r z
     obtain ⟨x,hx,hxt⟩:=NQ hc
     rw[be.mp hxt] at hx
     have:=Ay (fs:=fs++[(t,w)]) hx
     rw[cw] at this
     show q.2.c≤1+iR (fs++[(t,w)]) c
     omega
theorem Ax:∀{ws:List (Int×Way)}{t:Int}{c:Int},∃t',ik (.int t) c (kvW ws) = .ok (.int t')
 | [],t,c=>⟨t,rfl⟩
 | (k,w)::r,t,c=>by
  show ∃t',(if ((w.c:Nat):Int) < c then ik (.int k) (w.c:Nat) (kvW r) else ik (.int t) c (kvW r)) = .ok (.int t')
  by_cases h:((w.c:Nat):Int) < c
  · rw[if_pos h];exact Ax
  · rw[if_neg h];exact Ax
theorem abw {ws:List (Int×Way)} (h:ws≠[]):∃t w,iU (kvW ws) = .ok (.int t)∧(t,w)∈ws∧∀q∈ws,w.c≤q.2.c:=by
 cases ws with
 | nil=>exact absurd rfl h
 | cons q r=>
  obtain ⟨k,w⟩:=q
  obtain ⟨t,ht⟩:∃t',iU (kvW ((k,w)::r)) = .ok (.int t'):=by
   show ∃t',ik (.int k) (w.c:Nat) (kvW r) = .ok (.int t')
   exact Ax
  obtain ⟨_,l,q,c,e1,e2,e3,e4⟩:=zT ht
  unfold kvW at e1
  rw[cp] at e1
  obtain ⟨⟨t',w'⟩,e5,e6⟩:=y3.mp e1
  subst e6
  cases e3
  have e2:some ((w'.c:Nat):Int)=some c:=e2
  cases e2
  refine ⟨t',w',ht,gX e5,fun q hq=>?_⟩
  obtain ⟨l2,hl2,e6⟩:=i9.mp hq
  have e7:(kvW ((k,w)::r))[l2]?=some (ae.int q.1,wD q.2):=by
   unfold kvW
   rw[cp,aI hl2,e6];rfl
  have:=(e4 l2 _ ((q.2.c:Nat):Int) e7 rfl).1
  omega
theorem Mw {t:Int}:∀{ws:List (Int×Way)},mK (.inl t) (kvW ws)=kvW (ws.filter fun q=>!decide (q.1=t))
 | []=>rfl
 | (k,w)::r=>by
  have ih:=Mw (t:=t) (ws:=r)
  unfold mK at ih
  unfold mK
  show ((ae.int k,wD w)::kvW r).filter _=_
  by_cases e:k=t
  · subst e
    rw[iA (by simp[bB]),iA (by simp)]
    exact ih
  · rw[ja (by simp[bB,e]),ja (by simp[e]),ih]
    rfl
theorem Uq {n:Nat}{ws qs:List (Int×Way)} (hn:n≤4) (h:(aD ws).Nodup) (h1:∀q∈ws,0≤q.1∧q.1 < 2^2^n) (h2:∀q∈qs,0≤q.1∧q.1 < 2^2^n):(qs.foldl bZ ws).length≤65536:=by
 have O:=mW (qs:=qs) h
 have h8:2^2^n≤2^2^4:=fo (by decide) (fo (by decide) hn)
 have:=uP (N:=2^2^n) O.nd fun x hx=>by
  rw[show ((2^2^n:Nat):Int)=2^2^n by simp]
  obtain ⟨q,hq,rfl⟩:=dc.mp hx
  rcases O.mem q hq with z | z
  · exact h1 q z
  · exact h2 q z
 unfold aD at this
 rw[av] at this
 omega
noncomputable def wCn:ME:=aq gtD (eFn uy [(aj 3)]) (eC (.int 0))
noncomputable def wRf:MS:=sEx (bz cB [(eFn uy [(aj 2)]),(aj 0)])
noncomputable def wFr:MS:=eG (itL (aj 0)) (gN 5) [5,6,7] (eG (itL (bz gW [(aj 2),(aj 4),(aj 5),(aj 1)])) (gT [(gN 6),(gN 7)]) [6,7] (vG 3 iG [(aj 3),(aj 6),(aj 7)]))
noncomputable def wBd:MS:=aO (aY 4 (zN 3)) (aO (sI 2 3 4) (aO wRf wFr))
noncomputable def wG (gs:List (Nat×Int)) (n:Nat) (fs ws:List (Int×Way)):Ev:=[some (.list (gs.map dGp)),some (.int (n:Nat)),some (.dict (kvW fs)),some (.dict (kvW ws)),none,none,none,none]
noncomputable def wG2 (gs:List (Nat×Int)) (n:Nat) (fs ws:List (Int×Way)) (t:Int):Ev:=[some (.list (gs.map dGp)),some (.int (n:Nat)),some (.dict (kvW fs)),some (.dict (kvW ws)),some (.int t),none,none,none]
section
variable {gs:List (Nat×Int)}{n:Nat}{fs ws:List (Int×Way)}
theorem V1 (hz:ws≠[]):wCn (wG gs n fs ws) = .ok (.bool true):=by
 unfold wCn wG
 walk_at "ev"
 rw[show uy [.dict (kvW ws)] = .ok (.int ((kvW ws).length:Nat)) from rfl,wM]
 walk_at "ev"
 rw[decide_eq_true (show (0:Int) < ((ws.length:Nat):Int) by have:=List.length_pos_iff.mpr hz;omega)]
theorem Yo:wCn (wG gs n fs []) = .ok (.bool false):=by
 unfold wCn wG
 walk_at "ev"
 rfl
theorem Eu {t:Int}:evs [(eFn uy [(aj 2)]),(aj 0)] (wG2 gs n fs ws t) = .ok [.int (fs.length:Nat),.list (gs.map dGp)]:=by
 unfold wG2
 walk_at "ev"
 rw[show uy [.dict (kvW fs)] = .ok (.int ((kvW fs).length:Nat)) from rfl,wM]
 walk_at "ev"
theorem aaw {t:Int}{w:Way} (hm:iU (kvW ws) = .ok (.int t)) (I:dD gs n fs ws) (h:(t,w)∈ws) (hf:fs.length≤100000):∃Γ,aY 4 (zN 3) (wG gs n fs ws) = .ok (.nx Γ)∧sI 2 3 4 Γ = .ok (.nx (wG2 gs n (fs++[(t,w)]) (ws.filter fun q=>!decide (q.1=t)) t)):=by
 have ndw:=(fT.mp I.nd).2.1
 have htf:t∉aD fs:=fun z=>(fT.mp I.nd).2.2 t z t (dc.mpr ⟨_,h,rfl⟩) rfl
 refine ⟨[some (.list (gs.map dGp)),some (.int (n:Nat)),some (.dict (kvW fs)),some (.dict (kvW ws)),some (.int t),none,none,none],?_,?_⟩
 · rw[uv]
   show Res.bind (iU (kvW ws)) _=_
   rw[hm];rfl
 · show (match b8 (.inl t) (kvW ws) with
    | some d=>gd ((kvW fs).length < bg∧2 < 8∧3 < 8) (Res.ok (Out.nx [some (.list (gs.map dGp)),some (.int (n:Nat)),some (.dict (ig (.int t) (.inl t) d (kvW fs))),some (.dict (mK (.inl t) (kvW ws))),some (.int t),none,none,none]))
    | none=>.bad)=_
   rw[KQ,oO ndw h]
   show gd ((kvW fs).length < bg∧2 < 8∧3 < 8) _=_
   rw[bM ⟨by rw[wM];exact size_le hf,by decide,by decide⟩,Ub,Mw]
   unfold fc
   rw[xm.mpr htf]
   rfl
theorem aar {t:Int} (h:gH fs.length gs) (hg:gs.length≤8) (hm:∀g∈gs,g.1≤4):wRf (wG2 gs n fs ws t) = .bad:=by
 unfold wRf sEx
 rw[nQ,Eu,Res.aV,Hz h (by omega) hm];rfl
theorem XC {t:Int} (h:¬ gH fs.length gs) (hg:gs.length≤8) (hm:∀g∈gs,g.1≤4):wRf (wG2 gs n fs ws t) = .ok (.nx (wG2 gs n fs ws t)):=by
 have h1:fs.length≤128:=kF fun z=>h (.inl z)
 have h2:fO fs.length gs≤20000:=kF fun z=>h (.inr z)
 unfold wRf
 refine Xq (d:=.none) ?_
 rw[nQ,Eu,Res.aV,Ib h1 (by omega) hm h2]
theorem aah {t:Int} (hn:n≤4) (hg:gs.length≤8) (hm:∀g∈gs,g.1≤4) (h:¬ gH fs.length gs) (ho:(jq fs t).length+1≤fs.length) (ht:t∈aD fs) (hd:(aD ws).Nodup) (hb:∀q∈ws,0≤q.1∧q.1 < 2^2^n) :
 wFr (wG2 gs n fs ws t) = .ok (.nx (wG2 gs n fs ((eN gs fs t n).foldl bZ ws) t)):=by
 have h1:fs.length≤128:=kF fun z=>h (.inl z)
 have h2:fO fs.length gs≤20000:=kF fun z=>h (.inr z)
 have hq:∀g:Nat×Int,∀q∈tY fs t g n,0≤q.1∧q.1 < 2^2^n:=fun g q hq=>by
  obtain ⟨c,_,e⟩:=gp.mp hq
  unfold oW at e
  split at e
  · cases e
  · cases e;exact JM
 have hqs:∀gs:List (Nat×Int),∀q∈eN gs fs t n,0≤q.1∧q.1 < 2^2^n:=fun gs q hq'=>by
  obtain ⟨g,_,h⟩:=kL.mp hq'
  exact hq g q h
 unfold wFr wG2
 walk_at "ev"
 have step:∀(i:Nat) (x:ae),(gs.map dGp)[i]?=some x→((gN 5 x (wG2 gs n fs ((eN (gs.take i) fs t n).foldl bZ ws) t)).bind (eG (itL (bz gW [(aj 2),(aj 4),(aj 5),(aj 1)])) (gT [(gN 6),(gN 7)]) [6,7] (vG 3 iG [(aj 3),(aj 6),(aj 7)]))).bind (jA [5,6,7]) = .ok (.nx (wG2 gs n fs ((eN (gs.take (i+1)) fs t n).foldl bZ ws) t)):=fun i x hx=>by
  obtain ⟨g,eg,rfl⟩:=jj hx
  have hgi:=gX eg
  unfold wG2
  walk_at "ev"
  rw[HF h1 (hm g hgi) hn ho (eR (Ql hgi) h2) ht]
  walk_at "ev"
  have O:=mW (qs:=eN (gs.take i) fs t n) hd
  have hb2:∀q∈(eN (gs.take i) fs t n).foldl bZ ws,0≤q.1∧q.1 < 2^2^n:=fun q hq'=>by
   rcases O.mem q hq' with z | z
   · exact hb q z
   · exact hqs _ q z
  have en:eN (gs.take (i+1)) fs t n=eN (gs.take i) fs t n++tY fs t g n:=by
   unfold eN
   rw[take_snoc eg,pE]
   simp
  rw[en,mB]
  have hO:=O.nd
  generalize (eN (gs.take i) fs t n).foldl bZ ws=ws1 at hb2 hO ⊢
  refine cj (fun j=>[some (.list (gs.map dGp)),some (.int (n:Nat)),some (.dict (kvW fs)),some (.dict (kvW (((tY fs t g n).take j).foldl bZ ws1))),some (.int t),some (dG g.1 g.2),none,none]) rfl (fun j x hx=>?_) ?_
  · obtain ⟨q,eq,rfl⟩:=jj hx
    have hl:=Uq (qs:=(tY fs t g n).take j) hn hO hb2 (fun q hq'=>hq g q (kQ hq'))
    rw[take_snoc eq,mB]
    generalize ((tY fs t g n).take j).foldl bZ ws1=ws2 at hl ⊢
    show Res.bind (Res.bind (Res.ok ([some (.list (gs.map dGp)),some (.int (n:Nat)),some (.dict (kvW fs)),some (.dict (kvW ws2)),some (.int t),some (dG g.1 g.2),some (.int q.1),some (wD q.2)]:Ev)) _) _=_
    rw[Res.aV,yg (ws:=ws2) (t:=q.1) (w:=q.2) rfl (by omega)]
    rfl
  · rw[av,fS]
    rfl
 have e:=Jr (xs:=gs.map dGp) (fun i=>wG2 gs n fs ((eN (gs.take i) fs t n).foldl bZ ws) t) rfl step
 rw[av,fS] at e
 exact e
theorem Vi {fs:List (Int×Way)}{t:Int}{w:Way}:(jq (fs++[(t,w)]) t).length+1≤(fs++[(t,w)]).length:=by
 unfold jq aD
 rw[dk,List.filter_append,aw,aw]
 have h1:=rV (fun k=>!decide (k=t)) (fs.map (·.1))
 rw[av] at h1
 have h2:(([(t,w)]:List (Int×Way)).map (·.1)).filter (fun k=>!decide (k=t))=[]:=by simp
 rw[h2]
 simp only[ma,eP]
 omega
theorem dD.len (I:dD gs n fs ws) (hn:n≤4):fs.length+ws.length≤65536:=by
 have h8:2^2^n≤2^2^4:=fo (by decide) (fo (by decide) hn)
 have:=uP (N:=2^2^n) I.nd fun x hx=>by
  rw[show ((2^2^n:Nat):Int)=2^2^n by simp]
  exact I.bd x hx
 unfold aD at this
 rw[aw,av,av] at this
 omega
theorem Yj {t:Int}{w:Way} (I:dD gs n fs ws) (hn:n≤4) (hg:gs.length≤8) (hm:∀g∈gs,g.1≤4) (hk:iU (kvW ws) = .ok (.int t)) (h:(t,w)∈ws) (hG:¬ gH (fs.length+1) gs) :
 ∃Γ',wBd (wG gs n fs ws) = .ok (.nx Γ')∧clr [4,5,6,7] Γ'=wG gs n (fs++[(t,w)]) ((eN gs (fs++[(t,w)]) t n).foldl bZ (ws.filter fun q=>!decide (q.1=t))):=by
 have hlen:=I.len hn
 obtain ⟨Γ,e1,e2⟩:=aaw hk I h (by omega)
 have hG':¬ gH (fs++[(t,w)]).length gs:=by rw[aw];exact hG
 have ndw:=(fT.mp I.nd).2.1
 refine ⟨wG2 gs n (fs++[(t,w)]) ((eN gs (fs++[(t,w)]) t n).foldl bZ (ws.filter fun q=>!decide (q.1=t))) t,?_,rfl⟩
 unfold wBd
 rw[cW,e1,Res.aV,jM,cW,e2,Res.aV,jM,cW,XC hG' hg hm,Res.aV,jM]
 refine aah hn hg hm hG' Vi ?_ ?_ ?_
 · unfold aD;rw[dk];exact cy _ (be.mpr rfl)
 · unfold aD
   exact List.Sublist.nodup (List.Sublist.map _ (List.filter_sublist)) ndw
 · intro q hq
   exact (I.vw q (kx.mp hq).1).bd
theorem Y4 {t:Int}{w:Way} (I:dD gs n fs ws) (hn:n≤4) (hg:gs.length≤8) (hm:∀g∈gs,g.1≤4) (hk:iU (kvW ws) = .ok (.int t)) (h:(t,w)∈ws) (hG:gH (fs.length+1) gs):wBd (wG gs n fs ws) = .bad:=by
 have hlen:=I.len hn
 obtain ⟨Γ,e1,e2⟩:=aaw hk I h (by omega)
 have hG':gH (fs++[(t,w)]).length gs:=by rw[aw];exact hG
 unfold wBd
 rw[cW,e1,Res.aV,jM,cW,e2,Res.aV,jM,cW,aar hG' hg hm]
 rfl
theorem Nm (J:List (Int×Way)→List (Int×Way)→Prop) (hJ:∀fs ws t w,J fs ws→dD gs n fs ws→iU (kvW ws) = .ok (.int t)→(t,w)∈ws→J (fs++[(t,w)]) ((eN gs (fs++[(t,w)]) t n).foldl bZ (ws.filter fun q=>!decide (q.1=t)))) (hn:n≤4) (hg:gs.length≤8) (hm:∀g∈gs,g.1≤4):∀(m k:Nat) (fs ws:List (Int×Way)),J fs ws→dD gs n fs ws→(fs=[]∨¬ gH fs.length gs)→k+fs.length=65536→k < m →
 (∃L,whR wCn [4,5,6,7] wBd m (wG gs n fs ws) = .ok (.nx (wG gs n L []))∧dD gs n L []∧J L []∧(L=[]∨¬ gH L.length gs)) ∨
 (whR wCn [4,5,6,7] wBd m (wG gs n fs ws) = .bad∧(∀(zb:MZ) (T:Str),(∀fs ws t w,dD gs n fs ws→iU (kvW ws) = .ok (.int t)→(t,w)∈ws→gH (fs.length+1) gs→zb (wG gs n fs ws) = .ok T)→rF wCn [4,5,6,7] wBd zb m (wG gs n fs ws) = .ok T)∧∃fs ws,dD gs n fs ws∧gH fs.length gs)
 | 0,k,fs,ws,_,_,_,_,h=>absurd h (mf _)
 | m+1,k,fs,ws,j,I,ho,hk,hkm=>by
  by_cases hz:ws=[]
  · subst hz
    left
    refine ⟨fs,?_,I,j,ho⟩
    rw[whR,Yo];rfl
  · have hy:=V1 (gs:=gs) (n:=n) (fs:=fs) hz
    have hpos:=List.length_pos_iff.mpr hz
    have hlen:=I.len hn
    obtain ⟨t,w,e,h,hmin⟩:=abw hz
    have I':=I.step h hmin
    have j':=hJ fs ws t w j I e h
    by_cases hG:gH (fs.length+1) gs
    · right
      have hb:=Y4 I hn hg hm e h hG
      refine ⟨?_,fun zb T h'=>?_,_,_,I',by rw[aw];exact hG⟩
      · rw[whR,hy,Res.aV]
        show (wBd _).bind _=_
        rw[hb];rfl
      · rw[rF,hy,Res.aV]
        show (match wBd (wG gs n fs ws) with
         | .ok (.nx Γ2)=>rF wCn [4,5,6,7] wBd zb m (clr [4,5,6,7] Γ2)
         | _=>zb (wG gs n fs ws))=_
        rw[hb]
        exact h' fs ws t w I e h hG
    · obtain ⟨Γ',e1,e2⟩:=Yj I hn hg hm e h hG
      generalize (eN gs (fs++[(t,w)]) t n).foldl bZ (ws.filter fun q=>!decide (q.1=t))=ws' at I' j' e2
      have ew:whR wCn [4,5,6,7] wBd (m+1) (wG gs n fs ws)=whR wCn [4,5,6,7] wBd m (wG gs n (fs++[(t,w)]) ws'):=by
       rw[whR,hy,Res.aV]
       show (wBd _).bind _=_
       rw[e1,Res.aV]
       show whR wCn [4,5,6,7] wBd m (clr [4,5,6,7] Γ')=_
       rw[e2]
      have ez:∀zb:MZ,rF wCn [4,5,6,7] wBd zb (m+1) (wG gs n fs ws)=rF wCn [4,5,6,7] wBd zb m (wG gs n (fs++[(t,w)]) ws'):=fun zb=>by
       rw[rF,hy,Res.aV]
       show (match wBd (wG gs n fs ws) with
        | .ok (.nx Γ2)=>rF wCn [4,5,6,7] wBd zb m (clr [4,5,6,7] Γ2)
        | _=>zb (wG gs n fs ws))=_
       rw[e1]
       show rF wCn [4,5,6,7] wBd zb m (clr [4,5,6,7] Γ')=_
       rw[e2]
      rw[ew]
      simp only[ez]
      exact Nm J hJ hn hg hm m (k - 1) (fs++[(t,w)]) ws' j' I' (.inr (by rw[aw];exact hG)) (by rw[aw];show k - 1+(fs.length+1)=_;omega) (by omega)
theorem Le (J:List (Int×Way)→List (Int×Way)→Prop) (hJ:∀fs ws t w,J fs ws→dD gs n fs ws→iU (kvW ws) = .ok (.int t)→(t,w)∈ws→J (fs++[(t,w)]) ((eN gs (fs++[(t,w)]) t n).foldl bZ (ws.filter fun q=>!decide (q.1=t)))) (h0:J [] (lu gs n)) (hn:n≤4) (hg:gs.length≤8) (hm:∀g∈gs,g.1≤4) :
 (∃L,cZ [.list (gs.map dGp),.int (n:Nat)] = .ok (.dict (kvW L))∧dD gs n L []∧J L []∧(L=[]∨¬ gH L.length gs)) ∨
 (cZ [.list (gs.map dGp),.int (n:Nat)] = .bad∧kI 1000000 wCn [4,5,6,7] wBd (wG gs n [] (lu gs n)) = .bad∧(∀(zb:MZ) (T:Str),(∀fs ws t w,dD gs n fs ws→iU (kvW ws) = .ok (.int t)→(t,w)∈ws→gH (fs.length+1) gs→zb (wG gs n fs ws) = .ok T)→ZV 1000000 wCn [4,5,6,7] wBd zb (wG gs n [] (lu gs n)) = .ok T)∧∃fs ws,dD gs n fs ws∧gH fs.length gs):=by
 have e0:cZ [.list (gs.map dGp),.int (n:Nat)]=Res.bind (aO (kI 1000000 wCn [4,5,6,7] wBd) (bQ (aj 2)) (wG gs n [] (lu gs n))) fin:=by
  unfold cZ
  show Res.bind (aO (aY 2 (qw [])) _ [some (.list (gs.map dGp)),some (.int (n:Nat)),none,none,none,none,none,none]) fin=_
  rw[cW,show aY 2 (qw []) [some (.list (gs.map dGp)),some (.int (n:Nat)),none,none,none,none,none,none] = .ok (.nx [some (.list (gs.map dGp)),some (.int (n:Nat)),some (.dict (kvW [])),none,none,none,none,none]) from rfl,Res.aV,jM,cW,show aY 3 (bz iD [(aj 0),(aj 1)]) [some (.list (gs.map dGp)),some (.int (n:Nat)),some (.dict (kvW [])),none,none,none,none,none] = .ok (.nx (wG gs n [] (lu gs n))) by
   rw[uv,nQ,show evs [(aj 0),(aj 1)] [some (.list (gs.map dGp)),some (.int (n:Nat)),some (.dict (kvW [])),none,none,none,none,none] = .ok [.list (gs.map dGp),.int (n:Nat)] from rfl,Res.aV,Gp hn (by omega)]
   rfl,Res.aV,jM]
  rfl
 rcases Nm J hJ hn hg hm 1000000 65536 [] (lu gs n) h0 NK (.inl rfl) rfl (by decide) with ⟨L,h1,h2,h3⟩ | ⟨h1,h2,h3⟩
 · left
   have h1:kI 1000000 wCn [4,5,6,7] wBd (wG gs n [] (lu gs n))=_:=h1
   refine ⟨L,?_,h2,h3⟩
   rw[e0,cW,h1,Res.aV,jM]
   rfl
 · right
   have h1:kI 1000000 wCn [4,5,6,7] wBd (wG gs n [] (lu gs n)) = .bad:=h1
   refine ⟨?_,h1,h2,h3⟩
   rw[e0,cW,h1]
   rfl
end
structure abm (gs:List (Nat×Int)) (n:Nat) (ts:List Int) (f:Int→Nat):Prop where
 nd:ts.Nodup
 so:ts.Pairwise (· ≤ ·)
 bd:∀t∈ts,0≤t∧t < 2^2^n
 inp:∀t∈bF n,t∈ts
 zer:∀t∈ts,(f t=0↔t∈bF n)
 cl:∀g∈gs,∀c:List Int,c.length=g.1→(∀p∈c,p∈ts)→eF g.2 c n∈ts∧f (eF g.2 c n)≤1+(c.map f).sum
 ju:∀t∈ts,0 < f t→∃g∈gs,∃c:List Int,c.length=g.1∧(∀p∈c,p∈ts)∧eF g.2 c n=t∧f t=1+(c.map f).sum
theorem pO {L:List (Int×Way)}{t:Int}{w:Way} (h:(aD L).Nodup) (hm:(t,w)∈L):bh L t=w.c:=by
 unfold bh
 rw[oO h hm];rfl
theorem dD.whole {gs:List (Nat×Int)}{n:Nat}{L:List (Int×Way)} (I:dD gs n L []):abm gs n (srt (aD L)) (bh L):=by
 obtain ⟨nd,bd,vf,vw,inp,cl,mo⟩:=I
 rw[show aD L++aD []=aD L from fb _] at nd bd
 rw[fb] at inp cl
 have hk:∀{t w},(t,w)∈L→t∈srt (aD L):=fun h=>lF.mpr (dc.mpr ⟨_,h,rfl⟩)
 have hv:∀t∈aD L,∃w,(t,w)∈L∧VW gs n L (t,w):=fun t ht=>by
  obtain ⟨⟨t',w⟩,hq,rfl⟩:=dc.mp ht
  obtain ⟨i,hi,e⟩:=i9.mp hq
  have h1:=vf i (t',w) (by rw[aI hi,e])
  have h2:=h1.app (hs:=L.drop i)
  rw[ip] at h2
  exact ⟨w,hq,h2⟩
 refine ⟨(lz _).nodup_iff.mpr nd,tL _,fun t ht=>bd t (lF.mp ht),fun t ht=>?_,fun t ht=>?_,fun g hg c hl hc=>?_,fun t ht h0=>?_⟩
 · obtain ⟨w,h1,_⟩:=inp t ht
   exact hk h1
 · constructor
   · intro h0
     obtain ⟨w,h1,h2⟩:=hv t (lF.mp ht)
     rw[pO nd h1] at h0
     rcases h2 with ⟨_,h⟩ | ⟨g,_,_,_,_,_,h⟩
     · exact h
     · have h:w.c=_:=h
       omega
   · intro h
     obtain ⟨w,h1,h2⟩:=inp t h
     rw[pO nd h1];exact h2
 · obtain ⟨w,h1,h2⟩:=cl g hg c hl fun p hp=>lF.mp (hc p hp)
   refine ⟨hk h1,?_⟩
   rw[pO nd h1];exact h2
 · obtain ⟨w,h1,h2⟩:=hv t (lF.mp ht)
   have e:=pO nd h1
   rcases h2 with ⟨h,_⟩ | ⟨g,k1,k2,k3,k4,k5,k6⟩
   · have h:w=cX:=h
     rw[e,h] at h0
     exact absurd h0 (g7 0)
   · refine ⟨g,k1,w.ts,k3,fun p hp=>lF.mpr (k4 p hp),k5,?_⟩
     rw[e];exact k6
noncomputable def kvC (ts:List Int) (f:Int→Nat):List (ae×ae):=ts.map fun t=>(ae.int t,ae.int (f t:Nat))
noncomputable def JX (f:Int→Nat) (t:Int):ae:=.tuple [.int t,.int (f t:Nat)]
theorem vK {t:Int}{f:Int→Nat}:∀{ts:List Int},b8 (.inl t) (kvC ts f)=if t∈ts then some (.int (f t:Nat)) else none
 | []=>rfl
 | k::ts=>by
  show (if bB (.int k)=some (.inl t) then some (ae.int (f k:Nat)) else b8 (.inl t) (kvC ts f))=_
  by_cases h:k=t
  · subst h;rw[if_pos (show bB (.int k)=some (.inl k) from rfl),if_pos cf]
  · rw[if_neg (show ¬ bB (.int k)=some (.inl t) from fun z=>h (mi.inj (Option.some.inj z))),vK (ts:=ts)]
    simp only[de,show ¬ t=k from fun z=>h z.symm,false_or]
theorem aaC {t:Int}{f:Int→Nat}{ts:List Int} (h:t∈ts):ixY (.dict (kvC ts f)) (.int t) = .ok (.int (f t:Nat)):=by
 show (match b8 (.inl t) (kvC ts f) with
  | some d=>Res.ok d
  | none=>.bad)=_
 rw[vK,if_pos h]
theorem Wh {t:Int}{f:Int→Nat}{ts:List Int}:ir (.int t) (.dict (kvC ts f)) = .ok (.bool (!decide (t∈ts))):=by
 show Res.ok (ae.bool (!(b8 (.inl t) (kvC ts f)).isSome))=_
 rw[vK]
 by_cases h:t∈ts
 · rw[if_pos h,decide_eq_true h];rfl
 · rw[if_neg h,decide_eq_false h];rfl
theorem Uk {t:Int}{f:Int→Nat}:∀{ts:List Int},qu (.inl t) (kvC ts f)=decide (t∈ts)
 | []=>rfl
 | k::ts=>by
  show (if bB (.int k)=some (.inl t) then true else qu (.inl t) (kvC ts f))=_
  by_cases h:k=t
  · subst h;rw[if_pos (show bB (.int k)=some (.inl k) from rfl)];simp
  · rw[if_neg (show ¬ bB (.int k)=some (.inl t) from fun z=>h (mi.inj (Option.some.inj z))),Uk (ts:=ts)]
    simp only[de,show ¬ t=k from fun z=>h z.symm,false_or]
theorem abA {t:Int}{f:Int→Nat}{ts:List Int} (h:t∉ts):ig (.int t) (.inl t) (.int (f t:Nat)) (kvC ts f)=kvC (ts++[t]) f:=by
 unfold ig
 rw[Uk,decide_eq_false h]
 unfold kvC
 rw[dk];rfl
theorem abg {i:Nat}{m1 m2:ME}{Γ:Ev}{t:Int}{f:Int→Nat}{ts:List Int} (h2:m2 Γ = .ok (.int (f t:Nat))) (h1:m1 Γ = .ok (.int t)) (hg:gv Γ i=some (.dict (kvC ts f))) (hn:t∉ts) (hl:ts.length≤100000) (hi:i < Γ.length):jH i m1 m2 Γ = .ok (.nx (Γ.set i (some (.dict (kvC (ts++[t]) f))))):=by
 unfold jH
 rw[h2,Res.aV,h1,Res.aV,hg]
 show gd ((kvC ts f).length < bg∧i < Γ.length) (Res.ok (Out.nx (Γ.set i (some (.dict (ig (.int t) (.inl t) (.int (f t:Nat)) (kvC ts f)))))))=_
 rw[bM ⟨by unfold kvC;rw[av];exact size_le hl,hi⟩,abA hn]
theorem IW:∀ws:List (Int×Way),m8 (kvW ws)=some (aD ws)
 | []=>rfl
 | (k,w)::r=>by
  show (m8 (kvW r)).map (k :: ·)=_
  rw[IW r];rfl
theorem Ml {ws:List (Int×Way)} (h:ws.length < 3000):Ae [.dict (kvW ws)] = .ok (dL (srt (aD ws))):=by
 show (match m8 (kvW ws) with
  | some ns=>gd (ns.length < 3000) (Res.ok (ae.list ((srt ns).map ae.int)))
  | none=>.bad)=_
 rw[IW]
 exact bM (by unfold aD;rw[av];exact h)
theorem W2 {gs:List (Nat×Int)}{n:Nat}{L:List (Int×Way)} (h:cZ [.list (gs.map dGp),.int (n:Nat)] = .ok (.dict (kvW L))) (I:dD gs n L []) (hl:L.length≤300):rR [.list (gs.map dGp),.int (n:Nat)] = .ok (.list ((srt (aD L)).map (JX (bh L)))):=by
 have nd:(aD L).Nodup:=by have:=I.nd;rwa [show aD L++aD []=aD L from fb _] at this
 unfold rR
 walk_at "ev"
 rw[h]
 walk_at "ev"
 rw[zr (ns:=srt (aD L)) (JX (bh L)) ?_ (size_le (by rw[(lz _).length_eq];unfold aD;rw[av];omega)) fun t ht=>?_]
 · walk_at "ev"
 · walk_at "ev"
   rw[Ml (by omega)]
   walk_at "ev"
   try rfl
 · walk_at "ev"
   obtain ⟨w,hw⟩:=fy.mp (gq.mpr (show t∈L.map (·.1) from lF.mp ht))
   rw[xu hw]
   walk_at "ev"
   rw[uw]
   walk_at "ev"
   unfold JX bh
   rw[hw];rfl
theorem Rj {gs:List (Nat×Int)}{n:Nat} (J:List (Int×Way)→List (Int×Way)→Prop) (hJ:∀fs ws t w,J fs ws→dD gs n fs ws→iU (kvW ws) = .ok (.int t)→(t,w)∈ws→J (fs++[(t,w)]) ((eN gs (fs++[(t,w)]) t n).foldl bZ (ws.filter fun q=>!decide (q.1=t)))) (h0:J [] (lu gs n)) (hn:n≤2) (hg:gs.length≤8) (hm:∀g∈gs,g.1≤4) (hc:fO (2^2^n) gs≤20000):∃L,cZ [.list (gs.map dGp),.int (n:Nat)] = .ok (.dict (kvW L))∧dD gs n L []∧J L []∧L.length≤16:=by
 have h4:2^2^n≤2^2^2:=fo (by decide) (fo (by decide) hn)
 have len:∀{fs ws:List (Int×Way)},dD gs n fs ws→fs.length≤2^2^n:=fun {fs ws} I=>by
  have:=uP (N:=2^2^n) (fT.mp I.nd).1 fun x hx=>by
   rw[show ((2^2^n:Nat):Int)=2^2^n by simp]
   exact I.bd x (ff _ hx)
  unfold aD at this
  rwa [av] at this
 rcases Le J hJ h0 (by omega) hg hm with ⟨L,h1,h2,hj,_⟩ | ⟨_,_,_,fs,ws,h2,h3⟩
 · exact ⟨L,h1,h2,hj,eR (len h2) h4⟩
 · have h5:=len h2
   rcases h3 with h3 | h3
   · omega
   · have:=Oo h5 gs
     omega
noncomputable def inW (ts:List Int):List (Int×Way):=ts.map fun t=>(t,cX)
structure oV (n:Nat) (fs ws:List (Int×Way)):Prop where
 few:fs.length < n→fs=inW ((bF n).take fs.length)∧∃rest,ws=inW ((bF n).drop fs.length)++rest∧∀q∈rest,1≤q.2.c
 all:n≤fs.length→fs.take n=inW (bF n)
theorem N5 {t:Int}:∀{ts:List Int},t∈ts→lk t (inW ts)=some cX
 | k::ts,h=>by
  show (if k=t then some cX else lk t (inW ts))=_
  by_cases e:k=t
  · rw[if_pos e]
  · rw[if_neg e]
    exact N5 ((de.mp h).resolve_left fun z=>e z.symm)
theorem uC {ts:List Int}:aD (inW ts)=ts:=by unfold aD inW;rw[hZ];exact AL ts
theorem BJ {t:Int}:∀{a b:List (Int×Way)},t∉aD a→lk t (a++b)=lk t b
 | [],b,_=>rfl
 | (k,w)::a,b,h=>by
  show (if k=t then some w else lk t (a++b))=_
  rw[if_neg (fun z=>h (by rw[← z];exact cf)),BJ (a:=a) fun z=>h (bq _ z)]
theorem Z9 {ts:List Int}{rest:List (Int×Way)}{q:Int×Way} (hr:∀r∈rest,1≤r.2.c) (hq:1≤q.2.c):∃rest',bZ (inW ts++rest) q=inW ts++rest'∧∀r∈rest',1≤r.2.c:=by
 by_cases hm:q.1∈ts
 · refine ⟨rest,?_,hr⟩
   unfold bZ
   rw[N6 (by rw[uC];exact hm),N5 hm]
   show (if q.2.c < cX.c then fc q.1 q.2 (inW ts++rest) else inW ts++rest)=_
   rw[if_neg (show ¬ q.2.c < cX.c from mf _)]
 · have hm':q.1∉aD (inW ts):=by rw[uC];exact hm
   have hp:∃rest',fc q.1 q.2 (inW ts++rest)=inW ts++rest'∧∀r∈rest',1≤r.2.c:=by
    unfold fc
    rw[BJ hm']
    split
    · refine ⟨tu q.1 q.2 rest,?_,fun r h=>?_⟩
      · unfold tu
        rw[dk]
        congr 1
        refine (kX fun r h=>?_).trans (List.map_id _)
        rw[if_neg (fun z=>hm' (dc.mpr ⟨r,h,z⟩))];rfl
      · obtain ⟨p,hp,rfl⟩:=dc.mp h
        split
        · exact hq
        · exact hr p hp
    · refine ⟨rest++[(q.1,q.2)],by rw[eS],fun r h=>?_⟩
      rcases eJ.mp h with z | z
      · exact hr r z
      · rw[be.mp z];exact hq
   unfold bZ
   rw[BJ hm']
   split
   · exact hp
   · split
     · exact hp
     · exact ⟨rest,rfl,hr⟩
theorem Aj {ts:List Int}:∀{qs rest:List (Int×Way)},(∀r∈rest,1≤r.2.c)→(∀q∈qs,1≤q.2.c)→∃rest',qs.foldl bZ (inW ts++rest)=inW ts++rest'∧∀r∈rest',1≤r.2.c
 | [],rest,hr,_=>⟨rest,rfl,hr⟩
 | q::qs,rest,hr,hq=>by
  obtain ⟨r1,e1,h1⟩:=Z9 (ts:=ts) hr (hq q cf)
  rw[nX,e1]
  exact Aj h1 fun p hp=>hq p (bq _ hp)
theorem FJ:∀{ts us:List Int},(us++ts).Nodup→(ts.map fun t=>(t,cX)).foldl bZ (inW us)=inW (us++ts)
 | [],us,_=>by rw[fb];rfl
 | t::ts,us,h=>by
  have hn:t∉us:=fun z=>(fT.mp h).2.2 t z t cf rfl
  have hk:t∉aD (inW us):=by rw[uC];exact hn
  rw[dy,nX,show bZ (inW us) (t,cX)=inW (us++[t]) by
   unfold bZ
   rw[xm.mpr hk]
   show fc t cX (inW us)=_
   unfold fc
   rw[xm.mpr hk]
   unfold inW
   rw[dk];rfl,FJ (by rw[eS];exact h),eS]
  rfl
theorem Hy {gs:List (Nat×Int)}{n:Nat} (hn:(bF n).Nodup):oV n [] (lu gs n):=by
 have e:uI n=inW (bF n):=by
  show ((bF n).map fun t=>(t,cX)).foldl bZ (inW [])=_
  rw[FJ (by rw[n4];exact hn),n4]
 obtain ⟨rest,e1,h1⟩:=Aj (ts:=bF n) (qs:=mG gs n) (rest:=[]) (fun r h=>nomatch h) fun q hq=>by
  unfold mG at hq
  obtain ⟨g,_,rfl⟩:=dc.mp hq
  exact aE _
 rw[fb] at e1
 refine ⟨fun _=>⟨rfl,rest,?_,h1⟩,fun h=>?_⟩
 · show (mG gs n).foldl bZ (uI n)=_
   rw[e,e1];rfl
 · have h:n=0:=Nat.le_zero.mp h
   subst h;rfl
theorem jy {n:Nat}:(bF n).length=n:=by unfold bF;rw[av,fE]
theorem Up {t:Int}{ts:List Int}{rest:List (Int×Way)} (h:t∉ts) (hr:t∉aD rest):(inW (t::ts)++rest).filter (fun q=>!decide (q.1=t))=inW ts++rest:=by
 show ((t,cX)::(inW ts++rest)).filter _=_
 rw[iA (by simp)]
 refine List.filter_eq_self.mpr fun q hq=>?_
 rcases eJ.mp hq with z | z
 · obtain ⟨u,hu,rfl⟩:=dc.mp z
   simp only[xa,decide_eq_false_iff_not]
   exact fun z=>h (z ▸ hu)
 · simp only[xa,decide_eq_false_iff_not]
   exact fun e=>hr (dc.mpr ⟨q,z,e⟩)
theorem zO {k:ae}:∀{r:List (Int×Way)},ik k 0 (kvW r) = .ok k
 | []=>rfl
 | (u,w)::r=>by
  show (if ((w.c:Nat):Int) < 0 then ik (.int u) (w.c:Nat) (kvW r) else ik k 0 (kvW r))=_
  rw[if_neg (by omega)]
  exact zO
theorem oV.step {gs:List (Nat×Int)}{n:Nat}{fs ws:List (Int×Way)}{t:Int}{w:Way} (F:oV n fs ws) (I:dD gs n fs ws) (hk:iU (kvW ws) = .ok (.int t)) (h:(t,w)∈ws) (hn:(bF n).Nodup) :
 oV n (fs++[(t,w)]) ((eN gs (fs++[(t,w)]) t n).foldl bZ (ws.filter fun q=>!decide (q.1=t))):=by
 have hl:(fs++[(t,w)]).length=fs.length+1:=by rw[aw];rfl
 by_cases hlt:fs.length < n
 · obtain ⟨e1,rest,e2,hr⟩:=F.few hlt
   obtain ⟨b,hb⟩:∃b,(bF n)[fs.length]?=some b:=⟨_,aI (by rw[jy];exact hlt)⟩
   have ed:(bF n).drop fs.length=b::(bF n).drop (fs.length+1):=by
    rw[iN (by rw[jy];exact hlt)]
    rw[aI (by rw[jy];exact hlt)] at hb
    rw[Option.some.inj hb]
   rw[ed] at e2
   have ndw:=(fT.mp I.nd).2.1
   have e2':ws=(b,cX)::(inW ((bF n).drop (fs.length+1))++rest):=e2
   have etb:t=b:=by
    rw[e2'] at hk
    have hk:ik (.int b) 0 (kvW (inW ((bF n).drop (fs.length+1))++rest)) = .ok (.int t):=hk
    rw[zO] at hk
    exact (ae.int.inj (Res.ok.inj hk)).symm
   subst etb
   have hw:w=cX:=by
    have h1:=oO ndw h
    have h2:=oO ndw (show (t,cX)∈ws by rw[e2'];exact cf)
    rw[h1] at h2
    exact Option.some.inj h2
   subst hw
   have hnd:t∉(bF n).drop (fs.length+1)∧t∉aD rest:=by
    rw[e2'] at ndw
    have h1:(t::(aD (inW ((bF n).drop (fs.length+1)))++aD rest)).Nodup:=by
     have:aD ((t,cX)::(inW ((bF n).drop (fs.length+1))++rest))=t::(aD (inW ((bF n).drop (fs.length+1)))++aD rest):=by
      unfold aD;rw[dy,dk]
     rwa [this] at ndw
    rw[uC] at h1
    have h2:=(lT.mp h1).1
    exact ⟨fun z=>h2 (ff _ z),fun z=>h2 (cy _ z)⟩
   have ew:ws.filter (fun q=>!decide (q.1=t))=inW ((bF n).drop (fs.length+1))++rest:=by
    rw[e2];exact Up hnd.1 hnd.2
   have ef:fs++[(t,cX)]=inW ((bF n).take (fs.length+1)):=by
    have h1:(bF n).take (fs.length+1)=(bF n).take fs.length++[t]:=take_snoc hb
    rw[h1]
    unfold inW
    rw[dk]
    show fs++_=inW ((bF n).take fs.length)++_
    rw[← e1];rfl
   obtain ⟨rest',e3,hr'⟩:=Aj (ts:=(bF n).drop (fs.length+1)) (qs:=eN gs (fs++[(t,cX)]) t n) hr fun q hq=>by
    obtain ⟨g,_,hq⟩:=kL.mp hq
    obtain ⟨c,_,e⟩:=gp.mp hq
    unfold oW at e
    split at e
    · cases e
    · cases e;exact Nat.le_add_right _ _
   rw[ew,e3]
   refine ⟨fun _=>⟨by rw[hl];exact ef,rest',by rw[hl],hr'⟩,fun hge=>?_⟩
   rw[hl] at hge
   have e4:n=fs.length+1:=by omega
   rw[ef,← e4,g6 (by unfold inW;rw[av,eM];omega),g6 (by rw[jy];exact aE _)]
 · have hge:n≤fs.length:=kF hlt
   refine ⟨fun z=>absurd z (by omega),fun _=>?_⟩
   rw[nz hge]
   exact F.all hge
noncomputable def kvD (D:List (Int×ae)):List (ae×ae):=D.map fun q=>(ae.int q.1,q.2)
noncomputable def lkD (t:Int):List (Int×ae)→Option ae
 | []=>none
 | (k,x)::r=>if k=t then some x else lkD t r
theorem TJ {t:Int}:∀D:List (Int×ae),b8 (.inl t) (kvD D)=lkD t D
 | []=>rfl
 | (k,x)::r=>by
  show (if bB (.int k)=some (.inl t) then some x else b8 (.inl t) (kvD r))=_
  unfold lkD
  by_cases h:k=t
  · subst h;rw[if_pos (show bB (.int k)=some (.inl k) from rfl),if_pos rfl]
  · rw[if_neg (show ¬ bB (.int k)=some (.inl t) from fun z=>h (mi.inj (Option.some.inj z))),if_neg h]
    exact TJ r
theorem Ak {t:Int}{x:ae}:∀{D:List (Int×ae)},lkD t D=some x→(t,x)∈D
 | (k,y)::r,h=>by
  unfold lkD at h
  by_cases e:k=t
  · rw[if_pos e] at h;cases h;subst e;exact cf
  · rw[if_neg e] at h;exact bq _ (Ak h)
theorem Gh {t:Int}:∀{D:List (Int×ae)},t∈D.map (·.1)→∃x,lkD t D=some x
 | (k,y)::r,h=>by
  unfold lkD
  by_cases e:k=t
  · exact ⟨y,by rw[if_pos e]⟩
  · rw[if_neg e]
    exact Gh ((de.mp h).resolve_left fun z=>e z.symm)
theorem TQ {t:Int}{x:ae}{D:List (Int×ae)} (h:lkD t D=some x):ixY (.dict (kvD D)) (.int t) = .ok x:=by
 show (match b8 (.inl t) (kvD D) with
  | some d=>Res.ok d
  | none=>.bad)=_
 rw[TJ,h]
theorem Og {t:Int}:∀{D:List (Int×ae)},t∉D.map (·.1)→qu (.inl t) (kvD D)=false
 | [],_=>rfl
 | (k,x)::r,h=>by
  show (if bB (.int k)=some (.inl t) then true else qu (.inl t) (kvD r))=_
  rw[if_neg (show ¬ bB (.int k)=some (.inl t) from fun z=>h (by rw[← mi.inj (Option.some.inj z)];exact cf))]
  exact Og fun z=>h (bq _ z)
theorem TF {i:Nat}{m1 m2:ME}{Γ:Ev}{t:Int}{x:ae}{D:List (Int×ae)} (h2:m2 Γ = .ok x) (h1:m1 Γ = .ok (.int t)) (hg:gv Γ i=some (.dict (kvD D))) (hn:t∉D.map (·.1)) (hl:D.length≤100000) (hi:i < Γ.length):jH i m1 m2 Γ = .ok (.nx (Γ.set i (some (.dict (kvD (D++[(t,x)])))))):=by
 unfold jH
 rw[h2,Res.aV,h1,Res.aV,hg]
 show gd ((kvD D).length < bg∧i < Γ.length) (Res.ok (Out.nx (Γ.set i (some (.dict (ig (.int t) (.inl t) x (kvD D)))))))=_
 rw[bM ⟨by unfold kvD;rw[av];exact size_le hl,hi⟩]
 unfold ig
 rw[Og hn]
 unfold kvD
 rw[dk]
 rfl
section
variable {gs:List (Nat×Int)}{n:Nat}{L:List (Int×Way)}
theorem Ng (F:oV n L []):L.take n=inW (bF n)∧n≤L.length:=by
 have h:n≤L.length:=kF fun z=>by
  obtain ⟨_,rest,e,_⟩:=F.few z
  have h1:=congrArg List.length e
  rw[ma,aw] at h1
  unfold inW at h1
  rw[av,oQ,jy] at h1
  omega
 exact ⟨F.all h,h⟩
theorem aaL (I:dD gs n L []) (F:oV n L []) {i:Nat}{q:Int×Way} (hq:L[i]?=some q) (hb:q.1∈bF n):i < n∧q.1=jr n i:=by
 obtain ⟨e,hl⟩:=Ng F
 have nd:(aD L).Nodup:=by have:=I.nd;rwa [show aD L++aD []=aD L from fb _] at this
 obtain ⟨j,hj,ej⟩:=i9.mp hb
 rw[jy] at hj
 have h1:(L.take n)[j]?=some (q.1,cX):=by
  rw[e]
  unfold inW
  rw[cp,aI (by rw[jy];exact hj),ej];rfl
 rw[mE hj] at h1
 have h2:(aD L)[j]?=(aD L)[i]?:=by
  unfold aD
  rw[cp,cp,h1,hq];rfl
 have hji:j=i:=(List.getElem?_inj (by unfold aD;rw[av];omega) nd).mp h2
 subst hji
 refine ⟨hj,?_⟩
 have h3:(bF n)[j]?=some (jr n j):=by unfold bF;rw[cp,ku hj];rfl
 rw[aI (by rw[jy];exact hj),ej] at h3
 exact Option.some.inj h3
theorem HS (T0:Nat→Int→Nat→ae→Prop) (hup:∀{k t c d},T0 k t c d→T0 (k+1) t c d) (aej:∀{k i},i < n→T0 k (jr n i) 0 (.int (i:Nat)))
 (abV:∀{k g}{ps:List (Int×Nat×ae)},g∈gs→ps.length=g.1→(∀p∈ps,T0 k p.1 p.2.1 p.2.2)→T0 (k+1) (eF g.2 (ps.map (·.1)) n) (1+(ps.map (·.2.1)).sum) (dT g.1 g.2 (ps.map (·.2.2))))
 (I:dD gs n L []) (F:oV n L []) (hg:∀g∈gs,g.1≤4) (hL:L.length≤1000) {t:Int} (ht:t∈aD L):∃d,iT [.dict (kvW L),.int t] = .ok d∧T0 L.length t (bh L t) d:=by
 have nd:(aD L).Nodup:=by have:=I.nd;rwa [show aD L++aD []=aD L from fb _] at this
 suffices hG:Gives (iT [.dict (kvW L),.int t]) fun d=>T0 L.length t (bh L t) d by
  obtain ⟨d,e,h⟩:=hG
  exact ⟨d,e,h⟩
 unfold iT
 walk_at "ev"
 rw[show ∀Γ,qw [] Γ = .ok (.dict (kvD [])) from fun _=>rfl]
 walk_at "ev"
 rw[show itI 0 [some (.dict (kvW L)),some (.int t),some (.dict (kvD [])),none,none] = .ok (L.map fun q=>ae.tuple [.int q.1,wD q.2]) by
  show Res.ok ((kvW L).map (fun q=>ae.tuple [q.1,q.2]))=_
  unfold kvW;rw[hZ];rfl,Res.aV]
 refine J4 (fun i Γ=>∃D:List (Int×ae),Γ=[some (.dict (kvW L)),some (.int t),some (.dict (kvD D)),none,none]∧D.map (·.1)=aD (L.take i)∧∀q∈D,T0 i q.1 (bh L q.1) q.2) ⟨[],rfl,rfl,fun q hq=>nomatch hq⟩ (fun i x Γ hx hI=>?_) fun Γ hI=>?_
 · obtain ⟨D,rfl,hk,hD⟩:=hI
   obtain ⟨⟨u,w⟩,eq,rfl⟩:=jj hx
   have hi:=(br.mp eq).1
   have hDl:D.length=i:=by
    have:=congrArg List.length hk
    unfold aD at this
    rw[av,av,eM] at this
    omega
   have hk1:aD (L.take (i+1))=aD (L.take i)++[u]:=by
    rw[take_snoc eq];unfold aD;rw[dk];rfl
   have hsub:∀p,p∈aD (L.take i)→p∈aD L:=fun p hp=>by
    obtain ⟨q,h1,rfl⟩:=dc.mp hp
    exact dc.mpr ⟨q,kQ h1,rfl⟩
   have hun:u∉D.map (·.1):=fun z=>by
    rw[hk] at z
    have h1:(aD L).take (i+1)=aD (L.take i)++[u]:=by
     rw[← hk1];unfold aD;rw[AD]
    have h2:(aD (L.take i)++[u]).Nodup:=by rw[← h1];exact nd.sublist (List.take_sublist _ _)
    exact (fT.mp h2).2.2 u z u (be.mpr rfl) rfl
   have hcw:bh L u=w.c:=pO nd (gX eq)
   have add:∀d,T0 (i+1) u (bh L u) d→∃D',(D++[(u,d)])=D'∧D'.map (·.1)=aD (L.take (i+1))∧∀q∈D',T0 (i+1) q.1 (bh L q.1) q.2:=fun d hd=>⟨_,rfl,by rw[dk,hk,hk1];rfl,fun q hq=>by
    rcases eJ.mp hq with z | z
    · exact hup (hD q z)
    · rw[be.mp z];exact hd⟩
   show Goes (Res.bind (Res.bind (Res.ok ([some (.dict (kvW L)),some (.int t),some (.dict (kvD D)),some (.int u),some (wD w)]:Ev)) _) _) _
   rw[Res.aV]
   rcases I.vf i (u,w) eq with ⟨hw,hb⟩ | ⟨g,h1,h2,h3,h4,h5,h6⟩
   · have hw:w=cX:=hw
     subst hw
     obtain ⟨hin,hu⟩:=aaL I F eq hb
     have hu:u=jr n i:=hu
     obtain ⟨D',e1,e2,e3⟩:=add (.int (i:Nat)) (by rw[hcw,hu];exact aej hin)
     unfold wD cX gD
     walk_at "ev"
     rw[show vz .none .none = .ok (.bool true) from rfl]
     walk_at "ev"
     rw[TF (t:=u) (x:=.int (i:Nat)) (D:=D) ?_ rfl rfl hun (by omega) (of_decide_eq_true rfl)]
     · exact ⟨_,rfl,D',by rw[← e1];rfl,e2,e3⟩
     · walk_at "ev"
       show Res.ok (ae.int ((kvD D).length:Nat))=_
       unfold kvD
       rw[av,hDl]
   · have h2:w.g=some g:=h2
     have h3:w.ts.length=g.1:=h3
     have h4:∀p∈w.ts,p∈aD (L.take i):=h4
     have h5:eF g.2 w.ts n=u:=h5
     have h6:w.c=1+iR (L.take i) w.ts:=h6
     have g1:=hg g h1
     have hch:∀p∈w.ts,∃d,lkD p D=some d∧T0 i p (bh L p) d:=fun p hp=>by
      obtain ⟨d,e⟩:=Gh (D:=D) (by rw[hk];exact h4 p hp)
      exact ⟨d,e,hD _ (Ak e)⟩
     have hps:∃T:Int→ae,∀p∈w.ts,lkD p D=some (T p)∧T0 i p (bh L p) (T p):=⟨fun p=>((lkD p D).getD .none),fun p hp=>by
      obtain ⟨d,e,h⟩:=hch p hp
      have e':(lkD p D).getD .none=d:=by rw[e];rfl
      show lkD p D=some ((lkD p D).getD .none)∧T0 i p (bh L p) ((lkD p D).getD .none)
      rw[e']
      exact ⟨e,h⟩⟩
     obtain ⟨T,hT⟩:=hps
     have aaP:T0 (i+1) (eF g.2 w.ts n) (1+(w.ts.map fun p=>bh L p).sum) (dT g.1 g.2 (w.ts.map T)):=by
      have:=abV (k:=i) (g:=g) (ps:=w.ts.map fun p=>(p,bh L p,T p)) h1 (by rw[av];exact h3) (fun q hq=>by
       obtain ⟨p,hp,rfl⟩:=dc.mp hq
       exact (hT p hp).2)
      rw[hZ,hZ,hZ] at this
      have e0:w.ts.map ((fun x:Int×Nat×ae=>x.1)∘fun p=>(p,bh L p,T p))=w.ts:=AL w.ts
      rw[e0] at this
      exact this
     have ec:w.c=1+(w.ts.map fun p=>bh L p).sum:=by
      rw[h6]
      have:=vA (fs:=L.take i) (gs:=L.drop i) (c:=w.ts) h4
      rw[ip] at this
      rw[← this];rfl
     obtain ⟨D',e1,e2,e3⟩:=add (dT g.1 g.2 (w.ts.map T)) (by rw[hcw,ec,← h5];exact aaP)
     obtain ⟨wc,wg,wt⟩:=w
     have h2:wg=some g:=h2
     subst h2
     walk_at "ev"
     rw[show ixD (wD ⟨wc,some g,wt⟩) (.int 1) = .ok (dGp g) from rfl]
     walk_at "ev"
     rw[show vz (dGp g) .none = .ok (.bool false) from rfl]
     walk_at "ev"
     rw[TF (t:=u) (x:=dT g.1 g.2 (wt.map T)) (D:=D) ?_ rfl rfl hun (by omega) (of_decide_eq_true rfl)]
     · exact ⟨_,rfl,D',by rw[← e1];rfl,e2,e3⟩
     · walk_at "ev"
       rw[show ixD (wD ⟨wc,some g,wt⟩) (.int 1) = .ok (dGp g) from rfl]
       walk_at "ev"
       rw[zr (ns:=wt) T ?_ (size_le (by have:wt.length=g.1:=h3;omega)) fun p hp=>?_]
       · walk_at "ev"
         rfl
       · walk_at "ev"
         rfl
       · walk_at "ev"
         exact TQ (hT p hp).1
 · obtain ⟨D,rfl,hk,hD⟩:=hI
   rw[av,fS] at hk
   rw[av] at hD
   walk_at "ev"
   obtain ⟨d,e⟩:=Gh (D:=D) (by rw[hk];exact ht)
   rw[TQ e]
   exact ⟨d,rfl,hD _ (Ak e)⟩
end
inductive MkT (gs:List (Nat×Int)) (n:Nat):Int→Nat→ae→Prop
 | inp {i:Nat} (hi:i < n):MkT gs n (jr n i) 0 (.int (i:Nat))
 | node {g:Nat×Int}{ps:List (Int×Nat×ae)} (hg:g∈gs) (hl:ps.length=g.1) (hp:∀p∈ps,MkT gs n p.1 p.2.1 p.2.2):MkT gs n (eF g.2 (ps.map (·.1)) n) (1+(ps.map (·.2.1)).sum) (dT g.1 g.2 (ps.map (·.2.2)))
section
variable {gs:List (Nat×Int)}{n:Nat}{L:List (Int×Way)}
theorem LR (h:cZ [.list (gs.map dGp),.int (n:Nat)] = .ok (.dict (kvW L))) (I:dD gs n L []) (F:oV n L []) (hg:∀g∈gs,g.1≤4) (hL:L.length≤1000) {t:Int} (ht:t∈aD L) (hc:bh L t≤300) :
 ∃d,cT [.list (gs.map dGp),.tuple [.int (n:Nat),.int t]] = .ok d∧MkT gs n t (bh L t) d:=by
 obtain ⟨d,e,hd⟩:=HS (fun _ t c d=>MkT gs n t c d) id MkT.inp MkT.node I F hg hL ht
 obtain ⟨w,hw⟩:=fy.mp (gq.mpr (show t∈L.map (·.1) from ht))
 have hcw:bh L t=w.c:=by unfold bh;rw[hw];rfl
 refine ⟨d,?_,hd⟩
 unfold cT
 walk_at "ev"
 rw[h]
 walk_at "ev"
 rw[mV,hw]
 walk_at "ev"
 rw[show (!(some w:Option Way).isSome)=false from rfl]
 walk_at "ev"
 rw[xu hw]
 walk_at "ev"
 rw[uw]
 walk_at "ev"
 rw[decide_eq_false (by omega)]
 walk_at "ev"
 rw[e]
 walk_at "ev"
theorem Ip (h:cZ [.list (gs.map dGp),.int (n:Nat)] = .ok (.dict (kvW L))) {t:Int} (ht:t∉aD L) :
 cT [.list (gs.map dGp),.tuple [.int (n:Nat),.int t]] = .bad:=by
 have hw:lk t L=none:=by
  cases e:lk t L with
  | none=>rfl
  | some w=>exact absurd (gq.mp (by rw[e];rfl)) ht
 unfold cT
 walk_at "ev"
 rw[h]
 walk_at "ev"
 rw[mV,hw]
 walk_at "ev"
 rw[show (!(none:Option Way).isSome)=true from rfl]
 walk_at "ev"
 rfl
theorem Ie (h:cZ [.list (gs.map dGp),.int (n:Nat)] = .ok (.dict (kvW L))) {t:Int} (ht:t∈aD L) (hc:300 < bh L t) :
 cT [.list (gs.map dGp),.tuple [.int (n:Nat),.int t]] = .bad:=by
 obtain ⟨w,hw⟩:=fy.mp (gq.mpr (show t∈L.map (·.1) from ht))
 have hcw:bh L t=w.c:=by unfold bh;rw[hw];rfl
 unfold cT
 walk_at "ev"
 rw[h]
 walk_at "ev"
 rw[mV,hw]
 walk_at "ev"
 rw[show (!(some w:Option Way).isSome)=false from rfl]
 walk_at "ev"
 rw[xu hw]
 walk_at "ev"
 rw[uw]
 walk_at "ev"
 rw[decide_eq_true (by omega)]
 walk_at "ev"
 rfl
end
theorem Al {f:Nat→Int} (t:Int) (hf:∀r,f r=0∨f r=1):∀W:Nat,gu (tab W f) t=tab W fun r=>if bf t (r:Nat)=1 then f r else 0
 | 0=>by show gu 0 t=0;exact vh t
 | W+1=>by
  have ih:=Al (f:=fun r=>f (r+1)) (t / 2) (fun r=>hf (r+1)) W
  rw[iW,iW]
  have f0:=hf 0
  obtain ⟨h1,h2⟩:=j8 (2*tab W (fun r=>f (r+1))+f 0) t
  rw[show (2*tab W (fun r=>f (r+1))+f 0) / 2=tab W (fun r=>f (r+1)) by omega,ih] at h1
  rw[show (2*tab W (fun r=>f (r+1))+f 0) % 2=f 0 by omega] at h2
  have e:(fun r:Nat=>if bf t ((r+1:Nat):Int)=1 then f (r+1) else 0)=fun r:Nat=>if bf (t / 2) (r:Nat)=1 then f (r+1) else 0:=by
   funext r;rw[nO]
  rw[e,show bf t ((0:Nat):Int)=t % 2 from nM t]
  have ht:t % 2=0∨t % 2=1:=by omega
  rcases ht with ht | ht <;> rw[ht] at h2 ⊢
  · rw[if_neg (by decide)];omega
  · rw[if_pos rfl];omega
theorem Oz {f g:Nat→Int} (hf:∀r,f r=0∨f r=1) (hg:∀r,g r=0∨g r=1):∀W:Nat,i0 (tab W f) (tab W g)=tab W fun r=>1 - (1 - f r)*(1 - g r)
 | 0=>by show i0 0 0=0;unfold i0 h9;decide +kernel
 | W+1=>by
  have ih:=Oz (f:=fun r=>f (r+1)) (g:=fun r=>g (r+1)) (fun r=>hf (r+1)) (fun r=>hg (r+1)) W
  rw[iW,iW,iW]
  have f0:=hf 0
  have g0:=hg 0
  obtain ⟨h1,h2⟩:=uQ (2*tab W (fun r=>f (r+1))+f 0) (2*tab W (fun r=>g (r+1))+g 0)
  rw[show (2*tab W (fun r=>f (r+1))+f 0) / 2=tab W (fun r=>f (r+1)) by omega,show (2*tab W (fun r=>g (r+1))+g 0) / 2=tab W (fun r=>g (r+1)) by omega,ih] at h1
  rw[show (2*tab W (fun r=>f (r+1))+f 0) % 2=f 0 by omega,show (2*tab W (fun r=>g (r+1))+g 0) % 2=g 0 by omega] at h2
  omega
theorem HJ (x y:Int):kM x y / 2=kM (x / 2) (y / 2)∧kM x y % 2=(x % 2+y % 2) % 2:=by
 unfold kM
 obtain ⟨a1,a2⟩:=uQ x y
 obtain ⟨b1,b2⟩:=j8 x y
 have hx:x % 2=0∨x % 2=1:=by omega
 have hy:y % 2=0∨y % 2=1:=by omega
 rcases hx with hx | hx <;> rcases hy with hy | hy <;> rw[hx,hy] at a2 b2 <;> rw[hx,hy] <;> simp at a2 b2 <;> omega
theorem Jx:∀(W r:Nat) (t:Int),r < W→bf (kM (2^W - 1) t) (r:Nat)=1 - bf t (r:Nat)
 | 0,r,t,h=>absurd h (mf _)
 | W+1,r,t,h=>by
  obtain ⟨h1,h2⟩:=HJ (2^(W+1) - 1) t
  have e:((2:Int)^(W+1) - 1) / 2=2^W - 1:=by rw[pb];omega
  have e':((2:Int)^(W+1) - 1) % 2=1:=by rw[pb];omega
  rw[e] at h1
  rw[e'] at h2
  cases r with
  | zero=>rw[show ((0:Nat):Int)=0 from rfl,nM,nM,h2];omega
  | succ r=>rw[nO,nO,h1];exact Jx W r (t / 2) (by omega)
noncomputable def b01 (b:Bool):Int:=if b=true then 1 else 0
theorem yX (b:Bool):b01 b=0∨b01 b=1:=by cases b;exact .inl rfl;exact .inr rfl
noncomputable def jY (ts:List Int) (ρ r:Nat):Nat→Bool
 | 0=>true
 | k+1=>jY ts ρ r k&&decide (bf (ts.getD k 0) (r:Nat)=bf (ρ:Nat) (k:Nat))
theorem El {ts:List Int}{ρ r:Nat}:∀{k:Nat},jY ts ρ r k=true↔∀j,j < k→bf (ts.getD j 0) (r:Nat)=bf (ρ:Nat) (j:Nat)
 | 0=>⟨fun _ j h=>absurd h (mf _),fun _=>rfl⟩
 | k+1=>by
  unfold jY
  rw[dS,El,decide_eq_true_eq]
  constructor
  · rintro ⟨h1,h2⟩ j hj
    rcases Nat.lt_succ_iff_lt_or_eq.mp hj with h | h
    · exact h1 j h
    · rw[h];exact h2
  · intro h
    exact ⟨fun j hj=>h j (by omega),h k (by omega)⟩
theorem Jg {ts:List Int}{m ρ r:Nat} (hl:ts.length=m) (hρ:ρ < 2^m):jY ts ρ r m=decide ((ρ:Int)=d7 (ts.map fun t=>bf t (r:Nat))):=by
 have h01:iV (ts.map fun t=>bf t (r:Nat)):=iV.map fun a _=>gf _ _
 rw[Bool.eq_iff_iff,El,decide_eq_true_eq]
 constructor
 · intro h
   rw[← Af hρ]
   congr 1
   unfold lZ
   refine List.ext_getElem? fun j=>?_
   rw[cp,cp]
   by_cases hj:j < m
   · rw[ku hj,aI (by omega)]
     have:=h j hj
     rw[ax,aI (by omega),Qy] at this
     exact congrArg some this.symm
   · rw[eT (by rw[fE];omega),eT (by omega)]
     rfl
 · intro h j hj
   rw[h,G5 (x:=bf (ts.getD j 0) (r:Nat)) h01 ?_]
   rw[cp,ax,aI (by omega)]
   rfl
noncomputable def j4 (ts:List Int) (b:Int) (m r i:Nat):Bool:=(fh i).any fun ρ=>jY ts ρ r m&&decide (bf b (ρ:Nat)=1)
theorem V7 {ts:List Int}{b:Int}{m r:Nat} (hl:ts.length=m):b01 (j4 ts b m r (2^m))=bf b (d7 (ts.map fun t=>bf t (r:Nat))):=by
 have h01:iV (ts.map fun t=>bf t (r:Nat)):=iV.map fun a _=>gf _ _
 have h0:0≤d7 (ts.map fun t=>bf t (r:Nat)):=q9 h01.nn
 have h1:=Bf h01
 rw[av,hl] at h1
 obtain ⟨ρ,hρ⟩:∃ρ:Nat,d7 (ts.map fun t=>bf t (r:Nat))=ρ:=⟨_,(Int.toNat_of_nonneg h0).symm⟩
 rw[hρ] at h1 ⊢
 have hlt:ρ < 2^m:=by
  have:((2^m:Nat):Int)=2^m:=by simp
  omega
 unfold j4 b01
 rcases gf b (ρ:Nat) with hb | hb
 · rw[hb,if_neg]
   rw[List.any_eq_true]
   rintro ⟨x,hx,h⟩
   rw[Jg hl (iX.mp hx),dS,decide_eq_true_eq,decide_eq_true_eq,hρ] at h
   have e:x=ρ:=by have:=h.1;omega
   rw[e,hb] at h
   exact absurd h.2 (by decide)
 · rw[hb,if_pos]
   rw[List.any_eq_true]
   exact ⟨ρ,iX.mpr hlt,by rw[Jg hl hlt,hρ,decide_eq_true rfl,hb];rfl⟩
theorem QM {ts:List Int}{ρ k W:Nat} (h:bf (ρ:Nat) (k:Nat)=1):gu (tab W fun r=>b01 (jY ts ρ r k)) (ts.getD k 0)=tab W fun r=>b01 (jY ts ρ r (k+1)):=by
 rw[Al _ fun r=>yX _]
 refine lE fun r hr=>?_
 show _=b01 (jY ts ρ r k&&decide (bf (ts.getD k 0) (r:Nat)=bf (ρ:Nat) (k:Nat)))
 rw[h]
 by_cases hb:bf (ts.getD k 0) (r:Nat)=1
 · rw[if_pos hb,decide_eq_true hb,AE]
 · rw[if_neg hb,decide_eq_false hb,rf];rfl
theorem Pz {ts:List Int}{ρ k W:Nat} (h:bf (ρ:Nat) (k:Nat)=0):gu (tab W fun r=>b01 (jY ts ρ r k)) (kM (2^W - 1) (ts.getD k 0))=tab W fun r=>b01 (jY ts ρ r (k+1)):=by
 rw[Al _ fun r=>yX _]
 refine lE fun r hr=>?_
 show _=b01 (jY ts ρ r k&&decide (bf (ts.getD k 0) (r:Nat)=bf (ρ:Nat) (k:Nat)))
 rw[h,Jx W r _ hr]
 rcases gf (ts.getD k 0) (r:Nat) with hb | hb
 · rw[hb,if_pos (by decide),decide_eq_true rfl,AE]
 · rw[hb,if_neg (by decide),decide_eq_false (by decide),rf];rfl
theorem WW {ts:List Int}{b:Int}{m i W:Nat} (h:bf b (i:Nat)=1):i0 (tab W fun r=>b01 (j4 ts b m r i)) (tab W fun r=>b01 (jY ts i r m))=tab W fun r=>b01 (j4 ts b m r (i+1)):=by
 rw[Oz (fun r=>yX _) fun r=>yX _]
 refine lE fun r hr=>?_
 have e:j4 ts b m r (i+1)=(j4 ts b m r i||jY ts i r m):=by
  unfold j4
  rw[qh,List.any_append,lp,List.any_nil,AF,decide_eq_true h,AE]
 rw[e]
 cases j4 ts b m r i <;> cases jY ts i r m <;> rfl
theorem SJ {ts:List Int}{b:Int}{m r i:Nat} (h:bf b (i:Nat)=0):j4 ts b m r (i+1)=j4 ts b m r i:=by
 unfold j4
 rw[qh,List.any_append,lp,List.any_nil,AF,decide_eq_false (by rw[h];decide),rf,AF]
end Prog
namespace Law
open PySem PySem.Spec PyProof.Rows L2 L3 Prog
noncomputable def fV:List ae→Res Str:=fnZ 3 (lY (aY 2 (bz cZ [(aj 0),(aq ixD (aj 1) (eC (.int 0)))])) zNo (lY (sIf (aq ir (aq ixD (aj 1) (eC (.int 1))) (aj 2)) lr cN) (zIf (aq ir (aq ixD (aj 1) (eC (.int 1))) (aj 2)) (lY lr (vd "NotMade") zNo) zNo) (lY (sIf (aq gtD (aq ixD (aq ixY (aj 2) (aq ixD (aj 1) (eC (.int 1)))) (eC (.int 0))) (eC (.int 300))) lr cN) (zIf (aq gtD (aq ixD (aq ixY (aj 2) (aq ixD (aj 1) (eC (.int 1)))) (eC (.int 0))) (eC (.int 300))) (lY lr (vd "TooBig") zNo) zNo) zNo)))
noncomputable def cH:List ae→Res ae:=fnR 2 (aO (sIf (aq ltD (aj 1) (eFn lg [(aj 0)])) (bQ (aq ixD (aj 0) (aj 1))) cN)
 (bQ (eC (.int 0))))
noncomputable def cR:List ae→Res ae:=fnR 1 (bQ (q8 (rA "int" (aj 0)) (lW (rA "bool" (aj 0)))))
noncomputable def jK:List ae→Res ae:=fnR 3 (aO (aY 1 (aq j0 (aj 0) (eC (.int 8))))
 (aO (aY 2 (aq qG (aj 0) (eC (.int 8))))
 (aO (sIf (aq eqD (aj 1) (eC (.int 0))) (bQ (cY [(eC (.int 0)),(aq j0 (aj 2) (eC (.int 2)))])) cN)
 (aO (sIf (aq ltD (aj 1) (eC (.int 3))) (bQ (cY [(eC (.int 1)),(aq j0 (aj 2) (eC (.int 4)))])) cN)
 (bQ (cY [(eC (.int 2)),(aq j0 (aj 2) (eC (.int 16)))]))))))
noncomputable def jh:List ae→Res ae:=fnR 4 (aO (aY 1 (bz cH [(aj 0),(eC (.int 0))]))
 (aO (aY 2 (cP (jX (aq j0 (aj 1) (eC (.int 5)))) (gN 0) (eC (.bool true)) (bz jK [(bz cH [(aj 1),(aq gK (eC (.int 1)) (aj 0))])]) 1 [0]))
 (aO (sIf (aq eqD (aq j0 (aq qG (aj 1) (eC (.int 5))) (eC (.int 8))) (eC (.int 3))) (oH 2 (cY [(eC (.int 3)),(aq j0 (bz cH [(aj 0),(eC (.int 5))]) (eC (.int 256)))])) cN)
 (aO (aY 3 (aq ixD (cL [(eC (.int 1)),(eC (.int 2)),(eC (.int 2)),(eC (.int 2)),(eC (.int 0))]) (aq j0 (aq qG (aj 1) (eC (.int 40))) (eC (.int 5)))))
 (aO (sIf (q8 (aq eqD (aq j0 (aq qG (aj 1) (eC (.int 5))) (eC (.int 8))) (eC (.int 3))) (aq gtD (aq j0 (aq qG (aj 1) (eC (.int 200))) (eC (.int 4))) (eC (.int 0)))) (aY 3 (eFn minD [(aj 3),(eC (.int 1))])) cN)
 (aO (sIf (aq eqD (aq j0 (aq qG (aj 1) (eC (.int 5))) (eC (.int 8))) (eC (.int 5))) (aO (aY 2 (aq Bm (eSl (aj 2) oJ (oX (eC (.int 2)))) (cL [(cY [(eC (.int 4)),(aq j0 (bz cH [(aj 0),(eC (.int 5))]) (eC (.int 65536)))])])))
 (aY 3 (eFn minD [(aj 3),(eC (.int 1))]))) cN)
 (bQ (cY [(aj 2),(cY [(aj 3),(aq j0 (bz cH [(aj 0),(eC (.int 6))]) (aq ixD (cL [(eC (.int 2)),(eC (.int 4)),(eC (.int 16))]) (aj 3)))])]))))))))
noncomputable def jE:List ae→Res ae:=fnR 7 (aO (aY 3 (eC (.int 0)))
 (aO (eG (jX (aq ixD (cL [(eC (.int 1)),(eC (.int 2)),(eC (.int 4)),(eC (.int 8)),(eC (.int 16))]) (aq ixD (aj 0) (eC (.int 0))))) (gN 4) [4,5,6] (aO (aY 5 (aj 2))
 (aO (eG (jX (aq ixD (aj 0) (eC (.int 0)))) (gN 6) [6] (sIf (aq eqD (aq t6 (aq Er (aj 4) (aj 6)) (eC (.int 1))) (eC (.int 1))) (aY 5 (aq t6 (aj 5) (aq ixD (aj 1) (aj 6)))) (aY 5 (aq t6 (aj 5) (aq Sw (aj 2) (aq ixD (aj 1) (aj 6)))))))
 (sIf (aq eqD (aq t6 (aq Er (aq ixD (aj 0) (eC (.int 1))) (aj 4)) (eC (.int 1))) (eC (.int 1))) (aY 3 (aq orD (aj 3) (aj 5))) cN))))
 (bQ (aj 3))))
noncomputable def iC:List ae→Res ae:=fnR 12 (aO (aY 3 (aq ixD (cL [(cL []),(cL [(eC (.int 2))]),(cL [(eC (.int 10)),(eC (.int 12))])]) (aj 1)))
 (aO (aY 4 (aq ixD (cL [(eC (.int 1)),(eC (.int 3)),(eC (.int 15))]) (aj 1)))
 (aO (aY 5 (eC (.int 0)))
 (aO (aY 6 (cL []))
 (aO (aY 7 (cL [(cY [(aj 2),(eC (.bool false))])]))
 (aO (kI 1000000 (aq Ft (aj 7) (cL [])) [8,9,10,11] (aO (xx 7 (gT [(gN 8),(gN 9)]))
 (sIf (eUn wA (bz cR [(aj 8)])) (aO (sIf (lW (qz leD ltD (eC (.int 0)) (aj 8) (aj 1))) (bQ (eC .none)) cN)
 (oH 6 (aq ixD (aj 3) (aj 8)))) (sIf (eUn wA (aj 9)) (aO (aY 10 (aq ixD (aq ixD (aj 8) (eC (.int 0))) (eC (.int 0))))
 (aO (aY 11 (aq rG (eFn lg [(aj 6)]) (aj 10)))
 (aY 6 (aq Bm (eSl (aj 6) oJ (oX (aj 11))) (cL [(bz jE [(aq ixD (aj 8) (eC (.int 0))),(eSl (aj 6) (oX (aj 11)) oJ),(aj 4)])]))))) (aO (sIf (eOr (lW (rA "tuple" (aj 8))) (eOr (aq neD (eFn lg [(aj 8)]) (eC (.int 2))) (eOr (aq ir (aq ixD (aj 8) (eC (.int 0))) (aj 0)) (lW (rA "tuple" (aq ixD (aj 8) (eC (.int 1)))))))) (bQ (eC .none)) cN)
 (aO (sIf (eOr (aq neD (eFn lg [(aq ixD (aj 8) (eC (.int 1)))]) (aq ixD (aq ixD (aj 8) (eC (.int 0))) (eC (.int 0)))) (aq gtD (aj 5) (eC (.int 300)))) (bQ (eC .none)) cN)
 (aO (aY 5 (aq gK (aj 5) (eC (.int 1))))
 (aO (oH 7 (cY [(aj 8),(eC (.bool true))]))
 (vL 7 (cP (K9 (aq ixD (aj 8) (eC (.int 1)))) (gN 0) (eC (.bool true)) (cY [(aj 0),(eC (.bool false))]) 1 []))))))))))
 (bQ (cY [(aq ixD (aj 6) (eC (.int 0))),(aj 5)]))))))))
noncomputable def fj:List ae→Res ae:=fnR 4 (aO (aY 2 (eC .none))
 (aO (xM (aY 2 (cY [(eC (.str "told")),(bz cT [(aj 0),(aj 1)])])) (Ed fV [(aj 0),(aj 1)]) (hsL [("NotMade",(sAs 3 (aY 2 (cY [(eC (.str "none")),(q8 (eX 3 (.bool true)) (q8 (eX 3 (.bool true)) (lW (eX 3 (.bool false)))))])))),("TooBig",(sAs 3 (aY 2 (cY [(eC (.str "big")),(q8 (eX 3 (.bool true)) (eX 3 (.bool true)))]))))]))
 (bQ (aj 2))))
noncomputable def tR:List ae→Res ae:=fnR 9 (aO (Qq (gT [(gN 1),(gN 2)]) (bz jh [(aj 0)]))
 (aO (aY 3 (qw []))
 (aO (eG (itL (bz rR [(aj 1),(aq ixD (aj 2) (eC (.int 0)))])) (gT [(gN 4),(gN 5)]) [4,5] (jH 3 (aj 4) (aj 5)))
 (aO (eG (jX (eC (.int 2))) (gN 6) [6,7,8] (aO (aY 7 (eFn Ld [(aj 1)]))
 (aO (aY 8 (bz fj [(aj 7),(aj 2)]))
 (aO (sIf (eOr (aq vz (aj 8) (eC .none)) (aq neD (aj 7) (aj 1))) (bQ (eC (.bool false))) cN)
 (aO (sIf (aq eqD (aq ixD (aj 8) (eC (.int 0))) (eC (.str "none"))) (sIf (eOr (aq inY (aq ixD (aj 2) (eC (.int 1))) (aj 3)) (aq Lb (aq ixD (aj 8) (eC (.int 1))) (eC (.bool true)))) (bQ (eC (.bool false))) cN) (sIf (aq eqD (aq ixD (aj 8) (eC (.int 0))) (eC (.str "big"))) (sIf (eOr (aq ltD (Eh (aj 3) (aq ixD (aj 2) (eC (.int 1))) (eC (.int 0))) (eC (.int 301))) (aq Lb (aq ixD (aj 8) (eC (.int 1))) (eC (.bool true)))) (bQ (eC (.bool false))) cN) (sIf (eOr (aq ir (aq ixD (aj 2) (eC (.int 1))) (aj 3)) (aq neD (bz iC [(aj 1),(aq ixD (aj 2) (eC (.int 0))),(aq ixD (aj 8) (eC (.int 1)))]) (cY [(aq ixD (aj 2) (eC (.int 1))),(aq ixY (aj 3) (aq ixD (aj 2) (eC (.int 1))))]))) (bQ (eC (.bool false))) cN)))
 (Hj 7 ))))))
 (bQ (eC (.bool true)))))))
end Law
namespace Law
open PySem L2 L3 Prog Gk
noncomputable def cell (ns:List Int) (k:Nat):Int:=ns.getD k 0
theorem u0 {ns:List Int}{k:Nat}:cH [dL ns,.int (k:Nat)] = .ok (.int (cell ns k)):=by
 unfold cH dL
 walk_at "ev"
 rw[Ez]
 by_cases h:k < ns.length
 · rw[if_pos (by simp;omega),d9 (i:=k) (d:=.int ns[k]) (by rw[cp,aI h];rfl)]
   walk_at "ev"
   unfold cell
   rw[ax,aI h];rfl
 · rw[if_neg (by simp;omega)]
   walk_at "ev"
   unfold cell
   rw[ax,eT (by omega)];rfl
theorem Ux {x:Int}:cR [.int x] = .ok (.bool true):=by
 unfold cR
 walk_at "ev"
theorem abo {m:Nat} (hm:m≤4):ixD (.list [.int 1,.int 2,.int 4,.int 8,.int 16]) (.int (m:Nat)) = .ok (.int ((2^m:Nat):Int)):=by
 rcases (by omega:m=0∨m=1∨m=2∨m=3∨m=4) with rfl | rfl | rfl | rfl | rfl <;> exact d9 rfl
theorem aaG {m W:Nat}{b:Int}{ts:List Int} (hm:m≤4) (hl:ts.length=m):jE [dG m b,dL ts,.int (2^W - 1)] = .ok (.int (Z2 b ts W)):=by
 have h16:2^m≤16:=qN hm
 unfold jE
 walk_at "ev"
 rw[abo hm]
 walk_at "ev"
 rw[gY (by omega)]
 walk_at "ev"
 refine cj (fun i=>[some (dG m b),some (dL ts),some (.int (2^W - 1)),some (.int (tab W fun r=>b01 (j4 ts b m r i))),none,none,none]) ?_ (fun i x hx=>?_) ?_
 · rw[show (fun r=>b01 (j4 ts b m r 0))=fun _=>(0:Int) from rfl,qT,Int.mul_zero]
 · obtain ⟨hi,rfl⟩:=mU hx
   walk_at "ev"
   rw[gY (show m < 2^62 by omega)]
   walk_at "ev"
   refine cj (fun k=>[some (dG m b),some (dL ts),some (.int (2^W - 1)),some (.int (tab W fun r=>b01 (j4 ts b m r i))),some (.int (i:Nat)),some (.int (tab W fun r=>b01 (jY ts i r k))),none]) ?_ (fun k x hx=>?_) ?_
   · rw[show (fun r=>b01 (jY ts i r 0))=fun _=>(1:Int) from rfl,qT,Int.mul_one]
   · obtain ⟨hk,rfl⟩:=mU hx
     walk_at "go"
     rw[rq,show ((i:Nat):Int) / 2^((k:Nat):Int).toNat % 2=bf (i:Nat) (k:Nat) from rfl,U9 (by omega)]
     rcases gf (i:Nat) (k:Nat) with h | h
     · rw[h]
       walk_at "ev"
       rw[show Sw (.int (2^W - 1)) (.int (ts.getD k 0)) = .ok (.int (kM (2^W - 1) (ts.getD k 0))) from rfl]
       walk_at "ev"
       rw[Pz h]
     · rw[h]
       walk_at "ev"
       rw[QM h]
   · rw[jQ]
     walk_at "go"
     rw[rq,show b / 2^((i:Nat):Int).toNat % 2=bf b (i:Nat) from rfl]
     rcases gf b (i:Nat) with h | h
     · rw[h]
       walk_at "ev"
       rw[show (fun r=>b01 (j4 ts b m r (i+1)))=fun r=>b01 (j4 ts b m r i) from funext fun r=>by rw[SJ h]]
     · rw[h]
       walk_at "ev"
       rw[WW h]
 · rw[jQ]
   walk_at "ev"
   congr 2
   unfold Z2
   exact lE fun r _=>V7 hl
theorem Bj {m1:MS}{z1 z2:MZ}{Γ Γ':Ev} (h:m1 Γ = .ok (.nx Γ')):lY m1 z1 z2 Γ=z2 Γ':=by unfold lY;rw[h]
theorem Wz {m1:MS}{z1 z2:MZ}{Γ:Ev} (h:m1 Γ = .bad):lY m1 z1 z2 Γ=z1 Γ:=by unfold lY;rw[h]
theorem aaO {c:ME}{z1 z2:MZ}{Γ:Ev} (h:c Γ = .ok (.bool true)):zIf c z1 z2 Γ=z1 Γ:=by unfold zIf;rw[h];rfl
theorem aaN {c:ME}{a b:MS}{Γ:Ev} (h:c Γ = .ok (.bool true)):sIf c a b Γ=a Γ:=by rw[xr,h];rfl
theorem MP {c:ME}{z:MZ}{Γ:Ev}{x:Str} (h:c Γ = .ok (.bool true)):lY (sIf c lr cN) (zIf c (lY lr (vd x) zNo) zNo) z Γ = .ok x:=by
 rw[Wz (aaN h),aaO h];rfl
theorem Hs {zf:List ae→Res Str}{ms:List ME}{Γ:Ev}{ds:List ae}{T:Str} (h:evs ms Γ = .ok ds) (hz:zf ds = .ok T):Ed zf ms Γ = .ok T:=by
 unfold Ed
 rw[h,Res.aV,hz]
theorem aai {g h:Nat×Int}:fA (dGp g) (dGp h)=decide (g=h):=by
 refine Bool.eq_iff_iff.mpr ((vC _ _ uV uV).trans ⟨fun z=>decide_eq_true ?_,fun z=>by rw[of_decide_eq_true z]⟩)
 have z:ae.tuple [.int (g.1:Nat),.int g.2] = .tuple [.int (h.1:Nat),.int h.2]:=z
 injection z with z
 injection z with z1 z2
 injection z2 with z2 _
 injection z1 with z1
 injection z2 with z2
 exact Prod.ext (Int.ofNat.inj z1) z2
theorem Dp {g:Nat×Int}:eD (dGp g)=true:=nH uV Q9
theorem Xn {h:Nat×Int} (gs:List (Nat×Int)):inB (dGp h) (gs.map dGp)=decide (h∈gs):=by
 unfold inB
 induction gs with
 | nil=>rfl
 | cons g gs ih=>
  rw[dy,lp,ih,aai]
  by_cases e:g=h
  · subst e;rw[decide_eq_true rfl,decide_eq_true cf];rfl
  · rw[decide_eq_false e,Bool.false_or]
    exact decide_eq_decide.mpr ⟨bq _,fun z=>(de.mp z).resolve_left fun q=>e q.symm⟩
theorem Yt (gs:List (Nat×Int)):(gs.map dGp).all eD=true:=by
 rw[sd]
 intro d hd
 obtain ⟨x,_,rfl⟩:=dc.mp hd
 exact Dp
theorem Tw {h:Nat×Int}{gs:List (Nat×Int)}:ir (dGp h) (.list (gs.map dGp)) = .ok (.bool (!decide (h∈gs))):=by
 show gd (eD (dGp h)=true∧(gs.map dGp).all eD=true) (Res.ok (ae.bool (!inB (dGp h) (gs.map dGp))))=_
 rw[bM ⟨Dp,Yt gs⟩,Xn]
noncomputable def YN (r:Res ae):Prop:=∃t,r = .ok (.bool t)
theorem Z0 {a b:ME}{Γ:Ev} (h1:YN (a Γ)) (h2:YN (b Γ)):YN (q8 a b Γ):=by
 obtain ⟨t,e1⟩:=h1
 rw[G9,e1,Res.aV]
 cases t with
 | true=>exact h2
 | false=>exact ⟨false,rfl⟩
theorem Bc {c:ME}{a b:MS}{Γ:Ev}{P:Ev→Prop} (hc:YN (c Γ)) (ha:Goes (a Γ) P) (hb:Goes (b Γ) P):Goes (sIf c a b Γ) P:=by
 obtain ⟨t,e⟩:=hc
 rw[xr,e,Res.aV]
 cases t with
 | true=>exact ha
 | false=>exact hb
theorem lG {β:Type}{a b:MS}{Γ:Ev}{P:Ev→Prop}{f:Out→Res β}{Q:β→Prop} (h:Goes (a Γ) P) (k:∀Γ',P Γ'→Gives ((b Γ').bind f) Q):Gives ((aO a b Γ).bind f) Q:=by
 obtain ⟨Γ',e,p⟩:=h
 rw[cW,e]
 exact k Γ' p
theorem yh (gs:List (Nat×Int)):plain (.list (gs.map dGp))=true:=by
 rw[L3.plain]
 exact Mh fun d hd=>by obtain ⟨g,_,rfl⟩:=dc.mp hd;exact uV
theorem RV {ds:List ae}{k:Nat} (h:∀d∈ds,d.depth≤k) (hk:k≤8):(ae.list ds).depth≤64:=by
 have h1:=vH (k:=k) (ds:=ds) h
 have h2:(ae.tuple ds).depth=ky ds+1:=by rw[ae.depth]
 have h3:(ae.list ds).depth=ky ds+1:=by rw[ae.depth]
 omega
theorem yl (gs:List (Nat×Int)):(ae.list (gs.map dGp)).depth≤64:=RV (k:=1) (fun d hd=>by obtain ⟨g,_,rfl⟩:=dc.mp hd;exact O5) (by decide)
theorem Ye (c:Int):∃g:Nat×Int,g.1≤2∧jK [.int c] = .ok (dGp g):=by
 unfold jK
 walk_at "go"
 rw[Ez]
 by_cases h0:c % 8=0
 · rw[decide_eq_true h0,if_pos rfl]
   walk_at "go"
   exact ⟨(0,c / 8 % 2),by show 0≤2;decide,rfl⟩
 · rw[decide_eq_false h0,if_neg (by decide)]
   walk_at "go"
   rw[Ez]
   by_cases h1:c % 8 < 3
   · rw[decide_eq_true h1,if_pos rfl]
     walk_at "go"
     exact ⟨(1,c / 8 % 4),by show 1≤2;decide,rfl⟩
   · rw[decide_eq_false h1,if_neg (by decide)]
     walk_at "go"
     exact ⟨(2,c / 8 % 16),aE _,rfl⟩
theorem Yg (f:Int):∃n:Nat,n≤2∧ixD (.list [.int 1,.int 2,.int 2,.int 2,.int 0]) (.int (f % 5)) = .ok (.int (n:Nat)):=by
 have:f % 5=0∨f % 5=1∨f % 5=2∨f % 5=3∨f % 5=4:=by omega
 rcases this with e | e | e | e | e <;> rw[e]
 · exact ⟨1,by decide,rfl⟩
 · exact ⟨2,by decide,rfl⟩
 · exact ⟨2,by decide,rfl⟩
 · exact ⟨2,by decide,rfl⟩
 · exact ⟨0,by decide,rfl⟩
theorem Wx {it:MI}{g:MG}{e:ME}{nt:Nat}{ix:List Nat}{Γ:Ev}{k:Nat} (hi:it Γ = .ok (upN k)) (hk:k≤5) (h:∀i,i < k→∃q:Nat×Int,q.1≤2∧(g (.int (i:Nat)) (fK nt ix Γ)).bind e = .ok (dGp q)):∃gs:List (Nat×Int),gs.length=k∧(∀q∈gs,q.1≤2)∧cP it g (eC (.bool true)) e nt ix Γ = .ok (.list (gs.map dGp)):=by
 have hc:∃F:Nat→Nat×Int,∀i,i < k→(F i).1≤2∧(g (.int (i:Nat)) (fK nt ix Γ)).bind e = .ok (dGp (F i)):=
  ⟨fun i=>if hi:i < k then (h i hi).choose else (0,0),fun i hi=>by
   have:=(h i hi).choose_spec
   simp only[dif_pos hi]
   exact this⟩
 obtain ⟨F,hF⟩:=hc
 refine ⟨(fh k).map F,by rw[av,fE],fun q hq=>?_,?_⟩
 · obtain ⟨i,hi,rfl⟩:=dc.mp hq
   exact (hF i (iX.mp hi)).1
 · rw[qO (n:=k) (fun i=>dGp (F i)) hi (size_le (by omega)) fun i hi=>(hF i hi).2,hZ]
   rfl
theorem XR {a:Nat}:minD [.int (a:Nat),.int 1] = .ok (.int (min a 1:Nat)):=by
 show Res.ok (ae.int (if (1:Int) < (a:Nat) then (1:Int) else (a:Nat)))=_
 by_cases h:1 < a
 · rw[if_pos (by omega),x6 (by omega)];rfl
 · rw[if_neg (by omega),tz (by omega)]
noncomputable def Dr (gs:List (Nat×Int)) (n:Nat):Prop:=n≤2∧gs.length≤5∧((n≤1∧∀g∈gs,g.1≤4)∨∃as bs:List (Nat×Int),gs=as++bs∧as.length≤4∧bs.length≤1∧(∀g∈as,g.1≤2)∧∀g∈bs,g.1≤3)
theorem U4 {N:Nat}{a b:List (Nat×Int)}:fO N (a++b)=fO N a+fO N b:=by
 unfold fO
 rw[dk,List.sum_append]
theorem Dr.ok {gs:List (Nat×Int)}{n:Nat} (h:Dr gs n):(∀g∈gs,g.1≤4)∧fO (2^2^n) gs≤20000:=by
 obtain ⟨h1,h2,⟨hn,h3⟩ | ⟨as,bs,rfl,ha,hb,ka,kb⟩⟩:=h
 · refine ⟨h3,?_⟩
   have h4':2^2^n≤2^2^1:=fo (by decide) (fo (by decide) hn)
   have e1:fO (2^2^n) gs≤gs.length*256:=Ge fun g hg=>by
    have h5:(2^2^n)^g.1≤4^g.1:=na h4' _
    have h6:4^g.1≤4^4:=fo (by decide) (h3 g hg)
    omega
   have e3:gs.length*256≤5*256:=sR _ h2
   omega
 · refine ⟨fun g hg=>?_,?_⟩
   · rcases eJ.mp hg with z | z
     · have:=ka g z;omega
     · have:=kb g z;omega
   · rw[U4]
     have h4:2^2^n≤2^2^2:=fo (by decide) (fo (by decide) h1)
     have e1:fO (2^2^n) as≤as.length*256:=Ge fun g hg=>by
      have h5:(2^2^n)^g.1≤16^g.1:=na h4 _
      have h6:16^g.1≤16^2:=fo (by decide) (ka g hg)
      omega
     have e2:fO (2^2^n) bs≤bs.length*4096:=Ge fun g hg=>by
      have h5:(2^2^n)^g.1≤16^g.1:=na h4 _
      have h6:16^g.1≤16^3:=fo (by decide) (kb g hg)
      omega
     have e3:as.length*256≤4*256:=sR _ ha
     have e4:bs.length*4096≤1*4096:=sR _ hb
     omega
theorem V8 {n:Nat} (hn:n≤2):ixD (.list [.int 2,.int 4,.int 16]) (.int (n:Nat)) = .ok (.int (2^2^n)):=by
 rcases (by omega:n=0∨n=1∨n=2) with rfl | rfl | rfl <;> exact d9 rfl
theorem Vk (ns:List Int):∃(gs:List (Nat×Int)) (n:Nat) (t:Int),jh [dL ns] = .ok (.tuple [.list (gs.map dGp),.tuple [.int (n:Nat),.int t]])∧Dr gs n:=by
 suffices hG:Gives (jh [dL ns]) fun d=>∃(gs:List (Nat×Int)) (n:Nat) (t:Int),d = .tuple [.list (gs.map dGp),.tuple [.int (n:Nat),.int t]]∧Dr gs n by
  obtain ⟨d,e,gs,n,t,rfl,h⟩:=hG
  exact ⟨gs,n,t,e,h⟩
 obtain ⟨n,hn,en⟩:=Yg (cell ns 0 / 40)
 obtain ⟨s,es,hs⟩:=abD (cell ns 0) (m:=5) (by decide)
 unfold jh
 rw[Jf]
 show Gives (Res.bind (aO _ _ [some (dL ns),none,none,none]) fin) _
 refine lG (P:=fun Γ=>Γ=[some (dL ns),some (.int (cell ns 0)),none,none]) ?_ fun Γ e=>?_
 · walk_at "ev"
   rw[show ae.int 0 = .int ((0:Nat):Int) from rfl,u0]
   walk_at "ev"
 subst e
 refine lG (P:=fun Γ=>∃gs:List (Nat×Int),Γ=[some (dL ns),some (.int (cell ns 0)),some (.list (gs.map dGp)),none]∧gs.length≤4∧∀g∈gs,g.1≤2) ?_ fun Γ hΓ=>?_
 · obtain ⟨gs,h1,h2,h3⟩:=Wx (it:=jX (aq j0 (aj 1) (eC (.int 5)))) (g:=gN 0) (e:=bz jK [(bz cH [(aj 1),(aq gK (eC (.int 1)) (aj 0))])]) (nt:=1) (ix:=[0]) (Γ:=[some (dL ns),some (.int (cell ns 0)),none,none]) (k:=s) (by
    walk_at "go"
    rw[es,gY (by omega)]) (by omega) (fun i hi=>by
    obtain ⟨q,hq,eq⟩:=Ye (cell ns (1+i))
    refine ⟨q,hq,?_⟩
    walk_at "ev"
    rw[show (1:Int)+(i:Nat)=((1+i:Nat):Int) by omega,u0]
    walk_at "ev"
    rw[eq])
   rw[uv,h3]
   walk_at "ev"
   exact ⟨gs,rfl,by omega,h2⟩
 obtain ⟨as,rfl,ha,ka⟩:=hΓ
 refine lG (P:=fun Γ=>∃bs:List (Nat×Int),Γ=[some (dL ns),some (.int (cell ns 0)),some (.list ((as++bs).map dGp)),none]∧bs.length≤1∧∀g∈bs,g.1≤3) (Bc ⟨_,by walk_at "go";rfl⟩ ?_ ⟨_,rfl,[],by rw[fb],by decide,fun g hg=>nomatch hg⟩) fun Γ hΓ=>?_
 · walk_at "ev"
   rw[show ae.int 5 = .int ((5:Nat):Int) from rfl,u0]
   walk_at "go"
   exact ⟨[(3,cell ns 5 % 256)],by rw[dk];rfl,aE _,fun g hg=>by rw[be.mp hg];exact aE _⟩
 obtain ⟨bs,rfl,hb,kb⟩:=hΓ
 refine lG (P:=fun Γ=>Γ=[some (dL ns),some (.int (cell ns 0)),some (.list ((as++bs).map dGp)),some (.int (n:Nat))]) ?_ fun Γ e=>?_
 · walk_at "go"
   rw[en]
   walk_at "ev"
 subst e
 refine lG (P:=fun Γ=>∃n:Nat,Γ=[some (dL ns),some (.int (cell ns 0)),some (.list ((as++bs).map dGp)),some (.int (n:Nat))]∧n≤2) (Bc (Z0 ⟨_,by walk_at "go";rfl⟩ ⟨_,by walk_at "go";rfl⟩) ?_ ⟨_,rfl,n,rfl,hn⟩) fun Γ hΓ=>?_
 · walk_at "ev"
   rw[XR]
   walk_at "ev"
   exact ⟨min n 1,rfl,by omega⟩
 obtain ⟨n,rfl,hn⟩:=hΓ
 have hla:(as++bs).length≤5:=by rw[aw];omega
 refine lG (P:=fun Γ=>∃(gs:List (Nat×Int)) (n:Nat),Γ=[some (dL ns),some (.int (cell ns 0)),some (.list (gs.map dGp)),some (.int (n:Nat))]∧Dr gs n) (Bc ⟨_,by walk_at "go";rfl⟩ ?_ ⟨_,rfl,as++bs,n,rfl,hn,hla,.inr ⟨as,bs,rfl,ha,hb,ka,kb⟩⟩) fun Γ hΓ=>?_
 · walk_at "ev"
   rw[show slD (.list ((as++bs).map dGp)) none (some 2) = .ok (.list (((as++bs).map dGp).take 2)) from Ms (j:=2)]
   walk_at "ev"
   rw[show ae.int 5 = .int ((5:Nat):Int) from rfl,u0]
   walk_at "go"
   rw[Dc (gy (size_le (by rw[eM,av,eP];omega)))]
   walk_at "ev"
   rw[XR]
   walk_at "ev"
   have hm1:min n 1≤1:=r6 _ _
   refine ⟨(as++bs).take 2++[(4,cell ns 5 % 65536)],min n 1,by rw[dk (f:=dGp) (l₁:=(as++bs).take 2),AD,dk];rfl,by omega,by rw[aw,eM,eP];omega,.inl ⟨hm1,fun g hg=>?_⟩⟩
   rcases eJ.mp hg with z | z
   · rcases eJ.mp (kQ z) with y | y
     · have:=ka g y;omega
     · have:=kb g y;omega
   · rw[be.mp z];exact aE _
 obtain ⟨gs,n,rfl,h⟩:=hΓ
 rw[G7]
 walk_at "ev"
 rw[show ae.int 6 = .int ((6:Nat):Int) from rfl,u0,V8 h.1]
 walk_at "ev"
 rw[bM (by have:(0:Int) < 2^2^n:=Int.pow_pos (by decide);omega)]
 walk_at "ev"
 exact ⟨gs,n,_,rfl,h⟩
theorem ZL {n:Nat} (hn:n≤2):ixD (.list [.list [],.list [.int 2],.list [.int 10,.int 12]]) (.int (n:Nat)) = .ok (dL (bF n)):=by
 rcases (by omega:n=0∨n=1∨n=2) with rfl | rfl | rfl
 · rw[show bF 0=[] from rfl];exact d9 (i:=0) rfl
 · rw[show bF 1=[2] by decide +kernel];exact d9 (i:=1) rfl
 · rw[show bF 2=[10,12] by decide +kernel];exact d9 (i:=2) rfl
theorem Ot {n:Nat} (hn:n≤2):(bF n).Nodup∧(bF n).length≤2:=by
 rcases (by omega:n=0∨n=1∨n=2) with rfl | rfl | rfl <;> decide +kernel
theorem WL {n:Nat} (hn:n≤2):ixD (.list [.int 1,.int 3,.int 15]) (.int (n:Nat)) = .ok (.int (2^2^n - 1)):=by
 rcases (by omega:n=0∨n=1∨n=2) with rfl | rfl | rfl <;> exact d9 rfl
noncomputable def lC:ME:=aq Ft (aj 7) (cL [])
noncomputable def lB:MS:=(aO (xx 7 (gT [(gN 8),(gN 9)]))
 (sIf (eUn wA (bz cR [(aj 8)])) (aO (sIf (lW (qz leD ltD (eC (.int 0)) (aj 8) (aj 1))) (bQ (eC .none)) cN)
 (oH 6 (aq ixD (aj 3) (aj 8)))) (sIf (eUn wA (aj 9)) (aO (aY 10 (aq ixD (aq ixD (aj 8) (eC (.int 0))) (eC (.int 0))))
 (aO (aY 11 (aq rG (eFn lg [(aj 6)]) (aj 10)))
 (aY 6 (aq Bm (eSl (aj 6) oJ (oX (aj 11))) (cL [(bz jE [(aq ixD (aj 8) (eC (.int 0))),(eSl (aj 6) (oX (aj 11)) oJ),(aj 4)])]))))) (aO (sIf (eOr (lW (rA "tuple" (aj 8))) (eOr (aq neD (eFn lg [(aj 8)]) (eC (.int 2))) (eOr (aq ir (aq ixD (aj 8) (eC (.int 0))) (aj 0)) (lW (rA "tuple" (aq ixD (aj 8) (eC (.int 1)))))))) (bQ (eC .none)) cN)
 (aO (sIf (eOr (aq neD (eFn lg [(aq ixD (aj 8) (eC (.int 1)))]) (aq ixD (aq ixD (aj 8) (eC (.int 0))) (eC (.int 0)))) (aq gtD (aj 5) (eC (.int 300)))) (bQ (eC .none)) cN)
 (aO (aY 5 (aq gK (aj 5) (eC (.int 1))))
 (aO (oH 7 (cY [(aj 8),(eC (.bool true))]))
 (vL 7 (cP (K9 (aq ixD (aj 8) (eC (.int 1)))) (gN 0) (eC (.bool true)) (cY [(aj 0),(eC (.bool false))]) 1 [])))))))))
theorem Bs {c:ME}{cl:List Nat}{b:MS}{f:Nat}{Γ Γ2 Γ':Ev} (hc:c Γ = .ok (.bool true)) (hb:b Γ = .ok (.nx Γ2)) (hcl:clr cl Γ2=Γ'):whR c cl b (f+1) Γ=whR c cl b f Γ':=by
 rw[whR,hc]
 show (b Γ).bind _=_
 rw[hb]
 show whR c cl b f (clr cl Γ2)=_
 rw[hcl]
theorem Yd {c:ME}{cl:List Nat}{b:MS}{f:Nat}{Γ:Ev} (hc:c Γ = .ok (.bool false)):whR c cl b (f+1) Γ = .ok (.nx Γ):=by
 rw[whR,hc]
 rfl
theorem yj {i:Nat}{g:MG}{Γ:Ev}{ds:List ae}{d:ae} (hg:gv Γ i=some (.list (ds++[d]))) (hi:i < Γ.length):xx i g Γ=(g d (Γ.set i (some (.list ds)))).bind fun Γ'=>.ok (.nx Γ'):=by
 unfold xx
 rw[hg]
 show (match (ds++[d])[(ds++[d]).length - 1]? with
  | some d'=>gd (i < Γ.length) ((g d' (Γ.set i (some (.list ((ds++[d]).take ((ds++[d]).length - 1)))))).bind fun Γ'=>Res.ok (Out.nx Γ'))
  | none=>.bad)=_
 have e:(ds++[d]).length - 1=ds.length:=by rw[aw,eP];omega
 rw[e,dt (aE _),rL,List.take_left]
 exact bM hi
section
variable {gs:List (Nat×Int)}{n:Nat}{d0:ae}
noncomputable def stR (gs:List (Nat×Int)) (n:Nat) (d0:ae) (z:Nat) (V:List Int) (J:List ae):Ev:=[some (.list (gs.map dGp)),some (.int (n:Nat)),some d0,some (dL (bF n)),some (.int (2^2^n - 1)),some (.int (z:Nat)),some (dL V),some (.list J),none,none,none,none]
noncomputable def itm (b:Bool) (d:ae):ae:=.tuple [d,.bool b]
noncomputable def pR (Γ Γ':Ev) (j:Nat):Prop:=∀f,whR lC [8,9,10,11] lB (f+j) Γ=whR lC [8,9,10,11] lB f Γ'
theorem pR.trans {a b c:Ev}{i j:Nat} (h:pR a b i) (k:pR b c j):pR a c (i+j):=fun f=>by
 rw[show f+(i+j)=(f+j)+i by omega,h,k]
noncomputable def Lay (J:List ae):Prop:=dA J=true
theorem Lay.app {a b:List ae} (h:Lay a) (h':Lay b):Lay (a++b):=by
 unfold Lay at *
 induction a with
 | nil=>exact h'
 | cons x a ih=>
  rw[dA,dS] at h
  rw[kK,dA,h.1,ih h.2];rfl
theorem Lay.of {J:List ae} (h:∀d∈J,d.canLay0=true):Lay J:=by
 unfold Lay
 induction J with
 | nil=>rw[dA]
 | cons x a ih=>rw[dA,h x cf,ih fun d hd=>h d (bq _ hd)];rfl
theorem JD {t:Int}{s:Nat}{d:ae} (h:MkT gs n t s d):d.canLay0=true:=by
 induction h with
 | inp hi=>rw[eW]
 | node hg hl hp ih=>
  unfold dT dG
  rw[eW,dA,eW,dA,eW,dA,eW,dA,dA,eW,dA]
  have:=Lay.of (J:=_) (fun d hd=>by
   obtain ⟨p,hp,rfl⟩:=dc.mp hd
   exact ih p hp)
  unfold Lay at this
  rw[this];rfl
theorem sG {b:Bool}{d:ae} (h:d.canLay0=true):(itm b d).canLay0=true:=by
 unfold itm
 rw[eW,dA,h,dA,eW,dA];rfl
theorem Jp {z:Nat}{V:List Int}{J:List ae} (h:Lay J):lC (stR gs n d0 z V J) = .ok (.bool (decide (J≠[]))):=by
 unfold lC stR
 walk_at "ev"
 unfold Ft
 rw[bM ⟨by rw[eW];exact h,by rw[eW,dA],eR (r6 _ _) (by rw[ae.depth,ky];decide)⟩]
 cases J with
 | nil=>rw[fA,n9];rfl
 | cons x J=>rw[fA,n9];rfl
theorem cond_true {z:Nat}{V:List Int}{J:List ae}{x:ae} (h:Lay J) (hx:x.canLay0=true):lC (stR gs n d0 z V (J++[x])) = .ok (.bool true):=by
 rw[Jp (h.app (Lay.of fun d hd=>by rw[be.mp hd];exact hx)),decide_eq_true (by intro q;exact absurd (congrArg List.length q) (by rw[aw,eP];exact Nat.succ_ne_zero _))]
theorem Td {z i:Nat}{V:List Int}{J:List ae} (hi:i < n) (hV:V.length≤10000) (hJ:Lay J):pR (stR gs n d0 z V (J++[itm false (.int (i:Nat))])) (stR gs n d0 z (V++[jr n i]) J) 1:=fun f=>by
 refine Bs (Γ2:=[some (.list (gs.map dGp)),some (.int (n:Nat)),some d0,some (dL (bF n)),some (.int (2^2^n - 1)),some (.int (z:Nat)),some (dL (V++[jr n i])),some (.list J),some (.int (i:Nat)),some (.bool false),none,none]) (cond_true hJ (sG (by rw[eW]))) ?_ rfl
 unfold lB
 rw[cW,yj (ds:=J) rfl (of_decide_eq_true rfl)]
 unfold stR itm
 walk_at "ev"
 rw[Ux]
 walk_at "ev"
 rw[decide_eq_true (by omega),Jj,decide_eq_true (by omega)]
 walk_at "ev"
 rw[show ixD (dL (bF n)) (.int (i:Nat)) = .ok (.int (jr n i)) from d9 (by unfold bF;rw[cp,cp,ku hi];rfl)]
 walk_at "ev"
 unfold dL
 walk_at "ev"
 rw[bM (size_le (by omega)),dk]
 rfl
theorem RM {g:Nat×Int}{ds:List ae}{z:Nat}{V xs:List Int}{J:List ae} (hm:g.1≤4) (hx:xs.length=g.1) (hV:V.length≤10000) (hJ:Lay J) (hd:(dT g.1 g.2 ds).canLay0=true) :
 pR (stR gs n d0 z (V++xs) (J++[itm true (dT g.1 g.2 ds)])) (stR gs n d0 z (V++[eF g.2 xs n]) J) 1:=fun f=>by
 refine Bs (Γ2:=[some (.list (gs.map dGp)),some (.int (n:Nat)),some d0,some (dL (bF n)),some (.int (2^2^n - 1)),some (.int (z:Nat)),some (dL (V++[eF g.2 xs n])),some (.list J),some (dT g.1 g.2 ds),some (.bool true),some (.int (g.1:Nat)),some (.int (V.length:Nat))]) (cond_true hJ (sG hd)) ?_ rfl
 unfold lB
 rw[cW,yj (ds:=J) rfl (of_decide_eq_true rfl)]
 unfold stR itm dT
 walk_at "ev"
 rw[show cR [.tuple [dG g.1 g.2,.tuple ds]] = .ok (.bool false) by unfold cR;walk_at "ev"]
 walk_at "ev"
 have e1:(((V++xs).length:Nat):Int) - (g.1:Nat)=((V.length:Nat):Int):=by rw[aw,hx];omega
 rw[e1]
 unfold dL
 walk_at "ev"
 rw[← List.map_drop,List.drop_left,show ae.list (xs.map ae.int)=dL xs from rfl,aaG (m:=g.1) (W:=2^n) hm hx]
 walk_at "ev"
 rw[← AD,List.take_left,Dc (gy (size_le (by rw[av,eP];omega)))]
 walk_at "ev"
 rw[dk]
 rfl
theorem Sx {g:Nat×Int}{ds:List ae}{z:Nat}{V:List Int}{J:List ae} (hg:g∈gs) (hm:g.1≤4) (hl:ds.length=g.1) (hz:z≤300) (hJl:J.length≤10000) (hJ:Lay J) (hd:(dT g.1 g.2 ds).canLay0=true) :
 pR (stR gs n d0 z V (J++[itm false (dT g.1 g.2 ds)])) (stR gs n d0 (z+1) V (J++[itm true (dT g.1 g.2 ds)]++ds.reverse.map (itm false))) 1:=fun f=>by
 refine Bs (Γ2:=[some (.list (gs.map dGp)),some (.int (n:Nat)),some d0,some (dL (bF n)),some (.int (2^2^n - 1)),some (.int ((z+1:Nat):Int)),some (dL V),some (.list (J++[itm true (dT g.1 g.2 ds)]++ds.reverse.map (itm false))),some (dT g.1 g.2 ds),some (.bool false),none,none]) (cond_true hJ (sG hd)) ?_ rfl
 unfold lB
 rw[cW,yj (ds:=J) rfl (of_decide_eq_true rfl)]
 unfold stR itm dT
 walk_at "ev"
 rw[show cR [.tuple [dG g.1 g.2,.tuple ds]] = .ok (.bool false) by unfold cR;walk_at "ev"]
 walk_at "ev"
 rw[show dG g.1 g.2=dGp g from rfl,Tw,decide_eq_true hg]
 walk_at "ev"
 rw[show dGp g=dG g.1 g.2 from rfl,decide_eq_true (show ((ds.length:Nat):Int)=(g.1:Nat) by omega)]
 walk_at "ev"
 rw[decide_eq_false (show ¬ (300:Int) < (z:Nat) by omega)]
 walk_at "ev"
 rw[bM (size_le (by omega))]
 walk_at "ev"
 rw[Jm (ds:=J++[.tuple [.tuple [dG g.1 g.2,.tuple ds],.bool true]]) (es:=ds.reverse.map fun e=>ae.tuple [e,.bool false]) ?_ rfl (gy (size_le (by rw[aw,av,gz,eP];omega))) (of_decide_eq_true rfl)]
 · walk_at "ev"
   rfl
 · rw[qJ (xs:=ds.reverse) (fun e=>e) (fun e=>ae.tuple [e,.bool false]) ?_ (size_le (by rw[gz];omega)) fun e he=>?_]
   · show (Res.bind _ _)=_
     walk_at "ev"
     rw[AL]
   · walk_at "ev"
theorem Dl {B:Nat}:∀(ps:List (Int×Nat×ae)) (z:Nat) (V:List Int) (J:List ae),(∀p∈ps,MkT gs n p.1 p.2.1 p.2.2) →
 (∀p∈ps,∀(z:Nat) (V:List Int) (J:List ae),z+p.2.1≤300→V.length+5*p.2.1≤5000→J.length+5*p.2.1≤5000→Lay J→∃j,j≤1+6*p.2.1∧pR (stR gs n d0 z V (J++[itm false p.2.2])) (stR gs n d0 (z+p.2.1) (V++[p.1]) J) j) →
 z+(ps.map (·.2.1)).sum≤300→V.length+ps.length+5*(ps.map (·.2.1)).sum≤5000→J.length+ps.length+5*(ps.map (·.2.1)).sum≤5000→Lay J →
 ∃j,j≤ps.length+6*(ps.map (·.2.1)).sum∧pR (stR gs n d0 z V (J++(ps.map (·.2.2)).reverse.map (itm false))) (stR gs n d0 (z+(ps.map (·.2.1)).sum) (V++ps.map (·.1)) J) j
 | [],z,V,J,_,_,_,_,_,_=>⟨0,iE _,fun f=>by
  show whR _ _ _ f (stR gs n d0 z V (J++[]))=whR _ _ _ f (stR gs n d0 z (V++[]) J)
  rw[fb,fb]⟩
 | p::ps,z,V,J,hk,ih,hz,hV,hJl,hJ=>by
  rw[dy,i4,cE] at hV hJl
  rw[dy,i4] at hz
  have hk':∀q∈ps,MkT gs n q.1 q.2.1 q.2.2:=fun q hq=>hk q (bq _ hq)
  obtain ⟨j1,b1,r1⟩:=ih p cf z V (J++(ps.map (·.2.2)).reverse.map (itm false)) (by omega) (by omega) (by rw[aw,av,gz,av];omega) (hJ.app (Lay.of fun d hd=>by
   obtain ⟨e,he,rfl⟩:=dc.mp hd
   obtain ⟨q,hq,rfl⟩:=dc.mp (List.mem_reverse.mp he)
   exact sG (JD (hk' q hq))))
  obtain ⟨j2,b2,r2⟩:=Dl (B:=B) ps (z+p.2.1) (V++[p.1]) J hk' (fun q hq=>ih q (bq _ hq)) (by omega) (by rw[aw,eP];omega) (by omega) hJ
  refine ⟨j1+j2,by rw[cE,dy,i4];omega,?_⟩
  have:=r1.trans r2
  show pR (stR gs n d0 z V (J++((p.2.2::ps.map (·.2.2)).reverse.map (itm false)))) (stR gs n d0 (z+(p.2.1+(ps.map (·.2.1)).sum)) (V++(p.1::ps.map (·.1))) J) _
  rw[wm,dk,← eS,← Nat.add_assoc]
  rw[eS V] at this
  exact this
theorem NB (hm:∀g∈gs,g.1≤4) {t:Int}{s:Nat}{d:ae} (h:MkT gs n t s d):∀(z:Nat) (V:List Int) (J:List ae),z+s≤300→V.length+5*s≤5000→J.length+5*s≤5000→Lay J→∃j,j≤1+6*s∧pR (stR gs n d0 z V (J++[itm false d])) (stR gs n d0 (z+s) (V++[t]) J) j:=by
 induction h with
 | inp hi=>exact fun z V J h1 h2 h3 h4=>⟨1,aE _,Td hi (by omega) h4⟩
 | @node g ps hg hl hp ih=>
  intro z V J h1 h2 h3 h4
  have hlay:=JD (MkT.node hg hl hp)
  have g4:=hm g hg
  obtain ⟨j,b,r⟩:=Dl (d0:=d0) (B:=0) ps (z+1) V (J++[itm true (dT g.1 g.2 (ps.map (·.2.2)))]) hp ih (by omega) (by omega) (by rw[aw,eP];omega) (h4.app (Lay.of fun d hd=>by rw[be.mp hd];exact sG hlay))
  have r0:=Sx (d0:=d0) (gs:=gs) (n:=n) (g:=g) (ds:=ps.map (·.2.2)) (z:=z) (V:=V) (J:=J) hg g4 (by rw[av];exact hl) (by omega) (by omega) h4 hlay
  have r2:=RM (d0:=d0) (gs:=gs) (n:=n) (g:=g) (ds:=ps.map (·.2.2)) (z:=z+1+(ps.map (·.2.1)).sum) (V:=V) (xs:=ps.map (·.1)) (J:=J) g4 (by rw[av];exact hl) (by omega) h4 hlay
  refine ⟨1+j+1,by omega,?_⟩
  rw[← Nat.add_assoc]
  exact (r0.trans r).trans r2
theorem Ku (hn:n≤2) (hm:∀g∈gs,g.1≤4) {t:Int}{s:Nat}{d:ae} (h:MkT gs n t s d) (hs:s≤300):iC [.list (gs.map dGp),.int (n:Nat),d] = .ok (.tuple [.int t,.int (s:Nat)]):=by
 obtain ⟨j,bj,rj⟩:=NB (d0:=d) hm h 0 [] [] (by omega) (by show 0+_≤_;omega) (by show 0+_≤_;omega) (by unfold Lay;rw[dA])
 have e:kI 1000000 lC [8,9,10,11] lB (stR gs n d 0 [] [itm false d]) = .ok (.nx (stR gs n d s [t] [])):=by
  show whR lC [8,9,10,11] lB 1000000 _=_
  rw[show 1000000=(1000000 - j - 1+1)+j by omega]
  have:=rj (1000000 - j - 1+1)
  rw[y9] at this
  exact this.trans (Yd (Jp (by unfold Lay;rw[dA])))
 unfold iC
 rw[show (kI 1000000 (aq Ft (aj 7) (cL [])) [8,9,10,11] (aO (xx 7 (gT [(gN 8),(gN 9)]))
  (sIf (eUn wA (bz cR [(aj 8)])) (aO (sIf (lW (qz leD ltD (eC (.int 0)) (aj 8) (aj 1))) (bQ (eC .none)) cN)
  (oH 6 (aq ixD (aj 3) (aj 8)))) (sIf (eUn wA (aj 9)) (aO (aY 10 (aq ixD (aq ixD (aj 8) (eC (.int 0))) (eC (.int 0))))
  (aO (aY 11 (aq rG (eFn lg [(aj 6)]) (aj 10)))
  (aY 6 (aq Bm (eSl (aj 6) oJ (oX (aj 11))) (cL [(bz jE [(aq ixD (aj 8) (eC (.int 0))),(eSl (aj 6) (oX (aj 11)) oJ),(aj 4)])]))))) (aO (sIf (eOr (lW (rA "tuple" (aj 8))) (eOr (aq neD (eFn lg [(aj 8)]) (eC (.int 2))) (eOr (aq ir (aq ixD (aj 8) (eC (.int 0))) (aj 0)) (lW (rA "tuple" (aq ixD (aj 8) (eC (.int 1)))))))) (bQ (eC .none)) cN)
  (aO (sIf (eOr (aq neD (eFn lg [(aq ixD (aj 8) (eC (.int 1)))]) (aq ixD (aq ixD (aj 8) (eC (.int 0))) (eC (.int 0)))) (aq gtD (aj 5) (eC (.int 300)))) (bQ (eC .none)) cN)
  (aO (aY 5 (aq gK (aj 5) (eC (.int 1))))
  (aO (oH 7 (cY [(aj 8),(eC (.bool true))]))
  (vL 7 (cP (K9 (aq ixD (aj 8) (eC (.int 1)))) (gN 0) (eC (.bool true)) (cY [(aj 0),(eC (.bool false))]) 1 []))))))))))=kI 1000000 lC [8,9,10,11] lB from rfl]
 walk_at "ev"
 rw[ZL hn]
 walk_at "ev"
 rw[WL hn]
 walk_at "ev"
 rw[show [some (ae.list (gs.map dGp)),some (ae.int (n:Nat)),some d,some (dL (bF n)),some (ae.int (2^2^n - 1)),some (ae.int 0),some (ae.list []),some (ae.list [ae.tuple [d,ae.bool false]]),none,none,none,none]=stR gs n d 0 [] [itm false d] from rfl,e]
 unfold stR
 walk_at "ev"
 rw[show ixD (dL [t]) (.int 0) = .ok (.int t) from rfl]
 walk_at "ev"
theorem Sv {m1:MS}{z:MZ}{hs:Str→MS}{Γ:Ev}{o:Out} (h:m1 Γ = .ok o):xM m1 z hs Γ = .ok o:=by unfold xM;rw[h]
theorem FP {m1:MS}{z:MZ}{hs:Str→MS}{Γ:Ev}{c:Str} (h:m1 Γ = .bad) (hz:z Γ = .ok c):xM m1 z hs Γ=hs c Γ:=by unfold xM;rw[h,hz];rfl
section
variable {L:List (Int×Way)}{t:Int}
theorem Xw (h:cZ [.list (gs.map dGp),.int (n:Nat)] = .ok (.dict (kvW L))) (ht:t∉aD L):fV [.list (gs.map dGp),.tuple [.int (n:Nat),.int t]] = .ok "NotMade" := by
 have hw:lk t L=none:=by
  cases e:lk t L with
  | none=>rfl
  | some w=>exact absurd (gq.mp (by rw[e];rfl)) ht
 unfold fV
 show lY _ _ _ [some (.list (gs.map dGp)),some (.tuple [.int (n:Nat),.int t]),none]=_
 rw[Bj (Γ':=[some (.list (gs.map dGp)),some (.tuple [.int (n:Nat),.int t]),some (.dict (kvW L))]) (by walk_at "ev";rw[h];walk_at "ev")]
 exact MP (by walk_at "ev";rw[mV,hw];rfl)
theorem aaF (h:cZ [.list (gs.map dGp),.int (n:Nat)] = .ok (.dict (kvW L))) (ht:t∈aD L) (hc:300 < bh L t):fV [.list (gs.map dGp),.tuple [.int (n:Nat),.int t]] = .ok "TooBig" := by
 obtain ⟨w,hw⟩:=fy.mp (gq.mpr (show t∈L.map (·.1) from ht))
 have hcw:bh L t=w.c:=by unfold bh;rw[hw];rfl
 unfold fV
 show lY _ _ _ [some (.list (gs.map dGp)),some (.tuple [.int (n:Nat),.int t]),none]=_
 rw[Bj (Γ':=[some (.list (gs.map dGp)),some (.tuple [.int (n:Nat),.int t]),some (.dict (kvW L))]) (by walk_at "ev";rw[h];walk_at "ev"),Bj (Γ':=[some (.list (gs.map dGp)),some (.tuple [.int (n:Nat),.int t]),some (.dict (kvW L))]) (by walk_at "ev";rw[mV,hw];walk_at "ev";rfl)]
 refine MP ?_
 walk_at "ev"
 rw[xu hw]
 walk_at "ev"
 rw[uw]
 walk_at "ev"
 rw[decide_eq_true (by omega)]
theorem HR (h:cZ [.list (gs.map dGp),.int (n:Nat)] = .ok (.dict (kvW L))) (ht:t∉aD L):fj [.list (gs.map dGp),.tuple [.int (n:Nat),.int t]] = .ok (.tuple [.str "none",.bool true]):=by
 unfold fj
 walk_at "ev"
 rw[FP (c := "NotMade") (by walk_at "ev";rw[Ip h ht];rfl) (Hs (ds:=[.list (gs.map dGp),.tuple [.int (n:Nat),.int t]]) rfl (Xw h ht))]
 rfl
theorem Kv (h:cZ [.list (gs.map dGp),.int (n:Nat)] = .ok (.dict (kvW L))) (ht:t∈aD L) (hc:300 < bh L t):fj [.list (gs.map dGp),.tuple [.int (n:Nat),.int t]] = .ok (.tuple [.str "big",.bool true]):=by
 unfold fj
 walk_at "ev"
 rw[FP (c := "TooBig") (by walk_at "ev";rw[Ie h ht hc];rfl) (Hs (ds:=[.list (gs.map dGp),.tuple [.int (n:Nat),.int t]]) rfl (aaF h ht hc))]
 rfl
theorem Ys {d:ae} (h:cT [.list (gs.map dGp),.tuple [.int (n:Nat),.int t]] = .ok d):fj [.list (gs.map dGp),.tuple [.int (n:Nat),.int t]] = .ok (.tuple [.str "told",d]):=by
 unfold fj
 walk_at "ev"
 rw[Sv (o:=.nx [some (.list (gs.map dGp)),some (.tuple [.int (n:Nat),.int t]),some (.tuple [.str "told",d]),none]) (by walk_at "ev";rw[h];walk_at "ev")]
 walk_at "ev"
end
end
theorem Hl {a b:Str} (h:(eD (.str a)&&eD (.str b) && !fA (.str a) (.str b))=true):eqD (.str a) (.str b) = .ok (.bool false):=by
 rw[dS,dS] at h
 unfold eqD
 rw[bM ⟨h.1.1,h.1.2⟩,show fA (.str a) (.str b)=false by simpa using h.2]
theorem Nh {a:Str} (h:(eD (.str a)&&fA (.str a) (.str a))=true):eqD (.str a) (.str a) = .ok (.bool true):=by
 rw[dS] at h
 unfold eqD
 rw[bM ⟨h.1,h.1⟩,h.2]
theorem main (ns:List Int) (h:ns.length≤63):tR [.list (ns.map ae.int)] = .ok (.bool true):=by
 show tR [dL ns]=_
 obtain ⟨gs,n,t,ed,hD⟩:=Vk ns
 obtain ⟨hm,hc⟩:=hD.ok
 have hn:=hD.1
 have hgl:=hD.2.1
 obtain ⟨L,e1,I,F,hL⟩:=Rj (gs:=gs) (n:=n) (oV n) (fun fs ws t w j I e h=>j.step I e h (Ot hn).1) (Hy (Ot hn).1) hn (by omega) hm hc
 have ep:=W2 e1 I (by omega)
 have W:=I.whole
 have hl:(srt (aD L)).length≤16:=by rw[(lz _).length_eq];unfold aD;rw[av];exact hL
 have hmem:∀t,t∈srt (aD L)↔t∈aD L:=fun t=>lF
 unfold tR
 walk_at "ev"
 rw[ed]
 walk_at "ev"
 rw[show ∀Γ,qw [] Γ = .ok (.dict (kvC [] (bh L))) from fun _=>rfl]
 walk_at "ev"
 rw[ep]
 walk_at "ev"
 refine cj (fun i=>[some (dL ns),some (.list (gs.map dGp)),some (.tuple [.int (n:Nat),.int t]),some (.dict (kvC ((srt (aD L)).take i) (bh L))),none,none,none,none,none]) rfl (fun i x hx=>?_) ?_
 · obtain ⟨u,eu,rfl⟩:=jj hx
   have hi:=(br.mp eu).1
   have hnt:u∉(srt (aD L)).take i:=fun z=>by
    obtain ⟨j,hj,ej⟩:=i9.mp z
    rw[eM] at hj
    rw[List.getElem_take] at ej
    have:=(List.getElem?_inj (i:=j) (j:=i) (by omega) W.nd).mp (by rw[eu,aI (by omega),ej])
    omega
   unfold JX
   walk_at "ev"
   rw[abg (t:=u) (f:=bh L) (ts:=(srt (aD L)).take i) rfl rfl rfl hnt (by rw[eM];omega) (of_decide_eq_true rfl),take_snoc eu]
   walk_at "ev"
 rw[av,fS]
 walk_at "ev"
 rw[show ae.int 2 = .int ((2:Nat):Int) from rfl,gY (by decide)]
 walk_at "ev"
 refine cj (fun _=>[some (dL ns),some (.list (gs.map dGp)),some (.tuple [.int (n:Nat),.int t]),some (.dict (kvC (srt (aD L)) (bh L))),none,none,none,none,none]) rfl (fun i x hx=>?_) ?_
 · obtain ⟨hi,rfl⟩:=mU hx
   walk_at "ev"
   by_cases ht:t∈aD L
   · by_cases hc:300 < bh L t
     · rw[Kv e1 ht hc]
       walk_at "ev"
       rw[show vz (.tuple [.str "big",.bool true]) .none = .ok (.bool false) from rfl]
       walk_at "ev"
       rw[uK (yh gs) (yl gs)]
       walk_at "ev"
       rw[Hl (a := "big") (b := "none") (by decide +kernel)]
       walk_at "ev"
       rw[Nh (a := "big") (by decide +kernel)]
       walk_at "ev"
       rw[show ∀Γ:Ev,gv Γ 3=some (.dict (kvC (srt (aD L)) (bh L)))→gv Γ 2=some (.tuple [.int (n:Nat),.int t])→Eh (aj 3) (aq ixD (aj 2) (eC (.int 1))) (eC (.int 0)) Γ = .ok (.int (bh L t:Nat)) from fun Γ g3 g2=>by
        unfold Eh
        rw[show aj 3 Γ = .ok (.dict (kvC (srt (aD L)) (bh L))) by unfold aj;rw[g3],Res.aV,Gw,show aj 2 Γ = .ok (.tuple [.int (n:Nat),.int t]) by unfold aj;rw[g2]]
        walk_at "ev"
        show Res.ok ((b8 (.inl t) (kvC (srt (aD L)) (bh L))).getD (.int 0))=_
        rw[vK,if_pos ((hmem t).mpr ht)];rfl]
       rotate_left
       · rfl
       · rfl
       walk_at "ev"
       rw[decide_eq_false (by omega)]
       walk_at "ev"
       rfl
     · obtain ⟨d,ed,hd⟩:=LR e1 I F hm (by omega) ht (by omega)
       rw[Ys ed]
       walk_at "ev"
       rw[show vz (.tuple [.str "told",d]) .none = .ok (.bool false) from rfl]
       walk_at "ev"
       rw[uK (yh gs) (yl gs)]
       walk_at "ev"
       rw[Hl (a := "told") (b := "none") (by decide +kernel)]
       walk_at "ev"
       rw[Hl (a := "told") (b := "big") (by decide +kernel)]
       walk_at "ev"
       rw[Wh,decide_eq_true ((hmem t).mpr ht)]
       walk_at "ev"
       rw[Ku hn hm hd (by omega)]
       walk_at "ev"
       rw[aaC ((hmem t).mpr ht)]
       walk_at "ev"
       rw[uK (a:=.tuple [.int t,.int (bh L t:Nat)]) (yd [t,(bh L t:Nat)]) (eR (vH (k:=0) (ds:=[.int t,.int (bh L t:Nat)]) fun d hd=>by rcases de.mp hd with rfl | hd;exact xg;rw[be.mp hd];exact xg) (by decide))]
       walk_at "ev"
       rfl
   · rw[HR e1 ht]
     walk_at "ev"
     rw[show vz (.tuple [.str "none",.bool true]) .none = .ok (.bool false) from rfl]
     walk_at "ev"
     rw[uK (yh gs) (yl gs)]
     walk_at "ev"
     rw[Nh (a := "none") (by decide +kernel)]
     walk_at "ev"
     rw[show inY (.int t) (.dict (kvC (srt (aD L)) (bh L))) = .ok (.bool (b8 (.inl t) (kvC (srt (aD L)) (bh L))).isSome) from rfl,vK,if_neg (fun z=>ht ((hmem t).mp z))]
     rfl
 · walk_at "ev"
end Law
namespace Law
open PySem PySem.Spec PyProof.Rows L2 L3 Prog
noncomputable def top (i:Nat):Stmt:=PySem.Challenge.pw_gatekin_k53_least_trees.main.body.getD i (.Pass ⟨0,0,0,0⟩)
noncomputable abbrev je:Stmt:=top 11
noncomputable abbrev gk:Stmt:=top 12
noncomputable abbrev iM:Stmt:=top 13
noncomputable abbrev wU:Stmt:=top 14
noncomputable abbrev jk:Stmt:=top 15
noncomputable abbrev gh:Stmt:=top 16
noncomputable abbrev fu:Stmt:=top 17
noncomputable abbrev lK:Stmt:=top 18
noncomputable abbrev wO:Stmt:=top 19
noncomputable abbrev pA:Stmt:=top 23
noncomputable abbrev iB:Stmt:=top 24
noncomputable abbrev jV:Stmt:=top 25
noncomputable abbrev gw:Stmt:=top 26
noncomputable abbrev dC:Stmt:=top 27
noncomputable abbrev o7:Stmt:=top 30
noncomputable abbrev iK:Stmt:=top 31
noncomputable abbrev jf:Stmt:=top 32
noncomputable abbrev rQ:Stmt:=top 33
noncomputable abbrev jT:Stmt:=top 34
noncomputable abbrev pC:Stmt:=top 36
noncomputable abbrev fJ:Stmt:=top 37
noncomputable abbrev gm:Stmt:=top 39
noncomputable abbrev jn:Stmt:=top 40
noncomputable abbrev jG:Stmt:=top 41
noncomputable abbrev jm:Stmt:=top 42
noncomputable abbrev lJ:Stmt:=top 43
noncomputable abbrev fD:Stmt:=top 44
noncomputable abbrev jN:Stmt:=top 45
noncomputable abbrev oY:Stmt:=top 46
theorem lN:bc ["inputs", "count", "j"] ["inputs"] (az je):=⟨rfl,rfl,rfl,by decide +kernel,rfl,by decide +kernel,by decide +kernel⟩
theorem jR:bc ["inputs", "limit", "j"] ["inputs"] (az gk):=⟨rfl,rfl,rfl,by decide +kernel,rfl,by decide +kernel,by decide +kernel⟩
theorem Dq:bc ["inputs"] ["inputs"] (az iM):=⟨rfl,rfl,rfl,by decide +kernel,rfl,by decide +kernel,by decide +kernel⟩
theorem Yu:bc ["number", "place"] ["number", "place"] (az wU):=⟨rfl,rfl,rfl,by decide +kernel,rfl,by decide +kernel,by decide +kernel⟩
theorem lO:bc ["figures", "number", "figure"] ["figures"] (az jk):=⟨rfl,rfl,rfl,by decide +kernel,rfl,by decide +kernel,by decide +kernel⟩
theorem Am:bc ["inputs", "j"] ["inputs", "j"] (az gh):=⟨rfl,rfl,rfl,by decide +kernel,rfl,by decide +kernel,by decide +kernel⟩
theorem zx:bc ["inputs"] ["inputs"] (az fu):=⟨rfl,rfl,rfl,by decide +kernel,rfl,by decide +kernel,by decide +kernel⟩
theorem o6:bc ["gate", "numbers", "full", "given", "number"] ["gate", "numbers", "full"] (az lK):=⟨rfl,rfl,rfl,by decide +kernel,rfl,by decide +kernel,by decide +kernel⟩
theorem aal:bc ["gate", "tables", "inputs"] ["gate", "tables", "inputs"] (az wO):=⟨rfl,rfl,rfl,by decide +kernel,rfl,by decide +kernel,by decide +kernel⟩
theorem uT:bc ["base", "exponent", "product", "j"] ["base", "exponent"] (az pA):=⟨rfl,rfl,rfl,by decide +kernel,rfl,by decide +kernel,by decide +kernel⟩
theorem DY:bc ["count", "gates"] ["count", "gates"] (az iB):=⟨rfl,rfl,rfl,by decide +kernel,rfl,by decide +kernel,by decide +kernel⟩
theorem gU:bc ["choices", "lists", "rows", "longer", "chosen", "row"] ["choices"] (az jV):=⟨rfl,rfl,rfl,by decide +kernel,rfl,by decide +kernel,by decide +kernel⟩
theorem mR:bc ["old", "fresh", "length", "lists", "place"] ["old", "fresh", "length"] (az gw):=⟨rfl,rfl,rfl,by decide +kernel,rfl,by decide +kernel,by decide +kernel⟩
theorem v5:bc ["count", "gates"] ["count", "gates"] (az dC):=⟨rfl,rfl,rfl,by decide +kernel,rfl,by decide +kernel,by decide +kernel⟩
theorem Qm:bc ["waiting", "table", "way"] ["waiting", "table", "way"] (az o7):=⟨rfl,rfl,rfl,by decide +kernel,rfl,by decide +kernel,by decide +kernel⟩
theorem kY:bc ["gates", "inputs", "waiting", "table", "gate"] ["gates", "inputs"] (az iK):=⟨rfl,rfl,rfl,by decide +kernel,rfl,by decide +kernel,by decide +kernel⟩
theorem iI:bc ["found", "table", "gate", "inputs", "old", "told", "chosen", "given", "cost"] ["found", "table", "gate", "inputs"] (az jf):=⟨rfl,rfl,rfl,by decide +kernel,rfl,by decide +kernel,by decide +kernel⟩
theorem mX:bc ["gates", "inputs", "found", "waiting", "table", "gate", "given", "way"] ["gates", "inputs"] (az rQ):=⟨rfl,rfl,rfl,by decide +kernel,rfl,by decide +kernel,by decide +kernel⟩
theorem nq:bc ["found", "table", "trees", "known", "way"] ["found", "table"] (az jT):=⟨rfl,rfl,rfl,by decide +kernel,rfl,by decide +kernel,by decide +kernel⟩
theorem GD:bc ["gates", "inputs", "found"] ["gates", "inputs"] (az pC):=⟨rfl,rfl,rfl,by decide +kernel,rfl,by decide +kernel,by decide +kernel⟩
theorem kJ:bc ["gates", "wish", "found"] ["gates", "wish"] (az fJ):=⟨rfl,rfl,rfl,by decide +kernel,rfl,by decide +kernel,by decide +kernel⟩
theorem Be:bc ["_law_script", "_law_k"] ["_law_script", "_law_k"] (az gm):=⟨rfl,rfl,rfl,by decide +kernel,rfl,by decide +kernel,by decide +kernel⟩
theorem Hq:bc ["_law_found"] ["_law_found"] (az jn):=⟨rfl,rfl,rfl,by decide +kernel,rfl,by decide +kernel,by decide +kernel⟩
theorem rB:bc ["_law_cell", "_law_way", "_law_some"] ["_law_cell"] (az jG):=⟨rfl,rfl,rfl,by decide +kernel,rfl,by decide +kernel,by decide +kernel⟩
theorem fW:bc ["_law_script", "_law_first", "_law_gates", "_law_inputs"] ["_law_script"] (az jm):=⟨rfl,rfl,rfl,by decide +kernel,rfl,by decide +kernel,by decide +kernel⟩
theorem gC:bc ["_law_gate_here", "_law_tables", "_law_full", "_law_found", "_law_row", "_law_part", "_law_k"] ["_law_gate_here", "_law_tables", "_law_full"] (az lJ):=⟨rfl,rfl,rfl,by decide +kernel,rfl,by decide +kernel,by decide +kernel⟩
theorem bR:bc ["_law_gates", "_law_inputs", "_law_tree", "_law_starts", "_law_full", "_law_size", "_law_values", "_law_jobs", "_law_one", "_law_is_ready", "_law_count", "_law_cut"] ["_law_gates", "_law_inputs", "_law_tree"] (az fD):=⟨rfl,rfl,rfl,by decide +kernel,rfl,by decide +kernel,by decide +kernel⟩
theorem jg:bc ["_law_gates", "_law_wish", "_law_found", "e"] ["_law_gates", "_law_wish"] (az jN):=⟨rfl,rfl,rfl,by decide +kernel,rfl,by decide +kernel,by decide +kernel⟩
theorem mz:bc ["_law_script", "_law_gates", "_law_wish", "_law_costs", "_law_table", "_law_cost", "_law_turn", "_law_handed", "_law_found"] ["_law_script"] (az oY):=⟨rfl,rfl,rfl,by decide +kernel,rfl,by decide +kernel,by decide +kernel⟩
section
variable {P:cc}{w:eK}{K:af}{mg:Str→Option ag}{base:Heap}
theorem Gg (F:At K mg "row_count" je ["inputs"]) (bI:mg "range" = none):Def P w K mg base 1 "row_count" ["inputs"] (spF K [.bor] .f gO):=
 cz (N:=["inputs", "count", "j"]) (fs:=[.bor]) (O:=[.bor,.imm,.imm]) (O':=[]) (Ol:=[]) (rm:=.f) F lN rfl (by decide) (by decide) fun f cdv A outer s H E hr=>
 (aF (O1:=[.bor,.imm,.imm]) (bA 1 lN.nd rfl (cb rfl) au)
  (aF (O1:=[.bor,.imm,.imm]) (dJ fe rfl [2] (Oe:=[.bor,.imm,.imm]) (jC rfl bI (ak 0)) (bu 2 lN.nd rfl (cb rfl)) (aH (bA 1 lN.nd rfl (cb rfl) (aX wC (sp au) (ak 1)))) (by decide))
  (aH (bW (bH 1)))))
theorem Ba (F:At K mg "table_limit" gk ["inputs"]) (bI:mg "range" = none):Def P w K mg base 1 "table_limit" ["inputs"] (spF K [.bor] .f jc):=
 cz (N:=["inputs", "limit", "j"]) (fs:=[.bor]) (O:=[.bor,.imm,.imm]) (O':=[]) (Ol:=[]) (rm:=.f) F jR rfl (by decide) (by decide) fun f cdv A outer s H E hr=>
 (aF (O1:=[.bor,.imm,.imm]) (bA 1 jR.nd rfl (cb rfl) au)
  (aF (O1:=[.bor,.imm,.imm]) (dJ fe rfl [2] (Oe:=[.bor,.imm,.imm]) (jC rfl bI (ak 0)) (bu 2 jR.nd rfl (cb rfl)) (aH (bA 1 jR.nd rfl (cb rfl) (aX wC (ak 1) (ak 1)))) (by decide))
  (aH (bW (bH 1)))))
theorem DP (F:At K mg "full_table" iM ["inputs"]) (oh:Def P w K mg base 1 "table_limit" ["inputs"] (spF K [.bor] .f jc)):Def P w K mg base 2 "full_table" ["inputs"] (spF K [.bor] .f jt):=
 cz (N:=["inputs"]) (fs:=[.bor]) (O:=[.bor]) (O':=[]) (Ol:=[]) (rm:=.f) F Dq rfl (by decide) (by decide) fun f cdv A outer s H E hr=>
 (aH (bW (aX z8 (sp (bN oh (hr.mono (by decide)) rfl (aJ (ak 0) aU))) (sp au))))
theorem YG (F:At K mg "bit" wU ["number", "place"]):Def P w K mg base 1 "bit" ["number", "place"] (spF K [.bor,.bor] .f uH):=
 cz (N:=["number", "place"]) (fs:=[.bor,.bor]) (O:=[.bor,.bor]) (O':=[]) (Ol:=[]) (rm:=.f) F Yu rfl (by decide) (by decide) fun f cdv A outer s H E hr=>
 (aH (bW (aX qe (sp (aX FT (ak 0) (ak 1))) (sp au))))
theorem Ho (F:At K mg "number_of" jk ["figures"]) (jL:mg "reversed" = none):Def P w K mg base 1 "number_of" ["figures"] (spF K [.bor] .f j9):=
 cz (N:=["figures", "number", "figure"]) (fs:=[.bor]) (O:=[.bor,.imm,.imm]) (O':=[]) (Ol:=[]) (rm:=.f) F lO rfl (by decide) (by decide) fun f cdv A outer s H E hr=>
 (aF (O1:=[.bor,.imm,.imm]) (bA 1 lO.nd rfl (cb rfl) au)
  (aF (O1:=[.bor,.imm,.imm]) (dJ fe rfl [2] (Oe:=[.bor,.imm,.imm]) (Y5 rfl jL (qm 0)) (bu 2 lO.nd rfl (cb rfl)) (aH (bA 1 lO.nd rfl (cb rfl) (aX mJ (sp (aX wC (sp au) (ak 1))) (ak 2)))) (by decide))
  (aH (bW (bH 1)))))
theorem Ab (F:At K mg "input_table" gh ["inputs", "j"]) (rK:Def P w K mg base 1 "number_of" ["figures"] (spF K [.bor] .f j9)) (xH:Def P w K mg base 1 "bit" ["number", "place"] (spF K [.bor,.bor] .f uH)) (ji:Def P w K mg base 1 "row_count" ["inputs"] (spF K [.bor] .f gO)) (bI:mg "range" = none):Def P w K mg base 2 "input_table" ["inputs", "j"] (spF K [.bor,.bor] .f iZ):=
 cz (N:=["inputs", "j"]) (fs:=[.bor,.bor]) (O:=[.bor,.bor]) (O':=[]) (Ol:=[]) (rm:=.f) F Am rfl (by decide) (by decide) fun f cdv A outer s H E hr=>
 (aH (bW (bN rK (hr.mono (by decide)) rfl (aJ (sfp (jP ["row"] [1] (Ob:=[.imm,.bor]) (O1:=[.imm,.bor]) (is:=[0]) rfl rfl rfl rfl (by decide) (qL rfl bI (sp (bN ji (hr.mono (by decide)) rfl (aJ (ak 0) aU)))) (fun _ _ _ _ _=>(bu 0 (show mS (["row", "j"]:List Str) by decide +kernel) rfl (cb rfl))) (fun _ _ _ _ _=>gQ) (fun _ _ _ _ _=>(bN xH (hr.mono (by decide)) rfl (aJ (ak 0) (aJ (ak 1) aU)))))) aU))))
theorem zy (F:At K mg "input_tables" fu ["inputs"]) (oA:Def P w K mg base 2 "input_table" ["inputs", "j"] (spF K [.bor,.bor] .f iZ)) (bI:mg "range" = none):Def P w K mg base 3 "input_tables" ["inputs"] (spF K [.bor] .t iH):=
 cz (N:=["inputs"]) (fs:=[.bor]) (O:=[.bor]) (O':=[]) (Ol:=[]) (rm:=.t) F zx rfl (by decide) (by decide) fun f cdv A outer s H E hr=>
 (aH (Ju (jP ["j"] [0] (Ob:=[.imm,.bor]) (O1:=[.imm,.bor]) (is:=[0]) rfl rfl rfl rfl (by decide) (qL rfl bI (ak 0)) (fun _ _ _ _ _=>(bu 0 (show mS (["j", "inputs"]:List Str) by decide +kernel) rfl (cb rfl))) (fun _ _ _ _ _=>gQ) (fun _ _ _ _ _=>(bN oA (hr.mono (by decide)) rfl (aJ (ak 1) (aJ (ak 0) aU)))))))
theorem Kc (F:At K mg "put_all" lK ["gate", "numbers", "full"]) (xH:Def P w K mg base 1 "bit" ["number", "place"] (spF K [.bor,.bor] .f uH)) (ji:Def P w K mg base 1 "row_count" ["inputs"] (spF K [.bor] .f gO)) (gb:mg "len" = none) (bI:mg "range" = none):Def P w K mg base 2 "put_all" ["gate", "numbers", "full"] (spF K [.bor,.bor,.bor] .f nG):=
 cz (N:=["gate", "numbers", "full", "given", "number"]) (fs:=[.bor,.bor,.bor]) (O:=[.bor,.bor,.bor,.imm,.imm]) (O':=[]) (Ol:=[]) (rm:=.f) F o6 rfl (by decide) (by decide) fun f cdv A outer s H E hr=>
 (aF (O1:=[.bor,.bor,.bor,.imm,.imm]) (bA 3 o6.nd rfl (fq rfl) (sfe (jP ["place"] [2,0] (Ob:=[.imm,.bor,.bor]) (O1:=[.imm,.bor,.bor]) (is:=[0]) rfl rfl rfl rfl (by decide) (qL rfl bI (sp (bN ji (hr.mono (by decide)) rfl (aJ (sp (aW (ak 0) (sp au) (fun _ _=>rfl))) aU)))) (fun _ _ _ _ _=>(bu 0 (show mS (["place", "full", "gate"]:List Str) by decide +kernel) rfl (cb rfl))) (fun _ _ _ _ _=>gQ) (fun _ _ _ _ _=>(aX wC (ak 1) (sp (bN xH (hr.mono (by decide)) rfl (aJ (sp (aW (ak 2) (sp au) (fun _ _=>rfl))) (aJ (ak 0) aU)))))))))
  (aF (O1:=[.bor,.bor,.bor,.imm,.imm]) (dJ fe rfl [4] (Oe:=[.bor,.bor,.bor,.imm,.imm]) (kE (qm 1)) (bu 4 o6.nd rfl (fq rfl)) (aH (bA 3 o6.nd rfl (fq rfl) (sfe (jP ["k"] [3,4] (Ob:=[.imm,.imm,.imm]) (O1:=[.imm,.imm,.imm]) (is:=[0]) rfl rfl rfl rfl (by decide) (Ny rfl bI (sp au) (sp (eE vJ rfl gb (show ee "len" = some (.builtin "len") by decide +kernel) (aJ (ak 3) aU))) (sp au)) (fun _ _ _ _ _=>(bu 0 (show mS (["k", "given", "number"]:List Str) by decide +kernel) rfl (cb rfl))) (fun _ _ _ _ _=>gQ) (fun _ _ _ _ _=>(aX Ug (sp (aX qe (sp (aW (ak 1) (ak 0) (fun _ _=>rfl))) (sp (YQ (ak 2))))) (sp (aX qe (sp (aW (ak 1) (sp (aX mJ (ak 0) (sp au))) (fun _ _=>rfl))) (ak 2))))))))) (by decide))
  (aH (bW (aW (ak 3) (sp au) (fun _ _=>rfl))))))
theorem Yn (F:At K mg "put" wO ["gate", "tables", "inputs"]) (wu:Def P w K mg base 2 "put_all" ["gate", "numbers", "full"] (spF K [.bor,.bor,.bor] .f nG)) (pG:Def P w K mg base 2 "full_table" ["inputs"] (spF K [.bor] .f jt)):Def P w K mg base 3 "put" ["gate", "tables", "inputs"] (spF K [.bor,.bor,.bor] .f qM):=
 cz (N:=["gate", "tables", "inputs"]) (fs:=[.bor,.bor,.bor]) (O:=[.bor,.bor,.bor]) (O':=[]) (Ol:=[]) (rm:=.f) F aal rfl (by decide) (by decide) fun f cdv A outer s H E hr=>
 (aH (bW (bN wu (hr.mono (by decide)) rfl (aJ (ak 0) (aJ (ak 1) (aJ (sp (bN pG (hr.mono (by decide)) rfl (aJ (ak 2) aU))) aU))))))
theorem Qg (F:At K mg "power" pA ["base", "exponent"]) (bI:mg "range" = none):Def P w K mg base 1 "power" ["base", "exponent"] (spF K [.bor,.bor] .f sO):=
 cz (N:=["base", "exponent", "product", "j"]) (fs:=[.bor,.bor]) (O:=[.bor,.bor,.imm,.imm]) (O':=[]) (Ol:=[]) (rm:=.f) F uT rfl (by decide) (by decide) fun f cdv A outer s H E hr=>
 (aF (O1:=[.bor,.bor,.imm,.imm]) (bA 2 uT.nd rfl (cb rfl) au)
  (aF (O1:=[.bor,.bor,.imm,.imm]) (dJ fe rfl [3] (Oe:=[.bor,.bor,.imm,.imm]) (jC rfl bI (ak 1)) (bu 3 uT.nd rfl (cb rfl)) (aH (bA 2 uT.nd rfl (cb rfl) (aX wC (ak 0) (ak 2)))) (by decide))
  (aH (bW (bH 2)))))
theorem DR (F:At K mg "list_count" iB ["count", "gates"]) (BW:Def P w K mg base 1 "power" ["base", "exponent"] (spF K [.bor,.bor] .f sO)) (xO:mg "sum" = none):Def P w K mg base 2 "list_count" ["count", "gates"] (spF K [.bor,.bor] .f iJ):=
 cz (N:=["count", "gates"]) (fs:=[.bor,.bor]) (O:=[.bor,.bor]) (O':=[]) (Ol:=[]) (rm:=.f) F DY rfl (by decide) (by decide) fun f cdv A outer s H E hr=>
 (aH (bW (eE (MF rfl) rfl xO (show ee "sum" = some (.builtin "sum") by decide +kernel) (aJ (sfp (jP ["gate"] [0] (Ob:=[.imm,.bor]) (O1:=[.imm,.bor]) (is:=[0]) rfl rfl rfl rfl (by decide) (zM (ak 1)) (fun _ _ _ _ _=>(bu 0 (show mS (["gate", "count"]:List Str) by decide +kernel) rfl (cb rfl))) (fun _ _ _ _ _=>gQ) (fun _ _ _ _ _=>(bN BW (hr.mono (by decide)) rfl (aJ (ak 1) (aJ (sp (aW (ak 0) (sp au) (fun _ _=>rfl))) aU)))))) aU))))
theorem HD (F:At K mg "lists_of" jV ["choices"]):Def P w K mg base 1 "lists_of" ["choices"] (spF K [.bor] .f my):=
 cz (N:=["choices", "lists", "rows", "longer", "chosen", "row"]) (fs:=[.bor]) (O:=[.bor,.imm,.imm,.own,.imm,.imm]) (O':=[]) (Ol:=[]) (rm:=.f) F gU rfl (by decide) (by decide) fun f cdv A outer s H E hr=>
 (aF (O1:=[.bor,.imm,.imm,.own,.imm,.imm]) (bA 1 gU.nd rfl (cb rfl) (sfe (cC (aG (sfe (cC aZ)) aZ))))
  (aF (O1:=[.bor,.imm,.imm,.own,.imm,.imm]) (dJ fe rfl [2,3,4,5] (Oe:=[.bor,.imm,.imm,.imm,.imm,.imm]) (kE (qm 0)) (bu 2 gU.nd rfl (cb rfl)) (aF (O1:=[.bor,.imm,.imm,.own,.imm,.imm]) (fB 3 gU.nd rfl (cb rfl) (cC aZ))
  (aF (O1:=[.bor,.imm,.imm,.own,.imm,.imm]) (dJ fe rfl [4,5] (Oe:=[.bor,.imm,.imm,.own,.imm,.imm]) (kE (qm 1)) (bu 4 gU.nd rfl (cb rfl)) (aH (dJ fe rfl [5] (Oe:=[.bor,.imm,.imm,.own,.imm,.imm]) (kE (qm 2)) (bu 5 gU.nd rfl (cb rfl)) (aH (vP 3 (aX mJ (ak 4) (sfp (cC (aG (bH 5) aZ)))))) (by decide))) (by decide))
  (aH (Ew 3 (O2:=[.bor,.imm,.imm,.imm,.imm,.imm]) (bA 1 gU.nd rfl (cb rfl) (bH 3)))))) (by decide))
  (aH (bW (bH 1)))))
theorem Aw (F:At K mg "fresh_lists" gw ["old", "fresh", "length"]) (ur:Def P w K mg base 1 "lists_of" ["choices"] (spF K [.bor] .f my)) (bI:mg "range" = none):Def P w K mg base 2 "fresh_lists" ["old", "fresh", "length"] (spF K [.imm,.imm,.bor] .t jb):=
 cz (N:=["old", "fresh", "length", "lists", "place"]) (fs:=[.imm,.imm,.bor]) (O:=[.imm,.imm,.bor,.own,.imm]) (O':=[]) (Ol:=[]) (rm:=.t) F mR rfl (by decide) (by decide) fun f cdv A outer s H E hr=>
 (aF (O1:=[.imm,.imm,.bor,.own,.imm]) (fB 3 mR.nd rfl (cb rfl) (cC aZ))
  (aF (O1:=[.imm,.imm,.bor,.own,.imm]) (dJ fe rfl [4] (Oe:=[.imm,.imm,.bor,.own,.imm]) (jC rfl bI (ak 2)) (bu 4 mR.nd rfl (cb rfl)) (aH (UT 3 (bN ur (hr.mono (by decide)) rfl (aJ (sp (aX mJ (sp (aX mJ (sfp (N8 (cC (aG (bH 0) aZ)) (ak 4))) (sfp (cC (aG (bH 1) aZ))))) (sfp (N8 (cC (aG (aX mJ (ak 0) (ak 1)) aZ)) (sp (aX z8 (sp (aX z8 (ak 2) (ak 4))) (sp au))))))) aU)))) (by decide))
  (aH (wX 3))))
theorem uZ (F:At K mg "refuse_too_many" dC ["count", "gates"]) (ql:Def P w K mg base 2 "list_count" ["count", "gates"] (spF K [.bor,.bor] .f iJ)) {nR:ag} (jx:mg "MOST_CLOSED_ROWS" = some nR) (wH:RelV (.int 128) nR) {wj:ag} (pN:mg "MOST_LISTS" = some wj) (Ej:RelV (.int 20000) wj):Def P w K mg base 3 "refuse_too_many" ["count", "gates"] (spF K [.bor,.bor] .f cB):=
 Vl (N:=["count", "gates"]) (fs:=[.bor,.bor]) (O:=[.bor,.bor]) (O':=[.bor,.bor]) (Ol:=[]) (rm:=.f) F v5 rfl (by decide) (by decide) (hrm:=rfl) (hbody:=fun f cdv A outer s H E hr=>
 (aH (cD (oU (m6 (bC qX (ak 0) (sp (su rfl jx wH (fun _=>Rp.int.mpr rfl))) (bU _)) (nF (bC qX (sp (bN ql (hr.mono (by decide)) rfl (aJ (ak 0) (aJ (ak 1) aU)))) (sp (su rfl pN Ej (fun _=>Rp.int.mpr rfl))) (bU _))))) (aH pW) cM)))
theorem Tz (F:At K mg "offer" o7 ["waiting", "table", "way"]):Def P w K mg base 1 "offer" ["waiting", "table", "way"] (spM K [.bor,.imm,.imm] 0 iG):=
 Tp (N:=["waiting", "table", "way"]) (fs:=[.bor,.imm,.imm]) (O:=fun p=>[.fix p,.imm,.imm]) (O':=fun p=>[.fix p,.imm,.imm]) (Ol:=[]) (j:=0) F Qm rfl (by decide) (fun _=>rfl) (fun p=>of_decide_eq_true rfl) (fun _=>rfl) fun p f cdv A outer s H E hr=>
 (aH (cD (oU (m6 (bC (jF hr.cG) (ak 1) (ak 0) rfl) (nF (bC zV (sp (aW (ak 2) (sp au) (fun _ _=>rfl))) (sp (aW (sp (mD hr.cG (ak 0) (ak 1) (fun _ _=>rfl))) (sp au) (fun _ _=>rfl))) (bU _))))) (aH (wQ 0 hr.cG (bH 1) (bH 2))) cM))
theorem Ea (F:At K mg "first_ways" iK ["gates", "inputs"]) (m5:Def P w K mg base 3 "input_tables" ["inputs"] (spF K [.bor] .t iH)) (mQ:Def P w K mg base 1 "offer" ["waiting", "table", "way"] (spM K [.bor,.imm,.imm] 0 iG)) (xN:Def P w K mg base 3 "put" ["gate", "tables", "inputs"] (spF K [.bor,.bor,.bor] .f qM)):Def P w K mg base 4 "first_ways" ["gates", "inputs"] (spF K [.bor,.bor] .t iD):=
 cz (N:=["gates", "inputs", "waiting", "table", "gate"]) (fs:=[.bor,.bor]) (O:=[.bor,.bor,.own,.imm,.imm]) (O':=[]) (Ol:=[]) (rm:=.t) F kY rfl (by decide) (by decide) fun f cdv A outer s H E hr=>
 (aF (O1:=[.bor,.bor,.own,.imm,.imm]) (fB 2 kY.nd rfl (cb rfl) xj)
  (aF (O1:=[.bor,.bor,.own,.imm,.imm]) (dJ fe rfl [3] (Oe:=[.bor,.bor,.own,.imm,.imm]) (kE (sq (sfe (lL m5 (hr.mono (by decide)) rfl (aJ (ak 1) aU))))) (bu 3 kY.nd rfl (cb rfl)) (aH (Gv 2 (Bg 2 mQ (hr.mono (by decide)) rfl (G8 2 (sE (bH 3) (sE (cF (aG au (aG qy (aG (cF aZ) aZ)))) Gx))) rfl rfl rfl (by decide)))) (by decide))
  (aF (O1:=[.bor,.bor,.own,.imm,.imm]) (dJ fe rfl [4] (Oe:=[.bor,.bor,.own,.imm,.imm]) (kE (qm 0)) (bu 4 kY.nd rfl (cb rfl)) (aH (cD (bC (o4 hr.units) (sp (aW (ak 4) (sp au) (fun _ _=>rfl))) (sp au) (bU _)) (aH (Gv 2 (Bg 2 mQ (hr.mono (by decide)) rfl (G8 2 (sE (bN xN (hr.mono (by decide)) rfl (aJ (ak 4) (aJ (sfp (cC aZ)) (aJ (ak 1) aU)))) (sE (cF (aG au (aG (bH 4) (aG (cF aZ) aZ)))) Gx))) rfl rfl rfl (by decide)))) cM)) (by decide))
  (aH (wX 2)))))
theorem Ep (F:At K mg "ways_from" jf ["found", "table", "gate", "inputs"]) (oE:Def P w K mg base 2 "fresh_lists" ["old", "fresh", "length"] (spF K [.imm,.imm,.bor] .t jb)) (xN:Def P w K mg base 3 "put" ["gate", "tables", "inputs"] (spF K [.bor,.bor,.bor] .f qM)) (xO:mg "sum" = none) (jl:mg "tuple" = none):Def P w K mg base 4 "ways_from" ["found", "table", "gate", "inputs"] (spF K [.bor,.imm,.imm,.bor] .t gW):=
 cz (N:=["found", "table", "gate", "inputs", "old", "told", "chosen", "given", "cost"]) (fs:=[.bor,.imm,.imm,.bor]) (O:=[.bor,.imm,.imm,.bor,.imm,.own,.imm,.imm,.imm]) (O':=[]) (Ol:=[]) (rm:=.t) F iI rfl (by decide) (by decide) fun f cdv A outer s H E hr=>
 (aF (O1:=[.bor,.imm,.imm,.bor,.own,.own,.imm,.imm,.imm]) (Tc 0 4 ["known"] [1] (Ob:=[.imm,.imm]) (O1:=[.imm,.imm]) (is:=[0]) rfl iI.nd rfl (cb rfl) rfl rfl rfl rfl (by decide) (U6 0) (fun _ _ _ _ _=>(bu 0 (show mS (["known", "table"]:List Str) by decide +kernel) rfl (cb rfl))) (fun _ _ _ _ _=>(RX (bC (yW hr.units) (ak 0) (ak 1) (bU _)))) (fun _ _ _ _ _=>(bH 0)))
  (aF (O1:=[.bor,.imm,.imm,.bor,.own,.own,.imm,.imm,.imm]) (fB 5 iI.nd rfl (cb rfl) (cC aZ))
  (aF (O1:=[.bor,.imm,.imm,.bor,.imm,.own,.imm,.imm,.imm]) (Ew 4 (O2:=[.bor,.imm,.imm,.bor,.imm,.own,.imm,.imm,.imm]) (dJ fe rfl [6,7,8] (Oe:=[.bor,.imm,.imm,.bor,.imm,.own,.imm,.imm,.imm]) (kE (sq (sfe (lL oE (hr.mono (by decide)) rfl (rY (bH 4) (rY (sfe (cC (aG (bH 1) aZ))) (aJ (sp (aW (ak 2) (sp au) (fun _ _=>rfl))) aU))))))) (bu 6 iI.nd rfl (cb rfl)) (aF (O1:=[.bor,.imm,.imm,.bor,.imm,.own,.imm,.imm,.imm]) (bA 7 iI.nd rfl (cb rfl) (bN xN (hr.mono (by decide)) rfl (aJ (ak 2) (aJ (ak 6) (aJ (ak 3) aU)))))
  (aH (cD (bC (jF hr.cG) (ak 7) (ak 0) rfl) (aF (O1:=[.bor,.imm,.imm,.bor,.imm,.own,.imm,.imm,.imm]) (bA 8 iI.nd rfl (cb rfl) (aX mJ (sp au) (sp (eE (MF rfl) rfl xO (show ee "sum" = some (.builtin "sum") by decide +kernel) (aJ (sfp (jP ["part"] [0] (Ob:=[.imm,.bor]) (O1:=[.imm,.bor]) (is:=[0]) rfl rfl rfl rfl (by decide) (zM (ak 6)) (fun _ _ _ _ _=>(bu 0 (show mS (["part", "found"]:List Str) by decide +kernel) rfl (cb rfl))) (fun _ _ _ _ _=>gQ) (fun _ _ _ _ _=>(aW (sp (mD hr.cG (ak 1) (ak 0) (fun _ _=>rfl))) (sp au) (fun _ _=>rfl))))) aU)))))
  (aH (vP 5 (cF (aG (bH 7) (aG (cF (aG (bH 8) (aG (bH 2) (aG (Cz Gs rfl jl (show ee "tuple" = some (.type "tuple") by decide +kernel) (aJ (ak 6) aU)) aZ)))) aZ)))))) cM))) (by decide)))
  (aH (wX 5)))))
theorem Wi (F:At K mg "ways" rQ ["gates", "inputs"]) (qp:Def P w K mg base 4 "first_ways" ["gates", "inputs"] (spF K [.bor,.bor] .t iD)) (jZ:Def P w K mg base 3 "refuse_too_many" ["count", "gates"] (spF K [.bor,.bor] .f cB)) (rE:Def P w K mg base 4 "ways_from" ["found", "table", "gate", "inputs"] (spF K [.bor,.imm,.imm,.bor] .t gW)) (mQ:Def P w K mg base 1 "offer" ["waiting", "table", "way"] (spM K [.bor,.imm,.imm] 0 iG)) (gb:mg "len" = none) (uJ:mg "min" = none) {T:Addr} (hT:TabAt K mg T):Def P w K mg base 5 "ways" ["gates", "inputs"] (spF K [.bor,.bor] .t cZ):=
 U3 (N:=["gates", "inputs", "found", "waiting", "table", "gate", "given", "way"]) (fs:=[.bor,.bor]) (O:=[.bor,.bor,.own,.own,.imm,.imm,.imm,.imm]) (O':=[]) (Ol:=[]) (rm:=.t) F hT mX rfl (by decide) (by decide) fun f cd A outer s H E hcd hr=>
 (aF (O1:=[.bor,.bor,.own,.own,.imm,.imm,.imm,.imm]) (fB 2 mX.nd rfl (cb rfl) xj)
  (aF (O1:=[.bor,.bor,.own,.own,.imm,.imm,.imm,.imm]) (fB 3 mX.nd rfl (fq rfl) (lL qp (hr.mono (by decide)) rfl (aJ (ak 0) (aJ (ak 1) aU))))
  (aF (O1:=[.bor,.bor,.own,.own,.imm,.imm,.imm,.imm]) (Hd fe 1000000 [4,5,6,7] (Oe:=[.bor,.bor,.own,.own,.imm,.imm,.imm,.imm]) (bC qX (sp (eE BX rfl gb (show ee "len" = some (.builtin "len") by decide +kernel) (aJ (ak 3) aU))) (sp au) (bU _)) (aF (O1:=[.bor,.bor,.own,.own,.imm,.imm,.imm,.imm]) (bA 4 mX.nd rfl (cb rfl) (Wl 3 rfl rfl rfl hr rfl hcd hT rfl rfl uJ rfl rfl rfl rfl rfl (fun _ _ _ _ _ _=>rfl)))
  (aF (O1:=[.bor,.bor,.own,.own,.imm,.imm,.imm,.imm]) (Nt 2 3 4 hr.cG (by decide) (by decide) (by decide))
  (aF (O1:=[.bor,.bor,.own,.own,.imm,.imm,.imm,.imm]) (aaE (sp (bN jZ (hr.mono (by decide)) rfl (aJ (sp (eE BX rfl gb (show ee "len" = some (.builtin "len") by decide +kernel) (aJ (ak 2) aU))) (aJ (ak 0) aU)))))
  (aH (dJ fe rfl [5,6,7] (Oe:=[.bor,.bor,.own,.own,.imm,.imm,.imm,.imm]) (kE (qm 0)) (bu 5 mX.nd rfl (cb rfl)) (aH (dJ fe rfl [6,7] (Oe:=[.bor,.bor,.own,.own,.imm,.imm,.imm,.imm]) (kE (sq (sfe (lL rE (hr.mono (by decide)) rfl (aJ (ak 2) (rY (bH 4) (rY (bH 5) (aJ (ak 1) aU)))))))) (vm rfl (gM (O1:=[.bor,.bor,.own,.own,.imm,.imm,.imm,.imm]) (bu 6 mX.nd rfl (cb rfl)) (gM (O1:=[.bor,.bor,.own,.own,.imm,.imm,.imm,.imm]) (bu 7 mX.nd rfl (cb rfl)) rT))) (aH (Gv 3 (Bg 3 mQ (hr.mono (by decide)) rfl (G8 3 (sE (bH 6) (sE (bH 7) Gx))) rfl rfl rfl (by decide)))) (by decide))) (by decide)))))) (by decide))
  (aH (wX 2)))))
theorem Ia (F:At K mg "way_tree" jT ["found", "table"]) (gb:mg "len" = none) (jl:mg "tuple" = none):Def P w K mg base 1 "way_tree" ["found", "table"] (spF K [.bor,.bor] .f iT):=
 cz (N:=["found", "table", "trees", "known", "way"]) (fs:=[.bor,.bor]) (O:=[.bor,.bor,.own,.imm,.imm]) (O':=[]) (Ol:=[]) (rm:=.f) F nq rfl (by decide) (by decide) fun f cdv A outer s H E hr=>
 (aF (O1:=[.bor,.bor,.own,.imm,.imm]) (fB 2 nq.nd rfl (fq rfl) xj)
  (aF (O1:=[.bor,.bor,.own,.imm,.imm]) (WM 0 rfl (by repeat first | exact ae7 | exact ae6 | exact ae5 | exact aag | apply ae4 | apply aaJ) fe rfl [3,4] (Oe:=[.bor,.bor,.own,.imm,.imm]) (QL 0) (vm rfl (gM (O1:=[.bor,.bor,.own,.imm,.imm]) (bu 3 nq.nd rfl (cb rfl)) (gM (O1:=[.bor,.bor,.own,.imm,.imm]) (bu 4 nq.nd rfl (cb rfl)) rT))) (aH (cD (bC Mp (sp (aW (ak 4) (sp au) (fun _ _=>rfl))) (sp qy) (bU _)) (aH (wQ 2 hr.cG (bH 3) (eE BX rfl gb (show ee "len" = some (.builtin "len") by decide +kernel) (aJ (ak 2) aU)))) (aH (wQ 2 hr.cG (bH 3) (cF (aG (aW (ak 4) (sp au) (fun _ _=>rfl)) (aG (Cz Gs rfl jl (show ee "tuple" = some (.type "tuple") by decide +kernel) (aJ (sfp (jP ["part"] [2] (Ob:=[.imm,.bor]) (O1:=[.imm,.bor]) (is:=[0]) rfl rfl rfl rfl (by decide) (zM (sp (aW (ak 4) (sp au) (fun _ _=>rfl)))) (fun _ _ _ _ _=>(bu 0 (show mS (["part", "trees"]:List Str) by decide +kernel) rfl (cb rfl))) (fun _ _ _ _ _=>gQ) (fun _ _ _ _ _=>(mD hr.cG (ak 1) (ak 0) (fun _ _=>rfl))))) aU)) aZ))))))) (by decide))
  (aH (bW (mD hr.cG (ak 2) (ak 1) (fun _ _=>rfl))))))
theorem Qp (F:At K mg "paper" pC ["gates", "inputs"]) (mj:Def P w K mg base 5 "ways" ["gates", "inputs"] (spF K [.bor,.bor] .t cZ)) (yE:mg "sorted" = none):Def P w K mg base 6 "paper" ["gates", "inputs"] (spF K [.bor,.bor] .t rR):=
 cz (N:=["gates", "inputs", "found"]) (fs:=[.bor,.bor]) (O:=[.bor,.bor,.imm]) (O':=[]) (Ol:=[]) (rm:=.t) F GD rfl (by decide) (by decide) fun f cdv A outer s H E hr=>
 (aF (O1:=[.bor,.bor,.imm]) (bA 2 GD.nd rfl (fq rfl) (sfe (lL mj (hr.mono (by decide)) rfl (aJ (ak 0) (aJ (ak 1) aU)))))
  (aH (Ju (jP ["table"] [2] (Ob:=[.imm,.imm]) (O1:=[.imm,.imm]) (is:=[0]) rfl rfl rfl rfl (by decide) (zM (sfp (QQ (J6 rfl) rfl yE (show ee "sorted" = some (.builtin "sorted") by decide +kernel) (aJ (ak 2) aU)))) (fun _ _ _ _ _=>(bu 0 (show mS (["table", "found"]:List Str) by decide +kernel) rfl (cb rfl))) (fun _ _ _ _ _=>gQ) (fun _ _ _ _ _=>(cF (aG (bH 0) (aG (aW (sp (mD hr.cG (ak 1) (ak 0) (fun _ _=>rfl))) (sp au) (fun _ _=>rfl)) aZ))))))))
theorem Bp (F:At K mg "least_tree" fJ ["gates", "wish"]) (mj:Def P w K mg base 5 "ways" ["gates", "inputs"] (spF K [.bor,.bor] .t cZ)) (mq:Def P w K mg base 1 "way_tree" ["found", "table"] (spF K [.bor,.bor] .f iT)) {jz:ag} (fM:mg "MOST_GATES" = some jz) (lV:RelV (.int 300) jz) {bL:Addr} (lD:mg "NotMade" = some (.ref bL)) {bO:Addr} (jB:mg "TooBig" = some (.ref bO)) (JV:vD K bL) (My:vD K bO):DefX P w K mg base 6 "least_tree" ["gates", "wish"] (spZ K [.bor,.bor] (clL [("NotMade",bL),("TooBig",bO)]) fV):=
 VV (N:=["gates", "wish", "found"]) (fs:=[.bor,.bor]) (O:=[.bor,.bor,.imm]) F kJ rfl (by decide) (by decide) fun f cdv A outer s H E hr=>
 (sJ (rm:=.f) (Ol:=[]) (O1:=[.bor,.bor,.imm]) (bA 2 kJ.nd rfl (cb rfl) (sfe (lL mj (hr.mono (by decide)) rfl (aJ (ak 0) (aJ (sp (aW (ak 1) (sp au) (fun _ _=>rfl))) aU))))) abx (sJ (rm:=.f) (Ol:=[]) (O1:=[.bor,.bor,.imm]) (cD (bC (jF hr.cG) (sp (aW (ak 1) (sp au) (fun _ _=>rfl))) (ak 2) rfl) (aH pW) cM) (T6 (bC (jF hr.cG) (sp (aW (ak 1) (sp au) (fun _ _=>rfl))) (ak 2) rfl) (sJ (rm:=.f) (Ol:=[]) (O1:=[.bor,.bor,.imm]) pW (Cu rfl rfl lD JV zX zY) vZ) vZ) (sJ (rm:=.f) (Ol:=[]) (O1:=[.bor,.bor,.imm]) (cD (bC qX (sp (aW (sp (mD hr.cG (ak 2) (sp (aW (ak 1) (sp au) (fun _ _=>rfl))) (fun _ _=>rfl))) (sp au) (fun _ _=>rfl))) (sp (su rfl fM lV (fun _=>Rp.int.mpr rfl))) (bU _)) (aH pW) cM) (T6 (bC qX (sp (aW (sp (mD hr.cG (ak 2) (sp (aW (ak 1) (sp au) (fun _ _=>rfl))) (fun _ _=>rfl))) (sp au) (fun _ _=>rfl))) (sp (su rfl fM lV (fun _=>Rp.int.mpr rfl))) (bU _)) (sJ (rm:=.f) (Ol:=[]) (O1:=[.bor,.bor,.imm]) pW (Cu rfl rfl jB My zX (Oa (by decide +kernel) zY)) vZ) vZ) vZ)))
theorem DK (F:At K mg "least_tree" fJ ["gates", "wish"]) (mj:Def P w K mg base 5 "ways" ["gates", "inputs"] (spF K [.bor,.bor] .t cZ)) (mq:Def P w K mg base 1 "way_tree" ["found", "table"] (spF K [.bor,.bor] .f iT)) {jz:ag} (fM:mg "MOST_GATES" = some jz) (lV:RelV (.int 300) jz):Def P w K mg base 6 "least_tree" ["gates", "wish"] (spF K [.bor,.bor] .f cT):=
 cz (N:=["gates", "wish", "found"]) (fs:=[.bor,.bor]) (O:=[.bor,.bor,.imm]) (O':=[]) (Ol:=[]) (rm:=.f) F kJ rfl (by decide) (by decide) fun f cdv A outer s H E hr=>
 (aF (O1:=[.bor,.bor,.imm]) (bA 2 kJ.nd rfl (cb rfl) (sfe (lL mj (hr.mono (by decide)) rfl (aJ (ak 0) (aJ (sp (aW (ak 1) (sp au) (fun _ _=>rfl))) aU)))))
  (aF (O1:=[.bor,.bor,.imm]) (cD (bC (jF hr.cG) (sp (aW (ak 1) (sp au) (fun _ _=>rfl))) (ak 2) rfl) (aH pW) cM)
  (aF (O1:=[.bor,.bor,.imm]) (cD (bC qX (sp (aW (sp (mD hr.cG (ak 2) (sp (aW (ak 1) (sp au) (fun _ _=>rfl))) (fun _ _=>rfl))) (sp au) (fun _ _=>rfl))) (sp (su rfl fM lV (fun _=>Rp.int.mpr rfl))) (bU _)) (aH pW) cM)
  (aH (bW (bN mq (hr.mono (by decide)) rfl (aJ (ak 2) (aJ (sp (aW (ak 1) (sp au) (fun _ _=>rfl))) aU))))))))
theorem Ar (F:At K mg "_law_cell_at" gm ["_law_script", "_law_k"]) (gb:mg "len" = none):Def P w K mg base 1 "_law_cell_at" ["_law_script", "_law_k"] (spF K [.bor,.bor] .f cH):=
 cz (N:=["_law_script", "_law_k"]) (fs:=[.bor,.bor]) (O:=[.bor,.bor]) (O':=[]) (Ol:=[]) (rm:=.f) F Be rfl (by decide) (by decide) fun f cdv A outer s H E hr=>
 (aF (O1:=[.bor,.bor]) (cD (bC zV (ak 1) (sp (eE vJ rfl gb (show ee "len" = some (.builtin "len") by decide +kernel) (aJ (ak 0) aU))) (bU _)) (aH (bW (aW (ak 0) (ak 1) (fun _ _=>rfl)))) cM)
  (aH (bW au)))
theorem Gb (F:At K mg "_law_whole" jn ["_law_found"]) (GR:mg "bool" = none) (Kg:mg "int" = none) (bV:mg "isinstance" = none):Def P w K mg base 1 "_law_whole" ["_law_found"] (spF K [.bor] .f cR):=
 cz (N:=["_law_found"]) (fs:=[.bor]) (O:=[.bor]) (O':=[]) (Ol:=[]) (rm:=.f) F Hq rfl (by decide) (by decide) fun f cdv A outer s H E hr=>
 (aH (bW (z9 (zp VG rfl bV (ak 0) (xP rfl Kg (show ee "int" = some (.type "int") by decide +kernel))) (Gf (O6 (zp QX rfl bV (ak 0) (xP rfl GR (show ee "bool" = some (.type "bool") by decide +kernel))))))))
theorem Iz (F:At K mg "_law_gate" jG ["_law_cell"]):Def P w K mg base 1 "_law_gate" ["_law_cell"] (spF K [.bor] .f jK):=
 cz (N:=["_law_cell", "_law_way", "_law_some"]) (fs:=[.bor]) (O:=[.bor,.imm,.imm]) (O':=[]) (Ol:=[]) (rm:=.f) F rB rfl (by decide) (by decide) fun f cdv A outer s H E hr=>
 (aF (O1:=[.bor,.imm,.imm]) (bA 1 rB.nd rfl (cb rfl) (aX iw (ak 0) (sp au)))
  (aF (O1:=[.bor,.imm,.imm]) (bA 2 rB.nd rfl (cb rfl) (aX o8 (ak 0) (sp au)))
  (aF (O1:=[.bor,.imm,.imm]) (cD (bC (o4 hr.units) (ak 1) (sp au) (bU _)) (aH (bW (cF (aG au (aG (aX iw (ak 2) (sp au)) aZ))))) cM)
  (aF (O1:=[.bor,.imm,.imm]) (cD (bC zV (ak 1) (sp au) (bU _)) (aH (bW (cF (aG au (aG (aX iw (ak 2) (sp au)) aZ))))) cM)
  (aH (bW (cF (aG au (aG (aX iw (ak 2) (sp au)) aZ)))))))))
theorem Hv (F:At K mg "_law_drawn" jm ["_law_script"]) (dN:Def P w K mg base 1 "_law_cell_at" ["_law_script", "_law_k"] (spF K [.bor,.bor] .f cH)) (qZ:Def P w K mg base 1 "_law_gate" ["_law_cell"] (spF K [.bor] .f jK)) (uJ:mg "min" = none) (bI:mg "range" = none):Def P w K mg base 2 "_law_drawn" ["_law_script"] (spF K [.bor] .f jh):=
 cz (N:=["_law_script", "_law_first", "_law_gates", "_law_inputs"]) (fs:=[.bor]) (O:=[.bor,.imm,.own,.imm]) (O':=[]) (Ol:=[]) (rm:=.f) F fW rfl (by decide) (by decide) fun f cdv A outer s H E hr=>
 (aF (O1:=[.bor,.imm,.own,.imm]) (bA 1 fW.nd rfl (cb rfl) (bN dN (hr.mono (by decide)) rfl (aJ (ak 0) (aJ (sp au) aU))))
  (aF (O1:=[.bor,.imm,.own,.imm]) (VN 2 ["_law_k"] [0] (Ob:=[.imm,.bor]) (O1:=[.imm,.bor]) (is:=[0]) fW.nd rfl (cb rfl) rfl rfl rfl rfl (by decide) (qL rfl bI (sp (aX iw (ak 1) (sp au)))) (fun _ _ _ _ _=>(bu 0 (show mS (["_law_k", "_law_script"]:List Str) by decide +kernel) rfl (cb rfl))) (fun _ _ _ _ _=>gQ) (fun _ _ _ _ _=>(bN qZ (hr.mono (by decide)) rfl (aJ (sp (bN dN (hr.mono (by decide)) rfl (aJ (ak 1) (aJ (sp (aX mJ (sp au) (ak 0))) aU)))) aU))))
  (aF (O1:=[.bor,.imm,.own,.imm]) (cD (bC (o4 hr.units) (sp (aX iw (sp (aX o8 (ak 1) (sp au))) (sp au))) (sp au) (bU _)) (aH (vP 2 (cF (aG au (aG (aX iw (sp (bN dN (hr.mono (by decide)) rfl (aJ (ak 0) (aJ (sp au) aU)))) (sp au)) aZ))))) cM)
  (aF (O1:=[.bor,.imm,.own,.imm]) (bA 3 fW.nd rfl (cb rfl) (aW (sfp (cC (aG au (aG au (aG au (aG au (aG au aZ))))))) (sp (aX iw (sp (aX o8 (ak 1) (sp au))) (sp au))) (fun _ _=>rfl)))
  (aF (O1:=[.bor,.imm,.own,.imm]) (cD (oU (Zi (bC (o4 hr.units) (sp (aX iw (sp (aX o8 (ak 1) (sp au))) (sp au))) (sp au) (bU _)) (W3 (bC qX (sp (aX iw (sp (aX o8 (ak 1) (sp au))) (sp au))) (sp au) (bU _))))) (aH (bA 3 fW.nd rfl (cb rfl) (eE (Qa rfl) rfl uJ (show ee "min" = some (.builtin "min") by decide +kernel) (aJ (ak 3) (aJ (sp au) aU))))) cM)
  (aF (O1:=[.bor,.imm,.own,.imm]) (cD (bC (o4 hr.units) (sp (aX iw (sp (aX o8 (ak 1) (sp au))) (sp au))) (sp au) (bU _)) (aF (O1:=[.bor,.imm,.own,.imm]) (fB 2 fW.nd rfl (cb rfl) (O4 PK (sp (Kf (ak 2) BZ (Bo (sp au)))) (sfp (cC (aG (cF (aG au (aG (aX iw (sp (bN dN (hr.mono (by decide)) rfl (aJ (ak 0) (aJ (sp au) aU)))) (sp au)) aZ))) aZ)))))
  (aH (bA 3 fW.nd rfl (cb rfl) (eE (Qa rfl) rfl uJ (show ee "min" = some (.builtin "min") by decide +kernel) (aJ (ak 3) (aJ (sp au) aU)))))) cM)
  (aH (Ew 2 (O2:=[.bor,.imm,.imm,.imm]) (bW (cF (aG (bH 2) (aG (cF (aG (bH 3) (aG (aX iw (sp (bN dN (hr.mono (by decide)) rfl (aJ (ak 0) (aJ (sp au) aU)))) (sp (aW (sfp (cC (aG au (aG au (aG au aZ))))) (ak 3) (fun _ _=>rfl)))) aZ))) aZ))))))))))))
theorem Lf (F:At K mg "_law_put" lJ ["_law_gate_here", "_law_tables", "_law_full"]) (bI:mg "range" = none):Def P w K mg base 1 "_law_put" ["_law_gate_here", "_law_tables", "_law_full"] (spF K [.bor,.bor,.imm] .f jE):=
 cz (N:=["_law_gate_here", "_law_tables", "_law_full", "_law_found", "_law_row", "_law_part", "_law_k"]) (fs:=[.bor,.bor,.imm]) (O:=[.bor,.bor,.imm,.imm,.imm,.imm,.imm]) (O':=[]) (Ol:=[]) (rm:=.f) F gC rfl (by decide) (by decide) fun f cdv A outer s H E hr=>
 (aF (O1:=[.bor,.bor,.imm,.imm,.imm,.imm,.imm]) (bA 3 gC.nd rfl (cb rfl) au)
  (aF (O1:=[.bor,.bor,.imm,.imm,.imm,.imm,.imm]) (dJ fe rfl [4,5,6] (Oe:=[.bor,.bor,.imm,.imm,.imm,.imm,.imm]) (jC rfl bI (sp (aW (sfp (cC (aG au (aG au (aG au (aG au (aG au aZ))))))) (sp (aW (ak 0) (sp au) (fun _ _=>rfl))) (fun _ _=>rfl)))) (bu 4 gC.nd rfl (cb rfl)) (aF (O1:=[.bor,.bor,.imm,.imm,.imm,.imm,.imm]) (bA 5 gC.nd rfl (cb rfl) (bH 2))
  (aF (O1:=[.bor,.bor,.imm,.imm,.imm,.imm,.imm]) (dJ fe rfl [6] (Oe:=[.bor,.bor,.imm,.imm,.imm,.imm,.imm]) (jC rfl bI (sp (aW (ak 0) (sp au) (fun _ _=>rfl)))) (bu 6 gC.nd rfl (cb rfl)) (aH (cD (bC (o4 hr.units) (sp (aX qe (sp (aX FT (ak 4) (ak 6))) (sp au))) (sp au) (bU _)) (aH (bA 5 gC.nd rfl (cb rfl) (aX qe (ak 5) (sp (aW (ak 1) (ak 6) (fun _ _=>rfl)))))) (aH (bA 5 gC.nd rfl (cb rfl) (aX qe (ak 5) (sp (aX ZJ (ak 2) (sp (aW (ak 1) (ak 6) (fun _ _=>rfl)))))))))) (by decide))
  (aH (cD (bC (o4 hr.units) (sp (aX qe (sp (aX FT (sp (aW (ak 0) (sp au) (fun _ _=>rfl))) (ak 4))) (sp au))) (sp au) (bU _)) (aH (bA 3 gC.nd rfl (cb rfl) (aX Ug (ak 3) (ak 5)))) cM)))) (by decide))
  (aH (bW (bH 3)))))
theorem zQ (F:At K mg "_law_reckoned" fD ["_law_gates", "_law_inputs", "_law_tree"]) (qt:Def P w K mg base 1 "_law_whole" ["_law_found"] (spF K [.bor] .f cR)) (ux:Def P w K mg base 1 "_law_put" ["_law_gate_here", "_law_tables", "_law_full"] (spF K [.bor,.bor,.imm] .f jE)) (bV:mg "isinstance" = none) (gb:mg "len" = none) (jL:mg "reversed" = none) (jl:mg "tuple" = none):Def P w K mg base 2 "_law_reckoned" ["_law_gates", "_law_inputs", "_law_tree"] (spF K [.bor,.bor,.imm] .f iC):=
 cz (N:=["_law_gates", "_law_inputs", "_law_tree", "_law_starts", "_law_full", "_law_size", "_law_values", "_law_jobs", "_law_one", "_law_is_ready", "_law_count", "_law_cut"]) (fs:=[.bor,.bor,.imm]) (O:=[.bor,.bor,.imm,.imm,.imm,.imm,.own,.own,.imm,.imm,.imm,.imm]) (O':=[]) (Ol:=[]) (rm:=.f) F bR rfl (by decide) (by decide) fun f cdv A outer s H E hr=>
 (aF (O1:=[.bor,.bor,.imm,.imm,.imm,.imm,.own,.own,.imm,.imm,.imm,.imm]) (bA 3 bR.nd rfl (cb rfl) (aW (sfp (cC (aG (sfe (cC aZ)) (aG (sfe (cC (aG au aZ))) (aG (sfe (cC (aG au (aG au aZ)))) aZ))))) (ak 1) (fun _ _=>rfl)))
  (aF (O1:=[.bor,.bor,.imm,.imm,.imm,.imm,.own,.own,.imm,.imm,.imm,.imm]) (bA 4 bR.nd rfl (cb rfl) (aW (sfp (cC (aG au (aG au (aG au aZ))))) (ak 1) (fun _ _=>rfl)))
  (aF (O1:=[.bor,.bor,.imm,.imm,.imm,.imm,.own,.own,.imm,.imm,.imm,.imm]) (bA 5 bR.nd rfl (cb rfl) au)
  (aF (O1:=[.bor,.bor,.imm,.imm,.imm,.imm,.own,.own,.imm,.imm,.imm,.imm]) (fB 6 bR.nd rfl (cb rfl) (cC aZ))
  (aF (O1:=[.bor,.bor,.imm,.imm,.imm,.imm,.own,.own,.imm,.imm,.imm,.imm]) (fB 7 bR.nd rfl (cb rfl) (cC (aG (cF (aG (bH 2) (aG m9 aZ))) aZ)))
  (aF (O1:=[.bor,.bor,.imm,.imm,.imm,.imm,.own,.own,.imm,.imm,.imm,.imm]) (Hd fe 1000000 [8,9,10,11] (Oe:=[.bor,.bor,.imm,.imm,.imm,.imm,.own,.own,.imm,.imm,.imm,.imm]) (bC (XN hr.units) (ak 7) (sfp (cC aZ)) (bU _)) (aF (O1:=[.bor,.bor,.imm,.imm,.imm,.imm,.own,.own,.imm,.imm,.imm,.imm]) (Vy 7 (vm rfl (gM (O1:=[.bor,.bor,.imm,.imm,.imm,.imm,.own,.own,.imm,.imm,.imm,.imm]) (bu 8 bR.nd rfl (cb rfl)) (gM (O1:=[.bor,.bor,.imm,.imm,.imm,.imm,.own,.own,.imm,.imm,.imm,.imm]) (bu 9 bR.nd rfl (cb rfl)) rT))))
  (aH (cD (Pr (sp (bN qt (hr.mono (by decide)) rfl (aJ (ak 8) aU)))) (aF (O1:=[.bor,.bor,.imm,.imm,.imm,.imm,.own,.own,.imm,.imm,.imm,.imm]) (cD (G6 (SQ aaH zV (sp au) (ak 8) (ak 1))) (aH (bW qy)) cM)
  (aH (vP 6 (aW (ak 3) (ak 8) (fun _ _=>rfl))))) (aH (cD (Pr (ak 9)) (aF (O1:=[.bor,.bor,.imm,.imm,.imm,.imm,.own,.own,.imm,.imm,.imm,.imm]) (bA 10 bR.nd rfl (cb rfl) (aW (sp (aW (ak 8) (sp au) (fun _ _=>rfl))) (sp au) (fun _ _=>rfl)))
  (aF (O1:=[.bor,.bor,.imm,.imm,.imm,.imm,.own,.own,.imm,.imm,.imm,.imm]) (bA 11 bR.nd rfl (cb rfl) (aX z8 (sp (eE vJ rfl gb (show ee "len" = some (.builtin "len") by decide +kernel) (aJ (ak 6) aU))) (ak 10)))
  (aH (fB 6 bR.nd rfl (cb rfl) (O4 PK (sp (Kf (ak 6) BZ (Bo (ak 11)))) (sfp (cC (aG (bN ux (hr.mono (by decide)) rfl (aJ (sp (aW (ak 8) (sp au) (fun _ _=>rfl))) (aJ (sp (Kf (ak 6) (Bo (ak 11)) BZ)) (rY (bH 4) aU)))) aZ)))))))) (aF (O1:=[.bor,.bor,.imm,.imm,.imm,.imm,.own,.own,.imm,.imm,.imm,.imm]) (cD (oU (m6 (G6 (Oc (zp Cg rfl bV (ak 8) (xP rfl jl (show ee "tuple" = some (.type "tuple") by decide +kernel))))) (m6 (bC (yW hr.units) (sp (eE vJ rfl gb (show ee "len" = some (.builtin "len") by decide +kernel) (aJ (ak 8) aU))) (sp au) (bU _)) (m6 (bC (jF hr.cG) (sp (aW (ak 8) (sp au) (fun _ _=>rfl))) (ak 0) rfl) (nF (G6 (Oc (zp Cg rfl bV (sp (aW (ak 8) (sp au) (fun _ _=>rfl))) (xP rfl jl (show ee "tuple" = some (.type "tuple") by decide +kernel)))))))))) (aH (bW qy)) cM)
  (aF (O1:=[.bor,.bor,.imm,.imm,.imm,.imm,.own,.own,.imm,.imm,.imm,.imm]) (cD (oU (m6 (bC (yW hr.units) (sp (eE vJ rfl gb (show ee "len" = some (.builtin "len") by decide +kernel) (aJ (sp (aW (ak 8) (sp au) (fun _ _=>rfl))) aU))) (sp (aW (sp (aW (ak 8) (sp au) (fun _ _=>rfl))) (sp au) (fun _ _=>rfl))) (bU _)) (nF (bC qX (ak 5) (sp au) (bU _))))) (aH (bW qy)) cM)
  (aF (O1:=[.bor,.bor,.imm,.imm,.imm,.imm,.own,.own,.imm,.imm,.imm,.imm]) (bA 5 bR.nd rfl (cb rfl) (aX mJ (ak 5) (sp au)))
  (aF (O1:=[.bor,.bor,.imm,.imm,.imm,.imm,.own,.own,.imm,.imm,.imm,.imm]) (vP 7 (cF (aG (bH 8) (aG m9 aZ))))
  (aH (XQ 7 (jP ["_law_part"] [] (Ob:=[.imm]) (O1:=[.imm]) (is:=[0]) rfl rfl rfl rfl (by decide) (ZX rfl jL (sp (aW (ak 8) (sp au) (fun _ _=>rfl)))) (fun _ _ _ _ _=>(bu 0 (show mS (["_law_part"]:List Str) by decide +kernel) rfl (cb rfl))) (fun _ _ _ _ _=>gQ) (fun _ _ _ _ _=>(cF (aG (bH 0) (aG m9 aZ)))))))))))))))) (by decide))
  (aH (bW (cF (aG (aW (ak 6) (sp au) (fun _ _=>rfl)) (aG (bH 5) aZ)))))))))))
theorem HN (F:At K mg "_law_told" jN ["_law_gates", "_law_wish"]) (pD:Def P w K mg base 6 "least_tree" ["gates", "wish"] (spF K [.bor,.bor] .f cT)) (lR:mg "ValueError" = none) (bV:mg "isinstance" = none) {dW:Addr} (nj:mg "GateError" = some (.ref dW)) {yG:Addr} (ug:mg "NoName" = some (.ref yG)) {pM:Addr} (mL:mg "NoRelation" = some (.ref pM)) {Bt:Addr} (xF:mg "NoRow" = some (.ref Bt)) {yu:Addr} (tW:mg "NoText" = some (.ref yu)) {yC:Addr} (uB:mg "NotAll" = some (.ref yC)) {bL:Addr} (lD:mg "NotMade" = some (.ref bL)) {bO:Addr} (jB:mg "TooBig" = some (.ref bO)) {vV:Addr} (qQ:mg "TooMany" = some (.ref vV)) (lU:ft K (.ref bL) (.type "ValueError")=some true) (nD:ft K (.ref bO) (.type "ValueError")=some true) (eZ:tU K bL bO) (eV:bK K bL yG) (dg:bK K bL pM) (fG:bK K bL Bt) (eU:bK K bL yu) (eQ:bK K bL yC) (dZ:bK K bL vV) (fY:bK K bO yG) (dz:bK K bO pM) (gF:bK K bO Bt) (fU:bK K bO yu) (fX:bK K bO yC) (eO:bK K bO vV) (fL:ft K (.ref bL) (.ref bO)=some false) (eY:(eL bL == eL bO)=false) (j7:jO K bL) (dX:kZ K bL bL) (fP:kZ K bO bO) (dH:ft K (.ref bL) (.ref dW)=some true) (dB:(eL bL == eL dW)=false) (dY:ft K (.ref bO) (.ref dW)=some true) (dM:(eL bO == eL dW)=false) (nZ:DefX P w K mg base 6 "least_tree" ["gates", "wish"] (spZ K [.bor,.bor] (clL [("NotMade",bL),("TooBig",bO)]) fV)):Def P w K mg base 7 "_law_told" ["_law_gates", "_law_wish"] (spF K [.bor,.bor] .f fj):=
 cz (N:=["_law_gates", "_law_wish", "_law_found", "e"]) (fs:=[.bor,.bor]) (O:=[.bor,.bor,.imm,.imm]) (O':=[]) (Ol:=[]) (rm:=.f) F jg rfl (by decide) (by decide) fun f cdv A outer s H E hr=>
 (aF (O1:=[.bor,.bor,.imm,.imm]) (bA 2 jg.nd rfl (cb rfl) qy)
  (aF (O1:=[.bor,.bor,.imm,.imm]) (Vg (la:=[("NotMade",bL),("TooBig",bO)]) (fun _ _ h=>h) rfl rfl rfl jg.nd (bA 2 jg.nd rfl (cb rfl) (cF (aG vM (aG (bN pD (hr.mono (by decide)) rfl (aJ (ak 0) (aJ (ak 1) aU))) aZ)))) (Yv (ZG (V9 (fun _ _ h=>h) nZ (hr.mono (by decide)) rfl (aJ (ak 0) (aJ (ak 1) aU)))))
  (.cons (c := "NotMade") zY (.K8 (.cons rfl ug (by decide) (.cons rfl mL (by decide) (.cons rfl xF (by decide) (.cons rfl uB (by decide) (.cons rfl tW (by decide) (.cons rfl qQ (by decide) .nil)))))) (of_decide_eq_true rfl) (wR.all ⟨eV,dg,fG,eQ,eU,dZ,trivial⟩) (.skip rfl jB (by decide) eZ (.Lg 3 rfl lD (by decide) dX rfl rfl (of_decide_eq_true rfl) (Ox:=[.bor,.bor,.imm,.exc bL]) (fun _=>(aH (bA 2 jg.nd rfl (cb rfl) (cF (aG vM (aG (z9 (vO 3 (cv:=.ref dW) rfl (.yes dH dB) (fun u z=>z) rfl bV (xf (v:=.ref dW) rfl nj rfl (by decide))) (z9 (vO 3 (cv:=.ty "ValueError") rfl (.yes lU (xb.mpr fun q=>nomatch beq_iff_eq.mp q)) (fun u z=>z) rfl bV (xP rfl lR (show ee "ValueError" = some (.type "ValueError") by decide +kernel))) (Gf (O6 (vO 3 (cv:=.ref bO) rfl (.no j7 fL eY) (fun u z=>z) rfl bV (xf (v:=.ref bO) rfl jB rfl (by decide))))))) aZ)))))) rfl)))
  (.cons (c := "TooBig") (Oa (by decide +kernel) zY) (.K8 (.cons rfl ug (by decide) (.cons rfl mL (by decide) (.cons rfl xF (by decide) (.cons rfl uB (by decide) (.cons rfl tW (by decide) (.cons rfl qQ (by decide) .nil)))))) (of_decide_eq_true rfl) (wR.all ⟨fY,dz,gF,fX,fU,eO,trivial⟩) (.Lg 3 rfl jB (by decide) fP rfl rfl (of_decide_eq_true rfl) (Ox:=[.bor,.bor,.imm,.exc bO]) (fun _=>(aH (bA 2 jg.nd rfl (cb rfl) (cF (aG vM (aG (z9 (vO 3 (cv:=.ref dW) rfl (.yes dY dM) (fun u z=>z) rfl bV (xf (v:=.ref dW) rfl nj rfl (by decide))) (Gf (vO 3 (cv:=.ty "ValueError") rfl (.yes nD (xb.mpr fun q=>nomatch beq_iff_eq.mp q)) (fun u z=>z) rfl bV (xP rfl lR (show ee "ValueError" = some (.type "ValueError") by decide +kernel))))) aZ)))))) rfl))
  .nil)))
  (aH (bW (bH 2)))))
theorem aas {fa:Addr}{fd:mm} (F:Fun K "law" "law" oY fa fd) (qb:Def P w K mg base 2 "_law_drawn" ["_law_script"] (spF K [.bor] .f jh)) (BL:Def P w K mg base 6 "paper" ["gates", "inputs"] (spF K [.bor,.bor] .t rR)) (rH:Def P w K mg base 7 "_law_told" ["_law_gates", "_law_wish"] (spF K [.bor,.bor] .f fj)) (mF:Def P w K mg base 2 "_law_reckoned" ["_law_gates", "_law_inputs", "_law_tree"] (spF K [.bor,.bor,.imm] .f iC)) (Ff:mg "list" = none) (bI:mg "range" = none):n8 P w K mg base CX0 8 fa fd ["_law_script"] (spF K [.bor] .f tR):=
 U5 (N:=["_law_script", "_law_gates", "_law_wish", "_law_costs", "_law_table", "_law_cost", "_law_turn", "_law_handed", "_law_found"]) (fs:=[.bor]) (O:=[.bor,.imm,.imm,.own,.imm,.imm,.imm,.own,.imm]) (O':=[]) (Ol:=[]) (rm:=.f) F mz rfl (by decide) (by decide) fun f cdv A outer s H E hr=>
 (aF (O1:=[.bor,.imm,.imm,.own,.imm,.imm,.imm,.own,.imm]) (Xo (bN qb (hr.mono (by decide)) rfl (aJ (ak 0) aU)) (vm rfl (gM (O1:=[.bor,.imm,.imm,.own,.imm,.imm,.imm,.own,.imm]) (bu 1 mz.nd rfl (cb rfl)) (gM (O1:=[.bor,.imm,.imm,.own,.imm,.imm,.imm,.own,.imm]) (bu 2 mz.nd rfl (cb rfl)) rT))))
  (aF (O1:=[.bor,.imm,.imm,.own,.imm,.imm,.imm,.own,.imm]) (fB 3 mz.nd rfl (cb rfl) xj)
  (aF (O1:=[.bor,.imm,.imm,.own,.imm,.imm,.imm,.own,.imm]) (dJ fe rfl [4,5] (Oe:=[.bor,.imm,.imm,.own,.imm,.imm,.imm,.own,.imm]) (kE (sq (sfe (lL BL (hr.mono (by decide)) rfl (aJ (ak 1) (aJ (sp (aW (ak 2) (sp au) (fun _ _=>rfl))) aU)))))) (vm rfl (gM (O1:=[.bor,.imm,.imm,.own,.imm,.imm,.imm,.own,.imm]) (bu 4 mz.nd rfl (cb rfl)) (gM (O1:=[.bor,.imm,.imm,.own,.imm,.imm,.imm,.own,.imm]) (bu 5 mz.nd rfl (cb rfl)) rT))) (aH (wQ 3 hr.cG (bH 4) (bH 5))) (by decide))
  (aF (O1:=[.bor,.imm,.imm,.own,.imm,.imm,.imm,.own,.imm]) (dJ fe rfl [6,7,8] (Oe:=[.bor,.imm,.imm,.own,.imm,.imm,.imm,.own,.imm]) (jC rfl bI (sp au)) (bu 6 mz.nd rfl (cb rfl)) (aF (O1:=[.bor,.imm,.imm,.own,.imm,.imm,.imm,.own,.imm]) (fB 7 mz.nd rfl (cb rfl) (NZ Vd rfl Ff (show ee "list" = some (.type "list") by decide +kernel) (aJ (ak 1) aU)))
  (aF (O1:=[.bor,.imm,.imm,.own,.imm,.imm,.imm,.own,.imm]) (bA 8 mz.nd rfl (cb rfl) (bN rH (hr.mono (by decide)) rfl (aJ (ak 7) (aJ (ak 2) aU))))
  (aF (O1:=[.bor,.imm,.imm,.own,.imm,.imm,.imm,.own,.imm]) (cD (oU (m6 (bC Mp (ak 8) (sp qy) (bU _)) (nF (bC (yW hr.units) (ak 7) (ak 1) (bU _))))) (aH (bW m9)) cM)
  (aF (O1:=[.bor,.imm,.imm,.own,.imm,.imm,.imm,.own,.imm]) (cD (bC (o4 hr.units) (sp (aW (ak 8) (sp au) (fun _ _=>rfl))) (sp vM) (bU _)) (aH (cD (oU (m6 (bC (aan hr.cG) (sp (aW (ak 2) (sp au) (fun _ _=>rfl))) (ak 3) rfl) (nF (bC JB (sp (aW (ak 8) (sp au) (fun _ _=>rfl))) (sp m9) (bU _))))) (aH (bW m9)) cM)) (aH (cD (bC (o4 hr.units) (sp (aW (ak 8) (sp au) (fun _ _=>rfl))) (sp vM) (bU _)) (aH (cD (oU (m6 (bC zV (sp (W8 hr.cG (ak 3) (aW (ak 2) (sp au) (fun _ _=>rfl)) au)) (sp au) (bU _)) (nF (bC JB (sp (aW (ak 8) (sp au) (fun _ _=>rfl))) (sp m9) (bU _))))) (aH (bW m9)) cM)) (aH (cD (oU (m6 (bC (jF hr.cG) (sp (aW (ak 2) (sp au) (fun _ _=>rfl))) (ak 3) rfl) (nF (bC (yW hr.units) (sp (bN mF (hr.mono (by decide)) rfl (aJ (ak 1) (aJ (sp (aW (ak 2) (sp au) (fun _ _=>rfl))) (rY (aW (ak 8) (sp au) (fun _ _=>rfl)) aU))))) (sp (cF (aG (aW (ak 2) (sp au) (fun _ _=>rfl)) (aG (mD hr.cG (ak 3) (sp (aW (ak 2) (sp au) (fun _ _=>rfl))) (fun _ _=>rfl)) aZ)))) (bU _))))) (aH (bW m9)) cM)))))
  (aH (R7 7 )))))) (by decide))
  (aH (bW m9))))))
end
theorem all_mk {l:sM}{w:eK}{K:af}{h:Heap}{mg:Str→Option ag}{fa:Addr} (X:K.In h) (G:h.Ns ba mg) (hfa:mg "law" = some (.ref fa))
 {f0:Addr}{od0 an0:Option Addr}{sl0:Array (Option ag)}{oc0 kV0 dc0 pm0 cd0 ct0:ag}
 {f1:Addr}{od1 an1:Option Addr}{sl1:Array (Option ag)}{oc1 kV1 dc1 pm1 cd1 ct1:ag}
 {f2:Addr}{od2 an2:Option Addr}{sl2:Array (Option ag)}{oc2 kV2 dc2 pm2 cd2 ct2:ag}
 {f3:Addr}{od3 an3:Option Addr}{sl3:Array (Option ag)}{oc3 kV3 dc3 pm3 cd3 ct3:ag}
 {f4:Addr}{od4 an4:Option Addr}{sl4:Array (Option ag)}{oc4 kV4 dc4 pm4 cd4 ct4:ag}
 {f5:Addr}{od5 an5:Option Addr}{sl5:Array (Option ag)}{oc5 kV5 dc5 pm5 cd5 ct5:ag}
 {f6:Addr}{od6 an6:Option Addr}{sl6:Array (Option ag)}{oc6 kV6 dc6 pm6 cd6 ct6:ag}
 {f7:Addr}{od7 an7:Option Addr}{sl7:Array (Option ag)}{oc7 kV7 dc7 pm7 cd7 ct7:ag}
 {f8:Addr}{od8 an8:Option Addr}{sl8:Array (Option ag)}{oc8 kV8 dc8 pm8 cd8 ct8:ag}
 {f9:Addr}{od9 an9:Option Addr}{sl9:Array (Option ag)}{oc9 kV9 dc9 pm9 cd9 ct9:ag}
 {f10:Addr}{adZ aeO:Option Addr}{adw:Array (Option ag)}{ac6 aeN ade abT Yx ab6:ag}
 {f11:Addr}{aeF ab2:Option Addr}{adK:Array (Option ag)}{adi abC abJ acv YF adn:ag}
 {f12:Addr}{aeT adG:Option Addr}{ae1:Array (Option ag)}{aeI adD abW aeM Y9 acR:ag}
 {f13:Addr}{aem aei:Option Addr}{acT:Array (Option ag)}{acQ acV adH aeR YD ado:ag}
 {f14:Addr}{abP aeb:Option Addr}{aeB:Array (Option ag)}{acZ ady abE adA Zx aeo:ag}
 {f15:Addr}{acs ab1:Option Addr}{adM:Array (Option ag)}{ad7 abZ acP ab8 Xy aeD:ag}
 {f16:Addr}{ab9 abG:Option Addr}{acL:Array (Option ag)}{abY adW ach acH Zo ad6:ag}
 {f17:Addr}{aeZ abU:Option Addr}{abX:Array (Option ag)}{adO acN adq adx YS aeu:ag}
 {f18:Addr}{adf aeJ:Option Addr}{ad5:Array (Option ag)}{abN acE aee ae3 YH aeH:ag}
 {f19:Addr}{acM ac8:Option Addr}{aco:Array (Option ag)}{acC acy abM acb ZP aey:ag}
 {f20:Addr}{abK aew:Option Addr}{aeK:Array (Option ag)}{aek ae2 adI aeE ZZ acF:ag}
 {f21:Addr}{aeg adX:Option Addr}{adE:Array (Option ag)}{ace ac4 acd abQ XJ acp:ag}
 {f22:Addr}{adp adh:Option Addr}{adB:Array (Option ag)}{aev acr acI ad3 Zd abB:ag}
 {f23:Addr}{acw acf:Option Addr}{adm:Array (Option ag)}{abR acO aeX adF Xd aeU:ag}
 {f24:Addr}{aeG acx:Option Addr}{acq:Array (Option ag)}{ac0 abO ack aeV Xg ael:ag}
 {f25:Addr}{acY adP:Option Addr}{adC:Array (Option ag)}{ac7 adk acB acz Zt aeQ:ag}
 {f26:Addr}{adg ad4:Option Addr}{ad0:Array (Option ag)}{adv aex aci aes Yq ac9:ag}
 {f27:Addr}{acj aeA:Option Addr}{ab5:Array (Option ag)}{aeY aca ae0 abI aat adY:ag}
 {f28:Addr}{ab4 ZF:Option Addr}{acu:Array (Option ag)}{abL ZD Zu YM Ra Zr:ag}
 {u9:Tok}
 {GX:Tok}
 {Fv:Tok}
 {kh:Addr}
 {yH:Addr}
 {pU:Addr}
 {Bu:Addr}
 {yJ:Addr}
 {yw:Addr}
 {cu:Addr}
 {cO:Addr}
 {vg:Addr}
 {T:Addr}
 (a0:bX K ba "row_count" = some (some (.ref f0))) (l0:K.lookup f0=some ⟨oc0,od0,.func (b9 "row_count" "row_count" (aR je) (aP je) (az je) .none kV0 dc0 pm0 an0 cd0 ct0),sl0⟩) (c0:dE K cd0 "row_count" = true) (k0:cS K (.ref f0)=true)
 (a1:bX K ba "table_limit" = some (some (.ref f1))) (l1:K.lookup f1=some ⟨oc1,od1,.func (b9 "table_limit" "table_limit" (aR gk) (aP gk) (az gk) .none kV1 dc1 pm1 an1 cd1 ct1),sl1⟩) (c1:dE K cd1 "table_limit" = true) (k1:cS K (.ref f1)=true)
 (a2:bX K ba "full_table" = some (some (.ref f2))) (l2:K.lookup f2=some ⟨oc2,od2,.func (b9 "full_table" "full_table" (aR iM) (aP iM) (az iM) .none kV2 dc2 pm2 an2 cd2 ct2),sl2⟩) (c2:dE K cd2 "full_table" = true) (k2:cS K (.ref f2)=true)
 (a3:bX K ba "bit" = some (some (.ref f3))) (l3:K.lookup f3=some ⟨oc3,od3,.func (b9 "bit" "bit" (aR wU) (aP wU) (az wU) .none kV3 dc3 pm3 an3 cd3 ct3),sl3⟩) (c3:dE K cd3 "bit" = true) (k3:cS K (.ref f3)=true)
 (a4:bX K ba "number_of" = some (some (.ref f4))) (l4:K.lookup f4=some ⟨oc4,od4,.func (b9 "number_of" "number_of" (aR jk) (aP jk) (az jk) .none kV4 dc4 pm4 an4 cd4 ct4),sl4⟩) (c4:dE K cd4 "number_of" = true) (k4:cS K (.ref f4)=true)
 (a5:bX K ba "input_table" = some (some (.ref f5))) (l5:K.lookup f5=some ⟨oc5,od5,.func (b9 "input_table" "input_table" (aR gh) (aP gh) (az gh) .none kV5 dc5 pm5 an5 cd5 ct5),sl5⟩) (c5:dE K cd5 "input_table" = true) (k5:cS K (.ref f5)=true)
 (a6:bX K ba "input_tables" = some (some (.ref f6))) (l6:K.lookup f6=some ⟨oc6,od6,.func (b9 "input_tables" "input_tables" (aR fu) (aP fu) (az fu) .none kV6 dc6 pm6 an6 cd6 ct6),sl6⟩) (c6:dE K cd6 "input_tables" = true) (k6:cS K (.ref f6)=true)
 (a7:bX K ba "put_all" = some (some (.ref f7))) (l7:K.lookup f7=some ⟨oc7,od7,.func (b9 "put_all" "put_all" (aR lK) (aP lK) (az lK) .none kV7 dc7 pm7 an7 cd7 ct7),sl7⟩) (c7:dE K cd7 "put_all" = true) (k7:cS K (.ref f7)=true)
 (a8:bX K ba "put" = some (some (.ref f8))) (l8:K.lookup f8=some ⟨oc8,od8,.func (b9 "put" "put" (aR wO) (aP wO) (az wO) .none kV8 dc8 pm8 an8 cd8 ct8),sl8⟩) (c8:dE K cd8 "put" = true) (k8:cS K (.ref f8)=true)
 (a9:bX K ba "power" = some (some (.ref f9))) (l9:K.lookup f9=some ⟨oc9,od9,.func (b9 "power" "power" (aR pA) (aP pA) (az pA) .none kV9 dc9 pm9 an9 cd9 ct9),sl9⟩) (c9:dE K cd9 "power" = true) (k9:cS K (.ref f9)=true)
 (a10:bX K ba "list_count" = some (some (.ref f10))) (l10:K.lookup f10=some ⟨ac6,adZ,.func (b9 "list_count" "list_count" (aR iB) (aP iB) (az iB) .none aeN ade abT aeO Yx ab6),adw⟩) (c10:dE K Yx "list_count" = true) (k10:cS K (.ref f10)=true)
 (a11:bX K ba "lists_of" = some (some (.ref f11))) (l11:K.lookup f11=some ⟨adi,aeF,.func (b9 "lists_of" "lists_of" (aR jV) (aP jV) (az jV) .none abC abJ acv ab2 YF adn),adK⟩) (c11:dE K YF "lists_of" = true) (k11:cS K (.ref f11)=true)
 (a12:bX K ba "fresh_lists" = some (some (.ref f12))) (l12:K.lookup f12=some ⟨aeI,aeT,.func (b9 "fresh_lists" "fresh_lists" (aR gw) (aP gw) (az gw) .none adD abW aeM adG Y9 acR),ae1⟩) (c12:dE K Y9 "fresh_lists" = true) (k12:cS K (.ref f12)=true)
 (a13:bX K ba "refuse_too_many" = some (some (.ref f13))) (l13:K.lookup f13=some ⟨acQ,aem,.func (b9 "refuse_too_many" "refuse_too_many" (aR dC) (aP dC) (az dC) .none acV adH aeR aei YD ado),acT⟩) (c13:dE K YD "refuse_too_many" = true) (k13:cS K (.ref f13)=true)
 (a14:bX K ba "offer" = some (some (.ref f14))) (l14:K.lookup f14=some ⟨acZ,abP,.func (b9 "offer" "offer" (aR o7) (aP o7) (az o7) .none ady abE adA aeb Zx aeo),aeB⟩) (c14:dE K Zx "offer" = true) (k14:cS K (.ref f14)=true)
 (a15:bX K ba "first_ways" = some (some (.ref f15))) (l15:K.lookup f15=some ⟨ad7,acs,.func (b9 "first_ways" "first_ways" (aR iK) (aP iK) (az iK) .none abZ acP ab8 ab1 Xy aeD),adM⟩) (c15:dE K Xy "first_ways" = true) (k15:cS K (.ref f15)=true)
 (a16:bX K ba "ways_from" = some (some (.ref f16))) (l16:K.lookup f16=some ⟨abY,ab9,.func (b9 "ways_from" "ways_from" (aR jf) (aP jf) (az jf) .none adW ach acH abG Zo ad6),acL⟩) (c16:dE K Zo "ways_from" = true) (k16:cS K (.ref f16)=true)
 (a17:bX K ba "ways" = some (some (.ref f17))) (l17:K.lookup f17=some ⟨adO,aeZ,.func (b9 "ways" "ways" (aR rQ) (aP rQ) (az rQ) .none acN adq adx abU YS aeu),abX⟩) (c17:dE K YS "ways" = true) (k17:cS K (.ref f17)=true)
 (a18:bX K ba "way_tree" = some (some (.ref f18))) (l18:K.lookup f18=some ⟨abN,adf,.func (b9 "way_tree" "way_tree" (aR jT) (aP jT) (az jT) .none acE aee ae3 aeJ YH aeH),ad5⟩) (c18:dE K YH "way_tree" = true) (k18:cS K (.ref f18)=true)
 (a19:bX K ba "paper" = some (some (.ref f19))) (l19:K.lookup f19=some ⟨acC,acM,.func (b9 "paper" "paper" (aR pC) (aP pC) (az pC) .none acy abM acb ac8 ZP aey),aco⟩) (c19:dE K ZP "paper" = true) (k19:cS K (.ref f19)=true)
 (a20:bX K ba "least_tree" = some (some (.ref f20))) (l20:K.lookup f20=some ⟨aek,abK,.func (b9 "least_tree" "least_tree" (aR fJ) (aP fJ) (az fJ) .none ae2 adI aeE aew ZZ acF),aeK⟩) (c20:dE K ZZ "least_tree" = true) (k20:cS K (.ref f20)=true)
 (a21:bX K ba "_law_cell_at" = some (some (.ref f21))) (l21:K.lookup f21=some ⟨ace,aeg,.func (b9 "_law_cell_at" "_law_cell_at" (aR gm) (aP gm) (az gm) .none ac4 acd abQ adX XJ acp),adE⟩) (c21:dE K XJ "_law_cell_at" = true) (k21:cS K (.ref f21)=true)
 (a22:bX K ba "_law_whole" = some (some (.ref f22))) (l22:K.lookup f22=some ⟨aev,adp,.func (b9 "_law_whole" "_law_whole" (aR jn) (aP jn) (az jn) .none acr acI ad3 adh Zd abB),adB⟩) (c22:dE K Zd "_law_whole" = true) (k22:cS K (.ref f22)=true)
 (a23:bX K ba "_law_gate" = some (some (.ref f23))) (l23:K.lookup f23=some ⟨abR,acw,.func (b9 "_law_gate" "_law_gate" (aR jG) (aP jG) (az jG) .none acO aeX adF acf Xd aeU),adm⟩) (c23:dE K Xd "_law_gate" = true) (k23:cS K (.ref f23)=true)
 (a24:bX K ba "_law_drawn" = some (some (.ref f24))) (l24:K.lookup f24=some ⟨ac0,aeG,.func (b9 "_law_drawn" "_law_drawn" (aR jm) (aP jm) (az jm) .none abO ack aeV acx Xg ael),acq⟩) (c24:dE K Xg "_law_drawn" = true) (k24:cS K (.ref f24)=true)
 (a25:bX K ba "_law_put" = some (some (.ref f25))) (l25:K.lookup f25=some ⟨ac7,acY,.func (b9 "_law_put" "_law_put" (aR lJ) (aP lJ) (az lJ) .none adk acB acz adP Zt aeQ),adC⟩) (c25:dE K Zt "_law_put" = true) (k25:cS K (.ref f25)=true)
 (a26:bX K ba "_law_reckoned" = some (some (.ref f26))) (l26:K.lookup f26=some ⟨adv,adg,.func (b9 "_law_reckoned" "_law_reckoned" (aR fD) (aP fD) (az fD) .none aex aci aes ad4 Yq ac9),ad0⟩) (c26:dE K Yq "_law_reckoned" = true) (k26:cS K (.ref f26)=true)
 (a27:bX K ba "_law_told" = some (some (.ref f27))) (l27:K.lookup f27=some ⟨aeY,acj,.func (b9 "_law_told" "_law_told" (aR jN) (aP jN) (az jN) .none aca ae0 abI aeA aat adY),ab5⟩) (c27:dE K aat "_law_told" = true) (k27:cS K (.ref f27)=true)
 (a28:bX K ba "law" = some (some (.ref f28))) (l28:K.lookup f28=some ⟨abL,ab4,.func (b9 "law" "law" (aR oY) (aP oY) (az oY) .none ZD Zu YM ZF Ra Zr),acu⟩) (c28:dE K Ra "law" = true) (k28:cS K (.ref f28)=true)
 (pZ:bX K ba "ValueError" = some none)
 (y_bool:bX K ba "bool" = some none)
 (Kh:bX K ba "int" = some none)
 (pI:bX K ba "isinstance" = some none)
 (J7:bX K ba "len" = some none)
 (Es:bX K ba "list" = some none)
 (Kd:bX K ba "min" = some none)
 (Ag:bX K ba "range" = some none)
 (uN:bX K ba "reversed" = some none)
 (ye:bX K ba "sorted" = some none)
 (JP:bX K ba "sum" = some none)
 (Ad:bX K ba "tuple" = some none)
 (jD:bX K ba "MOST_CLOSED_ROWS" = some (some (.int 128 u9)))
 (qd:bX K ba "MOST_GATES" = some (some (.int 300 GX)))
 (pJ:bX K ba "MOST_LISTS" = some (some (.int 20000 Fv)))
 (p8:bX K ba "GateError" = some (some (.ref kh)))
 (wy:bX K ba "NoName" = some (some (.ref yH)))
 (n6:bX K ba "NoRelation" = some (some (.ref pU)))
 (yt:bX K ba "NoRow" = some (some (.ref Bu)))
 (vI:bX K ba "NoText" = some (some (.ref yJ)))
 (wk:bX K ba "NotAll" = some (some (.ref yw)))
 (tH:bX K ba "NotMade" = some (some (.ref cu)))
 (v9:bX K ba "TooBig" = some (some (.ref cO)))
 (uG:bX K ba "TooMany" = some (some (.ref vg)))
 (uo:vD K cu)
 (vo:vD K cO)
 (lU:ft K (.ref cu) (.type "ValueError")=some true)
 (nD:ft K (.ref cO) (.type "ValueError")=some true)
 (eZ:tU K cu cO)
 (eV:bK K cu yH)
 (dg:bK K cu pU)
 (fG:bK K cu Bu)
 (eU:bK K cu yJ)
 (eQ:bK K cu yw)
 (dZ:bK K cu vg)
 (fY:bK K cO yH)
 (dz:bK K cO pU)
 (gF:bK K cO Bu)
 (fU:bK K cO yJ)
 (fX:bK K cO yw)
 (eO:bK K cO vg)
 (fL:ft K (.ref cu) (.ref cO)=some false)
 (eY:(eL cu == eL cO)=false)
 (j7:jO K cu)
 (dX:kZ K cu cu)
 (fP:kZ K cO cO)
 (dH:ft K (.ref cu) (.ref kh)=some true)
 (dB:(eL cu == eL kh)=false)
 (dY:ft K (.ref cO) (.ref kh)=some true)
 (dM:(eL cO == eL kh)=false)
 (yT:nU K f17 T=true) :
 ∃fd:mm,(∀(s:ar) (v:ag),BindsTo s fd ⟨[v],[]⟩ [("_law_script",v)])∧(∃f,mg "ways" = some (.ref f)∧nU K f T=true)∧∀base:Heap,K.In base→base.Ns ba mg→n8 l.prog w K mg base CX0 8 fa fd ["_law_script"] (spF K [.bor] .f tR):=by
 have Ij:At K mg "row_count" je ["inputs"]:=At.mk' (ck X G a0) l0 c0 k0 (uF (fun _ _ _ _ _ _ _=>rfl) rfl)
 have Dw:At K mg "table_limit" gk ["inputs"]:=At.mk' (ck X G a1) l1 c1 k1 (uF (fun _ _ _ _ _ _ _=>rfl) rfl)
 have Ey:At K mg "full_table" iM ["inputs"]:=At.mk' (ck X G a2) l2 c2 k2 (uF (fun _ _ _ _ _ _ _=>rfl) rfl)
 have aa7:At K mg "bit" wU ["number", "place"]:=At.mk' (ck X G a3) l3 c3 k3 (oG (fun _ _ _ _ _ _ _ _=>rfl) rfl)
 have Ih:At K mg "number_of" jk ["figures"]:=At.mk' (ck X G a4) l4 c4 k4 (uF (fun _ _ _ _ _ _ _=>rfl) rfl)
 have DQ:At K mg "input_table" gh ["inputs", "j"]:=At.mk' (ck X G a5) l5 c5 k5 (oG (fun _ _ _ _ _ _ _ _=>rfl) rfl)
 have BR:At K mg "input_tables" fu ["inputs"]:=At.mk' (ck X G a6) l6 c6 k6 (uF (fun _ _ _ _ _ _ _=>rfl) rfl)
 have Mi:At K mg "put_all" lK ["gate", "numbers", "full"]:=At.mk' (ck X G a7) l7 c7 k7 (Bx (fun _ _ _ _ _ _ _ _ _=>rfl) rfl)
 have abe:At K mg "put" wO ["gate", "tables", "inputs"]:=At.mk' (ck X G a8) l8 c8 k8 (Bx (fun _ _ _ _ _ _ _ _ _=>rfl) rfl)
 have V5:At K mg "power" pA ["base", "exponent"]:=At.mk' (ck X G a9) l9 c9 k9 (oG (fun _ _ _ _ _ _ _ _=>rfl) rfl)
 have Fj:At K mg "list_count" iB ["count", "gates"]:=At.mk' (ck X G a10) l10 c10 k10 (oG (fun _ _ _ _ _ _ _ _=>rfl) rfl)
 have Lw:At K mg "lists_of" jV ["choices"]:=At.mk' (ck X G a11) l11 c11 k11 (uF (fun _ _ _ _ _ _ _=>rfl) rfl)
 have Dy:At K mg "fresh_lists" gw ["old", "fresh", "length"]:=At.mk' (ck X G a12) l12 c12 k12 (Bx (fun _ _ _ _ _ _ _ _ _=>rfl) rfl)
 have xT:At K mg "refuse_too_many" dC ["count", "gates"]:=At.mk' (ck X G a13) l13 c13 k13 (oG (fun _ _ _ _ _ _ _ _=>rfl) rfl)
 have Vt:At K mg "offer" o7 ["waiting", "table", "way"]:=At.mk' (ck X G a14) l14 c14 k14 (Bx (fun _ _ _ _ _ _ _ _ _=>rfl) rfl)
 have Hc:At K mg "first_ways" iK ["gates", "inputs"]:=At.mk' (ck X G a15) l15 c15 k15 (oG (fun _ _ _ _ _ _ _ _=>rfl) rfl)
 have HW:At K mg "ways_from" jf ["found", "table", "gate", "inputs"]:=At.mk' (ck X G a16) l16 c16 k16 (aef (fun _ _ _ _ _ _ _ _ _ _=>rfl) rfl)
 have ZK:At K mg "ways" rQ ["gates", "inputs"]:=At.mk' (ck X G a17) l17 c17 k17 (oG (fun _ _ _ _ _ _ _ _=>rfl) rfl)
 have KJ:At K mg "way_tree" jT ["found", "table"]:=At.mk' (ck X G a18) l18 c18 k18 (oG (fun _ _ _ _ _ _ _ _=>rfl) rfl)
 have VF:At K mg "paper" pC ["gates", "inputs"]:=At.mk' (ck X G a19) l19 c19 k19 (oG (fun _ _ _ _ _ _ _ _=>rfl) rfl)
 have wK:At K mg "least_tree" fJ ["gates", "wish"]:=At.mk' (ck X G a20) l20 c20 k20 (oG (fun _ _ _ _ _ _ _ _=>rfl) rfl)
 have Dz:At K mg "_law_cell_at" gm ["_law_script", "_law_k"]:=At.mk' (ck X G a21) l21 c21 k21 (oG (fun _ _ _ _ _ _ _ _=>rfl) rfl)
 have Iv:At K mg "_law_whole" jn ["_law_found"]:=At.mk' (ck X G a22) l22 c22 k22 (uF (fun _ _ _ _ _ _ _=>rfl) rfl)
 have KR:At K mg "_law_gate" jG ["_law_cell"]:=At.mk' (ck X G a23) l23 c23 k23 (uF (fun _ _ _ _ _ _ _=>rfl) rfl)
 have Hx:At K mg "_law_drawn" jm ["_law_script"]:=At.mk' (ck X G a24) l24 c24 k24 (uF (fun _ _ _ _ _ _ _=>rfl) rfl)
 have Mg:At K mg "_law_put" lJ ["_law_gate_here", "_law_tables", "_law_full"]:=At.mk' (ck X G a25) l25 c25 k25 (Bx (fun _ _ _ _ _ _ _ _ _=>rfl) rfl)
 have Az:At K mg "_law_reckoned" fD ["_law_gates", "_law_inputs", "_law_tree"]:=At.mk' (ck X G a26) l26 c26 k26 (Bx (fun _ _ _ _ _ _ _ _ _=>rfl) rfl)
 have JS:At K mg "_law_told" jN ["_law_gates", "_law_wish"]:=At.mk' (ck X G a27) l27 c27 k27 (oG (fun _ _ _ _ _ _ _ _=>rfl) rfl)
 have lR:=gx X G pZ
 have GR:=gx X G y_bool
 have Kg:=gx X G Kh
 have bV:=gx X G pI
 have gb:=gx X G J7
 have Ff:=gx X G Es
 have uJ:=gx X G Kd
 have bI:=gx X G Ag
 have jL:=gx X G uN
 have yE:=gx X G ye
 have xO:=gx X G JP
 have jl:=gx X G Ad
 have jx:=ck X G jD
 have fM:=ck X G qd
 have pN:=ck X G pJ
 have nj:=ck X G p8
 have ug:=ck X G wy
 have mL:=ck X G n6
 have xF:=ck X G yt
 have tW:=ck X G vI
 have uB:=ck X G wk
 have lD:=ck X G tH
 have jB:=ck X G v9
 have qQ:=ck X G uG
 have e:=hfa.symm.trans (ck X G a28)
 cases e
 refine ⟨b9 "law" "law" (aR oY) (aP oY) (az oY) .none ZD Zu YM ZF Ra Zr,fun s v=>.of_eq rfl,⟨_,ck X G a17,yT⟩,fun base _ _=>?_⟩
 have hT:=R1 (ck X G a17) yT
 have ji:=Gg (P:=l.prog) (w:=w) (base:=base) Ij bI
 have oh:=Ba (P:=l.prog) (w:=w) (base:=base) Dw bI
 have pG:=DP (P:=l.prog) (w:=w) (base:=base) Ey oh
 have xH:=YG (P:=l.prog) (w:=w) (base:=base) aa7
 have rK:=Ho (P:=l.prog) (w:=w) (base:=base) Ih jL
 have oA:=Ab (P:=l.prog) (w:=w) (base:=base) DQ rK xH ji bI
 have m5:=zy (P:=l.prog) (w:=w) (base:=base) BR oA bI
 have wu:=Kc (P:=l.prog) (w:=w) (base:=base) Mi xH ji gb bI
 have xN:=Yn (P:=l.prog) (w:=w) (base:=base) abe wu pG
 have BW:=Qg (P:=l.prog) (w:=w) (base:=base) V5 bI
 have ql:=DR (P:=l.prog) (w:=w) (base:=base) Fj BW xO
 have ur:=HD (P:=l.prog) (w:=w) (base:=base) Lw
 have oE:=Aw (P:=l.prog) (w:=w) (base:=base) Dy ur bI
 have jZ:=uZ (P:=l.prog) (w:=w) (base:=base) xT ql jx ⟨_,rfl⟩ pN ⟨_,rfl⟩
 have mQ:=Tz (P:=l.prog) (w:=w) (base:=base) Vt
 have qp:=Ea (P:=l.prog) (w:=w) (base:=base) Hc m5 mQ xN
 have rE:=Ep (P:=l.prog) (w:=w) (base:=base) HW oE xN xO jl
 have mj:=Wi (P:=l.prog) (w:=w) (base:=base) ZK qp jZ rE mQ gb uJ hT
 have mq:=Ia (P:=l.prog) (w:=w) (base:=base) KJ gb jl
 have BL:=Qp (P:=l.prog) (w:=w) (base:=base) VF mj yE
 have nZ:=Bp (P:=l.prog) (w:=w) (base:=base) wK mj mq fM ⟨_,rfl⟩ lD jB uo vo
 have pD:=DK (P:=l.prog) (w:=w) (base:=base) wK mj mq fM ⟨_,rfl⟩
 have dN:=Ar (P:=l.prog) (w:=w) (base:=base) Dz gb
 have qt:=Gb (P:=l.prog) (w:=w) (base:=base) Iv GR Kg bV
 have qZ:=Iz (P:=l.prog) (w:=w) (base:=base) KR
 have qb:=Hv (P:=l.prog) (w:=w) (base:=base) Hx dN qZ uJ bI
 have ux:=Lf (P:=l.prog) (w:=w) (base:=base) Mg bI
 have mF:=zQ (P:=l.prog) (w:=w) (base:=base) Az qt ux bV gb jL jl
 have rH:=HN (P:=l.prog) (w:=w) (base:=base) JS pD lR bV nj ug mL xF tW uB lD jB qQ lU nD eZ eV dg fG eU eQ dZ fY dz gF fU fX eO fL eY j7 dX fP dH dB dY dM nZ
 exact aas (Hk (st:=oY) l28 c28 k28) qb BL rH mF Ff bI
theorem walk {l:sM}{q:cc}{loose:List Str}{XP:(Str→Option ag)→Heap→Prop}{d:DefRec}{K:Params→af}{as:List Addr}{e:∀P,as=(K P).map (·.1)}{T:Addr} (hn:l.most=some 63) (hdf:d.params.defaults=[])
 (F:∀(w:eK) (mg:Str→Option ag) (fa:Addr) (h:Heap),(K w.params).In h→h.Ns ba mg→mg d.name=some (.ref fa) →
  ∃fd:mm,(∀(s:ar) (u:ag),BindsTo s fd ⟨[u],[]⟩ [("_law_script",u)])∧(∃f,mg "ways" = some (.ref f)∧nU (K w.params) f T=true)∧∀base:Heap,(K w.params).In base→base.Ns ba mg→n8 l.prog w (K w.params) mg base CX0 8 fa fd ["_law_script"] (spF (K w.params) [.bor] .f tR)) :
 PySem.W.WalkO q loose XP (PySem.W.kmHook K as e [T]).says l.row.toRowW d [] (fun f vs=>PySem.call f vs):=
 L2.QJ (n:=63) (k:=8) (x := "_law_script") (CX:=fun _=>CX0) (sp:=fun w=>spF (K w.params) [.bor] .f tR) hn (by decide) hdf ⟨rfl,by decide,by decide⟩ F (fun _ H a ns hl hS=>Lz (main ns hl) hS) fun _ _ _ _ _ z=>z
end Law
open PySem PySem.W PyProof.Rows
theorem PySem.W.Fast.tw8849317693785732704:True:=trivial
theorem PySem.W.Fast.tw12748592564425506984:True:=trivial
theorem PySem.W.Fast.tw15251123335256953253:True:=trivial
theorem PySem.W.Fast.tw5253419669655992913:True:=trivial
theorem PySem.W.Fast.tw11483187590464131081:True:=trivial
theorem PySem.W.Fast.tw1436404224429552126:True:=trivial
theorem PySem.W.Fast.tw5581963413275070142:True:=trivial
theorem PySem.W.Fast.tw5272837084046650371:True:=trivial
theorem PySem.W.Fast.tw7582420003693170888:True:=trivial
theorem PySem.W.Fast.tw7558787570515593717:True:=trivial
theorem PySem.W.Fast.tw5801265361856604300:True:=trivial
theorem PySem.W.Fast.tw3476126198191622901:True:=trivial
theorem PySem.W.Fast.tw15577085163275480651:True:=trivial
theorem PySem.W.Fast.tw8383001310085998489:True:=trivial
theorem PySem.W.Fast.tw16161274280085453113:True:=trivial
theorem PySem.W.Fast.tw9531221881101801845:True:=trivial
theorem PySem.W.Fast.tw10303915316477528184:True:=trivial
theorem PySem.W.Fast.tw3653640780620496053:True:=trivial
theorem PySem.W.Fast.tw15627466633334632708:True:=trivial
theorem PySem.W.Fast.tw14273485322411389141:True:=trivial
theorem PySem.W.Fast.tw12087452580806118956:True:=trivial
theorem PySem.W.Fast.tw12521189369700729783:True:=trivial
theorem PySem.W.Fast.tw9894557407807561309:True:=trivial
theorem PySem.W.Fast.tw5865853666733361520:True:=trivial
theorem PySem.W.Fast.tw12839558488032854488:True:=trivial
theorem PySem.W.Fast.tw2623144858704922272:True:=trivial
theorem PySem.W.Fast.tw826458931402383425:True:=trivial
theorem PySem.W.Fast.tw3477383552769767799:True:=trivial
theorem PySem.W.Fast.tw9291133451090348793:True:=trivial
theorem PySem.W.Fast.tw3857160246850110341:True:=trivial
theorem PySem.W.Fast.tw12161128288703713402:True:=trivial
theorem PySem.W.Fast.tw13673631152910877986:True:=trivial
theorem PySem.W.Fast.tw4558853901205330910:True:=trivial
set_option maxRecDepth 100000 in
set_option maxHeartbeats 0 in
theorem PySem.Challenge.cw_gatekin_k53_least_trees_holds : PySem.Challenge.rw_gatekin_k53_least_trees.Holds := by
 w_on; o_law; k_head; (case hw => w_witness2)
 k_fill
 refine Law.walk (l := PySem.Challenge.rw_gatekin_k53_least_trees) rfl rfl ?F
 case F =>
  intro w mg fa h KX G hmg
  refine' Law.all_mk KX G hmg ?a0 ?l0 ?c0 ?k0 ?a1 ?l1 ?c1 ?k1 ?a2 ?l2 ?c2 ?k2 ?a3 ?l3 ?c3 ?k3 ?a4 ?l4 ?c4 ?k4 ?a5 ?l5 ?c5 ?k5 ?a6 ?l6 ?c6 ?k6 ?a7 ?l7 ?c7 ?k7 ?a8 ?l8 ?c8 ?k8 ?a9 ?l9 ?c9 ?k9 ?a10 ?l10 ?c10 ?k10 ?a11 ?l11 ?c11 ?k11 ?a12 ?l12 ?c12 ?k12 ?a13 ?l13 ?c13 ?k13 ?a14 ?l14 ?c14 ?k14 ?a15 ?l15 ?c15 ?k15 ?a16 ?l16 ?c16 ?k16 ?a17 ?l17 ?c17 ?k17 ?a18 ?l18 ?c18 ?k18 ?a19 ?l19 ?c19 ?k19 ?a20 ?l20 ?c20 ?k20 ?a21 ?l21 ?c21 ?k21 ?a22 ?l22 ?c22 ?k22 ?a23 ?l23 ?c23 ?k23 ?a24 ?l24 ?c24 ?k24 ?a25 ?l25 ?c25 ?k25 ?a26 ?l26 ?c26 ?k26 ?a27 ?l27 ?c27 ?k27 ?a28 ?l28 ?c28 ?k28 ?pZ ?y_bool ?Kh ?pI ?J7 ?Es ?Kd ?Ag ?uN ?ye ?JP ?Ad ?jD ?qd ?pJ ?p8 ?wy ?n6 ?yt ?vI ?wk ?tH ?v9 ?uG ?uo ?vo ?lU ?nD ?eZ ?eV ?dg ?fG ?eU ?eQ ?dZ ?fY ?dz ?gF ?fU ?fX ?eO ?fL ?eY ?j7 ?dX ?fP ?dH ?dB ?dY ?dM ?yT
  (case a0 => k_is)
  (case l0 => k_is)
  (case c0 => k_is)
  (case k0 => k_is)
  (case a1 => k_is)
  (case l1 => k_is)
  (case c1 => k_is)
  (case k1 => k_is)
  (case a2 => k_is)
  (case l2 => k_is)
  (case c2 => k_is)
  (case k2 => k_is)
  (case a3 => k_is)
  (case l3 => k_is)
  (case c3 => k_is)
  (case k3 => k_is)
  (case a4 => k_is)
  (case l4 => k_is)
  (case c4 => k_is)
  (case k4 => k_is)
  (case a5 => k_is)
  (case l5 => k_is)
  (case c5 => k_is)
  (case k5 => k_is)
  (case a6 => k_is)
  (case l6 => k_is)
  (case c6 => k_is)
  (case k6 => k_is)
  (case a7 => k_is)
  (case l7 => k_is)
  (case c7 => k_is)
  (case k7 => k_is)
  (case a8 => k_is)
  (case l8 => k_is)
  (case c8 => k_is)
  (case k8 => k_is)
  (case a9 => k_is)
  (case l9 => k_is)
  (case c9 => k_is)
  (case k9 => k_is)
  (case a10 => k_is)
  (case l10 => k_is)
  (case c10 => k_is)
  (case k10 => k_is)
  (case a11 => k_is)
  (case l11 => k_is)
  (case c11 => k_is)
  (case k11 => k_is)
  (case a12 => k_is)
  (case l12 => k_is)
  (case c12 => k_is)
  (case k12 => k_is)
  (case a13 => k_is)
  (case l13 => k_is)
  (case c13 => k_is)
  (case k13 => k_is)
  (case a14 => k_is)
  (case l14 => k_is)
  (case c14 => k_is)
  (case k14 => k_is)
  (case a15 => k_is)
  (case l15 => k_is)
  (case c15 => k_is)
  (case k15 => k_is)
  (case a16 => k_is)
  (case l16 => k_is)
  (case c16 => k_is)
  (case k16 => k_is)
  (case a17 => k_is)
  (case l17 => k_is)
  (case c17 => k_is)
  (case k17 => k_is)
  (case a18 => k_is)
  (case l18 => k_is)
  (case c18 => k_is)
  (case k18 => k_is)
  (case a19 => k_is)
  (case l19 => k_is)
  (case c19 => k_is)
  (case k19 => k_is)
  (case a20 => k_is)
  (case l20 => k_is)
  (case c20 => k_is)
  (case k20 => k_is)
  (case a21 => k_is)
  (case l21 => k_is)
  (case c21 => k_is)
  (case k21 => k_is)
  (case a22 => k_is)
  (case l22 => k_is)
  (case c22 => k_is)
  (case k22 => k_is)
  (case a23 => k_is)
  (case l23 => k_is)
  (case c23 => k_is)
  (case k23 => k_is)
  (case a24 => k_is)
  (case l24 => k_is)
  (case c24 => k_is)
  (case k24 => k_is)
  (case a25 => k_is)
  (case l25 => k_is)
  (case c25 => k_is)
  (case k25 => k_is)
  (case a26 => k_is)
  (case l26 => k_is)
  (case c26 => k_is)
  (case k26 => k_is)
  (case a27 => k_is)
  (case l27 => k_is)
  (case c27 => k_is)
  (case k27 => k_is)
  (case a28 => k_is)
  (case l28 => k_is)
  (case c28 => k_is)
  (case k28 => k_is)
  (case pZ => k_is)
  (case y_bool => k_is)
  (case Kh => k_is)
  (case pI => k_is)
  (case J7 => k_is)
  (case Es => k_is)
  (case Kd => k_is)
  (case Ag => k_is)
  (case uN => k_is)
  (case ye => k_is)
  (case JP => k_is)
  (case Ad => k_is)
  (case jD => k_is)
  (case qd => k_is)
  (case pJ => k_is)
  (case p8 => k_is)
  (case wy => k_is)
  (case n6 => k_is)
  (case yt => k_is)
  (case vI => k_is)
  (case wk => k_is)
  (case tH => k_is)
  (case v9 => k_is)
  (case uG => k_is)
  (case uo => (show PySem.W.excIn _ _ _ _ = true); k_exc)
  (case vo => (show PySem.W.excIn _ _ _ _ = true); k_exc)
  (case lU => refine L3.Dm L3.zu ?h3; (case h3 => k_is))
  (case nD => refine L3.Dm L3.zu ?h3; (case h3 => k_is))
  (case eZ => exact ⟨Option.isSome_of_eq_some (by k_is), by k_is, by k_is, by k_is⟩)
  (case eV => exact ⟨Option.isSome_of_eq_some (by k_is), by k_is, by k_is⟩)
  (case dg => exact ⟨Option.isSome_of_eq_some (by k_is), by k_is, by k_is⟩)
  (case fG => exact ⟨Option.isSome_of_eq_some (by k_is), by k_is, by k_is⟩)
  (case eU => exact ⟨Option.isSome_of_eq_some (by k_is), by k_is, by k_is⟩)
  (case eQ => exact ⟨Option.isSome_of_eq_some (by k_is), by k_is, by k_is⟩)
  (case dZ => exact ⟨Option.isSome_of_eq_some (by k_is), by k_is, by k_is⟩)
  (case fY => exact ⟨Option.isSome_of_eq_some (by k_is), by k_is, by k_is⟩)
  (case dz => exact ⟨Option.isSome_of_eq_some (by k_is), by k_is, by k_is⟩)
  (case gF => exact ⟨Option.isSome_of_eq_some (by k_is), by k_is, by k_is⟩)
  (case fU => exact ⟨Option.isSome_of_eq_some (by k_is), by k_is, by k_is⟩)
  (case fX => exact ⟨Option.isSome_of_eq_some (by k_is), by k_is, by k_is⟩)
  (case eO => exact ⟨Option.isSome_of_eq_some (by k_is), by k_is, by k_is⟩)
  (case fL => exact L3.t7 (Option.isSome_of_eq_some (by k_is)) (by k_is) (by k_is))
  (case eY => rfl)
  (case j7 => exact ⟨by k_is, by k_is, by k_is, by k_is, by k_is, by k_is, by k_is, Option.isSome_of_eq_some (by k_is)⟩)
  (case dX => exact ⟨Option.isSome_of_eq_some (by k_is), by k_is, by k_is, by k_is⟩)
  (case fP => exact ⟨Option.isSome_of_eq_some (by k_is), by k_is, by k_is, by k_is⟩)
  (case dH => exact L3.t7 (Option.isSome_of_eq_some (by k_is)) (by k_is) (by k_is))
  (case dB => rfl)
  (case dY => exact L3.t7 (Option.isSome_of_eq_some (by k_is)) (by k_is) (by k_is))
  (case dM => rfl)
  (case yT => rfl)
